import PyProof.Rows.All
import Wide.All
import OpenK.AllK
import Wide.FinOn
import Lean
import PyProof.EqAt
import PyProof.EqKinds
import PyProof.TupleCall
import KE.KDictOf
import PyProof.AttrMissHeap
import KE.KSortTup
import PyProof.Rows.InDataRows
import PyProof.AutoListH
import KE.KRevSl
import PyProof.Rows.SetFrom
import PyProof.Rows.SortStr
import KE.KDictLaws
import PyProof.DictWalks
import PyProof.DictItems
import KE.KDictList
import KE.KPairComp
import KE.KLam
import KE.KNestM
import PyProof.ExcClass3
import PyProof.StationsW
import PyProof.RulesTry
import PyProof.Rows.CatchOwn
import OpenK.KCall
import OpenK.KRaise
import PyProof.InstSpecial
import PySem.Challenge.RW_pairedthrows_k46_one_behind_another
set_option Elab.async false
set_option linter.all false
set_option maxRecDepth 100000
open PySem renaming wpAny_bind->aa,wpAny_pure->aj,boot_len->cu,wpAny_mono->dm,wpAny_holding->ej,wpAny_truthy_bool->fe,wpAny_newObj_type->fg,wpAny_field->fi,wpAny_Call_Name_kw->ge,mem_of_lookup->gi,wpAny_callSpecial?_slot->ie,wpAny_call_entry->io,wpAny_seqItems->jg,codeAny_builtin->ji,wpAny_typeNameOfWhole_keyiter->jm,wpAny_passesOwn->jq,wpAny_newFunctionEnv_cells->jy,strLen_append->ke,codeAny_mono->km,wpAny_getItem_str_slice->ku,wpAny_setField_rec->kx,wpAny_pyIter_list->lm,codeAny_call_function->lr,wpAny_setField->lu,wpAny_attempt->mo,wpAny_execs_nil->na,wpAny_pyIter_tuple->nj,tupleKind_room_in1->nq,wpAny_rule->nz,wpAny_call->oh,builtinLookup_eq_fast->pf,post_val_or_str->qf,codeAny_call_builtin->qg,sizeLine_eq->qx,wpAny_standAt->rg,plainId_quiet->rh,wpAny_onRaise->se,wpAny_dictEntries->su,wpAny_execs_cons->tm,codeAny_func->ua,noFill_tuple_add->uc,wpAny_typeOf->ud,wpAny_getItem_list_slice->ue,wpAny_comprehension_free->ug,wpAny_isInstance->uh,entryFor_of_tree->um,wpAny_specialOf->va,typeLookup_type->vf,wpAny_dictEpoch->vh,wpAny_pyNext_list_item->vi,wpAny_getItem_list_neg->vn,wpAny_isTrue_Compare1->vp,wpAny_bindName->vq,wpAny_pyNext_list_end->vt,isSubtype_type->vw,wpAny_notOrdered_dict->vz,wpAny_isOneOf_keyiter->wb,wpAny_loadName_local->wk,call_meets->wn,wpAny_newFunctionEnv->wp,wpAny_updateSeq_pair->wq,wpAny_pyIter_keyiter->wt,wpAny_pyIter_revIter->wu,seq_tuple_add->xa,evalPart_none->xb,wpAny_loadName_cell->xg,call_meetsIn->xw,concat_meets->xx,seqIndex_neg->yb,call_reversed_list->yc,wpAny_assign_Name->ym,wpAny_Call_method->yr,wpAny_pyIter_dict->yu,wpAny_storeSet_of->yw,fits_of_scanBound->yx,seqIndex_of->zc,wpAny_letGo->zd,wpAny_of_eq->ze,wpAny_pyIter_zip->zg,check_set_init_1->zk,wpAny_Name->zo,typeIs_str->zp
local macro_rules|`(tactic|decide)=>`(tactic|decide +kernel)
local macro_rules|`(def $i:declId $s:optDeclSig $v:declVal)=>`(noncomputable def $i:declId $s:optDeclSig $v:declVal)
set_option compiler.extract_closed false
noncomputable section
open List renaming length_map->ac,mem_cons_of_mem->ak,length_append->ao,mem_cons_self->aq,map_append->au,getElem?_eq_getElem->bc,getElem?_eq_some_iff->bf,mem_append_right->bh,size_toArray->bn,mem_append->bp,mem_of_getElem?->bq,mem_cons->bu,mem_append_left->bv,length_cons->bz,mem_singleton->cg,length_take->ci,take_length->cm,getElem?_map->cq,nodup_cons->cy,reverse_cons->db,mem_map->dh,filter_cons_of_pos->di,take_of_length_le->dk,mem_filter->dr,length_reverse->du,not_mem_nil->dv,filterMap_append->dw,filter_cons_of_neg->ef,map_cons->ek,filter_append->fk,length_filterMap_le->gp,append_nil->gz,filterMap_cons_none->ip,dropLast_concat->iy,length_eq_zero_iff->ja,any_eq_true->jc,mem_flatMap->jd,mem_range->je,mem_filterMap->jf,nodup_append->jk,mem_map_of_mem->jn,of_mem_zip->jr,length_singleton->js,foldl_cons->jt,length_filter_le->jv,getElem?_append_right->jx,all_eq_true->ko,map_map->kq,append_assoc->lq,take_append_drop->ly,length_drop->me,any_cons->mi,filterMap_cons->my,getElem?_zip_eq_some->ng,filterMap_cons_some->ny,nodup_nil->oj,find?_isSome->oq,getElem?_set_self->ou,map_reverse->pd,getElem?_set_ne->pi,length_nil->pw,mem_of_mem_take->qm,getElem_of_mem->qt,take_succ->qv,nodup_iff_pairwise_ne->sf,getD_eq_getElem?_getD->si,map_take->sk,flatMap_cons->sv,getElem?_append_left->sy,getElem_inj->tj,getElem?_take_of_lt->tu,cons_append->ub,getElem_mem->uj,append_cancel_right->uo,length_set->vb,forIn_cons->vd,length_replicate->vv,getElem?_reverse->vx,getElem?_eq_none->vy,mem_iff_getElem?->we,length_dropLast->wo,pairwise_append->wv,range_eq_range'->ww,all_cons->xc,flatMap_append->xj,map_congr_left->xk,reverse_append->xo,map_nil->xu,pairwise_cons->yg,zip_cons_cons->yj,foldl_append->yv,pairwise_map->yy,length_range->za,ext_getElem->zn
open PySem.Heap renaming get?_push_of_some->ae,lt_size->ay,get?_push_size->bb,get?_update_ne->eh,get?_update_self->ik,size_push->kj,get?_update_other->oy,get?_none_of_le->wj
open Nat renaming le_refl->ah,zero_le->bt,ne_of_lt->bw,lt_of_lt_of_le->bx,le_of_lt->cj,le_trans->cp,lt_of_le_of_lt->dj,lt_succ_self->fc,sub_lt_sub_left->fq,lt_irrefl->fw,le_succ->gg,ne_of_gt->jp,min_eq_left->jw,lt_succ_of_lt->kh,not_lt->mh,le_succ_of_le->ot,le_add_right->oz,mul_le_mul_right->qo,min_eq_right->uu,sub_self->ye,succ_mul->yk
open Bool renaming false_ne_true->bj,eq_iff_iff->ii,and_eq_true->mf,true_and->sg,eq_false_iff->sw,or_eq_true->vg,false_or->wy
open PySem.F renaming plainAttrs_list->bo,slot_list_append->de,type_list_append->df,slot_list_pop->gq,type_list_pop->gy,slot_list_extend->ir,type_list_extend->iu,slot_dict_keyiterator_next->jo,slot_tuple_iterator_next->jz,args_tuple_add_2->nt,entry_tuple_add->om,slot_tuple_add->ow,slot_dict_get->pe,slot_zip_next->qd,args_dict_keyiterator_next_1->qh,args_tuple_iterator_next_1->qu,slot_dict_setdefault->qw,entry_tuple_iterator_next->qz,excBase_ValueError->sj,args_dict_get_3->ux,plainAttrs_dict->uy,entry_dict_get->vk,args_zip_next_1->yt,entry_zip_next->zf,typeCall_set_1->zh,entry_set_init->zj,slot_dict_iter->zm
open Option.some renaming inj->dg
open PyProof.Rows renaming boot_tuple->dq,boot_isinstance->dy,callWith_type1->ia,boot_list->ig,boot_all->ma,boot_int->md,slot_tuple_getitem->ph,assignInOrder_cons->qy,boot_reversed->rj,subscriptTail_builtinR->vm,boot_dict->vo,boot_max->wf,boot_set->wg,Subscript_->wm,assignInOrder_nil->yn
open Array renaming length_toList->eo,getElem?_toList->gm,getElem?_eq_some_iff->mq,getElem?_eq_getElem->nh,toArray_toList->qc,toList_inj->uq,toList_append->xm,find?_toList->xt,append_empty->yh
open Or renaming inl->fj,inr->mj
open PySem.W renaming kia_one->fm,cellsFrom_some->ut,cellsFrom_some->vj,looks_findIn->wx,codeRec_of->yi,kitx_list->yo,kitx_dict->yq
open Int renaming eq_ofNat_of_zero_le->fu,toNat_natCast->jb,emod_nonneg->kz,emod_lt_of_pos->lg,le_refl->mw,toNat_of_nonneg->mz,mul_le_mul_of_nonneg_right->qj,mul_le_mul_of_nonneg_left->qp,fdiv_eq_ediv_of_nonneg->rn,natCast_dvd_natCast->uz,ediv_mul_cancel->xh,le_of_lt->yd,pow_succ->yf
open PySem.Paired renaming length->gj
open PySem.Obj renaming data_mapFields->ib,isFreed_of_fields->ju,cls_mapFields->sr
open PySem.Calls renaming spliced_cons->im,spliced_nil->kg,callWith_builtin->ll,evalArgs_plain->pz,Name_function_global->re
open Option renaming bind_some->iq,isSome_iff_exists->jh,map_eq_some_iff->lh,isSome_map->oo,map_some->pq
open True renaming intro->iw
open PyProof.Rows.F renaming plain_set_update_loop->iz,entry_set_update_loop->kw
open PySem.PassesOwn renaming never->jj
open PySem.Around renaming under_plainId->ki,frames_deeper->pp
open PySem.Heap.SameBut renaming update->kr
open PySem.Txt renaming slice_le->nv
open PySem.Code renaming quiet_builtin->rc
open List.Pairwise renaming nil->sq
open PyProof renaming noPylong_of_log2->ui
open PySem.SeqAt.EqAt renaming same->vc,int_str->xp,str_int->xq
open PySem.Walks renaming listRev->xf,list->zq
open PySem.SeqAt.RcNeAt renaming tuples->xi
open LawfulBEq renaming eq_of_beq->xy
open PySem.Heap.IsSliceOf renaming new->ya
open PySem.SeqAt.RcAt renaming tuples->yz
open PySem.StrLaws renaming found_one->zb
namespace L2
theorem Rq0(_:True:=by rfl):True:=trivial
theorem Rq1(_:True:=by decide):True:=trivial
theorem Rq2(_:True:=by intros;rfl):True:=trivial
theorem Rq3(_:True:=by first|exact .inl rfl|exact .inr rfl|assumption):True:=trivial
theorem Rq4(_:True:=by intro _;rfl):True:=trivial
theorem Rq5(_:True:=by refine⟨rfl,rfl,rfl,?_,rfl,?_,?_⟩<;>decide):True:=trivial
theorem Rq6(_:True:=by first|decide|lia):True:=trivial
theorem Rq7(_:True:=by first|exact fj rfl|exact mj (fj rfl)|exact mj (mj rfl)):True:=trivial
theorem Rq8(_:True:=by first|exact fj rfl|exact mj rfl):True:=trivial
theorem Rq9(_:True:=by with_unfolding_all rfl):True:=trivial
theorem Rq10(_:True:=by exact fun _ _=>rfl):True:=trivial
theorem Rq11(_:True:=by first|exact nX _|rfl):True:=trivial
theorem Rq12(_:True:=by first|exact xP _ (by decide) (by decide)|rfl):True:=trivial
end L2
namespace L2
open PySem PySem.Spec PyProof.Rows
def af:=@decide_eq_true
def ag:=@of_decide_eq_true
def av:=@if_neg
def ba:=@decide_eq_false
def bg:=@if_pos
def dz:=@congrArg
def fh:=@decide_eq_true_eq
def mx:=@beq_eq_false_iff_ne
def uw:=@decide_eq_decide
end L2
namespace L2
open PySem PySem.Spec PyProof.Rows
abbrev Key:=Sum Int Str
def iQ:Key->Value->Bool
 |.inl k,v=>Value.isInt k v
 |.inr x,v=>Value.isStrOf x v
def cB3(w:World):Key->Int
 |.inl k=>hashInt k
 |.inr x=>hashStr w x
theorem cN:∀{k:Key}{v:Value},iQ k v=true->(∃i t,k=Sum.inl i/\v=Value.int i t)\/(∃x t,k=Sum.inr x/\v=Value.str x t)
 |.inl i,v,h=>by
  obtain⟨t,e⟩:=Value.isInt_shape (k:=i) (v:=v) h
  exact .inl ⟨i,t,rfl,e⟩
 |.inr x,v,h=>by
  obtain⟨t,e⟩:=Value.isStrOf_shape (x:=x) (v:=v) h
  exact .inr ⟨x,t,rfl,e⟩
theorem kZ(i:Int)(t:Tok):iQ (.inl i) (.int i t)=true:=by simp[iQ,Value.isInt]
theorem gD(x:Str)(t:Tok):iQ (.inr x) (.str x t)=true:=by simp[iQ,Value.isStrOf]
theorem bL8(a b:Int):decide ((Sum.inl a:Key)=Sum.inl b)=(a==b):=by
 by_cases e:a=b
 ·subst e;simp
 ·have h:¬(Sum.inl a:Key)=Sum.inl b:=fun q=>e (Sum.inl.inj q)
  rw[ba h]
  exact(mx.mpr e).symm
theorem bO4(a b:Str):decide ((Sum.inr a:Key)=Sum.inr b)=decide (a=b):=by
 by_cases e:a=b
 ·subst e;simp
 ·have h:¬(Sum.inr a:Key)=Sum.inr b:=fun q=>e (Sum.inr.inj q)
  rw[ba h,ba e]
theorem bP8(a:Int)(b:Str):decide ((Sum.inl a:Key)=Sum.inr b)=false:=ba (fun q=>nomatch q)
theorem bP5(a:Str)(b:Int):decide ((Sum.inr a:Key)=Sum.inl b)=false:=ba (fun q=>nomatch q)
def aW(prog:Program)(w:World):PySem.KeyKind prog w Key where
 is:=iQ
 hash:=cB3 w
 inj:=fun v a b ha hb=>by
  rcases cN ha with⟨i,t,rfl,rfl⟩|⟨x,t,rfl,rfl⟩
  ·rcases cN hb with⟨j,u,rfl,e⟩|⟨y,u,rfl,e⟩
   ·injection e with e1 _;rw[e1]
   ·exact nomatch e
  ·rcases cN hb with⟨j,u,rfl,e⟩|⟨y,u,rfl,e⟩
   ·exact nomatch e
   ·injection e with e1 _;rw[e1]
 byValue:=fun k v h=>by
  rcases cN h with⟨i,t,rfl,rfl⟩|⟨x,t,rfl,rfl⟩<;>rfl
 pyHash:=fun hv h=>by
  rcases cN hv with⟨i,t,rfl,rfl⟩|⟨x,t,rfl,rfl⟩
  ·exact wpAny_pyHash_int h
  ·exact wpAny_pyHash_str h
 eqBool:=fun hu hv h=>by
  rcases cN hu with⟨i,t,rfl,rfl⟩|⟨x,t,rfl,rfl⟩
  ·rcases cN hv with⟨j,u,rfl,rfl⟩|⟨y,u,rfl,rfl⟩
   ·rw[bL8] at h;exact wpAny_eqBool_int h
   ·rw[bP8] at h;exact xp i t y u _ _ _ _ h
  ·rcases cN hv with⟨j,u,rfl,rfl⟩|⟨y,u,rfl,rfl⟩
   ·rw[bP5] at h;exact xq x t j u _ _ _ _ h
   ·rw[bO4] at h;exact wpAny_eqBool_str h
 «strs» :=fun k x t v h=>by
  rcases cN h with⟨i,u,rfl,e⟩|⟨y,u,rfl,e⟩
  ·exact nomatch e
  ·injection e with e1 _
   subst e1
   cases v<;>rfl
theorem xC(prog:Program)(w:World)(i:Int)(t:Tok):(aW prog w).is (.inl i) (.int i t)=true:=kZ i t
theorem xO(prog:Program)(w:World)(x:Str)(t:Tok):(aW prog w).is (.inr x) (.str x t)=true:=gD x t
inductive V where
 |non|bl (b:Bool)|int (i:Int)|str (x:Str)|byt (b:Array UInt8)|flt (b:UInt64)|ref (a:Addr)|ty (n:String)
 deriving DecidableEq
def bJ:V->Value->Prop
 |.non,u=>u=Value.none
 |.bl b,u=>u=Value.bool b
 |.int i,u=>∃t,u=Value.int i t
 |.str x,u=>∃t,u=Value.str x t
 |.byt b,u=>∃t,u=Value.bytes b t
 |.flt b,u=>∃t,u=Value.float b t
 |.ref a,u=>u=Value.ref a
 |.ty n,u=>u=Value.type n
abbrev bI:List V->List Value->Prop:=Paired bJ
theorem bI.length{xs:List V}{us:List Value}(r:bI xs us):xs.length=us.length:=gj r
theorem bI.get:∀{xs:List V}{us:List Value}{i:Nat}{x:V},bI xs us->xs[i]?=some x->∃u,us[i]?=some u/\bJ x u
 |_,_,_,_,.nil,e=>by simp at e
 |_,_,0,_,.cons r _,e=>by simp at e;subst e;exact⟨_,rfl,r⟩
 |_,_,i+1,x,.cons _ t,e=>by
  obtain⟨u,h1,h2⟩:=bI.get (i:=i) (x:=x) t (by simpa using e)
  exact⟨u,by simpa using h1,h2⟩
theorem bI.set{x:V}{u:Value}(r:bJ x u):∀{xs:List V}{us:List Value}(i:Nat),bI xs us->bI (xs.set i x) (us.set i u)
 |_,_,_,.nil=> .nil
 |_,_,0,.cons _ t=> .cons r t
 |_,_,i+1,.cons q t=> .cons q (bI.set r i t)
theorem bI.append:∀{xs ys:List V}{us ws:List Value},bI xs us->bI ys ws->bI (xs++ys) (us++ws)
 |_,_,_,_,.nil,s=>s
 |_,_,_,_,.cons r t,s=> .cons r (bI.append t s)
theorem bI.take:∀{xs:List V}{us:List Value}(n:Nat),bI xs us->bI (xs.take n) (us.take n)
 |_,_,0,_=> .nil
 |_,_,_+1,.nil=> .nil
 |_,_,n+1,.cons r t=> .cons r (bI.take n t)
theorem bI.drop:∀{xs:List V}{us:List Value}(n:Nat),bI xs us->bI (xs.drop n) (us.drop n)
 |_,_,0,r=>r
 |_,_,_+1,.nil=> .nil
 |_,_,n+1,.cons _ t=>bI.drop n t
def iX:Option V->Option Value->Prop
 |some v,some u=>bJ v u
 |none,none=>True
 |_,_=>False
def KV{κ:Type}:List (κ×V)->List (κ×Value)->Prop:=Paired fun(p:κ×V) (q:κ×Value)=>p.1=q.1/\bJ p.2 q.2
def kV:Key->V
 |.inl i=> .int i
 |.inr x=> .str x
inductive HO where
 |lst (xs:List V)
 |tup (xs:List V)
 |dK (kvs:List (Key×V))|dT (kvs:List (List Key×V))
 |set (S:Int->Bool) (n:Nat)
 |ins (C dx:Addr) (fs:List (Str×V))
 |own (x:Addr)
 |xd (fs:List (Str×V))
 |met (f x:Addr)
 |rng (lo hi:Int)
 |frz (o:Obj) (u:HO)
 |tbl (ps:Array Value)
 |ext (φ:Heap->Prop)
abbrev Hp:=Addr->Option HO
def aN(H:Hp)(a:Addr)(o:HO):Hp:=fun b=>if b=a then some o else H b
theorem aC{H:Hp}{a:Addr}{o:HO}:aN H a o a=some o:=by unfold aN;rw[bg rfl]
theorem aH{H:Hp}{a b:Addr}{o:HO}(h:b≠a):aN H a o b=H b:=by unfold aN;rw[av h]
theorem aE8{H:Hp}{a:Addr}{o u:HO}:aN (aN H a o) a u=aN H a u:=by
 funext b;unfold aN;split<;>rfl
theorem iM{H:Hp}{a b:Addr}{o u:HO}(h:H a=some o)(h':H b=some u)(d:o≠u):a≠b:=by
 intro e;subst e;rw[h] at h';exact d (dg h')
theorem aI{H:Hp}{a b:Addr}{o:HO}(h:H a=some o)(h':H b=none):a≠b:=by
 intro e;subst e;rw[h] at h';cases h'
def kL(h:Heap)(a:Addr)(its:Array Value):Prop:=∃o,h.get? a=some o/\o.cls= .type "tuple"/\∃n,o.data= .seq its n/\o.dict=none
theorem kL.is{h:Heap}{a:Addr}{its:Array Value}(x:kL h a its):IsTup h a its:=by obtain⟨o,e,c,n,d,_⟩:=x;exact⟨o,e,c,n,d⟩
theorem kL.new(h:Heap)(its:Array Value):kL (h.push { cls:= .type "tuple",data:= .seq its }) h.objs.size its:=⟨_,bb _ rfl,rfl,_,rfl,rfl⟩
section
variable (P:Program) (w:World)
def bU(H:Hp)(h:Heap)(a:Addr):HO->Prop
 |.lst xs=>xs.length<=sizeLine/\∃(its:List Value) (n:Nat),bI xs its/\h.get? a=some { cls:= .type "list",data:= .seq its.toArray n }
 |.tup xs=>xs.length<=sizeLine/\∃its:List Value,bI xs its/\kL h a its.toArray
 |.dK kvs=>kvs.length<=sizeLine/\(a==sysModules)=false/\∃vs,KV kvs vs/\h.DictOf (aW P w) a vs
 |.dT kvs=>kvs.length<=sizeLine/\(a==sysModules)=false/\∃xs:List (List Key×Addr×Value),
   Paired (fun(p:List Key×V) (q:List Key×Addr×Value)=>p.1=q.1/\H q.2.1=some (.tup (p.1.map kV))/\bJ p.2 q.2.2) kvs xs /\
   ∃o es ep,h.get? a=some o/\o.ExactDict/\o.data= .dict es ep/\es.toList=xs.map (entryOfKey (tupleKind (aW P w)))/\(xs.map (·.1)).Nodup
 |.set S n=>h.SetOf (intKind P w) a S n
 |.ins C dx fs=>H dx=some (.own a)/\fs.length<=1000/\dx≠a/\h.get? a=some (PySem.W.instObj C dx) /\
   ∃mA,h.Ns1 dx mA/\(∀f,iX (fs.lookup f) (mA f))/\PySem.Within mA (fs.map (·.1))
 |.own _=>∃o,h.get? a=some o
 |.xd fs=>∃mA,h.Ns1 a mA/\∀f,iX (fs.lookup f) (mA f)
 |.rng lo hi=>∃t u v,h.get? a=some { cls:= .type "range",data:= .fields #[.int lo t,.int hi u,.int 1 v] }
 |.frz o u=>h.get? a=some o/\bU H h a u
 |.tbl ps=>h.get? a=some { cls:= .none,data:= .fields ps }
 |.met f x=>h.get? a=some (PySem.W.methodObj (.ref f) (.ref x))
 |.ext φ=>φ h/\(∃o,h.get? a=some o)/\∀h1 h2:Heap,φ h1->(∀o,h1.get? a=some o->h2.get? a=some o)->φ h2
def jH(H:Hp)(h:Heap):Prop:=∀a o,H a=some o->bU P w H h a o
end
section
variable {P:Program}{w:World}{H H':Hp}{h h':Heap}{a:Addr}{o:HO}
theorem bU.lt(x:bU P w H h a o):a<h.objs.size:=by
 cases o with
 |lst xs=>obtain⟨_,_,_,_,e⟩:=x;exact ay e
 |tup xs=>obtain⟨_,_,_,p⟩:=x;exact p.is.lt
 |dK kvs=>obtain⟨_,_,_,_,o,_,_,e,_⟩:=x;exact ay e
 |dT kvs=>obtain⟨_,_,_,_,o,_,_,e,_⟩:=x;exact ay e
 |set S n=>obtain⟨o,_,_,_,e,_⟩:=x;exact ay e
 |ins C dx fs=>obtain⟨_,_,_,e,_⟩:=x;exact ay e
 |own y=>obtain⟨_,e⟩:=x;exact ay e
 |xd fs=>obtain⟨_,⟨_,_,_,e,_⟩,_⟩:=x;exact ay e
 |rng lo hi=>obtain⟨_,_,_,e⟩:=x;exact ay e
 |frz ob u=>obtain⟨e,_⟩:=x;exact ay e
 |tbl ps=>exact ay (show h.get? a=some _ from x)
 |met f y=>exact ay (show h.get? a=some _ from x)
 |ext φ=>obtain⟨_,⟨_,e⟩,_⟩:=x;exact ay e
theorem Paired.mapP{α β:Type}{F G:α->β->Prop}:∀{l₁:List α}{l₂:List β},Paired F l₁ l₂->(∀a b,F a b->G a b)->Paired G l₁ l₂
 |_,_,.nil,_=> .nil
 |_,_,.cons r t,f=> .cons (f _ _ r) (Paired.mapP t f)
theorem bU.stay(x:bU P w H h a o)(k:∀b u,(b=a\/H b=some (.own a))->h.get? b=some u->h'.get? b=some u)
  (ho:∀b,H b=some (.own a)->H' b=some (.own a)) (ht:∀b xs,H b=some (.tup xs)->H' b=some (.tup xs)):bU P w H' h' a o:=by
 induction o with
 |lst xs=>obtain⟨z,its,n,r,e⟩:=x;exact⟨z,its,n,r,k _ _ (.inl rfl) e⟩
 |tup xs=>obtain⟨z,its,r,ob,e,c⟩:=x;exact⟨z,its,r,ob,k _ _ (.inl rfl) e,c⟩
 |dK kvs=>obtain⟨z,y,vs,r,ob,es,ep,e,c⟩:=x;exact⟨z,y,vs,r,ob,es,ep,k _ _ (.inl rfl) e,c⟩
 |dT kvs =>
  obtain⟨z,y,xs,r,ob,es,ep,e,c⟩:=x
  exact⟨z,y,xs,Paired.mapP r fun p q z=>⟨z.1,ht _ _ z.2.1,z.2.2⟩,ob,es,ep,k _ _ (.inl rfl) e,c⟩
 |set S n=>obtain⟨ob,es,ep,t,e,c⟩:=x;exact⟨ob,es,ep,t,k _ _ (.inl rfl) e,c⟩
 |ins C dx fs =>
  obtain⟨d,z,ne,e,mA,⟨od,es,ep,e2,c⟩,r⟩:=x
  exact⟨ho _ d,z,ne,k _ _ (.inl rfl) e,mA,⟨od,es,ep,k _ _ (.inr d) e2,c⟩,r⟩
 |own y=>obtain⟨ob,e⟩:=x;exact⟨ob,k _ _ (.inl rfl) e⟩
 |xd fs=>obtain⟨mA,⟨od,es,ep,e,c⟩,r⟩:=x;exact⟨mA,⟨od,es,ep,k _ _ (.inl rfl) e,c⟩,r⟩
 |rng lo hi=>obtain⟨t,u,v,e⟩:=x;exact⟨t,u,v,k _ _ (.inl rfl) e⟩
 |frz ob u ih=>obtain⟨e,q⟩:=x;exact⟨k _ _ (.inl rfl) e,ih q⟩
 |tbl ps =>
  have e:h.get? a=some { cls:= .none,data:= .fields ps }:=x
  show h'.get? a=some { cls:= .none,data:= .fields ps }
  exact k a _ (.inl rfl) e
 |met f y =>
  have e:h.get? a=some (PySem.W.methodObj (.ref f) (.ref y)):=x
  show h'.get? a=some (PySem.W.methodObj (.ref f) (.ref y))
  exact k a _ (.inl rfl) e
 |ext φ=>obtain⟨p,⟨o,e⟩,st⟩:=x;exact⟨st _ _ p fun o q=>k _ _ (.inl rfl) q,⟨o,k _ _ (.inl rfl) e⟩,st⟩
theorem jH.lt(x:jH P w H h)(e:H a=some o):a<h.objs.size:=(x a o e).lt
theorem jH.fresh(x:jH P w H h)(e:h.objs.size<=a):H a=none:=by
 cases q:H a with
 |none=>rfl
 |some u=>exact absurd (bx (x.lt q) e) (fw _)
theorem jH.kept(x:jH P w H h)(k:∀b u,h.get? b=some u->h'.get? b=some u):jH P w H h':=fun a o e =>
 (x a o e).stay (fun b u _ q=>k b u q) (fun _ q=>q) fun _ _ q=>q
theorem jH.laid(x:jH P w H h)(k:∀b u,h.get? b=some u->h'.get? b=some u)(hp:h.objs.size<=a)(new:bU P w (aN H a o) h' a o):jH P w (aN H a o) h':=fun b u e=>by
 have hn:=x.fresh hp
 by_cases hb:b=a
 ·subst hb;rw[aC] at e;cases e;exact new
 ·rw[aH hb] at e
  exact(x b u e).stay (fun c v _ q=>k c v q) (fun c q=>by rw[aH (aI q hn)];exact q) fun c xs q=>by rw[aH (aI q hn)];exact q
end
def Rd(H:Hp)(a:Addr)(u:HO):Prop:=H a=some u\/∃o,H a=some (.frz o u)
theorem Rd.ok{P:Program}{w:World}{H:Hp}{h:Heap}{a:Addr}{u:HO}(r:Rd H a u)(x:jH P w H h):bU P w H h a u:=by
 rcases r with r|⟨o,r⟩
 ·exact x a u r
 ·obtain⟨_,q⟩:=x a _ r
  exact q
def Mut:Option HO->Prop
 |some (.lst _)=>True
 |some (.dK _)=>True
 |some (.dT _)=>True
 |some (.set _ _)=>True
 |some (.ins _ _ _)=>True
 |some (.ext _)=>True
 |_=>False
section
variable {P:Program}{w:World}{H:Hp}{h h':Heap}{x e:Addr}{o':HO}
theorem jH.write(ok:jH P w H h)(mu:Mut (H x))(he:e=x\/H e=some (.own x))(k:∀b u,b≠e->h.get? b=some u->h'.get? b=some u)(heo:∃u,h'.get? e=some u)
  (new:bU P w (aN H x o') h' x o'):jH P w (aN H x o') h':=fun b u q=>by
 have nown:∀c y,H c=some (.own y)->c≠x:=fun c y r z=>by subst z;rw[r] at mu;exact mu
 have ntup:∀c xs,H c=some (.tup xs)->c≠x:=fun c xs r z=>by subst z;rw[r] at mu;exact mu
 by_cases hb:b=x
 ·subst hb;rw[aC] at q;cases q;exact new
 ·rw[aH hb] at q
  by_cases hbe:b=e
  ·have q':H b=some (.own x):=by
    rcases he with z|z
    ·exact absurd (hbe.trans z) hb
    ·rw[hbe];exact z
   rw[q] at q';cases q'
   obtain⟨v,hv⟩:=heo
   exact⟨v,by rw[hbe];exact hv⟩
  ·refine(ok b u q).stay (fun c v hc r=>k c v ?_ r) (fun c r=>by rw[aH (nown c b r)];exact r) fun c xs r=>by rw[aH (ntup c xs r)];exact r
   rcases hc with rfl|hc
   ·exact hbe
   ·rintro rfl
    rcases he with z|z
    ·exact nown c b hc z
    ·rw[hc] at z;cases z;exact hb rfl
end
structure Un(fs ex:List Addr)(H H':Hp)(h h':Heap):Prop where
 keep:∀b o,h.get? b=some o->H b=none->b∉fs->b∉ex->h'.get? b=some o
 slot:∀b o,h.get? b=some o->H b=none->b∈fs->b∉ex->∃sl,h'.get? b=some { o with slots:=sl }
 free:∀b o,h.get? b=some o->H b=none->b∉ex->H' b=none
 there:∀b o,h.get? b=some o->b∉ex->∃o',h'.get? b=some o'
 tups:∀b xs,H b=some (.tup xs)->H' b=some (.tup xs)
 frzs:∀b o u,H b=some (.frz o u)->H' b=some (.frz o u)
 tbls:∀b ps,H b=some (.tbl ps)->∃more,H' b=some (.tbl (ps++more))
section
variable {fs fs' ex ex':List Addr}{H H1 H2:Hp}{h h1 h2 h':Heap}{a x e:Addr}{o:HO}
theorem Un.any(u:Un fs ex H H1 h h1){b:Addr}{ob:Obj}(q:h.get? b=some ob)(n:H b=none)(hx:b∉ex):∃sl,h1.get? b=some { ob with slots:=sl }:=by
 by_cases hb:b∈fs
 ·exact u.slot b ob q n hb hx
 ·exact⟨ob.slots,u.keep b ob q n hb hx⟩
theorem Un.kept(k:∀b u,h.get? b=some u->h'.get? b=some u):Un fs ex H H h h':=
 ⟨fun b ob q _ _ _=>k b ob q,fun b ob q _ _ _=>⟨ob.slots,k b ob q⟩,fun _ _ _ n _=>n,fun b ob q _=>⟨ob,k b ob q⟩,fun _ _ q=>q,fun _ _ _ q=>q,fun _ ps q=>⟨#[],by rw[q];simp⟩⟩
theorem Un.refl:Un fs ex H H h h:=Un.kept fun _ _ q=>q
theorem Un.laid(k:∀b u,h.get? b=some u->h'.get? b=some u)(hp:h.objs.size<=a)(hn:H a=none):Un fs ex H (aN H a o) h h' where
 keep:=fun b u q _ _ _=>k b u q
 slot:=fun b u q _ _ _=>⟨u.slots,k b u q⟩
 free:=fun b u q n _=>by rw[aH (bw (bx (ay q) hp))];exact n
 there:=fun b u q _=>⟨u,k b u q⟩
 tups:=fun b xs q=>by rw[aH (aI q hn)];exact q
 frzs:=fun b u xs q=>by rw[aH (aI q hn)];exact q
 tbls:=fun b ps q=>⟨#[],by rw[aH (aI q hn),q];simp⟩
theorem Un.write(mu:Mut (H x))(he:e=x\/H e=some (.own x))(k:∀b u,b≠e->h.get? b=some u->h'.get? b=some u)(heo:∃u,h'.get? e=some u):Un fs ex H (aN H x o) h h':=by
 have hx:∀b,H b=none->b≠x:=fun b n z=>by subst z;rw[n] at mu;exact mu
 have hb:∀b,H b=none->b≠e:=fun b n z=>by
  subst z
  rcases he with r|r
  ·exact hx b n r
  ·rw[n] at r;cases r
 have hm:∀b u,H b=some u->¬Mut (some u)->b≠x:=fun b u q nm z=>by subst z;rw[q] at mu;exact nm mu
 refine⟨fun b u q n _ _=>k b u (hb b n) q,fun b u q n _ _=>⟨u.slots,k b u (hb b n) q⟩,fun b u q n _=>by rw[aH (hx b n)];exact n,fun b u q _=>?_,
  fun b xs q=>by rw[aH (hm b _ q fun z=>z)];exact q,fun b u xs q=>by rw[aH (hm b _ q fun z=>z)];exact q,fun b ps q=>⟨#[],by rw[aH (hm b _ q fun z=>z),q];simp⟩⟩
 by_cases hbe:b=e
 ·subst hbe;exact heo
 ·exact⟨u,k b u hbe q⟩
end
def trk(h:Heap)(H:Hp):List Addr:=(List.range h.objs.size).filter fun a=>(H a).isSome
def sO(h:Heap)(H:Hp):Heap:=PySem.W.hideAll h (trk h H)
theorem aG4(h:Heap)(H:Hp):(sO h H).objs.size=h.objs.size:=PySem.W.hideAll_size _ _
theorem aQ2{h:Heap}{H:Hp}{b:Addr}{o:Obj}(e:h.get? b=some o)(n:H b=none):(sO h H).get? b=some o:=
 PySem.W.hideAll_get _ e fun hm=>by
  have q:(H b).isSome=true:=(dr.mp hm).2
  rw[n] at q;simp at q
theorem bD3{h:Heap}{H:Hp}{b:Addr}{o:Obj}(e:(sO h H).get? b=some o):h.get? b=some o/\H b=none:=by
 have e':h.get? b=some o:=PySem.W.of_hideAll (trk h H) e
 refine⟨e',?_⟩
 cases q:H b with
 |none=>rfl
 |some x =>
  have hm:b∈trk h H:=dr.mpr ⟨je.mpr (ay e'),by simp[q]⟩
  have z:(sO h H).get? b=none:=PySem.W.hideAll_none (trk h H) hm
  rw[z] at e;cases e
def aZ6(g h:Heap)(L:Addr):List (Addr×Obj):=(List.range h.objs.size).filterMap fun a=>if a=L\/(g.get? a).isSome=true then none else (h.get? a).map fun o=>(a,o)
def bM(g h:Heap)(L d:Addr):List (Addr×Obj):=(aZ6 g h L).filter fun p=>decide (p.1≠d)
structure Mod(K:PySem.W.Frag)(mg:Str->Option Value)(base:Heap):Prop where
 kin:K.In base
 glob:base.Ns mainGlobals mg
 blt:∃mb,base.Ns builtinsNs mb/\∀x:Str,x≠"__name__"->mb x=bootBuiltins x
 nolimit:base.NoLimit
structure Cx where
 prog:Program
 w:World
 K:PySem.W.Frag
 mg:Str->Option Value
 base:Heap
 A:Around
 N:List Str
 s₀:Shared
 H₀:Hp
 env:Env
 outer:List Env
 stack:List Env
 ex:List Addr
 fn:Str->Bool
 calm:Bool
 pn:List (Addr×Obj)
 xe:Value->Shared->Prop
def iR(l:List Env):List Addr:=l.filterMap (·.frame)
abbrev Cx.fs(X:Cx):List Addr:=iR X.outer
def Vis(sc:Scope)(x:Str):Prop:=sc.names.lookup x=some .local\/sc.names.lookup x=some .cell\/sc.names.lookup x=some .free
def Loc(sc:Scope)(x:Str):Prop:=sc.names.lookup x=some .local\/sc.names.lookup x=some .cell
def bZ9(env:Env)(h:Heap)(m:Str->Option Value)(x:Str)(u:Value):Prop:=
 (env.kindOf x=some .local/\m x=some u)\/((env.kindOf x=some .cell\/env.kindOf x=some .free)/\∃c,env.cells.lookup x=some c/\h.IsCell c (some u))
structure Cx.Ok(X:Cx):Prop where
 mod:Mod X.K X.mg X.base
 kind:X.env.scope.kind= .function
 glob:X.env.globals=mainGlobals
 blt:X.env.builtins=builtinsNs
 above:X.s₀.heap.objs.size<=X.env.locals
 inj:∀x y c,X.env.cells.lookup x=some c->X.env.cells.lookup y=some c->x=y
 has:∀x,(X.env.kindOf x=some .cell\/X.env.kindOf x=some .free)->∃c,X.env.cells.lookup x=some c
 cab:∀x c,X.fn x=true->X.env.cells.lookup x=some c->X.s₀.heap.objs.size<=c
 hd:X.calm=true->X.A.handled=none
 frames:X.A.frames=some X.stack
 stk:X.stack=X.outer\/(X.stack=X.env::X.outer/\X.env.frame=some X.env.locals)
 exf:∀b∈X.ex,b≠X.env.locals/\∀x c,X.env.cells.lookup x=some c->c≠b
 bs:∀b o,X.base.get? b=some o->X.s₀.heap.get? b=some o/\X.H₀ b=none
 bsz:X.base.objs.size<=X.s₀.heap.objs.size
 noex:∀b o,X.base.get? b=some o->b∉X.ex
 exfs:∀b∈X.ex,b∉X.fs
 funs:X.s₀.heap.FunFrames X.base X.outer
 frf:∀b∈X.fs,X.H₀ b=none
structure aU(X:Cx)(pins:List (Addr×Obj))(σ:List (Option V))(H:Hp)(s:Shared):Prop where
 ok:X.Ok
 os:s.os=X.s₀.os
 bare:AllBare s.gens
 base:Un X.fs X.ex X.H₀ H X.s₀.heap s.heap
 loc:∃m,s.heap.Ns X.env.locals m/\∀(i:Nat) (x:Str) (v:V),X.N[i]?=some x->σ[i]?=some (some v)->Vis X.env.scope x->∃u,bJ v u/\bZ9 X.env s.heap m x u
 cell:∀x c,X.env.cells.lookup x=some c->∃v,s.heap.IsCell c v
 free:H X.env.locals=none
 freeC:∀x c,X.env.cells.lookup x=some c->H c=none
 pin:∀p∈X.pn++pins,s.heap.get? p.1=some p.2/\H p.1=none/\p.1≠X.env.locals/\p.1∉X.fs/\∀v,p.2.data≠ .cell v
 hok:jH X.prog X.w H s.heap
 len:σ.length=X.N.length
section
variable {X:Cx}{pins:List (Addr×Obj)}{σ:List (Option V)}{H H':Hp}{s:Shared}{h':Heap}
theorem Cx.Ok.nofr(ok:X.Ok){b:Addr}{o:Obj}(e:X.base.get? b=some o):b∉X.fs:=fun hb=>by
 have:=(ok.funs.mem hb).1
 rw[e] at this;cases this
theorem aU.bs(I:aU X pins σ H s):∀b o,X.base.get? b=some o->s.heap.get? b=some o/\H b=none:=fun b o e =>
 ⟨I.base.keep b o (I.ok.bs b o e).1 (I.ok.bs b o e).2 (I.ok.nofr e) (I.ok.noex b o e),I.base.free b o (I.ok.bs b o e).1 (I.ok.bs b o e).2 (I.ok.noex b o e)⟩
theorem aU.bk(I:aU X pins σ H s):∀b o,X.base.get? b=some o->s.heap.get? b=some o:=fun b o e=>(I.bs b o e).1
theorem aU.mod(I:aU X pins σ H s):Mod X.K X.mg X.base:=I.ok.mod
theorem aU.kIn(I:aU X pins σ H s):X.K.In s.heap:=I.ok.mod.kin.keeps I.bk
theorem aU.lt(I:aU X pins σ H s):X.env.locals<s.heap.objs.size:=by obtain⟨_,hn,_⟩:=I.loc;exact hn.lt
theorem aU.sz(I:aU X pins σ H s):X.s₀.heap.objs.size<=s.heap.objs.size:=cp I.ok.above (cj I.lt)
theorem aU.nofs(I:aU X pins σ H s){a:Addr}(h:s.heap.objs.size<=a):a∉X.fs:=fun hb=>by
 obtain⟨_,o,ho,_⟩:=I.ok.funs.mem hb
 exact absurd (bx (ay ho) (cp I.sz h)) (fw _)
theorem aU.cne(I:aU X pins σ H s):∀x c,X.env.cells.lookup x=some c->c≠X.env.locals:=fun x c e z=>by
 obtain⟨v,o,ho,hd⟩:=I.cell x c e
 obtain⟨m,⟨o',es,ep,ho',hd',_⟩,_⟩:=I.loc
 rw[z,ho'] at ho;cases ho;rw[hd'] at hd;cases hd
theorem aU.funs(I:aU X pins σ H s):s.heap.FunFrames X.base X.outer:=by
 have all:∀(l:List Env),(∀b∈iR l,b∈X.fs)->X.s₀.heap.FunFrames X.base l->s.heap.FunFrames X.base l:=by
  intro l
  induction l with
  |nil=>intro _ _;trivial
  |cons env r ih =>
   intro hs hl
   obtain⟨hk,⟨L,o,hf,hn,ho,hd⟩,hr⟩:=hl
   have hL:L∈X.fs:=hs L (by unfold iR;rw[my,hf];exact aq)
   obtain⟨sl,e⟩:=I.base.slot L o ho (I.ok.frf L hL) hL fun z=>I.ok.exfs L z hL
   exact⟨hk,⟨L,_,hf,hn,e,hd⟩,ih (fun b hb=>hs b (by unfold iR;rw[my,hf];exact ak _ hb)) hr⟩
 exact all X.outer (fun _ hb=>hb) I.ok.funs
theorem aU.stack(I:aU X pins σ H s):s.heap.FunFrames X.base X.stack:=by
 rcases I.ok.stk with e|⟨e,hf⟩
 ·rw[e];exact I.funs
 ·rw[e]
  obtain⟨m,hn,_⟩:=I.loc
  refine .cons (by rw[I.ok.kind];decide) hf hn ?_ I.funs
  exact wj (cp I.ok.bsz I.ok.above)
theorem aU.stkSub(I:aU X pins σ H s):∀b∈iR X.stack,b∈X.env.locals::X.fs:=fun b hb=>by
 rcases I.ok.stk with e|⟨e,hf⟩
 ·rw[e] at hb;exact ak _ hb
 ·rw[e] at hb
  unfold iR at hb
  rw[my,hf] at hb
  exact hb
theorem aU.stkFree(I:aU X pins σ H s):∀b∈iR X.stack,H b=none:=fun b hb=>by
 rcases bu.mp (I.stkSub b hb) with e|hb
 ·rw[e];exact I.free
 ·obtain⟨_,o,ho,_⟩:=I.ok.funs.mem hb
  exact I.base.free b o ho (I.ok.frf b hb) fun z=>I.ok.exfs b z hb
theorem aU.step{g':Array GenState}{t':Nat}{d':Drawn}{ch:List Addr}(I:aU X pins σ H s)
  (hch:∀b∈ch,(b∈X.ex\/X.s₀.heap.objs.size<=b)/\b≠X.env.locals/\(∀x c,X.env.cells.lookup x=some c->c≠b)/\∀p∈X.pn++pins,p.1≠b)
  (keep:∀b o,b≠X.env.locals->b∉X.fs->b∉ch->s.heap.get? b=some o->H b=none->h'.get? b=some o)
  (slot:∀b o,b≠X.env.locals->b∈X.fs->b∉ch->s.heap.get? b=some o->H b=none->∃sl,h'.get? b=some { o with slots:=sl }) (free:∀b o,b∉ch->s.heap.get? b=some o->H b=none->H' b=none)
  (there:∀b o,b∉ch->s.heap.get? b=some o->∃o',h'.get? b=some o')
  (tups:∀b xs,H b=some (.tup xs)->H' b=some (.tup xs)) (frzs:∀b o u,H b=some (.frz o u)->H' b=some (.frz o u)) (tbls:∀b ps,H b=some (.tbl ps)->∃more,H' b=some (.tbl (ps++more)))
  (ns:∀m,s.heap.Ns X.env.locals m->h'.Ns X.env.locals m) (hok:jH X.prog X.w H' h') (hg:AllBare g') :
  aU X pins σ H' { s with heap:=h',gens:=g',drawn:=d',toks:=t' }:=by
 have neL:∀b o,X.s₀.heap.get? b=some o->b≠X.env.locals:=fun b o e=>bw (bx (ay e) I.ok.above)
 have neC:∀b o,X.s₀.heap.get? b=some o->b∉X.ex->b∉ch:=fun b o e hx hb=>by
  rcases(hch b hb).1 with z|z
  ·exact hx z
  ·exact absurd (bx (ay e) z) (fw _)
 have cellK:∀x c,X.env.cells.lookup x=some c->∀v,s.heap.IsCell c v->h'.IsCell c v:=fun x c e v ⟨o,ho,hd⟩=>by
  have nch:c∉ch:=fun z=>(hch c z).2.2.1 x c e rfl
  by_cases hc:c∈X.fs
  ·obtain⟨sl,q⟩:=slot c o (I.cne x c e) hc nch ho (I.freeC x c e)
   exact⟨_,q,hd⟩
  ·exact⟨o,keep c o (I.cne x c e) hc nch ho (I.freeC x c e),hd⟩
 refine⟨I.ok,I.os,hg,⟨fun b o e n hb hx=>?_,fun b o e n hb hx=>?_,fun b o e n hx=>?_,fun b o e hx=>?_,fun b xs e=>tups b xs (I.base.tups b xs e),fun b o xs e=>frzs b o xs (I.base.frzs b o xs e),fun b ps e=>?_⟩,?_,fun x c e=>?_,?_,fun x c e=>?_,fun p hp=>?_,hok,I.len⟩
 ·exact keep b o (neL b o e) hb (neC b o e hx) (I.base.keep b o e n hb hx) (I.base.free b o e n hx)
 ·obtain⟨sl,e1⟩:=I.base.slot b o e n hb hx
  obtain⟨sl',e2⟩:=slot b _ (neL b o e) hb (neC b o e hx) e1 (I.base.free b o e n hx)
  exact⟨sl',e2⟩
 ·obtain⟨o',e1⟩:=I.base.there b o e hx
  exact free b o' (neC b o e hx) e1 (I.base.free b o e n hx)
 ·obtain⟨o',e1⟩:=I.base.there b o e hx
  exact there b o' (neC b o e hx) e1
 ·obtain⟨m1,e1⟩:=I.base.tbls b ps e
  obtain⟨m2,e2⟩:=tbls b _ e1
  exact⟨m1++m2,by rw[e2,Array.append_assoc]⟩
 ·obtain⟨m,hn,hl⟩:=I.loc
  refine⟨m,ns m hn,fun i x v e1 e2 e3=>?_⟩
  obtain⟨u,r,l⟩:=hl i x v e1 e2 e3
  refine⟨u,r,?_⟩
  rcases l with l|⟨k,c,e,z⟩
  ·exact .inl l
  ·exact .inr ⟨k,c,e,cellK x c e _ z⟩
 ·obtain⟨v,z⟩:=I.cell x c e
  exact⟨v,cellK x c e v z⟩
 ·obtain⟨m,⟨o,_,_,ho,_⟩,_⟩:=I.loc
  exact free _ o (fun z=>(hch _ z).2.1 rfl) ho I.free
 ·obtain⟨v,o,ho,hd⟩:=I.cell x c e
  exact free c o (fun z=>(hch c z).2.2.1 x c e rfl) ho (I.freeC x c e)
 ·obtain⟨e,n,ne,nf,d⟩:=I.pin p hp
  have nch:p.1∉ch:=fun z=>(hch p.1 z).2.2.2 p hp rfl
  exact⟨keep p.1 p.2 ne nf nch e n,free p.1 p.2 nch e n,ne,nf,d⟩
theorem aU.un{t':Nat}(I:aU X pins σ H s)(u:Un X.fs [] H H' s.heap h')(hok:jH X.prog X.w H' h'):aU X pins σ H' { s with heap:=h',toks:=t' }:=by
 obtain⟨m,⟨o,es,ep,ho,r⟩,_⟩:=id I.loc
 obtain⟨sl,hL⟩:=u.any ho I.free (by simp)
 exact I.step (g':=s.gens) (d':=s.drawn) (ch:=[]) (fun _ z=>nomatch z) (fun b o _ hb _ e n=>u.keep b o e n hb (by simp)) (fun b o _ hb _ e n=>u.slot b o e n hb (by simp)) (fun b o _ e n=>u.free b o e n (by simp)) (fun b o _ e=>u.there b o e (by simp)) u.tups u.frzs u.tbls (fun m' hm=>by
  obtain⟨o',es',ep',ho',r'⟩:=hm
  rw[ho] at ho';cases ho'
  exact⟨_,es',ep',hL,r'⟩) hok I.bare
theorem aU.call{g':Array GenState}{t':Nat}{d':Drawn}{ch:List Addr}(I:aU X pins σ H s)(u:Un (iR X.stack) ch H H' s.heap h')(hok:jH X.prog X.w H' h')(hg:AllBare g')
  (hch:∀b∈ch,(b∈X.ex\/X.s₀.heap.objs.size<=b)/\b≠X.env.locals/\(∀x c,X.env.cells.lookup x=some c->c≠b)/\∀p∈X.pn++pins,p.1≠b) :
  aU X pins σ H' { s with heap:=h',gens:=g',drawn:=d',toks:=t' }:=by
 obtain⟨m,⟨o,es,ep,ho,r⟩,_⟩:=id I.loc
 obtain⟨sl,hL⟩:=u.any ho I.free fun z=>(hch _ z).2.1 rfl
 exact I.step (ch:=ch) hch (fun b o hL hb hc e n=>u.keep b o e n (fun z=>(bu.mp (I.stkSub b z)).elim hL hb) hc) (fun b o _ _ hc e n=>u.any e n hc) (fun b o hc e n=>u.free b o e n hc) (fun b o hc e=>u.there b o e hc) u.tups u.frzs u.tbls (fun m' hm=>by
  obtain⟨o',es',ep',ho',r'⟩:=hm
  rw[ho] at ho';cases ho'
  exact⟨_,es',ep',hL,r'⟩) hok hg
theorem aU.turned{t':Nat}{it:Addr}(I:aU X pins σ H s)(k:∀b o,b≠it->s.heap.get? b=some o->h'.get? b=some o)(hn:H it=none)(hL:it≠X.env.locals)
  (h1:it∈X.ex\/X.s₀.heap.objs.size<=it) (h2:∀x c,X.env.cells.lookup x=some c->c≠it) (h3:∀p∈X.pn++pins,p.1≠it):aU X pins σ H { s with heap:=h',toks:=t' }:=by
 have nit:∀b u,H b=some u->b≠it:=fun b u e z=>by rw[z,hn] at e;cases e
 refine I.step (g':=s.gens) (d':=s.drawn) (ch:=[it]) (fun b hb=>?_) (fun b o _ _ hc e _=>k b o (fun z=>hc (by simp[z])) e) (fun b o _ _ hc e _=>⟨o.slots,k b o (fun z=>hc (by simp[z])) e⟩) (fun _ _ _ _ n=>n)
  (fun b o hc e=>⟨o,k b o (fun z=>hc (by simp[z])) e⟩) (fun _ _ e=>e) (fun _ _ _ e=>e) (fun b ps e=>⟨#[],by rw[e];simp⟩) (fun m hm=>?_) (fun b u e=>?_) I.bare
 ·have e:b=it:=by simpa using hb
  subst e
  exact⟨h1,hL,h2,h3⟩
 ·obtain⟨o,es,ep,ho,r⟩:=hm
  exact⟨o,es,ep,k _ o (Ne.symm hL) ho,r⟩
 ·refine(I.hok b u e).stay (fun c v hc q=>k c v ?_ q) (fun _ q=>q) fun _ _ q=>q
  rcases hc with z|z
  ·rw[z];exact nit b u e
  ·exact nit c _ z
theorem aU.tok(I:aU X pins σ H s)(t:Nat):aU X pins σ H { s with toks:=t }:=I.un (h':=s.heap) (t':=t) Un.refl I.hok
theorem aU.kept{t':Nat}(I:aU X pins σ H s)(k:∀b u,s.heap.get? b=some u->h'.get? b=some u):aU X pins σ H { s with heap:=h',toks:=t' }:=I.un (Un.kept k) (I.hok.kept k)
theorem aU.laid{a:Addr}{o:HO}{t':Nat}(I:aU X pins σ H s)(k:∀b u,s.heap.get? b=some u->h'.get? b=some u)(hp:s.heap.objs.size<=a)(new:bU X.prog X.w (aN H a o) h' a o) :
  aU X pins σ (aN H a o) { s with heap:=h',toks:=t' }:=I.un (Un.laid k hp (I.hok.fresh hp)) (I.hok.laid k hp new)
theorem aU.write{x e:Addr}{o:HO}{t':Nat}(I:aU X pins σ H s)(mu:Mut (H x))(he:e=x\/H e=some (.own x))(k:∀b u,b≠e->s.heap.get? b=some u->h'.get? b=some u)(heo:∃u,h'.get? e=some u)
  (new:bU X.prog X.w (aN H x o) h' x o):aU X pins σ (aN H x o) { s with heap:=h',toks:=t' }:=I.un (Un.write mu he k heo) (I.hok.write mu he k heo new)
theorem aU.pins_of{pins':List (Addr×Obj)}(I:aU X pins σ H s)(h:∀p∈pins',s.heap.get? p.1=some p.2/\H p.1=none/\p.1≠X.env.locals/\p.1∉X.fs/\∀v,p.2.data≠ .cell v):aU X pins' σ H s:=
 ⟨I.ok,I.os,I.bare,I.base,I.loc,I.cell,I.free,I.freeC,fun p hp=>(bp.mp hp).elim (fun z=>I.pin p (bv _ z)) (h p),I.hok,I.len⟩
theorem xH{N:List Str}(hN:N.Nodup){i j:Nat}{x:Str}(a:N[i]?=some x)(b:N[j]?=some x):i=j:=by
 obtain⟨h1,e1⟩:=bf.mp a
 obtain⟨h2,e2⟩:=bf.mp b
 exact(tj hN).mp (e1.trans e2.symm)
theorem sS{M:Model}{A:Around}{E:Value->Shared->Prop}{i:Nat}{x:Str}{v:V}{u:Value}{Q:Unit->Shared->Prop}(I:aU X pins σ H s)(hN:X.N.Nodup)(hi:X.N[i]?=some x)(hx:Loc X.env.scope x)(r:bJ v u)
  (h:∀s',aU X pins (σ.set i (some v)) H s'->(∃a,Heap.SameBut a s.heap s'.heap/\(a=X.env.locals\/X.env.cells.lookup x=some a))->Q () s') (hf:autoParam (X.fn x=true\/X.env.scope.names.lookup x=some .local) Rq3._auto_1):wpAny M A (storeName X.env x u) Q E s:=by
 obtain⟨m,hn,hl⟩:=id I.loc
 have hcls:(X.env.scope.kind == .class || (X.env.scope.kind == .module&&X.env.locals != X.env.globals))=false:=by rw[I.ok.kind];rfl
 have hiσ:i<σ.length:=by rw[I.len];exact(bf.mp hi).1
 have cne:=I.cne
 have tracked:∀{a:Addr}{h':Heap},(∃o,s.heap.get? a=some o/\H a=none)->Heap.SameBut a s.heap h'->jH X.prog X.w H h':=fun {a h'} ha hs b ob e=>by
  obtain⟨_,_,hfree⟩:=ha
  refine(I.hok b ob e).stay (fun c w' hc q=>(hs.2 c ?_).trans q) (fun _ q=>q) fun _ _ q=>q
  rintro rfl
  rcases hc with rfl|hc
  ·rw[hfree] at e;cases e
  ·rw[hfree] at hc;cases hc
 rcases hx with hk|hk
 ·refine wpAny_storeName_local hk hn (fun h' hn' hs=>?_) hcls
  obtain⟨oL,_,_,hoL,_⟩:=id hn
  refine h _ ⟨I.ok,I.os,I.bare,⟨fun b o e n hb hx=>?_,fun b o e n hb hx=>?_,I.base.free,fun b o e hx=>?_,I.base.tups,I.base.frzs,I.base.tbls⟩,⟨_,hn',fun j y v' e1 e2 e3=>?_⟩,fun y c e=>?_,I.free,I.freeC,fun p hp=>?_,tracked ⟨oL,hoL,I.free⟩ hs,by simpa using I.len⟩ ⟨_,hs,.inl rfl⟩
  ·exact(hs.2 b (bw (bx (ay e) I.ok.above))).trans (I.base.keep b o e n hb hx)
  ·obtain⟨sl,e1⟩:=I.base.slot b o e n hb hx
   exact⟨sl,(hs.2 b (bw (bx (ay e) I.ok.above))).trans e1⟩
  ·obtain⟨o',e1⟩:=I.base.there b o e hx
   exact⟨o',(hs.2 b (bw (bx (ay e) I.ok.above))).trans e1⟩
  ·by_cases hj:j=i
   ·subst hj
    rw[hi] at e1;cases e1
    rw[ou hiσ] at e2
    cases e2
    exact⟨u,r,.inl ⟨hk,by simp⟩⟩
   ·rw[pi (Ne.symm hj)] at e2
    obtain⟨u',r',q⟩:=hl j y v' e1 e2 e3
    refine⟨u',r',?_⟩
    rcases q with⟨k,e⟩|⟨k,c,e,z⟩
    ·refine .inl ⟨k,?_⟩
     have:y≠x:=fun e=>hj (xH hN e1 (e ▸ hi))
     simp[this,e]
    ·exact .inr ⟨k,c,e,z.sameBut hs (cne y c e)⟩
  ·obtain⟨w',z⟩:=I.cell y c e
   exact⟨w',z.sameBut hs (cne y c e)⟩
  ·obtain⟨e,n,ne,nf,d⟩:=I.pin p hp
   exact⟨(hs.2 p.1 ne).trans e,n,ne,nf,d⟩
 ·have hfn:X.fn x=true:=by
   rcases hf with z|z
   ·exact z
   ·rw[z] at hk;cases hk
  obtain⟨c,hc⟩:=I.ok.has x (.inl hk)
  obtain⟨w',z⟩:=I.cell x c hc
  refine wpAny_storeName_cell I.ok.kind hk hc z (fun h' hc' hs=>?_)
  obtain⟨oc,hoc,hocd⟩:=id z
  refine h { s with heap:=h' } ⟨I.ok,I.os,I.bare,⟨fun b o e n hb hx=>?_,fun b o e n hb hx=>?_,I.base.free,fun b o e hx=>?_,I.base.tups,I.base.frzs,I.base.tbls⟩,⟨m,hn.sameBut hs (Ne.symm (cne x c hc)),fun j y v' e1 e2 e3=>?_⟩,fun y c' e=>?_,I.free,I.freeC,fun p hp=>?_,tracked ⟨oc,hoc,I.freeC x c hc⟩ hs,by simpa using I.len⟩ ⟨c,hs,.inr hc⟩
  ·exact(hs.2 b (bw (bx (ay e) (I.ok.cab x c hfn hc)))).trans (I.base.keep b o e n hb hx)
  ·obtain⟨sl,e1⟩:=I.base.slot b o e n hb hx
   exact⟨sl,(hs.2 b (bw (bx (ay e) (I.ok.cab x c hfn hc)))).trans e1⟩
  ·obtain⟨o',e1⟩:=I.base.there b o e hx
   exact⟨o',(hs.2 b (bw (bx (ay e) (I.ok.cab x c hfn hc)))).trans e1⟩
  ·by_cases hj:j=i
   ·subst hj
    rw[hi] at e1;cases e1
    rw[ou hiσ] at e2
    cases e2
    exact⟨u,r,.inr ⟨.inl hk,c,hc,hc'⟩⟩
   ·rw[pi (Ne.symm hj)] at e2
    obtain⟨u',r',q⟩:=hl j y v' e1 e2 e3
    refine⟨u',r',?_⟩
    rcases q with q|⟨k,c',e,z'⟩
    ·exact .inl q
    ·refine .inr ⟨k,c',e,z'.sameBut hs ?_⟩
     rintro rfl
     exact hj (xH hN e1 (I.ok.inj _ _ _ e hc ▸ hi))
  ·by_cases hcc:c'=c
   ·subst hcc;exact⟨_,hc'⟩
   ·obtain⟨w2,z2⟩:=I.cell y c' e
    exact⟨w2,z2.sameBut hs hcc⟩
  ·obtain⟨e,n,ne,nf,d⟩:=I.pin p hp
   refine⟨(hs.2 p.1 ?_).trans e,n,ne,nf,d⟩
   intro q
   rw[q,hoc] at e
   have q':oc=p.2:=dg e
   exact d w' (by rw[<-q'];exact hocd)
theorem hV{M:Model}{A:Around}{E:Value->Shared->Prop}{i:Nat}{x:Str}{v:V}{u:Value}{Q:Unit->Shared->Prop}(I:aU X pins σ H s)(hN:X.N.Nodup)(hi:X.N[i]?=some x)(hx:Loc X.env.scope x)(r:bJ v u)
  (h:∀s',aU X pins (σ.set i (some v)) H s'->Q () s') (hf:autoParam (X.fn x=true\/X.env.scope.names.lookup x=some .local) Rq3._auto_1):wpAny M A (storeName X.env x u) Q E s:=
 sS I hN hi hx r (fun s' I' _=>h s' I') hf
theorem aU.call'{s':Shared}{ch:List Addr}(I:aU X pins σ H s)(ho:s'.os=s.os)(u:Un (iR X.stack) ch H H' s.heap s'.heap)(hok:jH X.prog X.w H' s'.heap)(hg:AllBare s'.gens)
  (hch:∀b∈ch,(b∈X.ex\/X.s₀.heap.objs.size<=b)/\b≠X.env.locals/\(∀x c,X.env.cells.lookup x=some c->c≠b)/\∀p∈X.pn++pins,p.1≠b):aU X pins σ H' s':=by
 obtain⟨h',g',d',t',o'⟩:=s'
 have e:o'=s.os:=ho
 subst e
 exact I.call (g':=g') (t':=t') (d':=d') u hok hg hch
end
abbrev XK:=Value->Option Addr->Hp->Prop
abbrev St:=List (Option V)
abbrev VK:=V->Hp->Prop
abbrev TE:=St->Hp->VK->Prop
abbrev TT:=St->Hp->(Bool->Hp->Prop)->Prop
abbrev TA:=St->Hp->(List V->Hp->Prop)->Prop
structure jK where
 nx:St->Hp->Prop
 rt:VK
 bk:St->Hp->Prop:=fun _ _=>False
 ct:St->Hp->Prop:=fun _ _=>False
abbrev TS:=jK->St->Hp->Prop
def EP(X:Cx)(pins:List (Addr×Obj))(σ:St)(Q:VK)(u:Value)(s':Shared):Prop:=∃v H',aU X pins σ H' s'/\bJ v u/\Q v H'
def TP(X:Cx)(pins:List (Addr×Obj))(σ:St)(Q:Bool->Hp->Prop)(b:Bool)(s':Shared):Prop:=∃H',aU X pins σ H' s'/\Q b H'
def AP(X:Cx)(pins:List (Addr×Obj))(σ:St)(Q:List V->Hp->Prop)(us:List Value)(s':Shared):Prop:=∃vs H',aU X pins σ H' s'/\bI vs us/\Q vs H'
def SP(X:Cx)(pins:List (Addr×Obj))(D:jK)(f:Flow)(s':Shared):Prop:=
 match f with
 |.next=>∃σ' H',aU X pins σ' H' s'/\D.nx σ' H'
 |.brk=>∃σ' H',aU X pins σ' H' s'/\D.bk σ' H'
 |.cont=>∃σ' H',aU X pins σ' H' s'/\D.ct σ' H'
 |.ret u=>∃v σ' H',aU X pins σ' H' s'/\bJ v u/\D.rt v H'
def PE(X:Cx)(e:Expr)(t:TE):Prop:=
 ∀(pins:List (Addr×Obj)) (s:Shared) (σ:St) (H:Hp) (Q:VK),aU X pins σ H s->t σ H Q->wpAny (model X.prog X.w) X.A (eval e X.env) (EP X pins σ Q) X.xe s
def PT(X:Cx)(e:Expr)(t:TT):Prop:=
 ∀(pins:List (Addr×Obj)) (s:Shared) (σ:St) (H:Hp) (Q:Bool->Hp->Prop),aU X pins σ H s->t σ H Q->wpAny (model X.prog X.w) X.A (isTrue e X.env (eval e X.env)) (TP X pins σ Q) X.xe s
def PW(X:Cx)(e:Expr)(t:TT):Prop:=
 ∀(whole:Sem Value) (pins:List (Addr×Obj)) (s:Shared) (σ:St) (H:Hp) (Q:Bool->Hp->Prop),aU X pins σ H s->t σ H Q->wpAny (model X.prog X.w) X.A (isTrue e X.env whole) (TP X pins σ Q) X.xe s
theorem PW.pt{X:Cx}{e:Expr}{t:TT}(h:PW X e t):PT X e t:=h _
def PA(X:Cx)(es:List Expr)(t:TA):Prop:=
 ∀(pos:Pos) (pins:List (Addr×Obj)) (s:Shared) (σ:St) (H:Hp) (Q:List V->Hp->Prop),aU X pins σ H s->t σ H Q->wpAny (model X.prog X.w) X.A (spliced (backTo pos (starEach es X.env))) (AP X pins σ Q) X.xe s
def PS(X:Cx)(st:Stmt)(t:TS):Prop:=
 ∀(pins:List (Addr×Obj)) (s:Shared) (σ:St) (H:Hp) (D:jK),aU X pins σ H s->t D σ H->wpAny (model X.prog X.w) X.A (exec st X.env) (SP X pins D) X.xe s
def nL(X:Cx)(st:List Stmt)(t:TS):Prop:=
 ∀(pins:List (Addr×Obj)) (s:Shared) (σ:St) (H:Hp) (D:jK),aU X pins σ H s->t D σ H->wpAny (model X.prog X.w) X.A (execs st X.env) (SP X pins D) X.xe s
theorem cK{α:Type}{t:Sem α}{Q Q':α->Shared->Prop}{M:Model}{A:Around}{E:Value->Shared->Prop}{s:Shared}(h:wpAny M A t Q E s)(hQ:∀a s,Q a s->Q' a s):wpAny M A t Q' E s:=dm h hQ fun _ _ x=>x
section
variable {X:Cx}
inductive xY(i:Nat)(σ:St)(H:Hp)(Q:VK):Prop
 |mk:∀v,(σ[i]?=some (some v))->(Q v H)->xY i σ H Q
def tC(v:V):TE:=fun _ H Q=>Q v H
theorem aS0{i:Nat}{x:Str}{pos:Pos}(hN:X.N[i]?=some x)(hv:Vis X.env.scope x)(hd:autoParam ((x==("__debug__": Str))=false) Rq1._auto_1)(hcd:autoParam ((x==("__classdict__": Str))=false) Rq1._auto_1):PE X (.Name x pos) (xY i):=by
 intro pins s σ H Q I h
 obtain⟨v,e,h⟩:=h
 obtain⟨m,hn,hl⟩:=I.loc
 obtain⟨u,r,l⟩:=hl i x v hN e hv
 have fin:EP X pins σ Q u s:=⟨v,H,I,r,h⟩
 rcases l with⟨hk,hm⟩|⟨hk,c,hc,hcell⟩
 ·exact zo (wk I.ok.kind hk hn hm fin) hd
 ·rcases hk with hk|hk
  ·exact zo (xg I.ok.kind hk hc hcell fin) hd
  ·exact zo (wpAny_loadName_free I.ok.kind hk hc hcell fin hcd) hd
theorem aD{i j pos}:PE X (.Constant (.int i) j pos) (tC (.int i)):=fun _ _ _ H _ I h=>wpAny_Constant_int ⟨.int i,H,I.tok _,⟨_,rfl⟩,h⟩
theorem fS{b j pos}:PE X (.Constant (.bool b) j pos) (tC (.bl b)):=fun _ _ _ H _ I h=>Constant_bool ⟨.bl b,H,I,rfl,h⟩
theorem aG{x j pos}:PE X (.Constant (.str x) j pos) (tC (.str x)):=fun _ _ _ H _ I h=>Calls.Constant_str ⟨.str x,H,I.tok _,⟨_,rfl⟩,h⟩
def Gl(X:Cx)(x:Str):Prop:=X.env.kindOf x=some .globalImplicit
theorem mM{E:Value->Shared->Prop}{pins:List (Addr×Obj)}{s:Shared}{σ:St}{H:Hp}{x:Str}{u:Value}{pos:Pos}{Q:Value->Shared->Prop}(I:aU X pins σ H s)(hg:Gl X x)(hm:X.mg x=some u)(h:Q u s)
  (hd:autoParam ((x==("__debug__": Str))=false) Rq1._auto_1):wpAny (model X.prog X.w) X.A (eval (.Name x pos) X.env) Q E s:=
 re I.ok.kind hg (Calls.loadGlobal_global (by rw[I.ok.glob];exact I.mod.glob.keeps I.bk) hm h) hd
theorem kE{E:Value->Shared->Prop}{pins:List (Addr×Obj)}{s:Shared}{σ:St}{H:Hp}{x:Str}{u:Value}{pos:Pos}{Q:Value->Shared->Prop}(I:aU X pins σ H s)(hg:Gl X x)(hm:X.mg x=none)(hv:bootBuiltins x=some u)(h:Q u s)
  (hn:autoParam (x≠"__name__") Rq1._auto_1) (hd:autoParam ((x==("__debug__": Str))=false) Rq1._auto_1):wpAny (model X.prog X.w) X.A (eval (.Name x pos) X.env) Q E s:=by
 obtain⟨mb,h1,h2⟩:=I.mod.blt
 exact re I.ok.kind hg (Calls.loadGlobal_builtin (by rw[I.ok.glob];exact I.mod.glob.keeps I.bk) hm (by rw[I.ok.blt];exact h1.keeps I.bk) ((h2 x hn).trans hv) h) hd
theorem dM{x:Str}{v:V}{u:Value}{pos:Pos}(hg:Gl X x)(hm:X.mg x=some u)(r:bJ v u)(hd:autoParam ((x==("__debug__": Str))=false) Rq1._auto_1):PE X (.Name x pos) (tC v):=
 fun _ _ _ H _ I h=>mM I hg hm ⟨v,H,I,r,h⟩ hd
theorem kX{x:Str}{v:V}{u:Value}{pos:Pos}(hg:Gl X x)(hm:X.mg x=none)(hv:bootBuiltins x=some u)(r:bJ v u)(hn:autoParam (x≠"__name__") Rq1._auto_1)(hd:autoParam ((x==("__debug__": Str))=false) Rq1._auto_1):PE X (.Name x pos) (tC v):=
 fun _ _ _ H _ I h=>kE I hg hm hv ⟨v,H,I,r,h⟩ hn hd
variable {a b:Expr}{ta tb:TE}{pos:Pos}
def PC(X:Cx)(op:CmpOp)(a b:Expr)(t:TE):Prop:=
 ∀(pins:List (Addr×Obj)) (s:Shared) (σ:St) (H:Hp) (Q:VK),aU X pins σ H s->t σ H Q ->
  wpAny (model X.prog X.w) X.A (eval a X.env) (fun v s₁=>wpAny (model X.prog X.w) X.A (eval b X.env) (fun u s₂=>wpAny (model X.prog X.w) X.A (compareOp op v u) (EP X pins σ Q) X.xe s₂) X.xe s₁) X.xe s
theorem xP(b:Expr){op:CmpOp}(h:op≠ .In)(h2:op≠ .NotIn):behindInMarks op b=false:=by
 have e1:(op==CmpOp.In)=false:=by cases op<;>first|rfl|exact absurd rfl h
 have e2:(op==CmpOp.NotIn)=false:=by cases op<;>first|rfl|exact absurd rfl h2
 cases b<;>simp[behindInMarks,e1,e2]
inductive BlK(x:V)(k:Bool->Prop):Prop
 |mk:∀c,(x= .bl c)->(k c)->BlK x k
def tB(t:TE):TT:=fun σ H Q=>t σ H fun x H1=>BlK x fun c=>Q c H1
theorem bJ8{op:CmpOp}{t:TE}(h:PC X op a b t)(h1:autoParam (behindInMarks op b=false) Rq12._auto_1):PE X (.Compare a [op] [b] pos) t:=fun pins s σ H Q I hw=>wpAny_Compare1 (h pins s σ H Q I hw) h1
theorem zH{op:CmpOp}{t:TE}(h:PC X op a b t)(h1:autoParam (behindInMarks op b=false) Rq12._auto_1):PT X (.Compare a [op] [b] pos) (tB t):=by
 intro pins s σ H Q I hw
 refine vp (cK (h pins s σ H _ I hw) fun v s1 h1=>cK h1 fun u s2 h2=>cK h2 fun c s3 ⟨x,H1,I1,r1,q1⟩=>?_) h1
 obtain⟨d,rfl,q⟩:=q1
 cases r1
 exact fe ⟨H1,I1,q⟩
theorem fF{e:Expr}{t:TE}(h:PE X e t)(he:autoParam (∀whole,isTrue e X.env whole=(do let v <-whole;standAt e.pos;holding [v] (truthy v))) Rq4._auto_1):PT X e (tB t):=by
 intro pins s σ H Q I hw
 refine isTrue_plain (cK (h pins s σ H _ I hw) ?_) (he _);rintro v s1 ⟨x,H1,I1,r1,q1⟩
 obtain⟨d,rfl,q⟩:=q1
 cases r1
 exact fe ⟨H1,I1,q⟩
variable {tA tB':TT}{bM:List Expr}
def cE0(t u:TT):TT:=fun σ H Q=>t σ H fun c H1=>if c=true then u σ H1 Q else Q false H1
def tOr(t u:TT):TT:=fun σ H Q=>t σ H fun c H1=>if c=true then Q true H1 else u σ H1 Q
def cD9(t:TT):TT:=fun σ H Q=>t σ H fun c H1=>Q (!c) H1
theorem jO(ha:PT X a tA):PW X (.BoolOp .And [a] pos) tA:=by
 intro wh pins s σ H Q I h
 refine isTrue_and (cK (ha pins s σ H Q I h) fun c s1 e=>?_)
 cases c with
 |true=>exact isTrue_and_nil e
 |false=>exact e
theorem kB(ha:PT X a tA):PW X (.BoolOp .Or [a] pos) tA:=by
 intro wh pins s σ H Q I h
 refine isTrue_or (cK (ha pins s σ H Q I h) fun c s1 e=>?_)
 cases c with
 |false=>exact isTrue_or_nil e
 |true=>exact e
theorem jM(ha:PT X a tA)(hb:PW X (.BoolOp .And (b::bM) pos) tB'):PW X (.BoolOp .And (a::b::bM) pos) (cE0 tA tB'):=by
 intro wh pins s σ H Q I h
 refine isTrue_and (cK (ha pins s σ H _ I h) ?_);rintro c s1 ⟨H1,I1,q1⟩
 cases c with
 |true=>exact hb wh pins s1 σ H1 Q I1 q1
 |false=>exact⟨H1,I1,q1⟩
theorem kO(ha:PT X a tA)(hb:PW X (.BoolOp .Or (b::bM) pos) tB'):PW X (.BoolOp .Or (a::b::bM) pos) (tOr tA tB'):=by
 intro wh pins s σ H Q I h
 refine isTrue_or (cK (ha pins s σ H _ I h) ?_);rintro c s1 ⟨H1,I1,q1⟩
 cases c with
 |true=>exact⟨H1,I1,q1⟩
 |false=>exact hb wh pins s1 σ H1 Q I1 q1
theorem gK(ha:PT X a tA):PT X (.UnaryOp .Not a pos) (cD9 tA):=by
 intro pins s σ H Q I h
 exact isTrue_not (ha pins s σ H (fun c H1=>Q (!c) H1) I h)
def bH0(ta tb:TE):TE:=fun σ H Q=>ta σ H fun x H1=>BlK x fun c=>if c=true then tb σ H1 Q else Q (.bl false) H1
def cC8(ta tb:TE):TE:=fun σ H Q=>ta σ H fun x H1=>BlK x fun c=>if c=true then Q (.bl true) H1 else tb σ H1 Q
def cA3(ta:TE):TE:=fun σ H Q=>ta σ H fun x H1=>BlK x fun c=>Q (.bl (!c)) H1
theorem dO{op}{t:TE}(h:PE X a t):PE X (.BoolOp op [a] pos) t:=fun pins s σ H Q I hw=>BoolOp_one (h pins s σ H Q I hw)
theorem dR(ha:PE X a ta)(hb:PE X (.BoolOp .And (b::bM) pos) tb):PE X (.BoolOp .And (a::b::bM) pos) (bH0 ta tb):=by
 intro pins s σ H Q I h
 refine BoolOp_and (cK (ha pins s σ H _ I h) ?_);rintro v s1 ⟨x,H1,I1,r1,q1⟩
 obtain⟨c,rfl,q1⟩:=q1
 cases r1
 refine fe ?_
 cases c with
 |true=>exact hb pins s1 σ H1 Q I1 q1
 |false=>exact⟨.bl false,H1,I1,rfl,q1⟩
theorem aD5(ha:PE X a ta)(hb:PE X (.BoolOp .Or (b::bM) pos) tb):PE X (.BoolOp .Or (a::b::bM) pos) (cC8 ta tb):=by
 intro pins s σ H Q I h
 refine BoolOp_or (cK (ha pins s σ H _ I h) ?_);rintro v s1 ⟨x,H1,I1,r1,q1⟩
 obtain⟨c,rfl,q1⟩:=q1
 cases r1
 refine fe ?_
 cases c with
 |false=>exact hb pins s1 σ H1 Q I1 q1
 |true=>exact⟨.bl true,H1,I1,rfl,q1⟩
theorem aR1(ha:PE X a ta):PE X (.UnaryOp .Not a pos) (cA3 ta):=by
 intro pins s σ H Q I h
 refine UnaryOp_ (cK (ha pins s σ H _ I h) ?_);rintro v s1 ⟨x,H1,I1,r1,q1⟩
 obtain⟨c,rfl,q1⟩:=q1
 cases r1
 exact not_of (fe ⟨.bl (!c),H1,I1,rfl,q1⟩)
end
def bK(K:PySem.W.Frag)(H:Hp)(a:Addr)(xs:List V):Prop:=
 Rd H a (.lst xs) \/
  ∃(o:Obj) (its:Array Value) (n:Nat),K.lookup a=some o/\o.cls= .type "list"/\o.dict=none/\o.data= .seq its n/\its.size<=sizeLine/\bI xs its.toList
def aR(K:PySem.W.Frag)(H:Hp)(a:Addr)(xs:List V):Prop:=
 Rd H a (.tup xs) \/
  ∃(o:Obj) (its:Array Value) (n:Nat),K.lookup a=some o/\o.cls= .type "tuple"/\o.data= .seq its n/\its.size<=sizeLine/\bI xs its.toList
def cE6:Value->Option V
 |.none=>some .non
 |.bool b=>some (.bl b)
 |.int i _=>some (.int i)
 |.str x _=>some (.str x)
 |.bytes b _=>some (.byt b)
 |.float b _=>some (.flt b)
 |.ref a=>some (.ref a)
 |.type n=>some (.ty n)
 |_=>none
theorem bJ.abs{x:V}{u:Value}(r:bJ x u):cE6 u=some x:=by
 cases x with
 |non=>cases r;rfl
 |bl _=>cases r;rfl
 |int _=>obtain⟨t,rfl⟩:=r;rfl
 |str _=>obtain⟨t,rfl⟩:=r;rfl
 |byt _=>obtain⟨t,rfl⟩:=r;rfl
 |flt _=>obtain⟨t,rfl⟩:=r;rfl
 |ref _=>cases r;rfl
 |ty _=>cases r;rfl
theorem bJ.inj{x y:V}{u:Value}(r:bJ x u)(q:bJ y u):x=y:=dg (r.abs.symm.trans q.abs)
theorem bI.inj:∀{xs ys:List V}{us:List Value},bI xs us->bI ys us->xs=ys
 |_,_,_,.nil,.nil=>rfl
 |_,_,_,.cons r t,.cons r' t'=>by rw[r.inj r',bI.inj t t']
section
variable {X:Cx}{pins:List (Addr×Obj)}{σ:St}{H:Hp}{s:Shared}{a:Addr}{xs ys:List V}
theorem bK.of{K:PySem.W.Frag}(h:H a=some (.lst xs)):bK K H a xs:= .inl (.inl h)
theorem aR.of{K:PySem.W.Frag}(h:H a=some (.tup xs)):aR K H a xs:= .inl (.inl h)
theorem aU.list(I:aU X pins σ H s)(h:bK X.K H a xs):∃its:List Value,bI xs its/\PlainL s.heap a its.toArray/\xs.length<=sizeLine:=by
 rcases h with h|⟨o,its,n,hk,hc,hd,hs,hz,r⟩
 ·obtain⟨z,its,n,r,e⟩:=h.ok I.hok
  exact⟨its,r,⟨_,n,e,rfl,rfl,rfl⟩,z⟩
 ·refine⟨its.toList,r,⟨o,n,I.kIn a o hk,hc,hd,by simpa using hs⟩,?_⟩
  have e:=r.length
  simp only[Array.length_toList] at e
  lia
theorem aU.tuple(I:aU X pins σ H s)(h:aR X.K H a xs):∃its:List Value,bI xs its/\IsTup s.heap a its.toArray/\xs.length<=sizeLine:=by
 rcases h with h|⟨o,its,n,hk,hc,hs,hz,r⟩
 ·obtain⟨z,its,r,p⟩:=h.ok I.hok
  exact⟨its,r,p.is,z⟩
 ·refine⟨its.toList,r,⟨o,I.kIn a o hk,hc,n,by simpa using hs⟩,?_⟩
  have e:=r.length
  simp only[Array.length_toList] at e
  lia
theorem aU.list_inj(I:aU X pins σ H s)(h:bK X.K H a xs)(h':bK X.K H a ys):xs=ys:=by
 obtain⟨its,r,⟨o,n,e,_,_,d⟩,_⟩:=I.list h
 obtain⟨its',r',⟨o',n',e',_,_,d'⟩,_⟩:=I.list h'
 rw[e] at e';cases e'
 rw[d] at d'
 injection d' with d1 _
 have:its=its':=by simpa using dz Array.toList d1
 subst this
 exact r.inj r'
theorem aU.tuple_inj(I:aU X pins σ H s)(h:aR X.K H a xs)(h':aR X.K H a ys):xs=ys:=by
 obtain⟨its,r,⟨o,e,_,n,d⟩,_⟩:=I.tuple h
 obtain⟨its',r',⟨o',e',_,n',d'⟩,_⟩:=I.tuple h'
 rw[e] at e';cases e'
 rw[d] at d'
 injection d' with d1 _
 have:its=its':=by simpa using dz Array.toList d1
 subst this
 exact r.inj r'
end
abbrev Cx.wish(X:Cx)(E:Value->Shared->Prop):Cx:={ X with xe:=E }
abbrev Cx.nox(X:Cx):Cx:=X.wish fun _ _=>False
theorem Cx.Ok.wish{X:Cx}(ok:X.Ok)(E:Value->Shared->Prop):(X.wish E).Ok:=
 ⟨ok.mod,ok.kind,ok.glob,ok.blt,ok.above,ok.inj,ok.has,ok.cab,ok.hd,ok.frames,ok.stk,ok.exf,ok.bs,ok.bsz,ok.noex,ok.exfs,ok.funs,ok.frf⟩
theorem Cx.Ok.unwish{X:Cx}{E:Value->Shared->Prop}(ok:(X.wish E).Ok):X.Ok:=
 ⟨ok.mod,ok.kind,ok.glob,ok.blt,ok.above,ok.inj,ok.has,ok.cab,ok.hd,ok.frames,ok.stk,ok.exf,ok.bs,ok.bsz,ok.noex,ok.exfs,ok.funs,ok.frf⟩
section
variable {X:Cx}{pins:List (Addr×Obj)}{σ:St}{H:Hp}{s:Shared}{E:Value->Shared->Prop}
theorem aU.wish(I:aU X pins σ H s)(E:Value->Shared->Prop):aU (X.wish E) pins σ H s:=⟨I.ok.wish E,I.os,I.bare,I.base,I.loc,I.cell,I.free,I.freeC,I.pin,I.hok,I.len⟩
theorem aU.unwish(I:aU (X.wish E) pins σ H s):aU X pins σ H s:=⟨I.ok.unwish,I.os,I.bare,I.base,I.loc,I.cell,I.free,I.freeC,I.pin,I.hok,I.len⟩
theorem SP.unwish{D:jK}{f:Flow}{s':Shared}(h:SP (X.wish E) pins D f s'):SP X pins D f s':=by
 cases f with
 |next=>obtain⟨σ',H',I,q⟩:=h;exact⟨σ',H',I.unwish,q⟩
 |brk=>obtain⟨σ',H',I,q⟩:=h;exact⟨σ',H',I.unwish,q⟩
 |cont=>obtain⟨σ',H',I,q⟩:=h;exact⟨σ',H',I.unwish,q⟩
 |ret u=>obtain⟨v,σ',H',I,r,q⟩:=h;exact⟨v,σ',H',I.unwish,r,q⟩
theorem nL.nox{st:List Stmt}{t:TS}(h:nL X.nox st t):nL X st t:=fun pins s σ H D I hw =>
 dm (h pins s σ H D (I.wish _) hw) (fun _ _ q=>q.unwish) fun _ _ z=>False.elim z
end
section
variable {X:Cx}{st:Stmt}{bM:List Stmt}{t u:TS}{e:Expr}{te:TE}{pos:Pos}
def tNext:TS:=fun D σ H=>D.nx σ H
def bR8(t u:TS):TS:=fun D σ H=>t { D with nx:=u D } σ H
theorem aP:nL X [] tNext:=fun _ _ σ H _ I h=>na ⟨σ,H,I,h⟩
theorem aF(h1:PS X st t)(h2:nL X bM u):nL X (st::bM) (bR8 t u):=by
 intro pins s σ H D I h
 refine tm (cK (h1 pins s σ H { D with nx:=u D } I h) fun f s1 q=>?_)
 cases f with
 |next =>
  obtain⟨σ',H',I',q⟩:=q
  exact h2 pins s1 σ' H' D I' q
 |ret v=>exact q
 |brk=>exact q
 |cont=>exact q
theorem aE(h1:PS X st t):nL X [st] t:=by
 intro pins s σ H D I h
 refine tm (cK (h1 pins s σ H D I h) fun f s1 q=>?_)
 cases f with
 |next=>exact na q
 |ret v=>exact q
 |brk=>exact q
 |cont=>exact q
theorem aU.quiet{pins:List (Addr×Obj)}{σ:St}{H:Hp}{s:Shared}(I:aU X pins σ H s):interactive X.env=false:=by simp[interactive,I.ok.kind]
def bZ7(te:TE):TS:=fun D σ H=>te σ H fun _ H1=>D.nx σ H1
theorem cL(he:PE X e te)(hs:autoParam (swapsWith e none pos.line X.env=pure false) Rq0._auto_1):PS X (.Expr e pos) (bZ7 te):=by
 intro pins s σ H D I h
 refine wpAny_Expr_any (cK (he pins s σ H _ I h) ?_) I.quiet hs;rintro v s1 ⟨x,H1,I1,r1,q1⟩;exact⟨σ,H1,I1,q1⟩
def cE8(te:TE):TS:=fun D σ H=>te σ H D.rt
theorem aM(he:PE X e te):PS X (.Return (some e) pos) (cE8 te):=by
 intro pins s σ H D I h
 refine wpAny_Return_some (cK (he pins s σ H _ I h) ?_);rintro v s1 ⟨x,H1,I1,r1,q1⟩;exact⟨x,σ,H1,I1,r1,q1⟩
def cD7(c:TT)(t u:TS):TS:=fun D σ H=>c σ H fun b H1=>if b=true then t D σ H1 else u D σ H1
theorem bA{c:Expr}{a b:List Stmt}{tc:TT}(hc:PT X c tc)(ha:nL X a t)(hb:nL X b u):PS X (.If c a b pos) (cD7 tc t u):=by
 intro pins s σ H D I h
 refine wpAny_If (cK (hc pins s σ H _ I h) ?_);rintro d s1 ⟨H1,I1,q1⟩
 cases d with
 |true=>exact ha pins s1 σ H1 D I1 q1
 |false=>exact hb pins s1 σ H1 D I1 q1
def tNever:TS:=fun _ _ _=>False
theorem iZ{sts:List Stmt}:nL X sts tNever:=fun _ _ _ _ _ _ h=>h.elim
end
abbrev TG:=V->St->Hp->(St->Hp->Prop)->Prop
abbrev TGs:=List V->St->Hp->(St->Hp->Prop)->Prop
def PG(X:Cx)(target:Expr)(t:TG):Prop:=
 ∀(pins:List (Addr×Obj)) (s:Shared) (σ:St) (H:Hp) (v:V) (u:Value) (Q:St->Hp->Prop),aU X pins σ H s->bJ v u->t v σ H Q ->
  wpAny (model X.prog X.w) X.A (assign target X.env u) (fun _ s'=>∃σ' H',aU X pins σ' H' s'/\Q σ' H') X.xe s
def PGs(X:Cx)(ts:List Expr)(t:TGs):Prop:=
 ∀(pins:List (Addr×Obj)) (s:Shared) (σ:St) (H:Hp) (vs:List V) (us:List Value) (Q:St->Hp->Prop),aU X pins σ H s->bI vs us->t vs σ H Q ->
  wpAny (model X.prog X.w) X.A (assignInOrder ((assignEach ts X.env).map (·.2)) us) (fun _ s'=>∃σ' H',aU X pins σ' H' s'/\Q σ' H') X.xe s
abbrev TSet:=V->V->V->Hp->(Hp->Prop)->Prop
def bC9(X:Cx)(t:TSet):Prop:=
 ∀(pins:List (Addr×Obj)) (s:Shared) (σ:St) (H:Hp) (o i v:V) (ov iv u:Value) (Q:Hp->Prop),aU X pins σ H s->bJ o ov->bJ i iv->bJ v u->t o i v H Q ->
  wpAny (model X.prog X.w) X.A (setItem ov iv u) (fun _ s'=>∃H',aU X pins σ H' s'/\Q H') X.xe s
abbrev TIp:=V->V->Hp->VK->Prop
def PIp(X:Cx)(op:Operator)(t:TIp):Prop:=
 ∀(pins:List (Addr×Obj)) (s:Shared) (σ:St) (H:Hp) (x y:V) (v u:Value) (Q:VK),aU X pins σ H s->bJ x v->bJ y u->t x y H Q ->
  wpAny (model X.prog X.w) X.A (inplaceOp op v u) (EP X pins σ Q) X.xe s
section
variable {X:Cx}{pos:Pos}
def tT(i:Nat):TG:=fun v σ H Q=>Q (σ.set i (some v)) H
theorem pJ{i:Nat}{x:Str}(hN:X.N.Nodup)(hi:X.N[i]?=some x)(hx:Loc X.env.scope x)(hf:autoParam (X.fn x=true\/X.env.scope.names.lookup x=some .local) Rq3._auto_1):PG X (.Name x pos) (tT i):=by
 intro pins s σ H v u Q I r h
 exact ym (hV I hN hi hx r (fun s' I'=>⟨_,H,I',h⟩) hf)
def gNil:TGs:=fun vs σ H Q=>vs=[]/\Q σ H
inductive bG9(t:TG)(u:TGs)(vs:List V)(σ:St)(H:Hp)(Q:(St->Hp->Prop)):Prop
 |mk:∀v r,(vs=v::r)->(t v σ H fun σ' H'=>u r σ' H' Q)->bG9 t u vs σ H Q
theorem fB:PGs X [] gNil:=by
 intro pins s σ H vs us Q I r h
 obtain⟨e,h⟩:=h
 subst e
 cases r
 exact yn ⟨σ,H,I,h⟩
theorem aY{e:Expr}{es:List Expr}{t:TG}{u:TGs}(h1:PG X e t)(h2:PGs X es u)
  (hs:autoParam ((assignEach (e::es) X.env).map (·.2)=assign e X.env::(assignEach es X.env).map (·.2)) Rq0._auto_1):PGs X (e::es) (bG9 t u):=by
 intro pins s σ H vs us Q I r h
 obtain⟨v,vr,e1,h⟩:=h
 subst e1
 cases r with
 |cons r rr =>
  rw[hs]
  refine qy (cK (h1 pins s σ H _ _ _ I r h) ?_);rintro _ s1 ⟨σ1,H1,I1,q1⟩
  exact h2 pins s1 σ1 H1 _ _ Q I1 rr q1
inductive bJ5(K:PySem.W.Frag)(n:Nat)(t:TGs)(v:V)(σ:St)(H:Hp)(Q:(St->Hp->Prop)):Prop
 |mk:∀a xs,(v= .ref a)->(aR K H a xs)->(xs.length=n)->(t xs σ H Q)->bJ5 K n t v σ H Q
theorem iO{es:List Expr}{k:Nat}{t:TGs}{n:Nat}(hc:X.calm=true)(h:PGs X es t)
  (hn:autoParam ((assignEach es X.env).length=n) Rq0._auto_1) (hst:autoParam ((assignEach es X.env).findIdx? (·.1)=none) Rq0._auto_1):PG X (.Tuple es k pos) (bJ5 X.K n t):=by
 intro pins s σ H v u Q I r hw
 obtain⟨a,xs,e1,hq,hl,hw⟩:=hw
 subst e1
 cases r
 obtain⟨its,rv,ht,hz⟩:=I.tuple hq
 refine assign_Tuple_tuple (I.ok.hd hc) ht (by simp[hn, <-hl,rv.length]) hst fun h' hx=>?_
 have I1:aU X pins σ H { s with heap:=h' }:=I.kept (t':=s.toks) fun b o e=>hx b o (bw (ay e)) e
 exact h pins _ σ H xs _ Q I1 (by simpa using rv) hw
def cC6(to ti:TE)(t:TSet):TG:=fun v σ H Q=>to σ H fun o H1=>ti σ H1 fun i H2=>t o i v H2 fun H3=>Q σ H3
theorem bO2{o i:Expr}{to ti:TE}{t:TSet}(ho:PE X o to)(hi:PE X i ti)(hs:bC9 X t)
  (ha:autoParam (∀v,assign (.Subscript o i pos) X.env v=(do
   let ov <-holding [v] (eval o X.env)
   let iv <-holding [v,ov] (eval i X.env)
   standAt pos
   holding [v,ov,iv] (setItem ov iv v)
   release [v,ov,iv] [])) Rq4._auto_1):PG X (.Subscript o i pos) (cC6 to ti t):=by
 intro pins s σ H v u Q I r h
 rw[ha]
 refine aa (ej (cK (ho pins s σ H _ I h) ?_));rintro ov s1 ⟨x,H1,I1,r1,q1⟩
 refine aa (ej (cK (hi pins s1 σ H1 _ I1 q1) ?_));rintro iv s2 ⟨y,H2,I2,r2,q2⟩
 refine aa (rg (aa (ej (cK (hs pins s2 σ H2 x y v ov iv u _ I2 r1 r2 r q2) ?_))));rintro _ s3 ⟨H3,I3,q3⟩
 exact wpAny_release ⟨σ,H3,I3,q3⟩
def aJ6(te:TE)(g:TG):TS:=fun D σ H=>te σ H fun x H1=>g x σ H1 D.nx
theorem lZ{tg e:Expr}{te:TE}{g:TG}(he:PE X e te)(hg:PG X tg g)(hs:autoParam (swapsWithSole [tg] e pos.line X.env=pure false) Rq0._auto_1)(hw:autoParam (swappedStores [tg] e X.env=pure none) Rq0._auto_1)
  (h1:autoParam ((assignEach [tg] X.env).map (·.2)=[assign tg X.env]) Rq0._auto_1):PS X (.Assign [tg] e pos) (aJ6 te g):=by
 intro pins s σ H D I h
 refine wpAny_Assign_stores (cK (he pins s σ H _ I h) ?_) hs hw;rintro v s1 ⟨x,H1,I1,r1,q1⟩
 rw[h1]
 exact cK (hg pins s1 σ H1 x v _ I1 r1 q1) fun _ s2 q=>q
theorem fW{i:Nat}{x:Str}{e:Expr}{te:TE}{pos':Pos}(hN:X.N.Nodup)(hi:X.N[i]?=some x)(hx:Loc X.env.scope x)(he:PE X e te)(hs:autoParam (swapsWith e (some (.Name x pos')) pos.line X.env=pure false) Rq0._auto_1)(hf:autoParam (X.fn x=true\/X.env.scope.names.lookup x=some .local) Rq3._auto_1) :
  PS X (.Assign [.Name x pos'] e pos) (aJ6 te (tT i)):=by
 intro pins s σ H D I h
 refine wpAny_Assign_Name (cK (he pins s σ H _ I h) ?_) hs;rintro v s1 ⟨y,H1,I1,r1,q1⟩
 exact hV I1 hN hi hx r1 (fun s2 I2=>⟨_,H1,I2,q1⟩) hf
def cF2(i j:Nat)(ta:TA):TS:=fun D σ H=>ta σ H fun vs H1=>∃v w,vs=[v,w]/\D.nx ((σ.set i (some v)).set j (some w)) H1
theorem aO1{i j:Nat}{x y:Str}{a b:Expr}{ta:TA}{px py pt:Pos}{kt k2 pt2}(hc:X.calm=true)(hN:X.N.Nodup)(hi:X.N[i]?=some x)(hj:X.N[j]?=some y)(hij:i≠j)
  (hx:X.env.scope.names.lookup x=some .local) (hy:X.env.scope.names.lookup y=some .local) (ha:PA X [a,b] ta)
  (hw:swappedStores [.Tuple [.Name x px,.Name y py] kt pt] (.Tuple [a,b] k2 pt2) X.env=pure (some [x,y]))
  (hs:autoParam (swapsWithSole [.Tuple [.Name x px,.Name y py] kt pt] (.Tuple [a,b] k2 pt2) pos.line X.env=pure false) Rq0._auto_1) :
  PS X (.Assign [.Tuple [.Name x px,.Name y py] kt pt] (.Tuple [a,b] k2 pt2) pos) (cF2 i j ta):=by
 intro pins s σ H D I h
 rw[exec_Assign_arm]
 refine aa (rg ?_)
 rw[hs]
 refine aa (aj ?_)
 rw[av (by decide)]
 refine aa (Tuple_ (cK (ha _ pins s σ H _ I h) ?_));rintro us s1 ⟨vs,H1,I1,r1,q1⟩
 obtain⟨v,w,e1,q1⟩:=q1
 subst e1
 obtain⟨u1,u2,rfl,rv,rw'⟩:∃u1 u2,us=[u1,u2]/\bJ v u1/\bJ w u2:=by
  cases r1 with
  |cons p q =>
   cases q with
   |cons p' q' =>
    cases q'
    exact⟨_,_,rfl,p,p'⟩
 refine fg ?_ (by show 2<=sizeLine;decide)
 have I2:aU X pins σ H1 { s1 with heap:=s1.heap.push { cls:= .type "tuple",data:= .seq [u1,u2].toArray } }:=I1.kept (t':=s1.toks) fun b o e=>ae _ e
 rw[hw]
 refine aa (aj ?_)
 show wpAny (model X.prog X.w) X.A (do rule "assign.swapped-stores";let items <-unpackItems (.ref s1.heap.objs.size) 2 none;assignInOrder [fun v=>bindName X.env y v,fun v=>bindName X.env x v] items.reverse;pure Flow.next) _ _ _
 refine aa (nz (aa (unpackItems_tuple (items:= #[u1,u2]) (I.ok.hd hc) (IsTup.new s1.heap _) fun h' hx'=>?_)))
 have I3:=I2.kept (h':=h') (t':=s1.toks) fun b o e=>hx' b o (bw (ay e)) e
 show wpAny _ _ (assignInOrder [fun v=>bindName X.env y v,fun v=>bindName X.env x v] [u2,u1]>>=fun _=>pure Flow.next) _ _ _
 refine aa (qy (vq (hV I3 hN hj (.inl hy) rw' (fun s2 I4=>?_) (.inr hy))))
 refine qy (vq (hV I4 hN hi (.inl hx) rv (fun s3 I5=>yn (aj ?_)) (.inr hx)))
 rw[List.set_comm _ _ (Ne.symm hij)] at I5
 exact⟨_,H1,I5,q1⟩
inductive bT1(i:Nat)(te:TE)(ti:TIp)(D:jK)(σ:St)(H:Hp):Prop
 |mk:∀x,(σ[i]?=some (some x))->(te σ H fun y H1=>ti x y H1 fun z H2=>D.nx (σ.set i (some z)) H2)->bT1 i te ti D σ H
theorem xZ{i:Nat}{x:Str}{e:Expr}{te:TE}{op:Operator}{ti:TIp}{pos':Pos}(hN:X.N.Nodup)(hi:X.N[i]?=some x)(hx:Loc X.env.scope x)(he:PE X e te)(ho:PIp X op ti)(hf:autoParam (X.fn x=true\/X.env.scope.names.lookup x=some .local) Rq3._auto_1) :
  PS X (.AugAssign (.Name x pos') op e pos) (bT1 i te ti):=by
 intro pins s σ H D I h
 obtain⟨v,e1,h⟩:=h
 obtain⟨m,hn,hl⟩:=I.loc
 have vis:Vis X.env.scope x:=by rcases hx with k|k;exact .inl k;exact .inr (.inl k)
 obtain⟨u,r,l⟩:=hl i x v hi e1 vis
 refine wpAny_AugAssign_Name ?_
 have go:wpAny (model X.prog X.w) X.A (eval e X.env) (fun w s₂=>wpAny (model X.prog X.w) X.A (inplaceOp op u w) (fun r s₃=>wpAny (model X.prog X.w) X.A (storeName X.env x r) (fun _=>SP X pins D .next) X.xe s₃) X.xe s₂) X.xe s:=by
  refine cK (he pins s σ H _ I h) ?_;rintro w s1 ⟨y,H1,I1,r1,q1⟩
  refine cK (ho pins s1 σ H1 v y u w _ I1 r r1 q1) ?_;rintro z s2 ⟨zv,H2,I2,r2,q2⟩
  exact hV I2 hN hi hx r2 (fun s3 I3=>⟨_,H2,I3,q2⟩) hf
 rcases l with⟨hk,hm⟩|⟨hk,c,hc,hcell⟩
 ·exact wk I.ok.kind hk hn hm go
 ·rcases hk with hk|hk
  ·exact xg I.ok.kind hk hc hcell go
  ·rcases hx with k|k
   ·have:X.env.scope.names.lookup x=some .free:=hk
    rw[k] at this;cases this
   ·have:X.env.scope.names.lookup x=some .free:=hk
    rw[k] at this;cases this
def bW9(to ti te:TE)(tget:V->V->Hp->VK->Prop)(tip:TIp)(tset:TSet):TS:=fun D σ H=>to σ H fun o H1=>ti σ H1 fun i H2=>tget o i H2 fun x H3=>te σ H3 fun y H4=>tip x y H4 fun z H5=>tset o i z H5 fun H6=>D.nx σ H6
def bT5(X:Cx)(t:V->V->Hp->VK->Prop):Prop:=
 ∀(pins:List (Addr×Obj)) (s:Shared) (σ:St) (H:Hp) (o i:V) (ov iv:Value) (Q:VK),aU X pins σ H s->bJ o ov->bJ i iv->t o i H Q ->
  wpAny (model X.prog X.w) X.A (getItem ov iv) (EP X pins σ Q) X.xe s
theorem uZ{o i e:Expr}{to ti te:TE}{tget:V->V->Hp->VK->Prop}{tip:TIp}{tset:TSet}{op:Operator}{tpos:Pos}(ho:PE X o to)(hi:PE X i ti)(hg:bT5 X tget)(he:PE X e te)(hp:PIp X op tip)(hs:bC9 X tset)
  (ha:autoParam (∀ov iv new,augStore i ov iv new=(do holding [new,ov,iv] (setItem ov iv new);release [new,ov,iv] [];pure .next)) Rq2._auto_1):PS X (.AugAssign (.Subscript o i tpos) op e pos) (bW9 to ti te tget tip tset):=by
 intro pins s σ H D I h
 refine wpAny_AugAssign_SubscriptAny (cK (ho pins s σ H _ I h) ?_) ha;rintro ov s1 ⟨x1,H1,I1,r1,q1⟩
 refine cK (hi pins s1 σ H1 _ I1 q1) ?_;rintro iv s2 ⟨x2,H2,I2,r2,q2⟩
 refine cK (hg pins s2 σ H2 x1 x2 ov iv _ I2 r1 r2 q2) ?_;rintro old s3 ⟨x3,H3,I3,r3,q3⟩
 refine cK (he pins s3 σ H3 _ I3 q3) ?_;rintro v s4 ⟨x4,H4,I4,r4,q4⟩
 refine cK (hp pins s4 σ H4 x3 x4 old v _ I4 r3 r4 q4) ?_;rintro new s5 ⟨x5,H5,I5,r5,q5⟩
 refine cK (hs pins s5 σ H5 x1 x2 x5 ov iv new _ I5 r1 r2 r5 q5) ?_;rintro _ s6 ⟨H6,I6,q6⟩;exact⟨σ,H6,I6,q6⟩
inductive ipI(f:Int->Int->Int)(x:V)(y:V)(H:Hp)(Q:VK):Prop
 |mk:∀i j,(x= .int i)->(y= .int j)->(Q (.int (f i j)) H)->ipI f x y H Q
theorem oH:PIp X .Add (ipI fun i j=>i+j):=by
 intro pins s σ H x y v u Q I r1 r2 h
 obtain⟨i,j,e1,e2,q⟩:=h
 subst e1;subst e2
 obtain⟨t,rfl⟩:=r1
 obtain⟨t',rfl⟩:=r2
 exact iadd_int ⟨.int _,H,I.tok _,⟨_,rfl⟩,q⟩
inductive aQ4(c:TT)(tb:TS)(D:jK)(σ:St)(H:Hp):Prop
 |mk:∀W:Nat->St->Hp->Prop,((∃m,W m σ H))->(∀m σ H,W m σ H->c σ H fun b H1=>if b=true then ∃N:St->Hp->Prop,(∀σ' H',N σ' H'->∃m',m'<m/\W m' σ' H')/\tb { D with nx:=N,ct:=N,bk:=D.nx } σ H1 else D.nx σ H1)->aQ4 c tb D σ H
theorem iV{c:Expr}{body:List Stmt}{tc:TT}{tb:TS}(hp:PassesOwn (model X.prog X.w) X.A X.env X.xe)(hc:PT X c tc)(hb:nL X body tb):PS X (.While c body [] pos) (aQ4 tc tb):=by
 intro pins s σ H D I h
 obtain⟨W,⟨m0,w0⟩,turn⟩:=h
 refine wpAny_While (codeAny_whileLoop (fun n s'=>∃σ' H',aU X pins σ' H' s'/\W n σ' H') ?_ m0 ⟨σ,H,I,w0⟩)
 rintro n s1 ⟨σ1,H1,I1,w1⟩
 refine jq hp (cK (hc pins s1 σ1 H1 _ I1 (turn n σ1 H1 w1)) ?_);rintro b s2 ⟨H2,I2,q2⟩
 cases b with
 |true =>
  obtain⟨N,hN,q2⟩:=q2
  rw[bg rfl]
  refine jq hp (cK (hb pins s2 σ1 H2 _ I2 q2) fun f s3 q3=>?_)
  cases f with
  |next =>
   obtain⟨σ3,H3,I3,n3⟩:=q3
   obtain⟨m',hm,w3⟩:=hN σ3 H3 n3
   exact⟨m',hm,σ3,H3,I3,w3⟩
  |cont =>
   obtain⟨σ3,H3,I3,n3⟩:=q3
   obtain⟨m',hm,w3⟩:=hN σ3 H3 n3
   exact⟨m',hm,σ3,H3,I3,w3⟩
  |brk=>exact q3
  |ret v=>exact q3
 |false =>
  rw[av bj]
  exact na ⟨σ1,H2,I2,q2⟩
end
structure It where
 go:Nat->Hp->Prop
 yld:Nat->Hp->V->Hp->Prop
 stop:Nat->Hp->Prop
def lJ(X:Cx)(pins:List (Addr×Obj))(H:Hp)(b:Addr):Prop:=
 H b=none/\b≠X.env.locals/\b∉X.fs/\(b∈X.ex\/X.s₀.heap.objs.size<=b)/\(∀x c,X.env.cells.lookup x=some c->c≠b)/\∀p∈X.pn++pins,p.1≠b
theorem aU.fpOk{X:Cx}{pins:List (Addr×Obj)}{σ:St}{H H':Hp}{s:Shared}{b:Addr}(I:aU X pins σ H s)(hb:s.heap.objs.size<=b)(hn:H' b=none):lJ X pins H' b:=by
 refine⟨hn,jp (bx I.lt hb),I.nofs hb,.inr (cp I.sz hb),fun x c e z=>?_,fun p hp z=>?_⟩
 ·obtain⟨v,q⟩:=I.cell x c e
  exact absurd (bx q.lt (by rw[z];exact hb)) (fw _)
 ·exact absurd (bx (ay (I.pin p hp).1) (by rw[z];exact hb)) (fw _)
structure uO(P:Program)(w:World)(K:PySem.W.Frag)(tg:Expr)(J:It)(fp:List Addr)(it:Addr)(tn:Nat->Heap->Prop):Prop where
 mem:it∈fp
 obj:∀i h,tn i h->∀b∈fp,∃o,h.get? b=some o/\∀v,o.data≠ .cell v
 keep:∀i h h',tn i h->(∀b∈fp,∀o,h.get? b=some o->h'.get? b=some o)->tn i h'
 item:∀(X:Cx),X.prog=P->X.w=w->X.K=K->X.calm=true->∀(i:Nat) (pins:List (Addr×Obj)) (s:Shared) (σ:St) (H:Hp) (E:Value->Shared->Prop),aU X pins σ H s->(∀b∈fp,lJ X pins H b)->tn i s.heap->J.go i H ->
  wpAny (model P w) X.A (pyNext (.ref it)) (fun r s1=>∃u,r=some u /\
   wpAny (model P w) X.A (letOwnedTupleGo tg (.ref it) u) (fun _ s2=>∃x H',aU X pins σ H' s2/\bJ x u/\J.yld i H x H'/\tn (i+1) s2.heap/\∀b∈fp,H' b=none) E s1) E s
 done:∀(X:Cx),X.prog=P->X.w=w->X.K=K->X.calm=true->∀(i:Nat) (pins:List (Addr×Obj)) (s:Shared) (σ:St) (H:Hp) (E:Value->Shared->Prop),aU X pins σ H s->(∀b∈fp,lJ X pins H b)->tn i s.heap->J.stop i H ->
  wpAny (model P w) X.A (pyNext (.ref it)) (fun r s1=>r=none/\aU X pins σ H s1) E s
 self:∀(A:Around) (i:Nat) (s:Shared) (Q:Value->Shared->Prop) (E:Value->Shared->Prop),tn i s.heap->Q (.ref it) s->wpAny (model P w) A (pyIter (.ref it)) Q E s
abbrev TI:=St->Hp->(It->Hp->Prop)->Prop
def PIE(X:Cx)(pins:List (Addr×Obj))(σ:St)(tg:Expr)(R:It->Hp->Prop)(itv:Value)(s2:Shared):Prop:=
 ∃(it:Addr) (fp:List Addr) (tn:Nat->Heap->Prop) (J:It) (H':Hp),itv= .ref it/\aU X pins σ H' s2/\uO X.prog X.w X.K tg J fp it tn/\tn 0 s2.heap/\(∀b∈fp,lJ X pins H' b)/\R J H'
def PI(X:Cx)(tg iter:Expr)(wi:TI):Prop:=
 ∀(pins:List (Addr×Obj)) (s:Shared) (σ:St) (H:Hp) (R:It->Hp->Prop),aU X pins σ H s->wi σ H R ->
  wpAny (model X.prog X.w) X.A (eval iter X.env) (fun v s1=>wpAny (model X.prog X.w) X.A (pyIter v) (PIE X pins σ tg R) X.xe s1) X.xe s
theorem go_of{M : Model}{A : Around}{E : Value -> Shared -> Prop}{s : Shared}{tg : Expr}{it : Addr}{u : Value}{o : Obj}{n : String}{vs : Array Value}{Q : Unit -> Shared -> Prop}(ho : s.heap.get? it = some o)(hc : o.cls = .type n)(hd : o.data = .fields vs)
    (hn : ["enumerate", "zip", "dict_itemiterator", "dict_reverseitemiterator", "odict_iterator", "itertools.zip_longest", "itertools.pairwise"].contains n = false) (hQ : Q () s) : wpAny M A (letOwnedTupleGo tg (.ref it) u) Q E s:= by
  unfold letOwnedTupleGo
  cases tg<;>first
    | exact aj hQ
    | (cases u<;>first
        | exact aj hQ
        | (refine aa (wpAny_load ho ?_)
           rw[hc,hd]
           show wpAny M A (if (["enumerate", "zip", "dict_itemiterator", "dict_reverseitemiterator", "odict_iterator", "itertools.zip_longest", "itertools.pairwise"].contains n&&vs[0]? == some (rawInt _)) = true then _ else _) Q E s
           rw[av (by intro h; rw[hn,Bool.false_and] at h; cases h)]
           exact aj hQ))
def Itl(K:PySem.W.Frag)(a:Addr):It:=
 ⟨fun i H=>∃xs x,bK K H a xs/\xs[i]?=some x,fun i H x H'=>H'=H/\∀xs,bK K H a xs->xs[i]?=some x,fun i H=>∃xs,bK K H a xs/\xs.length<=i⟩
def Itt(K:PySem.W.Frag)(a:Addr):It:=
 ⟨fun i H=>∃xs x,aR K H a xs/\xs[i]?=some x,fun i H x H'=>H'=H/\∀xs,aR K H a xs->xs[i]?=some x,fun i H=>∃xs,aR K H a xs/\xs.length<=i⟩
def Itr(lo:Int)(n:Nat):It:=⟨fun i _=>i<n,fun i H x H'=>H'=H/\x= .int (lo+i),fun i _=>n<=i⟩
theorem aJ2{P:Program}{w:World}{K:PySem.W.Frag}{tg:Expr}(a it:Addr):uO P w K tg (Itl K a) [it] it (fun i h=>h.IsListIter it a i) where
 mem:=by simp
 obj:=fun i h st b hb=>by
  have e:b=it:=by simpa using hb
  subst e
  obtain⟨o,e,c,d⟩:=st
  exact⟨o,e,fun v z=>by rw[d] at z;cases z⟩
 keep:=fun i h h' st k=>st.at fun o e=>k it (by simp) o e
 item:=by
  intro X hP hw hK hc i pins s σ H E I hf st hg
  subst hP hw hK
  obtain⟨xs,x,hq,hx⟩:=hg
  obtain⟨its,rv,p,hz⟩:=I.list hq
  obtain⟨u,hu,ru⟩:=rv.get hx
  obtain⟨f0,f1,f2,f3,f4,f5⟩:=hf it (by simp)
  refine vi st p.isList (x:=u) (by simpa using hu) fun h' st' sb=>?_
  have I1:aU X pins σ H { s with heap:=h' }:=I.turned (t':=s.toks) (fun b o hb e=>(sb.2 b hb).trans e) f0 f1 f3 f4 f5
  obtain⟨o,e,c,d⟩:=id st'
  exact⟨u,rfl,go_of (s:={ s with heap:=h' }) e c d (by decide) ⟨x,H,I1,ru,⟨rfl,fun ys hy=>by rw[I.list_inj hy hq];exact hx⟩,st',fun b hb=>(hf b hb).1⟩⟩
 done:=by
  intro X hP hw hK hc i pins s σ H E I hf st hg
  subst hP hw hK
  obtain⟨xs,hq,hx⟩:=hg
  obtain⟨its,rv,p,hz⟩:=I.list hq
  obtain⟨f0,f1,f2,f3,f4,f5⟩:=hf it (by simp)
  have hl:=rv.length
  exact vt (I.ok.hd hc) st p.isList (by simp;lia) fun h' eb=>⟨rfl,I.turned (t':=s.toks) (fun b o hb e=>eb b o hb e) f0 f1 f3 f4 f5⟩
 self:=fun _ _ _ _ _ st h=>wpAny_pyIter_listiter st h
theorem yC{P:Program}{w:World}{K:PySem.W.Frag}{tg:Expr}(a it:Addr):uO P w K tg (Itt K a) [it] it (fun i h=>h.IsTupleIter it a i) where
 mem:=by simp
 obj:=fun i h st b hb=>by
  have e:b=it:=by simpa using hb
  subst e
  obtain⟨o,e,c,d⟩:=st
  exact⟨o,e,fun v z=>by rw[d] at z;cases z⟩
 keep:=fun i h h' st k=>st.at fun o e=>k it (by simp) o e
 item:=by
  intro X hP hw hK hc i pins s σ H E I hf st hg
  subst hP hw hK
  obtain⟨xs,x,hq,hx⟩:=hg
  obtain⟨its,rv,p,hz⟩:=I.tuple hq
  obtain⟨u,hu,ru⟩:=rv.get hx
  obtain⟨f0,f1,f2,f3,f4,f5⟩:=hf it (by simp)
  refine wpAny_pyNext_tuple_item st (show s.heap.IsTuple a its.toArray from p) (x:=u) (by simpa using hu) fun h' st' sb=>?_
  have I1:aU X pins σ H { s with heap:=h' }:=I.turned (t':=s.toks) (fun b o hb e=>(sb.2 b hb).trans e) f0 f1 f3 f4 f5
  obtain⟨o,e,c,d⟩:=id st'
  exact⟨u,rfl,go_of (s:={ s with heap:=h' }) e c d (by decide) ⟨x,H,I1,ru,⟨rfl,fun ys hy=>by rw[I.tuple_inj hy hq];exact hx⟩,st',fun b hb=>(hf b hb).1⟩⟩
 done:=by
  intro X hP hw hK hc i pins s σ H E I hf st hg
  subst hP hw hK
  obtain⟨xs,hq,hx⟩:=hg
  obtain⟨its,rv,p,hz⟩:=I.tuple hq
  obtain⟨f0,f1,f2,f3,f4,f5⟩:=hf it (by simp)
  have hl:=rv.length
  exact wpAny_pyNext_tuple_end (I.ok.hd hc) st (show s.heap.IsTuple a its.toArray from p) (by simp;lia) fun h' eb=>⟨rfl,I.turned (t':=s.toks) (fun b o hb e=>eb b o hb e) f0 f1 f3 f4 f5⟩
 self:=fun _ _ _ _ _ st h=>wpAny_pyIter_tupleiter st h
theorem yA{P:Program}{w:World}{K:PySem.W.Frag}{tg:Expr}(it:Addr)(lo:Int)(n:Nat):uO P w K tg (Itr lo n) [it] it (fun i h=>IsRangeIter h it (lo+(i:Nat)*1) ((n:Int)-(i:Nat)) 1) where
 mem:=by simp
 obj:=fun i h st b hb=>by
  have e:b=it:=by simpa using hb
  subst e
  exact⟨_,st,fun v z=>by
   have z':Data.fields _=Data.cell v:=z
   cases z'⟩
 keep:=fun i h h' st k=>k it (by simp) _ st
 item:=by
  intro X hP hw hK hc i pins s σ H E I hf st hg
  subst hP hw hK
  obtain⟨f0,f1,f2,f3,f4,f5⟩:=hf it (by simp)
  have W:=Walks.range (prog:=X.prog) (w:=X.w) (I.ok.hd hc) it lo 1 n
  refine W.item i s _ _ hg st fun v h' tk hv st' kk=>?_
  obtain⟨t,rfl⟩:=hv
  have I1:aU X pins σ H { s with heap:=h',toks:=tk }:=I.turned (fun b o hb e=>kk b o (by simpa using hb) e) f0 f1 f3 f4 f5
  refine⟨_,rfl,go_of (s:={ s with heap:=h',toks:=tk }) (n:="range_iterator") st' rfl rfl (by decide) ⟨.int (lo+i),H,I1,⟨t,?_⟩,⟨rfl,rfl⟩,st',fun b hb=>(hf b hb).1⟩⟩
  rw[Int.mul_one]
 done:=by
  intro X hP hw hK hc i pins s σ H E I hf st hg
  subst hP hw hK
  obtain⟨f0,f1,f2,f3,f4,f5⟩:=hf it (by simp)
  exact wpAny_pyNext_range_end (I.ok.hd hc) st (by have:n<=i:=hg;lia) fun h' eb=>⟨rfl,I.turned (t':=s.toks) (fun b o hb e=>eb b o hb e) f0 f1 f3 f4 f5⟩
 self:=fun _ _ _ _ _ st h=>wpAny_pyIter_rangeiter st h
section
variable {X:Cx}{tg:Expr}
def bZ0(K:PySem.W.Frag)(tl:TE):TI:=fun σ H R=>tl σ H fun x H1=>∃a,x= .ref a/\(∃xs,bK K H1 a xs)/\R (Itl K a) H1
def cC4(K:PySem.W.Frag)(tl:TE):TI:=fun σ H R=>tl σ H fun x H1=>∃a,x= .ref a/\(∃xs,aR K H1 a xs)/\R (Itt K a) H1
theorem cU{l:Expr}{tl:TE}(hl:PE X l tl):PI X tg l (bZ0 X.K tl):=by
 intro pins s σ H R I h
 refine cK (hl pins s σ H _ I h) ?_;rintro v s1 ⟨x,H1,I1,r1,q1⟩
 obtain⟨a,e,⟨xs,hq⟩,q⟩:=q1
 subst e
 cases r1
 obtain⟨its,rv,p,hz⟩:=I1.list hq
 refine lm p.isList ?_
 refine⟨s1.heap.objs.size,[s1.heap.objs.size],_,_,H1,rfl,I1.kept (t':=s1.toks) fun b o e=>ae _ e,aJ2 a _,⟨_,bb _ rfl,rfl,rfl⟩,fun b hb=>?_,q⟩
 have e:b=s1.heap.objs.size:=by simpa using hb
 subst e
 exact I1.fpOk (ah _) (I1.hok.fresh (ah _))
theorem aW6{l:Expr}{tl:TE}(hl:PE X l tl):PI X tg l (cC4 X.K tl):=by
 intro pins s σ H R I h
 refine cK (hl pins s σ H _ I h) ?_;rintro v s1 ⟨x,H1,I1,r1,q1⟩
 obtain⟨a,e,⟨xs,hq⟩,q⟩:=q1
 subst e
 cases r1
 obtain⟨its,rv,p,hz⟩:=I1.tuple hq
 refine nj (show s1.heap.IsTuple a its.toArray from p) ?_
 refine⟨s1.heap.objs.size,[s1.heap.objs.size],_,_,H1,rfl,I1.kept (t':=s1.toks) fun b o e=>ae _ e,yC a _,⟨_,bb _ rfl,rfl,rfl⟩,fun b hb=>?_,q⟩
 have e:b=s1.heap.objs.size:=by simpa using hb
 subst e
 exact I1.fpOk (ah _) (I1.hok.fresh (ah _))
theorem aX8{pins:List (Addr×Obj)}{σ:St}{H:Hp}{s:Shared}{R:It->Hp->Prop}{E:Value->Shared->Prop}{lo hi:Int}{t u v:Tok}{tk:Nat}(I:aU X pins σ H s)(h1: -(2^62)<=lo)(h2:lo<2^62)(h3: -(2^62)<=hi)(h4:hi<2^62)
  (q:R (Itr lo (hi-lo).toNat) H):wpAny (model X.prog X.w) X.A (pyIter (.ref s.heap.objs.size)) (PIE X pins σ tg R) E { s with heap:=s.heap.push { cls:= .type "range",data:= .fields #[.int lo t,.int hi u,.int 1 v] },toks:=tk }:=by
 refine wpAny_pyIter_range (IsRange.new ..) (small_one h1 h2 h3 h4) ?_
 have I1:aU X pins σ H { s with heap:=s.heap.push { cls:= .type "range",data:= .fields #[.int lo t,.int hi u,.int 1 v] },toks:=tk }:=I.kept fun b o e=>ae _ e
 refine⟨(s.heap.push { cls:= .type "range",data:= .fields #[.int lo t,.int hi u,.int 1 v] }).objs.size,[(s.heap.push { cls:= .type "range",data:= .fields #[.int lo t,.int hi u,.int 1 v] }).objs.size],_,_,H,rfl,
  I1.kept (t':=tk) fun b o e=>ae _ e,yA _ lo (hi-lo).toNat,?_,fun b hb=>?_,q⟩
 ·have e1:lo+((0:Nat):Int)*1=lo:=by simp
  have e2:(((hi-lo).toNat:Nat):Int)-((0:Nat):Int)=Builtin.Range.rangeSize lo hi 1:=by rw[rangeSize_one];split<;>lia
  show IsRangeIter _ _ (lo+((0:Nat):Int)*1) ((((hi-lo).toNat:Nat):Int)-((0:Nat):Int)) 1
  rw[e1,e2]
  exact bb _ rfl
 ·have e:b=(s.heap.push { cls:= .type "range",data:= .fields #[.int lo t,.int hi u,.int 1 v] }).objs.size:=by simpa using hb
  subst e
  exact I1.fpOk (ah _) (I1.hok.fresh (ah _))
def bT7(ta:TA):TI:=fun σ H R=>ta σ H fun vs H1=>∃j:Int,vs=[.int j]/\ -(2^62)<=j/\j<2^62/\R (Itr 0 j.toNat) H1
theorem gU{a:Expr}{ta:TA}{p pos:Pos}(hg:Gl X "range")(hm:X.mg "range"=none)(ha:PA X [a] ta)(hs:autoParam (starEach [a] X.env=[(false,eval a X.env)]) Rq0._auto_1):PI X tg (.Call (.Name "range" p) [a] [] pos) (bT7 ta):=by
 intro pins s σ H R I h
 refine Call_ (kE I hg hm boot_range (ia (cK (ha pos pins s σ H _ I h) ?_) hs rfl));rintro us s1 ⟨vs,H1,I1,r1,q1⟩
 obtain⟨j,e,q1,q2,q⟩:=q1
 subst e
 cases r1 with
 |cons r rr =>
  cases rr
  obtain⟨t,rfl⟩:=r
  exact call_range_1 (aX8 I1 (by lia) (by lia) q1 q2 (by simpa using q))
def bY1(wi:TI)(g:TG)(tb:TS):TS:=fun D σ H=>wi σ H fun J H1=>∃W:Nat->Nat->St->Hp->Prop,(∃m,W 0 m σ H1)/\∀i m σ H,W i m σ H ->
 (J.stop i H/\D.nx σ H)\/(J.go i H/\∃N:St->Hp->Prop,(∀σ' H',N σ' H'->∃m',m'<m/\W (i+1) m' σ' H')/\∀x H',J.yld i H x H'->g x σ H' fun σ2 H2=>tb { D with nx:=N,ct:=N,bk:=D.nx } σ2 H2)
def hZ(fp:List Addr)(h:Heap):List (Addr×Obj):=fp.filterMap fun b=>(h.get? b).map fun o=>(b,o)
theorem iC{fp:List Addr}{h:Heap}{b:Addr}{o:Obj}(hb:b∈fp)(e:h.get? b=some o):(b,o)∈hZ fp h:=jf.mpr ⟨b,hb,by rw[e];rfl⟩
theorem tO{fp:List Addr}{h:Heap}{p:Addr×Obj}(hp:p∈hZ fp h):p.1∈fp/\h.get? p.1=some p.2:=by
 obtain⟨b,hb,e⟩:=jf.mp hp
 cases q:h.get? b with
 |none=>rw[q] at e;cases e
 |some o =>
  rw[q] at e
  have e':(b,o)=p:=dg e
  subst e'
  exact⟨hb,q⟩
theorem aU.pinned{pins:List (Addr×Obj)}{σ:St}{H:Hp}{s:Shared}{fp:List Addr}(I:aU X pins σ H s)(hf:∀b∈fp,lJ X pins H b)(ho:∀b∈fp,∃o,s.heap.get? b=some o/\∀v,o.data≠ .cell v):aU X (pins++hZ fp s.heap) σ H s:=
 I.pins_of fun p hp=>(bp.mp hp).elim (fun z=>I.pin p (bh _ z)) fun z=>by
  obtain⟨hb,e⟩:=tO z
  obtain⟨f0,f1,f2,_⟩:=hf p.1 hb
  obtain⟨o,e',d⟩:=ho p.1 hb
  rw[e] at e';cases e'
  exact⟨e,f0,f1,f2,d⟩
theorem aU.unpinned{pins pl:List (Addr×Obj)}{σ:St}{H:Hp}{s:Shared}(I:aU X (pins++pl) σ H s):aU X pins σ H s:=I.pins_of fun p hp=>I.pin p (bh _ (bv _ hp))
theorem aK5{iter:Expr}{body:List Stmt}{wi:TI}{g:TG}{tb:TS}{pos:Pos}(hp:PassesOwn (model X.prog X.w) X.A X.env X.xe)(hc:X.calm=true)(hi:PI X tg iter wi)(hg:PG X tg g)(hb:nL X body tb)
  (hs:autoParam (∀x,foldedSetIterable iter X.env x=pure x) Rq4._auto_1):PS X (.For tg iter body [] pos) (bY1 wi g tb):=by
 intro pins s σ H D I h
 refine wpAny_For (cK (hi pins s σ H _ I h) fun v s1 h1=>cK h1 fun itv s2 h2=>?_) hs
 obtain⟨it,fp,tn,J,H2,e,I2,T,st2,f2,W,⟨m0,w0⟩,turn⟩:=h2
 subst e
 have stat:∀{H':Hp},(∀b∈fp,H' b=none)->∀b∈fp,lJ X pins H' b:=fun hn b hb=>⟨hn b hb,(f2 b hb).2⟩
 refine codeAny_forLoop_any (fun n s'=>∃i σ' H',aU X pins σ' H' s'/\tn i s'.heap/\(∀b∈fp,H' b=none)/\W i n σ' H') ?_ m0 ⟨0,σ,H2,I2,st2,fun b hb=>(f2 b hb).1,w0⟩
 rintro n s3 ⟨i,σ3,H3,I3,st3,fr3,w3⟩
 rcases turn i n σ3 H3 w3 with⟨stop,qn⟩|⟨go,N,hN,step⟩
 ·refine jq hp (cK (T.done X rfl rfl rfl hc i pins s3 σ3 H3 X.xe I3 (stat fr3) st3 stop) ?_);rintro r s4 ⟨hr,I4⟩
  subst hr
  exact na ⟨σ3,H3,I4,qn⟩
 ·refine jq hp (cK (T.item X rfl rfl rfl hc i pins s3 σ3 H3 X.xe I3 (stat fr3) st3 go) ?_);rintro r s4 ⟨u,hr,h4⟩
  subst hr
  refine jq hp (cK h4 ?_);rintro _ s5 ⟨x,H5,I5,r5,y5,st5,fr5⟩
  have I5':=I5.pinned (stat fr5) (T.obj _ _ st5)
  refine jq hp (cK (hg _ s5 σ3 H5 x u _ I5' r5 (step x H5 y5)) ?_);rintro _ s6 ⟨σ6,H6,I6,q6⟩
  refine jq hp (cK (hb _ s6 σ6 H6 _ I6 q6) fun f s7 q7=>?_)
  have again:∀{σ7:St}{H7:Hp},aU X (pins++hZ fp s5.heap) σ7 H7 s7->N σ7 H7->∃m,m<n/\∃i σ' H',aU X pins σ' H' s7/\tn i s7.heap/\(∀b∈fp,H' b=none)/\W i m σ' H':=fun {σ7 H7} I7 n7=>by
   obtain⟨m',hm,w7⟩:=hN σ7 H7 n7
   refine⟨m',hm,i+1,σ7,H7,I7.unpinned,T.keep _ _ _ st5 fun b hb o e=>(I7.pin (b,o) (bh _ (bh _ (iC hb e)))).1,fun b hb=>?_,w7⟩
   obtain⟨o,e,d⟩:=T.obj _ _ st5 b hb
   exact(I7.pin (b,o) (bh _ (bh _ (iC hb e)))).2.1
  cases f with
  |next=>obtain⟨σ7,H7,I7,n7⟩:=q7;exact again I7 n7
  |cont=>obtain⟨σ7,H7,I7,n7⟩:=q7;exact again I7 n7
  |brk=>obtain⟨σ7,H7,I7,q7⟩:=q7;exact⟨σ7,H7,I7.unpinned,q7⟩
  |ret v=>obtain⟨x7,σ7,H7,I7,r7,q7⟩:=q7;exact⟨x7,σ7,H7,I7.unpinned,r7,q7⟩
end
theorem xE{K:PySem.W.Frag}{a:Addr}{xs:List V}{g:TG}{tb:TS}{D:jK}{σ:St}{H:Hp}(Pv:Nat->St->Hp->Prop)(h0:Pv 0 σ H)(hl:∀i σ H,i<=xs.length->Pv i σ H->bK K H a xs)
  (hs:∀i x σ H,xs[i]?=some x->Pv i σ H->g x σ H fun σ2 H2=>tb { D with nx:=Pv (i+1),ct:=Pv (i+1),bk:=D.nx } σ2 H2) (hd:∀σ H,Pv xs.length σ H->D.nx σ H) :
  ∃W:Nat->Nat->St->Hp->Prop,(∃m,W 0 m σ H)/\∀i m σ H,W i m σ H ->
   ((Itl K a).stop i H/\D.nx σ H)\/((Itl K a).go i H/\∃N:St->Hp->Prop,(∀σ' H',N σ' H'->∃m',m'<m/\W (i+1) m' σ' H')/\∀x H',(Itl K a).yld i H x H'->g x σ H' fun σ2 H2=>tb { D with nx:=N,ct:=N,bk:=D.nx } σ2 H2):=by
 refine⟨fun i m σ H=>m=xs.length-i/\i<=xs.length/\Pv i σ H,⟨xs.length,by simp,bt _,h0⟩,?_⟩
 rintro i m σ H ⟨rfl,hi,p⟩
 have q:=hl i σ H hi p
 by_cases hlt:i<xs.length
 ·refine .inr ⟨⟨xs,xs[i],q,by simp[hlt]⟩,Pv (i+1),fun σ' H' p'=>⟨xs.length-(i+1),fq hlt (fc i),rfl,hlt,p'⟩,fun x H' y=>?_⟩
  obtain⟨e,y⟩:=y
  subst e
  exact hs i x σ _ (y xs q) p
 ·have e:i=xs.length:=by lia
  subst e
  exact .inl ⟨⟨xs,q,ah _⟩,hd σ H p⟩
theorem aY5{K:PySem.W.Frag}{a:Addr}{xs:List V}{g:TG}{tb:TS}{D:jK}{σ:St}{H:Hp}(Pv:Nat->St->Hp->Prop)(h0:Pv 0 σ H)(hl:∀i σ H,i<=xs.length->Pv i σ H->aR K H a xs)
  (hs:∀i x σ H,xs[i]?=some x->Pv i σ H->g x σ H fun σ2 H2=>tb { D with nx:=Pv (i+1),ct:=Pv (i+1),bk:=D.nx } σ2 H2) (hd:∀σ H,Pv xs.length σ H->D.nx σ H) :
  ∃W:Nat->Nat->St->Hp->Prop,(∃m,W 0 m σ H)/\∀i m σ H,W i m σ H ->
   ((Itt K a).stop i H/\D.nx σ H)\/((Itt K a).go i H/\∃N:St->Hp->Prop,(∀σ' H',N σ' H'->∃m',m'<m/\W (i+1) m' σ' H')/\∀x H',(Itt K a).yld i H x H'->g x σ H' fun σ2 H2=>tb { D with nx:=N,ct:=N,bk:=D.nx } σ2 H2):=by
 refine⟨fun i m σ H=>m=xs.length-i/\i<=xs.length/\Pv i σ H,⟨xs.length,by simp,bt _,h0⟩,?_⟩
 rintro i m σ H ⟨rfl,hi,p⟩
 have q:=hl i σ H hi p
 by_cases hlt:i<xs.length
 ·refine .inr ⟨⟨xs,xs[i],q,by simp[hlt]⟩,Pv (i+1),fun σ' H' p'=>⟨xs.length-(i+1),fq hlt (fc i),rfl,hlt,p'⟩,fun x H' y=>?_⟩
  obtain⟨e,y⟩:=y
  subst e
  exact hs i x σ _ (y xs q) p
 ·have e:i=xs.length:=by lia
  subst e
  exact .inl ⟨⟨xs,q,ah _⟩,hd σ H p⟩
theorem nS{lo:Int}{n:Nat}{g:TG}{tb:TS}{D:jK}{σ:St}{H:Hp}(Pv:Nat->St->Hp->Prop)(h0:Pv 0 σ H)
  (hs:∀i σ H,i<n->Pv i σ H->g (.int (lo+i)) σ H fun σ2 H2=>tb { D with nx:=Pv (i+1),ct:=Pv (i+1),bk:=D.nx } σ2 H2) (hd:∀σ H,Pv n σ H->D.nx σ H) :
  ∃W:Nat->Nat->St->Hp->Prop,(∃m,W 0 m σ H)/\∀i m σ H,W i m σ H ->
   ((Itr lo n).stop i H/\D.nx σ H)\/((Itr lo n).go i H/\∃N:St->Hp->Prop,(∀σ' H',N σ' H'->∃m',m'<m/\W (i+1) m' σ' H')/\∀x H',(Itr lo n).yld i H x H'->g x σ H' fun σ2 H2=>tb { D with nx:=N,ct:=N,bk:=D.nx } σ2 H2):=by
 refine⟨fun i m σ H=>m=n-i/\i<=n/\Pv i σ H,⟨n,by simp,bt _,h0⟩,?_⟩
 rintro i m σ H ⟨rfl,hi,p⟩
 by_cases hlt:i<n
 ·refine .inr ⟨hlt,Pv (i+1),fun σ' H' p'=>⟨n-(i+1),fq hlt (fc i),rfl,hlt,p'⟩,fun x H' y=>?_⟩
  obtain⟨e,y⟩:=y
  subst e y
  exact hs i σ _ hlt p
 ·have e:i=n:=by lia
  subst e
  exact .inl ⟨ah _,hd σ H p⟩
abbrev R2:=V->V->Hp->VK->Prop
def jC(X:Cx)(f:Value->Value->Sem Value)(r:R2):Prop:=
 ∀(pins:List (Addr×Obj)) (s:Shared) (σ:St) (H:Hp) (x y:V) (v u:Value) (Q:VK),aU X pins σ H s->bJ x v->bJ y u->r x y H Q ->
  wpAny (model X.prog X.w) X.A (f v u) (EP X pins σ Q) X.xe s
def UnR(X:Cx)(f:Value->Sem Value)(r:V->Hp->VK->Prop):Prop:=
 ∀(pins:List (Addr×Obj)) (s:Shared) (σ:St) (H:Hp) (x:V) (v:Value) (Q:VK),aU X pins σ H s->bJ x v->r x H Q ->
  wpAny (model X.prog X.w) X.A (f v) (EP X pins σ Q) X.xe s
def eA(X:Cx)(f:Value)(r:List V->Hp->VK->Prop):Prop:=
 ∀(pins:List (Addr×Obj)) (s:Shared) (σ:St) (H:Hp) (xs:List V) (us:List Value) (Q:VK),aU X pins σ H s->bI xs us->r xs H Q ->
  wpAny (model X.prog X.w) X.A (call f us) (EP X pins σ Q) X.xe s
def cB8(X:Cx)(r:V->Hp->(Bool->Hp->Prop)->Prop):Prop:=
 ∀(pins:List (Addr×Obj)) (s:Shared) (σ:St) (H:Hp) (x:V) (v:Value) (Q:Bool->Hp->Prop),aU X pins σ H s->bJ x v->r x H Q ->
  wpAny (model X.prog X.w) X.A (truthy v) (TP X pins σ Q) X.xe s
def tOp(r:R2)(ta tb:TE):TE:=fun σ H Q=>ta σ H fun x H1=>tb σ H1 fun y H2=>r x y H2 Q
def tUn(r:V->Hp->VK->Prop)(ta:TE):TE:=fun σ H Q=>ta σ H fun x H1=>r x H1 Q
inductive rI(C:Int->Int->Prop)(g:Int->Int->V)(x:V)(y:V)(H:Hp)(Q:VK):Prop
 |mk:∀i j,(x= .int i)->(y= .int j)->(C i j)->(Q (g i j) H)->rI C g x y H Q
inductive rI0(g:Int->Int->V)(x:V)(y:V)(H:Hp)(Q:VK):Prop
 |mk:∀i j,(x= .int i)->(y= .int j)->(Q (g i j) H)->rI0 g x y H Q
inductive rU(g:Int->V)(x:V)(H:Hp)(Q:VK):Prop
 |mk:∀i,(x= .int i)->(Q (g i) H)->rU g x H Q
section
variable {X:Cx}{a b c:Expr}{ta tb tc:TE}{pos:Pos}
theorem bI9(ha:PE X a ta)(hb:PE X b tb){pins:List (Addr×Obj)}{s:Shared}{σ:St}{H:Hp}{R:V->V->Hp->Prop}(I:aU X pins σ H s)
  (h:ta σ H fun x H1=>tb σ H1 fun y H2=>R x y H2) {Q:Value->Shared->Prop}{f:Value->Value->Sem Value}
  (hf:∀v u s2 x y H2,aU X pins σ H2 s2->bJ x v->bJ y u->R x y H2->wpAny (model X.prog X.w) X.A (f v u) Q X.xe s2) :
  wpAny (model X.prog X.w) X.A (eval a X.env) (fun v s₁=>wpAny (model X.prog X.w) X.A (eval b X.env) (fun u s₂=>wpAny (model X.prog X.w) X.A (f v u) Q X.xe s₂) X.xe s₁) X.xe s:=by
 refine cK (ha pins s σ H _ I h) ?_;rintro v s1 ⟨x,H1,I1,r1,q1⟩
 refine cK (hb pins s1 σ H1 _ I1 q1) ?_;rintro u s2 ⟨y,H2,I2,r2,q2⟩
 exact hf v u s2 x y H2 I2 r1 r2 q2
theorem aS{op:Operator}{r:R2}(ho:jC X (binaryOp op) r)(ha:PE X a ta)(hb:PE X b tb):PE X (.BinOp a op b pos) (tOp r ta tb):=by
 intro pins s σ H Q I h
 exact wpAny_BinOp (bI9 ha hb I h fun v u s2 x y H2 I2 rx ry q=>ho pins s2 σ H2 x y v u Q I2 rx ry q)
theorem aM6{op:UnaryOp}{r:V->Hp->VK->Prop}(ho:UnR X (unaryOp op) r)(ha:PE X a ta):PE X (.UnaryOp op a pos) (tUn r ta):=by
 intro pins s σ H Q I h
 refine UnaryOp_ (cK (ha pins s σ H _ I h) ?_);rintro v s1 ⟨x,H1,I1,r1,q1⟩;exact ho pins s1 σ H1 x v Q I1 r1 q1
theorem opI{f:Value->Value->Sem Value}{C:Int->Int->Prop}{g:Int->Int->Int}
  (rule:∀(i j:Int) (t u:Tok) (s:Shared) (Q:Value->Shared->Prop) (E:Value->Shared->Prop),C i j->Q (.int (g i j) s.toks) { s with toks:=s.toks+1 }->wpAny (model X.prog X.w) X.A (f (.int i t) (.int j u)) Q E s) :
  jC X f (rI C fun i j=> .int (g i j)):=by
 intro pins s σ H x y v u Q I rx ry h
 obtain⟨i,j,rfl,rfl,hc,q⟩:=h
 obtain⟨t,rfl⟩:=rx
 obtain⟨t',rfl⟩:=ry
 exact rule i j t t' s _ _ hc ⟨.int (g i j),H,I.tok _,⟨_,rfl⟩,q⟩
theorem bV1{f:Value->Value->Sem Value}{g:Int->Int->Int}
  (rule:∀(i j:Int) (t u:Tok) (s:Shared) (Q:Value->Shared->Prop) (E:Value->Shared->Prop),Q (.int (g i j) s.toks) { s with toks:=s.toks+1 }->wpAny (model X.prog X.w) X.A (f (.int i t) (.int j u)) Q E s) :
  jC X f (rI0 fun i j=> .int (g i j)):=by
 intro pins s σ H x y v u Q I rx ry h
 obtain⟨i,j,rfl,rfl,q⟩:=h
 obtain⟨t,rfl⟩:=rx
 obtain⟨t',rfl⟩:=ry
 exact rule i j t t' s _ _ ⟨.int (g i j),H,I.tok _,⟨_,rfl⟩,q⟩
theorem bE2{f:Value->Value->Sem Value}{g:Int->Int->Bool}
  (rule:∀(i j:Int) (t u:Tok) (s:Shared) (Q:Value->Shared->Prop) (E:Value->Shared->Prop),Q (.bool (g i j)) s->wpAny (model X.prog X.w) X.A (f (.int i t) (.int j u)) Q E s) :
  jC X f (rI0 fun i j=> .bl (g i j)):=by
 intro pins s σ H x y v u Q I rx ry h
 obtain⟨i,j,rfl,rfl,q⟩:=h
 obtain⟨t,rfl⟩:=rx
 obtain⟨t',rfl⟩:=ry
 exact rule i j t t' s _ _ ⟨.bl (g i j),H,I,rfl,q⟩
def cB7(i j:Int):Prop:=0<=j/\j<=1000000/\i.natAbs<2^64
def bK3(i j:Int):Prop:=(-(2^64)<i/\i<2^64)\/(-(2^64)<j/\j<2^64)
theorem bK3.ok{i j:Int}(h:bK3 i j):IntMulOk i j:=by
 rcases h with⟨h1,h2⟩|⟨h1,h2⟩
 ·exact .of_left (intBits_le_64 h1 h2)
 ·exact .of_right (intBits_le_64 h1 h2)
theorem dE:jC X (binaryOp .Add) (rI0 fun i j=> .int (i+j)):=bV1 fun _ _ _ _ _ _ _ q=>add_int q
theorem jE:jC X (binaryOp .Sub) (rI0 fun i j=> .int (i-j)):=bV1 fun _ _ _ _ _ _ _ q=>sub_int q
theorem iD:jC X (binaryOp .Mult) (rI bK3 fun i j=> .int (i*j)):=opI fun _ _ _ _ _ _ _ hc q=>mul_int q hc.ok
theorem iA:jC X (binaryOp .Mod) (rI (fun _ j=>0<j) fun i j=> .int (i % j)):=opI fun i j _ _ _ _ _ hc q=>by
 have h1:(0:Int)<j:=hc
 exact mod_int' (by lia) (by rw[Int.fmod_eq_emod_of_nonneg i (by lia)];exact q)
theorem bJ1:jC X (binaryOp .Pow) (rI cB7 fun i j=> .int (i^j.toNat)):=opI fun _ _ _ _ _ _ _ hc q=>pow_int_small hc.1 hc.2.1 hc.2.2 q
theorem unI{f:Value->Sem Value}{g:Int->Int}
  (rule:∀(i:Int) (t:Tok) (s:Shared) (Q:Value->Shared->Prop) (E:Value->Shared->Prop),Q (.int (g i) s.toks) { s with toks:=s.toks+1 }->wpAny (model X.prog X.w) X.A (f (.int i t)) Q E s) :
  UnR X f (rU fun i=> .int (g i)):=by
 intro pins s σ H x v Q I rx h
 obtain⟨i,rfl,q⟩:=h
 obtain⟨t,rfl⟩:=rx
 exact rule i t s _ _ ⟨.int (g i),H,I.tok _,⟨_,rfl⟩,q⟩
theorem zM:UnR X (unaryOp .USub) (rU fun i=> .int (-i)):=unI fun _ _ _ _ _ q=>neg_int q
end
def bV7:V->V->Bool
 |.non,.non=>true | .non,.int _=>true | .int _,.non=>true | .non,.bl _=>true | .bl _,.non=>true | .non,.str _=>true | .str _,.non=>true
 |.int _,.int _=>true | .bl _,.bl _=>true | .str _,.str _=>true | .byt _,.byt _=>true
 |.int _,.str _=>true | .str _,.int _=>true | .bl _,.str _=>true | .str _,.bl _=>true
 |_,_=>false
def rEq:R2:=fun x y H Q=>bV7 x y=true/\Q (.bl (decide (x=y))) H
def rNe:R2:=fun x y H Q=>bV7 x y=true/\Q (.bl (!decide (x=y))) H
theorem aC6{i j:Int}:decide (V.int i=V.int j)=(i==j):=by
 rw[ii]
 simp
theorem aT6{i j:Bool}:decide (V.bl i=V.bl j)=(i==j):=by
 rw[ii]
 simp
theorem aE6{i j:Str}:decide (V.str i=V.str j)=(i==j):=by
 rw[ii]
 simp
theorem aD8{i j:Array UInt8}:decide (V.byt i=V.byt j)=(i.toList==j.toList):=by
 rw[ii]
 cases i
 cases j
 simp
section
variable {X:Cx}{a b c:Expr}{ta tb tc:TE}{pos:Pos}
theorem bV{pins:List (Addr×Obj)}{σ:St}{H:Hp}{s:Shared}{Q:VK}{k k':Bool}(I:aU X pins σ H s)(q:Q (.bl k) H)(e:k=k'):EP X pins σ Q (.bool k') s:=by
 subst e
 exact⟨.bl k,H,I,rfl,q⟩
theorem bN:jC X (compareOp .Eq) rEq:=by
 intro pins s σ H x y v u Q I rx ry h
 obtain⟨hs,q⟩:=h
 cases x with
 |non =>
  cases rx
  cases y with
  |non=>cases ry;exact PySem.EqNone.eq_none_none (bV I q (by simp))
  |bl j=>cases ry;exact PySem.EqNone.eq_none_bool (bV I q (by simp))
  |int j=>obtain⟨t',rfl⟩:=ry;exact PySem.EqNone.eq_none_int (bV I q (by simp))
  |str j=>obtain⟨t',rfl⟩:=ry;exact PySem.EqNone.eq_none_str (bV I q (by simp))
  |_=>exact absurd (show false=true from hs) bj
 |bl i =>
  cases rx
  cases y with
  |non=>cases ry;exact PySem.EqNone.eq_bool_none (bV I q (by simp))
  |bl j=>cases ry;exact eq_bool (bV I q aT6)
  |str j=>obtain⟨t',rfl⟩:=ry;exact PySem.EqMixed.eq_bool_str (bV I q (by simp))
  |_=>exact absurd (show false=true from hs) bj
 |int i =>
  obtain⟨t,rfl⟩:=rx
  cases y with
  |non=>cases ry;exact PySem.EqNone.eq_int_none (bV I q (by simp))
  |int j=>obtain⟨t',rfl⟩:=ry;exact eq_int (bV I q aC6)
  |str j=>obtain⟨t',rfl⟩:=ry;exact PySem.EqMixed.eq_int_str (bV I q (by simp))
  |_=>exact absurd (show false=true from hs) bj
 |str i =>
  obtain⟨t,rfl⟩:=rx
  cases y with
  |non=>cases ry;exact PySem.EqNone.eq_str_none (bV I q (by simp))
  |bl j=>cases ry;exact PySem.EqMixed.eq_str_bool (bV I q (by simp))
  |int j=>obtain⟨t',rfl⟩:=ry;exact PySem.EqMixed.eq_str_int (bV I q (by simp))
  |str j=>obtain⟨t',rfl⟩:=ry;exact eq_str (bV I q aE6)
  |_=>exact absurd (show false=true from hs) bj
 |byt i =>
  obtain⟨t,rfl⟩:=rx
  cases y with
  |byt j=>obtain⟨t',rfl⟩:=ry;exact PySem.W.eq_bytes (bV I q aD8)
  |_=>exact absurd (show false=true from hs) bj
 |_=>cases y<;>exact absurd (show false=true from hs) bj
theorem rT:jC X (compareOp .NotEq) rNe:=by
 intro pins s σ H x y v u Q I rx ry h
 obtain⟨hs,q⟩:=h
 cases x with
 |non =>
  cases rx
  cases y with
  |non=>cases ry;exact PySem.EqNone.ne_none_none (bV I q (by simp))
  |bl j=>cases ry;exact PySem.EqNone.ne_none_bool (bV I q (by simp))
  |int j=>obtain⟨t',rfl⟩:=ry;exact PySem.EqNone.ne_none_int (bV I q (by simp))
  |str j=>obtain⟨t',rfl⟩:=ry;exact PySem.EqNone.ne_none_str (bV I q (by simp))
  |_=>exact absurd (show false=true from hs) bj
 |bl i =>
  cases rx
  cases y with
  |non=>cases ry;exact PySem.EqNone.ne_bool_none (bV I q (by simp))
  |bl j=>cases ry;exact ne_bool (bV I q (dz not aT6))
  |str j=>obtain⟨t',rfl⟩:=ry;exact PySem.EqMixed.ne_bool_str (bV I q (by simp))
  |_=>exact absurd (show false=true from hs) bj
 |int i =>
  obtain⟨t,rfl⟩:=rx
  cases y with
  |non=>cases ry;exact PySem.EqNone.ne_int_none (bV I q (by simp))
  |int j=>obtain⟨t',rfl⟩:=ry;exact ne_int (bV I q (dz not aC6))
  |str j=>obtain⟨t',rfl⟩:=ry;exact PySem.EqMixed.ne_int_str (bV I q (by simp))
  |_=>exact absurd (show false=true from hs) bj
 |str i =>
  obtain⟨t,rfl⟩:=rx
  cases y with
  |non=>cases ry;exact PySem.EqNone.ne_str_none (bV I q (by simp))
  |bl j=>cases ry;exact PySem.EqMixed.ne_str_bool (bV I q (by simp))
  |int j=>obtain⟨t',rfl⟩:=ry;exact PySem.EqMixed.ne_str_int (bV I q (by simp))
  |str j=>obtain⟨t',rfl⟩:=ry;exact ne_str (bV I q (dz not aE6))
  |_=>exact absurd (show false=true from hs) bj
 |byt i =>
  obtain⟨t,rfl⟩:=rx
  cases y with
  |byt j=>obtain⟨t',rfl⟩:=ry;exact PySem.W.ne_bytes (bV I q (dz not aD8))
  |_=>exact absurd (show false=true from hs) bj
 |_=>cases y<;>exact absurd (show false=true from hs) bj
theorem nK:jC X (compareOp .Lt) (rI0 fun i j=> .bl (decide (i<j))):=bE2 fun _ _ _ _ _ _ _ q=>lt_int q
theorem qC:jC X (compareOp .LtE) (rI0 fun i j=> .bl (decide (i<=j))):=bE2 fun _ _ _ _ _ _ _ q=>le_int q
theorem jQ:jC X (compareOp .Gt) (rI0 fun i j=> .bl (decide (j<i))):=bE2 fun _ _ _ _ _ _ _ q=>gt_int q
theorem aM7:jC X (compareOp .GtE) (rI0 fun i j=> .bl (decide (j<=i))):=bE2 fun _ _ _ _ _ _ _ q=>ge_int q
theorem sV:jC X (compareOp .In) (fun x y H Q=>∃i j,x= .str i/\y= .str j/\Q (.bl (!(Builtin.Str.occurrences j i 0 j.length 1).isEmpty)) H):=by
 intro pins s σ H x y v u Q I rx ry h
 obtain⟨i,j,rfl,rfl,q⟩:=h
 obtain⟨t,rfl⟩:=rx
 obtain⟨t',rfl⟩:=ry
 exact in_str (bV I q rfl)
theorem nX(b:Expr){op:CmpOp}(h:autoParam (op≠ .In) Rq1._auto_1)(h2:autoParam (op≠ .NotIn) Rq1._auto_1):behindInMarks op b=false:=by
 have e1:(op==CmpOp.In)=false:=by cases op<;>first|rfl|exact absurd rfl h
 have e2:(op==CmpOp.NotIn)=false:=by cases op<;>first|rfl|exact absurd rfl h2
 cases b<;>simp[behindInMarks,e1,e2]
theorem bE7{op:CmpOp}{r:R2}(ho:jC X (compareOp op) r)(ha:PE X a ta)(hb:PE X b tb)(hm:behindInMarks op b=false):PE X (.Compare a [op] [b] pos) (tOp r ta tb):=by
 intro pins s σ H Q I h
 exact wpAny_Compare1 (bI9 ha hb I h fun v u s2 x y H2 I2 rx ry q=>ho pins s2 σ H2 x y v u Q I2 rx ry q) hm
def aK2(t:TE):TT:=fun σ H Q=>t σ H fun x H'=>BlK x fun k=>Q k H'
theorem mO{op:CmpOp}{r:R2}(ho:jC X (compareOp op) r)(ha:PE X a ta)(hb:PE X b tb)(hm:behindInMarks op b=false):PT X (.Compare a [op] [b] pos) (aK2 (tOp r ta tb)):=by
 intro pins s σ H Q I h
 refine vp (cK (ha pins s σ H _ I h) fun v s1 ⟨x,H1,I1,r1,q1⟩=>cK (hb pins s1 σ H1 _ I1 q1) fun u s2 ⟨y,H2,I2,r2,q2⟩ =>
  cK (ho pins s2 σ H2 x y v u _ I2 r1 r2 q2) fun c s3 ⟨z,H3,I3,r3,k,e,q3⟩=>?_) hm
 subst e
 cases r3
 exact fe ⟨H3,I3,q3⟩
def aX7(r r':R2)(ta tb tc:TE):TE:=fun σ H Q=>ta σ H fun x H1=>tb σ H1 fun y H2=>r x y H2 fun z H3=>∃k,z= .bl k /\
 (if k=true then tc σ H3 fun w' H4=>r' y w' H4 Q else Q (.bl false) H3)
theorem aR9{op op':CmpOp}{r r':R2}(ho:jC X (compareOp op) r)(ho':jC X (compareOp op') r')(ha:PE X a ta)(hb:PE X b tb)(hc:PE X c tc)
  (hm:autoParam (lastMarks [op,op'] [b,c]=false) Rq9._auto_1):PE X (.Compare a [op,op'] [b,c] pos) (aX7 r r' ta tb tc):=by
 intro pins s σ H Q I h
 refine Compare_chain (cK (ha pins s σ H _ I h) fun v s1 ⟨x,H1,I1,r1,q1⟩=>chain_link (cK (hb pins s1 σ H1 _ I1 q1) fun u s2 ⟨y,H2,I2,r2,q2⟩ =>
  cK (ho pins s2 σ H2 x y v u _ I2 r1 r2 q2) fun d s3 ⟨z,H3,I3,r3,k,e,q3⟩=>?_)) hm
 subst e
 cases r3
 refine fe ?_
 cases k with
 |false=>exact ite_ff ⟨.bl false,H3,I3,rfl,q3⟩
 |true=>refine ite_tt (chain_last (cK (hc pins s3 σ H3 _ I3 q3) ?_));rintro w' s4 ⟨z',H4,I4,r4,q4⟩;exact ho' pins s4 σ H4 y z' u w' Q I4 r2 r4 q4
theorem rX{op op':CmpOp}{r r':R2}(ho:jC X (compareOp op) r)(ho':jC X (compareOp op') r')(ha:PE X a ta)(hb:PE X b tb)(hc:PE X c tc)
  (hm:autoParam (lastMarks [op,op'] [b,c]=false) Rq9._auto_1):PT X (.Compare a [op,op'] [b,c] pos) (aK2 (aX7 r r' ta tb tc)):=by
 intro pins s σ H Q I h
 refine isTrue_chain (cK (ha pins s σ H _ I h) fun v s1 ⟨x,H1,I1,r1,q1⟩=>test_link (cK (hb pins s1 σ H1 _ I1 q1) fun u s2 ⟨y,H2,I2,r2,q2⟩ =>
  cK (ho pins s2 σ H2 x y v u _ I2 r1 r2 q2) fun d s3 ⟨z,H3,I3,r3,k,e,q3⟩=>?_)) hm
 subst e
 cases r3
 refine fe ?_
 cases k with
 |false =>
  obtain⟨k',e',q'⟩:=q3
  cases e'
  exact ite_ff ⟨H3,I3,q'⟩
 |true =>
  refine ite_tt (test_last (cK (hc pins s3 σ H3 _ I3 q3) ?_));rintro w' s4 ⟨z',H4,I4,r4,q4⟩;refine cK (ho' pins s4 σ H4 y z' u w' _ I4 r2 r4 q4) ?_;rintro d' s5 ⟨z2,H5,I5,r5,k2,e2,q5⟩
  subst e2
  cases r5
  exact fe ⟨H5,I5,q5⟩
def bZ8(K:PySem.W.Frag)(x:V)(H:Hp)(k:Bool):Prop:=
 match x with
 |.non=>k=false
 |.bl b=>k=b
 |.int i=>k=(i != 0)
 |.str y=>y.length<=sizeLine/\k=((y.length:Int) != 0)
 |.byt y=>y.size<=sizeLine/\k=((y.size:Int) != 0)
 |.ref p=>(∃xs,bK K H p xs/\k= !xs.isEmpty)\/(∃xs,aR K H p xs/\k= !xs.isEmpty)\/∃kvs,H p=some (.dK kvs)/\k= !kvs.isEmpty
 |_=>False
theorem zN{κ:Type}{kvs:List (κ×V)}{vs:List (κ×Value)}(r:KV kvs vs):(!vs.isEmpty)= !kvs.isEmpty:=by
 cases r<;>rfl
theorem qE{xs:List V}{its:List Value}(r:bI xs its):(!its.toArray.isEmpty)= !xs.isEmpty:=by
 cases r<;>simp
theorem kH:(sizeLine:Nat)<2^63:=by rw[qx];decide
theorem bM4:cB8 X (fun x H Q=>∃k,bZ8 X.K x H k/\Q k H):=by
 intro pins s σ H x v Q I rx h
 obtain⟨k,e,q⟩:=h
 have hl:=kH
 have hs:sizeLine=16777216:=qx
 cases x with
 |non =>
  cases rx
  have e':k=false:=e
  subst e'
  exact truthy_none ⟨H,I,q⟩
 |bl b =>
  cases rx
  have e':k=b:=e
  subst e'
  exact fe ⟨H,I,q⟩
 |int i =>
  obtain⟨t,rfl⟩:=rx
  have e':k=(i != 0):=e
  subst e'
  exact PySem.P.truthy_int ⟨H,I,q⟩
 |str y =>
  obtain⟨t,rfl⟩:=rx
  obtain⟨hy,e'⟩:y.length<=sizeLine/\k=((y.length:Int) != 0):=e
  subst e'
  exact PySem.P.truthy_str (by lia) ⟨H,I.tok _,q⟩
 |byt y =>
  obtain⟨t,rfl⟩:=rx
  obtain⟨hy,e'⟩:y.size<=sizeLine/\k=((y.size:Int) != 0):=e
  subst e'
  exact PySem.W.truthy_bytes (by lia) ⟨H,I.tok _,q⟩
 |ref p =>
  cases rx
  have e':(∃xs,bK X.K H p xs/\k= !xs.isEmpty)\/(∃xs,aR X.K H p xs/\k= !xs.isEmpty)\/∃kvs,H p=some (.dK kvs)/\k= !kvs.isEmpty:=e
  rcases e' with⟨xs,hx,e'⟩|⟨xs,hx,e'⟩|⟨kvs,hx,e'⟩
  ·subst e'
   obtain⟨its,r,pl,hz⟩:=I.list hx
   have hlen:=r.length
   exact wpAny_truthy_list pl.isList (by simp only[List.size_toArray];lia) ⟨H,I.tok _,by rw[qE r];exact q⟩
  ·subst e'
   obtain⟨its,r,pl,hz⟩:=I.tuple hx
   have hlen:=r.length
   exact truthy_tuple pl (by simp only[List.size_toArray];lia) ⟨H,I.tok _,by rw[qE r];exact q⟩
  ·subst e'
   obtain⟨hz,hS,vs,r,m⟩:kvs.length<=sizeLine/\(p==sysModules)=false/\∃vs,KV kvs vs/\s.heap.DictOf (aW X.prog X.w) p vs:=I.hok p _ hx
   have hlen:kvs.length=vs.length:=gj r
   exact wpAny_truthy_dict hS m (by lia) ⟨H,I.tok _,by rw[zN r];exact q⟩
 |_=>exact(show False from e).elim
theorem rN(ha:PE X a ta)(he:∀whole,isTrue a X.env whole=(do let v <-whole;standAt a.pos;holding [v] (truthy v))) :
  PT X a (fun σ H Q=>ta σ H fun x H'=>∃k,bZ8 X.K x H' k/\Q k H'):=by
 intro pins s σ H Q I h
 refine isTrue_plain (cK (ha pins s σ H _ I h) ?_) (he _);rintro v s1 ⟨x,H1,I1,r1,q1⟩;exact bM4 pins s1 σ H1 x v Q I1 r1 q1
theorem fZ:jC X (binaryOp .Add) (fun x y H Q=>∃i j,x= .str i/\y= .str j/\i.length+j.length<=sizeLine/\Q (.str (i++j)) H):=by
 intro pins s σ H x y v u Q I rx ry h
 obtain⟨i,j,rfl,rfl,hz,q⟩:=h
 obtain⟨t,rfl⟩:=rx
 obtain⟨t',rfl⟩:=ry
 exact add_str (fun t' tk=>⟨.str (i++j),H,I.tok _,⟨_,rfl⟩,q⟩) hz
theorem gN{x:V}{us:List Value}(r:bI [x] us):∃u,us=[u]/\bJ x u:=by
 cases r with
 |cons r1 r2=>cases r2;exact⟨_,rfl,r1⟩
theorem pS{x y:V}{us:List Value}(r:bI [x,y] us):∃u w',us=[u,w']/\bJ x u/\bJ y w':=by
 cases r with
 |cons r1 r2 =>
  cases r2 with
  |cons r3 r4=>cases r4;exact⟨_,_,rfl,r1,r3⟩
theorem uG(hc:X.calm=true):eA X (.builtin "max") (fun xs H Q=>∃i j,xs=[.int i,.int j]/\Q (.int (if j > i then j else i)) H):=by
 intro pins s σ H xs us Q I r h
 obtain⟨i,j,rfl,q⟩:=h
 obtain⟨u,w',rfl,⟨t,rfl⟩,⟨t',rfl⟩⟩:=pS r
 refine max_two_ints (I.ok.hd hc) fun h' tk k=>⟨_,H,I.kept k,?_,q⟩
 by_cases hj:j > i
 ·rw[bg hj,bg hj];exact⟨_,rfl⟩
 ·rw[av hj,av hj];exact⟨_,rfl⟩
theorem lE:eA X (.type "int") (fun xs H Q=>(∃i,xs=[.int i]/\Q (.int i) H)\/∃k,xs=[.bl k]/\Q (.int (if k then 1 else 0)) H):=by
 intro pins s σ H xs us Q I r h
 rcases h with⟨i,rfl,q⟩|⟨k,rfl,q⟩
 ·obtain⟨u,rfl,t,rfl⟩:=gN r
  exact call_int_int ⟨.int i,H,I,⟨_,rfl⟩,q⟩
 ·obtain⟨u,rfl,r1⟩:=gN r
  cases r1
  exact call_int_bool ⟨.int (if k then 1 else 0),H,I.tok _,⟨_,rfl⟩,q⟩
end
structure bR1(h:Heap)(x dx C:Addr)(mA:Str->Option Value):Prop where
 obj:h.get? x=some (PySem.W.instObj C dx)
 ns:h.Ns1 dx mA
 ne:dx≠x
theorem tQ{h:Heap}{dx:Addr}{mA:Str->Option Value}(n:h.Ns1 dx mA):∃od,h.get? dx=some od/\∀name,PySem.W.lookIn name od=some (mA name):=by
 obtain⟨o,es,ep,ho,hd,hk,_,hm⟩:=n
 refine⟨o,ho,fun name=>?_⟩
 have e:=hm name
 unfold nsFind findBy at e
 rw[<-xt] at e
 unfold PySem.W.lookIn
 rw[hd]
 dsimp only
 split
 ·rename_i y q
  rw[q] at e
  exact dz some e
 ·rename_i q
  rw[q] at e
  have a:es.toList.any (·.refKey)=false:=by
   rw[List.any_eq_false]
   intro y hy
   obtain⟨z,t,hkey⟩:=hk y (Array.mem_toList_iff.mp hy)
   simp[DictEntry.refKey,hkey]
  have a':¬es.toList.any (·.refKey)=true:=by rw[a];exact bj
  rw[av a']
  exact dz some e
theorem bR1.look{h:Heap}{x dx C:Addr}{mA:Str->Option Value}(I:bR1 h x dx C mA):∃od,PySem.W.InstAt h x (PySem.W.instObj C dx) C (some od)/\∀name,PySem.W.lookIn name od=some (mA name):=by
 obtain⟨od,ho,hl⟩:=tQ I.ns
 exact⟨od,⟨I.obj,rfl,rfl,ho⟩,hl⟩
section
variable {prog:Program}{w:World}{A:Around}{E:Value->Shared->Prop}{s:Shared}{K:PySem.W.Frag}{x dx C f:Addr}{mA:Str->Option Value}{name:Str}{v:Value}
end
theorem iX.some_of{v:V}{o:Option Value}(r:iX (some v) o):∃u,o=some u/\bJ v u:=by
 cases o with
 |none=>exact(show False from r).elim
 |some u=>exact⟨u,rfl,r⟩
theorem iX.none_of{o:Option Value}(r:iX none o):o=none:=by
 cases o with
 |none=>rfl
 |some u=>exact(show False from r).elim
section
variable {P:Program}{w:World}{H H':Hp}{h h':Heap}{a C dx:Addr}{fs fs':List (Str×V)}
theorem aZ4(hok:jH P w H h)(e:H a=some (.ins C dx fs)):∃mA,bR1 h a dx C mA/\(∀f,iX (fs.lookup f) (mA f))/\PySem.Within mA (fs.map (·.1))/\fs.length<=1000/\H dx=some (.own a):=by
 obtain⟨d,z,ne,ob,mA,n,r,q⟩:=(show bU P w H h a (.ins C dx fs) from hok a _ e)
 exact⟨mA,⟨ob,n,ne⟩,r,q,z,d⟩
end
structure Cls(K:PySem.W.Frag)(C:Addr):Prop where
 pg:PySem.W.plainGet K C Str.empty=true
 hd:PySem.W.hasDictIn K C=true
 po:PySem.W.plainOver K C=true
 sa:PySem.W.findIn K (.ref C) "__setattr__"=some (some (.builtin "object.__setattr__"))
theorem Cls.get{K:PySem.W.Frag}{C:Addr}(c:Cls K C)(f:Str):PySem.W.plainGet K C f=true:=c.pg
section
variable {X:Cx}{pins:List (Addr×Obj)}{σ:St}{H:Hp}{s:Shared}{a C dx:Addr}{fs:List (Str×V)}{f:Str}{v:V}{A:Around}{E:Value->Shared->Prop}
end
section
variable {X:Cx}{o e value:Expr}{f:Str}{pos pos' tpos:Pos}{ta tv:TE}
end
section
variable {X:Cx}{pins:List (Addr×Obj)}{σ:St}{H:Hp}{s:Shared}{A:Around}{E:Value->Shared->Prop}{Q:Value->Shared->Prop}{c:Value}{b:Bool}
inductive nV(K:PySem.W.Frag)(H:Hp):V->Value->Prop where
 |non:nV K H .non (.type "NoneType")
 |bl (x:Bool):nV K H (.bl x) (.type "bool")
 |int (i:Int):nV K H (.int i) (.type "int")
 |str (x:Str):nV K H (.str x) (.type "str")
 |flt (x:UInt64):nV K H (.flt x) (.type "float")
 |lst {a:Addr}{xs:List V}(e:H a=some (.lst xs)):nV K H (.ref a) (.type "list")
 |frz {a:Addr}{o:Obj}{xs:List V}(e:H a=some (.frz o (.lst xs))):nV K H (.ref a) (.type "list")
 |tup {a:Addr}{xs:List V}(e:H a=some (.tup xs)):nV K H (.ref a) (.type "tuple")
 |dK {a:Addr}{kvs:List (Key×V)}(e:H a=some (.dK kvs)):nV K H (.ref a) (.type "dict")
 |dT {a:Addr}{kvs:List (List Key×V)}(e:H a=some (.dT kvs)):nV K H (.ref a) (.type "dict")
 |ins {a C dx:Addr}{fs:List (Str×V)}(e:H a=some (.ins C dx fs)) (cl:Cls K C) (ha:PySem.W.findIn K (.ref C) "__class__"=some (some (.builtin "object.__class__")))
   (hn:PySem.W.specialIn K (.builtin "object.__class__") "__get__"=some (some (.builtin "getset_descriptor.__get__"))) (htk:PySem.W.takesIn K (.builtin "object.__class__")=some true)
   (hm:PySem.W.mroIn K C (.type "object")=some true):nV K H (.ref a) (.ref C)
theorem aI3{x:V}{u t:Value}(I:aU X pins σ H s)(rx:bJ x u)(ty:nV X.K H x t)(e:PySem.W.kitOne X.K t c=some b)(h:∀tk,Q (.bool b) { s with toks:=tk }) :
  wpAny (model X.prog X.w) A (call (.builtin "isinstance") [u,c]) Q E s:=by
 cases ty with
 |non=>cases(show u=Value.none from rx);exact fm PySem.W.kitx_none I.kIn iw e (fun z=>nomatch z) h
 |bl y=>cases(show u=Value.bool y from rx);exact fm PySem.W.kitx_bool I.kIn iw e (fun z=>nomatch z) h
 |int i=>obtain⟨t,q⟩:=(show ∃t,u=Value.int i t from rx);cases q;exact fm PySem.W.kitx_int I.kIn iw e (fun z=>nomatch z) h
 |str y=>obtain⟨t,q⟩:=(show ∃t,u=Value.str y t from rx);cases q;exact fm PySem.W.kitx_str I.kIn iw e (fun z=>nomatch z) h
 |flt y=>obtain⟨t,q⟩:=(show ∃t,u=Value.float y t from rx);cases q;exact fm PySem.W.kitx_float I.kIn iw e (fun z=>nomatch z) h
 |@lst a xs ea =>
  cases(show u=Value.ref a from rx)
  obtain⟨_,_,n,_,h1⟩:=(show bU X.prog X.w H s.heap a (.lst xs) from I.hok a _ ea)
  exact fm yo I.kIn ⟨_,h1,rfl⟩ e (fun z=>nomatch z) h
 |@frz a ob xs ea =>
  cases(show u=Value.ref a from rx)
  obtain⟨_,_,_,n,_,h1⟩:=(show bU X.prog X.w H s.heap a (.frz ob (.lst xs)) from I.hok a _ ea)
  exact fm yo I.kIn ⟨_,h1,rfl⟩ e (fun z=>nomatch z) h
 |@tup a xs ea =>
  cases(show u=Value.ref a from rx)
  obtain⟨_,_,_,p⟩:=(show bU X.prog X.w H s.heap a (.tup xs) from I.hok a _ ea)
  obtain⟨o,h1,h2,_⟩:=p
  exact fm PySem.W.kitx_tuple I.kIn ⟨o,h1,h2⟩ e (fun z=>nomatch z) h
 |@dK a kvs ea =>
  cases(show u=Value.ref a from rx)
  obtain⟨_,_,vs,_,p⟩:=(show bU X.prog X.w H s.heap a (.dK kvs) from I.hok a _ ea)
  obtain⟨o,es,ep,h1,h2,_⟩:=p
  exact fm yq I.kIn ⟨o,h1,h2.1⟩ e (fun z=>nomatch z) h
 |@dT a kvs ea =>
  cases(show u=Value.ref a from rx)
  obtain⟨_,_,xs,_,o,es,ep,h1,h2,_⟩:=(show bU X.prog X.w H s.heap a (.dT kvs) from I.hok a _ ea)
  exact fm yq I.kIn ⟨o,h1,h2.1⟩ e (fun z=>nomatch z) h
 |@ins a C dx fs ea cl ha hn htk hm =>
  cases(show u=Value.ref a from rx)
  obtain⟨mA,O,_⟩:=aZ4 I.hok ea
  obtain⟨od,J,_⟩:=O.look
  exact fm (PySem.W.kitx_own (cl.get _) cl.hd ha hn htk hm) I.kIn J e (fun z=>nomatch z) h
end
structure dH(k:Nat)(A:Around):Prop where
 hd:A.handled=none
 dp:A.depth+3*k+5<recursionLimit
 un:A.units+16*k+200<cLine
 gd:A.guards=some []
theorem dH.mono{j k:Nat}{A:Around}(r:dH k A)(h:j<=k):dH j A:=⟨r.hd,by have:=r.dp;lia,by have:=r.un;lia,r.gd⟩
theorem dH.deeper{k:Nat}{A:Around}(r:dH (k+1) A)(env:Env):dH k (A.deeper env):=
 ⟨r.hd,by have:=r.dp;show A.depth+1+3*k+5<_;lia,by have:=r.un;show A.units+3+16*k+200<_;lia,r.gd⟩
theorem dH.depth{k:Nat}{A:Around}(r:dH k A):A.depth<recursionLimit:=by have:=r.dp;lia
theorem dH.units{k:Nat}{A:Around}(r:dH k A):A.units+64<cLine:=by have:=r.un;lia
def tNil:TA:=fun _ H Q=>Q [] H
def pY(ta:TE)(tr:TA):TA:=fun σ H Q=>ta σ H fun x H1=>tr σ H1 fun xs H2=>Q (x::xs) H2
section
variable {X:Cx}{e:Expr}{es:List Expr}{te:TE}{t:TA}{pos:Pos}
theorem cX:PA X [] tNil:=fun _ _ _ _ H Q I h=>kg ⟨[],H,I,.nil,h⟩
theorem aA(ha:PE X e te)(hr:PA X es t)(hs:autoParam (starEach (e::es) X.env=(false,eval e X.env)::starEach es X.env) Rq0._auto_1):PA X (e::es) (pY te t):=by
 intro pos pins s σ H Q I h
 rw[hs]
 show wpAny _ _ (spliced ((false,eval e X.env)::backTo pos (starEach es X.env))) _ _ s
 refine im (cK (ha pins s σ H _ I h) ?_);rintro u s1 ⟨x,H1,I1,r1,q1⟩
 refine cK (hr pos pins s1 σ H1 _ I1 q1) ?_;rintro us s2 ⟨xs,H2,I2,r2,q2⟩;exact⟨x::xs,H2,I2,.cons r1 r2,q2⟩
def cC0(t:TA):TE:=fun σ H Q=>t σ H fun xs H1=>xs.length<=sizeLine/\∀p,H1 p=none->Q (.ref p) (aN H1 p (.tup xs))
def cA7(t:TA):TE:=fun σ H Q=>t σ H fun xs H1=>xs.length<=sizeLine/\∀p,H1 p=none->Q (.ref p) (aN H1 p (.lst xs))
theorem bE{x1}(h:PA X es t):PE X (.Tuple es x1 pos) (cC0 t):=by
 intro pins s σ H Q I hq
 refine wpAny_Tuple_spliced (cK (h pos pins s σ H _ I hq) ?_);rintro us s1 ⟨xs,H1,I1,r,z,q⟩;refine⟨by rw[<-r.length];exact z,?_⟩
 have hf:H1 s1.heap.objs.size=none:=I1.hok.fresh (ah _)
 refine⟨.ref s1.heap.objs.size,aN H1 s1.heap.objs.size (.tup xs),I1.laid (t':=s1.toks) (fun b u e=>ae _ e) (ah _) ?_,rfl,q _ hf⟩
 exact⟨z,us,r,⟨_,bb _ rfl,rfl,_,rfl,rfl⟩⟩
theorem bZ(h:PA X es t):PE X (.List es pos) (cA7 t):=by
 intro pins s σ H Q I hq
 refine wpAny_List_spliced (cK (h pos pins s σ H _ I hq) ?_);rintro us s1 ⟨xs,H1,I1,r,z,q⟩;refine⟨by rw[<-r.length];exact z,?_⟩
 have hf:H1 s1.heap.objs.size=none:=I1.hok.fresh (ah _)
 refine⟨.ref s1.heap.objs.size,aN H1 s1.heap.objs.size (.lst xs),I1.laid (t':=s1.toks) (fun b u e=>ae _ e) (ah _) ?_,rfl,q _ hf⟩
 exact⟨z,us,0,r,bb _ rfl⟩
end
abbrev Sp:=List V->Hp->VK->XK->Prop
abbrev CXT:=List Env->Hp->Shared->XK->Value->Shared->Prop
structure wX(P:Program)(w:World)(K:PySem.W.Frag)(mg:Str->Option Value)(base:Heap)(A:Around)(outer:List Env)(s:Shared)(H:Hp):Prop where
 frames:A.frames=some outer
 mod:Mod K mg base
 bs:∀b o,base.get? b=some o->s.heap.get? b=some o/\H b=none
 bsz:base.objs.size<=s.heap.objs.size
 funs:s.heap.FunFrames base outer
 frf:∀b∈iR outer,H b=none
 hok:jH P w H s.heap
 bare:AllBare s.gens
def CE(outer:List Env)(P:Program)(w:World)(H:Hp)(s:Shared)(Q:VK)(u:Value)(s':Shared):Prop:=
 ∃v H',s'.os=s.os/\AllBare s'.gens/\Un (iR outer) [] H H' s.heap s'.heap/\jH P w H' s'.heap/\bJ v u/\Q v H'
def CR(CX:CXT)(outer:List Env)(P:Program)(w:World)(H:Hp)(s:Shared)(Q:VK)(E:XK)(r:Result)(s':Shared):Prop:=
 match r with
 |.ok (.ret u)=>CE outer P w H s Q u s'
 |.ok _=>False
 |.error e=>CX outer H s E e s'
structure kF(P:Program)(w:World)(K:PySem.W.Frag)(mg:Str->Option Value)(base:Heap)(CX:CXT)(k:Nat)(f:Addr)(fd:FuncData)(ps:List Str)(sp:Sp):Prop where
 len:∀vs H Q E,sp vs H Q E->vs.length=ps.length
 run:∀(A:Around) (outer:List Env) (s:Shared) (H:Hp) (args:Args) (us:List Value) (vs:List V) (Q:VK) (E:XK),dH k A->wX P w K mg base A outer s H->BindsTo s fd args (ps.zip us)->bI vs us->sp vs H Q E ->
  codeAny (model P w) A (.call (.ref f) args) (CR CX outer P w H s Q E) s
section
variable {X:Cx}{pins:List (Addr×Obj)}{σ:St}{H:Hp}{s s':Shared}
theorem aU.env0(I:aU X pins σ H s):wX X.prog X.w X.K X.mg X.base X.A X.stack s H:=
 ⟨I.ok.frames,I.ok.mod,I.bs,cp I.ok.bsz I.sz,I.stack,I.stkFree,I.hok,I.bare⟩
theorem aU.after{Q:VK}{u:Value}(I:aU X pins σ H s)(h:CE X.stack X.prog X.w H s Q u s'):EP X pins σ Q u s':=by
 obtain⟨v,H',os,bare,un,hok,r,q⟩:=h
 obtain⟨hh,g,d,t,os'⟩:=s'
 obtain rfl:os'=s.os:=os
 exact⟨v,H',I.call (h':=hh) (g':=g) (d':=d) (t':=t) (ch:=[]) un hok bare (fun b z=>absurd z (by simp)),r,q⟩
end
def qL(sp:Sp)(dvs:List V)(E:XK)(t:TA):TE:=fun σ H Q=>t σ H fun vs H1=>sp (vs++dvs) H1 Q E
def gM(K:PySem.W.Frag)(fd:FuncData)(ps:List Str)(ds:List Value):Prop:=
 ∀(s:Shared) (us:List Value),K.In s.heap->(us++ds).length=ps.length->BindsTo s fd ⟨us,[]⟩ (ps.zip (us++ds))
theorem gM.all{K:PySem.W.Frag}{fd:FuncData}{ps:List Str}(h:∀us:List Value,us.length=ps.length->bindArgs fd ⟨us,[]⟩=pure (ps.zip us)):gM K fd ps []:=fun s us _ hl=>by
 rw[gz] at hl ⊢
 exact .of_eq (h us hl)
def rH(CX:CXT)(X:Cx)(E:XK):Prop:=∀(pins:List (Addr×Obj)) (σ:St) (H:Hp) (s:Shared) (e:Value) (s':Shared),aU X pins σ H s->CX X.stack H s E e s'->X.xe e s'
section
variable {X:Cx}{CX:CXT}{k:Nat}{f C:Addr}{fd:FuncData}{ps:List Str}{sp:Sp}{dvs:List V}{ds:List Value}{E:XK}{x m:Str}{p pos apos:Pos}{e o:Expr}{es:List Expr}{ta:TE}{t:TA}
theorem bS0{pins:List (Addr×Obj)}{σ:St}{H:Hp}{s:Shared}{Q:VK}{us:List Value}{vs:List V}(F:kF X.prog X.w X.K X.mg X.base CX k f fd ps sp)(hr:dH k X.A)(hb:gM X.K fd ps ds)(hd:bI dvs ds)(hx:rH CX X E)
  (I:aU X pins σ H s) (r:bI vs us) (h:sp (vs++dvs) H Q E):wpAny (model X.prog X.w) X.A (call (.ref f) us) (EP X pins σ Q) X.xe s:=by
 have r2:bI (vs++dvs) (us++ds):=r.append hd
 have hl:(us++ds).length=ps.length:=by rw[<-r2.length];exact F.len _ _ _ _ h
 refine oh (km (F.run X.A X.stack s H ⟨us,[]⟩ (us++ds) (vs++dvs) Q E hr I.env0 (hb s us I.kIn hl) r2 h) fun r s' hq=>?_)
 cases r with
 |error e=>exact hx pins σ H s e s' I hq
 |ok fl =>
  cases fl with
  |ret u=>exact I.after hq
  |next=>exact False.elim hq
  |brk=>exact False.elim hq
  |cont=>exact False.elim hq
theorem aC0(F:kF X.prog X.w X.K X.mg X.base CX k f fd ps sp)(hr:dH k X.A)(hg:Gl X x)(hm:X.mg x=some (.ref f))(hk:PySem.W.keepIn X.K (.ref f)=true)(hb:gM X.K fd ps ds)(hd:bI dvs ds)(hx:rH CX X E)
  (ha:PA X (e::es) t) (hdb:autoParam ((x==("__debug__": Str))=false) Rq1._auto_1) (he:autoParam (starEach (e::es) X.env=(false,eval e X.env)::starEach es X.env) Rq0._auto_1) (hpl:autoParam ((backTo pos (starEach es X.env)).any (·.1)=false) Rq0._auto_1) :
  PE X (.Call (.Name x p) (e::es) [] pos) (qL sp dvs E t):=by
 intro pins s σ H Q I h
 refine ge (mM I hg hm ?_ hdb)
 refine PySem.W.callWith_K (h₀:=X.base) I.ok.mod.kin hk (cK (ha pos pins s σ H _ I h) ?_) he hpl;rintro us s1 ⟨vs,H1,I1,r,q⟩;refine⟨I1.kIn,?_⟩
 exact bS0 F hr hb hd hx I1 r q
end
section
variable {X:Cx}{CX:CXT}{k:Nat}{f C:Addr}{fd:FuncData}{ps ks:List Str}{sp:Sp}{E:XK}{x m:Str}{p pos apos kpos:Pos}{e o:Expr}{es:List Expr}{kws:List Keyword}{te ta:TE}{t tk:TA}{nm:Option Str}
variable {g:List Value->List Value->List Value}{gV:List V->List V->List V}
end
structure dY(N P:List Str)(sc:Scope):Prop where
 kind:sc.kind= .function
 co:sc.isCoroutine=false
 gen:sc.isGenerator=false
 nd:N.Nodup
 pre:N.take P.length=P
 par:∀x∈P,sc.names.lookup x=some .local\/sc.names.lookup x=some .cell
 nofree:∀y∈sc.names,y.2≠ .free
theorem uA{kindOf:Str->Option NameKind}{x:Str}:∀{binds:List (Str×Value)}{m:Str->Option Value},(∀v,(x,v)∉binds)->bindL kindOf binds m x=m x
 |[],_,_=>rfl
 |(n,v)::r,m,h=>by
  unfold bindL
  rw[uA fun w hw=>h w (ak _ hw)]
  split
  ·have:x≠n:=by rintro rfl;exact h v aq
   simp[this]
  ·rfl
theorem tK{kindOf:Str->Option NameKind}{x:Str}:∀{binds:List (Str×Value)}{m:Str->Option Value},(∀v,(x,v)∉binds)->bindC kindOf binds m x=m x
 |[],_,_=>rfl
 |(n,v)::r,m,h=>by
  unfold bindC
  rw[tK fun w hw=>h w (ak _ hw)]
  split
  ·rfl
  ·have:x≠n:=by rintro rfl;exact h v aq
   simp[this]
theorem uE{kindOf:Str->Option NameKind}{x:Str}{v:Value}:∀{P:List Str}{vs:List Value}{i:Nat}{m:Str->Option Value},P.Nodup->P[i]?=some x->vs[i]?=some v->kindOf x=some .local ->
  bindL kindOf (P.zip vs) m x=some v
 |[],_,_,_,_,h,_,_=>by simp at h
 |_::_,[],_,_,_,_,h,_=>by simp at h
 |p::P,w::vs,0,m,nd,h1,h2,hk=>by
  simp at h1 h2;subst h1;subst h2
  show bindL kindOf ((p,w)::P.zip vs) m p=_
  unfold bindL
  rw[uA fun v hv=>(cy.mp nd).1 (jr hv).1,bg hk]
  simp
 |p::P,w::vs,i+1,m,nd,h1,h2,hk=>by
  show bindL kindOf ((p,w)::P.zip vs) m x=_
  unfold bindL
  exact uE (i:=i) (cy.mp nd).2 (by simpa using h1) (by simpa using h2) hk
theorem tY{kindOf:Str->Option NameKind}{x:Str}{v:Value}:∀{P:List Str}{vs:List Value}{i:Nat}{m:Str->Option Value},P.Nodup->P[i]?=some x->vs[i]?=some v->kindOf x≠some .local ->
  bindC kindOf (P.zip vs) m x=some v
 |[],_,_,_,_,h,_,_=>by simp at h
 |_::_,[],_,_,_,_,h,_=>by simp at h
 |p::P,w::vs,0,m,nd,h1,h2,hk=>by
  simp at h1 h2;subst h1;subst h2
  show bindC kindOf ((p,w)::P.zip vs) m p=_
  unfold bindC
  rw[tK fun v hv=>(cy.mp nd).1 (jr hv).1,av hk]
  simp
 |p::P,w::vs,i+1,m,nd,h1,h2,hk=>by
  show bindC kindOf ((p,w)::P.zip vs) m x=_
  unfold bindC
  exact tY (i:=i) (cy.mp nd).2 (by simpa using h1) (by simpa using h2) hk
def eS(N:List Str)(vs:List V):St:=vs.map some++List.replicate (N.length-vs.length) none
def iT(CX:CXT)(P:Program)(w:World)(K:PySem.W.Frag)(mg:Str->Option Value)(base:Heap)(N:List Str)(qual:Str)(scope:Scope)(f:Addr)(cd:Value)(A:Around)(outer:List Env)(s:Shared)(H:Hp)(E:XK):Cx where
 prog:=P
 w:=w
 K:=K
 mg:=mg
 base:=base
 A:=A.deeper (envOfC qual scope s.heap.objs.size f cd)
 N:=N
 s₀:=s
 H₀:=H
 env:=envOfC qual scope s.heap.objs.size f cd
 outer:=outer
 stack:=envOfC qual scope s.heap.objs.size f cd::outer
 ex:=[]
 calm:=true
 fn:=fun _=>true
 pn:=[]
 xe:=fun e s'=>wpAny (model P w) (A.deeper (envOfC qual scope s.heap.objs.size f cd)) (leaving (envOfC qual scope s.heap.objs.size f cd) e) (fun _ s''=>CX outer H s E e s'') (fun e' s''=>CX outer H s E e' s'') s'
theorem wD{sc:Scope}{n:Nat}{x:Str}(h:sc.names.lookup x=some .cell):∃c,(cellsFrom n sc.names []).lookup x=some c:=by
 have q:=vj sc.names n [] (.inl h)
 exact jh.mp q
theorem lC{CX:CXT}{P:Program}{w:World}{K:PySem.W.Frag}{mg:Str->Option Value}{base:Heap}{N ps:List Str}{qual:Str}{scope:Scope}{f:Addr}{cd:Value}{A:Around}{outer:List Env}{s s1:Shared}{H:Hp}{E:XK}{us:List Value}{vs:List V}
  (S:dY N ps scope) (hd:A.handled=none) (e0:wX P w K mg base A outer s H) (hl:vs.length=ps.length) (r:bI vs us)
  (x:InCallC s s.heap.objs.size (bindL (envOfC qual scope s.heap.objs.size f cd).kindOf (ps.zip us) fun _=>none) (cellsFrom (s.heap.objs.size+1) scope.names []) (bindC (envOfC qual scope s.heap.objs.size f cd).kindOf (ps.zip us) fun _=>none) s1) :
  aU (iT CX P w K mg base N qual scope f cd A outer s H E) [] (eS N vs) H s1:=by
 have hpl:ps.length<=N.length:=by have:=dz List.length S.pre;rw[ci] at this;lia
 obtain⟨h1,tk,rfl,hk⟩:=x.done
 have noA:∀b:Addr,b∉(iT CX P w K mg base N qual scope f cd A outer s H E).ex:=fun b z=>absurd (show b∈([]:List Addr) from z) (by simp)
 refine⟨⟨e0.mod,S.kind,rfl,rfl,ah _,fun y z c h1 h2=>?_,fun y hy=>?_,fun y c _ h=>?_,fun _=>hd,pp e0.frames,.inr ⟨rfl,rfl⟩,fun b z=>absurd z (noA b),e0.bs,e0.bsz,fun b _ _=>noA b,fun b z=>absurd z (noA b),e0.funs,e0.frf⟩,
  rfl,e0.bare,Un.kept hk,⟨_,x.toInCall.ns,fun i y v h1 h2 h3=>?_⟩,fun y c h=>⟨_,x.cell y c h⟩,e0.hok.fresh (ah _),fun y c h=>?_,fun p hp=>absurd (show p∈([]:List (Addr×Obj)) from hp) (by simp),e0.hok.kept hk,?_⟩
 ·exact name_of_addr x.apart (gi h1) (gi h2)
 ·have hy:scope.names.lookup y=some .cell\/scope.names.lookup y=some .free:=hy
  rcases hy with hy|hy
  ·exact wD hy
  ·exact absurd rfl (S.nofree _ (gi hy))
 ·exact cj (x.above y c (gi h))
 ·have hi:i<vs.length:=by
   unfold eS at h2
   by_cases hi:i<vs.length
   ·exact hi
   ·rw[jx (by simpa using hi)] at h2
    rw[List.getElem?_replicate] at h2
    split at h2<;>cases h2
  have ha:vs[i]?=some v:=by
   unfold eS at h2
   rw[sy (by simpa using hi),cq] at h2
   cases e:vs[i]? with
   |none=>rw[e] at h2;cases h2
   |some a=>rw[e] at h2;cases h2;rfl
  obtain⟨u,hu,rv⟩:=r.get ha
  have hp:ps[i]?=some y:=by
   rw[<-S.pre,tu (by lia)];exact h1
  have ndP:ps.Nodup:=by rw[<-S.pre];exact S.nd.sublist (List.take_sublist _ _)
  refine⟨u,rv,?_⟩
  rcases S.par y (bq hp) with k|k
  ·exact .inl ⟨k,uE ndP hp hu k⟩
  ·obtain⟨c,e⟩:=wD (n:=s.heap.objs.size+1) k
   refine .inr ⟨.inl k,c,e,?_⟩
   have q:=x.cell y c e
   rw[tY ndP hp hu (by show scope.names.lookup y≠_;rw[k];decide)] at q
   exact q
 ·exact e0.hok.fresh (cj (x.above y c (gi h)))
 ·unfold eS
  show _=N.length
  rw[ao,ac,vv]
  lia
theorem aX9{CX:CXT}{P:Program}{w:World}{K:PySem.W.Frag}{mg:Str->Option Value}{base:Heap}{k:Nat}{f:Addr}{name qual:Str}{params:Arguments}{body:List Stmt}{scope:Scope}{dV kV doc pm cdv ct oc:Value}{an od:Option Addr}
  {osl:Array (Option Value)}{N ps:List Str}{sp:Sp}(lk:K.lookup f=some ⟨oc,od,.func (PySem.W.fnOf name qual params body scope dV kV doc pm an cdv ct),osl⟩) (hcd:PySem.W.codeIn K cdv qual=true) (S:dY N ps scope)
  (len:∀vs H Q E,sp vs H Q E->vs.length=ps.length)
  (hbody:∀(A:Around) (outer:List Env) (s:Shared) (H:Hp) (vs:List V) (Q:VK) (E:XK),dH k (A.deeper (envOfC qual scope s.heap.objs.size f cdv))->sp vs H Q E ->
   ∃t,nL (iT CX P w K mg base N qual scope f cdv A outer s H E) body t/\t { nx:=fun _ H'=>Q .non H',rt:=Q } (eS N vs) H) :
  kF P w K mg base CX (k+1) f (PySem.W.fnOf name qual params body scope dV kV doc pm an cdv ct) ps sp:=by
 refine⟨len,fun A outer s H args us vs Q E hr e0 hb r hsp=>?_⟩
 have hl:=len _ _ _ _ hsp
 have KX:K.In s.heap:=e0.mod.kin.keeps fun b o e=>(e0.bs b o e).1
 have lim:s.heap.NoLimit:=e0.mod.nolimit.keeps fun b o e=>(e0.bs b o e).1
 have hkind:∀y∈ps.zip us,scope.names.lookup y.1=some .local\/(scope.names.lookup y.1=some .cell/\((cellsFrom (s.heap.objs.size+1) scope.names []).lookup y.1).isSome=true):=fun⟨n,v⟩ hy=>by
  rcases S.par n (jr hy).1 with q|q
  ·exact .inl q
  ·exact .inr ⟨q,vj _ _ _ (.inl q)⟩
 refine lr hr.depth (KX _ _ lk) rfl S.co S.gen rfl (PySem.W.codeRec_of KX hcd) (hb _ _ _ _ ?_)
 refine jy S.kind hkind fun env he s1 x=>?_
 subst he
 refine⟨lim.keeps x.toInCall.keep,ua ?_⟩
 obtain⟨t,ht,hq⟩:=hbody A outer s H vs Q E (hr.deeper _) hsp
 have I:aU (iT CX P w K mg base N qual scope f cdv A outer s H E) [] (eS N vs) H s1:=lC S hr.hd e0 hl r x
 refine dm (ht [] s1 (eS N vs) H _ I hq) (fun fl s' hs=>?_) fun e s' hs=>hs
 have fin:∀{σ':St}{H':Hp}{v:V}{u:Value},aU (iT CX P w K mg base N qual scope f cdv A outer s H E) [] σ' H' s'->bJ v u->Q v H'->CE outer P w H s Q u s':=
  fun {σ' H' v u} J rv q=>⟨v,H',J.os,J.bare,J.base,J.hok,rv,q⟩
 cases fl with
 |ret u =>
  obtain⟨v,σ',H',J,rv,q⟩:=hs
  exact fin J rv q
 |next =>
  obtain⟨σ',H',J,q⟩:=hs
  exact fin (v:=V.non) (u:=Value.none) J rfl q
 |brk =>
  obtain⟨_,_,_,q⟩:=hs
  exact False.elim q
 |cont =>
  obtain⟨_,_,_,q⟩:=hs
  exact False.elim q
section
variable {X:Cx}{x:Str}{p pos:Pos}{e:Expr}{es:List Expr}{t:TA}{id T:String}{r:List V->Hp->VK->Prop}
def tCB(r:List V->Hp->VK->Prop)(t:TA):TE:=fun σ H Q=>t σ H fun vs H1=>r vs H1 Q
theorem hX(hc:eA X (.builtin id) r)(hg:Gl X x)(hm:X.mg x=none)(hv:bootBuiltins x=some (.builtin id))(ha:PA X (e::es) t)(hn:autoParam (x≠"__name__") Rq1._auto_1)(hdb:autoParam ((x==("__debug__": Str))=false) Rq1._auto_1)
  (he:autoParam (starEach (e::es) X.env=(false,eval e X.env)::starEach es X.env) Rq0._auto_1) (hpl:autoParam ((backTo pos (starEach es X.env)).any (·.1)=false) Rq0._auto_1):PE X (.Call (.Name x p) (e::es) [] pos) (tCB r t):=by
 intro pins s σ H Q I h
 refine ge (kE I hg hm hv ?_ hn hdb)
 refine PyProof.Rows.callWith_builtin1 (cK (ha pos pins s σ H _ I h) ?_) he hpl;rintro us s1 ⟨vs,H1,I1,r1,q1⟩;exact hc pins s1 σ H1 vs us Q I1 r1 q1
theorem aI1(hc:eA X (.type T) r)(hg:Gl X x)(hm:X.mg x=none)(hv:bootBuiltins x=some (.type T))(ha:PA X (e::es) t)(hn:autoParam (x≠"__name__") Rq1._auto_1)(hdb:autoParam ((x==("__debug__": Str))=false) Rq1._auto_1)
  (he:autoParam (starEach (e::es) X.env=(false,eval e X.env)::starEach es X.env) Rq0._auto_1) (hpl:autoParam ((backTo pos (starEach es X.env)).any (·.1)=false) Rq0._auto_1):PE X (.Call (.Name x p) (e::es) [] pos) (tCB r t):=by
 intro pins s σ H Q I h
 refine ge (kE I hg hm hv ?_ hn hdb)
 refine ia (cK (ha pos pins s σ H _ I h) ?_) he hpl;rintro us s1 ⟨vs,H1,I1,r1,q1⟩;exact hc pins s1 σ H1 vs us Q I1 r1 q1
end
section
variable {κ:Type} [DecidableEq κ]
def dP(kvs:List (κ×V))(k:κ):Option V:=(kvs.find? fun kv=>decide (kv.1=k)).map (·.2)
def dI(kvs:List (κ×V))(k:κ)(v:V):List (κ×V):=
 if (kvs.any fun kv=>decide (kv.1=k))=true then kvs.map (fun kv=>if kv.1=k then (kv.1,v) else kv) else kvs++[(k,v)]
theorem nJ{k:κ}:dP ([]:List (κ×V)) k=none:=rfl
theorem cO{p:κ×V}{r:List (κ×V)}{k:κ}(e:p.1=k):dP (p::r) k=some p.2:=by simp[dP,List.find?_cons,e]
theorem bX{p:κ×V}{r:List (κ×V)}{k:κ}(e:¬p.1=k):dP (p::r) k=dP r k:=by simp[dP,List.find?_cons,e]
theorem gG(k:κ):∀kvs:List (κ×V),(kvs.any fun kv=>decide (kv.1=k))=(dP kvs k).isSome
 |[]=>rfl
 |p::r=>by
  rw[mi]
  by_cases e:p.1=k
  ·simp only[cO e,decide_eq_true e,Bool.true_or,Option.isSome_some]
  ·rw[bX e,ba e,wy];exact gG k r
theorem wN(k j:κ)(y:V):∀kvs:List (κ×V),dP (kvs.map fun kv=>if kv.1=k then (kv.1,y) else kv) j=(dP kvs j).map fun x=>if j=k then y else x
 |[]=>rfl
 |p::r=>by
  have ih:=wN k j y r
  rw[ek]
  by_cases h:p.1=k
  ·rw[bg h]
   by_cases e:p.1=j
   ·rw[cO (p:=(p.1,y)) e,cO e,pq,bg (e.symm.trans h)]
   ·rw[bX (p:=(p.1,y)) e,bX e,ih]
  ·rw[av h]
   by_cases e:p.1=j
   ·rw[cO (p:=p) e,cO e,pq,av (fun z=>h (e.trans z))]
   ·rw[bX (p:=p) e,bX e,ih]
theorem uF(k j:κ)(y:V):∀kvs:List (κ×V),dP kvs k=none->dP (kvs++[(k,y)]) j=if j=k then some y else dP kvs j
 |[],_=>by
  by_cases e:k=j
  ·rw[bg e.symm];exact cO (p:=(k,y)) e
  ·rw[av (fun z=>e z.symm)];exact bX (p:=(k,y)) e
 |p::r,hn=>by
  rw[ub]
  have hk:¬p.1=k:=fun z=>by rw[cO z] at hn;cases hn
  rw[bX hk] at hn
  have ih:=uF k j y r hn
  by_cases e:p.1=j
  ·rw[cO e,cO e,av (fun z=>hk (e.trans z))]
  ·rw[bX e,bX e,ih]
theorem aM0(kvs:List (κ×V))(k j:κ)(y:V):dP (dI kvs k y) j=if j=k then some y else dP kvs j:=by
 unfold dI
 by_cases a:(kvs.any fun kv=>decide (kv.1=k))=true
 ·rw[bg a,wN]
  rw[gG] at a
  by_cases e:j=k
  ·obtain⟨x,hx⟩:=jh.mp a
   rw[bg e,e,hx,pq,bg rfl]
  ·rw[av e]
   cases dP kvs j with
   |none=>rfl
   |some x=>rw[pq,av e]
 ·rw[av a]
  refine uF k j y kvs ?_
  rw[gG] at a
  cases q:dP kvs k with
  |none=>rfl
  |some x=>rw[q] at a;exact(a rfl).elim
theorem eK(kvs:List (κ×V))(k:κ)(v:V):(dI kvs k v).length<=kvs.length+1:=by
 unfold dI
 split
 ·rw[ac];lia
 ·rw[ao,bz,pw];lia
theorem qI{kvs:List (κ×V)}{k:κ}(v:V)(h:dP kvs k=none):dI kvs k v=kvs++[(k,v)]:=by
 unfold dI
 rw[gG,h]
 exact av (by decide)
theorem iX.isSome_eq{o:Option V}{u:Option Value}(r:iX o u):o.isSome=u.isSome:=by
 cases o with
 |none=>cases u with
  |none=>rfl
  |some _=>exact(show False from r).elim
 |some _=>cases u with
  |none=>exact(show False from r).elim
  |some _=>rfl
theorem iX.getD{o:Option V}{u:Option Value}{d:V}{d':Value}(r:iX o u)(rd:bJ d d'):bJ (o.getD d) (u.getD d'):=by
 cases o with
 |none=>cases u with
  |none=>exact rd
  |some _=>exact(show False from r).elim
 |some _=>cases u with
  |none=>exact(show False from r).elim
  |some _=>exact r
theorem KV.val{kvs:List (κ×V)}{vs:List (κ×Value)}(r:KV kvs vs)(k:κ):iX (dP kvs k) (valueAt vs k):=by
 unfold KV at r
 induction r with
 |nil=>exact iw
 |@cons p q ps qs h t ih =>
  obtain⟨h1,h2⟩:=h
  by_cases e:p.1=k
  ·have e':q.1=k:=h1.symm.trans e
   have b:valueAt (q::qs) k=some q.2:=by simp[valueAt,List.find?_cons,e']
   rw[cO e,b];exact h2
  ·have e':¬q.1=k:=fun z=>e (h1.trans z)
   have b:valueAt (q::qs) k=valueAt qs k:=by simp[valueAt,List.find?_cons,e']
   rw[bX e,b];exact ih
theorem KV.any{kvs:List (κ×V)}{vs:List (κ×Value)}(r:KV kvs vs)(k:κ):(kvs.any fun kv=>decide (kv.1=k))=vs.any fun kv=>decide (kv.1=k):=by
 unfold KV at r
 induction r with
 |nil=>rfl
 |cons h t ih=>rw[mi,mi,ih,h.1]
theorem KV.repl{kvs:List (κ×V)}{vs:List (κ×Value)}(r:KV kvs vs)(k:κ){y:V}{u:Value}(ry:bJ y u) :
  KV (kvs.map fun kv=>if kv.1=k then (kv.1,y) else kv) (vs.map fun kv=>if kv.1=k then (kv.1,u) else kv):=by
 unfold KV at r ⊢
 induction r with
 |nil=>exact .nil
 |@cons p q ps qs h t ih =>
  rw[ek,ek]
  refine .cons ?_ ih
  obtain⟨h1,h2⟩:=h
  by_cases e:p.1=k
  ·rw[bg e,bg (h1.symm.trans e)];exact⟨h1,ry⟩
  ·rw[av e,av (fun z=>e (h1.trans z))];exact⟨h1,h2⟩
theorem KV.put{kvs:List (κ×V)}{vs:List (κ×Value)}(r:KV kvs vs)(k:κ){y:V}{u:Value}(ry:bJ y u):KV (dI kvs k y) (stored vs k u):=by
 unfold dI stored
 rw[r.any k]
 by_cases e:(vs.any fun kv=>decide (kv.1=k))=true
 ·rw[bg e,bg e];exact r.repl k ry
 ·rw[av e,av e];exact Paired.snoc r ⟨rfl,ry⟩
theorem KV.length{kvs:List (κ×V)}{vs:List (κ×Value)}(r:KV kvs vs):kvs.length=vs.length:=gj r
end
theorem oS{P:Program}{w:World}{k:Key}{u:Value}(r:bJ (kV k) u):(aW P w).is k u=true:=by
 cases k with
 |inl i=>obtain⟨t,e⟩:=(show ∃t,u=Value.int i t from r);subst e;exact xC P w i t
 |inr x=>obtain⟨t,e⟩:=(show ∃t,u=Value.str x t from r);subst e;exact xO P w x t
theorem sZ{P:Program}{w:World}:∀{ks:List Key}{us:List Value},bI (ks.map kV) us->ItemsAre (aW P w) ks us
 |[],_,r=>by rw[xu] at r;cases r;exact .nil
 |k::ks,_,r=>by
  rw[ek] at r
  cases r with
  |cons h t=>exact .cons (oS h) (sZ t)
abbrev KT(H:Hp):List (List Key×V)->List (List Key×Addr×Value)->Prop:=Paired fun p q=>p.1=q.1/\H q.2.1=some (.tup (p.1.map kV))/\bJ p.2 q.2.2
theorem KT.val{H:Hp}{kvs:List (List Key×V)}{xs:List (List Key×Addr×Value)}(r:KT H kvs xs)(k:List Key):iX (dP kvs k) ((atKey xs k).map (·.2)):=by
 induction r with
 |nil=>exact iw
 |@cons p q ps qs h t ih =>
  obtain⟨h1,_,h2⟩:=h
  by_cases e:p.1=k
  ·have e':q.1=k:=h1.symm.trans e
   have b:atKey (q::qs) k=some q.2:=by simp[atKey,List.find?_cons,e']
   rw[cO e,b];exact h2
  ·have e':¬q.1=k:=fun z=>e (h1.trans z)
   have b:atKey (q::qs) k=atKey qs k:=by simp[atKey,List.find?_cons,e']
   rw[bX e,b];exact ih
theorem KT.repl{H:Hp}{kvs:List (List Key×V)}{xs:List (List Key×Addr×Value)}(r:KT H kvs xs)(k:List Key){y:V}{u:Value}(ry:bJ y u) :
  KT H (kvs.map fun kv=>if kv.1=k then (kv.1,y) else kv) (xs.map (putAt k u)):=by
 induction r with
 |nil=>exact .nil
 |@cons p q ps qs h t ih =>
  rw[ek,ek]
  refine .cons ?_ ih
  obtain⟨h1,h2,h3⟩:=h
  unfold putAt
  by_cases e:p.1=k
  ·rw[bg e,bg (h1.symm.trans e)];exact⟨h1,h2,ry⟩
  ·rw[av e,av (fun z=>e (h1.trans z))];exact⟨h1,h2,h3⟩
theorem KT.put{H:Hp}{kvs:List (List Key×V)}{xs:List (List Key×Addr×Value)}(r:KT H kvs xs)(k:List Key){b:Addr}{y:V}{u:Value}(hb:H b=some (.tup (k.map kV)))(ry:bJ y u) :
  KT H (dI kvs k y) (storedH xs k b u):=by
 have e:(kvs.any fun kv=>decide (kv.1=k))=(atKey xs k).isSome:=by
  rw[gG,(r.val k).isSome_eq,oo]
 unfold dI storedH
 rw[e]
 by_cases q:(atKey xs k).isSome=true
 ·rw[bg q,bg q];exact r.repl k ry
 ·rw[av q,av q];exact Paired.snoc r ⟨rfl,hb,ry⟩
theorem KT.keeps{H H':Hp}{kvs:List (List Key×V)}{xs:List (List Key×Addr×Value)}(r:KT H kvs xs)(ht:∀b ys,H b=some (.tup ys)->H' b=some (.tup ys)):KT H' kvs xs:=
 Paired.mapP r fun _ _ z=>⟨z.1,ht _ _ z.2.1,z.2.2⟩
section
variable {P:Program}{w:World}{H:Hp}{h:Heap}{a:Addr}
theorem bF2{u:HO}(ok:jH P w H h)(e:Rd H a u):bU P w H h a u:=e.ok ok
theorem tG{kvs:List (Key×V)}(ok:jH P w H h)(e:Rd H a (.dK kvs)):kvs.length<=sizeLine/\(a==sysModules)=false/\∃vs,KV kvs vs/\h.DictOf (aW P w) a vs:=
 show bU P w H h a (.dK kvs) from bF2 ok e
theorem qJ{kvs:List (Key×V)}(ok:jH P w H h)(e:H a=some (.dK kvs)):kvs.length<=sizeLine/\(a==sysModules)=false/\∃vs,KV kvs vs/\h.DictOf (aW P w) a vs:=tG ok (.inl e)
theorem oN{ks:List Key}(ok:jH P w H h)(e:H a=some (.tup (ks.map kV))):(tupleKind (aW P w)).is h ks a:=by
 obtain⟨_,its,r,o,h1,h2,n,h3,_⟩:=(show bU P w H h a (.tup (ks.map kV)) from ok a _ e)
 exact⟨o,its.toArray,n,h1,h2,h3,by simpa using sZ r⟩
theorem sY{kvs:List (List Key×V)}(ok:jH P w H h)(e:Rd H a (.dT kvs)):kvs.length<=sizeLine/\(a==sysModules)=false /\
  ∃xs,KT H kvs xs/\h.DictOfH (tupleKind (aW P w)) a xs:=by
 obtain⟨z,y,xs,r,o,es,ep,h1,h2,h3,h4,h5⟩:=(show bU P w H h a (.dT kvs) from bF2 ok e)
 refine⟨z,y,xs,r,o,es,ep,h1,h2,h3,h4,fun x hx=>?_,h5⟩
 have all:∀{l:List (List Key×V)}{m:List (List Key×Addr×Value)},KT H l m->∀x∈m,(tupleKind (aW P w)).is h x.1 x.2.1:=by
  intro l m q
  induction q with
  |nil=>intro x hx;exact nomatch hx
  |@cons p q ps qs hq t ih =>
   intro x hx
   rcases bu.mp hx with e|hx
   ·subst e
    exact oN ok (by rw[<-hq.1];exact hq.2.1)
   ·exact ih x hx
 exact all r x hx
theorem bG8{kvs:List (List Key×V)}(ok:jH P w H h)(e:H a=some (.dT kvs)):kvs.length<=sizeLine/\(a==sysModules)=false /\
  ∃xs,KT H kvs xs/\h.DictOfH (tupleKind (aW P w)) a xs:=sY ok (.inl e)
end
def fK(H:Hp)(a:Addr)(y:V)(r:Option V):Prop:=
 (∃kvs k,Rd H a (.dK kvs)/\y=kV k/\r=dP kvs k)\/∃kvs k b,Rd H a (.dT kvs)/\y= .ref b/\H b=some (.tup (k.map kV))/\r=dP kvs k
def gO(H:Hp)(a:Addr)(y v:V)(H':Hp):Prop:=
 (∃kvs k,H a=some (.dK kvs)/\y=kV k/\kvs.length<sizeLine/\H'=aN H a (.dK (dI kvs k v))) \/
 ∃kvs k b,H a=some (.dT kvs)/\y= .ref b/\H b=some (.tup (k.map kV))/\kvs.length<sizeLine/\H'=aN H a (.dT (dI kvs k v))
theorem fK.k{H:Hp}{a:Addr}{kvs:List (Key×V)}{k:Key}(e:H a=some (.dK kvs)):fK H a (kV k) (dP kvs k):= .inl ⟨kvs,k,.inl e,rfl,rfl⟩
theorem gO.k{H:Hp}{a:Addr}{kvs:List (Key×V)}{k:Key}{v:V}(e:H a=some (.dK kvs))(hl:kvs.length<sizeLine):gO H a (kV k) v (aN H a (.dK (dI kvs k v))):= .inl ⟨kvs,k,e,rfl,hl,rfl⟩
section
variable {X:Cx}{pins:List (Addr×Obj)}{σ:St}{H:Hp}{s:Shared}{a:Addr}{y v:V}{u r:Value}{o:Option V}{A:Around}{E:Value->Shared->Prop}
theorem aU.big(I:aU X pins σ H s):sysModules<s.heap.objs.size:=by
 have h:mainGlobals<s.heap.objs.size:=(I.mod.glob.keeps I.bk).lt
 exact Nat.lt_trans (by decide) h
theorem aG9{Q:Value->Shared->Prop}(hu:A.units+1<cLine)(I:aU X pins σ H s)(g:fK H a y (some v))(ry:bJ y u)(h:∀w' s',aU X pins σ H s'->bJ v w'->Q w' s') :
  wpAny (model X.prog X.w) A (getItem (.ref a) u) Q E s:=by
 rcases g with⟨kvs,k,e,ey,l⟩|⟨kvs,k,b,e,ey,eb,l⟩
 ·subst ey
  obtain⟨z,hd,vs,rel,dd⟩:=tG I.hok e
  obtain⟨w',hw,rw'⟩:=iX.some_of (v:=v) (o:=valueAt vs k) (by rw[l];exact rel.val k)
  exact wpAny_getItem_of (oS ry) dd.mapOf hw (h w' _ (I.tok _) rw')
 ·subst ey
  cases(show u=Value.ref b from ry)
  obtain⟨z,hd,xs,rel,dd⟩:=sY I.hok e
  obtain⟨w',hw,rw'⟩:=iX.some_of (v:=v) (o:=(atKey xs k).map (·.2)) (by rw[l];exact rel.val k)
  obtain⟨p,hp,hp2⟩:=lh.mp hw
  refine wpAny_getItem_heap (nq hu) (oN I.hok eb) dd hp ?_
  rw[hp2]
  exact h w' _ (I.tok _) rw'
theorem cC9{Q:Value->Shared->Prop}(hu:A.units+1<cLine)(I:aU X pins σ H s)(g:fK H a y o)(ry:bJ y u)(h:∀s',aU X pins σ H s'->Q (.bool o.isSome) s') :
  wpAny (model X.prog X.w) A (compareOp .In u (.ref a)) Q E s:=by
 rcases g with⟨kvs,k,e,ey,l⟩|⟨kvs,k,b,e,ey,eb,l⟩
 ·subst ey
  obtain⟨z,hd,vs,rel,dd⟩:=tG I.hok e
  refine wpAny_in_of (oS ry) hd dd.mapOf ?_
  rw[<-(rel.val k).isSome_eq, <-l]
  exact h _ (I.tok _)
 ·subst ey
  cases(show u=Value.ref b from ry)
  obtain⟨z,hd,xs,rel,dd⟩:=sY I.hok e
  refine wpAny_in_heap (nq hu) (oN I.hok eb) hd dd ?_
  have q:=(rel.val k).isSome_eq
  rw[oo] at q
  rw[<-q, <-l]
  exact h _ (I.tok _)
theorem kW{h':Heap}{t':Nat}{ob:HO}(I:aU X pins σ H s)(mu:Mut (H a))(hs:Heap.SameBut a s.heap h')(he:∃q,h'.get? a=some q)(new:bU X.prog X.w (aN H a ob) h' a ob) :
  aU X pins σ (aN H a ob) { s with heap:=h',toks:=t' }:=
 I.write (x:=a) (e:=a) mu (.inl rfl) (fun b q hb z=>(hs.2 b hb).trans z) he new
theorem qZ{P:Program}{w:World}{H':Hp}{h':Heap}{kvs:List (Key×V)}{vs:List (Key×Value)}(z:kvs.length<=sizeLine)(hd:(a==sysModules)=false)(rel:KV kvs vs)(dd:h'.DictOf (aW P w) a vs) :
  bU P w H' h' a (.dK kvs):=⟨z,hd,vs,rel,dd⟩
theorem aH9{H':Hp}{Q:Unit->Shared->Prop}(hu:A.units+1<cLine)(I:aU X pins σ H s)(g:gO H a y v H')(ry:bJ y u)(rv:bJ v r)(h:∀s',aU X pins σ H' s'->Q () s') :
  wpAny (model X.prog X.w) A (setItem (.ref a) u r) Q E s:=by
 rcases g with⟨kvs,k,e,ey,l,eH⟩|⟨kvs,k,b,e,ey,eb,l,eH⟩
 ·subst ey eH
  obtain⟨z,hd,vs,rel,dd⟩:=qJ I.hok e
  have hz:vs.length<=sizeLine:=by rw[<-rel.length];exact z
  have hl:(dI kvs k v).length<=sizeLine:=by have:=eK kvs k v;lia
  refine wpAny_setItem_pairs (hsz:=hz) (oS ry) dd fun h' dd' hs=>h _ ?_
  have he:∃q,h'.get? a=some q:=by obtain⟨q,_,_,hq,_⟩:=dd';exact⟨q,hq⟩
  exact kW I (by rw[e];exact iw) hs he (qZ hl hd (rel.put k rv) dd')
 ·subst ey eH
  cases(show u=Value.ref b from ry)
  obtain⟨z,hd,xs,rel,dd⟩:=bG8 I.hok e
  have hz:xs.length<=sizeLine:=by rw[<-gj rel];exact z
  have hl:(dI kvs k v).length<=sizeLine:=by have:=eK kvs k v;lia
  refine wpAny_setItem_heap (hsz:=hz) (nq hu) (oN I.hok eb) dd fun h' dd' hs=>h _ ?_
  obtain⟨q,es,ep,hq,h2,h3,h4,_,h5⟩:=dd'
  refine kW I (by rw[e];exact iw) hs ⟨q,hq⟩ ⟨hl,hd,_,(rel.put k eb rv).keeps fun c ys ec=>?_,q,es,ep,hq,h2,h3,h4,h5⟩
  rw[aH (iM ec e (fun z=>nomatch z))]
  exact ec
end
section
variable {X:Cx}{pins:List (Addr×Obj)}{σ:St}{H:Hp}{s:Shared}{a:Addr}{kvs:List (Key×V)}{k:Key}{u:Value}{A:Around}{E:Value->Shared->Prop}
end
def bI8(i:Expr):Prop:=∀ov iv,subscripted i false ov iv=operate [ov,iv] (getItem ov iv)
theorem bE6{prog:Program}{w:World}{A:Around}{E:Value->Shared->Prop}{s:Shared}{env:Env}{value slice:Expr}{pos:Pos}{T id:String}{Q:Value->Shared->Prop}
  (hl:typeLookup (.type T) "__getitem__"=pure (some (.builtin id))) (hs:bI8 slice)
  (h:wpAny (model prog w) A (eval value env) (fun o s₁=>wpAny (model prog w) A (eval slice env) (fun i s₂=>s₂.TypeIs o T/\wpAny (model prog w) A (getItem o i) Q E s₂) E s₁) E s) :
  wpAny (model prog w) A (eval (.Subscript value slice pos) env) Q E s:=by
 refine wm (dm h (fun o s₁ h₁=>dm h₁ (fun i s₂ h₂=>?_) fun _ _ x=>x) fun _ _ x=>x)
 obtain⟨hT,h₂⟩:=h₂
 unfold subscriptTail
 refine aa ?_
 rw[getitemInPython_of_ne hT.not_modules]
 refine aa (va hT hl ?_)
 have fin:wpAny (model prog w) A (subscripted slice false o i) (fun r s₃=>wpAny (model prog w) A (letTemporaryGo value o r>>=fun _=>pure r) Q E s₃) E s₂:=by
  rw[hs o i]
  exact wpAny_operating (dm h₂ (fun r s₃ h₃=>aa (wpAny_letTemporaryGo (aj h₃))) fun _ _ x=>x)
 first
  |exact aj (aa fin)
  |exact aa (aj (aa fin))
  |exact aa fin
theorem wE{X:Cx}{pins:List (Addr×Obj)}{σ:St}{H:Hp}{s:Shared}{a:Addr}{y:V}{o:Option V}(I:aU X pins σ H s)(g:fK H a y o):s.TypeIs (.ref a) "dict":=by
 rcases g with⟨kvs,k,e,_,_⟩|⟨kvs,k,b,e,_,_,_⟩
 ·obtain⟨_,_,vs,_,dd⟩:=tG I.hok e
  exact dd.typeIs
 ·obtain⟨_,_,xs,_,dd⟩:=sY I.hok e
  exact dd.typeIs
def bF6(td ty:TE):TE:=fun σ H Q=>td σ H fun x H1=>ty σ H1 fun y H2=>∃a v,x= .ref a/\fK H2 a y (some v)/\Q v H2
def cD4(ty td:TE):TE:=fun σ H Q=>ty σ H fun y H1=>td σ H1 fun x H2=>∃a o,x= .ref a/\fK H2 a y o/\Q (.bl o.isSome) H2
def bG7(td ty tv:TE):TS:=fun D σ H=>tv σ H fun v H1=>td σ H1 fun x H2=>ty σ H2 fun y H3=>∃a H4,x= .ref a/\gO H3 a y v H4/\D.nx σ H4
section
variable {X:Cx}{o i e value:Expr}{pos pos' tpos:Pos}{td ty tv:TE}
theorem iK(hu:X.A.units+1<cLine)(ho:PE X o td)(hi:PE X i ty)(hs:bI8 i):PE X (.Subscript o i pos) (bF6 td ty):=by
 intro pins s σ H Q I h
 refine bE6 PySem.F.slot_dict_getitem.lookup hs (cK (ho pins s σ H _ I h) ?_);rintro u s1 ⟨x,H1,I1,rx,q1⟩;refine cK (hi pins s1 σ H1 _ I1 q1) ?_;rintro iv s2 ⟨y,H2,I2,ry,a,v,ex,g,q2⟩
 subst ex
 obtain rfl:u=Value.ref a:=rx
 exact⟨wE I2 g,aG9 hu I2 g ry fun w' s3 I3 rw'=>⟨v,H2,I3,rw',q2⟩⟩
theorem vQ(hu:X.A.units+1<cLine)(hi:PE X i ty)(ho:PE X o td):PC X .In i o (cD4 ty td):=by
 intro pins s σ H Q I h
 refine cK (hi pins s σ H _ I h) ?_;rintro iv s1 ⟨y,H1,I1,ry,q1⟩;refine cK (ho pins s1 σ H1 _ I1 q1) ?_;rintro u s2 ⟨x,H2,I2,rx,a,ov,ex,g,q2⟩
 subst ex
 obtain rfl:u=Value.ref a:=rx
 exact cC9 hu I2 g ry fun s3 I3=>⟨.bl ov.isSome,H2,I3,rfl,q2⟩
theorem pM(hu:X.A.units+1<cLine)(ho:PE X o td)(hi:PE X i ty)(hv:PE X value tv)(hs:swapsWith value (some (.Subscript o i pos')) pos.line X.env=pure false) :
  PS X (.Assign [.Subscript o i pos'] value pos) (bG7 td ty tv):=by
 intro pins s σ H D I h
 refine wpAny_Assign_Subscript (cK (hv pins s σ H _ I h) ?_) hs;rintro r s1 ⟨v,H1,I1,rv,q1⟩;refine cK (ho pins s1 σ H1 _ I1 q1) ?_;rintro u s2 ⟨x,H2,I2,rx,q2⟩;refine cK (hi pins s2 σ H2 _ I2 q2) ?_;rintro iv s3 ⟨y,H3,I3,ry,a,H4,ex,g,q3⟩
 subst ex
 obtain rfl:u=Value.ref a:=rx
 exact aH9 hu I3 g ry rv fun s4 I4=>⟨σ,H4,I4,q3⟩
end
theorem qG{P:Program}{w:World}{H:Hp}(h:Heap)(hb:sysModules<h.objs.size):bU P w H (h.push { cls:= .type "dict",data:= .dict #[] }) h.objs.size (.dK []):=
 ⟨bt _,mx.mpr (Ne.symm (bw hb)),[],.nil,Heap.DictOf.new h⟩
theorem aP0{P:Program}{w:World}{H:Hp}(h:Heap)(hb:sysModules<h.objs.size):bU P w H (h.push { cls:= .type "dict",data:= .dict #[] }) h.objs.size (.dT []):=
 ⟨bt _,mx.mpr (Ne.symm (bw hb)),[],.nil,_, #[],0,bb _ rfl,⟨rfl,rfl,rfl⟩,rfl,rfl,oj⟩
def tDNewK:TE:=fun _ H Q=>∀p,H p=none->Q (.ref p) (aN H p (.dK []))
section
variable {X:Cx}{pos:Pos}
theorem jX:PE X (.Dict [] [] pos) tDNewK:=fun pins s σ H Q I h =>
 wpAny_Dict_empty ⟨.ref s.heap.objs.size,_,I.laid (a:=s.heap.objs.size) (o:= .dK []) (t':=s.toks) (fun _ _ q=>ae _ q) (ah _) (qG s.heap I.big),rfl,h _ (I.hok.fresh (ah _))⟩
end
def yF:List (TE×TE)->St->Hp->(List (V×V)->Hp->Prop)->Prop
 |[],_,H,Q=>Q [] H
 |(tk,tv)::r,σ,H,Q=>tk σ H fun x H1=>tv σ H1 fun y H2=>yF r σ H2 fun ps H3=>Q ((x,y)::ps) H3
abbrev VV:List (V×V)->List (Value×Value)->Prop:=Paired fun p q=>bJ p.1 q.1/\bJ p.2 q.2
def PPs(X:Cx)(pos:Pos)(keys:List (Option Expr))(values:List Expr)(trs:List (TE×TE)):Prop:=
 ∀(pins:List (Addr×Obj)) (s:Shared) (σ:St) (H:Hp) (Q:List (V×V)->Hp->Prop),aU X pins σ H s->yF trs σ H Q ->
  wpAny (model X.prog X.w) X.A (evalPairs (pairTrees keys values X.env pos)) (fun vs s'=>∃ps H',aU X pins σ H' s'/\VV ps vs/\Q ps H') X.xe s
theorem aC2{X:Cx}{pos:Pos}:PPs X pos [] [] []:=fun pins s σ H Q I h=>pairTrees_nil_walk ⟨[],H,I,.nil,h⟩
theorem fP{X:Cx}{pos:Pos}{k v:Expr}{ks:List (Option Expr)}{vs:List Expr}{tk tv:TE}{trs:List (TE×TE)}(hk:PE X k tk)(hv:PE X v tv)(hr:PPs X pos ks vs trs) :
  PPs X pos (some k::ks) (v::vs) ((tk,tv)::trs):=fun pins s σ H Q I h =>
 pairTrees_cons_walk (cK (hk pins s σ H _ I h) fun u s1 ⟨x,H1,I1,rx,q1⟩=>cK (hv pins s1 σ H1 _ I1 q1) fun w2 s2 ⟨y,H2,I2,ry,q2⟩ =>
  cK (hr pins s2 σ H2 _ I2 q2) (by rintro ws s3 ⟨ps,H3,I3,rel,q3⟩;exact⟨(x,y)::ps,H3,I3,.cons ⟨rx,ry⟩ rel,q3⟩))
def iE(kvs more:List (Key×V)):List (Key×V):=more.foldl (fun acc kv=>dI acc kv.1 kv.2) kvs
theorem KV.merge:∀{more:List (Key×V)}{rs:List (Key×Value)}{kvs:List (Key×V)}{vs:List (Key×Value)},KV more rs->KV kvs vs->KV (iE kvs more) (merged vs rs):=by
 intro more rs kvs vs r
 unfold KV at r
 induction r generalizing kvs vs with
 |nil=>intro q;exact q
 |@cons p q ps qs h t ih =>
  intro r0
  have e:KV (dI kvs p.1 p.2) (stored vs q.1 q.2):=by
   have:=r0.put p.1 h.2
   rw[<-h.1];exact this
  exact ih e
theorem lP:∀(more kvs:List (Key×V)),(iE kvs more).length<=kvs.length+more.length
 |[],kvs=>by show kvs.length<=kvs.length+0;lia
 |p::r,kvs=>by
  have h1:=lP r (dI kvs p.1 p.2)
  have h2:=eK kvs p.1 p.2
  show(iE (dI kvs p.1 p.2) r).length<=_
  rw[bz];lia
theorem qX{P:Program}{w:World}:∀{kvs:List (Key×V)}{ws:List (Value×Value)},VV (kvs.map fun kv=>(kV kv.1,kv.2)) ws->∃rs,Carries (aW P w) ws rs/\KV kvs rs
 |[],_,r=>by rw[xu] at r;cases r;exact⟨[],iw,.nil⟩
 |p::kvs,_,r=>by
  rw[ek] at r
  cases r with
  |@cons a b as bs h t =>
   obtain⟨rs,c,q⟩:=qX (P:=P) (w:=w) t
   obtain⟨b1,b2⟩:=b
   exact⟨(p.1,b2)::rs,⟨oS h.1,rfl,c⟩,.cons ⟨rfl,h.2⟩ q⟩
def bY8(trs:List (TE×TE)):TE:=fun σ H Q=>∀p,H p=none->yF trs σ (aN H p (.dK [])) fun ps H2=>H2 p=some (.dK [])/\∃kvs:List (Key×V),ps=kvs.map (fun kv=>(kV kv.1,kv.2))/\kvs.length<=15/\Q (.ref p) (aN H2 p (.dK (iE [] kvs)))
theorem aE4{X:Cx}{pos:Pos}{keys:List (Option Expr)}{values:List Expr}{trs:List (TE×TE)}(h:PPs X pos keys values trs)(hall:keys.all (·.isSome)=true)(hl:keys.length=values.length)(h0:keys≠[])
  (h15:keys.length<=15):PE X (.Dict keys values pos) (bY8 trs):=by
 intro pins s σ H Q I q
 have hn:=I.hok.fresh (ah s.heap.objs.size)
 have I1:=I.laid (a:=s.heap.objs.size) (o:= .dK []) (h':=s.heap.push { cls:= .type "dict",data:= .dict #[] }) (t':=s.toks) (fun _ _ q=>ae _ q) (ah _) (qG s.heap I.big)
 refine wpAny_Dict_walk (knd:=aW X.prog X.w) hall hl h0 h15 (cK (h pins _ σ _ _ I1 (q _ hn)) ?_);rintro ws s2 ⟨ps,H2,I2,rel,e,kvs,ep,lk,q2⟩
 subst ep
 obtain⟨rs,c,rk⟩:=qX (P:=X.prog) (w:=X.w) rel
 obtain⟨z,hd,vs0,r0,dd⟩:=qJ I2.hok e
 cases r0
 refine⟨rs,c,dd,fun h' dd' hs=>⟨.ref s.heap.objs.size,_,?_,rfl,q2⟩⟩
 have hz:(iE [] kvs).length<=sizeLine:=by
  have h1:=lP kvs []
  rw[pw] at h1
  rw[qx];lia
 have he:∃q,h'.get? s.heap.objs.size=some q:=by obtain⟨q,_,_,hq,_⟩:=dd';exact⟨q,hq⟩
 exact kW I2 (by rw[e];exact iw) hs he (qZ hz hd (rk.merge .nil) dd')
structure M2(X:Cx)(o:Expr)(m:Str)(apos:Pos)(e f:Expr)(cpos:Pos):Prop where
 base:attributeBase o m X.env (eval o X.env)=eval o X.env
 few:((backTo cpos (starEach [e,f] X.env)).all (fun x=> !x.1)&&(backToKw cpos (keywordEach [] X.env)).all (fun x=>x.1.isSome)
  && decide (([e,f]:List Expr).length+([]:List Keyword).length+(if ([]:List Keyword).isEmpty then 0 else 1)<30))=true
 line:(apos.endLine==cpos.line)=true
 trees:backTo cpos (starEach [e,f] X.env)=[(false,eval e X.env),(false,eval f X.env)]
def IsD(H:Hp)(a:Addr):Prop:=(∃kvs,Rd H a (.dK kvs))\/∃kvs,Rd H a (.dT kvs)
theorem aN5{X:Cx}{pins:List (Addr×Obj)}{σ:St}{H:Hp}{s:Shared}{a:Addr}(I:aU X pins σ H s)(d:IsD H a) :
  s.TypeIs (.ref a) "dict"/\(∀b,Value.ref a= .ref b->∃ob,s.heap.get? b=some ob/\ob.dict=none)/\(a==sysModules)=false:=by
 rcases d with⟨kvs,e⟩|⟨kvs,e⟩
 ·obtain⟨_,hd,vs,_,dd⟩:=tG I.hok e
  refine⟨dd.typeIs,fun b q=>?_,hd⟩
  cases q
  obtain⟨ob,_,_,h1,h2,_⟩:=dd
  exact⟨ob,h1,h2.2.1⟩
 ·obtain⟨_,hd,xs,_,dd⟩:=sY I.hok e
  refine⟨dd.typeIs,fun b q=>?_,hd⟩
  cases q
  obtain⟨ob,_,_,h1,h2,_⟩:=dd
  exact⟨ob,h1,h2.2.1⟩
section
variable {X:Cx}{pins:List (Addr×Obj)}{σ:St}{H:Hp}{s:Shared}{a:Addr}{y d:V}{u r:Value}{o:Option V}{A:Around}{E:Value->Shared->Prop}
theorem bQ5{Q:Value->Shared->Prop}(hu:A.units+1<cLine)(I:aU X pins σ H s)(g:fK H a y o)(ry:bJ y u)(rd:bJ d r)(h:∀w' s',aU X pins σ H s'->bJ (o.getD d) w'->Q w' s') :
  wpAny (model X.prog X.w) A (call (.builtin "dict.get") [.ref a,u,r]) Q E s:=by
 rcases g with⟨kvs,k,e,ey,l⟩|⟨kvs,k,b,e,ey,eb,l⟩
 ·subst ey
  obtain⟨z,hd,vs,rel,dd⟩:=tG I.hok e
  refine xw pe dd.typeIs vk (ux _ _ _) (meets_dict_get_default (aW X.prog X.w) a (oS ry) hd r) ⟨_,dd.mapOf,h _ _ (I.tok _) ?_⟩
  rw[l]
  exact(rel.val k).getD rd
 ·subst ey
  cases(show u=Value.ref b from ry)
  obtain⟨z,hd,xs,rel,dd⟩:=sY I.hok e
  refine xw pe dd.typeIs vk (ux _ _ _) (meetsH_dict_get_default (tupleKind (aW X.prog X.w)) a b hd r) ⟨nq hu,k,xs,oN I.hok eb,dd,h _ _ (I.tok _) ?_⟩
  rw[l]
  exact(rel.val k).getD rd
end
def bO9(td ty tx:TE):TE:=fun σ H Q=>td σ H fun x H1=>∃a,x= .ref a/\IsD H1 a/\ty σ H1 fun y H2=>tx σ H2 fun z H3=>∃o,fK H3 a y o/\Q (o.getD z) H3
section
variable {X:Cx}{o e f:Expr}{apos cpos:Pos}{td ty tx:TE}
theorem rP(hu:X.A.units+1<cLine)(ho:PE X o td)(he:PE X e ty)(hf:PE X f tx)(m:M2 X o "get" apos e f cpos):PE X (.Call (.Attribute o "get" apos) [e,f] [] cpos) (bO9 td ty tx):=by
 intro pins s σ H Q I h
 refine yr m.base m.few m.line uy pe PySem.F.type_dict_get (cK (ho pins s σ H _ I h) ?_);rintro u s1 ⟨x,H1,I1,rx,a,ex,d,q1⟩
 subst ex
 obtain rfl:u=Value.ref a:=rx
 obtain⟨t1,t2,_⟩:=aN5 I1 d
 refine⟨t1,t2,?_⟩
 rw[m.trees]
 refine ll rfl (pz (im (cK (he pins s1 σ H1 _ I1 q1) fun iv s2 ⟨y,H2,I2,ry,q2⟩ =>
  im (cK (hf pins s2 σ H2 _ I2 q2) fun fv s3 ⟨z,H3,I3,rz,ov,g,q3⟩=>kg ?_))))
 exact bQ5 hu I3 g ry rz fun w' s4 I4 rw'=>⟨_,H3,I4,rw',q3⟩
end
section
variable {X:Cx}{pins:List (Addr×Obj)}{σ:St}{H:Hp}{s:Shared}{a:Addr}{kvs:List (Key×V)}{A:Around}{E:Value->Shared->Prop}
end
section
variable {X:Cx}{pins:List (Addr×Obj)}{σ:St}{H:Hp}{s:Shared}{a:Addr}{y:V}{u:Value}{A:Around}{E:Value->Shared->Prop}
end
end L2
namespace HT
open PySem PyProof.Rows
section
open PySem.SeqAt
open PySem.AutoSeq1 (wpAny_loadPart')
open PySem.MeetsSeq PySem.MeetsSeq2 PySem.MeetsSeq3
end
section
variable {prog:Program}{w:World}{A:Around}{E:Value->Shared->Prop}{s:Shared}
theorem cat_tup{t b:Addr}{vs ws:List Value}{Q:Value->Shared->Prop}(ht:IsTup s.heap t vs.toArray)(hb:IsTup s.heap b ws.toArray)(hv:vs≠[])
  (h1:ws=[]->Q (.ref t) s) (h2:ws≠[]->Q (.ref s.heap.objs.size) { s with heap:=s.heap.push { cls:= .type "tuple",data:= .seq (vs++ws).toArray } })
  (hsz:vs.length+ws.length<=sizeLine):wpAny (model prog w) A (binaryOp .Add (.ref t) (.ref b)) Q E s:=by
 obtain⟨⟨cls,dd,data,sl⟩,ho,hc,n,hd⟩:=id ht
 obtain⟨⟨cls2,dd2,data2,sl2⟩,ho2,hc2,n2,hd2⟩:=id hb
 simp only at hc hd hc2 hd2
 subst hc hd hc2 hd2
 have e:vs.toArray++ws.toArray=(vs++ws).toArray:=by simp
 by_cases hw:ws=[]
 ·exact concat_meets ⟨_,ho,rfl⟩ ⟨_,ho2,rfl⟩ noFill_tuple_add seq_tuple_add PySem.F.slot_tuple_add PySem.F.entry_tuple_add (PySem.F.args_tuple_add_2 _ _)
   (tuple_addW1 t b vs.toArray ws.toArray n n2 dd dd2 sl sl2 (by simpa using hv) (by simp[hw])) ⟨ho,ho2,h1 hw⟩
 ·refine concat_meets ⟨_,ho,rfl⟩ ⟨_,ho2,rfl⟩ noFill_tuple_add seq_tuple_add PySem.F.slot_tuple_add PySem.F.entry_tuple_add (PySem.F.args_tuple_add_2 _ _)
   (tuple_addW2 t b vs.toArray ws.toArray n n2 dd dd2 sl sl2 (by simpa using hv) (by simpa using hw) (by rw[List.size_toArray,List.size_toArray];exact hsz)) ⟨ho,ho2,?_⟩
  rw[e]
  exact h2 hw
def sIx(n d:Nat):Option Int->Nat
 |none=>d
 |some v=>if v<0 then (v+(n:Int)).toNat else min v.toNat n
theorem sIx_nat(n d k:Nat):sIx n d (some (k:Int))=min k n:=by
 show(if (k:Int)<0 then ((k:Int)+(n:Int)).toNat else min (k:Int).toNat n)=min k n
 rw[if_neg (by lia),Int.toNat_natCast]
theorem bP3(n d:Nat)(hd:d<=n)(o:Option Int):sIx n d o<=n:=by
 cases o with
 |none=>exact hd
 |some v =>
  show(if v<0 then (v+(n:Int)).toNat else min v.toNat n)<=n
  by_cases hv:v<0
  ·rw[if_pos hv];lia
  ·rw[if_neg hv];exact Nat.min_le_right _ _
theorem aE1(v:Int)(n d:Nat):(if v<0 then max (v+(n:Int)) 0 else min v (n:Int))=((sIx n d (some v):Nat):Int):=by
 show(if v<0 then max (v+(n:Int)) 0 else min v (n:Int))=(((if v<0 then (v+(n:Int)).toNat else min v.toNat n):Nat):Int)
 by_cases hv:v<0
 ·simp only[if_pos hv];lia
 ·simp only[if_neg hv];lia
theorem yO(lo hi:Option Int)(n:Nat):Builtin.Slice.sliceAdjust lo hi 1 (n:Int)=(((sIx n 0 lo:Nat):Int),((sIx n n hi:Nat):Int)):=by
 have h1:¬((1:Int)<0):=by lia
 unfold Builtin.Slice.sliceAdjust
 simp only[h1,if_false]
 refine Prod.ext ?_ ?_
 ·cases lo with
  |none=>rfl
  |some v=>exact aE1 v n 0
 ·cases hi with
  |none=>rfl
  |some v=>exact aE1 v n n
theorem zY(i j:Nat):Builtin.Slice.slicePlaces (i:Int) (j:Int) 1=j-i:=by
 unfold Builtin.Slice.slicePlaces
 have h1:(1:Int) > 0:=by lia
 simp only[h1,if_true,Int.ediv_one]
 split<;>lia
theorem qH{v:Value}{o:Option Int}{Q:Option Int->Shared->Prop}(p:IsPart v o)(h:Q o s):wpAny (model prog w) A (Builtin.Slice.slicePartIndex v) Q E s:=by
 cases p with
 |none=>exact slicePart_none h
 |int i t=>exact slicePart_int h
theorem nU{sl:Addr}{vl vu:Value}{lo hi:Option Int}{n:Nat}{Q:Int×Int×Nat->Shared->Prop}(hs:s.heap.IsSliceOf sl vl vu .none)(pl:IsPart vl lo)(pu:IsPart vu hi)
  (h:Q (((sIx n 0 lo:Nat):Int),1,sIx n n hi-sIx n 0 lo) s):wpAny (model prog w) A (Builtin.Slice.sliceApplied (.ref sl) (pure (n:Int))) Q E s:=by
 obtain⟨os,hos,hcs,hds⟩:=id hs
 unfold Builtin.Slice.sliceApplied Builtin.Slice.sliceFields
 refine wpAny_bind (wpAny_bind (wpAny_field hos hds (x:=vl) rfl (wpAny_bind (wpAny_field hos hds (x:=vu) rfl (wpAny_bind (wpAny_field hos hds (x:= .none) rfl (wpAny_pure ?_)))))))
 refine wpAny_bind (slicePart_none ?_)
 show wpAny _ _ (if ((1:Int)==0)=true then _ else _) _ _ s
 rw[if_neg (by decide)]
 refine wpAny_bind (qH pl (wpAny_bind (qH pu (wpAny_bind (wpAny_pure ?_)))))
 show wpAny _ _ (match Builtin.Slice.sliceAdjust lo hi 1 (n:Int) with|(lo,hi)=>pure (lo,(1:Int),Builtin.Slice.slicePlaces lo hi 1)) _ _ s
 rw[yO lo hi n]
 show wpAny _ _ (pure (((sIx n 0 lo:Nat):Int),(1:Int),Builtin.Slice.slicePlaces ((sIx n 0 lo:Nat):Int) ((sIx n n hi:Nat):Int) 1)) _ _ s
 rw[zY]
 exact wpAny_pure h
theorem aL6(xs:Array Value)(i k:Nat):((List.range k).filterMap fun(m:Nat)=>xs[((i:Int)+(m:Int)*1).toNat]?).toArray=((xs.toList.drop i).take k).toArray:=by
 have e:(fun(m:Nat)=>xs[((i:Int)+(m:Int)*1).toNat]?)=fun m=>xs[i+m]?:=by
  funext m
  have:((i:Int)+(m:Int)*1).toNat=i+m:=by lia
  rw[this]
 rw[e]
 have:=pick_run xs i k
 rw[List.filterMap_map] at this
 have e2:((fun x=>xs[x]?) ∘ fun x=>i+x)=fun m=>xs[i+m]?:=rfl
 rw[e2] at this
 rw[this]
theorem getItem_tuple_cut{t sl:Addr}{items:Array Value}{vl vu:Value}{lo hi:Option Int}{Q:Value->Shared->Prop}(ht:IsTup s.heap t items)(hs:s.heap.IsSliceOf sl vl vu .none)(pl:IsPart vl lo)(pu:IsPart vu hi)
  (hw:¬(sIx items.size 0 lo=0/\sIx items.size items.size hi=items.size))
  (h:Q (.ref s.heap.objs.size) { s with heap:=s.heap.push { cls:= .type "tuple",data:= .seq ((items.toList.drop (sIx items.size 0 lo)).take (sIx items.size items.size hi-sIx items.size 0 lo)).toArray } })
  (hsz:items.size<=sizeLine):wpAny (model prog w) A (getItem (.ref t) (.ref sl)) Q E s:=by
 have htake:sizeOk (.seq ((items.toList.drop (sIx items.size 0 lo)).take (sIx items.size items.size hi-sIx items.size 0 lo)).toArray):=by
  show((items.toList.drop (sIx items.size 0 lo)).take (sIx items.size items.size hi-sIx items.size 0 lo)).toArray.size<=sizeLine
  rw[List.size_toArray,List.length_take,List.length_drop,Array.length_toList]
  lia
 have hj:sIx items.size items.size hi<=items.size:=bP3 _ _ (Nat.le_refl _) hi
 obtain⟨os,hos,hcs,hds⟩:=id hs
 have hTs:s.TypeIs (.ref sl) "slice":=⟨os,hos,hcs⟩
 unfold getItem
 try with_reducible refine wpAny_holding ?_
 first|refine wpAny_bind (wpAny_pure ?_)|skip
 refine wpAny_bind (wpAny_sequenceKey ht.typeIs (by decide) ?_)
 refine wpAny_bind (wpAny_callSpecial?_slot (name:=Str.ofString "__getitem__") ht.typeIs PyProof.Rows.slot_tuple_getitem
  (wpAny_call_entry PyProof.Rows.slot_tuple_getitem ht.typeIs entry_tuple_getitem ?_ (args_tuple_getitem _ _)))
 show wpAny _ _ (Builtin.Tuple.tupleItemsOf (.ref t)>>=_) _ _ s
 refine wpAny_bind (tupleItemsOf_ ht ?_)
 refine wpAny_bind (wpAny_typeOf hTs ?_)
 rw[if_pos (by decide)]
 refine wpAny_bind (nU hs pl pu ?_)
 have hno:¬((((sIx items.size 0 lo:Nat):Int)==0&&(1:Int)==1&&(sIx items.size items.size hi-sIx items.size 0 lo)==items.size)=true):=by
  intro q
  rw[Bool.and_eq_true,Bool.and_eq_true] at q
  have q1:((sIx items.size 0 lo:Nat):Int)=0:=eq_of_beq q.1.1
  have q2:sIx items.size items.size hi-sIx items.size 0 lo=items.size:=eq_of_beq q.2
  exact hw ⟨by lia,by lia⟩
 show wpAny _ _ (if (((sIx items.size 0 lo:Nat):Int)==0&&(1:Int)==1&&(sIx items.size items.size hi-sIx items.size 0 lo)==items.size)=true then _ else _) _ _ s
 rw[if_neg hno,aL6]
 first
  |exact wpAny_bind (m:=Builtin.Tuple.tupleExact _) (wpAny_newObj_type (wpAny_pure ⟨_,rfl,wpAny_pure h⟩) htake)
  |exact wpAny_bind (m:=Builtin.Tuple.tupleExact _) (wpAny_newObj_type (wpAny_bind (wpAny_pure (wpAny_pure ⟨_,rfl,wpAny_pure h⟩))) htake)
  |exact wpAny_bind (wpAny_bind (m:=Builtin.Tuple.tupleExact _) (wpAny_newObj_type (wpAny_pure (wpAny_pure ⟨_,rfl,wpAny_pure h⟩)) htake))
  |exact wpAny_bind (wpAny_bind (m:=Builtin.Tuple.tupleExact _) (wpAny_newObj_type (wpAny_pure ⟨_,rfl,wpAny_pure h⟩) htake))
end
end HT
namespace L2
open PySem PySem.Spec PyProof.Rows
abbrev TO:=St->Hp->(Option Int->Hp->Prop)->Prop
def PO(X:Cx)(e:Option Expr)(t:TO):Prop:=
 ∀(pins:List (Addr×Obj)) (s:Shared) (σ:St) (H:Hp) (Q:Option Int->Hp->Prop),aU X pins σ H s->t σ H Q ->
  wpAny (model X.prog X.w) X.A (evalPart e X.env) (fun u s'=>∃o H',aU X pins σ H' s'/\IsPart u o/\Q o H') X.xe s
def tNoPart:TO:=fun _ H Q=>Q none H
def bS8(t:TE):TO:=fun σ H Q=>t σ H fun x H1=>∃i,x= .int i/\Q (some i) H1
section
variable {X:Cx}{e:Expr}{te:TE}{lo hi:Option Expr}{tl th:TO}{pos p2:Pos}
theorem dG:PO X none tNoPart:=by
 intro pins s σ H Q I h
 rw[xb]
 exact aj ⟨none,H,I,.none,h⟩
theorem cS(h:PE X e te):PO X (some e) (bS8 te):=by
 intro pins s σ H Q I hw
 rw[evalPart_some]
 refine cK (h pins s σ H _ I hw) ?_;rintro u s1 ⟨x,H1,I1,r1,q1⟩
 obtain⟨i,rfl,q⟩:=q1
 obtain⟨t,rfl⟩:=r1
 exact⟨some i,H1,I1,.int i t,q⟩
def SlR(X:Cx)(r:V->Option Int->Option Int->Hp->VK->Prop):Prop:=
 ∀(pins:List (Addr×Obj)) (s:Shared) (σ:St) (H:Hp) (x:V) (v vl vu:Value) (lo hi:Option Int) (sl:Addr) (Q:VK),aU X pins σ H s->bJ x v->s.heap.IsSliceOf sl vl vu .none->IsPart vl lo->IsPart vu hi->r x lo hi H Q ->
  ∃T id,typeLookup (.type T) "__getitem__"=pure (some (.builtin id))/\s.TypeIs v T/\wpAny (model X.prog X.w) X.A (getItem v (.ref sl)) (EP X pins σ Q) X.xe s
def tSl(r:V->Option Int->Option Int->Hp->VK->Prop)(te:TE)(tl th:TO):TE:=fun σ H Q=>te σ H fun x H1=>tl σ H1 fun l H2=>th σ H2 fun u H3=>r x l u H3 Q
theorem cC{r:V->Option Int->Option Int->Hp->VK->Prop}(hr:SlR X r)(he:PE X e te)(hl:PO X lo tl)(hu:PO X hi th):PE X (.Subscript e (.Slice lo hi none p2) pos) (tSl r te tl th):=by
 intro pins s σ H Q I h
 refine wm (cK (he pins s σ H _ I h) ?_);rintro v s1 ⟨x,H1,I1,r1,q1⟩
 refine wpAny_Slice (cK (hl pins s1 σ H1 _ I1 q1) ?_);rintro vl s2 ⟨l,H2,I2,pl,q2⟩;refine cK (hu pins s2 σ H2 _ I2 q2) ?_;rintro vu s3 ⟨u,H3,I3,pu,q3⟩
 rw[xb]
 refine aj ?_
 have I4:aU X pins σ H3 { s3 with heap:=s3.heap.push { cls:= .type "slice",data:= .fields #[vl,vu,.none] } }:=I3.kept (t':=s3.toks) fun b ob q=>ae _ q
 obtain⟨T,id,hT,ht,hg⟩:=hr pins { s3 with heap:=s3.heap.push { cls:= .type "slice",data:= .fields #[vl,vu,.none] } } σ H3 x v vl vu l u s3.heap.objs.size Q I4 r1 (ya ..) pl pu q3
 show wpAny (model X.prog X.w) X.A (subscriptTail e (.Slice lo hi none p2) v (.ref s3.heap.objs.size)) (EP X pins σ Q) X.xe { s3 with heap:=s3.heap.push { cls:= .type "slice",data:= .fields #[vl,vu,.none] } }
 exact tail_any (ops:=[.ref s3.heap.objs.size,v]) ht hT hg (by with_unfolding_all rfl)
def iF(xs:List V)(lo hi:Option Int):List V:=(xs.drop (HT.sIx xs.length 0 lo)).take (HT.sIx xs.length xs.length hi-HT.sIx xs.length 0 lo)
theorem oR(xs:List V)(lo hi:Option Int):(iF xs lo hi).length<=xs.length:=by
 unfold iF
 rw[ci,me]
 lia
inductive bW5(K:PySem.W.Frag)(x:V)(lo:Option Int)(hi:Option Int)(H:Hp)(Q:VK):Prop
 |mk:∀a xs,(x= .ref a)->(aR K H a xs)->(¬(HT.sIx xs.length 0 lo=0/\HT.sIx xs.length xs.length hi=xs.length))->(∀p,H p=none->Q (.ref p) (aN H p (.tup (iF xs lo hi))))->bW5 K x lo hi H Q
theorem kP:SlR X (bW5 X.K):=by
 intro pins s σ H x v vl vu lo hi sl Q I rx hs pl pu h
 obtain⟨a,xs,rfl,hx,hw,q⟩:=h
 cases rx
 obtain⟨its,r,ht,hz⟩:=I.tuple hx
 have hlen:its.toArray.size=xs.length:=by rw[bn];exact r.length.symm
 refine⟨"tuple",_,PyProof.Rows.slot_tuple_getitem.lookup,ht.typeIs,?_⟩
 refine HT.getItem_tuple_cut ht hs pl pu (by rw[hlen];exact hw) ?_ (by rw[hlen];exact hz)
 rw[hlen]
 refine⟨.ref s.heap.objs.size,_,I.laid (t':=s.toks) (o:= .tup (iF xs lo hi)) (fun b ob q=>ae _ q) (ah _) ?_,rfl,q _ (I.hok.fresh (ah _))⟩
 exact⟨cp (oR xs lo hi) hz,_,(r.drop (HT.sIx xs.length 0 lo)).take (HT.sIx xs.length xs.length hi-HT.sIx xs.length 0 lo),kL.new _ _⟩
inductive bF5(K:PySem.W.Frag)(x:V)(y:V)(H:Hp)(Q:VK):Prop
 |mk:∀a b xs ys,(x= .ref a)->(y= .ref b)->(aR K H a xs)->(aR K H b ys)->(xs≠[])->(xs.length+ys.length<=sizeLine)->((ys=[]->Q (.ref a) H))->((ys≠[]->∀p,H p=none->Q (.ref p) (aN H p (.tup (xs++ys)))))->bF5 K x y H Q
theorem bI.nil_iff{xs:List V}{us:List Value}(r:bI xs us):us=[]↔xs=[]:=by
 cases r with
 |nil=>simp
 |cons _ _=>simp
theorem bD8:jC X (binaryOp .Add) (bF5 X.K):=by
 intro pins s σ H x y v u Q I rx ry h
 obtain⟨a,b,xs,ys,rfl,rfl,ha,hb,hx,hz,q1,q2⟩:=h
 cases rx
 cases ry
 obtain⟨its,r1,p1,_⟩:=I.tuple ha
 obtain⟨its2,r2,p2,_⟩:=I.tuple hb
 refine HT.cat_tup p1 p2 (fun z=>hx (r1.nil_iff.mp z)) (fun z=>⟨.ref a,H,I,rfl,q1 (r2.nil_iff.mp z)⟩) (fun z=>?_) (by rw[<-r1.length, <-r2.length];exact hz)
 refine⟨.ref s.heap.objs.size,_,I.laid (t':=s.toks) (o:= .tup (xs++ys)) (fun b ob q=>ae _ q) (ah _) ?_,rfl,q2 (fun w=>z (r2.nil_iff.mpr w)) _ (I.hok.fresh (ah _))⟩
 exact⟨by rw[ao];exact hz,_,r1.append r2,kL.new _ _⟩
end
def ixN(n:Nat)(i:Int):Option Nat:=if 0<=i then (if i<n then some i.toNat else none) else if -(n:Int)<=i then some (i+n).toNat else none
def nO{α:Type}(xs:List α)(i:Int):Option α:=(ixN xs.length i).bind fun j=>xs[j]?
theorem aA9{n:Nat}{i:Int}{j:Nat}(h:ixN n i=some j):seqIndex? i n=some j/\j<n/\ -(n:Int)<=i/\i<n:=by
 unfold ixN at h
 by_cases h0:0<=i
 ·rw[bg h0] at h
  by_cases h1:i<n
  ·rw[bg h1] at h
   have e:i.toNat=j:=dg h
   exact⟨by rw[zc h0 h1,e],by lia,by lia,h1⟩
  ·rw[av h1] at h;cases h
 ·rw[av h0] at h
  by_cases h1: -(n:Int)<=i
  ·rw[bg h1] at h
   have e:(i+n).toNat=j:=dg h
   exact⟨by rw[yb (by lia) h1,e],by lia,h1,by lia⟩
  ·rw[av h1] at h;cases h
theorem vH{α:Type}{xs:List α}{i:Int}{v:α}(h:nO xs i=some v):∃j,seqIndex? i xs.length=some j/\xs[j]?=some v/\j<xs.length/\ -(xs.length:Int)<=i/\i<xs.length:=by
 unfold nO at h
 cases e:ixN xs.length i with
 |none=>rw[e] at h;cases h
 |some j =>
  rw[e] at h
  obtain⟨h1,h2,h3,h4⟩:=aA9 e
  exact⟨j,h1,h,h2,h3,h4⟩
theorem aD9{α:Type}{xs:List α}{j:Nat}{v:α}(h:xs[j]?=some v):nO xs (j:Int)=some v:=by
 have hj:j<xs.length:=(bf.mp h).1
 have e:ixN xs.length (j:Int)=some j:=by
  unfold ixN
  rw[bg (by lia),bg (by lia)];simp
 unfold nO;rw[e];exact h
def aD4(b:Expr):Prop:=∀o i,subscripted b false o i=operate [o,i] (getItem o i)
def IxR(X:Cx)(r:R2):Prop:=
 ∀(value slice:Expr) (pins:List (Addr×Obj)) (s:Shared) (σ:St) (H:Hp) (x y:V) (v u:Value) (Q:VK),aU X pins σ H s->bJ x v->bJ y u->r x y H Q ->
  subscripted slice false v u=operate [v,u] (getItem v u)->wpAny (model X.prog X.w) X.A (subscriptTail value slice v u) (EP X pins σ Q) X.xe s
def MtR(X:Cx)(id:String)(r:V->List V->Hp->VK->Prop):Prop:=
 ∀(pins:List (Addr×Obj)) (s:Shared) (σ:St) (H:Hp) (x:V) (xs:List V) (v:Value) (us:List Value) (Q:VK),aU X pins σ H s->bJ x v->bI xs us->r x xs H Q ->
  wpAny (model X.prog X.w) X.A (call (.builtin id) (v::us)) (EP X pins σ Q) X.xe s
section
variable {X:Cx}{a b:Expr}{ta tb:TE}{pos:Pos}
theorem bX7{r:R2}(hr:IxR X r)(ha:PE X a ta)(hb:PE X b tb)(hs:aD4 b):PE X (.Subscript a b pos) (tOp r ta tb):=by
 intro pins s σ H Q I h
 exact wm (bI9 ha hb I h fun v u s2 x y H2 I2 rx ry q=>hr a b pins s2 σ H2 x y v u Q I2 rx ry q (hs _ _))
inductive bS9(K:PySem.W.Frag)(x:V)(y:V)(H:Hp)(Q:VK):Prop
 |mk:∀p xs i v,(x= .ref p)->(y= .int i)->(bK K H p xs)->(nO xs i=some v)->(Q v H)->bS9 K x y H Q
inductive bP6(K:PySem.W.Frag)(x:V)(y:V)(H:Hp)(Q:VK):Prop
 |mk:∀p xs i v,(x= .ref p)->(y= .int i)->(aR K H p xs)->(nO xs i=some v)->(Q v H)->bP6 K x y H Q
inductive rIxS(x:V)(y:V)(H:Hp)(Q:VK):Prop
 |mk:∀z i c,(x= .str z)->(y= .int i)->(z.length<=sizeLine)->(nO z.cps.toList i=some c)->(Q (.str ⟨#[c]⟩) H)->rIxS x y H Q
theorem fE:IxR X (bS9 X.K):=by
 intro value slice pins s σ H x y v u Q I rx ry h hs
 obtain⟨p,xs,i,z,rfl,rfl,hq,he,q⟩:=h
 cases rx
 obtain⟨t,rfl⟩:=ry
 obtain⟨its,r,pl,hz⟩:=I.list hq
 obtain⟨j,h1,h2,h3,h4,h5⟩:=vH he
 obtain⟨w,ew,rw'⟩:=r.get h2
 have hl:=r.length
 have hn:=kH
 have fin:EP X pins σ Q w s:=⟨z,H,I,rw',q⟩
 by_cases h0:0<=i
 ·have hj:i.toNat=j:=by
   rw[zc h0 h5] at h1
   exact dg h1
  exact item_listR pl.isList h0 (by lia) (by rw[hj];simpa using ew) fin hs
 ·have hj:(i+(its.toArray.size:Int)).toNat=j:=by
   rw[yb (by lia) h4] at h1
   rw[bn, <-hl]
   exact dg h1
  exact vm (x:=w) pl.isList.typeIs slot_list_getitem.lookup
   (vn (Q:=fun r s'=>r=w/\EP X pins σ Q r s') pl.isList (by lia) (by rw[bn]<;>lia) (by lia) (by rw[hj];simpa using ew) ⟨rfl,fin⟩) hs
theorem aJ:IxR X (bP6 X.K):=by
 intro value slice pins s σ H x y v u Q I rx ry h hs
 obtain⟨p,xs,i,z,rfl,rfl,hq,he,q⟩:=h
 cases rx
 obtain⟨t,rfl⟩:=ry
 obtain⟨its,r,pl,hz⟩:=I.tuple hq
 obtain⟨j,h1,h2,h3,h4,h5⟩:=vH he
 obtain⟨w,ew,rw'⟩:=r.get h2
 have hl:=r.length
 have hn:=kH
 have fin:EP X pins σ Q w s:=⟨z,H,I,rw',q⟩
 exact vm (x:=w) pl.typeIs slot_tuple_getitem.lookup
  (getItem_tuple (j:=j) (Q:=fun r s'=>r=w/\EP X pins σ Q r s') pl (by lia) (by lia) (by rw[bn, <-hl];exact h1) (by simpa using ew) ⟨rfl,fin⟩) hs
theorem uR:IxR X rIxS:=by
 intro value slice pins s σ H x y v u Q I rx ry h hs
 obtain⟨z,i,c,rfl,rfl,hz,he,q⟩:=h
 obtain⟨t,rfl⟩:=rx
 obtain⟨t',rfl⟩:=ry
 obtain⟨j,h1,h2,h3,h4,h5⟩:=vH he
 have hl:z.cps.toList.length=z.length:=by simp[Str.length]
 rw[hl] at h1 h4 h5
 have hn:=kH
 exact tail_any (zp s z t) slot_str_getitem.lookup (getItem_str (c:=c) (by
  have e1:decide (i < -(2^63:Int))=false:=ba (by lia)
  have e2:decide (i ≥ 2^63)=false:=ba (by lia)
  rw[e1,e2,Bool.or_false]) (by rw[h1];simpa using h2) ⟨.str ⟨#[c]⟩,H,I.tok _,⟨_,rfl⟩,q⟩) hs
theorem yT(its:List Value)(n j:Nat)(u:Value):Obj.mapSeq (·.setIfInBounds j u) { cls:= .type "list",data:= .seq its.toArray n }={ cls:= .type "list",data:= .seq (its.set j u).toArray n }:=by
 simp[Obj.mapSeq]
theorem aU.lst{pins:List (Addr×Obj)}{σ:St}{H:Hp}{s:Shared}{p:Addr}{xs:List V}(I:aU X pins σ H s)(h:H p=some (.lst xs)) :
  ∃(its:List Value) (n:Nat),bI xs its/\s.heap.get? p=some { cls:= .type "list",data:= .seq its.toArray n }/\xs.length<=sizeLine:=by
 obtain⟨z,its,n,r,e⟩:=I.hok p _ h
 exact⟨its,n,r,e,z⟩
theorem aU.lstUpd{pins:List (Addr×Obj)}{σ:St}{H:Hp}{s:Shared}{p:Addr}{xs ys:List V}{its its':List Value}{n n':Nat}{f:Obj->Obj}(I:aU X pins σ H s)(h:H p=some (.lst xs))
  (ho:s.heap.get? p=some { cls:= .type "list",data:= .seq its.toArray n }) (hf:f { cls:= .type "list",data:= .seq its.toArray n }={ cls:= .type "list",data:= .seq its'.toArray n' }) (r:bI ys its') (hz:ys.length<=sizeLine) (t:Nat) :
  aU X pins σ (aN H p (.lst ys)) { s with heap:=s.heap.update p f,toks:=t }:=by
 have e:(s.heap.update p f).get? p=some { cls:= .type "list",data:= .seq its'.toArray n' }:=by
  rw[ik f ho (by rw[hf]<;>rfl),hf]
 refine I.write (x:=p) (e:=p) (by rw[h];trivial) (.inl rfl) (fun b u hb q=>(oy _ _ (Ne.symm hb)).trans q) ⟨_,e⟩ ?_
 exact⟨hz,its',n',r,e⟩
inductive rSetL(o:V)(i:V)(v:V)(H:Hp)(Q:(Hp->Prop)):Prop
 |mk:∀p xs k j,(o= .ref p)->(i= .int k)->(H p=some (.lst xs))->(ixN xs.length k=some j)->(Q (aN H p (.lst (xs.set j v))))->rSetL o i v H Q
theorem xB:bC9 X rSetL:=by
 intro pins s σ H o i v ov iv u Q I ro ri rv h
 obtain⟨p,xs,k,j,rfl,rfl,hp,hj,q⟩:=h
 cases ro
 obtain⟨t,rfl⟩:=ri
 obtain⟨its,n,r,ho,hz⟩:=I.lst hp
 obtain⟨h1,h2,h3,h4⟩:=aA9 hj
 have hl:=r.length
 have hn:=kH
 have I':aU X pins σ (aN H p (.lst (xs.set j v))) { s with heap:=s.heap.update p (Obj.mapSeq (·.setIfInBounds j u)) }:=
  I.lstUpd hp ho (yT its n j u) (r.set rv j) (by rw[vb];exact hz) s.toks
 by_cases h0:0<=k
 ·have hk:k.toNat=j:=by
   rw[zc h0 h4] at h1
   exact dg h1
  exact PySem.W.ki_setAt ho h0 (by lia) (by rw[bn, <-hl];exact h4) (by rw[hk];exact⟨_,I',q⟩)
 ·have hk:(k+(its.toArray.size:Int)).toNat=j:=by
   rw[yb (by lia) h3] at h1
   rw[bn, <-hl]
   exact dg h1
  exact PySem.W.ki_setBack ho (by lia) (by rw[bn, <-hl];exact h3) (by lia) (by rw[hk];exact⟨_,I',q⟩)
theorem vN(lo hi:Option Int)(n:Nat):(sliceBounds lo hi none n).1=((HT.sIx n 0 lo:Nat):Int)/\(sliceBounds lo hi none n).2.1=((HT.sIx n n hi:Nat):Int)/\(sliceBounds lo hi none n).2.2=1:=by
 refine⟨?_,?_,rfl⟩
 ·cases lo with
  |none=>simp[sliceBounds,HT.sIx]
  |some i =>
   simp only[sliceBounds,HT.sIx,Option.getD_none,show(1:Int) > 0 by decide,if_true]
   by_cases h:i<0
   ·simp only[h,if_true]<;>lia
   ·simp only[h,if_false]<;>lia
 ·cases hi with
  |none=>simp[sliceBounds,HT.sIx]
  |some i =>
   simp only[sliceBounds,HT.sIx,Option.getD_none,show(1:Int) > 0 by decide,if_true]
   by_cases h:i<0
   ·simp only[h,if_true]<;>lia
   ·simp only[h,if_false]<;>lia
theorem sP(its:List Value)(lo hi:Option Int):slicePick its.toArray lo hi none=((its.drop (HT.sIx its.length 0 lo)).take (HT.sIx its.length its.length hi-HT.sIx its.length 0 lo)).toArray:=by
 obtain⟨h1,h2,h3⟩:=vN lo hi its.toArray.size
 unfold slicePick
 rw[h1,h2,h3]
 simp only[sliceRange_one,pick_run,List.size_toArray]<;>rfl
inductive cA2(K:PySem.W.Frag)(x:V)(lo:Option Int)(hi:Option Int)(H:Hp)(Q:VK):Prop
 |mk:∀a xs,(x= .ref a)->(bK K H a xs)->(∀p,H p=none->Q (.ref p) (aN H p (.lst (iF xs lo hi))))->cA2 K x lo hi H Q
theorem iJ:SlR X (cA2 X.K):=by
 intro pins s σ H x v vl vu lo hi sl Q I rx hs pl pu h
 obtain⟨a,xs,rfl,hx,q⟩:=h
 cases rx
 obtain⟨its,r,ht,hz⟩:=I.list hx
 have hlen:=r.length
 refine⟨"list",_,slot_list_getitem.lookup,ht.isList.typeIs,?_⟩
 refine ue ht.isList hs pl pu .none (by simp) ?_ (by rw[List.size_toArray]<;>lia)
 rw[sP, <-hlen]
 refine⟨.ref s.heap.objs.size,_,I.laid (t':=s.toks) (o:= .lst (iF xs lo hi)) (fun b ob q=>ae _ q) (ah _) ?_,rfl,q _ (I.hok.fresh (ah _))⟩
 exact⟨cp (oR xs lo hi) hz,_,0,(r.drop (HT.sIx xs.length 0 lo)).take (HT.sIx xs.length xs.length hi-HT.sIx xs.length 0 lo),bb _ rfl⟩
def lV:V->Bool
 |.non=>true
 |.bl _=>true
 |.int _=>true
 |.str _=>true
 |_=>false
def eqV:V->V->Bool
 |.non,.non=>true
 |.bl a,.bl b=>a==b
 |.bl a,.int b=>(if a then 1 else 0)==b
 |.int a,.bl b=>a==(if b then 1 else 0)
 |.int a,.int b=>a==b
 |.str a,.str b=>a==b
 |_,_=>false
theorem bN4{A:Around}{s:Shared}{y x:V}{u v:Value}(ry:bJ y u)(rx:bJ x v)(fy:lV y=true)(fx:lV x=true):SeqAt.EqAt A s u v (eqV y x):=by
 cases y with
 |non =>
  cases ry
  cases x with
  |non=>cases rx;exact vc _
  |bl b=>cases rx;exact SeqAt.EqAt.none_bool b
  |int b=>obtain⟨t,rfl⟩:=rx;exact SeqAt.EqAt.none_int b t
  |str b=>obtain⟨t,rfl⟩:=rx;exact SeqAt.EqAt.none_str b t
  |_=>exact absurd (show false=true from fx) bj
 |bl a =>
  cases ry
  cases x with
  |non=>cases rx;exact SeqAt.EqAt.bool_none a
  |bl b=>cases rx;exact SeqAt.EqAt.bool_bool a b
  |int b=>obtain⟨t,rfl⟩:=rx;exact SeqAt.EqAt.bool_int a b t
  |str b=>obtain⟨t,rfl⟩:=rx;exact SeqAt.EqAt.bool_str a b t
  |_=>exact absurd (show false=true from fx) bj
 |int a =>
  obtain⟨t',rfl⟩:=ry
  cases x with
  |non=>cases rx;exact SeqAt.EqAt.int_none a t'
  |bl b=>cases rx;exact SeqAt.EqAt.int_bool a t' b
  |int b=>obtain⟨t,rfl⟩:=rx;exact SeqAt.EqAt.int_int a t' b t
  |str b=>obtain⟨t,rfl⟩:=rx;exact xp a t' b t
  |_=>exact absurd (show false=true from fx) bj
 |str a =>
  obtain⟨t',rfl⟩:=ry
  cases x with
  |non=>cases rx;exact SeqAt.EqAt.str_none a t'
  |bl b=>cases rx;exact SeqAt.EqAt.str_bool a t' b
  |int b=>obtain⟨t,rfl⟩:=rx;exact xq a t' b t
  |str b=>obtain⟨t,rfl⟩:=rx;exact SeqAt.EqAt.str_str a t' b t
  |_=>exact absurd (show false=true from fx) bj
 |_=>exact absurd (show false=true from fy) bj
def zG(x:V)(u:Value):Bool:=match u with
 |.none=>eqV .non x
 |.bool b=>eqV (.bl b) x
 |.int i _=>eqV (.int i) x
 |.str z _=>eqV (.str z) x
 |_=>false
theorem aR6{x y:V}{u:Value}(r:bJ y u)(f:lV y=true):zG x u=eqV y x:=by
 cases y with
 |non=>cases r;rfl
 |bl b=>cases r;rfl
 |int i=>obtain⟨t,rfl⟩:=r;rfl
 |str z=>obtain⟨t,rfl⟩:=r;rfl
 |_=>exact absurd (show false=true from f) bj
theorem mI{x:V}:∀{xs:List V}{us:List Value},bI xs us->xs.all lV=true->us.any (zG x)=xs.any fun y=>eqV y x
 |_,_,.nil,_=>rfl
 |y::xs,u::us,.cons r t,f=>by
  rw[xc,mf] at f
  rw[mi,mi,aR6 r f.1,mI t f.2]
theorem kT{A:Around}{s:Shared}{x:V}{v:Value}(rx:bJ x v)(fx:lV x=true):∀{xs:List V}{us:List Value},bI xs us->xs.all lV=true->∀u∈us,SeqAt.EqAt A s u v (zG x u)
 |_,_,.nil,_=>fun u hu=>by cases hu
 |y::xs,u::us,.cons r t,f=>fun u' hu=>by
  rw[xc,mf] at f
  rcases bu.mp hu with rfl|hu
  ·rw[aR6 r f.1];exact bN4 r rx f.1 fx
  ·exact kT rx fx t f.2 u' hu
def oY(x:V)(xs:List V):Bool:=xs.any fun y=>eqV y x
inductive rIn(K:PySem.W.Frag)(neg:Bool)(x:V)(y:V)(H:Hp)(Q:VK):Prop
 |mk:∀p xs,(y= .ref p)->((bK K H p xs\/aR K H p xs))->(lV x=true)->(xs.all lV=true)->(Q (.bl (if neg then !oY x xs else oY x xs)) H)->rIn K neg x y H Q
theorem dW:jC X (compareOp .In) (rIn X.K false):=by
 intro pins s σ H x y v u Q I rx ry h
 obtain⟨p,xs,rfl,hq,fx,fs,q⟩:=h
 cases ry
 rcases hq with hq|hq
 ·obtain⟨its,r,pl,hz⟩:=I.list hq
  refine SeqAt.in_listAt (zG x) pl.isList (fun w hw=>kT rx fx r fs w (by simpa using hw)) ⟨.bl _,H,I,rfl,?_⟩
  rw[show its.toArray.any (zG x)=its.any (zG x) by simp,mI r fs]
  exact q
 ·obtain⟨its,r,pl,hz⟩:=I.tuple hq
  refine SeqAt.in_tupleAt (zG x) pl (fun w hw=>kT rx fx r fs w (by simpa using hw)) ⟨.bl _,H,I,rfl,?_⟩
  rw[show its.toArray.any (zG x)=its.any (zG x) by simp,mI r fs]
  exact q
theorem jI:jC X (compareOp .NotIn) (rIn X.K true):=by
 intro pins s σ H x y v u Q I rx ry h
 obtain⟨p,xs,rfl,hq,fx,fs,q⟩:=h
 cases ry
 rcases hq with hq|hq
 ·obtain⟨its,r,pl,hz⟩:=I.list hq
  refine SeqAt.notIn_listAt (zG x) pl.isList (fun w hw=>kT rx fx r fs w (by simpa using hw)) ⟨.bl _,H,I,rfl,?_⟩
  rw[show its.toArray.any (zG x)=its.any (zG x) by simp,mI r fs]
  exact q
 ·obtain⟨its,r,pl,hz⟩:=I.tuple hq
  refine SeqAt.notIn_tupleAt (zG x) pl (fun w hw=>kT rx fx r fs w (by simpa using hw)) ⟨.bl _,H,I,rfl,?_⟩
  rw[show its.toArray.any (zG x)=its.any (zG x) by simp,mI r fs]
  exact q
theorem bG:eA X (.builtin "len") (fun xs H Q=>∃p ys,xs=[.ref p]/\(bK X.K H p ys\/aR X.K H p ys)/\Q (.int ys.length) H):=by
 intro pins s σ H xs us Q I r h
 obtain⟨p,ys,rfl,hq,q⟩:=h
 obtain⟨u,rfl,rx⟩:=gN r
 cases rx
 have hn:=kH
 rcases hq with hq|hq
 ·obtain⟨its,r',pl,hz⟩:=I.list hq
  have hlen:=r'.length
  exact Calls.call_len_list pl.isList (by simp only[List.size_toArray]<;>lia) ⟨.int ys.length,H,I.tok _,⟨s.toks+1,by rw[bn,hlen]⟩,q⟩
 ·obtain⟨its,r',pl,hz⟩:=I.tuple hq
  have hlen:=r'.length
  exact len_tuple pl (by simp only[List.size_toArray]<;>lia) ⟨.int ys.length,H,I.tok _,⟨s.toks+1,by rw[bn,hlen]⟩,q⟩
theorem fN:eA X (.builtin "len") (fun xs H Q=>∃z,xs=[.str z]/\z.length<=sizeLine/\Q (.int z.length) H):=by
 intro pins s σ H xs us Q I r h
 obtain⟨z,rfl,hz,q⟩:=h
 obtain⟨u,rfl,t,rfl⟩:=gN r
 have hn:=kH
 exact len_str (by lia) ⟨.int z.length,H,I.tok _,⟨_,rfl⟩,q⟩
theorem gP:eA X (.type "list") (fun xs H Q=>∃p ys,xs=[.ref p]/\(bK X.K H p ys\/aR X.K H p ys)/\∀l,H l=none->Q (.ref l) (aN H l (.lst ys))):=by
 intro pins s σ H xs us Q I r h
 obtain⟨p,ys,rfl,hq,q⟩:=h
 obtain⟨u,rfl,rx⟩:=gN r
 cases rx
 have fin:∀(its:List Value),bI ys its->ys.length<=sizeLine->∀(h':Heap) (c':Nat),(∀b o',s.heap.get? b=some o'->h'.get? b=some o') ->
   h'.get? s.heap.objs.size=some { cls:= .type "list",dict:=none,data:= .seq its.toArray c',slots:= #[] }->EP X pins σ Q (.ref s.heap.objs.size) { s with heap:=h' }:=fun its r' hz h' c' kp e =>
  ⟨.ref s.heap.objs.size,_,I.laid (t':=s.toks) kp (ah _) (show bU X.prog X.w _ h' _ (.lst ys) from⟨hz,its,c',r',e⟩),rfl,q _ (I.hok.fresh (ah _))⟩
 rcases hq with hq|hq
 ·obtain⟨its,r',pl,hz⟩:=I.list hq
  have hlen:=r'.length
  obtain⟨o,ho,hc,n,hd⟩:=pl.isList
  exact call_list_seq p (.inl rfl) ho hc hd (fun h' c' kp e=>fin its r' hz h' c' kp e) (by simp only[List.size_toArray]<;>lia)
 ·obtain⟨its,r',pl,hz⟩:=I.tuple hq
  have hlen:=r'.length
  obtain⟨o,ho,hc,n,hd⟩:=pl
  exact call_list_seq p (.inr rfl) ho hc hd (fun h' c' kp e=>fin its r' hz h' c' kp e) (by simp only[List.size_toArray]<;>lia)
theorem cY:eA X (.type "tuple") (fun xs H Q=>∃p ys,xs=[.ref p]/\((bK X.K H p ys/\∀l,H l=none->Q (.ref l) (aN H l (.tup ys)))\/(aR X.K H p ys/\Q (.ref p) H))):=by
 intro pins s σ H xs us Q I r h
 obtain⟨p,ys,rfl,h⟩:=h
 obtain⟨u,rfl,rx⟩:=gN r
 cases rx
 rcases h with⟨hq,q⟩|⟨hq,q⟩
 ·obtain⟨its,r',pl,hz⟩:=I.list hq
  have hlen:=r'.length
  refine call_tuple_list pl.isList (fun h' kp=>?_) (by simp only[List.size_toArray]<;>lia)
  have I1:aU X pins σ H { s with heap:=h' }:=I.kept (t':=s.toks) kp
  have I2:aU X pins σ (aN H h'.objs.size (.tup ys)) { s with heap:=h'.push { cls:= .type "tuple",data:= .seq its.toArray } }:=
   I1.laid (t':=s.toks) (fun b o e=>ae _ e) (ah _) (show bU X.prog X.w _ _ _ (.tup ys) from⟨hz,its,r',kL.new _ _⟩)
  exact⟨.ref h'.objs.size,_,I2,rfl,q _ (I1.hok.fresh (ah _))⟩
 ·obtain⟨its,r',pl,hz⟩:=I.tuple hq
  exact call_tuple_same pl ⟨.ref p,H,I,rfl,q⟩
def tyV(K:PySem.W.Frag)(T:String)(x:V)(H:Hp):Prop:=match x with
 |.str _=>T="str"
 |.int _=>T="int"
 |.ref p=>(T="list"/\∃xs,bK K H p xs)\/(T="tuple"/\∃o,K.lookup p=some o/\o.cls= .type "tuple"/\o.dict=none) \/
   (T="dict"/\((∃kvs,H p=some (.dK kvs))\/∃kvs,H p=some (.dT kvs)))\/(T="set"/\∃S n,H p=some (.set S n))
 |_=>False
theorem aJ5{pins:List (Addr×Obj)}{σ:St}{H:Hp}{s:Shared}{T:String}{x:V}{v:Value}(I:aU X pins σ H s)(r:bJ x v)(ty:tyV X.K T x H) :
  s.TypeIs v T/\∀a,v= .ref a->∃ob,s.heap.get? a=some ob/\ob.dict=none:=by
 cases x with
 |str z =>
  obtain⟨t,rfl⟩:=r
  cases(show T="str" from ty)
  exact⟨zp s z t,fun _ e=>nomatch e⟩
 |int i =>
  obtain⟨t,rfl⟩:=r
  cases(show T="int" from ty)
  exact⟨typeIs_int s i t,fun _ e=>nomatch e⟩
 |ref p =>
  cases r
  rcases ty with⟨rfl,xs,hq⟩|⟨rfl,o,hk,hc,hd⟩|⟨rfl,hk⟩|⟨rfl,S,n,hk⟩
  ·obtain⟨its,_,pl,_⟩:=I.list hq
   refine⟨pl.isList.typeIs,fun a e=>?_⟩
   cases e
   obtain⟨o,n,e,c,hd,_⟩:=pl
   exact⟨o,e,hd⟩
  ·refine⟨⟨o,I.kIn p o hk,hc⟩,fun a e=>?_⟩
   cases e
   exact⟨o,I.kIn _ o hk,hd⟩
  ·have z:∃o,s.heap.get? p=some o/\o.ExactDict:=by
    rcases hk with⟨kvs,hk⟩|⟨kvs,hk⟩
    ·obtain⟨_,_,_,_,o,_,_,e,ex,_⟩:=I.hok p _ hk
     exact⟨o,e,ex⟩
    ·obtain⟨_,_,_,_,o,_,_,e,ex,_⟩:=I.hok p _ hk
     exact⟨o,e,ex⟩
   obtain⟨o,e,ex⟩:=z
   refine⟨⟨o,e,ex.1⟩,fun a e2=>?_⟩
   cases e2
   exact⟨o,e,ex.2.1⟩
  ·obtain⟨o,_,_,_,e,ex,_⟩:=I.hok p _ hk
   refine⟨⟨o,e,ex.1⟩,fun a e2=>?_⟩
   cases e2
   exact⟨o,e,ex.2.1⟩
 |_=>exact False.elim ty
def cE1(K:PySem.W.Frag)(T:String)(r:V->List V->Hp->VK->Prop)(to:TE):TE:=fun σ H Q=>to σ H fun x H1=>tyV K T x H1/\r x [] H1 Q
def tBM(K:PySem.W.Frag)(T:String)(r:V->List V->Hp->VK->Prop)(to:TE)(t:TA):TE:=fun σ H Q=>to σ H fun x H1=>tyV K T x H1/\t σ H1 fun xs H2=>r x xs H2 Q
variable {o e:Expr}{es:List Expr}{to:TE}{t:TA}{name:Str}{apos cpos:Pos}{T id:String}{r:V->List V->Hp->VK->Prop}
theorem jZ(pa:PlainAttrs T)(slot:Slot T name id)(hty:typeOf (.builtin id)=pure (.type "method_descriptor"))(hm:MtR X id r)(ho:PE X o to)
  (hbase:autoParam (attributeBase o name X.env (eval o X.env)=eval o X.env) Rq0._auto_1) (hline:autoParam ((apos.endLine==cpos.line)=true) Rq0._auto_1):PE X (.Call (.Attribute o name apos) [] [] cpos) (cE1 X.K T r to):=by
 intro pins s σ H Q I h
 refine wpAny_Call_method0_late hbase hline (cK (ho pins s σ H _ I h) ?_);rintro v s1 ⟨x,H1,I1,r1,ty,q1⟩
 obtain⟨h1,h2⟩:=aJ5 I1 r1 ty
 exact⟨T,id,pa,slot,hty,h1,h2,ll rfl (PySem.evalArgs_none (hm pins s1 σ H1 x [] v [] Q I1 r1 .nil q1))⟩
theorem fA(pa:PlainAttrs T)(slot:Slot T name id)(hty:typeOf (.builtin id)=pure (.type "method_descriptor"))(hm:MtR X id r)(ho:PE X o to)(ha:PA X (e::es) t)
  (hbase:autoParam (attributeBase o name X.env (eval o X.env)=eval o X.env) Rq0._auto_1)
  (hfew:autoParam (((backTo cpos (starEach (e::es) X.env)).all (fun x=> !x.1)&&(backToKw cpos (keywordEach [] X.env)).all (fun x=>x.1.isSome)
   && decide ((e::es).length+([]:List Keyword).length+(if ([]:List Keyword).isEmpty then 0 else 1)<30))=true) Rq0._auto_1)
  (hline:autoParam ((apos.endLine==cpos.line)=true) Rq0._auto_1) (hs:autoParam (starEach (e::es) X.env=(false,eval e X.env)::starEach es X.env) Rq0._auto_1) (hplain:autoParam ((backTo cpos (starEach es X.env)).any (·.1)=false) Rq0._auto_1) :
  PE X (.Call (.Attribute o name apos) (e::es) [] cpos) (tBM X.K T r to t):=by
 intro pins s σ H Q I h
 refine wpAny_Call_method_late hbase hfew hline rfl (cK (ho pins s σ H _ I h) ?_);rintro v s1 ⟨x,H1,I1,r1,ty,q1⟩
 obtain⟨h1,h2⟩:=aJ5 I1 r1 ty
 refine⟨T,id,pa,slot,hty,h1,h2,?_⟩
 have hA:=ha cpos pins s1 σ H1 _ I1 q1
 rw[hs] at hA ⊢
 refine ll (by show(false || (backTo cpos (starEach es X.env)).any (·.1))=false;rw[hplain]<;>rfl) (pz ?_)
 refine cK hA ?_;rintro us s2 ⟨vs,H2,I2,r2,q2⟩;exact hm pins s2 σ H2 x vs v us Q I2 r1 r2 q2
end
def MtM(X:Cx)(id:String)(r:V->List V->Hp->VK->Prop):Prop:=
 ∀(pins:List (Addr×Obj)) (s:Shared) (σ:St) (H:Hp) (x:V) (xs:List V) (v:Value) (us:List Value) (Q:VK),aU X pins σ H s->bJ x v->bI xs us->r x xs H Q ->
  wpAny (model X.prog X.w) X.A (call (.builtin id) (v::us)) (EP X pins σ Q) X.xe s
theorem bI.one:∀{x:V}{us:List Value},bI [x] us->∃u,us=[u]/\bJ x u
 |_,_,.cons r .nil=>⟨_,rfl,r⟩
theorem bI.zero:∀{us:List Value},bI [] us->us=[]
 |_,.nil=>rfl
theorem bI.dropLast{xs:List V}{us:List Value}(h:bI xs us):bI xs.dropLast us.dropLast:=by
 induction h with
 |nil=>exact .nil
 |cons r t ih =>
  cases t with
  |nil=>exact .nil
  |cons q t'=>exact .cons r ih
theorem bI.reverse{xs:List V}{us:List Value}(h:bI xs us):bI xs.reverse us.reverse:=by
 induction h with
 |nil=>exact .nil
 |cons r t ih=>rw[db,db];exact bI.append ih (.cons r .nil)
theorem yV{α:Type}(l:List α):l.eraseIdx (l.length-1)=l.dropLast:=by
 induction l with
 |nil=>rfl
 |cons a r ih =>
  cases r with
  |nil=>rfl
  |cons b r =>
   have e:(a::b::r).length-1=((b::r).length-1)+1:=by
    rfl
   rw[e,List.eraseIdx_cons_succ,ih]
   all_goals rfl
section
variable {X:Cx}{pins:List (Addr×Obj)}{σ:St}{H:Hp}{s:Shared}{l b:Addr}{xs ys zs:List V}
theorem aU.lset{its its':List Value}{n:Nat}{f:Array Value->Array Value}{t':Nat}(I:aU X pins σ H s)(hH:H l=some (.lst xs))
  (e:s.heap.get? l=some { cls:= .type "list",data:= .seq its.toArray n }) (hf:f its.toArray=its'.toArray) (hv:bI ys its') (hz:ys.length<=sizeLine) :
  aU X pins σ (aN H l (.lst ys)) { s with heap:=s.heap.update l (Obj.mapSeq f),toks:=t' }:=by
 have q:=PySem.IsL.update e f
 rw[hf] at q
 refine I.write (x:=l) (e:=l) (by rw[hH];exact trivial) (.inl rfl) (fun b' u hb hu=>(oy s.heap (Obj.mapSeq f) (Ne.symm hb)).trans hu) ⟨_,q⟩ ?_
 exact⟨hz,its',_,hv,q⟩
theorem aU.lnew{its:List Value}{t':Nat}(I:aU X pins σ H s)(hv:bI ys its)(hz:ys.length<=sizeLine) :
  aU X pins σ (aN H s.heap.objs.size (.lst ys)) { s with heap:=s.heap.push { cls:= .type "list",data:= .seq its.toArray },toks:=t' }:=
 I.laid (fun _ _ q=>ae _ q) (ah _) ⟨hz,its,0,hv,bb _ rfl⟩
theorem aU.fresh(I:aU X pins σ H s):H s.heap.objs.size=none:=I.hok.fresh (ah _)
theorem aU.lstM(I:aU X pins σ H s)(hH:H l=some (.lst xs)):xs.length<=sizeLine/\∃(its:List Value) (n:Nat),bI xs its/\xs.length=its.length/\s.heap.get? l=some { cls:= .type "list",data:= .seq its.toArray n }:=by
 obtain⟨z,its,n,r,e⟩:=I.hok l _ hH
 exact⟨z,its,n,r,r.length,e⟩
theorem aR2{n:Nat}(h:n<=sizeLine):Builtin.List.listTooLong n=false:=by
 unfold Builtin.List.listTooLong
 exact ba (by lia)
end
section
variable {X:Cx}
inductive rAppend(x:V)(vs:List V)(H:Hp)(Q:VK):Prop
 |mk:∀l xs y,(x= .ref l)->(vs=[y])->(H l=some (.lst xs))->(xs.length<sizeLine)->(Q .non (aN H l (.lst (xs++[y]))))->rAppend x vs H Q
theorem cQ:MtM X "list.append" rAppend:=by
 intro pins s σ H x vs v us Q I rx rv h
 obtain⟨l,xs,y,rfl,rfl,hH,hz,q⟩:=h
 cases rx
 obtain⟨u,rfl,ru⟩:=rv.one
 obtain⟨z,its,n,r,hl,e⟩:=I.lstM hH
 refine wn F.slot_list_append ⟨_,e,rfl⟩ F.entry_list_append (F.args_list_append_2 _ _) (PySem.list_append l its.toArray n u (by rw[bn];lia)) ⟨e,?_⟩
 refine⟨.non,_,I.lset (its':=its++[u]) hH e (by simp) (r.append (.cons ru .nil)) ?_,rfl,q⟩
 rw[ao,js]
 lia
inductive rExtend(x:V)(vs:List V)(H:Hp)(Q:VK):Prop
 |mk:∀l b xs zs,(x= .ref l)->(vs=[.ref b])->(H l=some (.lst xs))->(H b=some (.lst zs))->(xs.length+zs.length<=sizeLine)->(Q .non (aN H l (.lst (xs++zs))))->rExtend x vs H Q
theorem gT:MtM X "list.extend" rExtend:=by
 intro pins s σ H x vs v us Q I rx rv h
 obtain⟨l,b,xs,zs,rfl,rfl,hH,hB,hz,q⟩:=h
 cases rx
 obtain⟨u,rfl,ru⟩:=rv.one
 cases ru
 obtain⟨z,its,n,r,hl,e⟩:=I.lstM hH
 obtain⟨z2,its2,n2,r2,hl2,e2⟩:=I.lstM hB
 have hsz:its.toArray.size+its2.toArray.size<=sizeLine:=by rw[bn,bn];lia
 have hlong:¬(!its.toArray.isEmpty&&Builtin.List.listTooLong (its.toArray.size+its2.toArray.size))=true:=by
  rw[aR2 hsz,Bool.and_false]
  exact bj
 refine wn F.slot_list_extend ⟨_,e,rfl⟩ F.entry_list_extend (F.args_list_extend_2 _ _)
  (AutoSeq1.list_extend_list_list_0 l its.toArray n b its2.toArray n2 hlong (by rw[bn];lia) (by lia)) ⟨e,e2,?_⟩
 refine⟨.non,_,I.lset (its':=its++its2) hH e (by simp) (r.append r2) ?_,rfl,q⟩
 rw[ao]
 lia
inductive rPop(x:V)(vs:List V)(H:Hp)(Q:VK):Prop
 |mk:∀l xs y,(x= .ref l)->(vs=[])->(H l=some (.lst xs))->(xs[xs.length-1]?=some y)->(Q y (aN H l (.lst xs.dropLast)))->rPop x vs H Q
theorem kA:MtM X "list.pop" rPop:=by
 intro pins s σ H x vs v us Q I rx rv h
 obtain⟨l,xs,y,rfl,rfl,hH,hy,q⟩:=h
 cases rx
 have hus:=rv.zero
 subst hus
 obtain⟨z,its,n,r,hl,e⟩:=I.lstM hH
 obtain⟨u,hu,ru⟩:=r.get hy
 have hy':its.toArray[its.toArray.size-1]?=some u:=by
  show its.toArray[its.length-1]?=some u
  rw[<-gm, <-hl]
  exact hu
 refine wn F.slot_list_pop ⟨_,e,rfl⟩ F.entry_list_pop (F.args_list_pop_1 _) (MeetsSeq.list_pop_last l its.toArray n u hy' (by rw[bn];lia)) ⟨e,?_⟩
 refine⟨y,_,I.lset (its':=its.dropLast) hH e ?_ r.dropLast ?_,ru,q⟩
 ·show its.toArray.eraseIdxIfInBounds (its.toArray.size-1)=its.dropLast.toArray
  rw[bn,List.eraseIdxIfInBounds_toArray,yV]
 ·rw[wo]
  lia
inductive rCat(x:V)(y:V)(H:Hp)(Q:VK):Prop
 |mk:∀l b xs zs,(x= .ref l)->(y= .ref b)->(H l=some (.lst xs))->(H b=some (.lst zs))->(xs.length+zs.length<=sizeLine)->(∀p,H p=none->Q (.ref p) (aN H p (.lst (xs++zs))))->rCat x y H Q
theorem eI:jC X (binaryOp .Add) rCat:=by
 intro pins s σ H x y v u Q I rx ry h
 obtain⟨l,b,xs,zs,rfl,rfl,hH,hB,hz,q⟩:=h
 cases rx
 cases ry
 obtain⟨z,its,n,r,hl,e⟩:=I.lstM hH
 obtain⟨z2,its2,n2,r2,hl2,e2⟩:=I.lstM hB
 refine PySem.P.add_list e e2 ?_ (by rw[bn,bn];lia)
 have ea:its.toArray++its2.toArray=(its++its2).toArray:=by simp
 rw[ea]
 exact⟨.ref _,_,I.lnew (t':=s.toks) (r.append r2) (by rw[ao];lia),rfl,q _ I.fresh⟩
end
section
variable {prog:Program}{w:World}{A:Around}{E:Value->Shared->Prop}{s:Shared}
end
section
variable {X:Cx}
end
end L2
namespace Att
open PySem PySem.W PySem.Calls PyProof.Rows
theorem pB{P:Params}{h:Heap}:∀(ns:List Int) (vs:List Value),WellAll P h vs (ns.map WData.int)->IntsAre vs ns:=by
 intro ns
 induction ns with
 |nil =>
  intro vs w
  rw[List.map_nil] at w
  cases w
  exact .nil
 |cons n ns ih =>
  intro vs w
  rw[List.map_cons] at w
  cases w with
  |cons a b =>
   cases a
   exact .cons _ _ (ih _ b)
theorem aF1{l:OpenLaw}{n:Nat}(hn:l.most=some n){P:Params}{h:Heap}{args:List WData}{vals:List Value}
  (hpre:l.row.toRowW.claim.pre args=true) (hwl:WellAll P h vals args) :
  ∃a vs ns,vals=[Value.ref a]/\args=[WData.list (ns.map WData.int)]/\h.get? a=some { cls:= .type "list",data:= .seq vs.toArray }/\IntsAre vs ns/\ns.length<=n:=by
 have hsh:WShape.hasAll [] args [.list .int]=true:=(pre_splitW hpre).1
 have hc:l.pre.holds [] { args:=args }=true:=(pre_splitW hpre).2
 obtain⟨d,r,rfl,h1,h2⟩:=hasAllW_cons hsh
 obtain rfl:=hasAllW_nil h2
 obtain⟨xs,rfl,h3⟩:=hasW_list h1
 obtain⟨ns,rfl⟩:=items_int h3
 have hlen:ns.length<=n:=by
  unfold OpenLaw.pre at hc
  have h4:(WTm.not (.lt (.lit (.int (n:Int))) (.len (.arg 0)))).holds [] { args:=[.list (ns.map .int)] }=true:=by
   have h4:=(holds_andW hc).1
   rw[hn] at h4
   exact h4
  have h5:=condW_of h4 (w_not (w_lt w_lit (w_len_list (w_arg rfl))))
  rw[List.length_map] at h5
  refine Nat.le_of_not_lt fun q=>?_
  have q':(n:Int)<((ns.length:Nat):Int):=by lia
  first
   |(rw[decide_eq_true q'] at h5;exact absurd h5 (by decide))
   |(simp at h5;lia)
 cases hwl with
 |cons w1 w2 =>
  cases w2
  cases w1 with
  |list ho hall=>exact⟨_,_,ns,rfl,rfl,ho,pB ns _ hall,hlen⟩
theorem aG5(l:OpenLaw)(args:List WData):l.row.toRowW.claim.post args (.bool true) args=true:=
 postW_of (r:=l.row.toRowW) (X:=(true==true))
  (show WShape.has [] (.bool true) .bool=true by first|rfl|decide|simp[WShape.has,WShape.arms,WShape.armsAll])
  (show(WTm.eq .res (.lit (.bool true))).value [] { args:=args,res:=some (.bool true),after:=args }=some (.bool (true==true)) from w_eq_bool (w_res rfl) w_lit) rfl
theorem attach_call{l:OpenLaw}{n:Nat}{q:Program}{loose:List Str}{XP:(Str->Option Value)->Heap->Prop}{YP:World->Heap->Prop}{d:DefRec}
  (hn:l.most=some n) (hdf:d.params.defaults=[])
  (call:∀(w:World) (s₀ s₁:Shared) (mg mb:Str->Option Value) (fa:Addr) (o:Obj) (pm cd doc:Value) (a:Addr) (vs:List Value) (ns:List Int),
   Ground q loose [] XP w s₀ mg mb s₁.heap->YP w s₁.heap ->
   s₁.heap.get? fa=some o->o.data= .func (docDef d.name d.params d.body d.scope pm cd doc)->s₁.heap.CodeRec cd d.name->mg d.name=some (.ref fa) ->
   s₁.heap.get? a=some { cls:= .type "list",data:= .seq vs.toArray }->IntsAre vs ns->ns.length<=n->s₁.gens= #[] ->
   codeAny (model l.prog w) callerA (.call (.ref fa) ⟨[.ref a],[]⟩) (fun r s'=>r= .ok (.ret (.bool true))/\OldK s₁.heap s'.heap/\s'.os=s₁.os/\AllBare s'.gens) s₁) :
  WalkO q loose XP YP l.row.toRowW d [] (fun f vs=>PySem.call f vs):=by
 intro w s₀ s₁ mg mb G Y fa o pm cd doc dV kV ho hd hcd hD hmg hg args vals as hpre hlay hrd hwl hlo
 obtain rfl:dV= .none:=Dflts.none hD hdf
 obtain rfl:kV= .none:=Dflts.noKw hD
 obtain⟨a,vs,ns,rfl,rfl,hobj,hints,hlen⟩:=aF1 hn hpre hwl
 refine enter_call (codeAny_mono (call w s₀ s₁ mg mb fa o pm cd doc a vs ns G Y ho (fd_plain hd) hcd hmg hobj hints hlen hg) fun r s' hq=>?_)
 obtain⟨rfl,h2,h3,h4⟩:=hq
 exact⟨.inl ⟨.bool true,.bool true,[],rfl,fun _=>rfl,.bool true,aG5 l _,fun _=>⟨List.Pairwise.nil,fun _ hm=>(nomatch hm)⟩⟩,h2,h3,h4⟩
section
variable {prog:Program}{w:World}{A:Around}{E:Value->Shared->Prop}{s:Shared}{K:Frag}
def cB6(h:Heap)(L d:Addr):List (Addr×Obj):=(List.range h.objs.size).filterMap fun a=>if a=L\/a=d then none else (h.get? a).map fun o=>(a,o)
end
end Att
namespace L2
open PySem PySem.Spec PyProof.Rows
theorem tZ:∀{vs:List Value}{ns:List Int},IntsAre vs ns->bI (ns.map V.int) vs
 |_,_,.nil=> .nil
 |_,_,.cons n t h=> .cons ⟨t,rfl⟩ (tZ h)
def bT(s:Stmt):Arguments:=match s with
 |.FunctionDef _ a _ _ _ _ _ _ _ _=>a
 |_=>{ posonlyargs:=[],args:=[],vararg:=none,kwonlyargs:=[],kw_defaults:=[],kwarg:=none,defaults:=[] }
def bF(s:Stmt):List Stmt:=match s with
 |.FunctionDef _ _ b _ _ _ _ _ _ _=>b
 |_=>[]
def aK(s:Stmt):Scope:=match s with
 |.FunctionDef _ _ _ _ _ _ sc _ _ _=>sc
 |_=>{ kind:= .function,names:=[],isGenerator:=false,isCoroutine:=false }
abbrev oX:CXT:=fun _ _ _ _ _ _=>False
abbrev E0:XK:=fun _ _ _=>False
theorem bY0{X:Cx}:rH oX X E0:=fun _ _ _ _ _ _ _ h=>h.elim
structure mE(K:PySem.W.Frag)(x qual:Str)(st:Stmt)(f:Addr)(fd:FuncData):Prop where
 ex:∃(oc:Value) (od:Option Addr) (kV doc pm:Value) (an:Option Addr) (cdv ct:Value) (osl:Array (Option Value)),
  fd=PySem.W.fnOf x qual (bT st) (bF st) (aK st) .none kV doc pm an cdv ct/\K.lookup f=some ⟨oc,od,.func fd,osl⟩/\PySem.W.codeIn K cdv qual=true
 kp:PySem.W.keepIn K (.ref f)=true
section
variable {P:Program}{w:World}{K:PySem.W.Frag}{mg:Str->Option Value}{base:Heap}
theorem mE.ok{x qual:Str}{st:Stmt}{f:Addr}{fd:FuncData}{N ps:List Str}{k:Nat}{sp:Sp}(F:mE K x qual st f fd)(S:dY N ps (aK st))(len:∀vs H Q E,sp vs H Q E->vs.length=ps.length)
  (hbody:∀(cdv:Value) (A:Around) (outer:List Env) (s:Shared) (H:Hp) (vs:List V) (Q:VK) (E:XK),dH k (A.deeper (envOfC qual (aK st) s.heap.objs.size f cdv))->sp vs H Q E ->
   ∃t,nL (iT oX P w K mg base N qual (aK st) f cdv A outer s H E).nox (bF st) t/\t { nx:=fun _ H'=>Q .non H',rt:=Q } (eS N vs) H):kF P w K mg base oX (k+1) f fd ps sp:=by
 obtain⟨oc,od,kV,doc,pm,an,cdv,ct,osl,rfl,lk,hcd⟩:=F.ex
 refine aX9 lk hcd S len fun A outer s H vs Q E hr hsp=>?_
 obtain⟨t,h,q⟩:=hbody cdv A outer s H vs Q E hr hsp
 exact⟨t,h.nox,q⟩
theorem mE.binds{x qual:Str}{st:Stmt}{f:Addr}{fd:FuncData}{ps:List Str}(F:mE K x qual st f fd)
  (h:∀(kV doc pm:Value) (an:Option Addr) (cdv ct:Value) (us:List Value),us.length=ps.length->bindArgs (PySem.W.fnOf x qual (bT st) (bF st) (aK st) .none kV doc pm an cdv ct) ⟨us,[]⟩=pure (ps.zip us)):gM K fd ps []:=by
 obtain⟨oc,od,kV,doc,pm,an,cdv,ct,osl,rfl,lk,hcd⟩:=F.ex
 exact .all (h kV doc pm an cdv ct)
theorem aA2{x qual:Str}{st:Stmt}{f:Addr}{oc:Value}{od an:Option Addr}{osl:Array (Option Value)}{kV doc pm cdv ct:Value}(l:K.lookup f=some ⟨oc,od,.func (PySem.W.fnOf x qual (bT st) (bF st) (aK st) .none kV doc pm an cdv ct),osl⟩)
  (c:PySem.W.codeIn K cdv qual=true) (k:PySem.W.keepIn K (.ref f)=true):mE K x qual st f (PySem.W.fnOf x qual (bT st) (bF st) (aK st) .none kV doc pm an cdv ct):=⟨⟨oc,od,kV,doc,pm,an,cdv,ct,osl,rfl,l,c⟩,k⟩
end
theorem hG{A:Around}{k:Nat}(hr:dH k A):A.units+1<cLine:=dj (Nat.add_le_add_left (by decide:1<=64) _) hr.units
theorem aL{n:Nat}(h:n<=1000):n<sizeLine:=dj h (by decide)
section
variable {X:Cx}
theorem pv(i:Nat){x:Str}{pos:Pos}(hN:autoParam (X.N[i]?=some x) Rq0._auto_1)(hv:autoParam (Vis X.env.scope x) Rq7._auto_1)(hd:autoParam ((x==("__debug__": Str))=false) Rq1._auto_1)
  (hcd:autoParam ((x==("__classdict__": Str))=false) Rq1._auto_1):PE X (.Name x pos) (xY i):=aS0 hN hv hd hcd
end
theorem cC7{A B:Prop}(h:B):if false=true then A else B:=by
 rw[av bj]
 exact h
theorem lK{c A B:Prop}[Decidable c](h1:c->A)(h2:¬c->B):if c then A else B:=by
 by_cases h:c
 ·rw[bg h]
  exact h1 h
 ·rw[av h]
  exact h2 h
def bD(H H':Hp):Prop:=∀b o,H b=some o->H' b=some o
theorem bD.refl(H:Hp):bD H H:=fun _ _ h=>h
theorem bD.trans{H H1 H2:Hp}(a:bD H H1)(b:bD H1 H2):bD H H2:=fun c o h=>b c o (a c o h)
theorem bD.free{H H':Hp}(e:bD H H'){l:Addr}(h:H' l=Option.none):H l=Option.none:=by
 cases q:H l with
 |none=>rfl
 |some o =>
  rw[e l o q] at h
  cases h
theorem bD.seq{K:PySem.W.Frag}{H H':Hp}{a:Addr}{xs:List V}(e:bD H H')(h:bK K H a xs):bK K H' a xs:=by
 rcases h with(h|⟨o,h⟩)|h
 ·exact .inl (.inl (e _ _ h))
 ·exact .inl (.inr ⟨o,e _ _ h⟩)
 ·exact .inr h
section
variable {κ:Type} [DecidableEq κ]
end
end L2
set_option maxHeartbeats 4000000
namespace L2
open PySem PySem.Spec PyProof.Rows
def jS(env:Env)(names:List (Str×NameKind)):List (Str×Addr):=
 names.foldl (fun cs y=>if y.2==NameKind.free then (y.1,(env.cells.lookup y.1).getD 0)::cs else cs) []
theorem aP4{env:Env}:∀(names:List (Str×NameKind)) (cs:List (Str×Addr)),(∀y∈names,y.2= .free->∃c,env.cells.lookup y.1=some c) ->
  (forIn names cs fun(y:Str×NameKind) (r:List (Str×Addr))=>(if y.2==NameKind.free then (do let a <-cellOf env y.1;pure (ForInStep.yield ((y.1,a)::r))) else pure (ForInStep.yield r):Sem (ForInStep (List (Str×Addr))))) =
   pure (names.foldl (fun cs y=>if y.2==NameKind.free then (y.1,(env.cells.lookup y.1).getD 0)::cs else cs) cs)
 |[],cs,_=>rfl
 |(n,k)::r,cs,h=>by
  have ih:=fun cs'=>aP4 (env:=env) r cs' fun y hy=>h y (ak _ hy)
  rw[vd,jt]
  by_cases hk:k= .free
  ·subst hk
   obtain⟨c,hc⟩:=h (n,.free) aq rfl
   have e:cellOf env n=pure c:=by unfold cellOf;rw[hc]
   simp only[beq_self_eq_true,if_true,e,pure_bind,hc,Option.getD_some]
   exact ih _
  ·have hb:(k==NameKind.free)=false:=by simpa using hk
   simp only[hb,Bool.false_eq_true,if_false,pure_bind]
   exact ih _
theorem mC{scope:Scope}{env:Env}(h:∀y∈scope.names,y.2= .free->∃c,env.cells.lookup y.1=some c):closureFor scope env=pure (jS env scope.names):=by
 unfold closureFor
 have e:=aP4 (env:=env) scope.names [] h
 simp only[] at e ⊢
 refine Eq.trans ?_ (dz (fun m:Sem (List (Str×Addr))=>m>>=fun cs=>pure cs) e)
 rfl
theorem aA4{env:Env}{x:Str}{c:Addr}:∀(names:List (Str×NameKind)) (cs:List (Str×Addr)),(∀y∈names,y.2= .free->∃c,env.cells.lookup y.1=some c) ->
  (names.foldl (fun cs y=>if y.2==NameKind.free then (y.1,(env.cells.lookup y.1).getD 0)::cs else cs) cs).lookup x=some c->cs.lookup x=some c\/env.cells.lookup x=some c
 |[],_,_,e=> .inl e
 |(n,k)::r,cs,h,e=>by
  rw[jt] at e
  have ih:=aA4 r _ (fun y hy=>h y (ak _ hy)) e
  rcases ih with q|q
  ·by_cases hk:k= .free
   ·subst hk
    obtain⟨c',hc⟩:=h (n,.free) aq rfl
    simp only[beq_self_eq_true,if_true,hc,Option.getD_some,List.lookup_cons] at q
    cases hx:x==n with
    |true =>
     rw[hx] at q
     have:x=n:=by simpa using hx
     subst this
     simp only[Option.some.injEq] at q
     subst q
     exact .inr hc
    |false =>
     rw[hx] at q
     exact .inl q
   ·have hb:(k==NameKind.free)=false:=by simpa using hk
    simp only[hb,Bool.false_eq_true,if_false] at q
    exact .inl q
  ·exact .inr q
theorem qO{env:Env}{x:Str}:∀(names:List (Str×NameKind)) (cs:List (Str×Addr)),((x,NameKind.free)∈names\/∃c,cs.lookup x=some c) ->
  ∃c,(names.foldl (fun cs y=>if y.2==NameKind.free then (y.1,(env.cells.lookup y.1).getD 0)::cs else cs) cs).lookup x=some c
 |[],_,e=>by rcases e with e|e;exact absurd e (by simp);exact e
 |(n,k)::r,cs,e=>by
  rw[jt]
  refine qO r _ ?_
  rcases e with e|⟨c,e⟩
  ·rcases bu.mp e with z|z
   ·cases z
    right
    simp only[beq_self_eq_true,if_true,List.lookup_cons]
    exact⟨_,rfl⟩
   ·exact .inl z
  ·right
   by_cases hk:k= .free
   ·subst hk
    simp only[beq_self_eq_true,if_true,List.lookup_cons]
    cases hx:x==n with
    |true=>exact⟨_,rfl⟩
    |false=>exact⟨c,e⟩
   ·have hb:(k==NameKind.free)=false:=by simpa using hk
    simp only[hb,Bool.false_eq_true,if_false]
    exact⟨c,e⟩
theorem mL{env:Env}{x:Str}:∀{names:List (Str×NameKind)},(∀y∈names,y.2≠ .cell) ->
  ((names.map fun(n,k)=>if (k==NameKind.free&&env.scope.kind == .function&&env.kindOf n==some .cell) then (n,NameKind.cell) else (n,k)).lookup x=some .cell \/
   (names.map fun(n,k)=>if (k==NameKind.free&&env.scope.kind == .function&&env.kindOf n==some .cell) then (n,NameKind.cell) else (n,k)).lookup x=some .free)->(x,NameKind.free)∈names
 |[],_,h=>by simp at h
 |(n,k)::r,hc,h=>by
  have ih:= @mL env x r fun y hy=>hc y (ak _ hy)
  have hk:=hc (n,k) aq
  simp only[List.map_cons] at h
  by_cases cc:(k==NameKind.free&&env.scope.kind == .function&&env.kindOf n==some .cell)=true
  ·rw[bg cc] at h
   have kf:k= .free:=by
    simp only[Bool.and_eq_true,beq_iff_eq] at cc
    exact cc.1.1
   subst kf
   simp only[List.lookup_cons] at h
   cases hx:x==n with
   |true =>
    have:x=n:=by simpa using hx
    subst this
    exact aq
   |false=>rw[hx] at h;exact ak _ (ih h)
  ·rw[av cc] at h
   simp only[List.lookup_cons] at h
   cases hx:x==n with
   |true =>
    rw[hx] at h
    have:x=n:=by simpa using hx
    subst this
    rcases h with h|h
    ·simp only[Option.some.injEq] at h
     exact absurd h hk
    ·simp only[Option.some.injEq] at h
     subst h
     exact aq
   |false=>rw[hx] at h;exact ak _ (ih h)
abbrev aP3(ifs:List Expr)(env:Env):Sem Bool:=forIn ifs true fun c r =>
 if r=true then do
  let ok <-isTrue c env (eval c env)
  pure (ForInStep.yield ok)
 else pure (ForInStep.yield r)
def aX4(X:Cx)(ifs:List Expr)(t:TT):Prop:=
 ∀(pins:List (Addr×Obj)) (s:Shared) (σ:St) (H:Hp) (Q:Bool->Hp->Prop),aU X pins σ H s->t σ H Q ->
  wpAny (model X.prog X.w) X.A (aP3 ifs X.env) (TP X pins σ Q) X.xe s
def tYes:TT:=fun _ H Q=>Q true H
theorem eT{X:Cx}:aX4 X [] tYes:=fun _ _ _ H _ I h=>wpAny_tests_nil ⟨H,I,h⟩
theorem kN{X:Cx}{c:Expr}{t:TT}(h:PT X c t):aX4 X [c] t:=fun pins s σ H Q I q=>wpAny_tests_one (h pins s σ H Q I q)
abbrev yG:Value->Shared->Prop:=fun _ _=>False
theorem aH0{prog:Program}{w:World}{A:Around}{R:Result->Shared->Prop}{s0:Shared}{elt target iter:Expr}{ifs:List Expr}{scope:Scope}{pos:Pos}{it acc:Value}{env:Env}(W:Nat->Shared->Prop)
  (one:∀k t,W k t->wpAny (model prog w) A (pyNext it) (fun r t1=>match r with
   |none=>R (.ok .next) t1
   |some v=>wpAny (model prog w) A (letOwnedTupleGo target it v) (fun _ t2=>wpAny (model prog w) A (assign target env v) (fun _ t3=>wpAny (model prog w) A (aP3 ifs env) (fun ok t4 =>
     if ok=true then wpAny (model prog w) A (eval elt env) (fun x t5=>wpAny (model prog w) A (call (.builtin "list.append") [acc,x]) (fun _ t6=>∃j,j<k/\W j t6) yG t5) yG t4
     else ∃j,j<k/\W j t4) yG t3) yG t2) yG t1) yG t)
  (k0:Nat) (h0:W k0 s0):codeAny (model prog w) A (.compLoop (.ListComp elt [⟨target,iter,ifs,0⟩] scope pos) 0 it acc env) R s0:=by
 refine codeAny_loop rfl W (fun k t hW=>?_) k0 h0
 refine wpAny_noted (m:=compTurn (.ListComp elt [⟨target,iter,ifs,0⟩] scope pos) 0 it acc env) ?_
 have no:∀{P:Prop}{e:Value}{t:Shared},yG e t->P:=fun z=>z.elim
 rw[compTurn_list]
 refine aa (rg (aa (dm (one k t hW) (fun r t1 q1=>?_) fun _ _=>no)))
 match r with
 |none=>exact aj q1
 |some v =>
  refine aa (dm q1 (fun _ t2 q2=>aa (dm q2 (fun _ t3 q3=>aa (dm q3 (fun ok t4 q4=>?_) fun _ _=>no)) fun _ _=>no)) fun _ _=>no)
  match ok with
  |false=>exact aj ⟨rfl,q4⟩
  |true =>
   rw[bg rfl] at q4
   refine aa (aa (dm q4 (fun x t5 q5=>aa (dm q5 (fun _ t6 q6=>?_) fun _ _=>no)) fun _ _=>no))
   exact aj (aj ⟨rfl,q6⟩)
def xG(ix:List (Option Nat))(σ:St):St:=ix.map fun o=>o.bind fun j=>σ[j]?.join
theorem aV0{ix:List (Option Nat)}{σ:St}{i:Nat}{v:V}(h:(xG ix σ)[i]?=some (some v)):∃j,ix[i]?=some (some j)/\σ[j]?=some (some v):=by
 unfold xG at h
 rw[cq] at h
 cases e:ix[i]? with
 |none=>rw[e] at h;cases h
 |some o =>
  rw[e] at h
  cases o with
  |none=>cases h
  |some j =>
   have h:some (σ[j]?.join)=some (some v):=h
   refine⟨j,rfl,?_⟩
   cases q:σ[j]? with
   |none=>rw[q] at h;cases h
   |some z=>rw[q] at h;cases h;rfl
def vK(N:List Str)(sc scope:Scope)(N':List Str)(ix:List (Option Nat)):Bool:=
 ix.length==N'.length&&(ix.zip N').all (fun p=>match p.1 with|none=>true|some j=>N[j]? == some p.2&&scope.names.lookup p.2==some NameKind.free) &&
 scope.names.all (fun y=>y.2 != NameKind.cell&&(y.2 != NameKind.free || sc.names.lookup y.1==some NameKind.cell || sc.names.lookup y.1==some NameKind.free)&&(y.2 != NameKind.local || scope.names.lookup y.1==some NameKind.local)) &&
 scope.kind==ScopeKind.function
structure gZ(N:List Str)(sc scope:Scope)(N':List Str)(ix:List (Option Nat)):Prop where
 len:ix.length=N'.length
 at_:∀(i j:Nat) (x:Str),ix[i]?=some (some j)->N'[i]?=some x->N[j]?=some x/\scope.names.lookup x=some .free
 nocell:∀y∈scope.names,y.2≠ .cell
 free:∀y∈scope.names,y.2= .free->sc.names.lookup y.1=some .cell\/sc.names.lookup y.1=some .free
 loc:∀y∈scope.names,y.2= .local->scope.names.lookup y.1=some .local
 kind:scope.kind= .function
theorem gZ.of{N:List Str}{sc scope:Scope}{N':List Str}{ix:List (Option Nat)}(h:vK N sc scope N' ix=true):gZ N sc scope N' ix:=by
 unfold vK at h
 simp only[Bool.and_eq_true,beq_iff_eq,List.all_eq_true] at h
 obtain⟨⟨⟨h1,h2⟩,h3⟩,h4⟩:=h
 refine⟨h1,fun i j x a b=>?_,fun y hy e=>?_,fun y hy e=>?_,fun y hy e=>?_,h4⟩
 ·have hm:(some j,x)∈ix.zip N':=bq (i:=i) (by rw[ng];exact⟨a,b⟩)
  have q:=h2 _ hm
  simp only[Bool.and_eq_true,beq_iff_eq] at q
  exact q
 ·have q:=h3 y hy
  simp only[Bool.and_eq_true,bne_iff_ne,ne_eq] at q
  exact q.1.1 e
 ·have q:=(h3 y hy).1.2
  rw[e] at q
  simpa using q
 ·have q:=(h3 y hy).2
  rw[e] at q
  simpa using q
def cI(X:Cx)(N':List Str)(scope:Scope)(C:Addr)(s₂:Shared)(H₂:Hp)(fp:List Addr):Cx where
 prog:=X.prog
 w:=X.w
 K:=X.K
 mg:=X.mg
 base:=X.base
 A:=X.A
 N:=N'
 s₀:=s₂
 H₀:=H₂
 env:=compEnvC scope (jS X.env scope.names) C X.env
 outer:=X.stack
 stack:=X.stack
 ex:=fp
 fn:=fun _=>false
 calm:=X.calm
 pn:=[]
 xe:=fun _ _=>False
section
variable {X:Cx}{N':List Str}{ix:List (Option Nat)}{scope:Scope}{pins:List (Addr×Obj)}{σ:St}{H₂:Hp}{s₂:Shared}{fp:List Addr}{C:Addr}
theorem gZ.cells(S:gZ X.N X.env.scope scope N' ix)(I:aU X pins σ H₂ s₂):∀y∈scope.names,y.2= .free->∃c,X.env.cells.lookup y.1=some c:=fun y hy e=>I.ok.has y.1 (S.free y hy e)
theorem gZ.get(S:gZ X.N X.env.scope scope N' ix)(I:aU X pins σ H₂ s₂){x:Str}{c:Addr}(h:(jS X.env scope.names).lookup x=some c):X.env.cells.lookup x=some c:=by
 rcases aA4 scope.names [] (S.cells I) h with q|q
 ·exact absurd q (by simp)
 ·exact q
theorem aH5(S:gZ X.N X.env.scope scope N' ix)(I:aU X pins σ H₂ s₂)(hf:∀b∈fp,lJ X pins H₂ b)(hC:s₂.heap.objs.size<=C)(hfC:∀b∈fp,b<s₂.heap.objs.size):(cI X N' scope C s₂ H₂ fp).Ok where
 mod:=I.ok.mod
 kind:=S.kind
 glob:=I.ok.glob
 blt:=I.ok.blt
 above:=hC
 inj:=fun x y c a b=>I.ok.inj x y c (S.get I a) (S.get I b)
 has:=fun x h=>qO scope.names [] (.inl (mL S.nocell h))
 cab:=fun x c h=>by cases h
 hd:=I.ok.hd
 frames:=I.ok.frames
 stk:= .inl rfl
 exf:=fun b hb=>⟨bw (bx (hfC b hb) hC),fun x c e=>(hf b hb).2.2.2.2.1 x c (S.get I e)⟩
 bs:=I.bs
 bsz:=cp I.ok.bsz I.sz
 noex:=fun b o e hb=>by
  rcases(hf b hb).2.2.2.1 with z|z
  ·exact I.ok.noex b o e z
  ·exact absurd (bx (ay e) (cp I.ok.bsz z)) (fw _)
 exfs:=fun b hb hm=>by
  rcases bu.mp (I.stkSub b hm) with z|z
  ·exact(hf b hb).2.1 z
  ·exact(hf b hb).2.2.1 z
 funs:=I.stack
 frf:=I.stkFree
theorem zK(S:gZ X.N X.env.scope scope N' ix)(I:aU X pins σ H₂ s₂)(hf:∀b∈fp,lJ X pins H₂ b)(hfC:∀b∈fp,b<s₂.heap.objs.size){D:Addr}{h₁:Heap}{tk:Nat}{m:Str->Option Value}{ob:Obj}
  (hC:s₂.heap.objs.size<=C) (hD:s₂.heap.objs.size<=D) (hDC:D≠C) (old:∀b o,s₂.heap.get? b=some o->h₁.get? b=some o) (hn:h₁.Ns C m) (hob:h₁.get? D=some ob) (hd:∀v,ob.data≠ .cell v) :
  aU (cI X N' scope C s₂ H₂ fp) [(D,ob)] (xG ix σ) H₂ { s₂ with heap:=h₁,toks:=tk }:=by
 have fr:∀a,s₂.heap.objs.size<=a->H₂ a=none:=fun a ha=>I.hok.fresh ha
 have cOf:∀x c,(jS X.env scope.names).lookup x=some c->X.env.cells.lookup x=some c:=fun x c e=>S.get I e
 refine⟨aH5 S I hf hC hfC,rfl,I.bare,Un.kept old,⟨m,hn,fun i x v e1 e2 e3=>?_⟩,fun x c e=>?_,fr C hC,fun x c e=>I.freeC x c (cOf x c e),fun p hp=>?_,I.hok.kept old,?_⟩
 ·obtain⟨j,q1,q2⟩:=aV0 e2
  obtain⟨n1,n2⟩:=S.at_ i j x q1 e1
  have hm:(x,NameKind.free)∈scope.names:=gi n2
  have hv:Vis X.env.scope x:=by
   rcases S.free _ hm rfl with z|z
   ·exact .inr (.inl z)
   ·exact .inr (.inr z)
  obtain⟨m0,_,hl⟩:=I.loc
  obtain⟨u,r,l⟩:=hl j x v n1 q2 hv
  refine⟨u,r,?_⟩
  have hne:¬X.env.kindOf x=some .local:=fun z=>by
   have z:X.env.scope.names.lookup x=some .local:=z
   rcases S.free _ hm rfl with y|y
   ·rw[y] at z;cases z
   ·rw[y] at z;cases z
  rcases l with⟨k,_⟩|⟨k,c,e,z⟩
  ·exact absurd k hne
  ·obtain⟨c',hc'⟩:=qO (env:=X.env) (x:=x) scope.names [] (.inl hm)
   have hc'':=cOf x c' hc'
   rw[e] at hc''
   cases hc''
   have kk:(cI X N' scope C s₂ H₂ fp).env.kindOf x=some .cell\/(cI X N' scope C s₂ H₂ fp).env.kindOf x=some .free:=by
    rcases e3 with y|y|y
    ·exfalso
     have:∀{names:List (Str×NameKind)},names.lookup x=some .free ->
      (names.map fun(n,k)=>if (k==NameKind.free&&X.env.scope.kind == .function&&X.env.kindOf n==some .cell) then (n,NameKind.cell) else (n,k)).lookup x=some .local->False:=by
      intro names
      induction names with
      |nil=>intro a;simp at a
      |cons p r ih =>
       obtain⟨n,k⟩:=p
       intro a b
       simp only[List.map_cons] at b
       simp only[List.lookup_cons] at a
       cases hx:x==n with
       |true =>
        rw[hx] at a
        simp only[Option.some.injEq] at a
        subst a
        split at b
        ·simp[List.lookup_cons,hx] at b
        ·simp[List.lookup_cons,hx] at b
       |false =>
        rw[hx] at a
        split at b
        ·simp only[List.lookup_cons,hx] at b;exact ih a b
        ·simp only[List.lookup_cons,hx] at b;exact ih a b
     exact this n2 y
    ·exact .inl y
    ·exact .inr y
   obtain⟨oc,ho,hod⟩:=z
   exact .inr ⟨kk,c,hc',oc,old _ _ ho,hod⟩
 ·obtain⟨v,o,ho,hod⟩:=I.cell x c (cOf x c e)
  exact⟨v,o,old _ _ ho,hod⟩
 ·have hp:p∈[(D,ob)]:=hp
  have e:p=(D,ob):=by simpa using hp
  subst e
  refine⟨hob,fr D hD,hDC,fun hb=>?_,hd⟩
  have hb:D∈iR X.stack:=hb
  rcases bu.mp (I.stkSub D hb) with z|z
  ·exact absurd I.lt (by rw[<-z];exact mh.mpr hD)
  ·exact I.nofs hD z
 ·show(xG ix σ).length=N'.length
  unfold xG
  rw[ac,S.len]
theorem zX(I:aU X pins σ H₂ s₂)(hf:∀b∈fp,lJ X pins H₂ b){pins':List (Addr×Obj)}{σ':St}{H':Hp}{s':Shared}{D:Addr}{ys:List V}{its:List Value}(hC:s₂.heap.objs.size<=C)(hD:s₂.heap.objs.size<=D)
  (J:aU (cI X N' scope C s₂ H₂ fp) pins' σ' H' s') (hn:H' D=none) (hl:s'.heap.PlainList D its.toArray) (r:bI ys its) (hz:ys.length<=sizeLine):aU X pins σ (aN H' D (.lst ys)) s':=by
 have sb:Un (iR X.stack) fp H₂ H' s₂.heap s'.heap:=J.base
 have nD:∀b u,H' b=some u->b≠D:=fun b u e=>aI e hn
 refine I.call' (ch:=fp) J.os ⟨sb.keep,sb.slot,fun b o e n hx=>?_,sb.there,fun b xs e=>?_,fun b o u e=>?_,fun b ps e=>?_⟩ (fun b u e=>?_) J.bare (fun b hb=>?_)
 ·rw[aH (bw (bx (ay e) hD))]
  exact sb.free b o e n hx
 ·have q:=sb.tups b xs e
  rw[aH (nD b _ q)];exact q
 ·have q:=sb.frzs b o u e
  rw[aH (nD b _ q)];exact q
 ·obtain⟨more,q⟩:=sb.tbls b ps e
  exact⟨more,by rw[aH (nD b _ q)];exact q⟩
 ·by_cases hb:b=D
  ·subst hb
   rw[aC] at e
   cases e
   obtain⟨n,hg⟩:=hl
   exact⟨hz,its,n,r,hg⟩
  ·rw[aH hb] at e
   exact(J.hok b u e).stay (fun c v _ q=>q) (fun c q=>by rw[aH (nD c _ q)];exact q) fun c xs q=>by rw[aH (nD c _ q)];exact q
 ·obtain⟨_,f1,_,f3,f4,f5⟩:=hf b hb
  exact⟨f3,f1,f4,f5⟩
end
def mX(J:It)(g:TG)(tc:TT)(te:TE)(Kf:List V->Hp->Prop)(σ0:St)(H1:Hp):Prop:=
 ∃W:Nat->Nat->List V->St->Hp->Prop,(∃m,W 0 m [] σ0 H1)/\∀i m ys σ' H',W i m ys σ' H'->ys.length<sizeLine /\
  ((J.stop i H'/\Kf ys H')\/(J.go i H'/\∃N:List V->St->Hp->Prop,(∀ys' σ2 H2,N ys' σ2 H2->∃m',m'<m/\W (i+1) m' ys' σ2 H2)/\∀x H'',J.yld i H' x H''->g x σ' H'' fun σ2 H2=>tc σ2 H2 fun b H3 =>
   if b=true then te σ2 H3 fun y H4=>N (ys++[y]) σ2 H4 else N ys σ2 H3))
def bG6(wi:TI)(ix:List (Option Nat))(g:TG)(tc:TT)(te:TE):TE:=fun σ H Q =>
 wi σ H fun J H1=>mX J g tc te (fun ys H'=>∀l,H' l=none->Q (.ref l) (aN H' l (.lst ys))) (xG ix σ) H1
section
variable {X:Cx}{tg elt iter:Expr}{ifs:List Expr}{scope:Scope}{pos:Pos}{N':List Str}{ix:List (Option Nat)}{wi:TI}{g:TG}{tc:TT}{te:TE}
def bB6(X:Cx)(pins:List (Addr×Obj))(σ:St)(Kf:List V->Hp->Prop)(acc:Value)(C:Addr)(s':Shared):Prop:=
 ∃D H' ys,acc= .ref D/\H' D=none/\aU X pins σ (aN H' D (.lst ys)) s'/\(∃m,s'.heap.Ns C m)/\H' C=none/\D≠C/\C≠X.env.locals/\X.s₀.heap.objs.size<=C/\(∀x c,X.env.cells.lookup x=some c->c≠C)/\(∀p∈X.pn++pins,p.1≠C)/\Kf ys H'
theorem sX{pins:List (Addr×Obj)}{s₂:Shared}{σ:St}{H₂:Hp}{it:Addr}{fp:List Addr}{tn:Nat->Heap->Prop}{J:It}{Kf:List V->Hp->Prop}{RR:Value->Addr->Result->Shared->Prop}{E:Value->Shared->Prop}
  (S:gZ X.N X.env.scope scope N' ix) (hc:X.calm=true)
  (hg:∀C s₂ H₂ fp,PG (cI X N' scope C s₂ H₂ fp) tg g) (ht:∀C s₂ H₂ fp,aX4 (cI X N' scope C s₂ H₂ fp) ifs tc) (he:∀C s₂ H₂ fp,PE (cI X N' scope C s₂ H₂ fp) elt te)
  (I2:aU X pins σ H₂ s₂) (T:uO X.prog X.w X.K tg J fp it tn) (st2:tn 0 s₂.heap) (f2:∀b∈fp,lJ X pins H₂ b) (w:mX J g tc te Kf (xG ix σ) H₂)
  (hR:∀acc C s',bB6 X pins σ Kf acc C s'->RR acc C (.ok .next) s') :
  wpAny (model X.prog X.w) X.A (newList []) (fun acc s₃=>wpAny (model X.prog X.w) X.A (newFunctionEnv scope X.env.globals (jS X.env scope.names) [] X.env.qual none .none (some X.env)) (fun cenv s₄ =>
   codeAny (model X.prog X.w) X.A (.compStart (.ListComp elt [⟨tg,iter,ifs,0⟩] scope pos) 0 (.ref it) acc { cenv with scope:=relabel scope X.env }) (RR acc cenv.locals) s₄) E s₃) E s₂:=by
 obtain⟨W,⟨m0,w0⟩,turn⟩:=w
 refine fg (wp S.nocell (by intro y hy;simp at hy) (fun h₁ nsN sbN=>?_) S.kind)
 dsimp only at nsN sbN ⊢
 generalize eH:s₂.heap.push { cls:= .type "list",dict:=none,data:= .seq ([]:List Value).toArray }=G2 at nsN sbN ⊢
 have sizeC:G2.objs.size=s₂.heap.objs.size+1:=by rw[<-eH,kj]
 have neDC:s₂.heap.objs.size≠G2.objs.size:=by rw[sizeC];exact bw (fc _)
 have leC:s₂.heap.objs.size<=G2.objs.size:=by rw[sizeC];exact gg _
 have older:∀b,b<s₂.heap.objs.size->b≠G2.objs.size/\b≠s₂.heap.objs.size:=fun b hb=>⟨by rw[sizeC];exact bw (kh hb),bw hb⟩
 have keepOld:∀b o,s₂.heap.get? b=some o->h₁.get? b=some o:=fun b o e=>sbN.extBut b o (older b (ay e)).1 (ae _ (eH ▸ ae _ e))
 have accNew:h₁.PlainList s₂.heap.objs.size #[]:=⟨_,sbN.extBut _ _ neDC (ae _ (eH ▸ bb _ rfl))⟩
 generalize eC:G2.objs.size=C at *
 generalize eD:s₂.heap.objs.size=D at *
 have hfC:∀b∈fp,b<s₂.heap.objs.size:=fun b hb=>by
  obtain⟨o,e,_⟩:=T.obj 0 _ st2 b hb
  exact ay e
 have hfD:∀b∈fp,b≠D:=fun b hb=>by have:=hfC b hb;rw[eD] at this;exact bw this
 have hfC':∀b∈fp,b≠C:=fun b hb=>by have:=hfC b hb;rw[eD] at this;exact bw (bx this leC)
 have geD:s₂.heap.objs.size<=D:=by rw[eD];exact ah _
 have geC:s₂.heap.objs.size<=C:=by rw[eD];exact leC
 obtain⟨nn,hob⟩:=id accNew
 have J1:aU (cI X N' scope C s₂ H₂ fp) [] (xG ix σ) H₂ { s₂ with heap:=h₁,toks:=s₂.toks+([]:List (Str×Value)).length }:=
  (zK S I2 f2 hfC geC geD neDC keepOld nsN hob (fun v z=>by cases z)).pins_of (fun p hp=>absurd hp (by simp))
 have nfsD:D∉iR X.stack:=fun hb=>by
  rcases bu.mp (I2.stkSub D hb) with z|z
  ·exact absurd I2.lt (by rw[<-z];exact mh.mpr geD)
  ·exact I2.nofs geD z
 have cOf:∀x c,(jS X.env scope.names).lookup x=some c->c≠D/\c≠C:=fun x c e=>by
  obtain⟨v,z⟩:=I2.cell x c (S.get I2 e)
  have:=z.lt
  rw[eD] at this
  exact⟨bw this,bw (bx this leC)⟩
 have fpk:∀{pl:List (Addr×Obj)}{H':Hp},(∀b∈fp,H' b=none)->(∀p∈pl,p.1∉fp)->∀b∈fp,lJ (cI X N' scope C s₂ H₂ fp) pl H' b:=fun {pl H'} hn hp b hb =>
  ⟨hn b hb,hfC' b hb,fun z=>by
    rcases bu.mp (I2.stkSub b z) with q|q
    ·exact(f2 b hb).2.1 q
    ·exact(f2 b hb).2.2.1 q,
   .inl hb,fun x c e=>(f2 b hb).2.2.2.2.1 x c (S.get I2 e),fun p hp' z=>hp p (by simpa [cI] using hp') (by rw[z];exact hb)⟩
 have dpk:∀{H':Hp},H' D=none->∀b∈[D],lJ (cI X N' scope C s₂ H₂ fp) [] H' b:=fun {H'} hn b hb=>by
  have e:b=D:=by simpa using hb
  subst e
  exact⟨hn,neDC,nfsD,.inr geD,fun x c e=>(cOf x c e).1,fun p hp=>absurd hp (by simp[cI])⟩
 have loop:codeAny (model X.prog X.w) X.A (.compLoop (.ListComp elt [⟨tg,iter,ifs,0⟩] scope pos) 0 (.ref it) (.ref D) (compEnvC scope (jS X.env scope.names) C X.env)) (RR (.ref D) C) { s₂ with heap:=h₁,toks:=s₂.toks+([]:List (Str×Value)).length }:=by
  refine aH0 (fun n s'=>∃i ys σ' H' its,aU (cI X N' scope C s₂ H₂ fp) [] σ' H' s'/\tn i s'.heap/\(∀b∈fp,H' b=none)/\H' D=none/\s'.heap.PlainList D its.toArray/\bI ys its/\W i n ys σ' H') ?_ m0
   ⟨0,[],_,H₂,[],J1,T.keep _ _ _ st2 fun b _ o e=>keepOld b o e,fun b hb=>(f2 b hb).1,I2.hok.fresh geD,accNew,.nil,w0⟩
  rintro n s3 ⟨i,ys,σ3,H3,its,I3,st3,fr3,dn3,pl3,rv3,w3⟩
  obtain⟨nn3,hob3⟩:=id pl3
  have oD:∀b∈[D],∃o,s3.heap.get? b=some o/\∀v,o.data≠ .cell v:=fun b hb=>by
   have e:b=D:=by simpa using hb
   subst e
   exact⟨_,hob3,fun v z=>by cases z⟩
  have I3':aU (cI X N' scope C s₂ H₂ fp) (hZ [D] s3.heap) σ3 H3 s3:=by
   have:=I3.pinned (dpk dn3) oD
   simpa using this
  have pD:(D,({ cls:= .type "list",data:= .seq its.toArray nn3 }:Obj))∈hZ [D] s3.heap:=iC (by simp) hob3
  have npD:∀p∈hZ [D] s3.heap,p.1∉fp:=fun p hp z=>by
   have e:p.1=D:=by simpa using (tO hp).1
   exact hfD _ z e
  obtain⟨hys,tt⟩:=turn i n ys σ3 H3 w3
  rcases tt with⟨stop,qn⟩|⟨go,N,hN,step⟩
  ·refine dm (T.done (cI X N' scope C s₂ H₂ fp) rfl rfl rfl hc i (hZ [D] s3.heap) s3 σ3 H3 (fun _ _=>False) I3' (fpk fr3 npD) st3 stop) (fun r s4 ⟨hr,I4⟩=>?_) fun _ _ z=>z
   subst hr
   have g4:=(I4.pin _ (bh _ pD)).1
   refine hR _ _ _ ⟨D,H3,ys,rfl,dn3,zX I2 f2 geC geD I4 dn3 ⟨nn3,g4⟩ rv3 (cj hys),?_,?_,neDC,?_,?_,?_,?_,qn⟩
   ·obtain⟨m,hm,_⟩:=I4.loc
    exact⟨m,hm⟩
   ·exact I4.free
   ·exact jp (bx I2.lt geC)
   ·exact cp I2.sz geC
   ·intro x c e z
    obtain⟨v,q⟩:=I2.cell x c e
    exact absurd (bx q.lt geC) (by rw[z];exact fw _)
   ·intro p hp z
    exact absurd (bx (ay (I2.pin p hp).1) geC) (by rw[z];exact fw _)
  ·refine dm (T.item (cI X N' scope C s₂ H₂ fp) rfl rfl rfl hc i (hZ [D] s3.heap) s3 σ3 H3 (fun _ _=>False) I3' (fpk fr3 npD) st3 go) (fun r s4 ⟨u,hr,h4⟩=>?_) fun _ _ z=>z
   subst hr
   refine dm h4 (?_) fun _ _ z=>z;rintro _ s5 ⟨x,H5,I5,r5,y5,st5,fr5⟩
   have I5':=I5.pinned (fpk fr5 npD) (T.obj _ _ st5)
   refine dm (hg C s₂ H₂ fp _ s5 σ3 H5 x u _ I5' r5 (step x H5 y5)) (?_) fun _ _ z=>z;rintro _ s6 ⟨σ6,H6,I6,q6⟩
   refine dm (ht C s₂ H₂ fp _ s6 σ6 H6 _ I6 q6) (?_) fun _ _ z=>z;rintro b s7 ⟨H7,I7,q7⟩
   have fin:∀{s8:Shared}{σ8:St}{H8:Hp},aU (cI X N' scope C s₂ H₂ fp) (hZ [D] s3.heap++hZ fp s5.heap) σ8 H8 s8->s8.heap.get? D=some { cls:= .type "list",data:= .seq its.toArray nn3 }/\H8 D=none /\
     tn (i+1) s8.heap/\∀b∈fp,H8 b=none:=fun {s8 σ8 H8} I8=>by
    have q:=I8.pin _ (bh _ (bv _ pD))
    refine⟨q.1,q.2.1,T.keep _ _ _ st5 fun b hb o e=>(I8.pin (b,o) (bh _ (bh _ (iC hb e)))).1,fun b hb=>?_⟩
    obtain⟨o,e,d⟩:=T.obj _ _ st5 b hb
    exact(I8.pin (b,o) (bh _ (bh _ (iC hb e)))).2.1
   cases b with
   |false =>
    obtain⟨m',hm,w7⟩:=hN _ _ _ q7
    obtain⟨a1,a2,a3,a4⟩:=fin I7
    exact⟨m',hm,i+1,ys,σ6,H7,its,I7.pins_of fun p hp=>absurd hp (by simp),a3,a4,a2,⟨nn3,a1⟩,rv3,w7⟩
   |true =>
    refine dm (he C s₂ H₂ fp _ s7 σ6 H7 _ I7 q7) (?_) fun _ _ z=>z;rintro v s8 ⟨y,H8,I8,r8,n8⟩
    obtain⟨m',hm,w8⟩:=hN _ _ _ n8
    obtain⟨a1,a2,a3,a4⟩:=fin I8
    have hsz:its.toArray.size<=sizeLine:=by
     have:=rv3.length
     rw[bn]
     lia
    refine wpAny_list_append_plain (hsz:=hsz) ⟨nn3,a1⟩ fun h9 hl9 hs9=>?_
    have I9:aU (cI X N' scope C s₂ H₂ fp) [] σ6 H8 { s8 with heap:=h9 }:=
     (I8.pins_of (pins':=[]) fun p hp=>absurd hp (by simp)).turned (t':=s8.toks) (fun b o hb e=>(hs9.2 b hb).trans e) a2 neDC (.inr geD) (fun x c e=>(cOf x c e).1) fun p hp=>absurd hp (by simp[cI])
    refine⟨m',hm,i+1,ys++[y],σ6,H8,its++[v],I9,T.keep _ _ _ a3 fun b hb o e=>(hs9.2 b (hfD b hb)).trans e,a4,a2,?_,rv3.append (.cons r8 .nil),w8⟩
    have e:(its++[v]).toArray=its.toArray.push v:=by simp
    rw[e];exact hl9
 exact codeAny_compStart_list loop (T.self _ 0 _ _ _ (T.keep _ _ _ st2 fun b _ o e=>keepOld b o e) loop)
theorem dF(N':List Str)(ix:List (Option Nat))(hi:PI X tg iter wi)(hg:∀C s₂ H₂ fp,PG (cI X N' scope C s₂ H₂ fp) tg g)(ht:∀C s₂ H₂ fp,aX4 (cI X N' scope C s₂ H₂ fp) ifs tc)
  (he:∀C s₂ H₂ fp,PE (cI X N' scope C s₂ H₂ fp) elt te) (S:autoParam (vK X.N X.env.scope scope N' ix=true) Rq0._auto_1) (hc:autoParam (X.calm=true) Rq0._auto_1) (hs:autoParam (∀x,foldedSetIterable iter X.env x=pure x) Rq4._auto_1) :
  PE X (.ListComp elt [⟨tg,iter,ifs,0⟩] scope pos) (bG6 wi ix g tc te):=by
 intro pins s σ H Q I h
 have S:=gZ.of S
 rw[eval_ListComp]
 refine ug (use:=none) (cl:=jS X.env scope.names) rfl hs (mC fun y hy e=>I.ok.has y.1 (S.free y hy e)) S.kind S.loc (cK (hi pins s σ H _ I h) fun xv s₁ h₁=>cK h₁ fun itv s₂ h₂=>?_)
 obtain⟨it,fp,tn,J,H₂,rfl,I2,T,st2,f2,w⟩:=h₂
 refine sX (RR:=fun acc C=>compPost (model X.prog X.w) X.A X.xe none (EP X pins σ Q) acc C) S hc hg ht he I2 T st2 f2 w fun acc C s' ce=>?_
 obtain⟨D,H',ys,rfl,dn,J',hm,cn,dc,c1,c2,c3,c4,kf⟩:=ce
 obtain⟨m,hm⟩:=hm
 refine⟨m,hm,fun h' hs'=>⟨.ref D,_,J'.turned (t':=s'.toks) (fun b o hb e=>(hs'.2 b hb).trans e) (by rw[aH dc.symm];exact cn) c1 (.inr c2) c3 c4,rfl,kf D dn⟩⟩
theorem lG(N':List Str)(ix:List (Option Nat)){i:Nat}{x:Str}{pos' spos:Pos}(hN:X.N.Nodup)(hxi:X.N[i]?=some x)(hx:Loc X.env.scope x)(hi:PI X tg iter wi)(hg:∀C s₂ H₂ fp,PG (cI X N' scope C s₂ H₂ fp) tg g)(ht:∀C s₂ H₂ fp,aX4 (cI X N' scope C s₂ H₂ fp) ifs tc)
  (he:∀C s₂ H₂ fp,PE (cI X N' scope C s₂ H₂ fp) elt te) (S:autoParam (vK X.N X.env.scope scope N' ix=true) Rq0._auto_1) (hc:autoParam (X.calm=true) Rq0._auto_1) (hs:autoParam (∀x,foldedSetIterable iter X.env x=pure x) Rq4._auto_1)
  (hsw:autoParam (swapsWith (.ListComp elt [⟨tg,iter,ifs,0⟩] scope pos) (some (.Name x pos')) spos.line X.env=pure true) Rq0._auto_1) (hf:autoParam (X.fn x=true\/X.env.scope.names.lookup x=some .local) Rq3._auto_1) :
  PS X (.Assign [.Name x pos'] (.ListComp elt [⟨tg,iter,ifs,0⟩] scope pos) spos) (aJ6 (bG6 wi ix g tc te) (tT i)):=by
 intro pins s σ H D I h
 have S:=gZ.of S
 rw[exec_Assign_Name_used _ _ _ _ hsw]
 refine aa (rg (aa ?_))
 show wpAny _ X.A (do let _ <-comprehension (.ListComp elt [⟨tg,iter,ifs,0⟩] scope pos) scope X.env _ (newList []) false (eval iter X.env) (some (assign (.Name x pos') X.env))) _ _ s
 refine aa (dm (ug (use:=some (assign (.Name x pos') X.env)) (cl:=jS X.env scope.names) (Q:=fun _ s'=>SP X pins D .next s') rfl hs (mC fun y hy e=>I.ok.has y.1 (S.free y hy e)) S.kind S.loc
  (cK (hi pins s σ H _ I h) fun xv s₁ h₁=>cK h₁ fun itv s₂ h₂=>?_)) (fun _ s' hq=>aj (aj hq)) fun _ _ e=>e)
 obtain⟨it,fp,tn,J,H₂,rfl,I2,T,st2,f2,w⟩:=h₂
 refine sX (RR:=fun acc C=>compPost (model X.prog X.w) X.A X.xe (some (assign (.Name x pos') X.env)) (fun _ s'=>SP X pins D .next s') acc C) S hc hg ht he I2 T st2 f2 w fun acc C s' ce=>?_
 obtain⟨D',H',ys,rfl,dn,J',hm,cn,dc,c1,c2,c3,c4,kf⟩:=ce
 obtain⟨m,hm⟩:=hm
 show wpAny _ X.A (assign (.Name x pos') X.env (.ref D')) _ _ _
 refine ym (sS (v:= .ref D') J' hN hxi hx rfl (fun s2 J2 hsb=>?_) hf)
 obtain⟨a,hsb,ha⟩:=hsb
 have hCa:C≠a:=by
  rcases ha with z|z
  ·rw[z];exact c1
  ·exact(c3 x a z).symm
 refine⟨m,hm.sameBut hsb hCa,fun h' hs'=>?_⟩
 exact⟨_,_,J2.turned (t':=s2.toks) (fun b o hb e=>(hs'.2 b hb).trans e) (by rw[aH dc.symm];exact cn) c1 (.inr c2) c3 c4,kf D' dn⟩
theorem cZ{K:PySem.W.Frag}{a:Addr}{xs:List V}{Kf:List V->Hp->Prop}{σ0:St}{H1:Hp}(Pv:Nat->List V->St->Hp->Prop)(hz:xs.length<sizeLine)(h0:Pv 0 [] σ0 H1)(hb:∀i ys σ H,Pv i ys σ H->ys.length<=i)(hl:∀i ys σ H,i<=xs.length->Pv i ys σ H->bK K H a xs)
  (hs:∀i x ys σ H,xs[i]?=some x->Pv i ys σ H->g x σ H fun σ2 H2=>tc σ2 H2 fun b H3=>if b=true then te σ2 H3 fun y H4=>Pv (i+1) (ys++[y]) σ2 H4 else Pv (i+1) ys σ2 H3) (hd:∀ys σ H,Pv xs.length ys σ H->Kf ys H):mX (Itl K a) g tc te Kf σ0 H1:=by
 refine⟨fun i m ys σ H=>m=xs.length-i/\i<=xs.length/\Pv i ys σ H,⟨xs.length,by simp,bt _,h0⟩,?_⟩
 rintro i m ys σ H ⟨rfl,hi,p⟩
 have q:=hl i ys σ H hi p
 refine⟨dj (hb _ _ _ _ p) (dj hi hz),?_⟩
 by_cases hlt:i<xs.length
 ·refine .inr ⟨⟨xs,xs[i],q,by simp[hlt]⟩,Pv (i+1),fun ys' σ' H' p'=>⟨xs.length-(i+1),fq hlt (fc i),rfl,hlt,p'⟩,fun x H' y=>?_⟩
  obtain⟨e,y⟩:=y
  subst e
  exact hs i x ys σ _ (y xs q) p
 ·have e:i=xs.length:=by lia
  subst e
  exact .inl ⟨⟨xs,q,ah _⟩,hd ys σ H p⟩
theorem aW1{K:PySem.W.Frag}{a:Addr}{xs:List V}{Kf:List V->Hp->Prop}{σ0:St}{H1:Hp}(Pv:Nat->List V->St->Hp->Prop)(hz:xs.length<sizeLine)(h0:Pv 0 [] σ0 H1)(hb:∀i ys σ H,Pv i ys σ H->ys.length<=i)(hl:∀i ys σ H,i<=xs.length->Pv i ys σ H->aR K H a xs)
  (hs:∀i x ys σ H,xs[i]?=some x->Pv i ys σ H->g x σ H fun σ2 H2=>tc σ2 H2 fun b H3=>if b=true then te σ2 H3 fun y H4=>Pv (i+1) (ys++[y]) σ2 H4 else Pv (i+1) ys σ2 H3) (hd:∀ys σ H,Pv xs.length ys σ H->Kf ys H):mX (Itt K a) g tc te Kf σ0 H1:=by
 refine⟨fun i m ys σ H=>m=xs.length-i/\i<=xs.length/\Pv i ys σ H,⟨xs.length,by simp,bt _,h0⟩,?_⟩
 rintro i m ys σ H ⟨rfl,hi,p⟩
 have q:=hl i ys σ H hi p
 refine⟨dj (hb _ _ _ _ p) (dj hi hz),?_⟩
 by_cases hlt:i<xs.length
 ·refine .inr ⟨⟨xs,xs[i],q,by simp[hlt]⟩,Pv (i+1),fun ys' σ' H' p'=>⟨xs.length-(i+1),fq hlt (fc i),rfl,hlt,p'⟩,fun x H' y=>?_⟩
  obtain⟨e,y⟩:=y
  subst e
  exact hs i x ys σ _ (y xs q) p
 ·have e:i=xs.length:=by lia
  subst e
  exact .inl ⟨⟨xs,q,ah _⟩,hd ys σ H p⟩
theorem lY{lo:Int}{n:Nat}{Kf:List V->Hp->Prop}{σ0:St}{H1:Hp}(Pv:Nat->List V->St->Hp->Prop)(hz:n<sizeLine)(h0:Pv 0 [] σ0 H1)(hb:∀i ys σ H,Pv i ys σ H->ys.length<=i)
  (hs:∀i ys σ H,i<n->Pv i ys σ H->g (.int (lo+i)) σ H fun σ2 H2=>tc σ2 H2 fun b H3=>if b=true then te σ2 H3 fun y H4=>Pv (i+1) (ys++[y]) σ2 H4 else Pv (i+1) ys σ2 H3) (hd:∀ys σ H,Pv n ys σ H->Kf ys H):mX (Itr lo n) g tc te Kf σ0 H1:=by
 refine⟨fun i m ys σ H=>m=n-i/\i<=n/\Pv i ys σ H,⟨n,by simp,bt _,h0⟩,?_⟩
 rintro i m ys σ H ⟨rfl,hi,p⟩
 refine⟨dj (hb _ _ _ _ p) (dj hi hz),?_⟩
 by_cases hlt:i<n
 ·refine .inr ⟨hlt,Pv (i+1),fun ys' σ' H' p'=>⟨n-(i+1),fq hlt (fc i),rfl,hlt,p'⟩,fun x H' y=>?_⟩
  obtain⟨e,y⟩:=y
  subst e y
  exact hs i ys σ _ hlt p
 ·have e:i=n:=by lia
  subst e
  exact .inl ⟨ah _,hd ys σ H p⟩
end
theorem aK1:typeLookup (.type "list_reverseiterator") "__len__"=pure none:=by rw[vf,pf];kernel_rfl
theorem bA2:typeLookup (.type "list_reverseiterator") "__length_hint__"=pure (some (.builtin "list_reverseiterator.__length_hint__")):=by rw[vf,pf];kernel_rfl
abbrev newL:Obj:={ cls:= .type "list",data:= .seq #[] }
section
variable {prog:Program}{w:World}{A:Around}{E:Value->Shared->Prop}{Q:Value->Shared->Prop}{s:Shared}{it p:Addr}{items:Array Value}
theorem xD(hh:A.handled=none)(ne:p≠it)(hi:s.heap.IsRevIter it p ((items.size:Int)-1))(hp:s.heap.IsList p items)(hz:items.size<=sizeLine)
  (k:∀t got c,(∀b o,b≠it->s.heap.get? b=some o->t.heap.get? b=some o)->t.gens=s.gens->t.os=s.os ->
   t.heap.get? s.heap.objs.size=some { cls:= .type "list",dict:=none,data:= .seq got c,slots:= #[] }->got.toList=items.toList.reverse->Q (.ref s.heap.objs.size) t) :
  wpAny (model prog w) A (call (.type "list") [.ref it]) Q E s:=by
 let W:=(xf (prog:=prog) (w:=w) (A:=A.in1.in1) hh it p ne items).toS
 have st0:0<=items.size/\s.heap.IsRevIter it p ((items.size:Int)-1-((0:Nat):Int))/\s.heap.IsList p items:=⟨bt _,by simpa using hi,hp⟩
 have itLt:it<s.heap.objs.size:=by
  obtain⟨o,e,_⟩:=hi
  exact ay e
 have pLt:p<s.heap.objs.size:=by
  obtain⟨o,e,_⟩:=hp
  exact ay e
 have fresh:s.heap.objs.size∉[it,p]:=fun m=>by
  rcases bu.mp m with z|z
  ·exact fw _ (z ▸ itLt)
  ·exact fw _ ((cg.mp z) ▸ pLt)
 have neS:s.heap.objs.size≠it:=fun z=>fresh (by rw[z];exact aq)
 refine callType_codes (Q₁:=fun o t=>o= .ref s.heap.objs.size/\t={ s with heap:=s.heap.push newL }) F.called_list (F.typeCall_list_1 _) F.entry_list_init (code_list_new _ ⟨rfl,rfl⟩) ?_
 rintro _ _ ⟨rfl,rfl⟩
 have hS:(s.heap.push newL).get? s.heap.objs.size=some newL:=bb _ rfl
 refine⟨⟨_,hS,rfl⟩,F.args_list_init_2 _ _,?_⟩
 refine aa (m:=Builtin.List.listItems (.ref s.heap.objs.size)) (aa (jg hS rfl (aj ?_)))
 refine aa (m:=updateSeq s.heap.objs.size fun _=> #[]) (wpAny_updateSeq hS rfl (aa (zd ?_)))
 have hS2:=ik (Obj.mapSeq fun _=>(#[]:Array Value)) hS rfl
 have older:∀b o,s.heap.get? b=some o->((s.heap.push newL).update s.heap.objs.size (Obj.mapSeq fun _=>(#[]:Array Value))).get? b=some o:=fun b o e =>
  (oy _ _ (jp (ay e))).trans (ae _ e)
 have st1:=W.frame 0 s ((s.heap.push newL).update s.heap.objs.size (Obj.mapSeq fun _=>(#[]:Array Value))) s.toks st0 (ah _) fun b _ o e=>older b o e
 have ty:∀i t,(fun(i:Nat) (t:Shared)=>i<=items.size/\t.heap.IsRevIter it p ((items.size:Int)-1-(i:Int))/\t.heap.IsList p items) i t->t.TypeIs (.ref it) "list_reverseiterator":=fun i t z=>z.2.1.typeIs
 unfold Builtin.List.listExtendWith
 refine aa (ud (ty 0 _ st1) ?_)
 have same:Builtin.List.listSameRef (.ref s.heap.objs.size) (.ref it)=false:=by simp[Builtin.List.listSameRef,neS]
 rw[av (by rw[same];decide)]
 refine aa (W.self 0 _ _ _ st1 (aa (ej ?_)))
 unfold Builtin.List.listLengthHint
 refine aa (va (ty 0 _ st1) aK1 ?_)
 refine aa (m:=specialOf (Value.ref it) (Str.ofString "__length_hint__")) (va (ty 0 _ st1) bA2 ?_)
 generalize hid:("list_reverseiterator.__length_hint__": String)=id0
 wp_delta
 rw[show splitId id0=some ("list_reverseiterator","__length_hint__") from by subst hid;decide]
 subst hid
 refine aa (uh (b:=true) (ty 0 _ st1) (by rw[vw];kernel_rfl) (aj ?_))
 rw[av (by decide)]
 refine aj ⟨rh F.plain_extend_loop _,codeAny_extend_loopS W hz _ fresh _ items.size 0 _ _ _ rfl (bt _) st1 hS2 (ItemsOf.nil _) fun t got c mv at' its=>⟨rfl,?_⟩⟩
 refine k t got c (fun b o hb e=>mv.heap b o (fun m=>?_) (older b o e)) mv.gens mv.os at' ?_
 ·rcases bu.mp m with z|z
  ·exact absurd (ay e) (by rw[z];exact fw _)
  ·exact hb (cg.mp z)
 ·obtain⟨len,each⟩:=its
  refine List.ext_getElem? fun j=>?_
  by_cases hj:j<items.size
  ·have g:got[j]?=some got[j]:=nh (by lia)
   rw[vx (by simpa using hj),gm,gm,g, <-each j _ g]
   simp
  ·rw[vy (by simp;lia),vy (by simp;lia)]
end
def aM8(K:PySem.W.Frag)(te:TE):TE:=fun σ H Q=>te σ H fun x H1=>∃a ys,x= .ref a/\bK K H1 a ys/\∀l,H1 l=none->Q (.ref l) (aN H1 l (.lst ys.reverse))
theorem xX{X:Cx}{e:Expr}{te:TE}{p1 p2 pos1 pos2:Pos}(he:PE X e te)(g1:Gl X "list")(m1:X.mg "list"=none)(g2:Gl X "reversed")(m2:X.mg "reversed"=none)(hc:autoParam (X.calm=true) Rq0._auto_1)
  (hs1:autoParam (starEach [.Call (.Name "reversed" p2) [e] [] pos2] X.env=[(false,eval (.Call (.Name "reversed" p2) [e] [] pos2) X.env)]) Rq0._auto_1) (hs2:autoParam (starEach [e] X.env=[(false,eval e X.env)]) Rq0._auto_1) :
  PE X (.Call (.Name "list" p1) [.Call (.Name "reversed" p2) [e] [] pos2] [] pos1) (aM8 X.K te):=by
 intro pins s σ H Q I h
 refine ge (kE I g1 m1 ig ?_)
 refine ia ?_ hs1 rfl
 rw[hs1]
 refine im (ge (kE I g2 m2 rj ?_))
 refine ia ?_ hs2 rfl
 rw[hs2]
 refine im (cK (he pins s σ H _ I h) ?_);rintro u s1 ⟨x,H1,I1,r1,a,ys,ex,hq,q⟩;refine kg ?_
 subst ex
 cases r1
 obtain⟨its,rv,pl,hz⟩:=I1.list hq
 have il:=pl.isList
 refine yc il (kg ?_)
 have I2:aU X pins σ H1 { s1 with heap:=s1.heap.push (revObj a ((its.toArray.size:Int)-1)) }:=I1.kept (t':=s1.toks) fun b o e=>ae _ e
 have aLt:a<s1.heap.objs.size:=by
  obtain⟨o,e,_⟩:=il
  exact ay e
 have len:=rv.length
 obtain⟨f0,f1,f2,f3,f4,f5⟩:lJ X pins H1 s1.heap.objs.size:=I1.fpOk (ah _) (I1.hok.fresh (ah _))
 refine xD (p:=a) (items:=its.toArray) (I.ok.hd hc) (bw aLt) ⟨_,bb _ rfl,rfl,rfl⟩ (il.at fun o e=>ae _ e) (by rw[bn];lia) ?_
 intro t got c keep gens os at' eg
 obtain⟨D,eD⟩:∃D,(s1.heap.push (revObj a ((its.toArray.size:Int)-1))).objs.size=D:=⟨_,rfl⟩
 have hD:(s1.heap.push (revObj a ((its.toArray.size:Int)-1))).objs.size<=D:=Nat.le_of_eq eD
 dsimp only at at' ⊢
 rw[eD] at at' ⊢
 have fD:H1 D=none:=I2.hok.fresh hD
 have neT:∀b u,H1 b=some u->b≠s1.heap.objs.size:=fun b u e z=>by rw[z,f0] at e;cases e
 refine⟨.ref D,aN H1 D (.lst ys.reverse),I2.call' (ch:=[s1.heap.objs.size]) os ⟨fun b o e n _ hx=>keep b o (fun z=>hx (by simp[z])) e,fun b o e n _ hx=>⟨o.slots,keep b o (fun z=>hx (by simp[z])) e⟩,fun b o e n _=>?_,fun b o e hx=>⟨o,keep b o (fun z=>hx (by simp[z])) e⟩,fun b xs e=>?_,fun b o u e=>?_,fun b ps e=>⟨#[],?_⟩⟩ (fun b u e=>?_) (by rw[gens];exact I2.bare) (fun b hb=>?_),rfl,q D fD⟩
 ·rw[aH (fun z=>absurd (ay e) (by rw[z];exact mh.mpr hD))];exact n
 ·rw[aH (aI e fD)];exact e
 ·rw[aH (aI e fD)];exact e
 ·rw[aH (aI e fD),e];simp
 ·by_cases hb:b=D
  ·subst hb
   rw[aC] at e
   cases e
   have at2:t.heap.get? b=some { cls:= .type "list",dict:=none,data:= .seq its.reverse.toArray c,slots:= #[] }:=by
    rw[at', <-qc (xs:=got),eg]
   exact⟨by rw[du];exact hz,its.reverse,c,bI.reverse rv,at2⟩
  ·rw[aH hb] at e
   refine(I2.hok b u e).stay (fun c' v hc' q'=>keep c' v ?_ q') (fun c' q'=>by rw[aH (aI q' fD)];exact q') fun c' xs q'=>by rw[aH (aI q' fD)];exact q'
   rcases hc' with z|z
   ·rw[z];exact neT b u e
   ·exact neT c' _ z
 ·have z:b=s1.heap.objs.size:=by simpa using hb
  subst z
  exact⟨f3,f1,f4,f5⟩
def bT4(i j:Int):Prop:=0<j/\j<2^250
theorem nF{X:Cx}:jC X (binaryOp .FloorDiv) (rI bT4 fun i j=> .int (i / j)):=opI fun i j _ _ _ _ _ hc q=>by
 obtain⟨h0,h1⟩:=hc
 refine floordiv_int (by lia) ?_ (.inl (ui ?_))
 ·rw[rn i (by lia)];exact q
 ·have h2:j.natAbs<2^250:=by
   have e:((j.natAbs:Nat):Int)=j:=Int.natAbs_of_nonneg (by lia)
   have:((j.natAbs:Nat):Int)<((2^250:Nat):Int):=by rw[e];exact_mod_cast h1
   exact Int.ofNat_lt.mp this
  have h3:j.natAbs≠0:=by lia
  have h4:j.natAbs.log2<250:=(Nat.log2_lt h3).mpr h2
  exact bx h4 (by decide)
def eJ(sd n:Int)(l:Addr):List (Key×V):=[(.inr "seed",.int sd),(.inr "number",.int n),(.inr "left",.ref l)]
theorem ksn:¬((Sum.inr ("seed": Str):Key)=Sum.inr ("number": Str)):=by decide
theorem ksl:¬((Sum.inr ("seed": Str):Key)=Sum.inr ("left": Str)):=by decide
theorem knl:¬((Sum.inr ("number": Str):Key)=Sum.inr ("left": Str)):=by decide
theorem kns:¬((Sum.inr ("number": Str):Key)=Sum.inr ("seed": Str)):=by decide
theorem kls:¬((Sum.inr ("left": Str):Key)=Sum.inr ("seed": Str)):=by decide
theorem kln:¬((Sum.inr ("left": Str):Key)=Sum.inr ("number": Str)):=by decide
theorem aI6(sd n:Int)(l:Addr):dP (eJ sd n l) (Sum.inr "seed": Key)=some (.int sd):=by unfold eJ;rw[cO rfl]
theorem wR(sd n:Int)(l:Addr):dP (eJ sd n l) (Sum.inr "number": Key)=some (.int n):=by unfold eJ;rw[bX ksn,cO rfl]
theorem aF6(sd n:Int)(l:Addr):dP (eJ sd n l) (Sum.inr "left": Key)=some (.ref l):=by unfold eJ;rw[bX ksl,bX knl,cO rfl]
theorem aW2(sd n v:Int)(l:Addr):dI (eJ sd n l) (Sum.inr "seed": Key) (.int v)=eJ v n l:=by
 unfold dI eJ
 simp
 exact⟨fun z=>absurd (dz Sum.inr z) kns,fun z=>absurd (dz Sum.inr z) kls⟩
theorem aA6(sd n v:Int)(l:Addr):dI (eJ sd n l) (Sum.inr "number": Key) (.int v)=eJ sd v l:=by
 unfold dI eJ
 simp
 exact⟨fun z=>absurd (dz Sum.inr z) ksn,fun z=>absurd (dz Sum.inr z) kln⟩
structure cE(H:Hp)(d l:Addr)(sd n:Int)(ls:List Int):Prop where
 dc:H d=some (.dK (eJ sd n l))
 lc:H l=some (.lst (ls.map V.int))
 s0:0<=sd
 s1:sd<2147483647
 n0:0<=n
 l0:∀x∈ls,0<=x
def dJ(H:Hp)(d l:Addr):Prop:=∃sd n ls,cE H d l sd n ls
theorem cE.ne{H:Hp}{d l:Addr}{sd n:Int}{ls:List Int}(D:cE H d l sd n ls):d≠l:=iM D.dc D.lc (by intro z;cases z)
def eW(d l:Addr)(H H':Hp):Prop:=∀b o,H b=some o->b≠d->b≠l->H' b=some o
theorem eW.refl{d l:Addr}(H:Hp):eW d l H H:=fun _ _ e _ _=>e
theorem eW.trans{d l:Addr}{H H1 H2:Hp}(a:eW d l H H1)(b:eW d l H1 H2):eW d l H H2:=fun c o e h1 h2=>b c o (a c o e h1 h2) h1 h2
theorem eW.of{d l:Addr}{H H':Hp}(s:bD H H'):eW d l H H':=fun c o e _ _=>s c o e
theorem eW.upd_d{d l:Addr}{H:Hp}{o:HO}:eW d l H (aN H d o):=fun b u e h1 _=>by rw[aH h1];exact e
theorem eW.upd_l{d l:Addr}{H:Hp}{o:HO}:eW d l H (aN H l o):=fun b u e _ h1=>by rw[aH h1];exact e
theorem aB{H:Hp}{p:Addr}(h:H p=none)(o:HO):bD H (aN H p o):=fun b u q=>by rw[aH (aI q h)];exact q
theorem cE.seed{H:Hp}{d l:Addr}{sd n:Int}{ls:List Int}(D:cE H d l sd n ls){v:Int}(h0:0<=v)(h1:v<2147483647):cE (aN H d (.dK (eJ v n l))) d l v n ls:=
 ⟨aC,by rw[aH D.ne.symm];exact D.lc,h0,h1,D.n0,D.l0⟩
theorem cE.number{H:Hp}{d l:Addr}{sd n:Int}{ls:List Int}(D:cE H d l sd n ls){v:Int}(h0:0<=v):cE (aN H d (.dK (eJ sd v l))) d l sd v ls:=
 ⟨aC,by rw[aH D.ne.symm];exact D.lc,D.s0,D.s1,h0,D.l0⟩
theorem cE.left{H:Hp}{d l:Addr}{sd n:Int}{ls ls':List Int}(D:cE H d l sd n ls)(h:∀x∈ls',0<=x):cE (aN H l (.lst (ls'.map V.int))) d l sd n ls':=
 ⟨by rw[aH D.ne];exact D.dc,aC,D.s0,D.s1,D.n0,h⟩
theorem cE.out{H H':Hp}{d l:Addr}{sd n:Int}{ls:List Int}(D:cE H d l sd n ls)(s:bD H H'):cE H' d l sd n ls:=⟨s _ _ D.dc,s _ _ D.lc,D.s0,D.s1,D.n0,D.l0⟩
theorem dJ.same{H H':Hp}{d l:Addr}(D:dJ H d l)(s:bD H H'):dJ H' d l:=by obtain⟨sd,n,ls,q⟩:=D;exact⟨sd,n,ls,q.out s⟩
theorem cE.gs{H:Hp}{d l:Addr}{sd n:Int}{ls:List Int}(D:cE H d l sd n ls):fK H d (.str "seed") (some (.int sd)):=by rw[<-aI6 sd n l];exact fK.k (k:=Sum.inr "seed") D.dc
theorem cE.gn{H:Hp}{d l:Addr}{sd n:Int}{ls:List Int}(D:cE H d l sd n ls):fK H d (.str "number") (some (.int n)):=by rw[<-wR sd n l];exact fK.k (k:=Sum.inr "number") D.dc
theorem cE.gl{H:Hp}{d l:Addr}{sd n:Int}{ls:List Int}(D:cE H d l sd n ls):fK H d (.str "left") (some (.ref l)):=by rw[<-aF6 sd n l];exact fK.k (k:=Sum.inr "left") D.dc
theorem cE.ps{H:Hp}{d l:Addr}{sd n:Int}{ls:List Int}(D:cE H d l sd n ls)(v:Int):gO H d (.str "seed") (.int v) (aN H d (.dK (eJ v n l))):=by
 rw[<-aW2 sd n v l];exact gO.k (k:=Sum.inr "seed") D.dc (aL (by show 3<=1000;decide))
theorem cE.pn{H:Hp}{d l:Addr}{sd n:Int}{ls:List Int}(D:cE H d l sd n ls)(v:Int):gO H d (.str "number") (.int v) (aN H d (.dK (eJ sd v l))):=by
 rw[<-aA6 sd n v l];exact gO.k (k:=Sum.inr "number") D.dc (aL (by show 3<=1000;decide))
inductive spDraw(vs:List V)(H:Hp)(Q:VK)(z1:XK):Prop
 |mk:∀(d l:Addr) (m:Int),(vs=[.ref d,.int m])->(dJ H d l)->(0<m)->(m<2^64)->(∀(r:Int) (H':Hp),0<=r->r<m->dJ H' d l->eW d l H H'->Q (.int r) H')->spDraw vs H Q z1
inductive yD(K:PySem.W.Frag)(vs:List V)(H:Hp)(Q:VK)(z1:XK):Prop
 |mk:∀(a:Addr) (ns:List Int) (b:Int),(vs=[.ref a,.int b])->(bK K H a (ns.map V.int))->(ns.length<=63)->(0<=b)->(b<=1000)->(∀(d l:Addr) (H':Hp),H d=none->H l=none->dJ H' d l->bD H H'->Q (.ref d) H')->yD K vs H Q z1
theorem vI{ns:List Int}{i:Nat}{y:V}(h:(ns.map V.int)[i]?=some y):∃z,y=V.int z/\ns[i]?=some z:=by
 rw[cq] at h
 cases e:ns[i]? with
 |none=>rw[e] at h;cases h
 |some z=>rw[e] at h;exact⟨z,(dg h).symm,rfl⟩
mutual
def aZ8(K:PySem.W.Frag)(H:Hp):PyData->V->Prop
 |.none,v=>v= .non
 |.bool b,v=>v= .bl b
 |.int i,v=>v= .int i
 |.str x,v=>v= .str x
 |.tuple ds,v=>∃a vs,v= .ref a/\aR K H a vs/\xM K H ds vs
 |.list ds,v=>∃a vs,v= .ref a/\bK K H a vs/\xM K H ds vs
 |.dict _,_=>False
def xM(K:PySem.W.Frag)(H:Hp):List PyData->List V->Prop
 |[],vs=>vs=[]
 |d::ds,vs=>∃v r,vs=v::r/\aZ8 K H d v/\xM K H ds r
end
section
variable {X:Cx}{pins:List (Addr×Obj)}{σ:St}{H:Hp}{s:Shared}
mutual
theorem aZ8.reads(I:aU X pins σ H s):∀(d:PyData) (v:V) (u:Value),aZ8 X.K H d v->bJ v u->∃as,Reads s.heap u d as
 |.none,v,u,h,r=>by
  have h:v= .non:=h
  subst h;cases r;exact⟨_,.none⟩
 |.bool b,v,u,h,r=>by
  have h:v= .bl b:=h
  subst h;cases r;exact⟨_,.bool b⟩
 |.int i,v,u,h,r=>by
  have h:v= .int i:=h
  subst h;obtain⟨t,rfl⟩:=r;exact⟨_,.int i t⟩
 |.str x,v,u,h,r=>by
  have h:v= .str x:=h
  subst h;obtain⟨t,rfl⟩:=r;exact⟨_,.str x t⟩
 |.tuple ds,v,u,h,r=>by
  obtain⟨a,vs,rfl,hs,hl⟩:=h
  cases r
  obtain⟨its,rv,⟨o,ho,hc,n,hd⟩,_⟩:=I.tuple hs
  obtain⟨as,ra⟩:=xM.reads I ds vs its hl rv
  exact⟨_,.tuple ho hc hd (by simpa using ra)⟩
 |.list ds,v,u,h,r=>by
  obtain⟨a,vs,rfl,hs,hl⟩:=h
  cases r
  obtain⟨its,rv,pl,_⟩:=I.list hs
  obtain⟨o,ho,hc,n,hd⟩:=pl.isList
  obtain⟨as,ra⟩:=xM.reads I ds vs its hl rv
  exact⟨_,.list ho hc hd (by simpa using ra)⟩
 |.dict _,v,u,h,r=>h.elim
theorem xM.reads(I:aU X pins σ H s):∀(ds:List PyData) (vs:List V) (us:List Value),xM X.K H ds vs->bI vs us->∃as,ReadsAll s.heap us ds as
 |[],vs,us,h,r=>by
  have h:vs=[]:=h
  subst h;cases r;exact⟨_,.nil⟩
 |d::ds,vs,us,h,r=>by
  obtain⟨v,t,rfl,hd,ht⟩:=h
  cases r with
  |cons r1 r2 =>
   obtain⟨as,ra⟩:=aZ8.reads I d v _ hd r1
   obtain⟨bs,rb⟩:=xM.reads I ds t _ ht r2
   exact⟨_,.cons ra rb⟩
end
end
section
variable {X:Cx}
theorem gF:eA X (.builtin "isinstance") (fun xs H Q=>∃x n t b,xs=[x,.ty n]/\nV X.K H x t/\PySem.W.kitOne X.K t (.type n)=some b/\Q (.bl b) H):=by
 intro pins s σ H xs us Q I r h
 obtain⟨x,n,t,b,rfl,ty,e,q⟩:=h
 obtain⟨u,w',rfl,ru,rw'⟩:=pS r
 cases rw'
 exact aI3 I ru ty e fun tk=>⟨.bl b,H,I.tok tk,rfl,q⟩
theorem nI(hc:autoParam (X.calm=true) Rq0._auto_1):eA X (.builtin "all") (fun xs H Q=>∃(p:Addr) (bs:List Bool),xs=[.ref p]/\bK X.K H p (bs.map V.bl)/\Q (.bl (bs.all id)) H):=by
 intro pins s σ H xs us Q I r h
 obtain⟨p,bs,rfl,hq,q⟩:=h
 obtain⟨u,rfl,ru⟩:=gN r
 cases ru
 obtain⟨its,rv,pl,hz⟩:=I.list hq
 have lp:p<s.heap.objs.size:=by
  obtain⟨o,e,_⟩:=pl.isList
  exact ay e
 refine call_all_walk (lm pl.isList ⟨s.heap.objs.size,_,_,_,_,_,fun i=>bs.getD i true,rfl,zq (A:=X.A.in1) (I.ok.hd hc) s.heap.objs.size p (bw lp) its.toArray,⟨⟨_,bb _ rfl,rfl,rfl⟩,pl.isList.at fun o e=>ae _ e⟩,?_,?_⟩)
 ·intro i v s1 Q1 E1 hv hq1
  have hi:its[i]?=some v:=by simpa using hv
  have hl:=rv.length
  rw[ac] at hl
  have hb:i<bs.length:=by
   have:=(bf.mp hi).1
   lia
  obtain⟨u,hu,ru⟩:=rv.get (i:=i) (x:=V.bl bs[i]) (by rw[cq,bc hb];rfl)
  rw[hi] at hu
  cases hu
  cases ru
  have e:bs.getD i true=bs[i]:=by simp[List.getD,hb]
  dsimp only at hq1
  rw[e] at hq1
  exact fe hq1
 ·intro h' tk hk
  have kept:∀b o,s.heap.get? b=some o->h'.get? b=some o:=fun b o e=>hk b o (by
   intro z
   have z:b=s.heap.objs.size:=by simpa using z
   exact absurd (ay e) (by rw[z];exact fw _)) (ae _ e)
  refine⟨.bl (bs.all id),H,I.kept kept,?_,q⟩
  show Value.bool _=Value.bool _
  have hl:=rv.length
  rw[ac] at hl
  have e:((List.range its.toArray.size).all fun i=>bs.getD i true)=bs.all id:=by
   rw[bn, <-hl]
   clear q hq rv pl hk hz hl
   rw[ii,ko,ko]
   constructor
   ·intro h b hb
    obtain⟨i,hi,e⟩:=qt hb
    have:=h i (je.mpr hi)
    simp[List.getD,hi] at this
    rw[<-e];exact this
   ·intro h i hi
    have hi:=je.mp hi
    simp[List.getD,hi]
    exact h _ (uj hi)
  rw[e]
end
section
variable {X:Cx}(K:PySem.W.Frag)
theorem pC(hK:autoParam (X.K=K) Rq0._auto_1):IxR X (bP6 K):=by subst hK;exact aJ
theorem inK(hK:autoParam (X.K=K) Rq0._auto_1):jC X (compareOp .In) (rIn K false):=by subst hK;exact dW
theorem bV6(hK:autoParam (X.K=K) Rq0._auto_1):jC X (compareOp .NotIn) (rIn K true):=by subst hK;exact jI
end
theorem bH{c A B:Prop}[Decidable c](hc:c)(h:A):if c then A else B:=by rw[bg hc];exact h
theorem aV{c A B:Prop}[Decidable c](hc:¬c)(h:B):if c then A else B:=by rw[av hc];exact h
theorem jB{α:Type}(v:α)(r:List α):nO (v::r) 0=some v:=by
 have h:(0:Int)<((v::r).length:Int):=by simp
 unfold nO ixN
 rw[bg (by decide),bg h]
 rfl
section
variable {X:Cx}
theorem aX2(hc:autoParam (X.calm=true) Rq0._auto_1):eA X (.builtin "any") (fun xs H Q=>∃(p:Addr) (bs:List Bool),xs=[.ref p]/\bK X.K H p (bs.map V.bl)/\Q (.bl (bs.any id)) H):=by
 intro pins s σ H xs us Q I r h
 obtain⟨p,bs,rfl,hq,q⟩:=h
 obtain⟨u,rfl,ru⟩:=gN r
 cases ru
 obtain⟨its,rv,pl,hz⟩:=I.list hq
 have lp:p<s.heap.objs.size:=by
  obtain⟨o,e,_⟩:=pl.isList
  exact ay e
 refine call_any_walk (lm pl.isList ⟨s.heap.objs.size,_,_,_,_,_,fun i=>bs.getD i false,rfl,zq (A:=X.A.in1) (I.ok.hd hc) s.heap.objs.size p (bw lp) its.toArray,⟨⟨_,bb _ rfl,rfl,rfl⟩,pl.isList.at fun o e=>ae _ e⟩,?_,?_⟩)
 ·intro i v s1 Q1 E1 hv hq1
  have hi:its[i]?=some v:=by simpa using hv
  have hl:=rv.length
  rw[ac] at hl
  have hb:i<bs.length:=by
   have:=(bf.mp hi).1
   lia
  obtain⟨u,hu,ru⟩:=rv.get (i:=i) (x:=V.bl bs[i]) (by rw[cq,bc hb];rfl)
  rw[hi] at hu
  cases hu
  cases ru
  have e:bs.getD i false=bs[i]:=by simp[List.getD,hb]
  dsimp only at hq1
  rw[e] at hq1
  exact fe hq1
 ·intro h' tk hk
  have kept:∀b o,s.heap.get? b=some o->h'.get? b=some o:=fun b o e=>hk b o (by
   intro z
   have z:b=s.heap.objs.size:=by simpa using z
   exact absurd (ay e) (by rw[z];exact fw _)) (ae _ e)
  refine⟨.bl (bs.any id),H,I.kept kept,?_,q⟩
  show Value.bool _=Value.bool _
  have hl:=rv.length
  rw[ac] at hl
  have e:((List.range its.toArray.size).any fun i=>bs.getD i false)=bs.any id:=by
   rw[bn, <-hl]
   clear q hq rv pl hk hz hl
   rw[ii,jc,jc]
   constructor
   ·rintro⟨i,hi,h⟩
    have hi:=je.mp hi
    simp[List.getD,hi] at h
    exact⟨_,uj hi,h⟩
   ·rintro⟨b,hb,h⟩
    obtain⟨i,hi,e⟩:=qt hb
    refine⟨i,je.mpr hi,?_⟩
    simp[List.getD,hi]
    rw[e];exact h
  rw[e]
theorem bH5{es:List Expr}{k:Nat}{t:TGs}{n:Nat}{pos:Pos}(K:PySem.W.Frag)(hc:X.calm=true)(h:PGs X es t)(hK:autoParam (X.K=K) Rq0._auto_1)
  (hn:autoParam ((assignEach es X.env).length=n) Rq0._auto_1) (hst:autoParam ((assignEach es X.env).findIdx? (·.1)=none) Rq0._auto_1):PG X (.Tuple es k pos) (bJ5 K n t):=by subst hK;exact iO hc h hn hst
end
section
variable {X:Cx}{pins:List (Addr×Obj)}{σ:St}{H:Hp}{s:Shared}{h':Heap}
theorem aU.turnedNew{T:Addr}{o:HO}{rs:List Addr}{t':Nat}(I:aU X pins σ H s)(hf:∀b∈rs,lJ X pins H b)(k:∀b u,b∉rs->s.heap.get? b=some u->h'.get? b=some u)
  (hp:s.heap.objs.size<=T) (new:bU X.prog X.w (aN H T o) h' T o):aU X pins σ (aN H T o) { s with heap:=h',toks:=t' }:=by
 have fT:H T=none:=I.hok.fresh hp
 have nT:∀b u,s.heap.get? b=some u->b≠T:=fun b u e z=>absurd (ay e) (by rw[z];exact mh.mpr hp)
 have nrs:∀b u,H b=some u->b∉rs:=fun b u e z=>by rw[(hf b z).1] at e;cases e
 refine I.step (g':=s.gens) (d':=s.drawn) (ch:=rs) (fun b hb=>⟨(hf b hb).2.2.2.1,(hf b hb).2.1,(hf b hb).2.2.2.2.1,(hf b hb).2.2.2.2.2⟩) (fun b u _ _ hc e _=>k b u hc e) (fun b u _ _ hc e _=>⟨u.slots,k b u hc e⟩)
  (fun b u _ e n=>by rw[aH (nT b u e)];exact n) (fun b u hc e=>⟨u,k b u hc e⟩) (fun b xs e=>by rw[aH (aI e fT)];exact e) (fun b u v e=>by rw[aH (aI e fT)];exact e)
  (fun b ps e=>⟨#[],by rw[aH (aI e fT),e];simp⟩) (fun m hm=>?_) (fun b u e=>?_) I.bare
 ·obtain⟨u,es,ep,hu,r⟩:=hm
  exact⟨u,es,ep,k _ u (fun z=>(hf _ z).2.1 rfl) hu,r⟩
 ·by_cases hb:b=T
  ·subst hb
   rw[aC] at e
   cases e
   exact new
  ·rw[aH hb] at e
   refine(I.hok b u e).stay (fun c v hc q=>k c v ?_ q) (fun c q=>by rw[aH (aI q fT)];exact q) fun c xs q=>by rw[aH (aI q fT)];exact q
   rcases hc with z|z
   ·rw[z];exact nrs b u e
   ·exact nrs c _ z
theorem aU.turnedL{rs:List Addr}{t':Nat}(I:aU X pins σ H s)(hf:∀b∈rs,lJ X pins H b)(k:∀b u,b∉rs->s.heap.get? b=some u->h'.get? b=some u):aU X pins σ H { s with heap:=h',toks:=t' }:=by
 have nrs:∀b u,H b=some u->b∉rs:=fun b u e z=>by rw[(hf b z).1] at e;cases e
 refine I.step (g':=s.gens) (d':=s.drawn) (ch:=rs) (fun b hb=>⟨(hf b hb).2.2.2.1,(hf b hb).2.1,(hf b hb).2.2.2.2.1,(hf b hb).2.2.2.2.2⟩) (fun b u _ _ hc e _=>k b u hc e) (fun b u _ _ hc e _=>⟨u.slots,k b u hc e⟩)
  (fun b u _ _ n=>n) (fun b u hc e=>⟨u,k b u hc e⟩) (fun b xs e=>e) (fun b u v e=>e) (fun b ps e=>⟨#[],by rw[e];simp⟩) (fun m hm=>?_) (fun b u e=>?_) I.bare
 ·obtain⟨u,es,ep,hu,r⟩:=hm
  exact⟨u,es,ep,k _ u (fun z=>(hf _ z).2.1 rfl) hu,r⟩
 ·refine(I.hok b u e).stay (fun c v hc q=>k c v ?_ q) (fun c q=>q) fun c xs q=>q
  rcases hc with z|z
  ·rw[z];exact nrs b u e
  ·exact nrs c _ z
end
section
variable {prog:Program}{w:World}{A:Around}{E:Value->Shared->Prop}{s:Shared}
theorem aX3{J t:Addr}{i:Nat}{its:Array Value}{v:Value}{Q:Value->Shared->Prop}(a1:s.heap.IsTupleIter J t i)(a2:s.heap.IsTuple t its)(a3:its[i]?=some v)
  (k:∀g,g.IsTupleIter J t (i+1)->Heap.SameBut J s.heap g->Q v { s with heap:=g }):wpAny (model prog w) A (Builtin.SmallTypes.nextOf (.ref J)) Q E s:=by
 obtain⟨oJ,e1,e2,e3⟩:=id a1
 obtain⟨oT,e4,_,m,e5⟩:=a2
 unfold Builtin.SmallTypes.nextOf
 refine aa (ie (name:=Str.ofString "__next__") a1.typeIs jz (io jz a1.typeIs qz ?_ (qu _)))
 show wpAny _ _ (field (.ref J) 0>>=_) _ _ s
 refine aa (fi e1 e3 (x:= .ref t) rfl ?_)
 refine(show wpAny _ _ (if (Value.ref t==Value.none)=true then _ else _) _ _ s from ?_)
 rw[av (show ¬((Value.ref t==Value.none)=true) by exact bj)]
 show wpAny _ _ (field (.ref J) 1>>=_) _ _ s
 refine aa (fi e1 e3 (x:= .int i 0) rfl ?_)
 refine(show wpAny _ _ (seqItems? (.ref t)>>=_) _ _ s from aa (jg e4 e5 ?_))
 simp only[Int.toNat_natCast,a3]
 refine aa (lu e1 e3 (by simp) (aj ⟨v,rfl,aj (k _ ?_ (kr ..))⟩))
 exact⟨_,ik _ e1 (ju (ib e3 _)),(sr ..).trans e2,by rw[ib e3];simp[rawInt]⟩
theorem yU{J t:Addr}{i:Nat}{its:Array Value}{Q:Value->Shared->Prop}(hh:A.handled=none)(a1:s.heap.IsTupleIter J t i)(a2:s.heap.IsTuple t its)(a3:its[i]?=none)
  (k:∀g e,Heap.ExtBut J s.heap g->(∃o,g.get? e=some o/\o.cls= .type "StopIteration")->E (.ref e) { s with heap:=g }):wpAny (model prog w) A (Builtin.SmallTypes.nextOf (.ref J)) Q E s:=by
 obtain⟨oJ,e1,e2,e3⟩:=id a1
 obtain⟨oT,e4,_,m,e5⟩:=a2
 unfold Builtin.SmallTypes.nextOf
 refine aa (ie (name:=Str.ofString "__next__") a1.typeIs jz (io jz a1.typeIs qz ?_ (qu _)))
 show wpAny _ _ (field (.ref J) 0>>=_) _ _ s
 refine aa (fi e1 e3 (x:= .ref t) rfl ?_)
 refine(show wpAny _ _ (if (Value.ref t==Value.none)=true then _ else _) _ _ s from ?_)
 rw[av (show ¬((Value.ref t==Value.none)=true) by exact bj)]
 show wpAny _ _ (field (.ref J) 1>>=_) _ _ s
 refine aa (fi e1 e3 (x:= .int i 0) rfl ?_)
 refine(show wpAny _ _ (seqItems? (.ref t)>>=_) _ _ s from aa (jg e4 e5 ?_))
 simp only[Int.toNat_natCast,a3]
 refine aa (nz (aa (lu e1 e3 (by simp) ?_)))
 refine(show wpAny _ _ (newExc (.type "StopIteration") []>>=_) _ _ _ from aa ?_)
 simp only[newExc,newTuple]
 refine aa (fg ?_ (by size_fits))
 refine aa (m:=firstArgMember _ _) (ze (a:=Value.none) (by first|exact rfl|(simp only[firstArgMember];rfl)) ?_)
 refine fg ?_ (by size_fits)
 simp only[raiseNew]
 refine aa (wpAny_handled ?_)
 first|rw[hh]|rw[show A.in1.handled=none from hh]
 refine aa (aj (wpAny_throw ?_))
 exact k _ _ (((kr ..).extBut.push _).push _) ⟨_,bb _ rfl,rfl⟩
structure aD2(g:Heap)(n l1 l2:Addr)(i:Nat):Prop where
 z:IsZip g (n+4) (n+2) (n+3) .none
 I:IsPair g (n+2) (.ref n) (.ref (n+1))
 O:∃a b,IsPair g (n+3) a b
 i1:g.IsTupleIter n l1 i
 i2:g.IsTupleIter (n+1) l2 i
theorem aX1{n l1 l2:Addr}{i:Nat}{xs ys:Array Value}{x y:Value}{Q:Option Value->Shared->Prop}(o1:∀j,j<5->l1≠n+j)(o2:∀j,j<5->l2≠n+j)(Z:aD2 s.heap n l1 l2 i)
  (t1:s.heap.IsTuple l1 xs) (t2:s.heap.IsTuple l2 ys) (ex:xs[i]?=some x) (ey:ys[i]?=some y)
  (k:∀g,IsZip g (n+4) (n+2) (n+3) (rawInt s.heap.objs.size)->IsPair g (n+3) x y->g.IsTupleIter n l1 (i+1)->g.IsTupleIter (n+1) l2 (i+1)->IsPair g s.heap.objs.size x y ->
   (∀c o,c≠n+4->c≠n+3->c≠n->c≠n+1->s.heap.get? c=some o->g.get? c=some o)->Q (some (.ref s.heap.objs.size)) { s with heap:=g }) :
  wpAny (model prog w) A (pyNext (.ref (n+4))) Q E s:=by
 obtain⟨hz,hI,⟨a,b,hO⟩,h1,h2⟩:=Z
 have d0:n≠n+4/\n+1≠n+4/\n+2≠n+4/\n+3≠n+4/\n+3≠n/\n+3≠n+1/\n+1≠n:=by refine⟨?_,?_,?_,?_,?_,?_,?_⟩<;>(intro z;exact absurd z (by simp))
 obtain⟨d1,d2,d3,d4,d5,d6,d7⟩:=d0
 have l10:=o1 0 (by decide);have l11:=o1 1 (by decide);have l13:=o1 3 (by decide);have l14:=o1 4 (by decide)
 have l20:=o2 0 (by decide);have l21:=o2 1 (by decide);have l23:=o2 3 (by decide);have l24:=o2 4 (by decide)
 have hT:s.TypeIs (.ref (n+4)) "zip":=⟨_,hz,rfl⟩
 unfold pyNext
 refine aa (mo (ie (name:=Str.ofString "__next__") hT qd (io qd hT zf ?_ (yt _))))
 refine(show wpAny _ _ (field (.ref (n+4)) 2>>=_) _ _ _ from aa (fi hz rfl (x:= .bool false) rfl ?_))
 refine(show wpAny _ _ (field (.ref (n+4)) 3>>=_) _ _ _ from aa (fi hz rfl (x:= .ref (n+2)) rfl ?_))
 refine aa (jg hI rfl ?_)
 refine(show wpAny _ _ (Builtin.SmallTypes.ownedTupleIsFree (.ref (n+4))>>=_) _ _ _ from aa ?_)
 unfold Builtin.SmallTypes.ownedTupleIsFree
 refine aa (fi hz rfl (x:= .none) rfl (aj ?_))
 simp only[if_true]
 refine aa (nz (aa (fi hz rfl (x:= .ref (n+3)) rfl (aa (kx hz (by simp) fun g1 z1 s1=>?_)))))
 have z1:IsZip g1 (n+4) (n+2) (n+3) .ellipsis:=z1
 refine aa ?_
 simp only[List.zipIdx_cons,List.zipIdx_nil,List.forIn_cons,List.forIn_nil]
 refine aa (aa (se (show wpAny _ _ (Builtin.SmallTypes.nextOf (.ref n)>>=_) _ _ _ from aa (aX3 (h1.at fun o e=>s1.extBut _ _ d1 e) (t1.at fun o e=>s1.extBut _ _ l14 e) ex fun g2 j2 s2=>aj ?_))))
 have O2:IsPair g2 (n+3) a b:=s2.extBut _ _ d5 (s1.extBut _ _ d4 hO)
 refine aa (jg O2 rfl (aa (wq O2 fun g3 O3 s3=>?_)))
 have O3:IsPair g3 (n+3) x b:=O3
 refine aa (zd (aj ?_))
 refine aa (aa (se (show wpAny _ _ (Builtin.SmallTypes.nextOf (.ref (n+1))>>=_) _ _ _ from aa (aX3 (h2.at fun o e=>s3.extBut _ _ d6.symm (s2.extBut _ _ d7 (s1.extBut _ _ d2 e))) (t2.at fun o e=>s3.extBut _ _ l23 (s2.extBut _ _ l20 (s1.extBut _ _ l24 e))) ey fun g4 j4 s4=>aj ?_))))
 have O4:IsPair g4 (n+3) x b:=s4.extBut _ _ d6 O3
 refine aa (jg O4 rfl (aa (wq O4 fun g5 O5 s5=>?_)))
 have O5:IsPair g5 (n+3) x y:=O5
 refine aa (zd (aj (aj ?_)))
 refine aa (jg O5 rfl (aa (wpAny_newTuple ?_)))
 have sz:g5.objs.size=s.heap.objs.size:=by rw[s5.1,s4.1,s3.1,s2.1,s1.1]
 have z5:IsZip g5 (n+4) (n+2) (n+3) .ellipsis:=s5.extBut _ _ d4.symm (s4.extBut _ _ d2.symm (s3.extBut _ _ d4.symm (s2.extBut _ _ d1.symm z1)))
 have k5:∀c o,c≠n+4->c≠n+3->c≠n->c≠n+1->s.heap.get? c=some o->g5.get? c=some o:=fun c o c1 c2 c3 c4 e=>s5.extBut _ _ c2 (s4.extBut _ _ c4 (s3.extBut _ _ c2 (s2.extBut _ _ c3 (s1.extBut _ _ c1 e))))
 have j5:g5.IsTupleIter n l1 (i+1):=j2.at fun o e=>s5.extBut _ _ d5.symm (s4.extBut _ _ d7.symm (s3.extBut _ _ d5.symm e))
 have m5:g5.IsTupleIter (n+1) l2 (i+1):=j4.at fun o e=>s5.extBut _ _ d6.symm e
 have zlt:n+4<g5.objs.size:=ay z5
 refine(show wpAny _ _ (Builtin.SmallTypes.ownedTupleHandOut (.ref (n+4)) (.ref g5.objs.size)>>=_) _ _ _ from aa ?_)
 unfold Builtin.SmallTypes.ownedTupleHandOut
 have z6:IsZip (g5.push { cls:= .type "tuple",data:= .seq #[x,y] }) (n+4) (n+2) (n+3) .ellipsis:=ae _ z5
 refine aa (kx z6 (by simp) fun g7 z7 s7=>?_)
 have z7:IsZip g7 (n+4) (n+2) (n+3) (rawInt g5.objs.size):=z7
 refine kx z7 (by simp) fun g8 z8 s8=>?_
 have z8:IsZip g8 (n+4) (n+2) (n+3) (rawInt g5.objs.size):=z8
 have up:∀c o,c≠n+4->g5.get? c=some o->g8.get? c=some o:=fun c o c1 e=>s8.extBut _ _ c1 (s7.extBut _ _ c1 (ae _ e))
 have T8:IsPair g8 g5.objs.size x y:=s8.extBut _ _ (jp zlt) (s7.extBut _ _ (jp zlt) (bb _ rfl))
 rw[sz] at z8 T8
 refine aj ⟨_,rfl,aj ?_⟩
 refine(show Q (some (.ref g5.objs.size)) _ from ?_)
 rw[sz]
 exact k g8 z8 (up _ _ d4 O5) (j5.at fun o e=>up _ o d1 e) (m5.at fun o e=>up _ o d2 e) T8 fun c o c1 c2 c3 c4 e=>up c o c1 (k5 c o c1 c2 c3 c4 e)
theorem aN8{n l1 l2:Addr}{i:Nat}{xs:Array Value}{Q:Option Value->Shared->Prop}(hh:A.handled=none)(o1:∀j,j<5->l1≠n+j)(Z:aD2 s.heap n l1 l2 i)
  (t1:s.heap.IsTuple l1 xs) (ex:xs[i]?=none)
  (k:∀g,(∀c o,c≠n+4->c≠n->s.heap.get? c=some o->g.get? c=some o)->Q none { s with heap:=g }):wpAny (model prog w) A (pyNext (.ref (n+4))) Q E s:=by
 obtain⟨hz,hI,⟨a,b,hO⟩,h1,h2⟩:=Z
 have d1:n≠n+4:=by intro z;exact absurd z (by simp)
 have l14:=o1 4 (by decide)
 have hT:s.TypeIs (.ref (n+4)) "zip":=⟨_,hz,rfl⟩
 unfold pyNext
 refine aa (mo (ie (name:=Str.ofString "__next__") hT qd (io qd hT zf ?_ (yt _))))
 refine(show wpAny _ _ (field (.ref (n+4)) 2>>=_) _ _ _ from aa (fi hz rfl (x:= .bool false) rfl ?_))
 refine(show wpAny _ _ (field (.ref (n+4)) 3>>=_) _ _ _ from aa (fi hz rfl (x:= .ref (n+2)) rfl ?_))
 refine aa (jg hI rfl ?_)
 refine(show wpAny _ _ (Builtin.SmallTypes.ownedTupleIsFree (.ref (n+4))>>=_) _ _ _ from aa ?_)
 unfold Builtin.SmallTypes.ownedTupleIsFree
 refine aa (fi hz rfl (x:= .none) rfl (aj ?_))
 simp only[if_true]
 refine aa (nz (aa (fi hz rfl (x:= .ref (n+3)) rfl (aa (kx hz (by simp) fun g1 z1 s1=>?_)))))
 have z1:IsZip g1 (n+4) (n+2) (n+3) .ellipsis:=z1
 refine aa ?_
 simp only[List.zipIdx_cons,List.zipIdx_nil,List.forIn_cons,List.forIn_nil]
 refine aa (aa (se (show wpAny _ _ (Builtin.SmallTypes.nextOf (.ref n)>>=_) _ _ _ from aa (yU hh (h1.at fun o e=>s1.extBut _ _ d1 e) (t1.at fun o e=>s1.extBut _ _ l14 e) ex fun g2 e s2 he=>?_))))
 obtain⟨oe,hoe,hce⟩:=he
 have z2:IsZip g2 (n+4) (n+2) (n+3) .ellipsis:=s2 _ _ d1.symm z1
 have ez:e≠n+4:=fun q=>by subst q;rw[z2] at hoe;cases hoe;simp at hce
 refine kx z2 (by simp) fun g3 _ s3=>?_
 refine aa (uh (T:="StopIteration") (b:=true) ⟨oe,s3.extBut _ _ ez hoe,hce⟩ isSubtype_stop ?_)
 exact aj (k _ fun c o c1 c2 q=>s3.extBut _ _ c1 (s2 _ _ c2 (s1.extBut _ _ c1 q)))
end
abbrev zA(g:Heap)(l1:Addr):Heap:=g.push { cls:= .type "tuple_iterator",data:= .fields #[.ref l1,.int 0 0] }
abbrev zB(g:Heap)(l1 l2:Addr):Heap:=(zA g l1).push { cls:= .type "tuple_iterator",data:= .fields #[.ref l2,.int 0 0] }
abbrev zC(g:Heap)(l1 l2:Addr):Heap:=(zB g l1 l2).push { cls:= .type "tuple",data:= .seq #[.ref g.objs.size,.ref (zA g l1).objs.size] }
abbrev zD(g:Heap)(l1 l2:Addr):Heap:=(zC g l1 l2).push { cls:= .type "tuple",data:= .seq #[.none,.none] }
abbrev zE(g:Heap)(l1 l2:Addr):Heap:=(zD g l1 l2).push { cls:= .type "zip",data:= .fields #[.none,.bool false,.bool false,.ref (zB g l1 l2).objs.size,.ref (zC g l1 l2).objs.size] }
theorem bC3(l1 l2:Addr)(xs ys:Array Value):Meets (Builtin.«zip.__new__» ⟨[.type "zip",.ref l1,.ref l2],[]⟩) (fun _ R s=>s.heap.IsTuple l1 xs/\s.heap.IsTuple l2 ys /\
   R (.ok (.ret (.ref (zD s.heap l1 l2).objs.size))) { s with heap:=zE s.heap l1 l2 }):=
 .of_wp fun prog w A R s h=>by
  obtain⟨q,g,d,tk,os⟩:=s;obtain⟨t1,t2,h⟩:=h
  have hS:=PySem.sub_zip
  have T1:Heap.IsTuple (Shared.heap ⟨q,g,d,tk,os⟩) l1 xs:=t1
  have T2:Heap.IsTuple (Shared.heap ⟨q.push { cls:= .type "tuple_iterator",data:= .fields #[.ref l1,.int 0 0] },g,d,tk,os⟩) l2 ys:=t2.at fun o e=>ae _ e
  wp_walk using nj T1,nj T2
  exact⟨_,rfl,h⟩
section
variable {prog:Program}{w:World}{A:Around}{E:Value->Shared->Prop}{s:Shared}
theorem aJ3{l1 l2:Addr}{xs ys:Array Value}{Q:Value->Shared->Prop}(t1:s.heap.IsTuple l1 xs)(t2:s.heap.IsTuple l2 ys)
  (k:∀g,aD2 g s.heap.objs.size l1 l2 0->(∀c o,s.heap.get? c=some o->g.get? c=some o)->Q (.ref (s.heap.objs.size+4)) { s with heap:=g }) :
  wpAny (model prog w) A (call (.type "zip") [.ref l1,.ref l2]) Q E s:=by
 refine callType_new F.called_zip (by decide) (F.typeCall_zip_2 _ _) (F.newCall_zip_2 _ _) (fun obj=>F.args_object_init_3 obj _ _) F.entry_zip_new (bC3 l1 l2 xs ys) ⟨t1,t2,?_⟩
 have n1:(zA s.heap l1).objs.size=s.heap.objs.size+1:=by rw[kj]
 have n2:(zB s.heap l1 l2).objs.size=s.heap.objs.size+2:=by rw[kj,n1]
 have n3:(zC s.heap l1 l2).objs.size=s.heap.objs.size+3:=by rw[kj,n2]
 have n4:(zD s.heap l1 l2).objs.size=s.heap.objs.size+4:=by rw[kj,n3]
 have b5:(zE s.heap l1 l2).get? (zD s.heap l1 l2).objs.size=some _:=bb _ rfl
 have b4:(zE s.heap l1 l2).get? (zC s.heap l1 l2).objs.size=some _:=ae _ (bb _ rfl)
 have b3:(zE s.heap l1 l2).get? (zB s.heap l1 l2).objs.size=some _:=ae _ (ae _ (bb _ rfl))
 have b2:(zE s.heap l1 l2).get? (zA s.heap l1).objs.size=some _:=ae _ (ae _ (ae _ (bb _ rfl)))
 have b1:(zE s.heap l1 l2).get? s.heap.objs.size=some _:=ae _ (ae _ (ae _ (ae _ (bb _ rfl))))
 show _/\_
 rw[n2,n3,n4] at b5
 rw[n1,n2] at b3
 rw[n3] at b4
 rw[n1] at b2
 rw[n4]
 exact⟨⟨_,b5,rfl⟩,k _ ⟨b5,b3,⟨_,_,b4⟩,⟨_,b1,rfl,rfl⟩,⟨_,b2,rfl,rfl⟩⟩ fun c o q=>ae _ (ae _ (ae _ (ae _ (ae _ q))))⟩
end
def Itz(K : PySem.W.Frag)(a b : Addr) : It:=
  ⟨fun i H => ∃xs ys,aR K H a xs /\ aR K H b ys /\ xs.length = ys.length /\ i<xs.length,
   fun i H x H' => ∃t,H t = none /\ x = .ref t /\ ∀xs ys,aR K H a xs -> aR K H b ys -> ∃u v,xs[i]? = some u /\ ys[i]? = some v /\ H' = aN H t (.tup [u,v]),
   fun i H => ∃xs,aR K H a xs /\ xs.length <= i⟩
theorem aY3{P:Program}{w:World}{K:PySem.W.Frag}{elts:List Expr}{x1:Nat}{pos:Pos}(a b n:Addr)(ha:a<n)(hb:b<n) :
  uO P w K (.Tuple elts x1 pos) (Itz K a b) [n,n+1,n+2,n+3,n+4] (n+4) (fun i h=>aD2 h n a b i) where
 mem:=by simp
 obj:=fun i h Z c hc=>by
  obtain⟨hz,hI,⟨u,v,hO⟩,⟨o1,e1,c1,d1⟩,⟨o2,e2,c2,d2⟩⟩:=Z
  simp only[List.mem_cons,List.not_mem_nil,or_false] at hc
  rcases hc with rfl|rfl|rfl|rfl|rfl
  ·exact⟨_,e1,fun v z=>by rw[d1] at z;cases z⟩
  ·exact⟨_,e2,fun v z=>by rw[d2] at z;cases z⟩
  ·exact⟨_,hI,fun v z=>by cases z⟩
  ·exact⟨_,hO,fun v z=>by cases z⟩
  ·exact⟨_,hz,fun v z=>by cases z⟩
 keep:=fun i h h' Z k=>⟨k _ (by simp) _ Z.z,k _ (by simp) _ Z.I,let⟨u,v,q⟩:=Z.O;⟨u,v,k _ (by simp) _ q⟩,Z.i1.at fun o e=>k _ (by simp) o e,Z.i2.at fun o e=>k _ (by simp) o e⟩
 item:=by
  intro X hP hw hK hc i pins s σ H E I hf Z hg
  subst hP hw hK
  obtain⟨xs,ys,q1,q2,hl,hi⟩:=hg
  obtain⟨is1,r1,p1,_⟩:=I.tuple q1
  obtain⟨is2,r2,p2,_⟩:=I.tuple q2
  obtain⟨u,hu,ru⟩:=r1.get (i:=i) (x:=xs[i]) (by simp[hi])
  obtain⟨v,hv,rv⟩:=r2.get (i:=i) (x:=ys[i]'(by lia)) (by simp[show i<ys.length by lia])
  refine aX1 (fun j _=>bw (bx ha (oz ..))) (fun j _=>bw (bx hb (oz ..))) Z (show s.heap.IsTuple a is1.toArray from p1) (show s.heap.IsTuple b is2.toArray from p2)
   (x:=u) (y:=v) (by simpa using hu) (by simpa using hv) fun g z1 O1 j1 m1 T1 k1=>⟨_,rfl,wpAny_letOwnedTupleGo_zip z1 fun g2 z2 sb=>?_⟩
  have nT:s.heap.objs.size≠n+4:=jp (ay Z.z)
  have kk:∀c o,c∉[n,n+1,n+2,n+3,n+4]->s.heap.get? c=some o->g2.get? c=some o:=fun c o hc e=>by
   simp only[List.mem_cons,List.not_mem_nil,or_false,not_or] at hc
   exact(sb.2 c hc.2.2.2.2).trans (k1 c o hc.2.2.2.2 hc.2.2.2.1 hc.1 hc.2.1 e)
  have TT:IsPair g2 s.heap.objs.size u v:=(sb.2 _ nT).trans T1
  have d:∀j,j<4->n+j≠n+4:=fun j hj z=>absurd (Nat.add_left_cancel z) (bw hj)
  have I2:=I.turnedNew (T:=s.heap.objs.size) (o:= .tup [xs[i],ys[i]'(by lia)]) (rs:=[n,n+1,n+2,n+3,n+4]) (t':=s.toks) hf kk (ah _) ⟨by show 2<=sizeLine;decide,[u,v],.cons ru (.cons rv .nil),⟨_,TT,rfl,_,rfl,rfl⟩⟩
  refine⟨.ref s.heap.objs.size,_,I2,rfl,⟨_,I.fresh,rfl,fun xs' ys' w1 w2=>⟨xs[i],ys[i]'(by lia),?_,?_,rfl⟩⟩,⟨z2,(sb.2 _ (d 2 (by decide))).trans (k1 _ _ (d 2 (by decide)) (by simp) (by simp) (by simp) Z.I),⟨u,v,(sb.2 _ (d 3 (by decide))).trans O1⟩,j1.at fun o e=>(sb.2 _ (d 0 (by decide))).trans e,m1.at fun o e=>(sb.2 _ (d 1 (by decide))).trans e⟩,fun c hc=>?_⟩
  ·rw[I.tuple_inj w1 q1];simp[hi]
  ·rw[I.tuple_inj w2 q2];simp[show i<ys.length by lia]
  ·rw[aH (fun z=>?_)]
   ·exact(hf c hc).1
   ·obtain⟨o,e,_⟩:∃o,s.heap.get? c=some o/\True:=by
     obtain⟨hz,hI,⟨u',v',hO⟩,⟨o1,e1,c1,d1⟩,⟨o2,e2,c2,d2⟩⟩:=Z
     simp only[List.mem_cons,List.not_mem_nil,or_false] at hc
     rcases hc with rfl|rfl|rfl|rfl|rfl
     ·exact⟨_,e1,trivial⟩
     ·exact⟨_,e2,trivial⟩
     ·exact⟨_,hI,trivial⟩
     ·exact⟨_,hO,trivial⟩
     ·exact⟨_,hz,trivial⟩
    exact absurd (ay e) (by rw[z];exact fw _)
 done:=by
  intro X hP hw hK hc i pins s σ H E I hf Z hg
  subst hP hw hK
  obtain⟨xs,q1,hx⟩:=hg
  obtain⟨is1,r1,p1,_⟩:=I.tuple q1
  have hl:=r1.length
  refine aN8 (I.ok.hd hc) (fun j _=>bw (bx ha (oz ..))) Z (show s.heap.IsTuple a is1.toArray from p1) (by simp;lia) fun g k=>⟨rfl,I.turnedL (rs:=[n,n+1,n+2,n+3,n+4]) (t':=s.toks) hf fun c o hc e=>?_⟩
  simp only[List.mem_cons,List.not_mem_nil,or_false,not_or] at hc
  exact k c o hc.2.2.2.2 hc.1 e
 self:=fun _ _ _ _ _ Z h=>zg Z.z h
def cD5(K:PySem.W.Frag)(ta:TA):TI:=fun σ H R=>ta σ H fun vs H1=>∃a b,vs=[.ref a,.ref b]/\(∃xs,aR K H1 a xs)/\(∃ys,aR K H1 b ys)/\R (Itz K a b) H1
theorem bJ7{X:Cx}{a b:Expr}{ta:TA}{p pos:Pos}{elts:List Expr}{x1:Nat}{tpos:Pos}(hg:Gl X "zip")(hm:X.mg "zip"=none)(ha:PA X [a,b] ta)(hs:autoParam (starEach [a,b] X.env=[(false,eval a X.env),(false,eval b X.env)]) Rq0._auto_1)(hs2:autoParam (starEach [b] X.env=[(false,eval b X.env)]) Rq0._auto_1) :
  PI X (.Tuple elts x1 tpos) (.Call (.Name "zip" p) [a,b] [] pos) (cD5 X.K ta):=by
 intro pins s σ H R I h
 refine ge (kE I hg hm PyProof.Rows.boot_zip (ia (cK (ha pos pins s σ H _ I h) fun us s1 ⟨vs,H1,I1,r1,q1⟩=>?_) (by rw[hs,hs2]) (by rw[hs2];rfl)))
 obtain⟨a',b',rfl,⟨xs,q1⟩,⟨ys,q2⟩,q⟩:=q1
 obtain⟨u,v,rfl,ru,rv⟩:=pS r1
 cases ru
 cases rv
 obtain⟨is1,_,p1,_⟩:=I1.tuple q1
 obtain⟨is2,_,p2,_⟩:=I1.tuple q2
 have la:a'<s1.heap.objs.size:=by obtain⟨o,e,_⟩:=p1;exact ay e
 have lb:b'<s1.heap.objs.size:=by obtain⟨o,e,_⟩:=p2;exact ay e
 refine aJ3 (show s1.heap.IsTuple a' is1.toArray from p1) (show s1.heap.IsTuple b' is2.toArray from p2) fun g Z k=>zg Z.z ?_
 have I2:aU X pins σ H1 { s1 with heap:=g }:=I1.kept (t':=s1.toks) k
 refine⟨s1.heap.objs.size+4,_,_,Itz X.K a' b',H1,rfl,I2,aY3 a' b' s1.heap.objs.size la lb,Z,fun c hc=>?_,q⟩
 have hge:s1.heap.objs.size<=c:=by
  simp only[List.mem_cons,List.not_mem_nil,or_false] at hc
  rcases hc with rfl|rfl|rfl|rfl|rfl
  ·exact ah _
  all_goals exact oz ..
 exact I1.fpOk hge (I1.hok.fresh hge)
section
variable {g:TG}{tc:TT}{te:TE}
theorem aM5{K:PySem.W.Frag}{a b:Addr}{xs ys:List V}{Kf:List V->Hp->Prop}{σ0:St}{H1:Hp}(Pv:Nat->List V->St->Hp->Prop)(hz:xs.length<sizeLine)(hxy:xs.length=ys.length)(h0:Pv 0 [] σ0 H1)(hb:∀i zs σ H,Pv i zs σ H->zs.length<=i)
  (hl:∀i zs σ H,i<=xs.length->Pv i zs σ H->aR K H a xs/\aR K H b ys)
  (hs:∀i x y zs σ H t,xs[i]?=some x->ys[i]?=some y->Pv i zs σ H->H t=none->g (.ref t) σ (aN H t (.tup [x,y])) fun σ2 H2=>tc σ2 H2 fun b H3=>if b=true then te σ2 H3 fun v H4=>Pv (i+1) (zs++[v]) σ2 H4 else Pv (i+1) zs σ2 H3)
  (hd:∀zs σ H,Pv xs.length zs σ H->Kf zs H):mX (Itz K a b) g tc te Kf σ0 H1:=by
 refine⟨fun i m zs σ H=>m=xs.length-i/\i<=xs.length/\Pv i zs σ H,⟨xs.length,by simp,bt _,h0⟩,?_⟩
 rintro i m zs σ H ⟨rfl,hi,p⟩
 obtain⟨q1,q2⟩:=hl i zs σ H hi p
 refine⟨dj (hb _ _ _ _ p) (dj hi hz),?_⟩
 by_cases hlt:i<xs.length
 ·refine .inr ⟨⟨xs,ys,q1,q2,hxy,hlt⟩,Pv (i+1),fun zs' σ' H' p'=>⟨xs.length-(i+1),fq hlt (fc i),rfl,hlt,p'⟩,fun x H' y=>?_⟩
  obtain⟨t,ht,rfl,w⟩:=y
  obtain⟨u,v,e1,e2,rfl⟩:=w xs ys q1 q2
  exact hs i u v zs σ H t e1 e2 p ht
 ·have e:i=xs.length:=by lia
  subst e
  exact .inl ⟨⟨xs,q1,ah _⟩,hd zs σ H p⟩
end
def Its(x:Str):It:=⟨fun i _=>i<x.length,fun i H v H'=>H'=H/\∃c,x.cps[i]?=some c/\v= .str ⟨#[c]⟩,fun i _=>x.length<=i⟩
theorem bA8(x:Str):x.length=x.cps.size:=rfl
theorem aU8{P:Program}{w:World}{K:PySem.W.Frag}{tg:Expr}{ty:String}(hty:ty="str_ascii_iterator"\/ty="str_iterator")(it:Addr)(x:Str)(t:Tok):uO P w K tg (Its x) [it] it (fun i h=>i<=x.length/\h.IsStrIter it ty x t i):=by
 have W:∀A:Around,A.handled=none->Walks P w A it [it] [it] x.cps.size (SignAt x) (fun i h=>h.IsStrIter it ty x t i):=by
  intro A hA
  rcases hty with rfl|rfl
  ·exact Walks.strAscii hA it x t
  ·exact Walks.strWide hA it x t
 have hn:["enumerate","zip","dict_itemiterator","dict_reverseitemiterator","odict_iterator","itertools.zip_longest","itertools.pairwise"].contains ty=false:=by
  rcases hty with rfl|rfl<;>decide
 exact {
  mem:=by simp
  obj:=fun i h st b hb=>by
   have e:b=it:=by simpa using hb
   subst e
   obtain⟨o,e,c,d⟩:=st.2
   exact⟨o,e,fun v z=>by rw[d] at z;cases z⟩
  keep:=fun i h h' st k=>⟨st.1,by
   obtain⟨o,e,r⟩:=st.2
   exact⟨o,k it (by simp) o e,r⟩⟩
  item:=by
   intro X hP hw hK hc i pins s σ H E I hf st hg
   subst hP hw hK
   obtain⟨f0,f1,f2,f3,f4,f5⟩:=hf it (by simp)
   have hg:i<x.length:=hg
   refine(W X.A (I.ok.hd hc)).item i s _ _ hg st.2 fun v h' tk hv st' kk=>?_
   obtain⟨c,u,hcx,rfl⟩:=hv
   have I1:aU X pins σ H { s with heap:=h',toks:=tk }:=I.turned (fun b o hb e=>kk b o (by simpa using hb) e) f0 f1 f3 f4 f5
   obtain⟨o,e,c1,d⟩:=id st'
   exact⟨_,rfl,go_of (s:={ s with heap:=h',toks:=tk }) e c1 d hn ⟨.str ⟨#[c]⟩,H,I1,⟨u,rfl⟩,⟨rfl,c,hcx,rfl⟩,⟨hg,st'⟩,fun b hb=>(hf b hb).1⟩⟩
  done:=by
   intro X hP hw hK hc i pins s σ H E I hf st hg
   subst hP hw hK
   obtain⟨f0,f1,f2,f3,f4,f5⟩:=hf it (by simp)
   have hg:x.length<=i:=hg
   have e:i=x.cps.size:=by have:=st.1;rw[bA8] at this hg;lia
   subst e
   refine(W X.A (I.ok.hd hc)).done s _ _ st.2 fun h' tk kk=>⟨rfl,I.turned (fun b o hb e=>kk b o (by simpa using hb) e) f0 f1 f3 f4 f5⟩
  self:=fun A i s Q E st h=>by
   rcases hty with rfl|rfl
   ·exact wpAny_pyIter_striter_ascii st.2 h
   ·exact wpAny_pyIter_striter_wide st.2 h }
section
variable {X:Cx}{tg:Expr}
def cF4(tl:TE):TI:=fun σ H R=>tl σ H fun x H1=>∃z,x= .str z/\R (Its z) H1
theorem aK8{l:Expr}{tl:TE}(hl:PE X l tl):PI X tg l (cF4 tl):=by
 intro pins s σ H R I h
 refine cK (hl pins s σ H _ I h) ?_;rintro v s1 ⟨x,H1,I1,r1,z,e,q⟩
 subst e
 obtain⟨t,rfl⟩:=r1
 have fin:∀(o:Obj) (ty:String),(ty="str_ascii_iterator"\/ty="str_iterator")->(s1.heap.push o).IsStrIter s1.heap.objs.size ty z t 0->PIE X pins σ tg R (.ref s1.heap.objs.size) { s1 with heap:=s1.heap.push o }:=fun o ty hty hi =>
  ⟨s1.heap.objs.size,[s1.heap.objs.size],_,_,H1,rfl,I1.kept (t':=s1.toks) fun b o e=>ae _ e,aU8 hty _ z t,⟨bt _,hi⟩,fun b hb=>by
   have e:b=s1.heap.objs.size:=by simpa using hb
   subst e
   exact I1.fpOk (ah _) (I1.hok.fresh (ah _)),q⟩
 cases ha:z.cps.all (· < 128)
 ·exact wpAny_pyIter_wide ha (fin _ _ (.inr rfl) ⟨_,bb _ rfl,rfl,rfl⟩)
 ·exact wpAny_pyIter_ascii ha (fin _ _ (.inl rfl) ⟨_,bb _ rfl,rfl,rfl⟩)
theorem wF{x:Str}{g:TG}{tc:TT}{te:TE}{Kf:List V->Hp->Prop}{σ0:St}{H1:Hp}(Pv:Nat->List V->St->Hp->Prop)(hz:x.length<sizeLine)(h0:Pv 0 [] σ0 H1)(hb:∀i ys σ H,Pv i ys σ H->ys.length<=i)
  (hs:∀i c ys σ H,x.cps[i]?=some c->Pv i ys σ H->g (.str ⟨#[c]⟩) σ H fun σ2 H2=>tc σ2 H2 fun b H3=>if b=true then te σ2 H3 fun y H4=>Pv (i+1) (ys++[y]) σ2 H4 else Pv (i+1) ys σ2 H3) (hd:∀ys σ H,Pv x.length ys σ H->Kf ys H):mX (Its x) g tc te Kf σ0 H1:=by
 refine⟨fun i m ys σ H=>m=x.length-i/\i<=x.length/\Pv i ys σ H,⟨x.length,by simp,bt _,h0⟩,?_⟩
 rintro i m ys σ H ⟨rfl,hi,p⟩
 refine⟨dj (hb _ _ _ _ p) (dj hi hz),?_⟩
 by_cases hlt:i<x.length
 ·refine .inr ⟨hlt,Pv (i+1),fun ys' σ' H' p'=>⟨x.length-(i+1),fq hlt (fc i),rfl,hlt,p'⟩,fun v H' y=>?_⟩
  obtain⟨e,c,hc,ev⟩:=y
  subst e ev
  exact hs i c ys σ _ hc p
 ·have e:i=x.length:=by lia
  subst e
  exact .inl ⟨ah _,hd ys σ H p⟩
inductive rSlS(x:V)(lo:Option Int)(hi:Option Int)(H:Hp)(Q:VK):Prop
 |mk:∀z,(x= .str z)->(z.length<=sizeLine)->(Q (.str (Txt.slice z lo hi)) H)->rSlS x lo hi H Q
theorem yS:SlR X rSlS:=by
 intro pins s σ H x v vl vu lo hi sl Q I rx hs pl pu h
 obtain⟨z,rfl,hz,q⟩:=h
 obtain⟨t,rfl⟩:=rx
 refine⟨"str",_,F.slot_str_getitem.lookup,zp _ _ _,?_⟩
 have fin:∀{lo hi:Option Int},Q (.str (Txt.slice z lo hi)) H->∀t' k,EP X pins σ Q (.str (Txt.slice z lo hi) t') { s with toks:=k }:=fun q t' k=>⟨.str _,H,I.tok k,⟨_,rfl⟩,q⟩
 cases pl with
 |none =>
  cases pu with
  |none=>exact ku (l:=none) (u:=none) (st:=none) hs rfl (qf ⟨cp (nv z _ _) hz,fin q⟩)
  |int j u=>exact ku (l:=none) (u:=some (j,u)) (st:=none) hs rfl (qf ⟨cp (nv z _ _) hz,fin q⟩)
 |int i u' =>
  cases pu with
  |none=>exact ku (l:=some (i,u')) (u:=none) (st:=none) hs rfl (qf ⟨cp (nv z _ _) hz,fin q⟩)
  |int j u=>exact ku (l:=some (i,u')) (u:=some (j,u)) (st:=none) hs rfl (qf ⟨cp (nv z _ _) hz,fin q⟩)
theorem rC:∀{ys:List Str}{us:List Value},bI (ys.map V.str) us->StrsAre us ys
 |[],_,r=>by
  cases r
  exact .nil
 |y::ys,_,r=>by
  cases r with
  |cons r1 r2 =>
   obtain⟨t,rfl⟩:=r1
   exact .cons y t (rC r2)
inductive bF9(K:PySem.W.Frag)(x:V)(vs:List V)(H:Hp)(Q:VK):Prop
 |mk:∀(sep:Str) (p:Addr) (ys:List Str),(x= .str sep)->(vs=[.ref p])->(bK K H p (ys.map V.str))->((ys.map (·.length)).sum+ys.length*sep.length<=16777216)->(Q (.str (Txt.join sep ys)) H)->bF9 K x vs H Q
theorem bB9:MtR X "str.join" (bF9 X.K):=by
 intro pins s σ H x xs v us Q I rx rs h
 obtain⟨sep,p,ys,rfl,rfl,hq,hz,q⟩:=h
 obtain⟨t,rfl⟩:=rx
 obtain⟨u,rfl,ru⟩:=rs.one
 cases ru
 obtain⟨its,rv,pl,_⟩:=I.list hq
 exact join_list pl.isList (by simpa using rC rv) hz fun t' k=>⟨.str _,H,I.tok k,⟨_,rfl⟩,q⟩
end
section
variable {X:Cx}
theorem zO:jC X (binaryOp .Mult) (fun x y H Q=>∃(z:Str) (n:Int),x= .str z/\y= .int n/\z.length=1/\(n=0\/n=1)/\Q (.str (if n=0 then Str.empty else z)) H):=by
 intro pins s σ H x y v u Q I rx ry h
 obtain⟨z,n,rfl,rfl,hz,hn,q⟩:=h
 obtain⟨t,rfl⟩:=rx
 obtain⟨t',rfl⟩:=ry
 rcases hn with rfl|rfl
 ·exact PySem.P.mul_str_none (by decide) (by decide) ⟨.str _,H,I.tok _,⟨_,rfl⟩,q⟩
 ·refine PySem.P.mul_str (by decide) (fun _ c=>absurd c (by simp)) (fun _ c=>absurd c (by simp)) ?_
  rw[av (by decide),bg (by simp)]
  exact⟨.str z,H,I,⟨_,rfl⟩,q⟩
end
theorem aU.freeze{X:Cx}{pins:List (Addr×Obj)}{σ:St}{H:Hp}{s:Shared}{d:Addr}{o:Obj}{kvs:List (Key×V)}(I:aU X pins σ H s)(h:H d=some (.dK kvs))(ho:s.heap.get? d=some o) :
  aU X pins σ (aN H d (.frz o (.dK kvs))) s:=by
 have nd:∀b u,H b=some u->(∀z,u≠ .dK z)->b≠d:=fun b u e hu z=>by
  rw[z,h] at e
  exact hu _ (dg e).symm
 refine I.step (g':=s.gens) (d':=s.drawn) (t':=s.toks) (h':=s.heap) (ch:=[]) (fun _ z=>nomatch z) (fun b u _ _ _ e _=>e) (fun b u _ _ _ e _=>⟨u.slots,e⟩) (fun b u _ e n=>by rw[aH (fun z=>by rw[z,h] at n;cases n)];exact n)
  (fun b u _ e=>⟨u,e⟩) (fun b xs e=>by rw[aH (nd b _ e (by intro z c;cases c))];exact e) (fun b u v e=>by rw[aH (nd b _ e (by intro z c;cases c))];exact e)
  (fun b ps e=>⟨#[],by rw[aH (nd b _ e (by intro z c;cases c)),e];simp⟩) (fun m hm=>hm) (fun b u e=>?_) I.bare
 by_cases hb:b=d
 ·subst hb
  rw[aC] at e
  cases e
  exact⟨ho,I.hok b _ h⟩
 ·rw[aH hb] at e
  exact(I.hok b u e).stay (fun c v _ q=>q) (fun c q=>by rw[aH (nd c _ q (by intro z w;cases w))];exact q) fun c xs q=>by rw[aH (nd c _ q (by intro z w;cases w))];exact q
theorem aW3{κ:Type}:∀{kvs:List (κ×V)}{vs:List (κ×Value)}{i:Nat}{k:κ}{v:V},KV kvs vs->kvs[i]?=some (k,v)->∃u,vs[i]?=some (k,u)/\bJ v u
 |_,_,_,_,_,.nil,e=>by simp at e
 |_,_,0,_,_,.cons r _,e=>by
  simp at e
  subst e
  obtain⟨r1,r2⟩:=r
  exact⟨_,by simp;exact Prod.ext r1.symm rfl,r2⟩
 |_,_,i+1,_,_,.cons _ r,e=>by
  obtain⟨u,e1,e2⟩:=aW3 (i:=i) r (by simpa using e)
  exact⟨u,by simpa using e1,e2⟩
theorem aB7{k:Key}{u:Value}(h:iQ k u=true):bJ (kV k) u:=by
 rcases cN h with⟨i,t,rfl,rfl⟩|⟨x,t,rfl,rfl⟩
 ·exact⟨t,rfl⟩
 ·exact⟨t,rfl⟩
def Itd(d:Addr)(o:Obj)(kvs:List (Key×V)):It:=
 ⟨fun i H=>i<kvs.length/\H d=some (.frz o (.dK kvs)),fun i H x H'=>H'=H/\∃k v,kvs[i]?=some (k,v)/\x=kV k,fun i H=>kvs.length<=i/\H d=some (.frz o (.dK kvs))⟩
theorem aN2{X:Cx}{pins:List (Addr×Obj)}{σ:St}{H:Hp}{s:Shared}{d:Addr}{o:Obj}{kvs:List (Key×V)}{es:Array DictEntry}{ep:Nat}(I:aU X pins σ H s)(ho:o.data= .dict es ep)(h:H d=some (.frz o (.dK kvs))) :
  ∃vs,KV kvs vs/\s.heap.DictAt (aW X.prog X.w) d vs ep/\(d==sysModules)=false:=by
 obtain⟨e,z,ns,vs,rel,o',es',ep',h1,h2,h3,h4,h5,h6⟩:=(show bU X.prog X.w H s.heap d (.frz o (.dK kvs)) from I.hok d _ h)
 rw[e] at h1
 cases h1
 rw[ho] at h3
 cases h3
 exact⟨vs,rel,⟨o,es,e,h2,ho,h4,h5,h6⟩,ns⟩
theorem tE{P:Program}{w:World}{K:PySem.W.Frag}{tg:Expr}(d it:Addr)(o:Obj)(kvs:List (Key×V)){es:Array DictEntry}{ep:Nat}(ho:o.data= .dict es ep) :
  uO P w K tg (Itd d o kvs) [it] it (fun i h=>i<=kvs.length/\h.IsKeyIter it d i kvs.length ep) where
 mem:=by simp
 obj:=fun i h st b hb=>by
  have e:b=it:=by simpa using hb
  subst e
  obtain⟨o,e,c,q⟩:=st.2
  exact⟨o,e,fun v z=>by rw[q] at z;cases z⟩
 keep:=fun i h h' st k=>⟨st.1,st.2.at fun o e=>k it (by simp) o e⟩
 item:=by
  intro X hP hw hK hc i pins s σ H E I hf st hg
  subst hP hw hK
  obtain⟨hi,hd⟩:=hg
  obtain⟨f0,f1,f2,f3,f4,f5⟩:=hf it (by simp)
  obtain⟨vs,rel,da,ns⟩:=aN2 I ho hd
  have hl:kvs.length=vs.length:=gj rel
  obtain⟨u,hu,_⟩:=aW3 (i:=i) (k:=kvs[i].1) (v:=kvs[i].2) rel (by simp[hi])
  have st2:=st.2
  rw[hl] at st2
  refine wpAny_pyNext_dict_item st2 da hu fun key h' hk st' sb=>?_
  have I1:aU X pins σ H { s with heap:=h' }:=I.turned (t':=s.toks) (fun b o hb e=>(sb.2 b hb).trans e) f0 f1 f3 f4 f5
  obtain⟨o2,e2,c2,d2⟩:=id st'
  rw[<-hl] at st'
  exact⟨key,rfl,go_of (s:={ s with heap:=h' }) e2 c2 d2 (by decide) ⟨kV kvs[i].1,H,I1,aB7 hk,⟨rfl,kvs[i].1,kvs[i].2,by simp[hi],rfl⟩,⟨hi,st'⟩,fun b hb=>(hf b hb).1⟩⟩
 done:=by
  intro X hP hw hK hc i pins s σ H E I hf st hg
  subst hP hw hK
  obtain⟨hi,hd⟩:=hg
  obtain⟨f0,f1,f2,f3,f4,f5⟩:=hf it (by simp)
  obtain⟨vs,rel,da,ns⟩:=aN2 I ho hd
  have hl:kvs.length=vs.length:=gj rel
  have st2:=st.2
  rw[hl] at st2
  exact wpAny_pyNext_dict_end (I.ok.hd hc) st2 da (by simp;lia) fun h' eb=>⟨rfl,I.turned (t':=s.toks) (fun b o hb e=>eb b o hb e) f0 f1 f3 f4 f5⟩
 self:=fun _ _ _ _ _ st h=>wt st.2 h
def bX3(tl:TE):TI:=fun σ H R=>tl σ H fun x H1=>∃d kvs,x= .ref d/\H1 d=some (.dK kvs)/\∀o,R (Itd d o kvs) (aN H1 d (.frz o (.dK kvs)))
theorem vL{X:Cx}{tg l:Expr}{tl:TE}(hl:PE X l tl):PI X tg l (bX3 tl):=by
 intro pins s σ H R I h
 refine cK (hl pins s σ H _ I h) ?_;rintro v s1 ⟨x,H1,I1,r1,q1⟩
 obtain⟨d,kvs,e,hd,q⟩:=q1
 subst e
 cases r1
 obtain⟨z,ns,vs,rel,o,es,ep,h1,h2,h3,h4,h5,h6⟩:=qJ I1.hok hd
 have hl:kvs.length=vs.length:=gj rel
 have I2:=I1.freeze hd h1
 refine yu (knd:=aW X.prog X.w) ns ⟨o,es,h1,h2,h3,h4,h5,h6⟩ ?_
 have f:(aN H1 d (.frz o (.dK kvs))) s1.heap.objs.size=none:=I2.hok.fresh (ah _)
 refine⟨s1.heap.objs.size,[s1.heap.objs.size],_,_,_,rfl,I2.kept (t':=s1.toks) fun b o e=>ae _ e,tE d _ o kvs h3,⟨bt _,⟨_,bb _ rfl,rfl,by rw[hl];rfl⟩⟩,fun b hb=>?_,q o⟩
 have e:b=s1.heap.objs.size:=by simpa using hb
 subst e
 exact I2.fpOk (ah _) f
theorem tR{d:Addr}{o:Obj}{kvs:List (Key×V)}{g:TG}{tc:TT}{te:TE}{Kf:List V->Hp->Prop}{σ0:St}{H1:Hp}(Pv:Nat->List V->St->Hp->Prop)(hz:kvs.length<sizeLine)(h0:Pv 0 [] σ0 H1)(hb:∀i zs σ H,Pv i zs σ H->zs.length<=i)
  (hl:∀i zs σ H,i<=kvs.length->Pv i zs σ H->H d=some (.frz o (.dK kvs)))
  (hs:∀i k v zs σ H,kvs[i]?=some (k,v)->Pv i zs σ H->g (kV k) σ H fun σ2 H2=>tc σ2 H2 fun b H3=>if b=true then te σ2 H3 fun y H4=>Pv (i+1) (zs++[y]) σ2 H4 else Pv (i+1) zs σ2 H3)
  (hd:∀zs σ H,Pv kvs.length zs σ H->Kf zs H):mX (Itd d o kvs) g tc te Kf σ0 H1:=by
 refine⟨fun i m zs σ H=>m=kvs.length-i/\i<=kvs.length/\Pv i zs σ H,⟨kvs.length,by simp,bt _,h0⟩,?_⟩
 rintro i m zs σ H ⟨rfl,hi,p⟩
 have q1:=hl i zs σ H hi p
 refine⟨dj (hb _ _ _ _ p) (dj hi hz),?_⟩
 by_cases hlt:i<kvs.length
 ·refine .inr ⟨⟨hlt,q1⟩,Pv (i+1),fun zs' σ' H' p'=>⟨kvs.length-(i+1),fq hlt (fc i),rfl,hlt,p'⟩,fun x H' y=>?_⟩
  obtain⟨rfl,k,v,e1,rfl⟩:=y
  exact hs i k v zs σ _ e1 p
 ·have e:i=kvs.length:=by lia
  subst e
  exact .inl ⟨⟨ah _,q1⟩,hd zs σ H p⟩
section
variable {X:Cx}
variable {g:TG}{tc:TT}{te:TE}
end
open PySem.AutoSeq1 (wpAny_loadPart')
section
variable {prog:Program}{w:World}{A:Around}{E:Value->Shared->Prop}{s:Shared}
end
def bU3(i j:Int):Prop:=0<j/\j<2^200*2^200
theorem wU{X:Cx}:jC X (binaryOp .FloorDiv) (rI bU3 fun i j=> .int (i / j)):=opI fun i j _ _ _ _ _ hc q=>by
 obtain⟨h0,h1⟩:=hc
 refine floordiv_int (by lia) ?_ (.inl (ui ?_))
 ·rw[rn i (by lia)];exact q
 ·have h2:j.natAbs<2^200*2^200:=by lia
  rw[<-Nat.pow_add] at h2
  have h3:j.natAbs≠0:=by lia
  have h4:j.natAbs.log2<200+200:=(Nat.log2_lt h3).mpr h2
  exact bx h4 (by decide)
open PySem PySem.Spec PyProof.Rows
section
variable {prog:Program}{w:World}{A:Around}{E:Value->Shared->Prop}{s:Shared}
end
section
variable {X:Cx}{pins:List (Addr×Obj)}{σ:St}{H:Hp}{s:Shared}{a:Addr}{y v:V}{u r:Value}{A:Around}{E:Value->Shared->Prop}
theorem aH3{H':Hp}{Q:Unit->Shared->Prop}(hu:A.units<cLine)(I:aU X pins σ H s)(g:gO H a y v H')(ry:bJ y u)(rv:bJ v r)(h:∀s',aU X pins σ H' s'->Heap.SameBut a s.heap s'.heap->Q () s') :
  wpAny (model X.prog X.w) A (dictSet a u r) Q E s:=by
 rcases g with⟨kvs,k,e,ey,l,eH⟩|⟨kvs,k,b,e,ey,eb,l,eH⟩
 ·subst ey eH
  obtain⟨z,hd,vs,rel,dd⟩:=qJ I.hok e
  refine wpAny_dictSet_pairs (hsz:=by rw[<-rel.length];exact z) (oS ry) dd fun h' dd' hs=>h _ (kW I (by rw[e];exact iw) hs (let⟨q,_,_,hq,_⟩:=dd';⟨q,hq⟩) (qZ ?_ hd (rel.put k rv) dd')) hs
  have:=eK kvs k v
  lia
 ·subst ey eH
  cases(show u=Value.ref b from ry)
  obtain⟨z,hd,xs,rel,dd⟩:=bG8 I.hok e
  have hl:(dI kvs k v).length<=sizeLine:=by have:=eK kvs k v;lia
  refine wpAny_dictSet_heap (hsz:=by rw[<-gj rel];exact z) (show(tupleKind (aW X.prog X.w)).room A from hu) (oN I.hok eb) dd fun h' dd' hs=>h _ ?_ hs
  obtain⟨q,es,ep,hq,h2,h3,h4,_,h5⟩:=dd'
  refine kW I (by rw[e];exact iw) hs ⟨q,hq⟩ ⟨hl,hd,_,(rel.put k eb rv).keeps fun c ys ec=>?_,q,es,ep,hq,h2,h3,h4,h5⟩
  rw[aH (iM ec e (fun z=>nomatch z))]
  exact ec
end
theorem uB:entryFor table "dict.update.loop"=some Builtin.«dict.update.loop» :=um (by kernel_rfl)
def zF(H:Hp)(d:Addr)(ys:List V)(o:Nat->HO):Prop:=∀i,i<ys.length->∃t k v,ys[i]?=some (.ref t)/\H t=some (.tup [k,v])/\gO (aN H d (o i)) d k v (aN H d (o (i+1)))
section
variable {X:Cx}{pins:List (Addr×Obj)}{σ:St}{H:Hp}{s:Shared}{A:Around}{E:Value->Shared->Prop}
end
open PySem PySem.Spec PyProof.Rows PySem.W
section
variable {n:Nat}(h0:0<n)
include h0
end
open PySem PySem.Spec PyProof.Rows PySem.W HT
section
variable {prog:Program}{w:World}{A:Around}{E:Value->Shared->Prop}{s:Shared}
end
open PySem PySem.Spec PyProof.Rows
section
variable {prog:Program}{w:World}{A:Around}{E:Value->Shared->Prop}{s:Shared}
end
section
variable {g:TG}{tc:TT}{te:TE}
end
section
variable {X:Cx}
end
theorem gW{K:PySem.W.Frag}{a:Addr}{xs:List V}{g:TG}{tb:TS}{D:jK}{σ:St}{H:Hp}(Pv:Nat->St->Hp->Prop)(h0:Pv 0 σ H)(hl:∀i σ H,i<=xs.length->Pv i σ H->bK K H a xs)
  (hs:∀(D':jK),∀i x σ H,xs[i]?=some x->Pv i σ H->g x σ H fun σ2 H2=>tb { D' with nx:=Pv (i+1),ct:=Pv (i+1),bk:=D'.nx } σ2 H2) (hd:∀σ H,Pv xs.length σ H->D.nx σ H) :
  ∃W:Nat->Nat->St->Hp->Prop,(∃m,W 0 m σ H)/\∀i m σ H,W i m σ H ->
   ((Itl K a).stop i H/\D.nx σ H)\/((Itl K a).go i H/\∃N:St->Hp->Prop,(∀σ' H',N σ' H'->∃m',m'<m/\W (i+1) m' σ' H')/\∀x H',(Itl K a).yld i H x H'->g x σ H' fun σ2 H2=>tb { D with nx:=N,ct:=N,bk:=D.nx } σ2 H2):=xE Pv h0 hl (hs D) hd
theorem aP6{K:PySem.W.Frag}{a:Addr}{xs:List V}{g:TG}{tb:TS}{D:jK}{σ:St}{H:Hp}(Pv:Nat->St->Hp->Prop)(h0:Pv 0 σ H)(hl:∀i σ H,i<=xs.length->Pv i σ H->aR K H a xs)
  (hs:∀(D':jK),∀i x σ H,xs[i]?=some x->Pv i σ H->g x σ H fun σ2 H2=>tb { D' with nx:=Pv (i+1),ct:=Pv (i+1),bk:=D'.nx } σ2 H2) (hd:∀σ H,Pv xs.length σ H->D.nx σ H) :
  ∃W:Nat->Nat->St->Hp->Prop,(∃m,W 0 m σ H)/\∀i m σ H,W i m σ H ->
   ((Itt K a).stop i H/\D.nx σ H)\/((Itt K a).go i H/\∃N:St->Hp->Prop,(∀σ' H',N σ' H'->∃m',m'<m/\W (i+1) m' σ' H')/\∀x H',(Itt K a).yld i H x H'->g x σ H' fun σ2 H2=>tb { D with nx:=N,ct:=N,bk:=D.nx } σ2 H2):=aY5 Pv h0 hl (hs D) hd
section
variable {X:Cx}
end
section
variable {prog:Program}{w:World}{A:Around}{E:Value->Shared->Prop}{s:Shared}
end
section
variable {X:Cx}{pos:Pos}
end
def ItR(K:PySem.W.Frag)(a:Addr)(n:Nat):It:=
 ⟨fun i H=>∃xs,bK K H a xs/\xs.length=n/\i<n,fun i H x H'=>H'=H/\∀ys,bK K H a ys->ys.reverse[i]?=some x,fun i H=>∃xs,bK K H a xs/\xs.length=n/\n<=i⟩
theorem aO7{P:Program}{w:World}{K:PySem.W.Frag}{tg:Expr}(a it:Addr)(n:Nat)(ne:a≠it):uO P w K tg (ItR K a n) [it] it (fun i h=>i<=n/\h.IsRevIter it a ((n:Int)-1-(i:Int))) where
 mem:=by simp
 obj:=fun i h st b hb=>by
  have e:b=it:=by simpa using hb
  subst e
  obtain⟨_,o,e,c,d⟩:=st
  exact⟨o,e,fun v z=>by rw[d] at z;cases z⟩
 keep:=fun i h h' st k=>⟨st.1,let⟨o,e,r⟩:=st.2;⟨o,k it (by simp) o e,r⟩⟩
 item:=by
  intro X hP hw hK hc i pins s σ H E I hf st hg
  subst hP hw hK
  obtain⟨xs,hq,hn,hi⟩:=hg
  obtain⟨its,rv,p,hz⟩:=I.list hq
  have hl:=rv.length
  have sz:its.toArray.size=n:=by rw[bn];lia
  obtain⟨f0,f1,f2,f3,f4,f5⟩:=hf it (by simp)
  have Wk:=xf (prog:=X.prog) (w:=X.w) (A:=X.A) (I.ok.hd hc) it a ne its.toArray
  refine Wk.item i s _ _ (by lia) ⟨by lia,by rw[sz];exact st.2,p.isList⟩ fun v h' tk pv st' kp=>?_
  have I1:aU X pins σ H { s with heap:=h',toks:=tk }:=I.turned (t':=tk) (fun b o hb e=>kp b o (by simpa using hb) e) f0 f1 f3 f4 f5
  have hx:i<xs.reverse.length:=by rw[du];lia
  obtain⟨u,hu,ru⟩:=rv.get (show xs[xs.length-1-i]?=some (xs[xs.length-1-i]'(by lia)) from bc (by lia))
  obtain⟨o,e,c,d⟩:=id st'.2.1
  have ev:v=u:=by
   have:its.toArray[its.toArray.size-1-i]?=some v:=pv
   rw[sz, <-hn] at this
   have t2:its[xs.length-1-i]?=some v:=by simpa using this
   rw[hu] at t2
   exact(dg t2).symm
  subst ev
  refine⟨_,rfl,go_of (s:={ s with heap:=h',toks:=tk }) e c d (by decide) ⟨xs[xs.length-1-i]'(by lia),H,I1,ru,⟨rfl,fun ys hy=>?_⟩,⟨by lia,by have:=st'.2.1;rw[sz] at this;exact this⟩,fun b hb=>(hf b hb).1⟩⟩
  rw[I.list_inj hy hq,vx (by lia)]
  exact bc (by lia)
 done:=by
  intro X hP hw hK hc i pins s σ H E I hf st hg
  subst hP hw hK
  obtain⟨xs,hq,hn,hi⟩:=hg
  obtain⟨its,rv,p,hz⟩:=I.list hq
  have hl:=rv.length
  have sz:its.toArray.size=n:=by rw[bn];lia
  obtain⟨f0,f1,f2,f3,f4,f5⟩:=hf it (by simp)
  have Wk:=xf (prog:=X.prog) (w:=X.w) (A:=X.A) (I.ok.hd hc) it a ne its.toArray
  have ei:i=n:=by have:=st.1;lia
  refine Wk.done s _ _ ⟨ah _,by rw[sz, <-ei];have:=st.2;rw[<-ei] at this;exact this,p.isList⟩ fun h' tk kp=>⟨rfl,I.turned (t':=tk) (fun b o hb e=>kp b o (by simpa using hb) e) f0 f1 f3 f4 f5⟩
 self:=fun _ _ _ _ _ st h=>wu st.2 h
def cC1(K:PySem.W.Frag)(te:TE):TI:=fun σ H R=>te σ H fun x H1=>∃a ys,x= .ref a/\bK K H1 a ys/\R (ItR K a ys.length) H1
theorem aO5{X:Cx}{tg:Expr}{e:Expr}{te:TE}{p2 pos2:Pos}(he:PE X e te)(g2:Gl X "reversed")(m2:X.mg "reversed"=none)(hs2:autoParam (starEach [e] X.env=[(false,eval e X.env)]) Rq0._auto_1) :
  PI X tg (.Call (.Name "reversed" p2) [e] [] pos2) (cC1 X.K te):=by
 intro pins s σ H R I h
 refine ge (kE I g2 m2 rj (ia ?_ hs2 rfl))
 rw[hs2]
 refine im (cK (he pins s σ H _ I h) ?_);rintro u s1 ⟨x,H1,I1,r1,a,ys,ex,hq,q⟩;refine kg ?_
 subst ex
 cases r1
 obtain⟨its,rv,pl,hz⟩:=I1.list hq
 have il:=pl.isList
 have len:=rv.length
 have sz:its.toArray.size=ys.length:=by rw[bn];lia
 have aLt:a<s1.heap.objs.size:=by
  obtain⟨o,e,_⟩:=il
  exact ay e
 refine yc il ?_
 have st:(s1.heap.push (revObj a ((its.toArray.size:Int)-1))).IsRevIter s1.heap.objs.size a ((ys.length:Int)-1-((0:Nat):Int)):=by
  rw[sz,Int.natCast_zero,Int.sub_zero]
  exact⟨_,bb _ rfl,rfl,rfl⟩
 refine wu st ?_
 refine⟨s1.heap.objs.size,[s1.heap.objs.size],_,ItR X.K a ys.length,H1,rfl,I1.kept (t':=s1.toks) fun b o e=>ae _ e,aO7 a _ ys.length (bw aLt),⟨bt _,st⟩,fun b hb=>?_,q⟩
 have e:b=s1.heap.objs.size:=by simpa using hb
 subst e
 exact I1.fpOk (ah _) (I1.hok.fresh (ah _))
theorem wG{g:TG}{tc:TT}{te:TE}{K:PySem.W.Frag}{a:Addr}{xs:List V}{Kf:List V->Hp->Prop}{σ0:St}{H1:Hp}(Pv:Nat->List V->St->Hp->Prop)(hz:xs.length<sizeLine)(h0:Pv 0 [] σ0 H1)(hb:∀i ys σ H,Pv i ys σ H->ys.length<=i)(hl:∀i ys σ H,i<=xs.length->Pv i ys σ H->bK K H a xs)
  (hs:∀i x ys σ H,xs.reverse[i]?=some x->Pv i ys σ H->g x σ H fun σ2 H2=>tc σ2 H2 fun b H3=>if b=true then te σ2 H3 fun y H4=>Pv (i+1) (ys++[y]) σ2 H4 else Pv (i+1) ys σ2 H3) (hd:∀ys σ H,Pv xs.length ys σ H->Kf ys H):mX (ItR K a xs.length) g tc te Kf σ0 H1:=by
 refine⟨fun i m ys σ H=>m=xs.length-i/\i<=xs.length/\Pv i ys σ H,⟨xs.length,rfl,bt _,h0⟩,?_⟩
 rintro i m ys σ H ⟨rfl,le,p⟩
 have q:=hl i ys σ H le p
 refine⟨dj (hb _ _ _ _ p) (dj le hz),?_⟩
 by_cases c:i<xs.length
 ·exact .inr ⟨⟨xs,q,rfl,c⟩,Pv (i+1),fun ys' σ' H' p'=>⟨xs.length-(i+1),fq c (fc i),rfl,c,p'⟩,fun x H' ⟨e,y⟩=>by
   subst e
   exact hs i x ys σ _ (y xs q) p⟩
 ·obtain rfl:i=xs.length:=by lia
  exact .inl ⟨⟨xs,q,rfl,ah _⟩,hd ys σ H p⟩
section
variable {X:Cx}
def bR4(K:PySem.W.Frag)(te:TE):TE:=fun σ H Q=>te σ H fun x H1=>∃a xs,x= .ref a/\bK K H1 a xs/\∀p,H1 p=none->Q (.ref p) (aN H1 p (.lst xs.reverse))
theorem aU1{e st:Expr}{te:TE}{p2 pos:Pos}(he:PE X e te)(hst:PE X st (tC (.int (-1)))):PE X (.Subscript e (.Slice none none (some st) p2) pos) (bR4 X.K te):=by
 intro pins s σ H Q I h
 refine wm (cK (he pins s σ H _ I h) ?_);rintro v s1 ⟨x,H1,I1,r1,a,xs,ex,hx,q⟩
 subst ex
 cases r1
 refine wpAny_Slice ?_
 rw[xb]
 refine aj (aj ?_)
 rw[evalPart_some]
 refine cK (hst pins s1 σ H1 (fun v H'=>v= .int (-1)/\H'=H1) I1 ⟨rfl,rfl⟩) fun u s2 ⟨y,H2,I2,r2,e1,e2⟩=>?_
 subst e1 e2
 obtain⟨tk,rfl⟩:=r2
 have I4:aU X pins σ H2 { s2 with heap:=s2.heap.push { cls:= .type "slice",data:= .fields #[.none,.none,.int (-1) tk] } }:=I2.kept (t':=s2.toks) fun b ob q=>ae _ q
 obtain⟨its,r,ht,hz⟩:=I4.list hx
 have hlen:=r.length
 show wpAny (model X.prog X.w) X.A (subscriptTail e (.Slice none none (some st) p2) (.ref a) (.ref s2.heap.objs.size)) (EP X pins σ Q) X.xe { s2 with heap:=s2.heap.push { cls:= .type "slice",data:= .fields #[.none,.none,.int (-1) tk] } }
 refine tail_any (ops:=[.ref a,.ref s2.heap.objs.size]) ht.isList.typeIs slot_list_getitem.lookup ?_ (by with_unfolding_all rfl)
 refine ue ht.isList (ya ..) .none .none (.int (-1) tk) (by simp) ?_ (by rw[List.size_toArray];lia)
 rw[PySem.W.krv_pick]
 refine⟨.ref _,_,I4.laid (t':=s2.toks) (o:= .lst xs.reverse) (fun b ob q=>ae _ q) (ah _) ?_,rfl,q _ (I4.hok.fresh (ah _))⟩
 exact⟨by rw[du];exact hz,_,0,bI.reverse r,bb _ rfl⟩
theorem yK:eA X (.type "dict") (fun xs H Q=>∃(p:Addr) (kvs:List (Key×V)),xs=[.ref p]/\H p=some (.dK kvs)/\∀d,H d=none->Q (.ref d) (aN H d (.dK kvs))):=by
 intro pins s σ H xs us Q I r h
 obtain⟨p,kvs,rfl,hp,q⟩:=h
 obtain⟨u,rfl,ru⟩:=gN r
 cases ru
 obtain⟨z,hd,vs,rel,dd⟩:=qJ I.hok hp
 refine kt_call_dict hd dd (by rw[<-rel.length];exact z) fun h' hm hs=>?_
 refine⟨.ref s.heap.objs.size,_,I.laid (t':=s.toks) (o:= .dK kvs) (fun b o e=>(hs.2 b (bw (ay e))).trans (ae _ e)) (ah _) ?_,rfl,q _ (I.hok.fresh (ah _))⟩
 exact qZ z (mx.mpr (Ne.symm (bw I.big))) rel hm
def aZ5(H:Hp):List V->List (Int×Int)->Prop
 |[],[]=>True
 |v::vs,p::ps=>(∃a,v= .ref a/\H a=some (.tup [.int p.1,.int p.2]))/\aZ5 H vs ps
 |_,_=>False
inductive rCatA(x:V)(y:V)(H:Hp)(Q:VK):Prop
 |mk:∀a b xs ys,(x= .ref a)->(y= .ref b)->(H a=some (.tup xs))->(H b=some (.tup ys))->(xs.length+ys.length<=sizeLine)->(∀r H',bD H H'->H' r=some (.tup (xs++ys))->Q (.ref r) H')->rCatA x y H Q
theorem nC:jC X (binaryOp .Add) rCatA:=by
 intro pins s σ H x y v u Q I rx ry h
 obtain⟨a,b,xs,ys,rfl,rfl,ha,hb,hz,q⟩:=h
 by_cases hx:xs=[]
 ·subst hx
  cases rx
  cases ry
  obtain⟨its,r1,p1,_⟩:=I.tuple (aR.of ha)
  obtain⟨its2,r2,p2,_⟩:=I.tuple (aR.of hb)
  cases r1
  obtain⟨⟨cls,dd,data,sl⟩,ho,hc,n,hd⟩:=id p1
  obtain⟨⟨cls2,dd2,data2,sl2⟩,ho2,hc2,n2,hd2⟩:=id p2
  simp only at hc hd hc2 hd2
  subst hc hd hc2 hd2
  exact xx ⟨_,ho,rfl⟩ ⟨_,ho2,rfl⟩ uc xa ow om (nt _ _)
   (tuple_addW0 a b _ its2.toArray n n2 dd dd2 sl sl2 (by simp)) ⟨ho,ho2,.ref b,H,I,rfl,q b H (bD.refl _) hb⟩
 ·refine bD8 pins s σ H _ _ v u Q I rx ry ⟨a,b,xs,ys,rfl,rfl,aR.of ha,aR.of hb,hx,hz,fun e=>?_,fun _ p hp=>q p _ (aB hp _) aC⟩
  subst e
  exact q a H (bD.refl _) (by rw[gz];exact ha)
end
theorem aO2:typeLookup (.type "list") "keys"=pure none:=by rw[vf,pf];kernel_rfl
section
variable {prog:Program}{w:World}{A:Around}{E:Value->Shared->Prop}{s:Shared}
theorem keys_missL{a : Addr}{xs : Array Value}{k : Nat}{sl : Array (Option Value)}{Q : Option Value -> Shared -> Prop}(hx : s.heap.get? a = some { cls:= .type "list",dict:= none,data:= .seq xs k,slots:= sl })(hA : A.handled = none)
    (h : ∀h' tk,(∀b o,s.heap.get? b = some o -> h'.get? b = some o) -> Q none { s with heap:= h',toks:= tk }) : wpAny (model prog w) A (getAttr? (.ref a) "keys") Q E s:= by
  obtain⟨hp,g,d,tk,os⟩:= s
  have hT : ∀tk',(⟨hp,g,d,tk',os⟩ : Shared).TypeIs (.ref a) "list" := fun _ => ⟨_,hx,rfl⟩
  have f1:= sub_AttributeError
  have f3:= F.slot_list_getattribute.lookup
  have f4:= F.slot_list_getattribute.bind (.ref a)
  have f5:= am_list_getattr_none
  unfold getAttr? getAttrBy? getAttrBy
  repeat (any_goals (first|assumption|exact hT _ |
    ((with_reducible show wpAny _ _ (call (Value.builtin "list.__getattribute__") _ _) _ _ _)
     refine wn F.slot_list_getattribute (hT _) am_entry_list_getattribute (F.args_list_getattribute_2 _ _) (meets_getattribute_miss_list a xs k sl "keys" _ aO2 (by decide)) ⟨hx,hA,fun h' tk' e ne => ?_⟩)|wp_step))
  obtain⟨t',u',he⟩:= ne.there
  show wpAny _ _ (getattributeRaised _ _ _ _ _ _ _) _ _ _
  unfold getattributeRaised
  repeat (any_goals (first|assumption|wp_step))
  exact h _ _ ne.keeps
end
section
variable {X:Cx}{pins:List (Addr×Obj)}{σ:St}{H:Hp}{s:Shared}{A:Around}{E:Value->Shared->Prop}
theorem zV{p d it:Addr}{ys:List V}{o:Nat->HO}{Q:Value->Shared->Prop}(hu:A.in1.units<cLine)(hA:A.in1.handled=none)(hp:H p=some (.lst ys))(hd:H d=none)(hi0:H it=none)(hid:it≠d)(C:zF H d ys o)
  (q:∀s',aU X pins σ (aN H d (o ys.length)) s'->Q .none s'):∀(n i:Nat) (tk:Tok) (s:Shared),n+i=ys.length->aU X pins σ (aN H d (o i)) s->lJ X pins (aN H d (o i)) it->s.heap.IsListIter it p i ->
  codeAny (model X.prog X.w) A (.builtin "dict.update.loop" ⟨[.ref d,.ref it,.int i tk,.none],[]⟩) (wants Q E) s:=by
 intro n
 induction n with
 |zero =>
  intro i tk s hn I hf st
  have e:i=ys.length:=by lia
  subst e
  have hp':aN H d (o ys.length) p=some (.lst ys):=by rw[aH (aI hp hd)];exact hp
  obtain⟨its,rv,tp,hz⟩:=I.list (bK.of hp')
  obtain⟨f0,f1,f2,f3,f4,f5⟩:=hf
  have hl:=rv.length
  refine ji uB ?_
  unfold Builtin.«dict.update.loop»
  refine aa (vt hA st tp.isList (by simp;lia) fun h' eb=>?_)
  have I1:=I.turned (h':=h') (t':=s.toks) (fun b o hb e=>eb b o hb e) f0 f1 f3 f4 f5
  show wpAny _ _ (Builtin.Dict.addKeywords d []>>=fun _=>ret Value.none) _ _ _
  exact aa (aj (aj (q _ I1)))
 |succ n ih =>
  intro i tk s hn I hf st
  have hi:i<ys.length:=by lia
  obtain⟨t,k,v,ey,ht,g⟩:=C i hi
  have hp':aN H d (o i) p=some (.lst ys):=by rw[aH (aI hp hd)];exact hp
  have ht':aN H d (o i) t=some (.tup [k,v]):=by rw[aH (aI ht hd)];exact ht
  obtain⟨its,rv,tp,hz⟩:=I.list (bK.of hp')
  obtain⟨u,hu',ru⟩:=rv.get ey
  cases ru
  obtain⟨f0,f1,f2,f3,f4,f5⟩:=id hf
  refine ji uB ?_
  unfold Builtin.«dict.update.loop»
  refine aa (vi st tp.isList (x:= .ref t) (by simpa using hu') fun h' st' sb=>?_)
  have I1:=I.turned (h':=h') (t':=s.toks) (fun b o hb e=>(sb.2 b hb).trans e) f0 f1 f3 f4 f5
  obtain⟨its2,rv2,⟨o2,e2,c2,m2,d2⟩,_⟩:=I1.tuple (aR.of ht')
  obtain⟨uk,uv,rfl,rk,rV⟩:=pS rv2
  refine aa (ej (aa (wpAny_tryCatch ?_)))
  refine(show wpAny _ _ (typeOf (.ref t)>>=_) _ _ _ from aa (ud (T:="tuple") ⟨o2,e2,c2⟩ ?_))
  refine(show wpAny _ _ (seqItems? (.ref t)>>=_) _ _ _ from aa (jg e2 d2 (aj ?_)))
  show wpAny _ _ (holding [uk,uv] (dictSet d uk uv)) _ _ _
  refine ej (aH3 hu I1 g rk rV fun s2 I2 sb2=>?_)
  refine(show wpAny _ _ (again _) _ _ _ from aj ⟨rc _ (by decide),?_⟩)
  have ni:aN H d (o (i+1)) it=none:=by rw[aH hid];exact hi0
  exact ih (i+1) _ s2 (by lia) I2 ⟨ni,f1,f2,f3,f4,f5⟩ (st'.at fun ob e=>(sb2.2 it hid).trans e)
theorem yQ{k:Nat}(hr:dH k X.A):eA X (.type "dict") (fun xs H Q=>∃(p:Addr) (ys:List V) (o:Nat->HO),xs=[.ref p]/\H p=some (.lst ys)/\(o 0= .dK []\/o 0= .dT [])/\∀d,H d=none->zF H d ys o/\Q (.ref d) (aN H d (o ys.length))):=by
 intro pins s σ H xs us Q I r h
 obtain⟨p,ys,o,rfl,hp,h0,h⟩:=h
 obtain⟨u,rfl,ru⟩:=gN r
 cases ru
 have hf:H s.heap.objs.size=none:=I.hok.fresh (ah _)
 obtain⟨C,q⟩:=h _ hf
 have hu:=hr.units
 have ty:(⟨s.heap.push { cls:= .type "dict",data:= .dict #[] },s.gens,s.drawn,s.toks,s.os⟩:Shared).TypeIs (.ref s.heap.objs.size) "dict":=⟨_,bb _ rfl,rfl⟩
 have I1:aU X pins σ (aN H s.heap.objs.size (o 0)) { s with heap:=s.heap.push { cls:= .type "dict",data:= .dict #[] } }:=by
  rcases h0 with e|e
  ·rw[e]
   exact I.laid (a:=s.heap.objs.size) (o:= .dK []) (t':=s.toks) (fun _ _ q=>ae _ q) (ah _) (qG s.heap I.big)
  ·rw[e]
   exact I.laid (a:=s.heap.objs.size) (o:= .dT []) (t':=s.toks) (fun _ _ q=>ae _ q) (ah _) (aP0 s.heap I.big)
 refine callType_codes (Q₁:=fun obj s₁=>obj= .ref s.heap.objs.size/\s₁={ s with heap:=s.heap.push { cls:= .type "dict",data:= .dict #[] } }) F.kt_called_dict (F.kt_typeCall_dict_1 _) F.entry_dict_init (kt_code_dict_new _ ⟨rfl,rfl⟩) ?_
 rintro obj s₁ ⟨rfl,rfl⟩
 refine⟨ty,F.args_dict_init_2 _ _,?_⟩
 unfold Builtin.«dict.__init__»
 refine aa ?_
 unfold Builtin.Dict.selfAndRest
 refine aa (vz ty ?_)
 show wpAny _ _ (pure (s.heap.objs.size,[Value.ref p])) _ _ _
 refine aj ?_
 show wpAny _ _ (Builtin.Dict.updateFrom "dict.__init__" s.heap.objs.size (.ref p) [] .none) _ _ _
 unfold Builtin.Dict.updateFrom
 generalize hd0:s.heap.objs.size=d at hf C q I1 ⊢
 have hp1:aN H d (o 0) p=some (.lst ys):=by rw[aH (aI hp hf)];exact hp
 obtain⟨_,its,n1,rv,e1⟩:=(show bU X.prog X.w _ _ p (.lst ys) from I1.hok p _ hp1)
 refine aa (ud (T:="list") ⟨_,e1,rfl⟩ ?_)
 rw[bg (by decide)]
 refine aa (keys_missL e1 (show X.A.handled=none from hr.hd) fun h' tk kp=>?_)
 have I2:=I1.kept (h':=h') (t':=tk) kp
 rw[bg (by rfl)]
 refine aa (nz (aa (lm (items:=its.toArray) ⟨_,kp _ _ e1,rfl,_,rfl⟩ ?_)))
 have I3:=I2.kept (h':=h'.push { cls:= .type "list_iterator",data:= .fields #[.ref p,.int 0 0] }) (t':=tk) fun b o e=>ae _ e
 have hit:aN H d (o 0) h'.objs.size=none:=I2.hok.fresh (ah _)
 have hid:h'.objs.size≠d:=fun z=>by rw[z,aC] at hit;cases hit
 have hi0:H h'.objs.size=none:=by rw[aH hid] at hit;exact hit
 refine aj ⟨rc _ (by decide),?_⟩
 refine zV (A:=X.A.in1) (Q:=fun r s₂=>r=Value.none/\EP X pins σ Q (.ref d) s₂) (H:=H) (p:=p) (ys:=ys) (o:=o) (by show X.A.units+1+1<cLine;lia) (show X.A.handled=none from hr.hd) hp hf hi0 hid C (fun s' I'=>⟨rfl,.ref d,_,I',rfl,q⟩) ys.length 0 _ _ (by lia) I3 ⟨hit,?_⟩ ⟨_,bb _ rfl,rfl,rfl⟩
 exact(I2.fpOk (H':=aN H d (o 0)) (ah _) hit).2
end
section
variable {prog:Program}{w:World}{K:Type} [DecidableEq K] {knd:KeyKind prog w K}{A:Around}{E:Value->Shared->Prop}{s:Shared}
end
section
variable {X:Cx}
end
theorem qQ{X:Cx}{j:Nat}{p p2:Pos}:PE X (.UnaryOp .USub (.Constant (.int 1) j p) p2) (tC (.int (-1))):=fun pins s σ H Q I h =>
 aM6 (X:=X) zM aD pins s σ H Q I ⟨1,rfl,h⟩
section
variable {X:Cx}
inductive bG3(t:TT)(σ:St)(H:Hp)(Q:(Bool->Hp->Prop)):Prop
 |mk:∀P:Bool->Hp->Prop,(t σ H P)->(∀b G,P b G->Q b G)->bG3 t σ H Q
theorem fC{e:Expr}{t:TT}(h:PT X e t):PT X e (bG3 t):=by
 intro pins s σ H Q I ⟨P,h1,h2⟩
 refine cK (h pins s σ H P I h1) ?_;rintro b s' ⟨G,I',p⟩;exact⟨G,I',h2 b G p⟩
inductive bF7(t:TS)(D:jK)(σ:St)(H:Hp):Prop
 |mk:∀P:St->Hp->Prop,(t { D with nx:=P } σ H)->(∀σ' G,P σ' G->D.nx σ' G)->bF7 t D σ H
theorem jG{st:Stmt}{t:TS}(h:PS X st t):PS X st (bF7 t):=by
 intro pins s σ H D I ⟨P,h1,h2⟩
 refine cK (h pins s σ H _ I h1) fun f s' q=>?_
 cases f with
 |next =>
  obtain⟨σ',G,I',p⟩:=q
  exact⟨σ',G,I',h2 σ' G p⟩
 |ret v=>exact q
 |brk=>exact q
 |cont=>exact q
end
section
variable {X:Cx}{o e:Expr}{es:List Expr}{to:TE}{t:TA}{name:Str}{apos cpos:Pos}{T id:String}{r:V->List V->Hp->VK->Prop}
end
def gQ(σ:List Key)(k:Key):Bool:=σ.any fun j=>decide (j=k)
theorem iB{σ:List Key}{k:Key}:gQ σ k=true↔k∈σ:=by
 unfold gQ
 rw[jc]
 constructor
 ·rintro⟨j,m,e⟩
  rw[<-ag e];exact m
 ·exact fun m=>⟨k,m,af rfl⟩
def uL(σ:List Key)(k:Key):List Key:=if gQ σ k=true then σ else σ++[k]
def dd(ks:List Key):List Key:=ks.foldl uL []
theorem aE0(ks:List Key)(k:Key):dd (ks++[k])=uL (dd ks) k:=by unfold dd;rw[yv];rfl
theorem vJ{σ:List Key}{k j:Key}:j∈uL σ k↔j∈σ\/j=k:=by
 unfold uL
 split
 ·rename_i h
  constructor
  ·exact .inl
  ·rintro(z|z)
   ·exact z
   ·rw[z];exact iB.mp h
 ·simp
theorem tI:∀(ks σ:List Key),(ks.foldl uL σ).length<=σ.length+ks.length
 |[],σ=>ah _
 |k::r,σ=>by
  have:=tI r (uL σ k)
  have h2:(uL σ k).length<=σ.length+1:=by unfold uL;split<;>simp
  rw[jt,bz]
  lia
theorem bH8(ks:List Key):(dd ks).length<=ks.length:=by have:=tI ks [];simpa [dd] using this
theorem sW:∀(ks σ:List Key) (j:Key),j∈ks.foldl uL σ↔j∈σ\/j∈ks
 |[],σ,j=>by simp
 |k::r,σ,j=>by
  rw[jt,sW r,vJ,bu]
  constructor
  ·rintro((h|h)|h)
   ·exact .inl h
   ·exact .inr (.inl h)
   ·exact .inr (.inr h)
  ·rintro(h|h|h)
   ·exact .inl (.inl h)
   ·exact .inl (.inr h)
   ·exact .inr h
theorem bM5(ks:List Key)(j:Key):j∈dd ks↔j∈ks:=by unfold dd;rw[sW];simp
theorem oO:∀(ks σ:List Key),(σ++ks).Nodup->ks.foldl uL σ=σ++ks
 |[],σ,_=>by simp
 |k::r,σ,h=>by
  have hk:k∉σ:=fun m=>by
   rw[jk] at h
   exact h.2.2 k m k aq rfl
  rw[jt,show uL σ k=σ++[k] from av (fun z=>hk (iB.mp z)),oO r (σ++[k]) (by simpa using h)]
  simp
theorem wI{ks:List Key}(h:ks.Nodup):dd ks=ks:=by have:=oO ks [] (by simpa using h);simpa [dd] using this
theorem xR:∀(ks σ:List Key),σ.Nodup->(ks.foldl uL σ).Nodup
 |[],_,h=>h
 |k::r,σ,h=>by
  refine xR r _ ?_
  unfold uL
  split
  ·exact h
  ·rename_i hk
   rw[jk]
   exact⟨h,by simp,fun a ha b hb=>by rw[List.mem_singleton.mp hb];exact fun z=>hk (iB.mpr (z ▸ ha))⟩
theorem bW3(ks:List Key):(dd ks).Nodup:=xR ks [] (by simp)
section
variable {prog:Program}{w:World}{A:Around}{R:Result->Shared->Prop}{I:Addr}{fp wr:List Addr}{G:Array GenState->Array GenState->Prop}{n:Nat}{P:Nat->Value->Prop}{St:Nat->Shared->Prop}
theorem aF8(W:WalksS prog w A.in1 I fp wr G n P St)(S:Addr)(hSf:S∉fp)(ks:List Key)(hn:ks.length=n)(hval:∀i v,P i v->∃k,ks[i]?=some k/\iQ k v=true)(hb:n+1<scanBound) :
  ∀(k i:Nat) (s:Shared),n-i=k->i<=n->St i s ->
   s.heap.SetOf (aW prog w) S (gQ (dd (ks.take i))) (dd (ks.take i)).length ->
   (∀s',Moved (S::wr) G s s'->s'.heap.SetOf (aW prog w) S (gQ (dd ks)) (dd ks).length->R (.ok (.ret .none)) s') ->
   codeAny (model prog w) A (.builtin "set.update.loop" ⟨[.ref S,.ref I],[]⟩) R s:=by
 have hSw:S∉wr:=fun h=>hSf (W.sub _ h)
 have hsub:∀b∈wr,b∈S::wr:=fun b hb=>ak _ hb
 intro k
 induction k with
 |zero =>
  intro i s hk hi hst hS hR
  have hin:i=n:=by lia
  subst hin
  refine ji kw ?_
  rw[ki iz _]
  show wpAny _ A.in1 (pyNext (.ref I)>>=_) _ _ s
  refine aa (W.done s _ _ hst fun s' hm=>?_)
  show wpAny _ A.in1 (ret Value.none) _ _ s'
  rw[<-hn,cm] at hS
  exact aj (hR s' (hm.mono hsub) (by
   obtain⟨o,es,ep,t,ho,bM⟩:=hS
   exact⟨o,es,ep,t,hm.heap S _ hSw ho,bM⟩))
 |succ k ih =>
  intro i s hk hi hst hS hR
  have hlt:i<n:=by lia
  refine ji kw ?_
  rw[ki iz _]
  show wpAny _ A.in1 (pyNext (.ref I)>>=_) _ _ s
  refine aa (W.item i s _ _ hlt hst fun v s' hP hst' hm=>?_)
  obtain⟨kk,hkk,his⟩:=hval i v hP
  have hS':s'.heap.SetOf (aW prog w) S (gQ (dd (ks.take i))) (dd (ks.take i)).length:=by
   obtain⟨o,es,ep,tb,ho,bM⟩:=hS
   exact⟨o,es,ep,tb,hm.heap S _ hSw ho,bM⟩
  have hsc:v.scannable=true:=by rcases cN his with⟨i,t,rfl,rfl⟩|⟨x,t,rfl,rfl⟩<;>rfl
  show wpAny _ A.in1 (holding [v] (setAdd S v)>>=_) _ _ s'
  refine aa (ej ?_)
  unfold setAdd
  refine ej ?_
  refine aa ((aW prog w).pyHash (k:=kk) his ?_)
  have hroom:(dd (ks.take i)).length+1<scanBound:=by have:=bH8 (ks.take i);rw[ci] at this;lia
  refine wpAny_setAddHashed_of (knd:=aW prog w) (s:={ s' with toks:=s'.toks+1 }) his hsc hS' hroom fun h' hsb hS2=>?_
  have hSi:h'.SetOf (aW prog w) S (gQ (dd (ks.take (i+1)))) (dd (ks.take (i+1))).length:=by
   have e:ks.take (i+1)=ks.take i++[kk]:=by rw[qv,hkk];rfl
   rw[e,aE0]
   have e1:(fun k'=>gQ (dd (ks.take i)) k' || decide (k'=kk))=gQ (uL (dd (ks.take i)) kk):=funext fun k'=>by
    rw[ii,vg,fh,iB,iB]
    exact vJ.symm
   have e2:(if gQ (dd (ks.take i)) kk=true then (dd (ks.take i)).length else (dd (ks.take i)).length+1)=(uL (dd (ks.take i)) kk).length:=by
    unfold uL
    by_cases c:gQ (dd (ks.take i)) kk=true
    ·rw[bg c,bg c]
    ·rw[av c,av c,ao,js]
   rw[<-e1, <-e2]
   exact hS2
  refine aj ⟨rh iz _,ih (i+1) _ (by lia) hlt (W.frame _ s' _ _ hst' (gg _) fun b hb o e=>?_) hSi fun s'' hm'' hS''=>?_⟩
  ·rw[hsb.2 b (fun h:b=S=>hSf (by rw[<-h];exact hb))];exact e
  ·refine hR s'' (Moved.trans W.gtrans ((hm.mono hsub).then_heap (gg _) fun b o hb e=>?_) hm'') hS''
   rw[hsb.2 b (fun h:b=S=>hb (by rw[h];exact aq))];exact e
end
theorem oU{T newId initId:String}{prog:Program}{w:World}{A:Around}{E:Value->Shared->Prop}{s:Shared}{args:List Value}{Q Q₁:Value->Shared->Prop}(ft:TypeCalled T newId initId)(hct:checkTypeCall T ⟨args,[]⟩=pure ())
  (hn:codeAny (model prog w) A.in1 (.call (.builtin newId) ⟨.type T::args,[]⟩) (wants Q₁ E) s)
  (hi:∀obj t,Q₁ obj t->t.TypeIs obj T/\codeAny (model prog w) A.in1 (.call (.builtin initId) ⟨obj::args,[]⟩) (wants (fun r u=>r= .none/\Q obj u) E) t) :
  wpAny (model prog w) A (call (.type T) args) Q E s:=by
 have z1:=ft.notType;have z2:=ft.canCreate;have z3:=ft.made;have z4:=ft.sub
 obtain⟨c,tl,z5⟩:=ft.mro
 refine oh (codeAny_of_tree (show wpAny _ _ (callAny (.type T) _) _ _ _ from aj ⟨rc _ (by decide),ji F.entry_type_call ?_⟩))
 rw[Around.under_plain (weight_type_call_type T args []) rfl]
 repeat (any_goals (first|assumption|wp_step))
 refine km hn fun r t hr=>?_
 match r,hr with
 |.error e,hr=>exact hr
 |.ok .next,hr=>exact hr.elim
 |.ok .brk,hr=>exact hr.elim
 |.ok .cont,hr=>exact hr.elim
 |.ok (.ret obj),hr =>
  obtain⟨hT,hc⟩:=hi _ _ hr
  have y1:=ft.init.lookup;have y2:=ft.init.bind obj
  repeat (any_goals (first|assumption|wp_step))
  refine km hc fun r2 t2 hr2=>?_
  match r2,hr2 with
  |.error e,hr2=>exact hr2
  |.ok .next,hr2=>exact hr2.elim
  |.ok .brk,hr2=>exact hr2.elim
  |.ok .cont,hr2=>exact hr2.elim
  |.ok (.ret r),hr2 =>
   obtain⟨rfl,hq⟩:=hr2
   repeat (any_goals (first|assumption|wp_step))
theorem aQ6:isSubtype (.type "tuple") (.type "set")=pure false:=by rw[vw];kernel_rfl
theorem xL:isSubtype (.type "tuple") (.type "frozenset")=pure false:=by rw[vw];kernel_rfl
section
variable {prog:Program}{w:World}{A:Around}{E:Value->Shared->Prop}{s:Shared}
abbrev cD(led:Bool):Obj:={ cls:= .type "set",dict:=none,data:= .set #[] 0 (.fresh 0 0 led) }
theorem aG1{l:Addr}{items:Array Value}{ks:List Key}{Q:Value->Shared->Prop}(hh:A.handled=none)(hl:s.heap.IsTuple l items)(hk:ks.length=items.size)(hi:∀(i:Nat) (v:Value),items[i]?=some v->∃k,ks[i]?=some k/\iQ k v=true)(hb:items.size+1<scanBound)
  (q:∀(h':Heap) (tk:Nat),h'.SetOf (aW prog w) s.heap.objs.size (gQ (dd ks)) (dd ks).length->(∀b o,s.heap.get? b=some o->h'.get? b=some o)->Q (.ref s.heap.objs.size) { s with heap:=h',toks:=tk }) :
  wpAny (model prog w) A (call (.type "set") [.ref l]) Q E s:=by
 have lS:l<s.heap.objs.size:=by obtain⟨o,e,_⟩:=hl;exact ay e
 refine oU (Q₁:=fun obj t=>∃led,obj= .ref s.heap.objs.size/\t={ s with heap:=s.heap.push (cD led) }) F.called_set (zh _) (code_set_new_1 _ fun led=>⟨led,rfl,rfl⟩) ?_
 rintro _ _ ⟨led,rfl,rfl⟩
 have gS:(s.heap.push (cD led)).get? s.heap.objs.size=some (cD led):=bb _ rfl
 have tS:Shared.TypeIs { s with heap:=s.heap.push (cD led) } (.ref s.heap.objs.size) "set":=⟨_,gS,rfl⟩
 have tl:(s.heap.push (cD led)).IsTuple l items:=hl.at fun o e=>ae _ e
 refine⟨tS,qg F.called_set.init.plain zj (zk tS ?_)⟩
 obtain⟨⟨oc,od,oda,osl⟩,ho,hc,n0,hd⟩:=id tl
 dsimp only at hc hd
 subst hc hd
 have f1:=aQ6;have f2:=xL
 have f3:(Value.type "tuple" == Value.type "dict")=false:=by decide
 have T1:Heap.IsTuple (Shared.heap { s with heap:=s.heap.push (cD led) }) l items:=tl
 unfold Builtin.«set.__init__» noKeywords Builtin.Frozenset.updateFrom
 wp_walk using nj T1
 have z1:(s.heap.push (cD led)).objs.size=s.heap.objs.size+1:=kj ..
 have hne:l≠(s.heap.push (cD led)).objs.size:=by rw[z1];exact bw (kh lS)
 have hSf:s.heap.objs.size∉[(s.heap.push (cD led)).objs.size,l]:=by
  rw[z1]
  simp only[List.mem_cons,List.not_mem_nil,or_false,not_or]
  exact⟨bw (fc _),jp lS⟩
 have gS2:((s.heap.push (cD led)).push { cls:= .type "tuple_iterator",data:= .fields #[.ref l,.int 0 0] }).get? s.heap.objs.size=some (cD led):=ae _ gS
 refine aF8 (A:=A.in1.in1) ((Walks.tuple (show A.in1.in1.in1.handled=none from hh) _ l hne items).toS) s.heap.objs.size hSf ks hk hi hb (items.size-0) 0 _ rfl (bt _) ⟨⟨_,bb _ rfl,rfl,rfl⟩,tl.at fun o e=>ae _ e⟩
  ⟨_,_,_,_,gS2,⟨rfl,rfl,rfl⟩,rfl,fun e he=>absurd he (by simp),fun k=>⟨fun z=>absurd z (by simp[dd,gQ]),(by rintro⟨e,he,_⟩;exact absurd he (by simp))⟩,by decide,rfl,rfl⟩ fun s' hm hS'=>?_
 obtain⟨h',g',d',tk',os'⟩:=s'
 obtain rfl:g'=s.gens:=hm.gens
 obtain rfl:d'=s.drawn:=hm.drawn
 obtain rfl:os'=s.os:=hm.os
 refine aj (aj ⟨rfl,q h' tk' hS' fun b o e=>hm.heap b o ?_ (ae _ (ae _ e))⟩)
 have bl:=ay e
 rw[z1]
 simp only[List.mem_cons,List.not_mem_nil,or_false,not_or]
 exact⟨bw bl,bw (kh bl)⟩
end
section
variable {X:Cx}
def wT(P:Program)(w:World)(a:Addr)(ks:List Key):HO:= .ext fun h=>h.SetOf (aW P w) a (gQ (dd ks)) (dd ks).length
theorem tW:∀{ks:List Key}{us:List Value},bI (ks.map kV) us->∀(i:Nat) (v:Value),us[i]?=some v->∃k,ks[i]?=some k/\iQ k v=true
 |[],_,h,i,v,e=>by cases h;simp at e
 |k::r,_,h,i,v,e=>by
  rw[ek] at h
  cases h with
  |cons h1 h2 =>
   cases i with
   |zero =>
    simp only[List.getElem?_cons_zero,Option.some.injEq] at e
    subst e
    cases k with
    |inl n=>obtain⟨t,rfl⟩:=h1;exact⟨_,rfl,kZ n t⟩
    |inr x=>obtain⟨t,rfl⟩:=h1;exact⟨_,rfl,gD x t⟩
   |succ i=>exact tW h2 i v (by simpa using e)
theorem aG2(P:Program)(w:World){k:Nat}(hr:dH k X.A)(hP:autoParam (X.prog=P) Rq0._auto_1)(hw:autoParam (X.w=w) Rq0._auto_1):eA X (.type "set") (fun xs H Q=>∃(p:Addr) (ks:List Key),xs=[.ref p]/\aR X.K H p (ks.map kV)/\ks.length<=1000/\∀a,H a=none->Q (.ref a) (aN H a (wT P w a ks))):=by
 subst hP hw
 intro pins s σ H xs us Q I r h
 obtain⟨p,ks,rfl,hp,hl,q⟩:=h
 obtain⟨u,rfl,ru⟩:=gN r
 cases ru
 obtain⟨its,rv,pl,_⟩:=I.tuple hp
 have ln:=rv.length
 rw[ac] at ln
 refine aG1 (items:=its.toArray) (ks:=ks) hr.hd pl (by rw[bn];exact ln) (fun i v e=>tW rv i v (by simpa using e)) (by rw[List.size_toArray, <-ln];unfold scanBound;lia) fun h' tk hS kp=>?_
 refine⟨.ref s.heap.objs.size,_,I.laid (t':=tk) (o:=wT X.prog X.w s.heap.objs.size ks) kp (ah _) ?_,rfl,q _ (I.hok.fresh (ah _))⟩
 refine⟨hS,?_,(by rintro h1 h2 ⟨o,es,ep,t,ho,bM⟩ k2;exact⟨o,es,ep,t,k2 o ho,bM⟩)⟩
 obtain⟨o,_,_,_,ho,_⟩:=hS
 exact⟨o,ho⟩
theorem aJ0(P:Program)(w:World)(hP:autoParam (X.prog=P) Rq0._auto_1)(hw:autoParam (X.w=w) Rq0._auto_1):eA X (.builtin "len") (fun xs H Q=>∃(a:Addr) (ks:List Key),xs=[.ref a]/\H a=some (wT P w a ks)/\Q (.int (dd ks).length) H):=by
 subst hP hw
 intro pins s σ H xs us Q I r h
 obtain⟨a,ks,rfl,ha,q⟩:=h
 obtain⟨u,rfl,ru⟩:=gN r
 cases ru
 obtain⟨⟨o,es,ep,t,ho,hex,hd,_,_,hb,hf,hn⟩,_,_⟩:=(show bU X.prog X.w H s.heap a (wT X.prog X.w a ks) from I.hok a _ ha)
 rw[<-hn] at q
 exact call_len_set ho hex hd hf (by unfold scanBound at hb;lia) ⟨.int es.size,H,I.tok _,⟨_,rfl⟩,q⟩
end
theorem bQ8{X:Cx}:jC X (compareOp .Is) (fun x y H Q=>∃a b,x= .bl a/\y= .bl b/\Q (.bl (a==b)) H):=by
 intro pins s σ H x y v u Q I rx ry h
 obtain⟨a,b,rfl,rfl,q⟩:=h
 cases rx
 cases ry
 exact is_bool ⟨.bl (a==b),H,I,rfl,q⟩
theorem tV{d:Addr}{o:Obj}{kvs:List (Key×V)}{g:TG}{tb:TS}{D:jK}{σ:St}{H:Hp}(Pv:Nat->St->Hp->Prop)(h0:Pv 0 σ H)(hl:∀i σ H,i<=kvs.length->Pv i σ H->H d=some (.frz o (.dK kvs)))
  (hs:∀(D':jK),∀i k v σ H,kvs[i]?=some (k,v)->Pv i σ H->g (kV k) σ H fun σ2 H2=>tb { D' with nx:=Pv (i+1),ct:=Pv (i+1),bk:=D'.nx } σ2 H2) (hd:∀σ H,Pv kvs.length σ H->D.nx σ H) :
  ∃W:Nat->Nat->St->Hp->Prop,(∃m,W 0 m σ H)/\∀i m σ H,W i m σ H ->
   ((Itd d o kvs).stop i H/\D.nx σ H)\/((Itd d o kvs).go i H/\∃N:St->Hp->Prop,(∀σ' H',N σ' H'->∃m',m'<m/\W (i+1) m' σ' H')/\∀x H',(Itd d o kvs).yld i H x H'->g x σ H' fun σ2 H2=>tb { D with nx:=N,ct:=N,bk:=D.nx } σ2 H2):=by
 refine⟨fun i m σ H=>m=kvs.length-i/\i<=kvs.length/\Pv i σ H,⟨_,rfl,bt _,h0⟩,?_⟩
 rintro i m σ H ⟨rfl,hi,p⟩
 by_cases c:i<kvs.length
 ·right
  refine⟨⟨c,hl i σ H hi p⟩,Pv (i+1),fun σ' H' p'=>⟨kvs.length-(i+1),by lia,rfl,c,p'⟩,?_⟩
  rintro x H' ⟨rfl,k,v,e,rfl⟩
  exact hs D i k v σ _ e p
 ·left
  have e:i=kvs.length:=by lia
  exact⟨⟨by lia,hl i σ H hi p⟩,hd σ H (by rw[<-e];exact p)⟩
theorem bE8(n:Nat):ixN (n+1) (-1)=some n:=by
 unfold ixN
 rw[av (by decide),bg (by lia)]
 exact dz some (by lia)
theorem rS{X:Cx}:bT5 X (fun o i H Q=>∃p xs v,o= .ref p/\i= .int (-1)/\bK X.K H p (xs++[v])/\Q v H):=by
 intro pins s σ H o i ov iv Q I ro ri h
 obtain⟨p,xs,v,rfl,rfl,hq,q⟩:=h
 cases ro
 obtain⟨t,rfl⟩:=ri
 obtain⟨its,r,pl,hz⟩:=I.list hq
 obtain⟨w,ew,rw'⟩:=r.get (i:=xs.length) (x:=v) (by simp)
 have hl:=r.length
 rw[ao,bz,pw] at hl
 have hn:=kH
 have hj:(-1+(its.toArray.size:Int)).toNat=xs.length:=by rw[bn];lia
 exact vn pl.isList (by decide) (by rw[bn];lia) (by lia) (by rw[hj];simpa using ew) ⟨v,H,I,rw',q⟩
theorem rR{X:Cx}:bC9 X (fun o i v H Q=>∃p xs y,o= .ref p/\i= .int (-1)/\H p=some (.lst (xs++[y]))/\Q (aN H p (.lst (xs++[v])))):=by
 intro pins s σ H o i v ov iv u Q I ro ri rv h
 obtain⟨p,xs,y,rfl,rfl,hp,q⟩:=h
 refine xB pins s σ H _ _ v ov iv u Q I ro ri rv ⟨p,_,-1,xs.length,rfl,rfl,hp,?_,?_⟩
 ·rw[ao]
  exact bE8 _
 ·rw[List.set_append_right _ _ (ah _),ye]
  exact q
theorem aH8(t:SetTable)(j:Nat):(t.put j).1.led=t.led/\(t.put j).1.plain=t.plain:=by
 unfold SetTable.put
 split<;>exact⟨rfl,rfl⟩
theorem sN(t:SetTable)(n:Nat):(t.orStandIn n).led=t.led/\(t.plain=false->(t.orStandIn n).plain=false):=by
 unfold SetTable.orStandIn
 split
 ·exact⟨rfl,id⟩
 ·exact⟨rfl,fun _=>rfl⟩
theorem aI7(t:SetTable)(es:Array (Int×Value))(h:Int)(x:Value):(layNew t es h x).2.1.led=t.led/\(t.plain=false->(layNew t es h x).2.1.plain=false):=by
 unfold layNew
 split
 ·rename_i slot d e
  have p:=aH8 t slot
  cases q:t.put slot with
  |mk t' k =>
   rw[q] at p
   have p:t'.led=t.led/\t'.plain=t.plain:=p
   have z:=sN t' (SetTable.insertAt es k (h,x)).size
   show(t'.orStandIn _).led=_/\(_->(t'.orStandIn _).plain=false)
   rw[z.1,p.1]
   exact⟨rfl,fun e=>z.2 (by rw[p.2];exact e)⟩
 ·exact⟨rfl,fun _=>rfl⟩
theorem yM{m f v:Nat}{l p:Bool}{hs:Array Int}{t:SetTable}{o:Array Nat}(h:SetTable.laid m f v l p hs=some (t,o)):t.led=l/\t.plain=p:=by
 unfold SetTable.laid at h
 cases q:SetTable.layClean m hs with
 |none=>rw[q] at h;cases h
 |some z =>
  rw[q] at h
  cases h
  exact⟨rfl,rfl⟩
theorem wP(t:SetTable)(es:Array (Int×Value))(n:Nat):(relayAll t es n).2.1.led=t.led/\(t.plain=false->(relayAll t es n).2.1.plain=false):=by
 unfold relayAll
 split
 ·rename_i t' o e
  obtain⟨a,b⟩:=yM e
  dsimp only
  split
  ·exact⟨a,fun z=>b.trans z⟩
  ·exact⟨rfl,fun _=>rfl⟩
 ·exact⟨rfl,fun _=>rfl⟩
def fU(prog:Program)(w:World)(h:Heap)(a:Addr)(S:Key->Bool)(n:Nat)(led:Bool):Prop:=
 ∃(o:Obj) (es:Array (Int×Value)) (ep:Nat) (t:SetTable),(h.get? a=some o/\o.ExactSet/\o.data= .set es ep t)/\(ElemsOf (aW prog w) es.toList/\∀j,S j=true↔∃e∈es.toList,(aW prog w).is j e.2=true)/\(es.size<scanBound/\t.fits es.size=true/\es.size=n)/\t.led=led/\(0<n->t.plain=false)
section
variable {prog:Program}{w:World}{A:Around}{E:Value->Shared->Prop}{s:Shared}{a:Addr}{S:Key->Bool}{n:Nat}{led:Bool}
theorem fU.of{h:Heap}(x:fU prog w h a S n led):h.SetOf (aW prog w) a S n:=by
 obtain⟨o,es,ep,t,⟨x1,x2,x3⟩,⟨x4,x5⟩,⟨x6,x7,x8⟩,_⟩:=x
 exact⟨o,es,ep,t,x1,x2,x3,x4,x5,x6,x7,x8⟩
theorem fU.keep{h h':Heap}(x:fU prog w h a S n led)(k:∀o,h.get? a=some o->h'.get? a=some o):fU prog w h' a S n led:=by
 obtain⟨o,es,ep,t,⟨x1,x2,x3⟩,r⟩:=x
 exact⟨o,es,ep,t,⟨k o x1,x2,x3⟩,r⟩
theorem fU.stored{h:Heap}{o:Obj}{es es':Array (Int×Value)}{ep:Nat}{t t':SetTable}(h1:h.get? a=some o)(h2:o.ExactSet)(h3:o.data= .set es ep t)(h4:ElemsOf (aW prog w) es'.toList)(h5:∀j,S j=true↔∃e∈es'.toList,(aW prog w).is j e.2=true)(h6:es'.size<scanBound)(h7:t'.fits es'.size=true)(h8:t'.led=led)(h9:t'.plain=false) :
  (h.update a (Obj.putSet es' t')).get? a=some { o with data:= .set es' (ep+1) t' }/\fU prog w (h.update a (Obj.putSet es' t')) a S es'.size led:=by
 obtain⟨g,_⟩:=SetOf_store (knd:=aW prog w) (S':=S) h1 h2 h3 h4 h5 h6 h7
 exact⟨g,_,es',ep+1,t',⟨g,h2,rfl⟩,⟨h4,h5⟩,⟨h6,h7,rfl⟩,h8,fun _=>h9⟩
theorem sU{g:Bool->Sem Unit}(hg:∀(b:Bool) (z:Shared) (R:Unit->Shared->Prop),R () z->wpAny (model prog w) A (g b) R E z)
  {o:Obj}{es es1:Array (Int×Value)}{ep:Nat}{t t2:SetTable}(h1:s.heap.get? a=some o) (h2:o.ExactSet) (h3:o.data= .set es ep t)
  (h4:ElemsOf (aW prog w) es1.toList) (h5:∀j,S j=true↔∃e∈es1.toList,(aW prog w).is j e.2=true) (h6:es1.size<scanBound) (h7:t2.fits es1.size=true) (h8:t2.led=led) (h9:t2.plain=false) {d:Bool}{R:Option Bool->Shared->Prop}
  (k:∀h',Heap.SameBut a s.heap h'->fU prog w h' a S es1.size led->R (some true) { s with heap:=h' }) :
  wpAny (model prog w) A (do
   storeSet a es1 t2
   if (!d&&t2.tooFull)=true then
    (do g (relayAll t2 es1 (SetTable.grown es1.size)).2.2;storeSet a (relayAll t2 es1 (SetTable.grown es1.size)).1 (relayAll t2 es1 (SetTable.grown es1.size)).2.1;pure (some true))
   else pure (some true)) R E s:=by
 obtain⟨o1,S1⟩:=fU.stored (led:=led) h1 h2 h3 h4 h5 h6 h7 h8 h9
 have b1:=kr s.heap a (Obj.putSet es1 t2)
 refine aa (yw h1 h3 ?_ (yx h6))
 by_cases c:(!d&&t2.tooFull)=true
 ·rw[bg c]
  have pm:=relayAll_perm t2 es1 (SetTable.grown es1.size)
  have ft:=relayAll_fits t2 es1 (SetTable.grown es1.size)
  have mk:=wP t2 es1 (SetTable.grown es1.size)
  revert pm ft mk
  cases relayAll t2 es1 (SetTable.grown es1.size) with
  |mk es2 z =>
  cases z with
  |mk t3 gv =>
  intro pm ft mk
  have sz:es2.size=es1.size:=by rw[<-eo, <-eo];exact pm.length_eq
  have b2:es2.size<scanBound:=by rw[sz];exact h6
  refine aa (hg _ _ _ (aa (yw o1 rfl ?_ (yx b2))))
  obtain⟨_,S2⟩:=fU.stored (led:=led) (S:=S) (es':=es2) (t':=t3) o1 h2 rfl (h4.perm pm) (fun j=>(h5 j).trans ⟨(by rintro⟨e,m,q⟩;exact⟨e,pm.mem_iff.mpr m,q⟩),(by rintro⟨e,m,q⟩;exact⟨e,pm.mem_iff.mp m,q⟩)⟩) b2 ft (mk.1.trans h8) (mk.2 h9)
  rw[sz] at S2
  exact aj (k _ (b1.trans (kr _ a _)) S2)
 ·rw[av c]
  exact aj (k _ b1 S1)
theorem aJ8{x:Value}{z:Str}{Q:Bool->Shared->Prop}(hx:(aW prog w).is (Sum.inr z) x=true)(sx:x.scannable=true)(px:plainKind x=false)(F:fU prog w s.heap a S n led)(room:n+1<scanBound)
  (k:∀h',Heap.SameBut a s.heap h'->fU prog w h' a (fun j=>S j || decide (j=Sum.inr z)) (if S (Sum.inr z) then n else n+1) led->Q (!S (Sum.inr z)) { s with heap:=h' }) :
  wpAny (model prog w) A (setAddHashed a x ((aW prog w).hash (Sum.inr z))) Q E s:=by
 obtain⟨o,es,ep,t,⟨x1,x2,x3⟩,⟨x4,x5⟩,⟨x6,x7,x8⟩,x9,x10⟩:=F
 unfold setAddHashed setAddHashedIn
 refine ej (aa (wpAny_setState_of x1 x3 x7 ?_))
 dsimp only
 rw[byScan_of sx x6 x4,bg rfl]
 unfold setAddByScan
 refine aa (aa (nz (aa (wpAny_setScan_of hx x1 x3 x7 x4 ?_))))
 cases f:List.findIdx? (fun e=>(aW prog w).is (Sum.inr z) e.2) es.toList with
 |some j =>
  obtain⟨hj,pj,_⟩:=List.findIdx?_eq_some_iff_getElem.mp f
  have there:S (Sum.inr z)=true:=(x5 _).mpr ⟨es.toList[j],uj hj,pj⟩
  refine aj (aj ?_)
  have q:=k s.heap (Heap.SameBut.refl a s.heap) ⟨o,es,ep,t,⟨x1,x2,x3⟩,⟨x4,fun i=>?_⟩,⟨x6,x7,by rw[bg there];exact x8⟩,x9,by rw[bg there];exact x10⟩
  ·rw[there] at q;exact q
  ·rw[<-x5 i,vg,fh]
   constructor
   ·rintro(q|q)
    ·exact q
    ·rw[q];exact there
   ·exact .inl
 |none =>
  have away:S (Sum.inr z)=false:=by
   cases q:S (Sum.inr z) with
   |false=>rfl
   |true =>
    obtain⟨e,m,y⟩:=(x5 _).mp q
    have u:=List.findIdx?_eq_none_iff.mp f e m
    rw[y] at u;cases u
  have gw:∀(b:Bool) (z:Shared) (R:Unit->Shared->Prop),R () z->wpAny (model prog w) A (match b with|true=>rule "set.scan.the-table-gave-way" | false=>pure ()) R E z:=fun b z R q=>by
   cases b
   ·exact aj q
   ·exact nz q
  have pm:=layNew_perm t es ((aW prog w).hash (Sum.inr z)) x
  have ft:=layNew_fits t es ((aW prog w).hash (Sum.inr z)) x
  have mk:=aI7 t es ((aW prog w).hash (Sum.inr z)) x
  dsimp only
  revert pm ft mk
  cases layNew t es ((aW prog w).hash (Sum.inr z)) x with
  |mk es1 z1 =>
  cases z1 with
  |mk t1 z2 =>
  cases z2 with
  |mk wd gv =>
  intro pm ft mk
  dsimp only at pm ft mk ⊢
  rw[Array.toList_push] at pm
  have el1:ElemsOf (aW prog w) es1.toList:=(x4.push hx sx).perm pm
  have mm:=mem_push_iff (knd:=aW prog w) hx x5 pm
  have l1:es1.size=n+1:=by
   have e:=pm.length_eq
   rw[ao,eo,eo,x8] at e
   exact e
  have b1:es1.size<scanBound:=by rw[l1];exact room
  have fin:∀h',Heap.SameBut a s.heap h'->fU prog w h' a (fun j=>S j || decide (j=Sum.inr z)) es1.size led->Q true { s with heap:=h' }:=fun h' b F'=>by
   have q:=k h' b
   rw[away] at q
   rw[l1] at F'
   exact q F'
  refine aa (gw _ _ _ ?_)
  cases pl:t1.plain with
  |true =>
   rw[bg rfl]
   refine aa ?_
   rw[hashByValue_scannable 8 sx,px]
   refine aj ?_
   refine sU (S:=fun j=>S j || decide (j=Sum.inr z)) (led:=led) (t2:={ t1 with plain:=false }) gw x1 x2 x3 el1 mm b1 (SetTable.fits_plain_off ft) (mk.1.trans x9) rfl fun h' b F'=>?_
   exact aj (fin h' b F')
  |false =>
   rw[av (by decide)]
   refine aa (aj ?_)
   refine sU (S:=fun j=>S j || decide (j=Sum.inr z)) (led:=led) (t2:=t1) gw x1 x2 x3 el1 mm b1 ft (mk.1.trans x9) pl fun h' b F'=>?_
   exact aj (fin h' b F')
end
theorem aP1{vs:List V}{us:List Value}(hl:us.length=vs.length)(h:∀(j:Nat) (u:Value),us[j]?=some u->∃v,vs[j]?=some v/\bJ v u):bI vs us:=by
 induction vs generalizing us with
 |nil=>cases us with
  |nil=>exact .nil
  |cons _ _=>simp at hl
 |cons v vs ih=>cases us with
  |nil=>simp at hl
  |cons u us =>
   obtain⟨v',e,r⟩:=h 0 u rfl
   cases e
   exact .cons r (ih (by simpa using hl) fun j w e=>h (j+1) w (by simpa using e))
abbrev zQ(w:World):Bool:=w.params.followText "set-order"
section
variable {prog:Program}{w:World}{A:Around}{E:Value->Shared->Prop}{s:Shared}
end
section
variable {prog:Program}{w:World}{A:Around}{E:Value->Shared->Prop}{s:Shared}{a:Addr}{o:Obj}{es:Array (Int×Value)}{ep:Nat}{t:SetTable}
end
section
variable {prog:Program}{w:World}{A:Around}{E:Value->Shared->Prop}{s:Shared}{a it tp:Addr}{o:Obj}{es:Array (Int×Value)}{ep:Nat}{t:SetTable}
theorem yZ{α:Type}{R:α->Shared->Prop}(hh:A.handled=none)(k:∀e g,(∀c o,s.heap.get? c=some o->g.get? c=some o)->(∃oe,g.get? e=some oe/\oe.cls= .type "StopIteration")->E (.ref e) { s with heap:=g }) :
  wpAny (model prog w) A (newExc (.type "StopIteration") []>>=fun e=>raiseNew (α:=α) e) R E s:=by
 refine aa ?_
 simp only[newExc,newTuple]
 refine aa (fg (aa (m:=firstArgMember _ _) (ze (a:=Value.none) (by first|rfl|(simp only[firstArgMember];rfl)) (fg ?_ (by size_fits)))) (by size_fits))
 unfold raiseNew
 refine aa (wpAny_handled ?_)
 rw[hh]
 refine aa (aj (wpAny_throw (k _ _ (fun c o e=>ae _ (ae _ e)) ⟨_,bb _ rfl,rfl⟩)))
end
theorem mU:entryFor table "dict_keyiterator.__next__"=some Builtin.«dict_keyiterator.__next__» :=um (by kernel_rfl)
theorem vC:entryFor table "dict.__iter__"=some Builtin.«dict.__iter__» :=um (by kernel_rfl)
section
variable {prog:Program}{w:World}{A:Around}{E:Value->Shared->Prop}{s:Shared}{d it:Addr}{o:Obj}{es:Array DictEntry}{ep i:Nat}
theorem aK7{e:DictEntry}{Q:Option Value->Shared->Prop}(hit:s.heap.IsKeyIter it d i es.size ep)(h1:s.heap.get? d=some o)(h3:o.data= .dict es ep)(he:es[i]?=some e)
  (hQ:∀h',h'.IsKeyIter it d (i+1) es.size ep->Heap.SameBut it s.heap h'->Q (some e.key) { s with heap:=h' }):wpAny (model prog w) A (pyNext (.ref it)) Q E s:=by
 obtain⟨oi,ho,hc,hd⟩:=id hit
 unfold pyNext
 refine aa (mo (ie (name:=Str.ofString "__next__") hit.typeIs jo (io jo hit.typeIs mU ?_ (qh _))))
 refine(show wpAny _ _ (Builtin.Dict_items.slot0 "__next__" ⟨[.ref it],[]⟩>>=_) _ _ _ from aa ?_)
 unfold Builtin.Dict_items.slot0 slotArgs
 simp only[List.isEmpty_nil,Bool.not_true,Bool.false_eq_true,if_false,bind_assoc,List.length_nil,bne_self_eq_false]
 refine aa (aj (aj (aa ?_)))
 refine(show wpAny _ _ ((typeNameOfWhole (.ref it)>>=fun _=>_)>>=fun _=>_) _ _ _ from aa (aa (jm hit.typeIs (aj ?_))))
 refine aa (wpAny_fieldsOf ho hd ?_)
 dsimp only
 refine(show wpAny _ _ (dictEntries d>>=fun _=>_) _ _ _ from aa (su h1 h3 ?_))
 rw[av (by simp)]
 refine(show wpAny _ _ (dictEpoch d>>=fun _=>_) _ _ _ from aa (vh h1 h3 ?_))
 rw[av (by simp)]
 refine aj ?_
 refine(show wpAny _ _ (match if (i:Int)<0 then none else es[(i:Int).toNat]? with|some e=>_|none=>_) _ _ _ from ?_)
 rw[av (by lia),jb,he]
 dsimp only
 refine(show wpAny _ _ ((typeNameOfWhole (.ref it)>>=fun _=>_)>>=fun _=>_) _ _ _ from aa (aa (jm hit.typeIs (aj ?_))))
 refine aa (wb hit.typeIs ?_)
 refine aa (lu ho hd (by show(1:Nat)<4;decide) ?_)
 have hit':(s.heap.update it (Obj.mapFields (·.setIfInBounds 1 (rawInt ((i:Int)+1))))).IsKeyIter it d (i+1) es.size ep:=
  ⟨_,ik _ ho (ju (ib hd _)),(sr ..).trans hc,by rw[ib hd];simp[rawInt]⟩
 refine aa (ej ?_)
 refine(show wpAny _ _ (Builtin.Dict_items.isOneOf (.ref it) _>>=fun _=>_) _ _ _ from aa (wb (s:={ s with heap:=s.heap.update it (Obj.mapFields (·.setIfInBounds 1 (rawInt ((i:Int)+1)))) }) hit'.typeIs ?_))
 refine(show wpAny _ _ (pure e.key) _ _ _ from aj ?_)
 exact aj ⟨_,rfl,aj (hQ _ hit' (kr ..))⟩
theorem aZ3{Q:Option Value->Shared->Prop}(hh:A.handled=none)(hit:s.heap.IsKeyIter it d i es.size ep)(h1:s.heap.get? d=some o)(h3:o.data= .dict es ep)(he:es[i]?=none)
  (hQ:∀h',(∀c u,c≠it->s.heap.get? c=some u->h'.get? c=some u)->Q none { s with heap:=h' }):wpAny (model prog w) A (pyNext (.ref it)) Q E s:=by
 obtain⟨oi,ho,hc,hd⟩:=id hit
 unfold pyNext
 refine aa (mo (ie (name:=Str.ofString "__next__") hit.typeIs jo (io jo hit.typeIs mU ?_ (qh _))))
 refine(show wpAny _ _ (Builtin.Dict_items.slot0 "__next__" ⟨[.ref it],[]⟩>>=_) _ _ _ from aa ?_)
 unfold Builtin.Dict_items.slot0 slotArgs
 simp only[List.isEmpty_nil,Bool.not_true,Bool.false_eq_true,if_false,bind_assoc,List.length_nil,bne_self_eq_false]
 refine aa (aj (aj (aa ?_)))
 refine(show wpAny _ _ ((typeNameOfWhole (.ref it)>>=fun _=>_)>>=fun _=>_) _ _ _ from aa (aa (jm hit.typeIs (aj ?_))))
 refine aa (wpAny_fieldsOf ho hd ?_)
 dsimp only
 refine(show wpAny _ _ (dictEntries d>>=fun _=>_) _ _ _ from aa (su h1 h3 ?_))
 rw[av (by simp)]
 refine(show wpAny _ _ (dictEpoch d>>=fun _=>_) _ _ _ from aa (vh h1 h3 ?_))
 rw[av (by simp)]
 refine aj ?_
 refine(show wpAny _ _ (match if (i:Int)<0 then none else es[(i:Int).toNat]? with|some e=>_|none=>_) _ _ _ from ?_)
 rw[av (by lia),jb,he]
 dsimp only
 refine(show wpAny _ _ ((typeNameOfWhole (.ref it)>>=fun _=>_)>>=fun _=>_) _ _ _ from aa (aa (jm hit.typeIs (aj ?_))))
 refine aa (lu ho hd (by show(0:Nat)<4;decide) ?_)
 refine yZ (show A.in1.handled=none from hh) fun e g kp ex=>?_
 obtain⟨oe,e1,e2⟩:=ex
 refine aa (uh (T:="StopIteration") (b:=true) ⟨oe,e1,e2⟩ isSubtype_stop ?_)
 exact aj (hQ _ fun c u hc e=>kp c u (by rw[eh _ _ _ _ hc];exact e))
theorem aW4{Q:Value->Shared->Prop}(ns:(d==sysModules)=false)(h1:s.heap.get? d=some o)(h2:o.ExactDict)(h3:o.data= .dict es ep)
  (h:Q (.ref s.heap.objs.size) { s with heap:=s.heap.push { cls:= .type "dict_keyiterator",data:= .fields #[.ref d,.int 0 0,.int (es.size:Nat) 0,.int (ep:Nat) 0] } }):wpAny (model prog w) A (pyIter (.ref d)) Q E s:=by
 have hT:s.TypeIs (.ref d) "dict":=⟨o,h1,h2.1⟩
 refine wpAny_pyIter_slot hT zm (io zm hT vC ?_ (F.args_dict_iter_1 _))
 unfold Builtin.«dict.__iter__» Builtin.Dict.dictSlotNone
 simp only[bind_assoc]
 refine aa (vz hT ?_)
 unfold slotArgs
 simp only[List.isEmpty_nil,Bool.not_true,Bool.false_eq_true,if_false,bind_assoc,List.length_nil,bne_self_eq_false]
 refine aa (aj (aa (aj ?_)))
 refine(show wpAny _ _ (pure d>>=fun _=>_) _ _ _ from aa (aj ?_))
 unfold Builtin.Dict.showsAll
 rw[ns,av (by decide)]
 refine aa (aj ?_)
 refine aa (su h1 h3 ?_)
 refine aa (vh h1 h3 ?_)
 refine aa ?_
 unfold newFields
 refine fg (aj ⟨_,rfl,"dict_keyiterator",_,⟨_,bb _ rfl,rfl⟩,F.slot_dict_keyiterator_next.lookup,h⟩)
end
section
variable {prog:Program}{w:World}{A:Around}{E:Value->Shared->Prop}{s:Shared}
end
section
variable {X:Cx}
end
open PySem PySem.Spec PyProof.Rows PySem.MeetsSeq
section
variable {prog:Program}{w:World}{A:Around}{E:Value->Shared->Prop}{s:Shared}
end
def lt2(a b:Int×Int):Bool:=decide (a.1<b.1) || (decide (a.1=b.1)&&decide (a.2<b.2))
section
variable {prog:Program}{w:World}{A:Around}{E:Value->Shared->Prop}{s:Shared}
end
section
variable {prog:Program}{w:World}{A:Around}{R:Result->Shared->Prop}{I:Addr}{fp wr:List Addr}{n:Nat}{P:Nat->Value->Prop}{St:Nat->Heap->Prop}{B:Heap}
end
open PySem
theorem pQ{H:Hp}{l:Addr}(h:H l=none)(o:HO):∃H2,aN H l o=H2/\bD H H2/\H2 l=some o:=⟨_,rfl,aB h o,aC⟩
theorem pA:1<=sizeLine:=by decide
theorem eY:2<=sizeLine:=by decide
end L2
namespace Mine
open PySem L2
def gI(a b:Int):Int:=(Nat.gcd a.toNat b.toNat:Nat)
def rO(a b:Int):Int:=a / gI a b
def aT4(a b:Int):Int:=b / gI a b
theorem aW7{a b:Int}(hb:1<=b):0<gI a b:=by
 have:0<Nat.gcd a.toNat b.toNat:=Nat.gcd_pos_of_pos_right _ (by lia);unfold gI;lia
theorem aZ9{a b:Int}(ha:0<=a):gI a b ∣ a:=by
 obtain⟨x,rfl⟩:=fu ha;unfold gI;rw[jb];exact uz.mpr (Nat.gcd_dvd_left _ _)
theorem bA6{a b:Int}(hb:0<=b):gI a b ∣ b:=by
 obtain⟨x,rfl⟩:=fu hb;unfold gI;rw[jb];exact uz.mpr (Nat.gcd_dvd_right _ _)
theorem aH7{a b:Int}(ha:0<=a)(hb:1<=b):rO a b*b=a*aT4 a b:=by
 have h1:=xh (aZ9 (b:=b) ha);have h2:=xh (bA6 (a:=a) (b:=b) (by lia));unfold rO aT4;generalize a / gI a b=x at h1 ⊢;generalize b / gI a b=y at h2 ⊢;rw[<-h1, <-h2];generalize gI (x*gI a b) (y*gI a b)=g
 grind
theorem aL8{x y:Int}(hx:0<=x)(hy:0<y):gI y (x % y)=gI x y:=by
 obtain⟨m,rfl⟩:=fu hx;obtain⟨n,rfl⟩:=fu (yd hy);unfold gI;rw[<-Int.natCast_emod,jb,jb,jb,Nat.gcd_comm m n,Nat.gcd_rec n m,Nat.gcd_comm]
theorem bE4{x:Int}(hx:0<=x):gI x 0=x:=by
 unfold gI;simp;lia
theorem bS3{a b:Int}(hb:1<=b):gI a b<=b:=by
 have:Nat.gcd a.toNat b.toNat<=b.toNat:=Nat.gcd_le_right _ (by lia);unfold gI;lia
def cC2(a b:Int):List V:=[.int (rO a b),.int (aT4 a b)]
theorem bE9{H H':Hp}{d l p:Addr}{xs:List V}(D:dJ H d l)(o:eW d l H H')(h:H p=some (.tup xs)):H' p=some (.tup xs):=by
 obtain⟨sd,n,ls,D⟩:=D;exact o _ _ h (iM h D.dc (by intro z;cases z)) (iM h D.lc (by intro z;cases z))
inductive spLow(vs:List V)(H:Hp)(Q:VK)(z1:XK):Prop
 |mk:∀a b:Int,(vs=[.int a,.int b])->(0<=a)->(1<=b)->(b<2^200*2^200)->(∀p,H p=none->Q (.ref p) (aN H p (.tup (cC2 a b))))->spLow vs H Q z1
def fQ{α:Type}(R:V->α->Prop):List V->List α->Prop
 |[],[]=>True
 |v::vs,a::as=>R v a/\fQ R vs as
 |_,_=>False
theorem fQ.mono{α:Type}{R R':V->α->Prop}(h:∀v a,R v a->R' v a):∀{vs:List V}{as:List α},fQ R vs as->fQ R' vs as
 |[],[],_=>trivial
 |_::_,_::_,⟨e,r⟩=>⟨h _ _ e,fQ.mono h r⟩
 |[],_::_,z=>z.elim
 |_::_,[],z=>z.elim
theorem fQ.append{α:Type}{R:V->α->Prop}:∀{vs ws:List V}{as bs:List α},fQ R vs as->fQ R ws bs->fQ R (vs++ws) (as++bs)
 |[],_,[],_,_,r=>r
 |_::_,_,_::_,_,⟨e,r⟩,r2=>⟨e,fQ.append r r2⟩
 |[],_,_::_,_,z,_=>z.elim
 |_::_,_,[],_,z,_=>z.elim
theorem fQ.length{α:Type}{R:V->α->Prop}:∀{vs:List V}{as:List α},fQ R vs as->vs.length=as.length
 |[],[],_=>rfl
 |_::_,_::_,⟨_,r⟩=>by simp[fQ.length r]
 |[],_::_,z=>z.elim
 |_::_,[],z=>z.elim
def TS(H H':Hp):Prop:=∀a xs,H a=some (.tup xs)->H' a=some (.tup xs)
theorem TS.of{H H':Hp}(s:bD H H'):TS H H':=fun _ _ e=>s _ _ e
theorem TS.trans{H H1 H2:Hp}(a:TS H H1)(b:TS H1 H2):TS H H2:=fun c o h=>b c o (a c o h)
theorem TS.lst{H:Hp}{l:Addr}{xs ys:List V}(h:H l=some (.lst xs)):TS H (aN H l (.lst ys)):=fun a o e=>by
 rw[aH (iM e h (by intro z;cases z))];exact e
theorem TS.out{H H':Hp}{d l:Addr}(D:dJ H d l)(o:eW d l H H'):TS H H':=fun p xs h=>bE9 D o h
theorem bW{H H1:Hp}{l:Addr}{ys:List V}(s:bD H H1)(h:H l=none):bD H (aN H1 l (.lst ys)):=fun b o e=>by
 rw[aH (aI e h)];exact s b o e
theorem aX{α:Type}{l:List α}{i:Nat}{x:α}(h:l[i]?=some x):l.take (i+1)=l.take i++[x]:=by
 rw[qv,h];rfl
theorem bO1{z:Str}{r:Int}(h0:0<=r)(h1:r<(z.length:Int)):∃c,nO z.cps.toList r=some c:=by
 have hk:r.toNat<z.cps.toList.length:=by
  rw[eo];exact(Int.toNat_lt h0).mpr h1
 have e2:((r.toNat:Nat):Int)=r:=mz h0;have q:nO z.cps.toList ((r.toNat:Nat):Int)=some z.cps.toList[r.toNat]:=aD9 (bc hk);rw[e2] at q;exact⟨_,q⟩
theorem wO:∀{zs:List Str},(∀z∈zs,z.length=1)->(zs.map (·.length)).sum=zs.length
 |[],_=>rfl
 |z::r,h=>by
  have h1:=h z aq;have h2:=wO fun y hy=>h y (ak z hy)
  simp only[List.map_cons,List.sum_cons,List.length_cons,h1,h2];lia
theorem qU(sep:Str):∀(ys:List Str) (a:Array Nat),(ys.foldl (fun acc p=>acc++sep.cps++p.cps) a).size=a.size+(ys.map (·.length)).sum+ys.length*sep.length
 |[],a=>by simp
 |y::r,a=>by
  rw[jt,qU sep r];simp only[Array.size_append,List.map_cons,List.sum_cons,List.length_cons,Nat.add_mul,Nat.one_mul];have e1:sep.cps.size=sep.length:=rfl;have e2:y.cps.size=y.length:=rfl;lia
theorem aR3(sep:Str)(ys:List Str):(Txt.join sep ys).length<=(ys.map (·.length)).sum+ys.length*sep.length:=by
 cases ys with
 |nil=>exact bt _
 |cons y r =>
  show(List.foldl (fun acc p=>acc++sep.cps++p.cps) y.cps r).size<=_;rw[qU];simp only[List.map_cons,List.sum_cons,List.length_cons,Nat.add_mul,Nat.one_mul];have e2:y.cps.size=y.length:=rfl;lia
def fJ:List Str:=["kinds","ladder","flat","choose","first","let","tell","when","else","times","end","of"]
theorem nZ:∀xs:List Str,(xs.map V.str).all lV=true
 |[]=>rfl
 |_::r=>nZ r
structure nB(H:Hp)(d l ls:Addr)(ts:List V):Prop where
 deal:dJ H d l
 ne:ls≠l
 lst:H ls=some (.lst ts)
theorem nB.new{H:Hp}{d l ls:Addr}(D:dJ H d l)(h:H ls=none):nB (aN H ls (.lst [])) d l ls []:=by
 obtain⟨sd,n,l',q⟩:=id D;exact⟨D.same (aB h _),(aI q.lc h).symm,aC⟩
theorem nB.app{H:Hp}{d l ls:Addr}{ts:List V}(S:nB H d l ls ts)(us:List V):nB (aN H ls (.lst us)) d l ls us:=by
 refine⟨?_,S.ne,aC⟩;obtain⟨sd,n,l',q⟩:=S.deal;exact⟨sd,n,l',⟨by rw[aH (iM q.dc S.lst (by intro z;cases z))];exact q.dc,by rw[aH S.ne.symm];exact q.lc,q.s0,q.s1,q.n0,q.l0⟩⟩
inductive Tm where
 |num (p:Addr) (n:Int)
 |nam (p:Addr) (x:Str)
 |op (p:Addr) (s:Str) (a b:Tm)
def Tm.p:Tm->Addr
 |.num p _=>p
 |.nam p _=>p
 |.op p _ _ _=>p
def Tm.names:Tm->List Str
 |.num _ _=>[]
 |.nam _ x=>[x]
 |.op _ _ a b=>a.names++b.names
def Tm.size:Tm->Nat
 |.op _ _ a b=>1+a.size+b.size
 |_=>1
def bS1:List Str:=["+","-","*","<","="]
def Tm.ok:Tm->Prop
 |.num _ n=>0<=n/\n<1000
 |.nam _ _=>True
 |.op _ s a b=>s∈bS1/\a.ok/\b.ok
def Tm.fine(t:Tm):Prop:=t.ok/\t.size<=100
def lN(H:Hp):Tm->Prop
 |.num p n=>H p=some (.tup [.str "num",.int n])
 |.nam p x=>H p=some (.tup [.str "name",.str x])
 |.op p s a b=>H p=some (.tup [.str "op",.str s,.ref a.p,.ref b.p])/\lN H a/\lN H b
theorem lN.ts{H H':Hp}(t:TS H H'):∀{a:Tm},lN H a->lN H' a
 |.num _ _,h=>t _ _ h
 |.nam _ _,h=>t _ _ h
 |.op _ _ _ _,⟨h,ha,hb⟩=>⟨t _ _ h,lN.ts t ha,lN.ts t hb⟩
def Tm.w:Tm->Str
 |.num _ _=>"num"
 |.nam _ _=>"name"
 |.op _ _ _ _=>"op"
def Tm.rest:Tm->List V
 |.num _ n=>[.int n]
 |.nam _ x=>[.str x]
 |.op _ s a b=>[.str s,.ref a.p,.ref b.p]
theorem lN.at{H:Hp}:∀{t:Tm},lN H t->H t.p=some (.tup (.str t.w::t.rest))
 |.num _ _,h=>h
 |.nam _ _,h=>h
 |.op _ _ _ _,h=>h.1
theorem Tm.size_pos:∀t:Tm,1<=t.size
 |.num _ _=>ah _
 |.nam _ _=>ah _
 |.op _ _ _ _=>by unfold Tm.size;lia
def Tm.pre:Tm->List Tm
 |.num p n=>[.num p n]
 |.nam p x=>[.nam p x]
 |.op p s a b=> .op p s a b::(a.pre++b.pre)
theorem Tm.pre_len:∀t:Tm,t.pre.length=t.size
 |.num _ _=>rfl
 |.nam _ _=>rfl
 |.op _ _ a b=>by simp only[Tm.pre,Tm.size,List.length_cons,List.length_append,Tm.pre_len a,Tm.pre_len b];lia
theorem lN.pre{H:Hp}:∀{t:Tm},lN H t->∀u∈t.pre,lN H u
 |.num _ _,h,u,hu=>by rw[cg.mp hu];exact h
 |.nam _ _,h,u,hu=>by rw[cg.mp hu];exact h
 |.op _ _ _ _,h,u,hu=>by
  rcases bu.mp hu with e|e
  ·rw[e];exact h
  ·rcases bp.mp e with e|e
   ·exact lN.pre h.2.1 u e
   ·exact lN.pre h.2.2 u e
inductive Rw where
 |thr (p:Addr) (w x:Str) (vs:List V) (am:Bool)
 |lt (p:Addr) (x:Str) (t:Tm)
 |tell (p:Addr) (t:Tm)
 |when (p pa pb:Addr) (t:Tm) (a b:List Rw)
 |times (p pb:Addr) (n:Int) (b:List Rw)
def Rw.p:Rw->Addr
 |.thr p _ _ _ am=>p
 |.lt p _ _=>p
 |.tell p _=>p
 |.when p _ _ _ _ _=>p
 |.times p _ _ _=>p
def cV:List Str:=["ladder","flat","choose","first"]
def Sm(H:Hp)(v:V):Prop:=∃p us,v= .ref p/\H p=some (.tup us)/\us.length<=100
def Sms(H:Hp)(v:V):Prop:=∃p us,v= .ref p/\H p=some (.tup us)/\us.length<=100/\∀u∈us,Sm H u
theorem Sm.ts{H H':Hp}(t:TS H H'){v:V}(h:Sm H v):Sm H' v:=by
 obtain⟨p,us,e,h,l⟩:=h;exact⟨p,us,e,t _ _ h,l⟩
theorem Sms.ts{H H':Hp}(t:TS H H'){v:V}(h:Sms H v):Sms H' v:=by
 obtain⟨p,us,e,h,l,k⟩:=h;exact⟨p,us,e,t _ _ h,l,fun u hu=>(k u hu).ts t⟩
def mY(H:Hp)(w:Str)(vs:List V)(am:Bool):Prop:=
 (w∈(["ladder","flat"]:List Str)/\∃a b lo hi,vs=[a,b,.int lo,.int hi]/\Sm H a/\am=decide (hi<lo)) \/
 (w="choose"/\∃a b lo hi,vs=[a,b,.int lo,.int hi]/\Sms H a/\am=decide (hi<lo)) \/
 (w="first"/\∃mark a q c lo hi x y,vs=[.int mark,a,.ref q,c,.int lo,.int hi]/\H q=some (.tup [.int x,.int y])/\Sms H c/\0<=x/\x<=100/\am=decide (hi<=lo\/¬(lo<=mark/\mark<=hi)\/y<2*x))
theorem mY.ts{H H':Hp}(t:TS H H'){w:Str}{vs:List V}{am:Bool}(h:mY H w vs am):mY H' w vs am:=by
 rcases h with⟨e,a,b,lo,hi,h1,h2,h3⟩|⟨e,a,b,lo,hi,h1,h2,h3⟩|⟨e,mark,a,q,c,lo,hi,x,y,h1,h2,h3,h4⟩
 ·exact .inl ⟨e,a,b,lo,hi,h1,h2.ts t,h3⟩
 ·exact .inr (.inl ⟨e,a,b,lo,hi,h1,h2.ts t,h3⟩)
 ·exact .inr (.inr ⟨e,mark,a,q,c,lo,hi,x,y,h1,t _ _ h2,h3.ts t,h4⟩)
theorem mY.w{H:Hp}{w:Str}{vs:List V}{am:Bool}(h:mY H w vs am):w∈cV:=by
 rcases h with⟨h,_⟩|⟨h,_⟩|⟨h,_⟩
 ·simp only[List.mem_cons,List.not_mem_nil,or_false] at h;rcases h with h|h<;>simp[cV,h]
 ·simp[cV,h]
 ·simp[cV,h]
mutual
def eF(H:Hp):Rw->Prop
 |.thr p w x vs am=>H p=some (.tup (.str w :: .str x::vs))/\mY H w vs am
 |.lt p x t=>H p=some (.tup [.str "let",.str x,.ref t.p])/\lN H t/\t.fine
 |.tell p t=>H p=some (.tup [.str "tell",.ref t.p])/\lN H t/\t.fine
 |.when p pa pb t a b=>H p=some (.tup [.str "when",.ref t.p,.ref pa,.ref pb])/\lN H t/\t.fine/\H pa=some (.tup (a.map fun r=>V.ref r.p))/\H pb=some (.tup (b.map fun r=>V.ref r.p))/\aZ H a/\aZ H b
 |.times p pb n b=>H p=some (.tup [.str "times",.int n,.ref pb])/\H pb=some (.tup (b.map fun r=>V.ref r.p))/\aZ H b
def aZ(H:Hp):List Rw->Prop
 |[]=>True
 |r::rs=>eF H r/\aZ H rs
end
mutual
theorem eF.ts{H H':Hp}(t:TS H H'):∀(r:Rw),eF H r->eF H' r
 |.thr _ _ _ _ _,⟨h,k⟩=>⟨t _ _ h,k.ts t⟩
 |.lt _ _ _,⟨h,h2,h3⟩=>⟨t _ _ h,h2.ts t,h3⟩
 |.tell _ _,⟨h,h2,h3⟩=>⟨t _ _ h,h2.ts t,h3⟩
 |.when _ _ _ _ a b,⟨h,h2,h3,h4,h5,h6,h7⟩=>⟨t _ _ h,h2.ts t,h3,t _ _ h4,t _ _ h5,aZ.ts t a h6,aZ.ts t b h7⟩
 |.times _ _ _ b,⟨h,h2,h3⟩=>⟨t _ _ h,t _ _ h2,aZ.ts t b h3⟩
theorem aZ.ts{H H':Hp}(t:TS H H'):∀(rs:List Rw),aZ H rs->aZ H' rs
 |[],_=>trivial
 |r::rs,⟨h,k⟩=>⟨eF.ts t r h,aZ.ts t rs k⟩
end
theorem aZ.app{H:Hp}:∀{rs qs:List Rw},aZ H rs->aZ H qs->aZ H (rs++qs)
 |[],_,_,h=>h
 |_::_,_,⟨h,k⟩,h2=>⟨h,aZ.app k h2⟩
theorem aZ.mem{H:Hp}:∀{rs:List Rw},aZ H rs->∀r∈rs,eF H r
 |[],_,_,h=>absurd h dv
 |r::rs,⟨h,k⟩,x,hx=>by
  rcases bu.mp hx with e|e
  ·rw[e];exact h
  ·exact aZ.mem k x e
def Rw.w:Rw->Str
 |.thr _ w _ _ am=>w
 |.lt _ _ _=>"let"
 |.tell _ _=>"tell"
 |.when _ _ _ _ _ _=>"when"
 |.times _ _ _ _=>"times"
def Rw.rest:Rw->List V
 |.thr _ _ x vs am=> .str x::vs
 |.lt _ x t=>[.str x,.ref t.p]
 |.tell _ t=>[.ref t.p]
 |.when _ pa pb t _ _=>[.ref t.p,.ref pa,.ref pb]
 |.times _ pb n _=>[.int n,.ref pb]
theorem eF.at{H:Hp}:∀{r:Rw},eF H r->H r.p=some (.tup (.str r.w::r.rest))
 |.thr _ _ _ _ _,h=>h.1
 |.lt _ _ _,h=>h.1
 |.tell _ _,h=>h.1
 |.when _ _ _ _ _ _,h=>h.1
 |.times _ _ _ _,h=>h.1
mutual
def Rw.cnt:Rw->Nat
 |.when _ _ _ _ a b=>1+(bP a+bP b)
 |.times _ _ _ b=>1+bP b
 |.thr _ _ _ _ _=>1
 |.lt _ _ _=>1
 |.tell _ _=>1
def bP:List Rw->Nat
 |[]=>0
 |r::rs=>r.cnt+bP rs
end
theorem jV:∀(rs qs:List Rw),bP (rs++qs)=bP rs+bP qs
 |[],qs=>by simp[bP]
 |r::rs,qs=>by simp only[List.cons_append,bP,jV rs qs];lia
theorem Rw.cnt_pos:∀r:Rw,1<=r.cnt
 |.thr _ _ _ _ _=>ah _
 |.lt _ _ _=>ah _
 |.tell _ _=>ah _
 |.when _ _ _ _ _ _=>by unfold Rw.cnt;lia
 |.times _ _ _ _=>by unfold Rw.cnt;lia
theorem gE:∀rs:List Rw,rs.length<=bP rs
 |[]=>bt _
 |r::rs=>by have:=gE rs;have:=r.cnt_pos;simp only[List.length_cons,bP];lia
def Rw.kids:Rw->List Rw
 |.when _ _ _ _ a b=>a++b
 |.times _ _ _ b=>b
 |.thr _ _ _ _ _=>[]
 |.lt _ _ _=>[]
 |.tell _ _=>[]
theorem aK9:∀r:Rw,r.cnt=1+bP r.kids
 |.when _ _ _ _ a b=>by simp only[Rw.cnt,Rw.kids,jV]
 |.times _ _ _ b=>by simp only[Rw.cnt,Rw.kids]
 |.thr _ _ _ _ _=>by simp only[Rw.cnt,Rw.kids,bP]
 |.lt _ _ _=>by simp only[Rw.cnt,Rw.kids,bP]
 |.tell _ _=>by simp only[Rw.cnt,Rw.kids,bP]
theorem eF.kids{H:Hp}:∀{r:Rw},eF H r->aZ H r.kids
 |.when _ _ _ _ _ _,h=>aZ.app h.2.2.2.2.2.1 h.2.2.2.2.2.2
 |.times _ _ _ _,h=>h.2.2
 |.thr _ _ _ _ _,_=>trivial
 |.lt _ _ _,_=>trivial
 |.tell _ _,_=>trivial
abbrev Stp:=Str×Rw×Nat
mutual
def bY(k:Nat):Rw->List Stp
 |.when p pa pb t a b=>(("row": Str),Rw.when p pa pb t a b,k)::(bR (k+1) a++[(("else": Str),Rw.when p pa pb t a b,k)]++bR (k+1+bP a) b++[(("end": Str),Rw.when p pa pb t a b,k)])
 |.times p pb n b=>(("row": Str),Rw.times p pb n b,k)::(bR (k+1) b++[(("end": Str),Rw.times p pb n b,k)])
 |.thr p w x vs am=>[(("row": Str),.thr p w x vs am,k)]
 |.lt p x t=>[(("row": Str),.lt p x t,k)]
 |.tell p t=>[(("row": Str),.tell p t,k)]
def bR(k:Nat):List Rw->List Stp
 |[]=>[]
 |r::rs=>bY k r++bR (k+r.cnt) rs
end
theorem vO:¬(("else": Str)="row"):=by decide
theorem gX:¬(("end": Str)="row"):=by decide
mutual
theorem aJ7:∀(r:Rw) (k:Nat),(bY k r).length<=3*r.cnt
 |.when _ _ _ _ a b,k=>by have:=dN a (k+1);have:=dN b (k+1+bP a);simp only[bY,Rw.cnt,List.length_cons,List.length_append,List.length_nil];lia
 |.times _ _ _ b,k=>by have:=dN b (k+1);simp only[bY,Rw.cnt,List.length_cons,List.length_append,List.length_nil];lia
 |.thr _ _ _ _ _,_=>by simp only[bY,Rw.cnt,List.length_cons,List.length_nil];lia
 |.lt _ _ _,_=>by simp only[bY,Rw.cnt,List.length_cons,List.length_nil];lia
 |.tell _ _,_=>by simp only[bY,Rw.cnt,List.length_cons,List.length_nil];lia
theorem dN:∀(rs:List Rw) (k:Nat),(bR k rs).length<=3*bP rs
 |[],_=>ah _
 |r::rs,k=>by have:=aJ7 r k;have:=dN rs (k+r.cnt);simp only[bR,bP,List.length_append];lia
end
abbrev Ft:=Int×Int
mutual
def tel:Rw->Int
 |.thr _ _ _ _ _=>0
 |.lt _ _ _=>0
 |.tell _ _=>1
 |.when _ _ _ _ a _=>eE a
 |.times _ _ n b=>n*eE b
def eE:List Rw->Int
 |[]=>0
 |r::rs=>tel r+eE rs
end
mutual
def lk(kn:List Str):Rw->List Str
 |.thr _ _ x _ _=>kn++[x]
 |.lt _ x _=>kn++[x]
 |.tell _ _=>kn
 |.when _ _ _ _ a b=>(lkL kn b).filter fun x=>decide (x∈lkL kn a)
 |.times _ _ _ b=>lkL kn b
def lkL(kn:List Str):List Rw->List Str
 |[]=>kn
 |r::rs=>lkL (lk kn r) rs
end
def sF(k:Nat)(kn ns:List Str):List Ft:=if ∀y∈ns,y∈kn then [] else [((k:Int),1)]
def uN(k:Nat)(am:Bool):List Ft:=if am then [((k:Int),0)] else []
def tls(k:Nat)(a b:List Rw):List Ft:=if eE a=eE b then [] else [((k:Int),2)]
mutual
def lf(k:Nat)(kn:List Str):Rw->List Ft
 |.thr _ _ _ _ am=>uN k am
 |.lt _ _ t=>sF k kn t.names
 |.tell _ t=>sF k kn t.names
 |.when _ _ _ t a b=>sF k kn t.names++(tls k a b++(vZ (k+1) kn a++vZ (k+1+bP a) kn b))
 |.times _ _ _ b=>vZ (k+1) kn b
def vZ(k:Nat)(kn:List Str):List Rw->List Ft
 |[]=>[]
 |r::rs=>lf k kn r++vZ (k+r.cnt) (lk kn r) rs
end
mutual
def rf(k:Nat):Rw->List Ft
 |.thr _ _ _ _ am=>uN k am
 |.lt _ _ _=>[]
 |.tell _ _=>[]
 |.when _ _ _ _ a b=>rfL (k+1) a++rfL (k+1+bP a) b
 |.times _ _ _ b=>rfL (k+1) b
def rfL(k:Nat):List Rw->List Ft
 |[]=>[]
 |r::rs=>rf k r++rfL (k+r.cnt) rs
end
mutual
def uf(k:Nat)(kn:List Str):Rw->List Ft
 |.thr _ _ _ _ _=>[]
 |.lt _ _ t=>sF k kn t.names
 |.tell _ t=>sF k kn t.names
 |.when _ _ _ t a b=>sF k kn t.names++(ufL (k+1) kn a++ufL (k+1+bP a) kn b)
 |.times _ _ _ b=>ufL (k+1) kn b
def ufL(k:Nat)(kn:List Str):List Rw->List Ft
 |[]=>[]
 |r::rs=>uf k kn r++ufL (k+r.cnt) (lk kn r) rs
end
mutual
def tf(k:Nat):Rw->List Ft
 |.thr _ _ _ _ _=>[]
 |.lt _ _ _=>[]
 |.tell _ _=>[]
 |.when _ _ _ _ a b=>tfL (k+1) a++(tfL (k+1+bP a) b++tls k a b)
 |.times _ _ _ b=>tfL (k+1) b
def tfL(k:Nat):List Rw->List Ft
 |[]=>[]
 |r::rs=>tf k r++tfL (k+r.cnt) rs
end
mutual
theorem bI5:∀(r:Rw) (k:Nat) (kn:List Str) (m:Ft),(lf k kn r).count m=(rf k r).count m+(uf k kn r).count m+(tf k r).count m
 |.thr _ _ _ _ am,k,kn,m=>by simp only[lf,rf,uf,tf,List.count_nil];lia
 |.lt _ _ t,k,kn,m=>by simp only[lf,rf,uf,tf,List.count_nil];lia
 |.tell _ t,k,kn,m=>by simp only[lf,rf,uf,tf,List.count_nil];lia
 |.when _ _ _ t a b,k,kn,m=>by
  have h1:=pL a (k+1) kn m;have h2:=pL b (k+1+bP a) kn m;simp only[lf,rf,uf,tf,List.count_append];lia
 |.times _ _ _ b,k,kn,m=>by
  simp only[lf,rf,uf,tf];exact pL b (k+1) kn m
theorem pL:∀(rs:List Rw) (k:Nat) (kn:List Str) (m:Ft),(vZ k kn rs).count m=(rfL k rs).count m+(ufL k kn rs).count m+(tfL k rs).count m
 |[],k,kn,m=>by simp only[vZ,rfL,ufL,tfL,List.count_nil]
 |r::rs,k,kn,m=>by
  have h1:=bI5 r k kn m;have h2:=pL rs (k+r.cnt) (lk kn r) m;simp only[vZ,rfL,ufL,tfL,List.count_append];lia
end
theorem pG{k:Nat}{kn ns:List Str}{m:Ft}(h:m∈sF k kn ns):m=((k:Int),1):=by
 unfold sF at h
 split at h
 ·cases h
 ·exact cg.mp h
theorem bD4{k:Nat}{am:Bool}{m:Ft}(h:m∈uN k am):m=((k:Int),0):=by
 unfold uN at h
 split at h
 ·exact cg.mp h
 ·cases h
theorem uU{k:Nat}{a b:List Rw}{m:Ft}(h:m∈tls k a b):m=((k:Int),2):=by
 unfold tls at h
 split at h
 ·cases h
 ·exact cg.mp h
mutual
theorem bH1:∀(r:Rw) (k:Nat) (kn:List Str) (m:Ft),m∈lf k kn r->(k:Int)<=m.1/\m.1<((k+r.cnt:Nat):Int)
 |.thr _ _ _ _ am,k,kn,m,h=>by rw[bD4 (show m∈uN k am by simpa only[lf] using h)];simp only[Rw.cnt];lia
 |.lt _ _ t,k,kn,m,h=>by rw[pG (show m∈sF k kn t.names by simpa only[lf] using h)];simp only[Rw.cnt];lia
 |.tell _ t,k,kn,m,h=>by rw[pG (show m∈sF k kn t.names by simpa only[lf] using h)];simp only[Rw.cnt];lia
 |.when _ _ _ t a b,k,kn,m,h=>by
  simp only[lf,List.mem_append] at h;simp only[Rw.cnt];rcases h with h|h|h|h
  ·rw[pG h];simp only;lia
  ·rw[uU h];simp only;lia
  ·have:=jJ a _ _ _ h;lia
  ·have:=jJ b _ _ _ h;lia
 |.times _ _ _ b,k,kn,m,h=>by
  simp only[lf] at h;have:=jJ b _ _ _ h;simp only[Rw.cnt];lia
theorem jJ:∀(rs:List Rw) (k:Nat) (kn:List Str) (m:Ft),m∈vZ k kn rs->(k:Int)<=m.1/\m.1<((k+bP rs:Nat):Int)
 |[],k,kn,m,h=>by simp only[vZ] at h;cases h
 |r::rs,k,kn,m,h=>by
  simp only[vZ,List.mem_append] at h;simp only[bP];rcases h with h|h
  ·have:=bH1 r _ _ _ h;lia
  ·have:=jJ rs _ _ _ h;lia
end
def Asc(l:List Ft):Prop:=l.Pairwise fun a b=>lt2 a b=true
theorem uX{l m:List Ft}(h:Asc l)(k:Asc m)(x:∀a∈l,∀b∈m,a.1<b.1):Asc (l++m):=
 wv.mpr ⟨h,k,fun a ha b hb=>by unfold lt2;simp[x a ha b hb]⟩
theorem vU(k:Nat)(kn ns:List Str):Asc (sF k kn ns):=by
 unfold sF Asc
 split<;>simp
theorem aY8(k:Nat)(am:Bool):Asc (uN k am):=by
 unfold uN Asc
 split<;>simp
theorem bC7(k:Nat)(a b:List Rw):Asc (tls k a b):=by
 unfold tls Asc
 split<;>simp
mutual
theorem bR6:∀(r:Rw) (k:Nat) (kn:List Str),Asc (lf k kn r)
 |.thr _ _ _ _ am,k,kn=>by simp only[lf];exact aY8 k am
 |.lt _ _ t,k,kn=>by simp only[lf];exact vU k kn _
 |.tell _ t,k,kn=>by simp only[lf];exact vU k kn _
 |.when _ _ _ t a b,k,kn=>by
  have h1:=pK a (k+1) kn;have h2:=pK b (k+1+bP a) kn;have h3:Asc (vZ (k+1) kn a++vZ (k+1+bP a) kn b):=uX h1 h2 fun x hx y hy=>by
   have:=jJ a _ _ _ hx;have:=jJ b _ _ _ hy;lia
  have h4:∀y∈vZ (k+1) kn a++vZ (k+1+bP a) kn b,(k:Int)<y.1:=fun y hy=>by
   rcases bp.mp hy with h|h
   ·have:=jJ a _ _ _ h;lia
   ·have:=jJ b _ _ _ h;lia
  simp only[lf];refine wv.mpr ⟨vU k kn _,uX (bC7 k a b) h3 fun x hx y hy=>by rw[uU hx];exact h4 y hy,fun x hx y hy=>?_⟩;rw[pG hx];rcases bp.mp hy with h|h
  ·rw[uU h];unfold lt2;simp
  ·have:=h4 y h;unfold lt2;simp[this]
 |.times _ _ _ b,k,kn=>by simp only[lf];exact pK b (k+1) kn
theorem pK:∀(rs:List Rw) (k:Nat) (kn:List Str),Asc (vZ k kn rs)
 |[],k,kn=>by simp only[vZ];exact sq
 |r::rs,k,kn=>by
  simp only[vZ];exact uX (bR6 r k kn) (pK rs _ _) fun x hx y hy=>by
   have:=bH1 r _ _ _ hx;have:=jJ rs _ _ _ hy;lia
end
section
variable {α σ:Type}(f:α->σ->Option σ)
def dL:List α->σ->Option σ
 |[],st=>some st
 |a::r,st=>(f a st).bind (dL r)
theorem cH:∀(l l2:List α) (st:σ),dL f (l++l2) st=(dL f l st).bind (dL f l2)
 |[],_,_=>rfl
 |a::r,l2,st=>by
  show(f a st).bind (dL f (r++l2))=((f a st).bind (dL f r)).bind (dL f l2)
  cases f a st with
  |none=>rfl
  |some s=>exact cH r l2 s
theorem vR{l:List α}{s0 e:σ}(h:dL f l s0=some e){i:Nat}{a:α}(ha:l[i]?=some a){st:σ}(hs:dL f (l.take i) s0=some st):∃st',f a st=some st'/\dL f (l.take (i+1)) s0=some st':=by
 obtain⟨hi,rfl⟩:=bf.mp ha;have e1:l=l.take i++(l[i]::l.drop (i+1)):=by rw[List.getElem_cons_drop,ly]
 rw[e1,cH,hs] at h;have h:(f l[i] st).bind (dL f (l.drop (i+1)))=some e:=h
 cases q:f l[i] st with
 |none=>rw[q] at h;cases h
 |some st' =>
  refine⟨st',rfl,?_⟩;rw[qv,bc hi,cH,hs];show(f l[i] st).bind (dL f [])=_;rw[q];rfl
end
def Rw.sets:Rw->Option Str
 |.thr _ _ x _ _=>some x
 |.lt _ x _=>some x
 |.tell _ _=>none
 |.when _ _ _ _ _ _=>none
 |.times _ _ _ _=>none
def Rw.asked:Rw->List Str
 |.thr _ _ _ _ _=>[]
 |.lt _ _ t=>t.names
 |.tell _ t=>t.names
 |.when _ _ _ t _ _=>t.names
 |.times _ _ _ _=>[]
def jP:Rw->Bool
 |.when _ _ _ _ _ _=>true
 |.thr _ _ _ _ _=>false
 |.lt _ _ _=>false
 |.tell _ _=>false
 |.times _ _ _ _=>false
abbrev USt:=List Ft×List Str×List (List Str)
def aB3(st:USt):Option USt:=match st.2.2 with
 |a::r=>some (st.1,a,st.2.1::r)
 |[]=>none
def aS6(st:USt):Option USt:=match st.2.2 with
 |a::r=>some (st.1,st.2.1.filter (fun x=>decide (x∈a)),r)
 |[]=>none
def sQ(r:Rw)(k:Nat)(st:USt):USt:=(st.1++sF k st.2.1 r.asked,st.2.1++r.sets.toList,if jP r then (st.2.1++r.sets.toList)::st.2.2 else st.2.2)
def gY(s:Stp)(st:USt):Option USt:=
 if s.1="row" then some (sQ s.2.1 s.2.2 st)
 else if s.1="else" then aB3 st
 else if jP s.2.1 then aS6 st else some st
theorem aV1:¬(("end": Str)="else"):=by decide
theorem wZ{r:Rw}{k:Nat}{st:USt}:gY (("row": Str),r,k) st=some (sQ r k st):=by unfold gY;rw[bg rfl]
theorem bQ0{r:Rw}{k:Nat}{st:USt}:gY (("else": Str),r,k) st=aB3 st:=by unfold gY;rw[av vO,bg rfl]
theorem bF4{r:Rw}{k:Nat}{st:USt}:gY (("end": Str),r,k) st=if jP r then aS6 st else some st:=by unfold gY;rw[av gX,av aV1]
theorem nE{α σ:Type}{f:α->σ->Option σ}{a:α}{l:List α}{st st':σ}(h:f a st=some st'):dL f (a::l) st=dL f l st':=by
 show(f a st).bind _=_;rw[h];rfl
theorem aC5(k:Nat)(kn:List Str):sF k kn []=[]:=by unfold sF;rw[bg (fun y hy=>absurd hy dv)]
mutual
theorem bV4:∀(r:Rw) (k:Nat) (F:List Ft) (kn:List Str) (kept:List (List Str)),dL gY (bY k r) (F,kn,kept)=some (F++uf k kn r,lk kn r,kept)
 |.thr p w x vs am,k,F,kn,kept=>by
  simp only[bY];rw[nE wZ];simp only[dL,sQ,Rw.asked,Rw.sets,jP,uf,lk,aC5,Option.toList];rfl
 |.lt p x t,k,F,kn,kept=>by
  simp only[bY];rw[nE wZ];simp only[dL,sQ,Rw.asked,Rw.sets,jP,uf,lk,Option.toList];rfl
 |.tell p t,k,F,kn,kept=>by
  simp only[bY];rw[nE wZ];simp only[dL,sQ,Rw.asked,Rw.sets,jP,uf,lk,Option.toList,List.append_nil];rfl
 |.when p pa pb t a b,k,F,kn,kept=>by
  simp only[bY];rw[nE wZ];simp only[sQ,Rw.asked,Rw.sets,jP,Option.toList,List.append_nil,if_true];rw[cH,cH,cH,rW a];simp only[Option.bind_some];rw[nE (st':=(F++sF k kn t.names++ufL (k+1) kn a,kn,lkL kn a::kept)) bQ0];simp only[dL,Option.bind_some];rw[rW b];simp only[Option.bind_some];rw[bF4,bg (by rfl)];simp only[uf,lk,aS6,Option.bind_some,List.append_assoc]
 |.times p pb n b,k,F,kn,kept=>by
  simp only[bY];rw[nE wZ];simp only[sQ,Rw.asked,Rw.sets,jP,Option.toList,List.append_nil,aC5];rw[cH];simp only[Bool.false_eq_true,if_false];rw[rW b];simp only[Option.bind_some];rw[nE (bF4.trans (av (by simp only[jP];exact bj)))];simp only[dL,uf,lk]
theorem rW:∀(rs:List Rw) (k:Nat) (F:List Ft) (kn:List Str) (kept:List (List Str)),dL gY (bR k rs) (F,kn,kept)=some (F++ufL k kn rs,lkL kn rs,kept)
 |[],k,F,kn,kept=>by simp only[bR,dL,ufL,lkL,List.append_nil]
 |r::rs,k,F,kn,kept=>by
  simp only[bR];rw[cH,bV4 r];simp only[Option.bind_some];rw[rW rs];simp only[ufL,lkL,List.append_assoc]
end
abbrev TSt:=List Ft×List Int
def uQ(s w:Str):Bool:=decide (s="else") || (decide (s="row")&&decide (w∈(["when","times"]:List Str)))
def eR(s:Stp):Bool:=uQ s.1 s.2.1.w
theorem bI7:uQ "row" "tell"=false:=by decide
theorem bL2:uQ "row" "let"=false:=by decide
theorem bN1:uQ "row" "when"=true:=by decide
theorem bR2:uQ "row" "times"=true:=by decide
theorem bR9(w:Str):uQ "else" w=true:=by
 unfold uQ;rw[af rfl];rfl
theorem bB1(w:Str):uQ "end" w=false:=by
 unfold uQ;rw[ba aV1,ba gX];rfl
theorem bQ3{w:Str}(h:w∈cV):uQ "row" w=false:=by
 simp only[cV,List.mem_cons,List.not_mem_nil,or_false] at h;rcases h with rfl|rfl|rfl|rfl<;>decide
def xF(r:Rw)(k:Nat)(st:TSt):Option TSt:=match r with
 |.times _ _ n _=>match st.2 with
  |i::c::cs=>some (st.1,(c+n*i)::cs)
  |[_]=>none
  |[]=>none
 |.when _ _ _ _ _ _=>match st.2 with
  |o::i::c::cs=>some (st.1++(if i=o then [] else [((k:Int),2)]),(c+i)::cs)
  |[_,_]=>none
  |[_]=>none
  |[]=>none
 |.thr _ _ _ _ _=>none
 |.lt _ _ _=>none
 |.tell _ _=>none
def rJ:Rw->Bool
 |.tell _ _=>true
 |.thr _ _ _ _ _=>false
 |.lt _ _ _=>false
 |.when _ _ _ _ _ _=>false
 |.times _ _ _ _=>false
def bB3(st:TSt):Option TSt:=match st.2 with
 |c::cs=>some (st.1,(c+1)::cs)
 |[]=>none
def gH(s:Stp)(st:TSt):Option TSt:=
 if eR s then some (st.1,0::st.2)
 else if rJ s.2.1 then bB3 st
 else if s.1="end" then xF s.2.1 s.2.2 st else some st
mutual
def WdR:Rw->Prop
 |.thr _ w _ _ _=>w∈cV
 |.lt _ _ _=>True
 |.tell _ _=>True
 |.when _ _ _ _ a b=>WdL a/\WdL b
 |.times _ _ _ b=>WdL b
def WdL:List Rw->Prop
 |[]=>True
 |r::rs=>WdR r/\WdL rs
end
theorem zS{s:Str}{r:Rw}{k:Nat}{st:TSt}(h:uQ s r.w=true):gH (s,r,k) st=some (st.1,0::st.2):=by unfold gH;rw[bg (show eR (s,r,k)=true from h)]
theorem bJ0{p:Addr}{t:Tm}{k:Nat}{st:TSt}:gH (("row": Str),Rw.tell p t,k) st=bB3 st:=by
 unfold gH;rw[av (by show ¬uQ "row" "tell"=true;rw[bI7];exact bj)];rfl
theorem bG4{r:Rw}{k:Nat}{st:TSt}(h:rJ r=false):gH (("end": Str),r,k) st=xF r k st:=by
 unfold gH;have:eR (("end": Str),r,k)=false:=bB1 _;rw[av (by rw[this];exact bj),av (by show ¬rJ r=true;rw[h];exact bj),bg rfl]
theorem bP2:¬(("row": Str)="end"):=by decide
theorem aN4{r:Rw}{k:Nat}{st:TSt}(h1:uQ "row" r.w=false)(h2:rJ r=false):gH (("row": Str),r,k) st=some st:=by
 unfold gH;rw[av (by show ¬uQ "row" r.w=true;rw[h1];exact bj),av (by show ¬rJ r=true;rw[h2];exact bj),av bP2]
mutual
theorem bT6:∀(r:Rw) (k:Nat) (F:List Ft) (c:Int) (cs:List Int),WdR r->dL gH (bY k r) (F,c::cs)=some (F++tf k r,(c+tel r)::cs)
 |.thr p w x vs am,k,F,c,cs,h=>by
  have h:w∈cV:=by simpa only[WdR] using h
  simp only[bY];rw[nE (aN4 (r:=Rw.thr p w x vs am) (bQ3 h) rfl)];simp only[dL,tf,tel,List.append_nil,Int.add_zero]
 |.lt p x t,k,F,c,cs,h=>by
  simp only[bY];rw[nE (aN4 (r:=Rw.lt p x t) bL2 rfl)];simp only[dL,tf,tel,List.append_nil,Int.add_zero]
 |.tell p t,k,F,c,cs,h=>by
  simp only[bY];rw[nE (st':=(F,(c+1)::cs)) bJ0];simp only[dL,tf,tel,List.append_nil]
 |.when p pa pb t a b,k,F,c,cs,h=>by
  simp only[WdR] at h;simp only[bY];rw[nE (zS (r:=Rw.when p pa pb t a b) bN1),cH,cH,cH,qY a _ _ _ _ h.1];simp only[Option.bind_some];rw[nE (zS (r:=Rw.when p pa pb t a b) (bR9 _))];simp only[dL,Option.bind_some];rw[qY b _ _ _ _ h.2];simp only[Option.bind_some];rw[bG4 (by rfl)];simp only[xF,Option.bind_some,tf,tel,tls,Int.zero_add,List.append_assoc]
 |.times p pb n b,k,F,c,cs,h=>by
  simp only[WdR] at h;simp only[bY];rw[nE (zS (r:=Rw.times p pb n b) bR2),cH,qY b _ _ _ _ h];simp only[Option.bind_some];rw[nE ((bG4 rfl).trans (show xF (Rw.times p pb n b) k _=some (F++tfL (k+1) b,(c+n*eE b)::cs) by simp only[xF,Int.zero_add]))];simp only[dL,tf,tel]
theorem qY:∀(rs:List Rw) (k:Nat) (F:List Ft) (c:Int) (cs:List Int),WdL rs->dL gH (bR k rs) (F,c::cs)=some (F++tfL k rs,(c+eE rs)::cs)
 |[],k,F,c,cs,h=>by simp only[bR,dL,tfL,eE,List.append_nil,Int.add_zero]
 |r::rs,k,F,c,cs,h=>by
  simp only[WdL] at h;simp only[bR];rw[cH,bT6 r _ _ _ _ h.1];simp only[Option.bind_some];rw[qY rs _ _ _ _ h.2];simp only[tfL,eE,List.append_assoc,Int.add_assoc]
end
theorem aI5{H H2:Hp}{d l a:Addr}(D2:dJ H2 d l)(o:eW d l H H2)(h:H2 a=none):H a=none:=by
 cases q:H a with
 |none=>rfl
 |some u =>
  exfalso;obtain⟨sd,n,ls,z⟩:=D2
  by_cases h1:a=d
  ·rw[h1,z.dc] at h;cases h
  ·by_cases h2:a=l
   ·rw[h2,z.lc] at h;cases h
   ·rw[o a u q h1 h2] at h;cases h
theorem eZ{H:Hp}{d l r:Addr}(D:dJ H d l)(h:H r=none):r≠d/\r≠l:=by
 obtain⟨sd,n,ls,z⟩:=D;exact⟨(aI z.dc h).symm,(aI z.lc h).symm⟩
theorem wY{H:Hp}{d l p:Addr}{xs ys:List V}(D:dJ H d l)(h:H p=some (.lst xs))(n:p≠l):dJ (aN H p (.lst ys)) d l:=by
 obtain⟨sd,k,ls,z⟩:=D;exact⟨sd,k,ls,⟨by rw[aH (iM z.dc h (by intro z;cases z))];exact z.dc,by rw[aH n.symm];exact z.lc,z.s0,z.s1,z.n0,z.l0⟩⟩
theorem aO{H H':Hp}{d l p:Addr}{xs:List V}(D:dJ H d l)(h:H p=some (.lst xs))(n:p≠l)(o:eW d l H H'):H' p=some (.lst xs):=by
 obtain⟨sd,k,ls,z⟩:=D;exact o _ _ h (iM h z.dc (by intro z;cases z)) n
theorem aC3{H H2:Hp}{d l lf:Addr}{o:HO}(h:eW d l H H2)(hf:H lf=none):eW d l H (aN H2 lf o):=fun b u e h1 h2=>by
 rw[aH (aI e hf)];exact h b u e h1 h2
def eX(S:List Addr)(H H':Hp):Prop:=∀b o,H b=some o->b∉S->H' b=some o
theorem eX.refl{S:List Addr}(H:Hp):eX S H H:=fun _ _ e _=>e
theorem eX.trans{S:List Addr}{H H1 H2:Hp}(a:eX S H H1)(b:eX S H1 H2):eX S H H2:=fun c o e h=>b c o (a c o e h) h
theorem eX.of{S:List Addr}{H H':Hp}(s:bD H H'):eX S H H':=fun c o e _=>s c o e
theorem eX.out{d l sc:Addr}{H H':Hp}(o:eW d l H H'):eX [d,l,sc] H H':=fun b u e n=>o b u e (fun z=>n (by rw[z];exact aq)) (fun z=>n (by rw[z];exact ak _ aq))
theorem eX.new{S:List Addr}{H H1:Hp}{p:Addr}{o:HO}(a:eX S H H1)(h:H p=none):eX S H (aN H1 p o):=fun b u e n=>by
 rw[aH (aI e h)];exact a b u e n
theorem eX.fresh{S:List Addr}{H H1:Hp}{p:Addr}(a:eX S H H1)(hS:∀b∈S,∃o,H1 b=some o)(h:H1 p=none):H p=none:=by
 cases q:H p with
 |none=>rfl
 |some u =>
  exfalso
  by_cases m:p∈S
  ·obtain⟨o,e⟩:=hS p m;rw[e] at h;cases h
  ·rw[a p u q m] at h;cases h
section
variable {H H':Hp}{d l sc nl:Addr}{many:Int}{xs:List Str}
end
mutual
def sJ(ks:List Str):Rw->List Str->Prop
 |.thr _ _ x _ am,k2=>k2=ks++[x]/\am=false
 |.lt _ x t,k2=>k2=ks++[x]/\∀y∈t.names,y∈ks
 |.tell _ t,k2=>k2=ks/\∀y∈t.names,y∈ks
 |.when _ _ _ t a b,k2=>(∀y∈t.names,y∈ks)/\∃k3 k4,fO ks a k3/\fO ks b k4/\k2=k3.filter (fun x=>decide (x∈k4))
 |.times _ _ _ b,k2=>fO ks b k2
def fO(ks:List Str):List Rw->List Str->Prop
 |[],k2=>k2=ks
 |r::rs,k2=>∃k1,sJ ks r k1/\fO k1 rs k2
end
theorem fO.app{ks k1 k2:List Str}{r:Rw}:∀{rs:List Rw}{ks:List Str},fO ks rs k1->sJ k1 r k2->fO ks (rs++[r]) k2
 |[],ks,h,h2=>by
  have h:k1=ks:=h;rw[h] at h2;exact⟨k2,h2,rfl⟩
 |q::rs,ks,⟨k3,h1,h2⟩,h3=>⟨k3,h1,fO.app (ks:=ks) h2 h3⟩
mutual
theorem sJ.len:∀(r:Rw) {ks k2:List Str},sJ ks r k2->k2.length<=ks.length+r.cnt
 |.thr _ _ x _ am,ks,k2,h=>by rw[h.1];simp[Rw.cnt]
 |.lt _ x t,ks,k2,h=>by rw[h.1];simp[Rw.cnt]
 |.tell _ t,ks,k2,h=>by rw[h.1];simp[Rw.cnt]
 |.when _ _ _ t a b,ks,k2,⟨_,k3,k4,h1,h2,h3⟩=>by
  have:=fO.len a h1;have:=jv (fun x=>decide (x∈k4)) k3;rw[h3];simp only[Rw.cnt];lia
 |.times _ _ _ b,ks,k2,h=>by
  have:=fO.len b (show fO ks b k2 from h);simp only[Rw.cnt];lia
theorem fO.len : ∀(rs : List Rw) {ks k2 : List Str},fO ks rs k2 -> k2.length <= ks.length + bP rs
  | [],ks,k2,h => by rw[show k2 = ks from h]; simp[bP]
  | r::rs,ks,k2,⟨k1,h1,h2⟩ => by
    have:= sJ.len r h1;have:= fO.len rs h2;simp only[bP];lia
end
mutual
def lT:Rw->Prop
 |.thr _ _ _ _ _=>True
 |.lt _ _ _=>True
 |.tell _ _=>True
 |.when _ _ _ _ a b=>eE a=eE b/\cA a/\cA b
 |.times _ _ n b=>(0<=n/\n<=9/\0<=eE b/\eE b<=100)/\cA b
def cA:List Rw->Prop
 |[]=>True
 |r::rs=>lT r/\cA rs
end
theorem nA:∀(rs qs:List Rw),eE (rs++qs)=eE rs+eE qs
 |[],qs=>by simp[eE]
 |r::rs,qs=>by simp only[List.cons_append,eE,nA rs qs];lia
theorem cA.app:∀{rs qs:List Rw},cA rs->cA qs->cA (rs++qs)
 |[],_,_,h=>h
 |_::_,_,⟨h,k⟩,h2=>⟨h,cA.app k h2⟩
def tn:Nat->Nat
 |0=>2
 |1=>2
 |2=>4
 |_=>7
def cb:Nat->Nat
 |0=>6
 |1=>30
 |2=>248
 |_=>3483
def pb:Nat->Nat
 |0=>1
 |m+1=>1+2*cb m
mutual
def Rw.dp:Rw->Nat
 |.when _ _ _ _ a b=>1+max (jD a) (jD b)
 |.times _ _ _ b=>1+jD b
 |.thr _ _ _ _ _=>0
 |.lt _ _ _=>0
 |.tell _ _=>0
def jD:List Rw->Nat
 |[]=>0
 |r::rs=>max r.dp (jD rs)
end
theorem uV{m:Nat}{r:Rw}:∀{rs:List Rw},jD rs<=m->r.dp<=m->jD (rs++[r])<=m
 |[],_,h=>by simp only[List.nil_append,jD];lia
 |q::rs,h,h2=>by
  simp only[jD] at h;have:=uV (rs:=rs) (m:=m) (r:=r) (by lia) h2;simp only[List.cons_append,jD];lia
def bL(rs:List Rw):List V:=rs.map fun r=>V.ref r.p
inductive spParts(vs:List V)(H:Hp)(Q:VK)(z1:XK):Prop
 |mk:∀t:Tm,(vs=[.ref t.p])->(lN H t)->(t.size<=900)->(∀(r:Addr) (H':Hp),bD H H'->H r=none->H' r=some (.lst (t.pre.map fun u=>V.ref u.p))->Q (.ref r) H')->spParts vs H Q z1
abbrev Stq:=Str×Rw
def kR(H:Hp)(z:V)(s:Stq):Prop:=∃q,z= .ref q/\H q=some (.tup [.str s.1,.ref s.2.p])
def mB(H:Hp)(z:V)(s:Stp):Prop:=∃q,z= .ref q/\H q=some (.tup [.str s.1,.ref s.2.1.p,.int s.2.2])
theorem kR.ts{H H':Hp}(t:TS H H'){z:V}{s:Stq}(h:kR H z s):kR H' z s:=by obtain⟨q,e,k⟩:=h;exact⟨q,e,t _ _ k⟩
theorem mB.ts{H H':Hp}(t:TS H H'){z:V}{s:Stp}(h:mB H z s):mB H' z s:=by obtain⟨q,e,k⟩:=h;exact⟨q,e,t _ _ k⟩
def eQ:Rw->List Stq
 |.when p pa pb t a b=>a.map (fun r=>(("row": Str),r))++[(("else": Str),Rw.when p pa pb t a b)]++b.map (fun r=>(("row": Str),r))++[(("end": Str),Rw.when p pa pb t a b)]
 |.times p pb n b=>b.map (fun r=>(("row": Str),r))++[(("end": Str),Rw.times p pb n b)]
 |.thr _ _ _ _ _=>[]
 |.lt _ _ _=>[]
 |.tell _ _=>[]
inductive spAsS(vs:List V)(H:Hp)(Q:VK)(z1:XK):Prop
 |mk:∀(p:Addr) (rs:List Rw),(vs=[.ref p])->(H p=some (.tup (bL rs)))->(rs.length<=4000)->(∀(r:Addr) (zs:List V) (H':Hp),bD H H'->H' r=some (.lst zs)->fQ (kR H') zs (rs.map fun r=>(("row": Str),r))->Q (.ref r) H')->spAsS vs H Q z1
inductive spInner(vs:List V)(H:Hp)(Q:VK)(z1:XK):Prop
 |mk:∀(r:Rw),(vs=[.ref r.p])->(eF H r)->(r.cnt<=4000)->(∀(q:Addr) (zs:List V) (H':Hp),bD H H'->H' q=some (.lst zs)->fQ (kR H') zs (eQ r)->Q (.ref q) H')->spInner vs H Q z1
inductive spSteps(vs:List V)(H:Hp)(Q:VK)(z1:XK):Prop
 |mk:∀(p:Addr) (rs:List Rw),(vs=[.ref p])->(H p=some (.tup (bL rs)))->(aZ H rs)->(bP rs<=4000)->(∀(r:Addr) (zs:List V) (H':Hp),bD H H'->H r=none->H' r=some (.lst zs)->fQ (mB H') zs (bR 0 rs)->Q (.ref r) H')->spSteps vs H Q z1
def Tm.nm:Tm->Option Str
 |.nam _ x=>some x
 |_=>none
theorem Tm.pre_names:∀t:Tm,t.pre.filterMap Tm.nm=t.names
 |.num _ _=>rfl
 |.nam _ _=>rfl
 |.op p s a b=>by
  show List.filterMap Tm.nm (Tm.op p s a b::(a.pre++b.pre))=a.names++b.names;rw[ip (by rfl),dw,Tm.pre_names a,Tm.pre_names b]
inductive spNamesIn(vs:List V)(H:Hp)(Q:VK)(z1:XK):Prop
 |mk:∀t:Tm,(vs=[.ref t.p])->(lN H t)->(t.size<=900)->(∀(r:Addr) (H':Hp),bD H H'->H' r=some (.lst (t.names.map V.str))->Q (.ref r) H')->spNamesIn vs H Q z1
inductive spSetsN(vs:List V)(H:Hp)(Q:VK)(z1:XK):Prop
 |mk:∀r:Rw,(vs=[.ref r.p])->(eF H r)->(Q (.bl r.sets.isSome) H)->spSetsN vs H Q z1
inductive spAsked(vs:List V)(H:Hp)(Q:VK)(z1:XK):Prop
 |mk:∀r:Rw,(vs=[.ref r.p])->(eF H r)->(∀(q:Addr) (H':Hp),bD H H'->H' q=some (.lst (r.asked.map V.str))->Q (.ref q) H')->spAsked vs H Q z1
inductive spBegins(vs:List V)(H:Hp)(Q:VK)(z1:XK):Prop
 |mk:∀s:Stp,(vs=[.str s.1,.ref s.2.1.p])->(eF H s.2.1)->(∀H',bD H H'->Q (.bl (eR s)) H')->spBegins vs H Q z1
inductive spFirstA(vs:List V)(H:Hp)(Q:VK)(z1:XK):Prop
 |mk:∀(p:Addr) (x:Str) (us:List V) (am:Bool),(vs=[.ref p])->(H p=some (.tup (.str "first" :: .str x::us)))->(mY H "first" us am)->(Q (.bl am) H)->spFirstA vs H Q z1
def Rw.ams:Rw->Bool
 |.thr _ _ _ _ am=>am
 |.lt _ _ _=>false
 |.tell _ _=>false
 |.when _ _ _ _ _ _=>false
 |.times _ _ _ _=>false
inductive spRangeA(vs:List V)(H:Hp)(Q:VK)(z1:XK):Prop
 |mk:∀r:Rw,(vs=[.ref r.p])->(eF H r)->(Q (.bl r.ams) H)->spRangeA vs H Q z1
def lX(H:Hp)(ls:Addr)(zs:List V)(rs:List Rw):Prop:=H ls=some (.lst zs)/\fQ (mB H) zs (bR 0 rs)/\aZ H rs/\bP rs<=4000
theorem lX.same{H H':Hp}(s:bD H H'){ls:Addr}{zs:List V}{rs:List Rw}(h:lX H ls zs rs):lX H' ls zs rs:=⟨s _ _ h.1,h.2.1.mono fun _ _ z=>mB.ts (.of s) z,aZ.ts (.of s) rs h.2.2.1,h.2.2.2⟩
def ftW(c:Int):Str:=if c=0 then "range" else if c=1 then "unknown" else "tells"
def lM(H:Hp)(z:V)(m:Ft):Prop:=∃q,z= .ref q/\H q=some (.tup [.int m.1,.int m.2,.str (ftW m.2)])
theorem lM.ts{H H':Hp}(t:TS H H'){z:V}{m:Ft}(h:lM H z m):lM H' z m:=by obtain⟨q,e,k⟩:=h;exact⟨q,e,t _ _ k⟩
def bM8(H:Hp)(Q:VK)(fs:List Ft):Prop:=∀(r:Addr) (us:List V) (H':Hp),bD H H'->H r=none->H' r=some (.lst us)->fQ (lM H') us fs->Q (.ref r) H'
inductive spRangeF(vs:List V)(H:Hp)(Q:VK)(z1:XK):Prop
 |mk:∀(ls:Addr) (zs:List V) (rs:List Rw),(vs=[.ref ls])->(lX H ls zs rs)->(bM8 H Q (rfL 0 rs))->spRangeF vs H Q z1
inductive spUnkF(vs:List V)(H:Hp)(Q:VK)(z1:XK):Prop
 |mk:∀(ls:Addr) (zs:List V) (rs:List Rw),(vs=[.ref ls])->(lX H ls zs rs)->(bM8 H Q (ufL 0 [] rs))->spUnkF vs H Q z1
mutual
def yY:Rw->Prop
 |.when _ _ _ _ a b=>wK a/\wK b
 |.times _ _ n b=>0<=n/\n<=9/\wK b
 |.thr _ _ _ _ _=>True
 |.lt _ _ _=>True
 |.tell _ _=>True
def wK:List Rw->Prop
 |[]=>True
 |r::rs=>yY r/\wK rs
end
inductive spTelF(vs:List V)(H:Hp)(Q:VK)(z1:XK):Prop
 |mk:∀(ls:Addr) (zs:List V) (rs:List Rw),(vs=[.ref ls])->(lX H ls zs rs)->(wK rs)->(jD rs<=6)->(bM8 H Q (tfL 0 rs))->spTelF vs H Q z1
structure Dk(H:Hp)(a:Addr)(ns:List Str)(n:Nat):Prop where
 ex:∃kvs:List (Key×V),H a=some (.dK kvs)/\(∀x:Str,(dP kvs (Sum.inr x:Key)).isSome=true↔x∈ns)/\(∀q∈kvs,∃x,q.1=(Sum.inr x:Key))/\kvs.length<=n
theorem Dk.at{H H':Hp}{a:Addr}{ns:List Str}{n:Nat}(D:Dk H a ns n)(h:∀o,H a=some o->H' a=some o):Dk H' a ns n:=⟨let⟨k,e,r⟩:=D.ex;⟨k,h _ e,r⟩⟩
theorem Dk.more{H:Hp}{a:Addr}{ns:List Str}{n m:Nat}(D:Dk H a ns n)(h:n<=m):Dk H a ns m:=⟨let⟨k,e,r1,r2,r3⟩:=D.ex;⟨k,e,r1,r2,by lia⟩⟩
inductive spBoth(vs:List V)(H:Hp)(Q:VK)(z1:XK):Prop
 |mk:∀(a b:Addr) (ka kb:List Str) (n m:Nat),(vs=[.ref a,.ref b])->(a≠b)->(Dk H a ka n)->(Dk H b kb m)->(n<=20000)->(∀(d:Addr) (H':Hp),(∀c o,H c=some o->c≠a->H' c=some o)->H d=none->Dk H' d (ka.filter fun x=>decide (x∈kb)) n->Q (.ref d) H')->spBoth vs H Q z1
theorem gR{n:Nat}(h:n<=9000000):n<sizeLine:=by rw[qx];lia
theorem aB2:∀l:List Tm,l.length<=(l.flatMap Tm.pre).length
 |[]=>ah _
 |t::r=>by have:=aB2 r;have:=t.size_pos;rw[bz,sv,ao,Tm.pre_len];lia
theorem cB4:¬(V.str "num"=V.str "op"):=by decide
theorem bY6:¬(V.str "name"=V.str "op"):=by decide
theorem wOM:¬(V.str "op"=V.str "name"):=by decide
theorem wTW:¬(V.str "times"=V.str "when"):=by decide
theorem wLW:¬(V.str "let"=V.str "when"):=by decide
theorem wLT:¬(V.str "let"=V.str "times"):=by decide
theorem wEW:¬(V.str "tell"=V.str "when"):=by decide
theorem wET:¬(V.str "tell"=V.str "times"):=by decide
theorem aY1{w:Str}(h:w∈cV):¬(V.str w=V.str "when"):=fun z=>by
 have e:w="when":=by injection z
 rw[e] at h;exact absurd h (by decide)
theorem bI1{w:Str}(h:w∈cV):¬(V.str w=V.str "times"):=fun z=>by
 have e:w="times":=by injection z
 rw[e] at h;exact absurd h (by decide)
theorem jB{v:V}{r:List V}:nO (v::r) 0=some v:=by
 unfold nO ixN;rw[bg (mw 0),bg (by rw[bz];lia)];rfl
theorem bB(rs:List Rw):(bL rs).length=rs.length:=ac _
theorem bC0{rs:List Rw}{i:Nat}{v:V}(h:(bL rs)[i]?=some v):∃r,v= .ref r.p/\rs[i]?=some r:=by
 unfold bL at h;rw[cq] at h
 cases e:rs[i]? with
 |none=>rw[e] at h;cases h
 |some r=>rw[e] at h;exact⟨r,(dg h).symm,rfl⟩
theorem dS(rs qs:List Rw):bL (rs++qs)=bL rs++bL qs:=au ..
theorem lO{α:Type}{R:V->α->Prop}:∀{vs:List V}{as:List α}{i:Nat}{v:V},fQ R vs as->vs[i]?=some v->∃a,as[i]?=some a/\R v a
 |[],[],i,v,_,h=>by cases h
 |v::vs,a::as,0,_,⟨e,_⟩,h=>by cases h;exact⟨a,rfl,e⟩
 |v::vs,a::as,i+1,x,⟨_,r⟩,h=>by
  obtain⟨b,h1,h2⟩:=lO (i:=i) (v:=x) r (by simpa using h);exact⟨b,by simpa using h1,h2⟩
 |[],_::_,_,_,z,_=>z.elim
 |_::_,[],_,_,z,_=>z.elim
theorem uM{α:Type}{R:V->α->Prop}:∀{vs:List V}{as:List α},fQ R vs as->fQ R vs.reverse as.reverse
 |[],[],_=>trivial
 |v::vs,a::as,⟨e,r⟩=>by
  rw[db,db];exact fQ.append (uM r) ⟨e,trivial⟩
 |[],_::_,z=>z.elim
 |_::_,[],z=>z.elim
theorem xQ{α:Type}{R:V->α->Prop}:∀{as:List α}{vs:List V}{a:α},fQ R vs (as++[a])->∃us v,vs=us++[v]/\fQ R us as/\R v a
 |[],[v],a,⟨e,_⟩=>⟨[],v,rfl,trivial,e⟩
 |[],_::_::_,_,⟨_,z⟩=>z.elim
 |[],[],_,z=>z.elim
 |b::bs,[],_,z=>z.elim
 |b::bs,v::vs,a,⟨e,r⟩=>by
  obtain⟨us,u,h1,h2,h3⟩:=xQ (as:=bs) r;exact⟨v::us,u,by rw[h1];rfl,⟨e,h2⟩,h3⟩
theorem vE:∀{rs:List Rw}{r:Rw},r∈rs->r.cnt<=bP rs
 |[],_,h=>absurd h dv
 |q::rs,r,h=>by
  simp only[bP];rcases bu.mp h with e|e
  ·rw[e];lia
  ·have:=vE e;lia
theorem aF9:∀{r:Rw}{s:Stq},s∈eQ r->s.2=r\/s.2∈r.kids
 |.when p pa pb t a b,s,h=>by
  simp only[eQ,List.mem_append,List.mem_map,List.mem_singleton] at h;rcases h with((⟨x,hx,e⟩|e)|⟨x,hx,e⟩)|e
  ·right;rw[<-e];exact bv _ hx
  ·left;rw[e]
  ·right;rw[<-e];exact bh _ hx
  ·left;rw[e]
 |.times p pb n b,s,h=>by
  simp only[eQ,List.mem_append,List.mem_map,List.mem_singleton] at h;rcases h with⟨x,hx,e⟩|e
  ·right;rw[<-e];exact hx
  ·left;rw[e]
 |.thr _ _ _ _ _,_,h=>absurd h dv
 |.lt _ _ _,_,h=>absurd h dv
 |.tell _ _,_,h=>absurd h dv
theorem aT2{H:Hp}{r:Rw}(h:eF H r)(hc:r.cnt<=4000){s:Stq}(m:s∈eQ r):eF H s.2/\s.2.cnt<=4000:=by
 rcases aF9 m with e|e
 ·rw[e];exact⟨h,hc⟩
 ·have:=vE e;have:=aK9 r;exact⟨h.kids.mem _ e,by lia⟩
theorem dQ(w:Str)(xs:List Str):oY (.str w) (xs.map V.str)=decide (w∈xs):=by
 unfold oY;rw[List.any_map]
 induction xs with
 |nil=>rfl
 |cons x r ih =>
  rw[mi,ih];have e:(eqV (V.str x) (V.str w))=decide (x=w):=rfl;show(eqV (V.str x) (V.str w) || _)=_;rw[e]
  by_cases c:x=w
  ·simp[c]
  ·have c2:¬w=x:=fun z=>c z.symm
   simp[c,c2]
theorem cJ(xs:List Str):(xs.map V.str).all lV=true:=nZ xs
theorem iL{xs:List Str}{i:Nat}{v:V}(h:(xs.map V.str)[i]?=some v):∃x,v= .str x/\xs[i]?=some x:=by
 rw[cq] at h
 cases e:xs[i]? with
 |none=>rw[e] at h;cases h
 |some r=>rw[e] at h;exact⟨r,(dg h).symm,rfl⟩
theorem bP0{r:Int}(h0:0<=r)(h1:r<5):∃c,nO ("+-*<=": Str).cps.toList r=some c/\(⟨#[c]⟩:Str)∈bS1:=by
 have:r=0\/r=1\/r=2\/r=3\/r=4:=by lia
 rcases this with rfl|rfl|rfl|rfl|rfl
 ·exact⟨43,rfl,by decide⟩
 ·exact⟨45,rfl,by decide⟩
 ·exact⟨42,rfl,by decide⟩
 ·exact⟨60,rfl,by decide⟩
 ·exact⟨61,rfl,by decide⟩
theorem aY2{α:Type}{xs:List α}{r:Int}(h0:0<=r)(h1:r<(xs.length:Int)):∃v,xs[r.toNat]?=some v/\nO xs r=some v:=by
 have hk:r.toNat<xs.length:=by lia
 refine⟨_,bc hk,?_⟩;have q:=aD9 (bc hk);rw[mz h0] at q;exact q
theorem aY7{H H1 H2:Hp}{d l sc:Addr}(o:eW d l H H1)(n:H sc=none)(o2:eX [d,l,sc] H1 H2):eW d l H H2:=fun b u e h1 h2=>by
 refine o2 b u (o b u e h1 h2) fun m=>?_
 simp only[List.mem_cons,List.not_mem_nil,or_false] at m;rcases m with m|m|m
 ·exact h1 m
 ·exact h2 m
 ·rw[m,n] at e;cases e
def dX:List Stp->Nat
 |[]=>0
 |s::r=>(if s.1="row" then s.2.1.cnt else 0)+dX r
def eV(k:Nat):List Stp->List Stp
 |[]=>[]
 |s::r=>if s.1="row" then bY k s.2.1++eV (k+s.2.1.cnt) r else s::eV k r
def pZ(k:Nat)(s:Stq):Stp:=(s.1,s.2,k)
theorem hJ:∀(l m:List Stp) (k:Nat),eV k (l++m)=eV k l++eV (k+dX l) m
 |[],m,k=>by simp only[List.nil_append,eV,dX,Nat.add_zero]
 |s::r,m,k=>by
  simp only[List.cons_append,eV,dX]
  by_cases c:s.1="row"
  ·rw[bg c,bg c,bg c,hJ r m,lq,Nat.add_assoc]
  ·rw[av c,av c,av c,hJ r m,Nat.zero_add,ub]
theorem iU:∀(rs:List Rw) (k j:Nat),eV k (rs.map fun r=>pZ j (("row": Str),r))=bR k rs/\dX (rs.map fun r=>pZ j (("row": Str),r))=bP rs
 |[],k,j=>⟨by simp only[List.map_nil,eV,bR],by simp only[List.map_nil,dX,bP]⟩
 |r::rs,k,j=>by
  have h:=iU rs (k+r.cnt) j;simp only[List.map_cons,eV,dX,bR,bP,pZ,if_true];exact⟨dz _ h.1,dz _ h.2⟩
theorem wW{s:Stp}{k:Nat}{r:List Stp}(h:s.1="row"):eV k (s::r)=bY k s.2.1++eV (k+s.2.1.cnt) r:=by rw[eV,bg h]
theorem kI{s:Stp}{k:Nat}{r:List Stp}(h:¬s.1="row"):eV k (s::r)=s::eV k r:=by rw[eV,av h]
theorem fV:∀(l m:List Stp),dX (l++m)=dX l+dX m
 |[],m=>by simp only[List.nil_append,dX,Nat.zero_add]
 |s::r,m=>by simp only[List.cons_append,dX,fV r m,Nat.add_assoc]
theorem mH{s:Stp}(h:¬s.1="row"):dX [s]=0:=by simp only[dX,if_neg h]
theorem rK(k:Nat)(rs:List Rw):((rs.map fun r=>(("row": Str),r)).map (pZ k))=rs.map fun r=>pZ k (("row": Str),r):=by rw[kq];rfl
theorem wB:∀(r:Rw) (k:Nat),bY k r=(("row": Str),r,k)::eV (k+1) ((eQ r).map (pZ k))/\1+dX ((eQ r).map (pZ k))=r.cnt
 |.when p pa pb t a b,k=>by
  obtain⟨h1,h2⟩:=iU a (k+1) k;obtain⟨h3,h4⟩:=iU b (k+1+bP a) k;simp only[eQ,List.map_append,rK,List.map_cons,List.map_nil];have e1:¬(pZ k (("else": Str),Rw.when p pa pb t a b)).1="row":=vO;have e2:¬(pZ k (("end": Str),Rw.when p pa pb t a b)).1="row":=gX;refine⟨?_,?_⟩
  ·rw[hJ,hJ,hJ,fV,mH e1,h2,h1];simp only[Nat.add_zero];rw[h3,kI e1,kI e2];simp only[eV,bY];rfl
  ·rw[fV,fV,fV,mH e1,mH e2,h2,h4];simp only[Rw.cnt];lia
 |.times p pb n b,k=>by
  obtain⟨h1,h2⟩:=iU b (k+1) k;simp only[eQ,List.map_append,rK,List.map_cons,List.map_nil];have e2:¬(pZ k (("end": Str),Rw.times p pb n b)).1="row":=gX;refine⟨?_,?_⟩
  ·rw[hJ,h1,kI e2];simp only[eV,bY];rfl
  ·rw[fV,mH e2,h2];simp only[Rw.cnt];lia
 |.thr p w x vs am,k=>⟨by simp only[bY,eQ,List.map_nil,eV],by simp only[eQ,List.map_nil,dX,Rw.cnt]⟩
 |.lt p x t,k=>⟨by simp only[bY,eQ,List.map_nil,eV],by simp only[eQ,List.map_nil,dX,Rw.cnt]⟩
 |.tell p t,k=>⟨by simp only[bY,eQ,List.map_nil,eV],by simp only[eQ,List.map_nil,dX,Rw.cnt]⟩
theorem aI2{s:Stp}{k:Nat}{r:List Stp}(h:s.1="row"):eV k (s::r)=(("row": Str),s.2.1,k)::eV (k+1) ((eQ s.2.1).map (pZ k)++r):=by
 obtain⟨h1,h2⟩:=wB s.2.1 k;rw[wW h,h1,hJ,ub, <-h2]
 congr 3
 lia
theorem aW5(r:Rw)(k:Nat):1<=(bY k r).length:=by rw[(wB r k).1];simp
theorem nH:∀(l:List Stp) (k:Nat),l.length<=(eV k l).length
 |[],k=>ah _
 |s::r,k=>by
  by_cases c:s.1="row"
  ·have:=nH r (k+s.2.1.cnt);have:=aW5 s.2.1 k;rw[wW c,bz,ao];lia
  ·have:=nH r k;rw[kI c,bz,bz];lia
def kJ(H:Hp)(z:V)(s:Stp):Prop:=∃q m,z= .ref q/\H q=some (.tup [.str s.1,.ref s.2.1.p,.int m])/\(¬s.1="row"->m=(s.2.2:Int))
theorem kJ.ts{H H':Hp}(t:TS H H'){z:V}{s:Stp}(h:kJ H z s):kJ H' z s:=by
 obtain⟨q,m,e,k,l⟩:=h;exact⟨q,m,e,t _ _ k,l⟩
theorem p9(n:Nat):(1:Int)<=9^n:=by
 induction n with
 |zero=>decide
 |succ n ih=>rw[yf];lia
theorem aO3{n m:Nat}(h:n<=m):(9:Int)^n<=9^m:=by
 induction m with
 |zero=>rw[Nat.le_zero.mp h];exact mw _
 |succ m ih =>
  by_cases c:n=m+1
  ·rw[c];exact mw _
  ·have:=ih (by lia);have:=p9 m;rw[yf];lia
mutual
theorem bK0:∀r:Rw,yY r->0<=tel r/\tel r<=9^r.dp*(r.cnt:Int)
 |.thr _ _ _ _ _,_=>by simp only[tel,Rw.dp,Rw.cnt];decide
 |.lt _ _ _,_=>by simp only[tel,Rw.dp,Rw.cnt];decide
 |.tell _ _,_=>by simp only[tel,Rw.dp,Rw.cnt];decide
 |.when _ _ _ _ a b,h=>by
  have h1:=vB a h.1;simp only[tel,Rw.dp,Rw.cnt];refine⟨h1.1,Int.le_trans h1.2 ?_⟩;refine Int.mul_le_mul (aO3 (by lia)) (by lia) (by lia) (by have:=p9 (1+max (jD a) (jD b));lia)
 |.times _ _ n b,h=>by
  have h1:=vB b h.2.2;simp only[tel,Rw.dp,Rw.cnt];refine⟨Int.mul_nonneg h.1 h1.1,?_⟩;have h2:n*eE b<=9*(9^jD b*(bP b:Int)):=Int.mul_le_mul h.2.1 h1.2 h1.1 (by decide);have h3:(9:Int)*(9^jD b*(bP b:Int))=9^(1+jD b)*(bP b:Int):=by rw[Nat.add_comm,yf, <-Int.mul_assoc,Int.mul_comm 9]
  have h4:(9:Int)^(1+jD b)*(bP b:Int)<=9^(1+jD b)*((1+bP b:Nat):Int):=qp (by lia) (by have:=p9 (1+jD b);lia);lia
theorem vB:∀rs:List Rw,wK rs->0<=eE rs/\eE rs<=9^jD rs*(bP rs:Int)
 |[],_=>by simp only[eE,jD,bP];decide
 |r::rs,h=>by
  have h1:=bK0 r h.1;have h2:=vB rs h.2;simp only[eE,jD,bP];have h3:(9:Int)^r.dp*(r.cnt:Int)<=9^max r.dp (jD rs)*(r.cnt:Int):=qj (aO3 (by lia)) (by lia);have h4:(9:Int)^jD rs*(bP rs:Int)<=9^max r.dp (jD rs)*(bP rs:Int):=qj (aO3 (by lia)) (by lia);refine⟨by lia,?_⟩;rw[show((r.cnt+bP rs:Nat):Int)=(r.cnt:Int)+(bP rs:Int) by lia,Int.mul_add];lia
end
theorem aG8{w:Str}(h:w∈cV):w≠"tell":=by
 simp only[cV,List.mem_cons,List.not_mem_nil,or_false] at h;rcases h with rfl|rfl|rfl|rfl<;>decide
mutual
theorem eF.wd{H:Hp}:∀(r:Rw),eF H r->WdR r
 |.thr _ _ _ _ _,h=>h.2.w
 |.lt _ _ _,_=>trivial
 |.tell _ _,_=>trivial
 |.when _ _ _ _ a b,h=>⟨aZ.wd a h.2.2.2.2.2.1,aZ.wd b h.2.2.2.2.2.2⟩
 |.times _ _ _ b,h=>aZ.wd b h.2.2
theorem aZ.wd{H:Hp}:∀(rs:List Rw),aZ H rs->WdL rs
 |[],_=>trivial
 |r::rs,h=>⟨eF.wd r h.1,aZ.wd rs h.2⟩
end
mutual
theorem aR7:∀(r:Rw) {H:Hp}(k:Nat),eF H r->∀s∈bY k r,eF H s.2.1
 |.thr p w x vs am,H,k,h,s,hs=>by
  simp only[bY,List.mem_singleton] at hs;rw[hs];exact h
 |.lt p x t,H,k,h,s,hs=>by
  simp only[bY,List.mem_singleton] at hs;rw[hs];exact h
 |.tell p t,H,k,h,s,hs=>by
  simp only[bY,List.mem_singleton] at hs;rw[hs];exact h
 |.when p pa pb t a b,H,k,h,s,hs=>by
  simp only[bY,List.mem_cons,List.mem_append,List.mem_singleton,List.not_mem_nil,or_false] at hs;rcases hs with e|((e|e)|e)|e
  ·rw[e];exact h
  ·exact eN a _ h.2.2.2.2.2.1 s e
  ·rw[e];exact h
  ·exact eN b _ h.2.2.2.2.2.2 s e
  ·rw[e];exact h
 |.times p pb n b,H,k,h,s,hs=>by
  simp only[bY,List.mem_cons,List.mem_append,List.mem_singleton,List.not_mem_nil,or_false] at hs;rcases hs with e|e|e
  ·rw[e];exact h
  ·exact eN b _ h.2.2 s e
  ·rw[e];exact h
theorem eN:∀(rs:List Rw) {H:Hp}(k:Nat),aZ H rs->∀s∈bR k rs,eF H s.2.1
 |[],H,k,h,s,hs=>by simp only[bR] at hs;cases hs
 |r::rs,H,k,h,s,hs=>by
  simp only[bR,List.mem_append] at hs;rcases hs with e|e
  ·exact aR7 r k h.1 s e
  ·exact eN rs _ h.2 s e
end
theorem pN(a b:Str):(a++b).cps=a.cps++b.cps:=rfl
theorem bC2{a b:Str}{c c':Nat}(h:a++(⟨#[c]⟩:Str)++b=a++(⟨#[c']⟩:Str)++b):c=c':=by
 have e:=dz (fun z:Str=>z.cps.toList) h;simp only[pN,Array.toList_append] at e;have e2:=List.append_cancel_left (uo e)
 simpa using e2
theorem aV7{r:Nat}(h:r<26):nO ("abcdefghijklmnopqrstuvwxyz": Str).cps.toList (r:Int)=some (97+r):=by
 have:r=0\/r=1\/r=2\/r=3\/r=4\/r=5\/r=6\/r=7\/r=8\/r=9\/r=10\/r=11\/r=12\/r=13\/r=14\/r=15\/r=16\/r=17\/r=18\/r=19\/r=20\/r=21\/r=22\/r=23\/r=24\/r=25:=by lia
 rcases this with rfl|rfl|rfl|rfl|rfl|rfl|rfl|rfl|rfl|rfl|rfl|rfl|rfl|rfl|rfl|rfl|rfl|rfl|rfl|rfl|rfl|rfl|rfl|rfl|rfl|rfl<;>decide
def aF0(tn:Int)(k:Nat):Nat:=97+((tn+7*(k:Int)) % 26).toNat
theorem bB5(tn:Int)(k:Nat):nO ("abcdefghijklmnopqrstuvwxyz": Str).cps.toList ((tn+7*(0+(k:Int))) % 26)=some (aF0 tn k):=by
 have h0:0<=(tn+7*(k:Int)) % 26:=kz _ (by decide);have h1:(tn+7*(k:Int)) % 26<26:=lg _ (by decide);have e:((tn+7*(0+(k:Int))) % 26)=(((tn+7*(k:Int)) % 26).toNat:Int):=by rw[Int.zero_add,mz h0]
 rw[e,aV7 (by lia)];rfl
theorem aS7{tn:Int}{i j:Nat}(hi:i<9)(hj:j<9)(h:aF0 tn i=aF0 tn j):i=j:=by
 unfold aF0 at h;omega
def sR(a b:Str)(tn:Int)(k:Nat):Str:=a++(⟨#[aF0 tn k]⟩:Str)++b
def bR5(a b:Str)(tn:Int)(i:Nat)(ws:List Str):Prop:=ws.Nodup/\∀w∈ws,∃j,j<i/\(w=sR a b tn j\/w=sR a b tn j++"q")
theorem pP(a b:Str)(tn:Int)(k:Nat):(sR a b tn k).length=a.length+1+b.length:=by
 unfold sR;rw[ke,ke];rfl
theorem wV:("q": Str).length=1:=by decide
theorem aH1{a b:Str}{tn:Int}{i:Nat}{ws:List Str}(h:bR5 a b tn i ws)(hi:i<9){w:Str}(hw:w=sR a b tn i\/w=sR a b tn i++"q"):bR5 a b tn (i+1) (ws++[w]):=by
 refine⟨?_,fun v hv=>?_⟩
 ·rw[jk];refine⟨h.1,by simp,fun x hx y hy=>?_⟩;rw[cg.mp hy];obtain⟨j,hj,e⟩:=h.2 x hx;intro z;have li:=pP a b tn i;have lj:=pP a b tn j;have ne:sR a b tn j≠sR a b tn i:=fun q=>by
   have:=aS7 (by lia) hi (bC2 q);lia
  rcases e with e|e<;>rcases hw with e2|e2
  ·exact ne (by rw[<-e, <-e2,z])
  ·have:=dz Str.length (e.symm.trans (z.trans e2));rw[ke,wV] at this;lia
  ·have:=dz Str.length (e.symm.trans (z.trans e2));rw[ke,wV] at this;lia
  ·refine ne ?_;have e3:=dz (fun z:Str=>z.cps.toList) (e.symm.trans (z.trans e2));simp only[pN,Array.toList_append] at e3;have e4:=uo e3;have e5:=uq.mp e4;show(sR a b tn j)=_
   cases hj':sR a b tn j
   cases hi':sR a b tn i
   rw[hj',hi'] at e5;exact dz Str.mk e5
 ·rcases bp.mp hv with e|e
  ·obtain⟨j,hj,q⟩:=h.2 v e;exact⟨j,by lia,q⟩
  ·rw[cg.mp e];exact⟨i,by lia,hw⟩
theorem zP{ks:List Str}(h:ks.Nodup):(ks.map (fun x=>(Sum.inr x:Key))).Nodup:=by
 rw[sf,yy];exact h.imp fun z q=>z (by injection q)
theorem bY5{x y:Str}(h:¬x=y):¬((Sum.inr x:Key)=Sum.inr y):=fun z=>h (by injection z)
theorem Dk.new{H:Hp}{a:Addr}(h:H a=some (.dK [])):Dk H a [] 0:=⟨[],h,fun x=>by rw[nJ];simp,fun q hq=>absurd hq dv,ah _⟩
theorem Dk.ext{H:Hp}{a:Addr}{ns ms:List Str}{n:Nat}(D:Dk H a ns n)(h:∀x,x∈ns↔x∈ms):Dk H a ms n:=⟨let⟨k,e,r1,r2,r3⟩:=D.ex;⟨k,e,fun x=>(r1 x).trans (h x),r2,r3⟩⟩
theorem Dk.get{H:Hp}{a:Addr}{ns:List Str}{n:Nat}(D:Dk H a ns n)(x:Str):∃o:Option V,fK H a (.str x) o/\o.isSome=decide (x∈ns):=by
 obtain⟨kvs,e,r1,_⟩:=D.ex;refine⟨_,fK.k (k:=Sum.inr x) e,?_⟩
 by_cases c:x∈ns
 ·rw[af c];exact(r1 x).mpr c
 ·rw[ba c]
  cases q:(dP kvs (Sum.inr x:Key)).isSome with
  |false=>rfl
  |true=>exact absurd ((r1 x).mp q) c
theorem aJ1{m:List (Key×V)}{k:Key}{v:V}{q:Key×V}(h:q∈dI m k v):q.1=k\/∃p∈m,q.1=p.1:=by
 unfold dI at h
 split at h
 ·obtain⟨p,hp,e⟩:=dh.mp h
  by_cases c:p.1=k
  ·rw[bg c] at e;rw[<-e];exact .inr ⟨p,hp,rfl⟩
  ·rw[av c] at e;rw[<-e];exact .inr ⟨p,hp,rfl⟩
 ·rcases bp.mp h with e|e
  ·exact .inr ⟨q,e,rfl⟩
  ·rw[cg.mp e];exact .inl rfl
theorem Dk.put{H:Hp}{a:Addr}{ns:List Str}{n:Nat}(D:Dk H a ns n)(hn:n<=20000)(x:Str)(v:V):∃o:HO,gO H a (.str x) v (aN H a o)/\Dk (aN H a o) a (ns++[x]) (n+1)/\∃q,o= .dK q:=by
 obtain⟨kvs,e,r1,r2,r3⟩:=D.ex;refine⟨_,gO.k (k:=Sum.inr x) e (gR (by lia)),⟨_,aC,fun y=>?_,fun q hq=>?_,?_⟩,_,rfl⟩
 ·rw[aM0]
  by_cases c:y=x
  ·rw[bg (by rw[c]),c];simp
  ·rw[av (bY5 c),r1 y];simp[c]
 ·rcases aJ1 hq with z|⟨p,hp,z⟩
  ·exact⟨x,z⟩
  ·rw[z];exact r2 p hp
 ·have:=eK kvs (Sum.inr x:Key) v;lia
def pO(H:Hp)(n:Nat):List Addr->List (List Str)->Prop
 |[],[]=>True
 |a::r,k::q=>Dk H a k n/\pO H n r q
 |[],_::_=>False
 |_::_,[]=>False
theorem pO.at{H H':Hp}{n m:Nat}(hm:n<=m):∀{as:List Addr}{ks:List (List Str)},pO H n as ks->(∀a∈as,∀o,H a=some o->H' a=some o)->pO H' m as ks
 |[],[],_,_=>trivial
 |a::r,k::q,⟨h,h2⟩,e=>⟨(h.at (e a aq)).more hm,pO.at hm h2 fun b hb=>e b (ak _ hb)⟩
 |[],_::_,z,_=>z.elim
 |_::_,[],z,_=>z.elim
theorem pO.is{H:Hp}{n:Nat}:∀{as:List Addr}{ks:List (List Str)},pO H n as ks->∀a∈as,∃q,H a=some (.dK q)
 |[],[],_,_,h=>absurd h dv
 |a::r,k::q,⟨h,h2⟩,b,hb=>by
  rcases bu.mp hb with e|e
  ·rw[e];obtain⟨kvs,z,_⟩:=h.ex;exact⟨kvs,z⟩
  ·exact pO.is h2 b e
 |[],_::_,z,_,_=>z.elim
 |_::_,[],z,_,_=>z.elim
theorem pO.cons{H:Hp}{n:Nat}{as:List Addr}{k:List Str}{ks:List (List Str)}(h:pO H n as (k::ks)):∃a r,as=a::r/\Dk H a k n/\pO H n r ks:=by
 cases as with
 |nil=>exact h.elim
 |cons a r=>exact⟨a,r,rfl,h.1,h.2⟩
theorem pO.len{H:Hp}{n:Nat}:∀{as:List Addr}{ks:List (List Str)},pO H n as ks->as.length=ks.length
 |[],[],_=>rfl
 |a::r,k::q,⟨_,h2⟩=>by rw[bz,bz,pO.len h2]
 |[],_::_,z=>z.elim
 |_::_,[],z=>z.elim
def aF4(kvs:List (Key×V)):List Str:=kvs.filterMap fun q=>q.1.elim (fun _=>none) some
theorem aT9{kvs:List (Key×V)}{x:Str}:x∈aF4 kvs↔(dP kvs (Sum.inr x:Key)).isSome=true:=by
 unfold aF4;rw[jf]
 constructor
 ·rintro⟨⟨k,v⟩,m,e⟩
  cases k with
  |inl n=>cases e
  |inr y =>
   cases e
   unfold dP;rw[oo,oq];exact⟨_,m,af rfl⟩
 ·intro h;unfold dP at h;rw[oo,oq] at h;obtain⟨q,m,e⟩:=h;refine⟨q,m,?_⟩;rw[ag e];rfl
theorem mP{α σ:Type}{f:α->σ->Option σ}(μ:σ->Nat)(h:∀a st st',f a st=some st'->μ st'<=μ st+1):∀(l:List α) (st e:σ),dL f l st=some e->μ e<=μ st+l.length
 |[],st,e,z=>by cases z;exact ah _
 |a::r,st,e,z=>by
  have z:(f a st).bind (dL f r)=some e:=z
  cases q:f a st with
  |none=>rw[q] at z;cases z
  |some s1 =>
   rw[q] at z;have:=h a st s1 q;have:=mP μ h r s1 e z;rw[bz];lia
theorem bS5(s:Stp)(st st':USt)(h:gY s st=some st'):st'.2.2.length<=st.2.2.length+1:=by
 unfold gY at h
 split at h
 ·cases h
  unfold sQ
  split<;>simp only[List.length_cons]<;>lia
 ·split at h
  ·unfold aB3 at h
   split at h
   ·rename_i x y e
    cases h
    rw[e];simp only[List.length_cons];lia
   ·cases h
  ·split at h
   ·unfold aS6 at h
    split at h
    ·rename_i x y e
     cases h
     rw[e];simp only[List.length_cons];lia
    ·cases h
   ·cases h;lia
theorem bU6(s:Stp)(st st':TSt)(h:gH s st=some st'):st'.2.length<=st.2.length+1:=by
 unfold gH at h
 split at h
 ·cases h;simp only[List.length_cons];lia
 ·split at h
  ·unfold bB3 at h
   split at h
   ·rename_i x y e
    cases h
    rw[e];simp only[List.length_cons];lia
   ·cases h
  ·split at h
   ·unfold xF at h
    split at h
    ·split at h
     ·rename_i e
      cases h
      rw[e];simp only[List.length_cons];lia
     ·cases h
     ·cases h
    ·split at h
     ·rename_i e
      cases h
      rw[e];simp only[List.length_cons];lia
     ·cases h
     ·cases h
     ·cases h
    all_goals cases h
   ·cases h;lia
theorem aN9{r:Rw}(h:WdR r):(decide (r.w∈cV) || decide (r.w="let"))=r.sets.isSome:=by
 cases r with
 |thr p w x vs am =>
  have h:w∈cV:=h;show(decide (w∈cV) || _)=true;rw[af h];rfl
 |lt p x t=>show(_ || decide (("let": Str)="let"))=true;simp
 |tell p t=>show(decide (("tell": Str)∈cV) || decide (("tell": Str)="let"))=false;decide
 |when p pa pb t a b=>show(decide (("when": Str)∈cV) || decide (("when": Str)="let"))=false;decide
 |times p pb n b=>show(decide (("times": Str)∈cV) || decide (("times": Str)="let"))=false;decide
theorem bH2{r:Rw}(h:WdR r):decide (V.str r.w=V.str "when")=jP r:=by
 cases r with
 |thr p w x vs am =>
  exact ba (aY1 (show w∈cV from h))
 |lt p x t=>exact ba wLW
 |tell p t=>exact ba wEW
 |when p pa pb t a b=>exact af rfl
 |times p pb n b=>exact ba wTW
theorem at1{v u:V}{r:List V}:nO (v::u::r) 1=some u:=by
 unfold nO ixN;rw[bg (by decide),bg (by simp only[List.length_cons];lia)];rfl
theorem wMN:¬(V.str "num"=V.str "name"):=by decide
theorem wTL:¬(V.str "tell"=V.str "let"):=by decide
theorem wWL:¬(V.str "when"=V.str "let"):=by decide
theorem wML:¬(V.str "times"=V.str "let"):=by decide
theorem wWT:¬(V.str "when"=V.str "times"):=by decide
theorem aS1{w:Str}(h:w∈cV):¬(V.str w=V.str "let"):=fun z=>by
 have e:w="let":=by injection z
 rw[e] at h;exact absurd h (by decide)
theorem bK8{w:Str}(h:w∈cV):¬(oY (V.str w) [.str "tell",.str "when"]=true):=by
 rw[show([V.str "tell",V.str "when"]:List V)=(["tell","when"]:List Str).map V.str from rfl,dQ];simp only[cV,List.mem_cons,List.not_mem_nil,or_false] at h;rcases h with rfl|rfl|rfl|rfl<;>decide
theorem Tm.names_len:∀t:Tm,t.names.length<=t.size
 |.num _ _=>bt _
 |.nam _ _=>ah _
 |.op _ _ a b=>by have:=a.names_len;have:=b.names_len;simp only[Tm.names,Tm.size,List.length_append];lia
theorem aI9{H:Hp}:∀{r:Rw},eF H r->r.asked.length<=9000000
 |.thr _ _ _ _ _,_=>bt _
 |.lt _ _ t,h=>by have:=t.names_len;have:=h.2.2.2;show t.names.length<=_;lia
 |.tell _ t,h=>by have:=t.names_len;have:=h.2.2.2;show t.names.length<=_;lia
 |.when _ _ _ t _ _,h=>by have:=t.names_len;have:=h.2.2.1.2;show t.names.length<=_;lia
 |.times _ _ _ _,_=>bt _
theorem pF{H:Hp}:∀{r:Rw}{x:Str},eF H r->r.sets=some x->∃us,H r.p=some (.tup (.str r.w :: .str x::us))
 |.thr p w y vs am,x,h,e=>by cases e;exact⟨vs,h.1⟩
 |.lt p y t,x,h,e=>by cases e;exact⟨_,h.1⟩
 |.tell _ _,_,_,e=>by cases e
 |.when _ _ _ _ _ _,_,_,e=>by cases e
 |.times _ _ _ _,_,_,e=>by cases e
def rgF(s:Stp):Option Ft:=if s.1="row" then (if s.2.1.ams then some ((s.2.2:Int),0) else none) else none
theorem qM{r:Rw}{k:Nat}:rgF (("row": Str),r,k)=if r.ams then some ((k:Int),0) else none:=by unfold rgF;rw[bg rfl]
theorem vM{s:Stp}(h:¬s.1="row"):rgF s=none:=by unfold rgF;rw[av h]
theorem mJ{α β:Type}{f:α->Option β}{a:α}{l:List α}(h:f a=none):(a::l).filterMap f=l.filterMap f:=ip h
mutual
theorem aZ7:∀(r:Rw) (k:Nat),(bY k r).filterMap rgF=rf k r
 |.thr p w x vs am,k=>by
  simp only[bY,rf,uN,List.filterMap_cons,List.filterMap_nil,qM,Rw.ams]
  cases am<;>rfl
 |.lt p x t,k=>by simp only[bY,rf,List.filterMap_cons,List.filterMap_nil,qM,Rw.ams];rfl
 |.tell p t,k=>by simp only[bY,rf,List.filterMap_cons,List.filterMap_nil,qM,Rw.ams];rfl
 |.when p pa pb t a b,k=>by
  simp only[bY];rw[mJ (by rw[qM];rfl),dw,dw,dw,kK a,kK b,mJ (vM vO),mJ (vM gX)];simp only[List.filterMap_nil,List.append_nil,rf]
 |.times p pb n b,k=>by
  simp only[bY];rw[mJ (by rw[qM];rfl),dw,kK b,mJ (vM gX)];simp only[List.filterMap_nil,List.append_nil,rf]
theorem kK:∀(rs:List Rw) (k:Nat),(bR k rs).filterMap rgF=rfL k rs
 |[],k=>by simp only[bR,rfL,List.filterMap_nil]
 |r::rs,k=>by simp only[bR,rfL,List.filterMap_append,aZ7 r,kK rs]
end
theorem bA0{α β:Type}{f:α->Option β}{l:List α}{i:Nat}{a:α}(h:l[i]?=some a):(l.take (i+1)).filterMap f=(l.take i).filterMap f++(f a).toList:=by
 rw[aX h,dw]
 cases e:f a<;>simp[List.filterMap_cons,e]
theorem cD6:ftW 0="range":=by unfold ftW;rw[bg rfl]
theorem cF1:ftW 1="unknown":=by unfold ftW;rw[av (by decide),bg rfl]
theorem cF5:ftW 2="tells":=by unfold ftW;rw[av (by decide),av (by decide)]
theorem bL9(s:Stp)(st st':USt)(h:gY s st=some st'):st'.1.length<=st.1.length+1:=by
 unfold gY at h
 split at h
 ·cases h
  unfold sQ sF
  split<;>simp
 ·split at h
  ·unfold aB3 at h
   split at h
   ·cases h;simp
   ·cases h
  ·split at h
   ·unfold aS6 at h
    split at h
    ·cases h;simp
    ·cases h
   ·cases h;lia
theorem aA8{ns kn:List Str}:(ns.map fun y=>decide (y∈kn)).all id=true↔∀y∈ns,y∈kn:=by simp
mutual
theorem bA1:∀(r:Rw) (k:Nat),yY r->∀s∈bY k r,yY s.2.1
 |.thr p w x vs am,k,h,s,hs=>by simp only[bY,List.mem_singleton] at hs;rw[hs];exact h
 |.lt p x t,k,h,s,hs=>by simp only[bY,List.mem_singleton] at hs;rw[hs];exact h
 |.tell p t,k,h,s,hs=>by simp only[bY,List.mem_singleton] at hs;rw[hs];exact h
 |.when p pa pb t a b,k,h,s,hs=>by
  simp only[bY,List.mem_cons,List.mem_append,List.mem_singleton,List.not_mem_nil,or_false] at hs;rcases hs with e|((e|e)|e)|e
  ·rw[e];exact h
  ·exact kD a _ h.1 s e
  ·rw[e];exact h
  ·exact kD b _ h.2 s e
  ·rw[e];exact h
 |.times p pb n b,k,h,s,hs=>by
  simp only[bY,List.mem_cons,List.mem_append,List.mem_singleton,List.not_mem_nil,or_false] at hs;rcases hs with e|e|e
  ·rw[e];exact h
  ·exact kD b _ h.2.2 s e
  ·rw[e];exact h
theorem kD:∀(rs:List Rw) (k:Nat),wK rs->∀s∈bR k rs,yY s.2.1
 |[],k,h,s,hs=>by simp only[bR] at hs;cases hs
 |r::rs,k,h,s,hs=>by
  simp only[bR,List.mem_append] at hs;rcases hs with e|e
  ·exact bA1 r k h.1 s e
  ·exact kD rs _ h.2 s e
end
theorem aY6{w:Str}(h:w∈cV):¬(V.str w=V.str "tell"):=fun z=>aG8 h (by injection z)
theorem wWE:¬(V.str "when"=V.str "tell"):=by decide
theorem wTE:¬(V.str "times"=V.str "tell"):=by decide
theorem wLE:¬(V.str "let"=V.str "tell"):=by decide
theorem bX9{r:Rw}(h:WdR r):decide (V.str r.w=V.str "tell")=rJ r:=by
 cases r with
 |thr p w x vs am=>exact ba (aY6 (show w∈cV by simpa only[WdR] using h))
 |lt p x t=>exact ba wLE
 |tell p t=>exact af rfl
 |when p pa pb t a b=>exact ba wWE
 |times p pb n b=>exact ba wTE
theorem bL0(s:Stp)(st st':TSt)(h:gH s st=some st'):st'.1.length<=st.1.length+1:=by
 unfold gH at h
 split at h
 ·cases h;simp
 ·split at h
  ·unfold bB3 at h
   split at h
   ·cases h;simp
   ·cases h
  ·split at h
   ·unfold xF at h
    split at h
    ·split at h
     ·cases h;simp
     ·cases h
     ·cases h
    ·split at h
     ·cases h
      split<;>simp
     ·cases h
     ·cases h
     ·cases h
    all_goals cases h
   ·cases h;lia
theorem zZ:∀{rs:List Rw}{r:Rw},r∈rs->r.dp<=jD rs
 |[],_,h=>absurd h dv
 |q::rs,r,h=>by
  simp only[jD];rcases bu.mp h with e|e
  ·rw[e];lia
  ·have:=zZ e;lia
end Mine
namespace L2
open PySem PySem.Spec PyProof.Rows
section
variable {prog:Program}{w:World}{A:Around}{E:Value->Shared->Prop}{s:Shared}{a it tp:Addr}{o:Obj}{es:Array (Int×Value)}{ep:Nat}{t:SetTable}
end
section
variable {prog:Program}{w:World}{A:Around}{E:Value->Shared->Prop}{s:Shared}{a tp:Addr}{o:Obj}{es:Array (Int×Value)}{ep:Nat}{t:SetTable}
end
theorem aU.draw{X:Cx}{pins:List (Addr×Obj)}{σ:St}{H:Hp}{s:Shared}(I:aU X pins σ H s)(d':Drawn):aU X pins σ H { s with drawn:=d' }:=
 ⟨I.ok,I.os,I.bare,I.base,I.loc,I.cell,I.free,I.freeC,I.pin,I.hok,I.len⟩
section
variable {prog:Program}{w:World}{A:Around}{E:Value->Shared->Prop}{s:Shared}{a:Addr}{o:Obj}{es:Array (Int×Value)}{ep:Nat}{t:SetTable}
end
abbrev tk(ts:List Str):List Key:=ts.map Sum.inr
section
variable {prog:Program}{w:World}{A:Around}{R:Result->Shared->Prop}{I:Addr}{fp wr:List Addr}{G:Array GenState->Array GenState->Prop}{n:Nat}{P:Nat->Value->Prop}{St:Nat->Shared->Prop}{led:Bool}
theorem aH6(W:WalksS prog w A.in1 I fp wr G n P St)(S:Addr)(hSf:S∉fp)(ts:List Str)(hn:ts.length=n)(hval:∀i v,P i v->∃x t,ts[i]?=some x/\v= .str x t)(hb:∀ds:List Key,ds.Nodup->(∀j∈ds,j∈tk ts)->ds.length<=4000) :
  ∀(k i:Nat) (s:Shared),n-i=k->i<=n->St i s->fU prog w s.heap S (gQ (dd (tk (ts.take i)))) (dd (tk (ts.take i))).length led ->
   (∀s',Moved (S::wr) G s s'->fU prog w s'.heap S (gQ (dd (tk ts))) (dd (tk ts)).length led->R (.ok (.ret .none)) s') ->
   codeAny (model prog w) A (.builtin "set.update.loop" ⟨[.ref S,.ref I],[]⟩) R s:=by
 have hSw:S∉wr:=fun h=>hSf (W.sub _ h)
 have hsub:∀b∈wr,b∈S::wr:=fun b hb=>ak _ hb
 intro k
 induction k with
 |zero =>
  intro i s hk hi hst hS hR;obtain rfl:i=n:=by lia
  refine ji kw ?_;rw[ki iz _];refine(show wpAny _ A.in1 (pyNext (.ref I)>>=_) _ _ s from aa (W.done s _ _ hst fun s' hm=>?_));rw[<-hn,cm] at hS;refine(show wpAny _ A.in1 (ret Value.none) _ _ s' from aj (hR s' (hm.mono hsub) (hS.keep fun o e=>hm.heap S _ hSw e)))
 |succ k ih =>
  intro i s hk hi hst hS hR;have hlt:i<n:=by lia
  refine ji kw ?_;rw[ki iz _];refine(show wpAny _ A.in1 (pyNext (.ref I)>>=_) _ _ s from aa (W.item i s _ _ hlt hst fun v s' hP hst' hm=>?_));obtain⟨x,t,hx,rfl⟩:=hval i v hP;have his:iQ (Sum.inr x) (.str x t)=true:=gD x t;have hS':=hS.keep (h':=s'.heap) fun o e=>hm.heap S _ hSw e
  refine(show wpAny _ A.in1 (holding [Value.str x t] (setAdd S (.str x t))>>=_) _ _ s' from aa (ej ?_));unfold setAdd;refine ej (aa ((aW prog w).pyHash (k:=Sum.inr x) his ?_));have hroom:(dd (tk (ts.take i))).length+1<scanBound:=by
   have:=hb (dd (tk (ts.take i))) (bW3 _) fun j hj=>by
    obtain⟨x,m,e⟩:=dh.mp ((bM5 _ _).mp hj);exact dh.mpr ⟨x,qm m,e⟩
   unfold scanBound;lia
  refine aJ8 (s:={ s' with toks:=s'.toks+1 }) his rfl rfl hS' hroom fun h' hsb hS2=>?_
  have hSi:fU prog w h' S (gQ (dd (tk (ts.take (i+1))))) (dd (tk (ts.take (i+1)))).length led:=by
   have e:tk (ts.take (i+1))=tk (ts.take i)++[Sum.inr x]:=by rw[qv,hx];simp[tk]
   rw[e,aE0];have e1:(fun j=>gQ (dd (tk (ts.take i))) j || decide (j=Sum.inr x))=gQ (uL (dd (tk (ts.take i))) (Sum.inr x)):=funext fun j=>by
    rw[ii,vg,fh,iB,iB];exact vJ.symm
   have e2:(if gQ (dd (tk (ts.take i))) (Sum.inr x)=true then (dd (tk (ts.take i))).length else (dd (tk (ts.take i))).length+1)=(uL (dd (tk (ts.take i))) (Sum.inr x)).length:=by
    unfold uL
    by_cases c:gQ (dd (tk (ts.take i))) (Sum.inr x)=true
    ·rw[bg c,bg c]
    ·rw[av c,av c,ao,js]
   rw[<-e1, <-e2];exact hS2
  refine aj ⟨rh iz _,ih (i+1) _ (by lia) hlt (W.frame _ s' _ _ hst' (gg _) fun b hb o e=>?_) hSi fun s'' hm'' hS''=>?_⟩
  ·rw[hsb.2 b (fun h:b=S=>hSf (by rw[<-h];exact hb))];exact e
  ·refine hR s'' (Moved.trans W.gtrans ((hm.mono hsub).then_heap (gg _) fun b o hb e=>?_) hm'') hS'';rw[hsb.2 b (fun h:b=S=>hb (by rw[h];exact aq))];exact e
end
section
variable {prog:Program}{w:World}{A:Around}{E:Value->Shared->Prop}{s:Shared}
theorem aM2(v:Value){R:Value->Shared->Prop}(h:R (.ref s.heap.objs.size) { s with heap:=s.heap.push (cD (!zQ w)) }) :
  codeAny (model prog w) A (.call (.builtin "set.__new__") ⟨[.type "set",v],[]⟩) (wants R E) s:=by
 refine codeAny_of_tree (show wpAny _ A.in1 (checkBuiltinCall "set.__new__" ⟨[.type "set",v],[]⟩>>=fun _=>again (.builtin "set.__new__" ⟨[.type "set",v],[]⟩)) _ _ s from aa (ze (F.newCall_set_1 v) (aj ⟨rh F.plain_set_new _,ji F.entry_set_new ?_⟩)));rw[ki F.plain_set_new _];have z:=sub_set_self;obtain⟨x1,x2,x3,x4,x5⟩:=s;unfold Builtin.«set.__new__» Builtin.Frozenset.newClass
 dsimp only
 wp_walk
 refine wpAny_askSetting (aj ?_);unfold newObj;exact aa (wpAny_alloc (aj (aj h)))
theorem zJ{l:Addr}{items:Array Value}{ts:List Str}{Q:Value->Shared->Prop}(hh:A.handled=none)(hl:s.heap.IsList l items)(hk:ts.length=items.size)(hi:∀(i:Nat) (v:Value),items[i]?=some v->∃x t,ts[i]?=some x/\v= .str x t)(hb:∀ds:List Key,ds.Nodup->(∀j∈ds,j∈tk ts)->ds.length<=4000)
  (q:∀(h':Heap) (tk':Nat),fU prog w h' s.heap.objs.size (gQ (dd (tk ts))) (dd (tk ts)).length (!zQ w)->(∀b o,s.heap.get? b=some o->h'.get? b=some o)->Q (.ref s.heap.objs.size) { s with heap:=h',toks:=tk' }) :
  wpAny (model prog w) A (call (.type "set") [.ref l]) Q E s:=by
 have lS:l<s.heap.objs.size:=by obtain⟨o,e,_⟩:=hl;exact ay e
 refine oU (Q₁:=fun obj t=>obj= .ref s.heap.objs.size/\t={ s with heap:=s.heap.push (cD (!zQ w)) }) F.called_set (zh _) (aM2 _ ⟨rfl,rfl⟩) ?_;rintro _ _ ⟨rfl,rfl⟩;have gS:(s.heap.push (cD (!zQ w))).get? s.heap.objs.size=some (cD (!zQ w)):=bb _ rfl;have tS:Shared.TypeIs { s with heap:=s.heap.push (cD (!zQ w)) } (.ref s.heap.objs.size) "set":=⟨_,gS,rfl⟩
 have tl:(s.heap.push (cD (!zQ w))).IsList l items:=hl.at fun o e=>ae _ e
 refine⟨tS,qg F.called_set.init.plain zj (zk tS ?_)⟩;obtain⟨⟨oc,od,oda,osl⟩,ho,hc,n0,hd⟩:=id tl
 dsimp only at hc hd
 subst hc hd;have f1:=F.sub_list_set;have f2:=F.sub_list_frozenset;have f3:(Value.type "list" == Value.type "dict")=false:=by decide
 have T1:Heap.IsList (Shared.heap { s with heap:=s.heap.push (cD (!zQ w)) }) l items:=tl;unfold Builtin.«set.__init__» noKeywords Builtin.Frozenset.updateFrom
 wp_walk using lm T1
 have z1:(s.heap.push (cD (!zQ w))).objs.size=s.heap.objs.size+1:=kj ..;have hne:l≠(s.heap.push (cD (!zQ w))).objs.size:=by rw[z1];exact bw (kh lS)
 have hSf:s.heap.objs.size∉[(s.heap.push (cD (!zQ w))).objs.size,l]:=by
  rw[z1];simp only[List.mem_cons,List.not_mem_nil,or_false,not_or];exact⟨bw (fc _),jp lS⟩
 have gS2:((s.heap.push (cD (!zQ w))).push { cls:= .type "list_iterator",data:= .fields #[.ref l,.int 0 0] }).get? s.heap.objs.size=some (cD (!zQ w)):=ae _ gS;refine aH6 (led:= !zQ w) (A:=A.in1.in1) ((zq (show A.in1.in1.in1.handled=none from hh) _ l hne items).toS) s.heap.objs.size hSf ts hk hi hb (items.size-0) 0 _ rfl (bt _) ⟨⟨_,bb _ rfl,rfl,rfl⟩,tl.at fun o e=>ae _ e⟩
  ⟨_,_,_,_,⟨gS2,⟨rfl,rfl,rfl⟩,rfl⟩,⟨fun e he=>absurd he (by simp),fun k=>⟨fun z=>absurd z (by simp[dd,gQ,tk]),(by rintro⟨e,he,_⟩;exact absurd he (by simp))⟩⟩,⟨by decide,rfl,rfl⟩,rfl,fun z=>absurd z (by simp[dd,tk])⟩ fun s' hm hS'=>?_
 obtain⟨h',g',d',tk',os'⟩:=s';obtain rfl:g'=s.gens:=hm.gens;obtain rfl:d'=s.drawn:=hm.drawn;obtain rfl:os'=s.os:=hm.os;refine aj (aj ⟨rfl,q h' tk' hS' fun b o e=>hm.heap b o ?_ (ae _ (ae _ e))⟩);have bl:=ay e;rw[z1];simp only[List.mem_cons,List.not_mem_nil,or_false,not_or];exact⟨bw bl,bw (kh bl)⟩
end
def pW(P:Program)(w:World)(a:Addr)(ts:List Str):HO:= .ext fun h=>fU P w h a (gQ (dd (tk ts))) (dd (tk ts)).length (!zQ w)
theorem iW:∀{ts:List Str}{us:List Value},bI (ts.map V.str) us->∀(i:Nat) (v:Value),us[i]?=some v->∃x t,ts[i]?=some x/\v= .str x t
 |[],_,h,i,v,e=>by cases h;simp at e
 |x::r,_,h,i,v,e=>by
  rw[ek] at h
  cases h with
  |cons h1 h2 =>
   cases i with
   |zero =>
    simp only[List.getElem?_cons_zero,Option.some.injEq] at e;subst e;obtain⟨t,rfl⟩:=h1;exact⟨x,t,rfl,rfl⟩
   |succ i=>exact iW h2 i v (by simpa using e)
theorem aG0{X:Cx}(P:Program)(w:World){k:Nat}(hr:dH k X.A)(hP:autoParam (X.prog=P) Rq0._auto_1)(hw:autoParam (X.w=w) Rq0._auto_1):eA X (.type "set") (fun xs H Q=>∃(p:Addr) (ts:List Str),xs=[.ref p]/\bK X.K H p (ts.map V.str)/\(∀ds:List Key,ds.Nodup->(∀j∈ds,j∈tk ts)->ds.length<=4000)/\∀a,H a=none->Q (.ref a) (aN H a (pW P w a ts))):=by
 subst hP hw;intro pins s σ H xs us Q I r h;obtain⟨p,ts,rfl,hp,hl,q⟩:=h;obtain⟨u,rfl,ru⟩:=gN r
 cases ru
 obtain⟨its,rv,pl,_⟩:=I.list hp;have ln:=rv.length;rw[ac] at ln;refine zJ (items:=its.toArray) (ts:=ts) hr.hd pl.isList (by rw[bn];exact ln) (fun i v e=>iW rv i v (by simpa using e)) hl fun h' tk hS kp=>?_
 refine⟨.ref s.heap.objs.size,_,I.laid (t':=tk) (o:=pW X.prog X.w s.heap.objs.size ts) kp (ah _) ?_,rfl,q _ (I.hok.fresh (ah _))⟩;refine⟨hS,?_,fun h1 h2 F k2=>F.keep k2⟩;obtain⟨o,_,_,_,⟨ho,_⟩,_⟩:=hS;exact⟨o,ho⟩
def leS(a b:Str):Prop:=a.cps.toList<=b.cps.toList
theorem bH4{a b:Str}(h:ltCps b.cps.toList a.cps.toList=false):leS a b:=by
 rw[ltCps_eq] at h;exact List.not_lt.mp (of_decide_eq_false h)
theorem aH2{a b c:Str}(h:leS a b)(k:leS b c):leS a c:=List.le_trans h k
theorem vX{a b:Str}(h:leS a b)(k:leS b a):a=b:=by
 have e:a.cps.toList=b.cps.toList:=List.le_antisymm h k
 cases a
 cases b
 exact dz Str.mk (uq.mp e)
theorem tP:∀(p:Str) (l:List Str),risingS p l=true->(p::l).Pairwise leS
 |p,[],_=>by simp
 |p,x::r,h=>by
  have h:(!ltCps x.cps.toList p.cps.toList&&risingS x r)=true:=h;rw[mf] at h;have ih:=tP x r h.2;have px:leS p x:=bH4 (by simpa using h.1);refine yg.mpr ⟨fun y hy=>?_,ih⟩;rcases bu.mp hy with e|e
  ·rw[e];exact px
  ·exact aH2 px ((yg.mp ih).1 y e)
theorem tH{l:List Str}(h:sortedS l=true):l.Pairwise leS:=by
 cases l with
 |nil=>exact sq
 |cons p r=>exact tP p r h
theorem xJ{l m:List Str}(nl:l.Nodup)(nm:m.Nodup)(h:∀x,x∈l↔x∈m)(sl:sortedS l=true)(sm:sortedS m=true):l=m:=
 List.Perm.eq_of_pairwise (le:=leS) (fun _ _ _ _ x y=>vX x y) (tH sl) (tH sm) ((List.perm_ext_iff_of_nodup nl nm).mpr fun x=>h x)
theorem mV:∀{vs:List Value}{ss:List Str},StrsAre vs ss->bI (ss.map V.str) vs
 |[],[],_=> .nil
 |v::vs,x::ss,h=>by
  have e:=h.all v aq;have q:=h.strs;rw[ek] at q;obtain⟨y,t,rfl⟩:=e;injection q with q1 q2
  cases q1
  refine .cons ⟨t,rfl⟩ (mV ?_);have:=strsAre_map vs fun v hv=>h.all v (ak _ hv)
  rw[q2] at this;exact this
 |[],_::_,h=>by have:=h.strs;simp at this
 |_::_,[],h=>by have:=h.strs;simp at this
section
variable {X:Cx}{k:Nat}
theorem aG6{pins:List (Addr×Obj)}{σ:St}{H:Hp}{s:Shared}{Q:VK}{h':Heap}{d':Drawn}{t:Nat}{vs:List Value}{ss:List Str}(I:aU X pins σ H s)(hS:StrsAre vs ss)(h64:vs.length<64)(keep:∀b o,s.heap.get? b=some o->h'.get? b=some o)(le:s.heap.objs.size<=h'.objs.size)
  (q:∀ts':List Str,ts'.Perm ss->sortedS ts'=true->∀l,H l=none->Q (.ref l) (aN H l (.lst (ts'.map V.str)))) :
  wpAny (model X.prog X.w) X.A.in1 (newList vs>>=fun l=>holding [l] (call (.builtin "list.sort") [l] [])>>=fun _=>ret l) (fun fin s'=>∃v,fin= .done (.ret v)/\EP X pins σ Q v s') X.xe { s with heap:=h',drawn:=d',toks:=t }:=by
 refine aa (wpAny_newList ?_ (by rw[qx];lia));have hoL:(h'.push (seqObj "list" vs.toArray 0)).get? h'.objs.size=some (seqObj "list" vs.toArray 0):=bb _ rfl;refine aa (ej (io slot_list_sort ⟨_,hoL,rfl⟩ entry_list_sort (list_sort_treeK strKind_oneLt hoL hS.keysOf (fun v₁ v₂ bM e=>keyKind_strs (by rw[<-e];exact hS)) h64 fun st' hp hs=>⟨_,rfl,?_⟩) (args_list_sort _)));obtain⟨ss',a1,a2,a3⟩:=sorted_out_str hS hp hs;refine aj ⟨_,rfl,?_⟩;obtain⟨e,he⟩:=sortedHeap_at (h:=h'.push (seqObj "list" vs.toArray 0)) (vs:=vs) (out:=(arrOf st').map (·.2)) hoL;refine⟨.ref h'.objs.size,_,(I.draw d').laid (t':=t) (o:= .lst (ss'.map V.str)) (fun b o z=>?_) le ?_,rfl,q ss' a2 a3 _ (I.hok.fresh le)⟩
 ·have z':=keep b o z;have hlt:=ay z';rw[sortedHeap_old (bw hlt) (by rw[size_push'];exact kh hlt)];exact ae _ z'
 ·refine⟨?_,((arrOf st').map (·.2)).toList,e,mV a1,by rw[qc];exact he⟩;rw[ac,a2.length_eq, <-hS.strs,ac];exact cj (aL (by lia))
end
section
variable {prog:Program}{w:World}
variable {A:Around}{E:Value->Shared->Prop}{s:Shared}
end
def bZ3(td ty tx:TE):TE:=fun σ H Q=>td σ H fun x H1=>∃a,x= .ref a/\IsD H1 a/\ty σ H1 fun y H2=>tx σ H2 fun z H3=>∃kvs k,H3 a=some (.dK kvs)/\y=kV k/\kvs.length<sizeLine /\
 (∀v,dP kvs k=some v->Q v H3)/\(dP kvs k=none->Q z (aN H3 a (.dK (dI kvs k z))))
theorem aR5{X:Cx}{pins:List (Addr×Obj)}{σ:St}{H:Hp}{s:Shared}{a:Addr}{kvs:List (Key×V)}{k:Key}{x:V}{u r:Value}{A:Around}{E:Value->Shared->Prop}{Q:VK}(I:aU X pins σ H s)(e:H a=some (.dK kvs))(ry:bJ (kV k) u)(rx:bJ x r)(hz:kvs.length<sizeLine)
  (h1:∀v,dP kvs k=some v->Q v H) (h2:dP kvs k=none->Q x (aN H a (.dK (dI kvs k x)))):wpAny (model X.prog X.w) A (call (.builtin "dict.setdefault") [.ref a,u,r]) (EP X pins σ Q) E s:=by
 obtain⟨z,hd,vs,rel,dd⟩:=qJ I.hok e;refine xw qw dd.typeIs PySem.F.entry_dict_setdefault (PySem.F.args_dict_setdefault_3 _ _ _) (kt_meets_setdefault (aW X.prog X.w) a (oS ry) hd r) ⟨vs,dd,by rw[<-rel.length];exact z,fun v' hv=>?_,fun hn h' dd' hs=>?_⟩
 ·cases l:dP kvs k with
  |none =>
   have q:valueAt vs k=none:=iX.none_of (by rw[<-l];exact rel.val k);rw[q] at hv;cases hv
  |some v =>
   obtain⟨w',hw,rw'⟩:=iX.some_of (v:=v) (o:=valueAt vs k) (by rw[<-l];exact rel.val k);rw[hw] at hv
   cases hv
   exact⟨v,H,I.tok _,rw',h1 v l⟩
 ·cases l:dP kvs k with
  |some v =>
   obtain⟨w',hw,rw'⟩:=iX.some_of (v:=v) (o:=valueAt vs k) (by rw[<-l];exact rel.val k);rw[hn] at hw;cases hw
  |none =>
   have hl:(dI kvs k x).length<=sizeLine:=by have:=eK kvs k x;lia
   have he:∃q,h'.get? a=some q:=by obtain⟨q,_,_,hq,_⟩:=dd';exact⟨q,hq⟩
   exact⟨x,_,kW I (by rw[e];exact iw) hs he (qZ hl hd (rel.put k rx) dd'),rx,h2 l⟩
theorem aZ2{X:Cx}{o e f:Expr}{apos cpos:Pos}{td ty tx:TE}(ho:PE X o td)(he:PE X e ty)(hf:PE X f tx)(m:M2 X o "setdefault" apos e f cpos):PE X (.Call (.Attribute o "setdefault" apos) [e,f] [] cpos) (bZ3 td ty tx):=by
 intro pins s σ H Q I h;refine yr m.base m.few m.line uy qw PySem.F.type_dict_setdefault (cK (ho pins s σ H _ I h) ?_);rintro u s1 ⟨x,H1,I1,rx,a,ex,d,q1⟩;subst ex;obtain rfl:u=Value.ref a:=rx;obtain⟨t1,t2,_⟩:=aN5 I1 d;refine⟨t1,t2,?_⟩;rw[m.trees];refine ll rfl (pz (im (cK (he pins s1 σ H1 _ I1 q1) ?_)));rintro iv s2 ⟨y,H2,I2,ry,q2⟩;refine im (cK (hf pins s2 σ H2 _ I2 q2) ?_);rintro fv s3 ⟨z,H3,I3,rz,kvs,k,ea,ey,hz,q3,q4⟩;refine kg ?_;subst ey;exact aR5 I3 ea ry rz hz q3 q4
section
variable {P:Program}{w:World}{H:Hp}{h:Heap}{a:Addr}
end
section
variable {X:Cx}{pins:List (Addr×Obj)}{σ:St}{H:Hp}{s:Shared}{a:Addr}{y v:V}{u r:Value}{o:Option V}{A:Around}{E:Value->Shared->Prop}
end
section
variable {X:Cx}{o i e value:Expr}{pos pos' tpos:Pos}{td ty tv:TE}{k:Nat}
end
section
variable {X:Cx}
end
section
variable {prog:Program}{w:World}{A:Around}{E:Value->Shared->Prop}{s:Shared}{d it v:Addr}{o:Obj}{es:Array DictEntry}{ep i:Nat}
end
open PySem PySem.Spec PyProof.Rows PySem.MeetsSeq
section
variable {X:Cx}{pins:List (Addr×Obj)}{σ:St}{H:Hp}{s:Shared}
end
open PySem PySem.Spec PyProof.Rows
section
variable {prog:Program}{w:World}{A:Around}{d it v:Addr}{o:Obj}{es:Array DictEntry}{ep:Nat}
end
section
variable {X:Cx}{pins:List (Addr×Obj)}{σ:St}{H:Hp}{s:Shared}{d:Addr}{vs:List V}
end
section
variable {X:Cx}
end
section
variable {X:Cx}{pins:List (Addr×Obj)}{σ:St}{H:Hp}{s:Shared}{A:Around}{E:Value->Shared->Prop}
end
section
variable {X:Cx}{o i e value:Expr}{pos pos' tpos:Pos}{td ty tv:TE}{k:Nat}
end
section
variable {prog:Program}{w:World}{K:Type} [DecidableEq K] {knd:HeapKind prog w K}{A:Around}{E:Value->Shared->Prop}{s:Shared}{d a:Addr}{xs:List (K×Addr×Value)}{k:K}
end
section
variable {X:Cx}{pins:List (Addr×Obj)}{σ:St}{H:Hp}{s:Shared}{A:Around}{E:Value->Shared->Prop}
end
section
variable {X:Cx}{o e f:Expr}{apos cpos:Pos}{td ty tx:TE}
end
section
variable {prog:Program}{w:World}{A:Around}{E:Value->Shared->Prop}{s:Shared}{d:Addr}{o:Obj}{es:Array DictEntry}{ep:Nat}{hh:Int}{Q:Option Nat->Shared->Prop}
end
section
variable {prog:Program}{w:World}{K:Type} [DecidableEq K] {knd:HeapKind prog w K}{A:Around}{E:Value->Shared->Prop}{s:Shared}{d a:Addr}{xs:List (K×Addr×Value)}{k:K}
end
section
variable {X:Cx}{o e f:Expr}{apos cpos:Pos}{td ty tx:TE}{k:Nat}
end
section
variable {X:Cx}{pins:List (Addr×Obj)}{σ:St}{H:Hp}{s:Shared}{A:Around}{E:Value->Shared->Prop}
end
section
variable {prog:Program}{w:World}{A:Around}{d it:Addr}{o:Obj}{es:Array DictEntry}{ep:Nat}
theorem aQ5(hh:A.handled=none)(hne:d≠it)(h3:o.data= .dict es ep) :
  Walks prog w A it [it,d] [it] es.size (fun i v=>∃e,es[i]?=some e/\v=e.key) (fun i h=>h.IsKeyIter it d i es.size ep/\h.get? d=some o) where
 sub:=fun b hb=>by simp at hb;simp[hb]
 frame:=fun _ _ _ st hk=>⟨let⟨oi,q1,q2⟩:=st.1;⟨oi,hk it (by simp) _ q1,q2⟩,hk d (by simp) _ st.2⟩
 item:=fun i s Q E hi st hQ=>aK7 st.1 st.2 h3 (nh hi) fun h' hit' sb=>hQ _ h' s.toks ⟨_,nh hi,rfl⟩ ⟨hit',(sb.2 d hne).trans st.2⟩ fun b o hb e=>(sb.2 b (fun z=>hb (by simp[z]))).trans e
 done:=fun s Q E st hQ=>aZ3 hh st.1 st.2 h3 (Array.getElem?_eq_none (ah _)) fun h' k=>hQ h' s.toks fun b o hb e=>k b o (fun z=>hb (by simp[z])) e
 self:=fun _ _ _ _ st hQ=>wt st.1 hQ
theorem bP1(lo:(d==sysModules)=false)(h2:o.ExactDict)(h3:o.data= .dict es ep):W.KdlSrc prog w "dict" d d es.size (fun i x=>∃e,es[i]?=some e/\x=e.key) (fun h=>h.get? d=some o) where
 type:=fun _ x=>⟨o,x,h2.1⟩
 there:=fun _ x=>⟨ay x,ay x⟩
 keep:=fun _ _ x k=>k d (.inl rfl) _ x
 notList:=by decide
 notTuple:=by decide
 hint:=fun _ _ _ _ x q=>W.kdl_hint_dict ⟨o,x,h2.1⟩ q
 iter:=fun _ _ hh x=>⟨_,_,(fun _ _ q=>aW4 lo x h2 h3 q),aQ5 hh (bw (ay x)) h3,⟨⟨_,bb _ rfl,rfl,rfl⟩,ae _ x⟩⟩
end
section
variable {X:Cx}
end
open PySem PySem.Spec PyProof.Rows PySem.MeetsSeq
def wJ(x y:V):Prop:=(∃i,x= .int i/\y= .int i)\/(∃z,x= .str z/\y= .str z)\/∃a,x= .ref a/\y= .ref a
def Deq(H:Hp):Nat->V->V->Prop
 |0,x,y=>wJ x y
 |n+1,x,y=>wJ x y\/∃a b xs ys,x= .ref a/\y= .ref b/\H a=some (.tup xs)/\H b=some (.tup ys)/\Paired (Deq H n) xs ys
theorem vP(n:Nat):(List.range n).all (fun _=>true)=true:=ko.mpr fun _ _=>rfl
theorem lH{α β:Type}{F:α->β->Prop}:∀{xs:List α}{ys:List β}{i:Nat}{a:α}{b:β},Paired F xs ys->xs[i]?=some a->ys[i]?=some b->F a b
 |_,_,i,_,_,.nil,h,_=>by simp at h
 |_,_,0,_,_,.cons r _,h1,h2=>by simp at h1 h2;subst h1 h2;exact r
 |_,_,i+1,_,_,.cons _ t,h1,h2=>lH (i:=i) t (by simpa using h1) (by simpa using h2)
section
variable {X:Cx}{pins:List (Addr×Obj)}{σ:St}{H:Hp}{s:Shared}
theorem xW{A:Around}{k j:Key}{u v:Value}(hx:iQ k u=true)(hy:iQ j v=true):SeqAt.EqAt A s u v (decide (k=j)):=fun prog w E Q q=>(aW prog w).eqBool (a:=k) (b:=j) hx hy q
theorem aD1{A:Around}{x y:V}{u v:Value}(h:wJ x y)(rx:bJ x u)(ry:bJ y v):SeqAt.EqAt A s u v true:=by
 rcases h with⟨i,rfl,rfl⟩|⟨z,rfl,rfl⟩|⟨a,rfl,rfl⟩
 ·obtain⟨t1,rfl⟩:=rx;obtain⟨t2,rfl⟩:=ry;have:=xW (s:=s) (A:=A) (kZ i t1) (kZ i t2)
  rwa [af rfl] at this
 ·obtain⟨t1,rfl⟩:=rx;obtain⟨t2,rfl⟩:=ry;have:=xW (s:=s) (A:=A) (gD z t1) (gD z t2)
  rwa [af rfl] at this
 ·cases rx
  cases ry
  exact vc _
theorem yR(I:aU X pins σ H s):∀(n:Nat) (A:Around) {x y:V}{u v:Value},Deq H n x y->bJ x u->bJ y v->A.units+n+1<cLine->SeqAt.EqAt A s u v true
 |0,A,_,_,_,_,h,rx,ry,_=>aD1 h rx ry
 |n+1,A,x,y,u,v,h,rx,ry,hu=>by
  rcases h with h|⟨a,b,xs,ys,rfl,rfl,ha,hb,p⟩
  ·exact aD1 h rx ry
  cases rx
  cases ry
  by_cases e:a=b
  ·subst e;exact vc _
  obtain⟨its,r1,p1,_⟩:=I.tuple (aR.of ha);obtain⟨its2,r2,p2,_⟩:=I.tuple (aR.of hb);have l1:=r1.length;have l2:=r2.length;have l3:=gj p;have g:=yz (A:=A) (s:=s) (e:=fun _=>true) p1 p2 (by lia) fun j h1 h2=>?_
  ·have ee:((List.range (min its.toArray.size its2.toArray.size)).all (fun _=>true)&&its.toArray.size==its2.toArray.size)=true:=by
    rw[vP,sg,bn,bn, <-l1, <-l2,l3];simp
   rw[ee] at g;exact SeqAt.EqAt.of_refs e g
  ·have hj:j<xs.length:=by rw[l1];simpa using h1
   have hj2:j<ys.length:=by rw[<-l3];exact hj
   obtain⟨w1,g1,q1⟩:=r1.get (bc hj);obtain⟨w2,g2,q2⟩:=r2.get (bc hj2);have e1:its.toArray[j]=w1:=by have:=(bf.mp g1).2;simpa using this
   have e2:its2.toArray[j]=w2:=by have:=(bf.mp g2).2;simpa using this
   rw[e1,e2];exact yR I n A.in1 (lH p (bc hj) (bc hj2)) q1 q2 (by show A.units+1+n+1<cLine;lia)
inductive bM6(K:W.Frag)(b:Bool)(x:V)(y:V)(H:Hp)(Q:VK):Prop
 |mk:∀p q xs ys n,(x= .ref p)->(y= .ref q)->(aR K H p xs)->(aR K H q ys)->(Paired (Deq H n) xs ys)->(n<=40)->(Q (.bl b) H)->bM6 K b x y H Q
theorem oI{k:Nat}(hr:dH k X.A):jC X (compareOp .Eq) (bM6 X.K true):=by
 intro pins s σ H x y v u Q I rx ry h;obtain⟨a,b,xs,ys,n,rfl,rfl,ha,hb,p,hn,q⟩:=h
 cases rx
 cases ry
 obtain⟨its,r1,p1,_⟩:=I.tuple ha;obtain⟨its2,r2,p2,_⟩:=I.tuple hb;have l1:=r1.length;have l2:=r2.length;have l3:=gj p;have hu:=hr.units;have g:=yz (A:=X.A) (s:=s) (e:=fun _=>true) p1 p2 (by lia) fun j h1 h2=>?_
 ·refine g _ _ _ _ ⟨.bl _,H,I,rfl,?_⟩;rw[show((List.range (min its.toArray.size its2.toArray.size)).all (fun _=>true)&&its.toArray.size==its2.toArray.size)=true by
   rw[vP,sg,bn,bn, <-l1, <-l2,l3];simp]
  exact q
 ·have hj:j<xs.length:=by rw[l1];simpa using h1
  have hj2:j<ys.length:=by rw[<-l3];exact hj
  obtain⟨w1,g1,q1⟩:=r1.get (bc hj);obtain⟨w2,g2,q2⟩:=r2.get (bc hj2);have e1:its.toArray[j]=w1:=by have:=(bf.mp g1).2;simpa using this
  have e2:its2.toArray[j]=w2:=by have:=(bf.mp g2).2;simpa using this
  rw[e1,e2];exact yR I n X.A.in1 (lH p (bc hj) (bc hj2)) q1 q2 (by show X.A.units+1+n+1<cLine;lia)
theorem aI8{k:Nat}(hr:dH k X.A):jC X (compareOp .NotEq) (bM6 X.K false):=by
 intro pins s σ H x y v u Q I rx ry h;obtain⟨a,b,xs,ys,n,rfl,rfl,ha,hb,p,hn,q⟩:=h
 cases rx
 cases ry
 obtain⟨its,r1,p1,_⟩:=I.tuple ha;obtain⟨its2,r2,p2,_⟩:=I.tuple hb;have l1:=r1.length;have l2:=r2.length;have l3:=gj p;have hu:=hr.units;have g:=xi (A:=X.A) (s:=s) (e:=fun _=>true) p1 p2 (by lia) fun j h1 h2=>?_
 ·refine g _ _ _ _ ⟨.bl _,H,I,rfl,?_⟩;rw[show(!((List.range (min its.toArray.size its2.toArray.size)).all (fun _=>true)&&its.toArray.size==its2.toArray.size))=false by
   rw[vP,sg,bn,bn, <-l1, <-l2,l3];simp]
  exact q
 ·have hj:j<xs.length:=by rw[l1];simpa using h1
  have hj2:j<ys.length:=by rw[<-l3];exact hj
  obtain⟨w1,g1,q1⟩:=r1.get (bc hj);obtain⟨w2,g2,q2⟩:=r2.get (bc hj2);have e1:its.toArray[j]=w1:=by have:=(bf.mp g1).2;simpa using this
  have e2:its2.toArray[j]=w2:=by have:=(bf.mp g2).2;simpa using this
  rw[e1,e2];exact yR I n X.A.in1 (lH p (bc hj) (bc hj2)) q1 q2 (by show X.A.units+1+n+1<cLine;lia)
theorem aD6{ts:List Str}{us:List Value}{vs:List Str}{ws:List Value}{A:Around}(r1:bI (ts.map V.str) us)(r2:bI (vs.map V.str) ws)(j:Nat)(h1:j<us.length)(h2:j<ws.length):SeqAt.EqAt A s us[j] ws[j] (decide (ts.getD j Str.empty=vs.getD j Str.empty)):=by
 obtain⟨x,t1,e1,q1⟩:=iW r1 j _ (bc h1);obtain⟨y,t2,e2,q2⟩:=iW r2 j _ (bc h2);rw[q1,q2];have d1:ts.getD j Str.empty=x:=by rw[si,e1];rfl
 have d2:vs.getD j Str.empty=y:=by rw[si,e2];rfl
 rw[d1,d2];have:=xW (s:=s) (A:=A) (gD x t1) (gD y t2)
 rwa [show decide ((Sum.inr x:Key)=Sum.inr y)=decide (x=y) by simp] at this
theorem xK{ts vs:List Str}(h:ts.length=vs.length):(List.range ts.length).all (fun j=>decide (ts.getD j Str.empty=vs.getD j Str.empty))=decide (ts=vs):=by
 rw[ii,ko,fh]
 constructor
 ·intro k;refine zn h fun i h1 h2=>?_
  have:=ag (k i (je.mpr h1))
  simpa [List.getD,h1,h2] using this
 ·rintro rfl i _;exact af rfl
inductive aK6(K:W.Frag)(x:V)(y:V)(H:Hp)(Q:VK):Prop
 |mk:∀(p q:Addr) (ts vs:List Str),(x= .ref p)->(y= .ref q)->(((bK K H p (ts.map V.str)/\bK K H q (vs.map V.str))\/(aR K H p (ts.map V.str)/\aR K H q (vs.map V.str))))->(Q (.bl (!decide (ts=vs))) H)->aK6 K x y H Q
theorem qR{k:Nat}(hr:dH k X.A):jC X (compareOp .NotEq) (aK6 X.K):=by
 intro pins s σ H x y v u Q I rx ry h;obtain⟨a,b,ts,vs,rfl,rfl,hab,q⟩:=h
 cases rx
 cases ry
 have hu:=hr.units;rcases hab with⟨ha,hb⟩|⟨ha,hb⟩
 ·obtain⟨its,r1,p1,_⟩:=I.list ha;obtain⟨its2,r2,p2,_⟩:=I.list hb;have l1:=r1.length;have l2:=r2.length;rw[ac] at l1 l2
  by_cases e:ts.length=vs.length
  ·have g:=SeqAt.RcNeAt.lists (A:=X.A) (s:=s) (e:=fun j=>decide (ts.getD j Str.empty=vs.getD j Str.empty)) p1.isList p2.isList (by simp;lia) (by lia) fun j h1 h2=>by
    have:=aD6 (s:=s) (A:=X.A.in1) r1 r2 j (by simpa using h1) (by simpa using h2)
    simpa using this
   refine g _ _ _ _ ⟨.bl _,H,I,rfl,?_⟩;rw[bn, <-l1,xK e];exact q
  ·have g:=SeqAt.RcNeAt.lists_lengths (A:=X.A) (s:=s) p1.isList p2.isList (by simp;lia) (by lia);refine g _ _ _ _ ⟨.bl _,H,I,rfl,?_⟩;rw[ba (fun z=>e (by rw[z]))] at q;exact q
 ·obtain⟨its,r1,p1,_⟩:=I.tuple ha;obtain⟨its2,r2,p2,_⟩:=I.tuple hb;have l1:=r1.length;have l2:=r2.length;rw[ac] at l1 l2;have g:=xi (A:=X.A) (s:=s) (e:=fun j=>decide (ts.getD j Str.empty=vs.getD j Str.empty)) p1 p2 (by lia) fun j h1 h2=>by
   have:=aD6 (s:=s) (A:=X.A.in1) r1 r2 j (by simpa using h1) (by simpa using h2)
   simpa using this
  refine g _ _ _ _ ⟨.bl _,H,I,rfl,?_⟩;rw[bn,bn, <-l1, <-l2]
  by_cases e:ts.length=vs.length
  ·rw[show min ts.length vs.length=ts.length by lia,xK e];rw[show(ts.length==vs.length)=true by simpa using e,Bool.and_true];exact q
  ·rw[show(ts.length==vs.length)=false by simpa using e,Bool.and_false];rw[ba (fun z=>e (by rw[z]))] at q;exact q
theorem xA{k:Nat}(hr:dH k X.A):eA X (.builtin "sorted") (fun xs H Q=>∃(p:Addr) (ts:List Str),xs=[.ref p]/\bK X.K H p (ts.map V.str)/\ts.length<64 /\
  ∀ts':List Str,ts'.Perm ts->sortedS ts'=true->∀l,H l=none->Q (.ref l) (aN H l (.lst (ts'.map V.str)))):=by
 intro pins s σ H xs us Q I r h;obtain⟨p,ts,rfl,hp,hz,q⟩:=h;obtain⟨u,rfl,ru⟩:=gN r
 cases ru
 obtain⟨its,rv,pl,_⟩:=I.list hp;have ln:=rv.length;rw[ac] at ln;have hS:StrsAre its ts:=by
  have a1:=strsAre_map its fun v hv=>by
   obtain⟨i,hi,rfl⟩:=qt hv;obtain⟨x,t,_,q⟩:=iW rv i _ (bc hi);exact⟨x,t,q⟩
  have a2:its.map strOf=ts:=by
   refine zn (by rw[ac];exact ln.symm) fun i p q'=>?_
   have hi:i<its.length:=by simpa using p
   obtain⟨x,t,e,q⟩:=iW rv i _ (bc hi);rw[List.getElem_map,q];exact((bf.mp e).2).symm
  rw[a2] at a1;exact a1
 refine Calls.call_function_entry kind_sorted plain_sorted entry_sorted (args_sorted1 _) ?_;unfold Builtin.«sorted»;refine aa (m:=checkCount "sorted" 1 1 _) (aj ?_);refine aa (collect_list pl.isList ?_);have:=aG6 (h':=(s.heap.push (seqObj "list" #[] 0)).update s.heap.objs.size (Obj.mapSeq (· ++its.toArray))) (d':=s.drawn) (t:=s.toks) I hS (by lia) (fun b o e=>by
  rw[eh _ _ _ _ (bw (ay e))];exact ae _ e) (by rw[Heap.size_update,size_push'];exact gg _) q
 exact this
theorem aF3(P:Program)(w:World)(hP:autoParam (X.prog=P) Rq0._auto_1)(hw:autoParam (X.w=w) Rq0._auto_1):eA X (.builtin "len") (fun xs H Q=>∃(a:Addr) (ts:List Str),xs=[.ref a]/\H a=some (pW P w a ts)/\Q (.int (dd (tk ts)).length) H):=by
 subst hP hw;intro pins s σ H xs us Q I r h;obtain⟨a,ts,rfl,ha,q⟩:=h;obtain⟨u,rfl,ru⟩:=gN r
 cases ru
 obtain⟨hS,_,_⟩:=(show bU X.prog X.w H s.heap a (pW X.prog X.w a ts) from I.hok a _ ha)
 obtain⟨o,es,ep,t,ho,hex,hd,_,_,hb,hf,hn⟩:=hS.of;rw[<-hn] at q;exact call_len_set ho hex hd hf (by unfold scanBound at hb;lia) ⟨.int es.size,H,I.tok _,⟨_,rfl⟩,q⟩
end
end L2
namespace Mine
open PySem L2
def fR(ν:Str->Str):Tm->Tm->Prop
 |.num _ n,t=>∃p,t= .num p n
 |.nam _ x,t=>∃p,t= .nam p (ν x)
 |.op _ s a b,t=>∃p a' b',t= .op p s a' b'/\fR ν a a'/\fR ν b b'
mutual
def eL(ν:Str->Str):Rw->Rw->Prop
 |.thr _ w x us am,r=>∃p,r= .thr p w (ν x) us am
 |.lt _ x t,r=>∃p t',r= .lt p (ν x) t'/\fR ν t t'
 |.tell _ t,r=>∃p t',r= .tell p t'/\fR ν t t'
 |.when _ _ _ t a b,r=>∃p pa pb t' a' b',r= .when p pa pb t' a' b'/\fR ν t t'/\bO ν a a'/\bO ν b b'
 |.times _ _ n b,r=>∃p pb b',r= .times p pb n b'/\bO ν b b'
def bO(ν:Str->Str):List Rw->List Rw->Prop
 |[],qs=>qs=[]
 |r::rs,qs=>∃q qs',qs=q::qs'/\eL ν r q/\bO ν rs qs'
end
theorem fR.size{ν:Str->Str}:∀{t u:Tm},fR ν t u->u.size=t.size
 |.num _ _,_,⟨_,e⟩=>by rw[e];rfl
 |.nam _ _,_,⟨_,e⟩=>by rw[e];rfl
 |.op _ _ a b,_,⟨_,a',b',e,h,k⟩=>by rw[e];simp only[Tm.size,fR.size h,fR.size k]
theorem fR.ok{ν:Str->Str}:∀{t u:Tm},fR ν t u->t.ok->u.ok
 |.num _ _,_,⟨_,e⟩,h=>by rw[e];exact h
 |.nam _ _,_,⟨_,e⟩,_=>by rw[e];trivial
 |.op _ _ a b,_,⟨_,a',b',e,h,k⟩,o=>by rw[e];exact⟨o.1,fR.ok h o.2.1,fR.ok k o.2.2⟩
theorem fR.names{ν:Str->Str}:∀{t u:Tm},fR ν t u->u.names=t.names.map ν
 |.num _ _,_,⟨_,e⟩=>by rw[e];rfl
 |.nam _ _,_,⟨_,e⟩=>by rw[e];rfl
 |.op _ _ a b,_,⟨_,a',b',e,h,k⟩=>by rw[e];simp only[Tm.names,fR.names h,fR.names k,List.map_append]
theorem fR.fine{ν:Str->Str}{t u:Tm}(h:fR ν t u)(f:t.fine):u.fine:=⟨h.ok f.1,by rw[h.size];exact f.2⟩
mutual
theorem eL.cnt{ν:Str->Str}:∀{r q:Rw},eL ν r q->q.cnt=r.cnt
 |.thr _ _ _ _ _,_,⟨_,e⟩=>by rw[e];rfl
 |.lt _ _ _,_,⟨_,_,e,_⟩=>by rw[e];rfl
 |.tell _ _,_,⟨_,_,e,_⟩=>by rw[e];rfl
 |.when _ _ _ _ a b,_,⟨_,_,_,_,_,_,e,_,h,k⟩=>by rw[e];simp only[Rw.cnt,bO.cnt h,bO.cnt k]
 |.times _ _ _ b,_,⟨_,_,_,e,h⟩=>by rw[e];simp only[Rw.cnt,bO.cnt h]
theorem bO.cnt{ν:Str->Str}:∀{rs qs:List Rw},bO ν rs qs->bP qs=bP rs
 |[],_,e=>by rw[show _=[] from e]
 |r::rs,_,⟨_,_,e,h,k⟩=>by rw[e];simp only[bP,eL.cnt h,bO.cnt k]
end
mutual
theorem eL.tel{ν:Str->Str}:∀{r q:Rw},eL ν r q->tel q=tel r
 |.thr _ _ _ _ _,_,⟨_,e⟩=>by rw[e];rfl
 |.lt _ _ _,_,⟨_,_,e,_⟩=>by rw[e];rfl
 |.tell _ _,_,⟨_,_,e,_⟩=>by rw[e];rfl
 |.when _ _ _ _ a b,_,⟨_,_,_,_,_,_,e,_,h,k⟩=>by rw[e];simp only[Mine.tel,bO.tel h]
 |.times _ _ _ b,_,⟨_,_,_,e,h⟩=>by rw[e];simp only[Mine.tel,bO.tel h]
theorem bO.tel{ν:Str->Str}:∀{rs qs:List Rw},bO ν rs qs->eE qs=eE rs
 |[],_,e=>by rw[show _=[] from e]
 |r::rs,_,⟨_,_,e,h,k⟩=>by rw[e];simp only[eE,eL.tel h,bO.tel k]
end
mutual
theorem eL.telOk{ν:Str->Str}:∀{r q:Rw},eL ν r q->lT r->lT q
 |.thr _ _ _ _ _,_,⟨_,e⟩,_=>by rw[e];trivial
 |.lt _ _ _,_,⟨_,_,e,_⟩,_=>by rw[e];trivial
 |.tell _ _,_,⟨_,_,e,_⟩,_=>by rw[e];trivial
 |.when _ _ _ _ a b,_,⟨_,_,_,_,_,_,e,_,h,k⟩,o=>by rw[e];exact⟨by rw[bO.tel h,bO.tel k];exact o.1,bO.telOk h o.2.1,bO.telOk k o.2.2⟩
 |.times _ _ _ b,_,⟨_,_,_,e,h⟩,o=>by rw[e];exact⟨by rw[bO.tel h];exact o.1,bO.telOk h o.2⟩
theorem bO.telOk{ν:Str->Str}:∀{rs qs:List Rw},bO ν rs qs->cA rs->cA qs
 |[],_,e,_=>by rw[show _=[] from e];trivial
 |r::rs,_,⟨_,_,e,h,k⟩,o=>by rw[e];exact⟨eL.telOk h o.1,bO.telOk k o.2⟩
end
mutual
theorem eL.dp{ν:Str->Str}:∀{r q:Rw},eL ν r q->q.dp=r.dp
 |.thr _ _ _ _ _,_,⟨_,e⟩=>by rw[e];rfl
 |.lt _ _ _,_,⟨_,_,e,_⟩=>by rw[e];rfl
 |.tell _ _,_,⟨_,_,e,_⟩=>by rw[e];rfl
 |.when _ _ _ _ a b,_,⟨_,_,_,_,_,_,e,_,h,k⟩=>by rw[e];simp only[Rw.dp,bO.dp h,bO.dp k]
 |.times _ _ _ b,_,⟨_,_,_,e,h⟩=>by rw[e];simp only[Rw.dp,bO.dp h]
theorem bO.dp{ν:Str->Str}:∀{rs qs:List Rw},bO ν rs qs->jD qs=jD rs
 |[],_,e=>by rw[show _=[] from e]
 |r::rs,_,⟨_,_,e,h,k⟩=>by rw[e];simp only[jD,eL.dp h,bO.dp k]
end
mutual
def yH:Rw->Prop
 |.thr _ _ _ _ _=>True
 |.lt _ _ t=>t.size<=7
 |.tell _ t=>t.size<=7
 |.when _ _ _ t a b=>t.size<=7/\iH a/\iH b
 |.times _ _ _ b=>iH b
def iH:List Rw->Prop
 |[]=>True
 |r::rs=>yH r/\iH rs
end
theorem iH.app:∀{rs qs:List Rw},iH rs->iH qs->iH (rs++qs)
 |[],_,_,h=>h
 |_::_,_,⟨h,k⟩,h2=>⟨h,iH.app k h2⟩
mutual
theorem eL.tsz{ν:Str->Str}:∀{r q:Rw},eL ν r q->yH r->yH q
 |.thr _ _ _ _ _,_,⟨_,e⟩,_=>by rw[e];trivial
 |.lt _ _ _,_,⟨_,_,e,h⟩,o=>by rw[e];show _<=7;rw[h.size];exact o
 |.tell _ _,_,⟨_,_,e,h⟩,o=>by rw[e];show _<=7;rw[h.size];exact o
 |.when _ _ _ _ a b,_,⟨_,_,_,_,_,_,e,t,h,k⟩,o=>by rw[e];exact⟨by rw[t.size];exact o.1,bO.tsz h o.2.1,bO.tsz k o.2.2⟩
 |.times _ _ _ b,_,⟨_,_,_,e,h⟩,o=>by rw[e];exact bO.tsz (rs:=b) h o
theorem bO.tsz{ν:Str->Str}:∀{rs qs:List Rw},bO ν rs qs->iH rs->iH qs
 |[],_,e,_=>by rw[show _=[] from e];trivial
 |r::rs,_,⟨_,_,e,h,k⟩,o=>by rw[e];exact⟨eL.tsz h o.1,bO.tsz k o.2⟩
end
mutual
theorem eL.sc{ν:Str->Str}:∀{r q:Rw}{ks k2:List Str},eL ν r q->sJ ks r k2->∀ks':List Str,(∀y∈ks,ν y∈ks')->∃k3,sJ ks' q k3/\∀y∈k2,ν y∈k3
 |.thr _ _ x _ _,_,ks,k2,⟨_,e⟩,h,ks',hk=>by
  rw[e];refine⟨ks'++[ν x],⟨rfl,h.2⟩,fun y hy=>?_⟩;rw[h.1] at hy;rcases bp.mp hy with z|z
  ·exact bv _ (hk y z)
  ·rw[cg.mp z];simp
 |.lt _ x _,_,ks,k2,⟨_,_,e,t⟩,h,ks',hk=>by
  rw[e];refine⟨ks'++[ν x],⟨rfl,fun y hy=>?_⟩,fun y hy=>?_⟩
  ·rw[t.names] at hy;obtain⟨z,hz,rfl⟩:=dh.mp hy;exact hk z (h.2 z hz)
  ·rw[h.1] at hy;rcases bp.mp hy with z|z
   ·exact bv _ (hk y z)
   ·rw[cg.mp z];simp
 |.tell _ _,_,ks,k2,⟨_,_,e,t⟩,h,ks',hk=>by
  rw[e];refine⟨ks',⟨rfl,fun y hy=>?_⟩,fun y hy=>?_⟩
  ·rw[t.names] at hy;obtain⟨z,hz,rfl⟩:=dh.mp hy;exact hk z (h.2 z hz)
  ·rw[h.1] at hy;exact hk y hy
 |.when _ _ _ _ a b,_,ks,k2,⟨_,_,_,_,_,_,e,t,ha,hb⟩,⟨hn,k3,k4,h3,h4,h5⟩,ks',hk=>by
  rw[e];obtain⟨m3,s3,e3⟩:=bO.sc ha h3 ks' hk;obtain⟨m4,s4,e4⟩:=bO.sc hb h4 ks' hk;refine⟨_,⟨fun y hy=>?_,m3,m4,s3,s4,rfl⟩,fun y hy=>?_⟩
  ·rw[t.names] at hy;obtain⟨z,hz,rfl⟩:=dh.mp hy;exact hk z (hn z hz)
  ·rw[h5,dr,fh] at hy;rw[dr,fh];exact⟨e3 y hy.1,e4 y hy.2⟩
 |.times _ _ _ b,_,ks,k2,⟨_,_,_,e,h⟩,o,ks',hk=>by
  rw[e];exact bO.sc (rs:=b) h o ks' hk
theorem bO.sc{ν:Str->Str}:∀{rs qs:List Rw}{ks k2:List Str},bO ν rs qs->fO ks rs k2->∀ks':List Str,(∀y∈ks,ν y∈ks')->∃k3,fO ks' qs k3/\∀y∈k2,ν y∈k3
 |[],_,ks,k2,e,h,ks',hk=>by
  rw[show _=[] from e];exact⟨ks',rfl,by rw[show k2=ks from h];exact hk⟩
 |r::rs,_,ks,k2,⟨_,_,e,hr,hs⟩,⟨k1,h1,h2⟩,ks',hk=>by
  rw[e];obtain⟨m1,s1,e1⟩:=eL.sc hr h1 ks' hk;obtain⟨m2,s2,e2⟩:=bO.sc hs h2 m1 e1;exact⟨m2,⟨m1,s1,s2⟩,e2⟩
end
mutual
theorem sJ.wide:∀(r:Rw) {ks k2:List Str}(ks':List Str),sJ ks r k2->(∀y∈ks,y∈ks')->∃k3,sJ ks' r k3/\∀y∈k2,y∈k3
 |.thr _ _ x _ _,ks,k2,ks',h,hk=>⟨ks'++[x],⟨rfl,h.2⟩,fun y hy=>by
  rw[h.1] at hy;rcases bp.mp hy with z|z
  ·exact bv _ (hk y z)
  ·exact bh _ z⟩
 |.lt _ x _,ks,k2,ks',h,hk=>⟨ks'++[x],⟨rfl,fun y hy=>hk y (h.2 y hy)⟩,fun y hy=>by
  rw[h.1] at hy;rcases bp.mp hy with z|z
  ·exact bv _ (hk y z)
  ·exact bh _ z⟩
 |.tell _ _,ks,k2,ks',h,hk=>⟨ks',⟨rfl,fun y hy=>hk y (h.2 y hy)⟩,fun y hy=>by rw[h.1] at hy;exact hk y hy⟩
 |.when _ _ _ _ a b,ks,k2,ks',⟨hn,k3,k4,h3,h4,h5⟩,hk=>by
  obtain⟨m3,s3,e3⟩:=fO.wide a ks' h3 hk;obtain⟨m4,s4,e4⟩:=fO.wide b ks' h4 hk;refine⟨_,⟨fun y hy=>hk y (hn y hy),m3,m4,s3,s4,rfl⟩,fun y hy=>?_⟩;rw[h5,dr,fh] at hy;rw[dr,fh];exact⟨e3 y hy.1,e4 y hy.2⟩
 |.times _ _ _ b,ks,k2,ks',h,hk=>fO.wide b ks' h hk
theorem fO.wide:∀(rs:List Rw) {ks k2:List Str}(ks':List Str),fO ks rs k2->(∀y∈ks,y∈ks')->∃k3,fO ks' rs k3/\∀y∈k2,y∈k3
 |[],ks,k2,ks',h,hk=>⟨ks',rfl,by rw[show k2=ks from h];exact hk⟩
 |r::rs,ks,k2,ks',⟨k1,h1,h2⟩,hk=>by
  obtain⟨m1,s1,e1⟩:=sJ.wide r ks' h1 hk;obtain⟨m2,s2,e2⟩:=fO.wide rs m1 h2 e1;exact⟨m2,⟨m1,s1,s2⟩,e2⟩
end
theorem fO.cat:∀{rs qs:List Rw}{ks k1 k2:List Str},fO ks rs k1->fO k1 qs k2->fO ks (rs++qs) k2
 |[],_,ks,k1,k2,h,h2=>by rw[show k1=ks from h] at h2;exact h2
 |_::_,_,_,_,_,⟨k3,h1,h2⟩,h3=>⟨k3,h1,fO.cat h2 h3⟩
mutual
theorem sJ.rf:∀{r:Rw}{ks k2:List Str}(k:Nat),sJ ks r k2->rf k r=[]
 |.thr _ _ _ _ _,_,_,k,h=>by simp only[rf,uN,h.2];rfl
 |.lt _ _ _,_,_,_,_=>rfl
 |.tell _ _,_,_,_,_=>rfl
 |.when _ _ _ _ a b,_,_,k,⟨_,_,_,h3,h4,_⟩=>by simp only[rf,fO.rf _ h3,fO.rf _ h4];rfl
 |.times _ _ _ b,ks,k2,k,h=>by simp only[Mine.rf];exact fO.rf (rs:=b) _ h
theorem fO.rf:∀{rs:List Rw}{ks k2:List Str}(k:Nat),fO ks rs k2->rfL k rs=[]
 |[],_,_,_,_=>rfl
 |r::rs,_,_,k,⟨_,h1,h2⟩=>by simp only[rfL,sJ.rf _ h1,fO.rf _ h2];rfl
end
mutual
theorem sJ.uf:∀{r:Rw}{ks k2:List Str}(k:Nat) (kn:List Str),sJ ks r k2->(∀y∈ks,y∈kn)->uf k kn r=[]/\∀y∈k2,y∈lk kn r
 |.thr _ _ x _ _,ks,k2,k,kn,h,hk=>⟨rfl,fun y hy=>by
  rw[h.1] at hy;rcases bp.mp hy with z|z
  ·exact bv _ (hk y z)
  ·exact bh _ z⟩
 |.lt _ x _,ks,k2,k,kn,h,hk=>⟨bg fun y hy=>hk y (h.2 y hy),fun y hy=>by
  rw[h.1] at hy;rcases bp.mp hy with z|z
  ·exact bv _ (hk y z)
  ·exact bh _ z⟩
 |.tell _ _,ks,k2,k,kn,h,hk=>⟨bg fun y hy=>hk y (h.2 y hy),fun y hy=>by rw[h.1] at hy;exact hk y hy⟩
 |.when _ _ _ t a b,ks,k2,k,kn,⟨hn,k3,k4,h3,h4,h5⟩,hk=>by
  obtain⟨u3,l3⟩:=fO.uf (k+1) kn h3 hk;obtain⟨u4,l4⟩:=fO.uf (k+1+bP a) kn h4 hk;refine⟨?_,fun y hy=>?_⟩
  ·simp only[Mine.uf,u3,u4];rw[show sF k kn t.names=[] from bg fun y hy=>hk y (hn y hy)];rfl
  ·rw[h5,dr,fh] at hy;simp only[lk];rw[dr,fh];exact⟨l4 y hy.2,l3 y hy.1⟩
 |.times _ _ _ b,ks,k2,k,kn,h,hk=>by
  have:=fO.uf (rs:=b) (k+1) kn h hk;simp only[Mine.uf,lk];exact this
theorem fO.uf:∀{rs:List Rw}{ks k2:List Str}(k:Nat) (kn:List Str),fO ks rs k2->(∀y∈ks,y∈kn)->ufL k kn rs=[]/\∀y∈k2,y∈lkL kn rs
 |[],ks,k2,k,kn,h,hk=>⟨rfl,by rw[show k2=ks from h];exact hk⟩
 |r::rs,ks,k2,k,kn,⟨k1,h1,h2⟩,hk=>by
  obtain⟨u1,l1⟩:=sJ.uf k kn h1 hk;obtain⟨u2,l2⟩:=fO.uf (k+r.cnt) (lk kn r) h2 l1;exact⟨by simp only[ufL,u1,u2];rfl,l2⟩
end
mutual
theorem lT.tf:∀{r:Rw}(k:Nat),lT r->tf k r=[]
 |.thr _ _ _ _ _,_,_=>rfl
 |.lt _ _ _,_,_=>rfl
 |.tell _ _,_,_=>rfl
 |.when _ _ _ _ a b,k,⟨e,h3,h4⟩=>by simp only[Mine.tf,cA.tf _ h3,cA.tf _ h4,tls,if_pos e];rfl
 |.times _ _ _ b,k,h=>by simp only[Mine.tf];exact cA.tf (rs:=b) _ h.2
theorem cA.tf:∀{rs:List Rw}(k:Nat),cA rs->tfL k rs=[]
 |[],_,_=>rfl
 |r::rs,k,⟨h1,h2⟩=>by simp only[tfL,lT.tf _ h1,cA.tf _ h2];rfl
end
mutual
theorem lT.tim:∀{r:Rw},lT r->yY r
 |.thr _ _ _ _ _,_=>trivial
 |.lt _ _ _,_=>trivial
 |.tell _ _,_=>trivial
 |.when _ _ _ _ a b,⟨_,h3,h4⟩=>⟨cA.tim h3,cA.tim h4⟩
 |.times _ _ _ b,⟨h,k⟩=>⟨h.1,h.2.1,cA.tim k⟩
theorem cA.tim:∀{rs:List Rw},cA rs->wK rs
 |[],_=>trivial
 |r::rs,⟨h1,h2⟩=>⟨lT.tim h1,cA.tim h2⟩
end
mutual
def gJ:Rw->List Rw
 |.when p pa pb t a b=> .when p pa pb t a b::(dA a++dA b)
 |.times p pb n b=> .times p pb n b::dA b
 |.thr p w x vs am=>[.thr p w x vs am]
 |.lt p x t=>[.lt p x t]
 |.tell p t=>[.tell p t]
def dA:List Rw->List Rw
 |[]=>[]
 |r::rs=>gJ r++dA rs
end
mutual
theorem aC1:∀(r:Rw),(gJ r).length=r.cnt
 |.when _ _ _ _ a b=>by have:=eB a;have:=eB b;simp only[gJ,Rw.cnt,List.length_cons,List.length_append];lia
 |.times _ _ _ b=>by have:=eB b;simp only[gJ,Rw.cnt,List.length_cons];lia
 |.thr _ _ _ _ _=>by simp only[gJ,Rw.cnt,List.length_cons,List.length_nil]
 |.lt _ _ _=>by simp only[gJ,Rw.cnt,List.length_cons,List.length_nil]
 |.tell _ _=>by simp only[gJ,Rw.cnt,List.length_cons,List.length_nil]
theorem eB:∀(rs:List Rw),(dA rs).length=bP rs
 |[]=>by simp only[dA,bP,List.length_nil]
 |r::rs=>by have:=aC1 r;have:=eB rs;simp only[dA,bP,List.length_append];lia
end
theorem fL:∀(rs qs:List Rw),dA (rs++qs)=dA rs++dA qs
 |[],qs=>by simp[dA]
 |r::rs,qs=>by simp only[List.cons_append,dA,fL rs qs,List.append_assoc]
def eO(s:Stp):Bool:=decide (s.1="row")
mutual
theorem aI4:∀(r:Rw) (k:Nat),((bY k r).filter eO).map (·.2.1)=gJ r
 |.when p pa pb t a b,k=>by
  simp only[bY,gJ];rw[di (p:=eO) (by unfold eO;exact af rfl),fk,fk,fk,ef (p:=eO) (by unfold eO;simp[vO]),ef (p:=eO) (by unfold eO;simp[gX])];simp only[List.filter_nil,List.append_nil,List.map_cons,List.map_append,fX a,fX b]
 |.times p pb n b,k=>by
  simp only[bY,gJ];rw[di (p:=eO) (by unfold eO;exact af rfl),fk,ef (p:=eO) (by unfold eO;simp[gX])];simp only[List.filter_nil,List.append_nil,List.map_cons,fX b]
 |.thr _ _ _ _ _,_=>by simp only[bY,gJ];rw[di (p:=eO) (by unfold eO;exact af rfl)];rfl
 |.lt _ _ _,_=>by simp only[bY,gJ];rw[di (p:=eO) (by unfold eO;exact af rfl)];rfl
 |.tell _ _,_=>by simp only[bY,gJ];rw[di (p:=eO) (by unfold eO;exact af rfl)];rfl
theorem fX:∀(rs:List Rw) (k:Nat),((bR k rs).filter eO).map (·.2.1)=dA rs
 |[],_=>rfl
 |r::rs,k=>by simp only[bR,dA,List.filter_append,List.map_append,aI4 r,fX rs]
end
mutual
theorem bE1{H:Hp}:∀{r:Rw},eF H r->∀q∈gJ r,eF H q
 |.when _ _ _ _ a b,h,q,hq=>by
  rcases bu.mp hq with e|e
  ·rw[e];exact h
  rcases bp.mp e with e|e
  ·exact jL h.2.2.2.2.2.1 q e
  ·exact jL h.2.2.2.2.2.2 q e
 |.times _ _ _ b,h,q,hq=>by
  rcases bu.mp hq with e|e
  ·rw[e];exact h
  ·exact jL h.2.2 q e
 |.thr _ _ _ _ _,h,q,hq=>by rw[cg.mp hq];exact h
 |.lt _ _ _,h,q,hq=>by rw[cg.mp hq];exact h
 |.tell _ _,h,q,hq=>by rw[cg.mp hq];exact h
theorem jL{H:Hp}:∀{rs:List Rw},aZ H rs->∀q∈dA rs,eF H q
 |[],_,q,hq=>absurd hq dv
 |r::rs,h,q,hq=>by
  rcases bp.mp hq with e|e
  ·exact bE1 h.1 q e
  ·exact jL h.2 q e
end
def dU(rs:List Rw):List Str:=(dA rs).filterMap Rw.sets
def oZ(r:Rw):List Str:=r.sets.toList++r.asked
def eM(rs:List Rw):List Str:=(dA rs).flatMap oZ
theorem vV(rs qs:List Rw):dU (rs++qs)=dU rs++dU qs:=by unfold dU;rw[fL,dw]
theorem uY(rs qs:List Rw):eM (rs++qs)=eM rs++eM qs:=by unfold eM;rw[fL,xj]
theorem bL5{rs:List Rw}{x:Str}(h:x∈dU rs):x∈eM rs:=by
 obtain⟨r,hr,e⟩:=jf.mp h;exact jd.mpr ⟨r,hr,bv _ (by rw[e];simp)⟩
theorem pR(r:Rw)(rs:List Rw):dU (r::rs)=dU [r]++dU rs:=by rw[<-vV];rfl
theorem pX(r:Rw)(rs:List Rw):eM (r::rs)=eM [r]++eM rs:=by rw[<-uY];rfl
theorem nG{p pa pb:Addr}{t:Tm}{a b:List Rw}:dU [.when p pa pb t a b]=dU a++dU b:=by
 simp only[dU,dA,gJ,List.append_nil,List.filterMap_cons,Rw.sets,List.filterMap_append]
theorem kY{p pb:Addr}{n:Int}{b:List Rw}:dU [.times p pb n b]=dU b:=by
 simp only[dU,dA,gJ,List.append_nil,List.filterMap_cons,Rw.sets]
theorem mS{p pa pb:Addr}{t:Tm}{a b:List Rw}:eM [.when p pa pb t a b]=t.names++(eM a++eM b):=by
 simp only[eM,dA,gJ,List.append_nil,List.flatMap_cons,List.flatMap_append,oZ,Rw.sets,Rw.asked,Option.toList,List.nil_append]
theorem jA{p pb:Addr}{n:Int}{b:List Rw}:eM [.times p pb n b]=eM b:=by
 simp only[eM,dA,gJ,List.append_nil,List.flatMap_cons,oZ,Rw.sets,Rw.asked,Option.toList,List.nil_append]
def Clo(ks:List Str)(rs:List Rw)(k2:List Str):Prop:=(∀y∈eM rs,y∈ks\/y∈dU rs)/\∀y∈k2,y∈ks\/y∈dU rs
mutual
theorem sJ.clo:∀{r:Rw}{ks k2:List Str},sJ ks r k2->Clo ks [r] k2
 |.thr _ _ x _ _,ks,k2,h=>by
  refine⟨fun y hy=> .inr hy,fun y hy=>?_⟩;rw[h.1] at hy;exact bp.mp hy
 |.lt p x t,ks,k2,h=>by
  refine⟨fun y hy=>?_,fun y hy=>?_⟩
  ·have e:eM [Rw.lt p x t]=[x]++t.names:=by simp[eM,dA,gJ,oZ,Rw.sets,Rw.asked]
   rw[e] at hy;rcases bp.mp hy with z|z
   ·exact .inr z
   ·exact .inl (h.2 y z)
  ·rw[h.1] at hy;exact bp.mp hy
 |.tell p t,ks,k2,h=>by
  refine⟨fun y hy=>?_,fun y hy=>by rw[h.1] at hy;exact .inl hy⟩;have e:eM [Rw.tell p t]=t.names:=by simp[eM,dA,gJ,oZ,Rw.sets,Rw.asked]
  rw[e] at hy;exact .inl (h.2 y hy)
 |.when p pa pb t a b,ks,k2,⟨hn,k3,k4,h3,h4,h5⟩=>by
  have c3:=fO.clo h3;have c4:=fO.clo h4;unfold Clo;rw[mS,nG];refine⟨fun y hy=>?_,fun y hy=>?_⟩
  ·rcases bp.mp hy with z|z
   ·exact .inl (hn y z)
   rcases bp.mp z with z|z
   ·exact(c3.1 y z).imp_right fun q=>bv _ q
   ·exact(c4.1 y z).imp_right fun q=>bh _ q
  ·rw[h5,dr] at hy;exact(c3.2 y hy.1).imp_right fun q=>bv _ q
 |.times p pb n b,ks,k2,h=>by
  have c:=fO.clo (rs:=b) h;unfold Clo;rw[jA,kY];exact c
theorem fO.clo:∀{rs:List Rw}{ks k2:List Str},fO ks rs k2->Clo ks rs k2
 |[],ks,k2,h=>⟨fun y hy=>absurd hy dv,fun y hy=>by rw[show k2=ks from h] at hy;exact .inl hy⟩
 |r::rs,ks,k2,⟨k1,h1,h2⟩=>by
  have c1:=sJ.clo h1;have c2:=fO.clo h2;unfold Clo;rw[pX,pR];have up:∀y,y∈k1\/y∈dU rs->y∈ks\/y∈dU [r]++dU rs:=fun y hy=>by
   rcases hy with z|z
   ·exact(c1.2 y z).imp_right fun q=>bv _ q
   ·exact .inr (bh _ z)
  refine⟨fun y hy=>?_,fun y hy=>up y (c2.2 y hy)⟩;rcases bp.mp hy with z|z
  ·exact(c1.1 y z).imp_right fun q=>bv _ q
  ·exact up y (c2.1 y z)
end
mutual
theorem eL.st{ν:Str->Str}:∀{r q:Rw},eL ν r q->dU [q]=(dU [r]).map ν
 |.thr _ _ _ _ _,_,⟨_,e⟩=>by rw[e];rfl
 |.lt _ _ _,_,⟨_,_,e,_⟩=>by rw[e];rfl
 |.tell _ _,_,⟨_,_,e,_⟩=>by rw[e];rfl
 |.when _ _ _ _ a b,_,⟨_,_,_,_,_,_,e,_,h,k⟩=>by rw[e,nG,nG,bO.st h,bO.st k,au]
 |.times _ _ _ b,_,⟨_,_,_,e,h⟩=>by rw[e,kY,kY,bO.st h]
theorem bO.st{ν:Str->Str}:∀{rs qs:List Rw},bO ν rs qs->dU qs=(dU rs).map ν
 |[],_,e=>by rw[show _=[] from e];rfl
 |r::rs,_,⟨q,qs,e,h,k⟩=>by rw[e,pR,pR r,eL.st h,bO.st k,au]
end
mutual
theorem eL.nm{ν:Str->Str}:∀{r q:Rw},eL ν r q->eM [q]=(eM [r]).map ν
 |.thr _ _ _ _ _,_,⟨_,e⟩=>by rw[e];rfl
 |.lt _ _ _,_,⟨_,_,e,t⟩=>by rw[e];simp[eM,dA,gJ,oZ,Rw.sets,Rw.asked,t.names]
 |.tell _ _,_,⟨_,_,e,t⟩=>by rw[e];simp[eM,dA,gJ,oZ,Rw.sets,Rw.asked,t.names]
 |.when _ _ _ _ a b,_,⟨_,_,_,_,_,_,e,t,h,k⟩=>by rw[e,mS,mS,bO.nm h,bO.nm k,au,au,t.names]
 |.times _ _ _ b,_,⟨_,_,_,e,h⟩=>by rw[e,jA,jA,bO.nm h]
theorem bO.nm{ν:Str->Str}:∀{rs qs:List Rw},bO ν rs qs->eM qs=(eM rs).map ν
 |[],_,e=>by rw[show _=[] from e];rfl
 |r::rs,_,⟨q,qs,e,h,k⟩=>by rw[e,pX,pX r,eL.nm h,bO.nm k,au]
end
def sp(n:Nat):Str:=if n<26 then ⟨#[97+n]⟩ else ⟨#[97+(n / 26-1),97+n % 26]⟩
def jR(z:Str):Bool:=decide (1<=z.length/\z.length<=8)&&(!decide (z∈fJ)&&decide (∀c∈z.cps.toList,97<=c/\c<=122))
theorem aE3{a b:Str}(h:a=b):a.cps.toList=b.cps.toList:=by rw[h]
theorem rM(n:Nat):(sp n).cps.toList=if n<26 then [97+n] else [97+(n / 26-1),97+n % 26]:=by
 unfold sp
 split<;>rfl
theorem aV5{n m:Nat}(hn:n<200)(hm:m<200)(h:sp n=sp m):n=m:=by
 have e:=aE3 h;rw[rM,rM] at e
 split at e<;>split at e
 ·simp at e;exact e
 ·simp at e
 ·simp at e
 ·simp only[List.cons.injEq,and_true] at e;lia
theorem aA7(n:Nat):(sp n).length=if n<26 then 1 else 2:=by
 show(sp n).cps.size=_;rw[<-eo,rM]
 split<;>rfl
theorem aZ1{n:Nat}(hn:n<200):sp n∉fJ:=by
 intro h;have l:=aA7 n;have l2:(sp n).length<=2:=by rw[l];split<;>lia
 simp only[fJ,List.mem_cons,List.not_mem_nil,or_false] at h;rcases h with h|h|h|h|h|h|h|h|h|h|h|h
 all_goals first
  |(rw[h] at l2;exact absurd l2 (by decide))
  |skip
 have e:=aE3 h;rw[rM] at e;have of:("of": Str).cps.toList=[111,102]:=by decide
 rw[of] at e
 split at e
 ·simp at e
 ·simp only[List.cons.injEq,and_true] at e;lia
theorem bG5{n:Nat}(hn:n<200):jR (sp n)=true:=by
 unfold jR;rw[af,ba (aZ1 hn),af]
 ·rfl
 ·intro c hc;rw[rM] at hc
  split at hc
  ·simp only[List.mem_cons,List.not_mem_nil,or_false] at hc;lia
  ·simp only[List.mem_cons,List.not_mem_nil,or_false] at hc;lia
 ·rw[aA7];split<;>lia
theorem uI{α:Type}(p:α->Bool):∀L:List α,L.length=(L.filter p).length+(L.filter fun x=> !p x).length
 |[]=>rfl
 |a::L=>by
  have:=uI p L
  cases c:p a with
  |true=>rw[di c,ef (by simp[c])];simp only[List.length_cons];lia
  |false=>rw[ef (by simp[c]),di (by simp[c])];simp only[List.length_cons];lia
theorem aR8:∀{L T:List Str},L.Nodup->(∀x∈L,x∈T)->L.length<=T.length
 |[],_,_,_=>bt _
 |a::L,T,nd,h=>by
  have nd:=cy.mp nd;have ha:=h a aq;have:=aR8 (T:=T.erase a) nd.2 fun x hx=>(List.mem_erase_of_ne fun e=>nd.1 (by rw[<-e];exact hx)).mpr (h x (ak _ hx))
  rw[List.length_erase_of_mem ha] at this;have:0<T.length:=List.length_pos_of_mem ha;simp only[List.length_cons];lia
def jN(T:List Str)(n:Nat):Bool:= !decide (sp n∈T)
def fr(T:List Str):List Nat:=(List.range 200).filter (jN T)
def oW(m:Nat)(T:List Str):Prop:=∃D:List Str,D.length<=m/\∀x∈T,x∈D
theorem oW.le{m:Nat}{T L:List Str}(h:oW m T)(nd:L.Nodup)(hL:∀x∈L,x∈T):L.length<=m:=by obtain⟨_,l,k⟩:=h;exact cp (aR8 nd fun x hx=>k x (hL x hx)) l
theorem oW.sub{m:Nat}{T S:List Str}(h:oW m T)(k:∀x∈S,x∈T):oW m S:=by obtain⟨D,l,q⟩:=h;exact⟨D,l,fun x hx=>q x (k x hx)⟩
theorem oW.app{m n:Nat}{T S:List Str}(h:oW m T)(k:oW n S):oW (m+n) (T++S):=by
 obtain⟨D,l,q⟩:=h;obtain⟨E,l2,q2⟩:=k;refine⟨D++E,by rw[ao];lia,fun x hx=>?_⟩;rcases bp.mp hx with z|z
 ·exact bv _ (q x z)
 ·exact bh _ (q2 x z)
theorem oW.len{m:Nat}{T:List Str}(h:T.length<=m):oW m T:=⟨T,h,fun _ z=>z⟩
theorem oW.mono{m n:Nat}{T:List Str}(h:oW m T)(k:m<=n):oW n T:=by obtain⟨D,l,q⟩:=h;exact⟨D,cp l k,q⟩
theorem oW.map{m:Nat}{T:List Str}(h:oW m T)(f:Str->Str):oW m (T.map f):=by
 obtain⟨D,l,q⟩:=h;refine⟨D.map f,by rw[ac];exact l,fun x hx=>?_⟩;obtain⟨y,hy,rfl⟩:=dh.mp hx;exact jn (q y hy)
theorem aA1{T:List Str}(h:oW 100 T):100<=(fr T).length:=by
 have e:=uI (jN T) (List.range 200);have k:=h.le (L:=((List.range 200).filter fun n=> !jN T n).map sp) ?_ fun x hx=>?_
 ·rw[ac] at k;rw[za] at e;unfold fr;lia
 ·refine List.Pairwise.map sp (S:=fun a b=>a≠b) (R:=fun a b=>a≠b/\a<200/\b<200) (by rintro a b ⟨z,y,w⟩ q;exact z (aV5 y w q)) ?_;have nd:(List.range 200).Nodup:=List.nodup_range;refine List.Pairwise.imp_of_mem ?_ (nd.filter fun n=> !jN T n);intro a b ha hb z;exact⟨z,je.mp (dr.mp ha).1,je.mp (dr.mp hb).1⟩
 ·obtain⟨n,hn,rfl⟩:=dh.mp hx;have:=(dr.mp hn).2
  simpa [jN] using this
theorem rG(a:Nat):List.range (a+1)=List.range a++[a]:=List.range_succ
theorem aO8(T:List Str){a:Nat}(h:a<=200):fr T=(List.range a).filter (jN T)++((List.range' a (200-a)).filter (jN T)):=by
 unfold fr;rw[<-fk]
 congr 1
 rw[ww,ww];have:=List.range'_append_1 (s:=0) (m:=a) (n:=200-a);rw[Nat.zero_add,show a+(200-a)=200 by lia] at this;exact this.symm
theorem bU5{T:List Str}{a j:Nat}(ha:a<200)(hg:jN T a=true)(hj:((List.range a).filter (jN T)).length=j):(fr T)[j]?=some a/\((List.range (a+1)).filter (jN T)).length=j+1:=by
 refine⟨?_,?_⟩
 ·rw[aO8 T (cj ha),jx (by lia),hj,ye];rw[show 200-a=(200-a-1)+1 by lia,List.range'_succ,di hg];rfl
 ·rw[rG,fk,ao,hj,di hg];rfl
theorem bX6{T:List Str}{a j:Nat}(hg:jN T a=false)(hj:((List.range a).filter (jN T)).length=j):((List.range (a+1)).filter (jN T)).length=j:=by
 rw[rG,fk,ao,hj,ef (by rw[hg];exact bj)];rfl
theorem bX0{T:List Str}{a j:Nat}(ha:a<=200)(hj:((List.range a).filter (jN T)).length=j)(h:j<(fr T).length):a<200:=by
 rcases Nat.lt_or_ge a 200 with z|z
 ·exact z
 ·have:a=200:=by lia
  subst this;unfold fr at h;lia
theorem yB{T:List Str}{n:Nat}(h:n∈fr T):n<200/\sp n∉T:=by
 obtain⟨a,b⟩:=dr.mp h;exact⟨je.mp a,by simpa [jN] using b⟩
theorem bV3(T:List Str):(fr T).Nodup:=List.nodup_range.filter _
def ass(T bs:List Str):List (Str×Str):=(bs.zip (fr T)).map fun p=>(p.1,sp p.2)
def sK(T bs:List Str)(x:Str):Str:=((ass T bs).lookup x).getD x
theorem rY{bs:List Str}{ns:List Nat}{x:Str}:∀{y:Str},((bs.zip ns).map fun p=>(p.1,sp p.2)).lookup x=some y->x∈bs/\∃n∈ns,y=sp n:=by
 induction bs generalizing ns with
 |nil=>intro y h;simp at h
 |cons b bs ih =>
  intro y h
  cases ns with
  |nil=>simp at h
  |cons n ns =>
   simp only[List.zip_cons_cons,List.map_cons,List.lookup_cons] at h
   cases c:x==b with
   |true =>
    rw[c] at h;simp only[Option.some.injEq] at h;exact⟨by rw[xy c];exact aq,n,aq,h.symm⟩
   |false =>
    rw[c] at h;obtain⟨p,m,q,r⟩:=ih h;exact⟨ak _ p,m,ak _ q,r⟩
theorem nR{bs:List Str}{x:Str}:∀{ns:List Nat},x∈bs->bs.length<=ns.length->∃y,((bs.zip ns).map fun p=>(p.1,sp p.2)).lookup x=some y:=by
 induction bs with
 |nil=>intro ns h;exact absurd h dv
 |cons b bs ih =>
  intro ns h hl
  cases ns with
  |nil=>simp at hl
  |cons n ns =>
   simp only[List.zip_cons_cons,List.map_cons,List.lookup_cons]
   cases c:x==b with
   |true=>exact⟨_,rfl⟩
   |false =>
    rcases bu.mp h with z|z
    ·rw[z] at c;simp at c
    ·exact ih z (by simpa using hl)
theorem rF{T bs:List Str}{x:Str}(h:x∉bs):sK T bs x=x:=by
 unfold sK
 cases e:(ass T bs).lookup x with
 |none=>rfl
 |some y=>exact absurd (rY e).1 h
theorem bY9{T bs:List Str}{x:Str}(h:x∈bs)(hl:bs.length<=(fr T).length):∃n∈fr T,sK T bs x=sp n:=by
 obtain⟨y,e⟩:=nR h hl;obtain⟨_,n,hn,q⟩:=rY e;refine⟨n,hn,?_⟩;unfold sK ass;rw[e];exact q
theorem rQ{T bs:List Str}{x:Str}(h:x∈bs)(hl:bs.length<=(fr T).length):sK T bs x∉T/\jR (sK T bs x)=true:=by
 obtain⟨n,hn,e⟩:=bY9 h hl;obtain⟨a,b⟩:=yB hn;rw[e];exact⟨b,bG5 a⟩
theorem uH{bs:List Str}{x:Str}:∀{ns:List Nat}{y:Str},((bs.zip ns).map fun p=>(p.1,sp p.2)).lookup x=some y->∃(i n:Nat),bs[i]?=some x/\ns[i]?=some n/\y=sp n:=by
 induction bs with
 |nil=>intro ns y h;simp at h
 |cons b bs ih =>
  intro ns y h
  cases ns with
  |nil=>simp at h
  |cons n ns =>
   simp only[List.zip_cons_cons,List.map_cons,List.lookup_cons] at h
   cases c:x==b with
   |true =>
    rw[c] at h;simp only[Option.some.injEq] at h;exact⟨0,n,by rw[xy c];rfl,rfl,h.symm⟩
   |false =>
    rw[c] at h;obtain⟨i,m,p,q,r⟩:=ih h;exact⟨i+1,m,by simpa using p,by simpa using q,r⟩
theorem bL3{T bs:List Str}(hl:bs.length<=(fr T).length){x y:Str}(hx:x∈bs)(hy:y∈bs)(h:sK T bs x=sK T bs y):x=y:=by
 obtain⟨u,e⟩:=nR hx hl;obtain⟨v,f⟩:=nR hy hl;obtain⟨i,n,i1,i2,i3⟩:=uH e;obtain⟨j,m,j1,j2,j3⟩:=uH f;unfold sK ass at h;rw[e,f] at h;have h:u=v:=h;rw[i3,j3] at h;have a:=(yB (bq i2)).1;have b:=(yB (bq j2)).1;have nm:=aV5 a b h;subst nm;have ij:i=j:=by
  have nd:=bV3 T;obtain⟨p1,p2⟩:=bf.mp i2;obtain⟨q1,q2⟩:=bf.mp j2;exact(tj (h₀:=p1) (h₁:=q1) nd).mp (by rw[p2,q2])
 subst ij;rw[i1] at j1;exact dg j1
def nY(ν:Str->Str)(K1 K2 N1 N2:List Str):Prop:=∃bs:List Str,bs.Nodup/\PyProof.Rows.sortedS bs=true/\(∀x,x∈bs↔x∈N2/\x∈N1)/\bs.length<=60/\oW 100 (K1++K2++N1++N2)/\ν=sK (K1++K2++N1++N2) bs
section
variable {ν:Str->Str}{K1 K2 N1 N2:List Str}
theorem nY.one{μ:Str->Str}(h:nY ν K1 K2 N1 N2)(k:nY μ K1 K2 N1 N2):ν=μ:=by
 obtain⟨bs,a1,a2,a3,_,_,rfl⟩:=h;obtain⟨cs,b1,b2,b3,_,_,rfl⟩:=k;rw[xJ a1 b1 (fun x=>(a3 x).trans (b3 x).symm) a2 b2]
theorem nY.old(h:nY ν K1 K2 N1 N2){x:Str}(hx:¬(x∈N2/\x∈N1)):ν x=x:=by
 obtain⟨bs,a1,a2,a3,_,_,rfl⟩:=h;exact rF fun z=>hx ((a3 x).mp z)
theorem nY.new(h:nY ν K1 K2 N1 N2){x:Str}(h2:x∈N2)(h1:x∈N1):ν x∉K1++K2++N1++N2/\jR (ν x)=true:=by
 obtain⟨bs,a1,a2,a3,a4,a5,rfl⟩:=h;exact rQ ((a3 x).mpr ⟨h2,h1⟩) (by have:=aA1 a5;lia)
theorem nY.inj(h:nY ν K1 K2 N1 N2){x y:Str}(hx:x∈N2)(hy:y∈N2)(e:ν x=ν y):x=y:=by
 obtain⟨bs,a1,a2,a3,a4,a5,rfl⟩:=id h;have hl:bs.length<=(fr (K1++K2++N1++N2)).length:=by have:=aA1 a5;lia
 by_cases c:x∈bs<;>by_cases d:y∈bs
 ·exact bL3 hl c d e
 ·have:=(rQ c hl).1;rw[e,rF d] at this;exact absurd (bh _ hy) this
 ·have:=(rQ d hl).1;rw[<-e,rF c] at this;exact absurd (bh _ hx) this
 ·rwa [rF c,rF d] at e
end
def uS(v:V):Prop:=wJ v v
theorem gL{H:Hp}{x y:V}(h:wJ x y):∀n,Deq H n x y
 |0=>h
 |_+1=> .inl h
theorem mR(x:Str):wJ (.str x) (.str x):= .inr (.inl ⟨x,rfl,rfl⟩)
theorem qV(x:Int):wJ (.int x) (.int x):= .inl ⟨x,rfl,rfl⟩
theorem yE(x:Addr):wJ (.ref x) (.ref x):= .inr (.inr ⟨x,rfl,rfl⟩)
theorem kS{H:Hp}{ν:Str->Str}:∀{t t1 t2:Tm}(n:Nat),fR ν t t1->fR ν t t2->lN H t1->lN H t2->t.size<=n->Deq H n (.ref t1.p) (.ref t2.p)
 |.num _ m,_,_,n,⟨p,e⟩,⟨q,f⟩,h1,h2,hn=>by
  subst e f
  cases n with
  |zero=>exact absurd hn (by simp[Tm.size])
  |succ n=>exact .inr ⟨p,q,_,_,rfl,rfl,h1,h2,.cons (gL (mR _) n) (.cons (gL (qV _) n) .nil)⟩
 |.nam _ x,_,_,n,⟨p,e⟩,⟨q,f⟩,h1,h2,hn=>by
  subst e f
  cases n with
  |zero=>exact absurd hn (by simp[Tm.size])
  |succ n=>exact .inr ⟨p,q,_,_,rfl,rfl,h1,h2,.cons (gL (mR _) n) (.cons (gL (mR _) n) .nil)⟩
 |.op _ s a b,_,_,n,⟨p,a1,b1,e,ea,eb⟩,⟨q,a2,b2,f,fa,fb⟩,h1,h2,hn=>by
  subst e f;simp only[Tm.size] at hn
  cases n with
  |zero=>exact absurd hn (by lia)
  |succ n=>exact .inr ⟨p,q,_,_,rfl,rfl,h1.1,h2.1,.cons (gL (mR _) n) (.cons (gL (mR _) n) (.cons (kS n ea fa h1.2.1 h2.2.1 (by lia)) (.cons (kS n eb fb h1.2.2 h2.2.2 (by lia)) .nil)))⟩
def tX(d:Nat):Nat:=2*d+9
mutual
theorem aW0{H:Hp}{ν:Str->Str}:∀{r r1 r2:Rw}(n:Nat),eL ν r r1->eL ν r r2->eF H r1->eF H r2->yH r->(∀q∈gJ r,∀p w x us am,q= .thr p w x us am->∀u∈us,uS u)->tX r.dp<=n->Deq H n (.ref r1.p) (.ref r2.p)
 |.thr _ w x us am,_,_,n+1,⟨p,e⟩,⟨q,f⟩,h1,h2,z,ok,hn=>by
  subst e f;refine .inr ⟨p,q,_,_,rfl,rfl,h1.1,h2.1,.cons (gL (mR _) n) (.cons (gL (mR _) n) ?_)⟩;have k:=ok _ aq _ _ _ _ _ rfl;clear h1 h2 ok z hn
  induction us with
  |nil=>exact .nil
  |cons u us ih=>exact .cons (gL (k u aq) n) (ih fun v hv=>k v (ak _ hv))
 |.lt _ x t,_,_,n+1,⟨p,t1,e,a⟩,⟨q,t2,f,b⟩,h1,h2,z,_,hn=>by
  subst e f;have z:t.size<=7:=z;simp only[tX,Rw.dp] at hn;exact .inr ⟨p,q,_,_,rfl,rfl,h1.1,h2.1,.cons (gL (mR _) n) (.cons (gL (mR _) n) (.cons (kS n a b h1.2.1 h2.2.1 (by lia)) .nil))⟩
 |.tell _ t,_,_,n+1,⟨p,t1,e,a⟩,⟨q,t2,f,b⟩,h1,h2,z,_,hn=>by
  subst e f;have z:t.size<=7:=z;simp only[tX,Rw.dp] at hn;exact .inr ⟨p,q,_,_,rfl,rfl,h1.1,h2.1,.cons (gL (mR _) n) (.cons (kS n a b h1.2.1 h2.2.1 (by lia)) .nil)⟩
 |.when _ _ _ t a b,_,_,n+2,⟨p,pa,pb,t1,a1,b1,e,et,ea,eb⟩,⟨q,qa,qb,t2,a2,b2,f,ft,fa,fb⟩,h1,h2,z,ok,hn=>by
  subst e f;have z1:t.size<=7:=z.1;simp only[tX,Rw.dp] at hn;obtain⟨g1,g2,_,g4,g5,g6,g7⟩:=h1;obtain⟨k1,k2,_,k4,k5,k6,k7⟩:=h2;refine .inr ⟨p,q,_,_,rfl,rfl,g1,k1,.cons (gL (mR _) _) (.cons (kS _ et ft g2 k2 (by lia)) (.cons (.inr ⟨pa,qa,_,_,rfl,rfl,g4,k4,?_⟩) (.cons (.inr ⟨pb,qb,_,_,rfl,rfl,g5,k5,?_⟩) .nil)))⟩
  ·exact kM n ea fa g6 k6 z.2.1 (fun q hq=>ok q (ak _ (bv _ hq))) (by simp only[tX];lia)
  ·exact kM n eb fb g7 k7 z.2.2 (fun q hq=>ok q (ak _ (bh _ hq))) (by simp only[tX];lia)
 |.times _ _ m b,_,_,n+2,⟨p,pb,b1,e,eb⟩,⟨q,qb,b2,f,fb⟩,h1,h2,z,ok,hn=>by
  subst e f;simp only[tX,Rw.dp] at hn;obtain⟨g1,g2,g3⟩:=h1;obtain⟨k1,k2,k3⟩:=h2;refine .inr ⟨p,q,_,_,rfl,rfl,g1,k1,.cons (gL (mR _) _) (.cons (gL (qV _) _) (.cons (.inr ⟨pb,qb,_,_,rfl,rfl,g2,k2,?_⟩) .nil))⟩;exact kM (rs:=b) n eb fb g3 k3 z (fun q hq=>ok q (ak _ hq)) (by simp only[tX];lia)
 |.thr _ _ _ _ _,_,_,0,_,_,_,_,_,_,hn=>absurd hn (by simp[tX])
 |.lt _ _ _,_,_,0,_,_,_,_,_,_,hn=>absurd hn (by simp[tX])
 |.tell _ _,_,_,0,_,_,_,_,_,_,hn=>absurd hn (by simp[tX])
 |.when _ _ _ _ _ _,_,_,0,_,_,_,_,_,_,hn=>absurd hn (by simp[tX])
 |.when _ _ _ _ _ _,_,_,1,_,_,_,_,_,_,hn=>absurd hn (by simp only[tX];lia)
 |.times _ _ _ _,_,_,0,_,_,_,_,_,_,hn=>absurd hn (by simp[tX])
 |.times _ _ _ _,_,_,1,_,_,_,_,_,_,hn=>absurd hn (by simp only[tX];lia)
theorem kM{H:Hp}{ν:Str->Str}:∀{rs r1 r2:List Rw}(n:Nat),bO ν rs r1->bO ν rs r2->aZ H r1->aZ H r2->iH rs->(∀q∈dA rs,∀p w x us am,q= .thr p w x us am->∀u∈us,uS u)->tX (jD rs)<=n->PySem.Paired (Deq H n) (r1.map fun r=>V.ref r.p) (r2.map fun r=>V.ref r.p)
 |[],_,_,n,e,f,_,_,_,_,_=>by rw[show _=[] from e,show _=[] from f];exact .nil
 |r::rs,_,_,n,⟨q1,s1,e,a1,b1⟩,⟨q2,s2,f,a2,b2⟩,h1,h2,z,ok,hn=>by
  subst e f;simp only[tX,jD] at hn;exact .cons (aW0 n a1 a2 h1.1 h2.1 z.1 (fun q hq=>ok q (bv _ hq)) (by simp only[tX];lia)) (kM n b1 b2 h1.2 h2.2 z.2 (fun q hq=>ok q (bh _ hq)) (by simp only[tX];lia))
end
end Mine
namespace L2
open PySem PySem.Spec PyProof.Rows
theorem dD{α:Type}{n:Nat}{us:List α}(h:us.length=n+1):∃u r,us=u::r/\r.length=n:=by
 cases us with
 |nil=>cases h
 |cons u r=>exact⟨u,r,rfl,Nat.succ.inj h⟩
section
variable {K:W.Frag}{x qual:Str}{st:Stmt}{f:Addr}{fd:FuncData}{p1 p2 p3 p4 p5:Str}
theorem mE.b1(F:mE K x qual st f fd)(h:∀(kV doc pm:Value) (an:Option Addr) (cdv ct u1:Value),bindArgs (W.fnOf x qual (bT st) (bF st) (aK st) .none kV doc pm an cdv ct) ⟨[u1],[]⟩=pure [(p1,u1)]):gM K fd [p1] []:=by
 refine F.binds fun kV doc pm an cdv ct us h0=>?_
 obtain⟨u1,r1,rfl,h1⟩:=dD (n:=0) h0
 cases ja.mp h1
 exact h kV doc pm an cdv ct u1
theorem mE.b2(F:mE K x qual st f fd)(h:∀(kV doc pm:Value) (an:Option Addr) (cdv ct u1 u2:Value),bindArgs (W.fnOf x qual (bT st) (bF st) (aK st) .none kV doc pm an cdv ct) ⟨[u1,u2],[]⟩=pure [(p1,u1),(p2,u2)]):gM K fd [p1,p2] []:=by
 refine F.binds fun kV doc pm an cdv ct us h0=>?_
 obtain⟨u1,r1,rfl,h1⟩:=dD (n:=1) h0;obtain⟨u2,r2,rfl,h2⟩:=dD (n:=0) h1
 cases ja.mp h2
 exact h kV doc pm an cdv ct u1 u2
theorem mE.b3(F:mE K x qual st f fd)(h:∀(kV doc pm:Value) (an:Option Addr) (cdv ct u1 u2 u3:Value),bindArgs (W.fnOf x qual (bT st) (bF st) (aK st) .none kV doc pm an cdv ct) ⟨[u1,u2,u3],[]⟩=pure [(p1,u1),(p2,u2),(p3,u3)]):gM K fd [p1,p2,p3] []:=by
 refine F.binds fun kV doc pm an cdv ct us h0=>?_
 obtain⟨u1,r1,rfl,h1⟩:=dD (n:=2) h0;obtain⟨u2,r2,rfl,h2⟩:=dD (n:=1) h1;obtain⟨u3,r3,rfl,h3⟩:=dD (n:=0) h2
 cases ja.mp h3
 exact h kV doc pm an cdv ct u1 u2 u3
theorem mE.b4(F:mE K x qual st f fd)(h:∀(kV doc pm:Value) (an:Option Addr) (cdv ct u1 u2 u3 u4:Value),bindArgs (W.fnOf x qual (bT st) (bF st) (aK st) .none kV doc pm an cdv ct) ⟨[u1,u2,u3,u4],[]⟩=pure [(p1,u1),(p2,u2),(p3,u3),(p4,u4)]):gM K fd [p1,p2,p3,p4] []:=by
 refine F.binds fun kV doc pm an cdv ct us h0=>?_
 obtain⟨u1,r1,rfl,h1⟩:=dD (n:=3) h0;obtain⟨u2,r2,rfl,h2⟩:=dD (n:=2) h1;obtain⟨u3,r3,rfl,h3⟩:=dD (n:=1) h2;obtain⟨u4,r4,rfl,h4⟩:=dD (n:=0) h3
 cases ja.mp h4
 exact h kV doc pm an cdv ct u1 u2 u3 u4
theorem mE.b5(F:mE K x qual st f fd)(h:∀(kV doc pm:Value) (an:Option Addr) (cdv ct u1 u2 u3 u4 u5:Value),bindArgs (W.fnOf x qual (bT st) (bF st) (aK st) .none kV doc pm an cdv ct) ⟨[u1,u2,u3,u4,u5],[]⟩=pure [(p1,u1),(p2,u2),(p3,u3),(p4,u4),(p5,u5)]):gM K fd [p1,p2,p3,p4,p5] []:=by
 refine F.binds fun kV doc pm an cdv ct us h0=>?_
 obtain⟨u1,r1,rfl,h1⟩:=dD (n:=4) h0;obtain⟨u2,r2,rfl,h2⟩:=dD (n:=3) h1;obtain⟨u3,r3,rfl,h3⟩:=dD (n:=2) h2;obtain⟨u4,r4,rfl,h4⟩:=dD (n:=1) h3;obtain⟨u5,r5,rfl,h5⟩:=dD (n:=0) h4
 cases ja.mp h5
 exact h kV doc pm an cdv ct u1 u2 u3 u4 u5
end
section
variable {K:W.Frag}{x qual:Str}{st:Stmt}{f:Addr}{fd:FuncData}{p1 p2 p3 p4 p5 p6:Str}
end
section
variable {P:Program}{w:World}{K:W.Frag}{mg:Str->Option Value}{base:Heap}
def Cl(P:Program)(w:World)(K:W.Frag)(mg:Str->Option Value)(base:Heap)(n:Nat)(sp:Sp)(x:Str):Prop:=∃f d ps,kF P w K mg base oX n f d ps sp/\gM K d ps []/\W.keepIn K (.ref f)=true/\mg x=some (.ref f)
def fY(P:Program)(w:World)(K:W.Frag)(mg:Str->Option Value)(base:Heap)(x q:Str)(st:Stmt)(n:Nat)(ps:List Str)(sp:Sp):Prop:=∀{f:Addr}{d:FuncData},mE K x q st f d->kF P w K mg base oX n f d ps sp
theorem iG{x q:Str}{st:Stmt}{k:Nat}{ps:List Str}{sp:Sp}(N:List Str)
  (hb:∀{f:Addr}{cdv:Value}{A:Around}{outer:List Env}{s:Shared}{vs:List V}{E:XK}(H:Hp) (Q:VK),N.Nodup->dH k (A.deeper (envOfC q (aK st) s.heap.objs.size f cdv))->sp vs H Q E ->
   ∃t,nL (iT oX P w K mg base N q (aK st) f cdv A outer s H E).nox (bF st) t/\t { nx:=fun _ H'=>Q .non H',rt:=Q } (eS N vs) H)
  (len:∀vs H Q E,sp vs H Q E->vs.length=ps.length:=by intro _ _ _ _ h;first|(cases h;subst_vars;rfl)|((repeat obtain⟨_,h⟩:=h);subst_vars;rfl))
  (S:autoParam (dY N ps (aK st)) Rq5._auto_1):fY P w K mg base x q st (k+1) ps sp:=
 fun F=>F.ok S len fun _ _ _ _ H _ Q _ hr h=>hb H Q S.nd hr h
def wS(K:W.Frag)(x q:Str)(st:Stmt)(f:Addr):Prop:=∃(oc:Value) (od:Option Addr) (kV dc pm:Value) (an:Option Addr) (cd ct:Value) (sl:Array (Option Value)),K.lookup f=some ⟨oc,od,.func (W.fnOf x q (bT st) (bF st) (aK st) .none kV dc pm an cd ct),sl⟩/\W.codeIn K cd q=true/\W.keepIn K (.ref f)=true
def TopAt(K:W.Frag)(x:Str)(st:Stmt):Prop:=∃f,W.nsIn K mainGlobals x=some (some (.ref f))/\wS K x x st f
theorem wS.of{x q:Str}{st:Stmt}{f:Addr}{oc:Value}{od:Option Addr}{kV dc pm:Value}{an:Option Addr}{cd ct:Value}{sl:Array (Option Value)}(l:K.lookup f=some ⟨oc,od,.func (W.fnOf x q (bT st) (bF st) (aK st) .none kV dc pm an cd ct),sl⟩)(c:W.codeIn K cd q=true)(k:W.keepIn K (.ref f)=true):wS K x q st f:=⟨_,_,_,_,_,_,_,_,_,l,c,k⟩
theorem TopAt.of{x:Str}{st:Stmt}{f:Addr}{oc:Value}{od:Option Addr}{kV dc pm:Value}{an:Option Addr}{cd ct:Value}{sl:Array (Option Value)}(a:W.nsIn K mainGlobals x=some (some (.ref f)))(l:K.lookup f=some ⟨oc,od,.func (W.fnOf x x (bT st) (bF st) (aK st) .none kV dc pm an cd ct),sl⟩)(c:W.codeIn K cd x=true)(k:W.keepIn K (.ref f)=true):TopAt K x st:=⟨_,a,.of l c k⟩
theorem wS.fn{x q:Str}{st:Stmt}{f:Addr}:wS K x q st f->∃d,mE K x q st f d
 |⟨_,_,_,_,_,_,_,_,_,l,c,k⟩=>⟨_,aA2 l c k⟩
structure Zx(P:Program)(w:World)(K:W.Frag)(mg:Str->Option Value)(base:Heap):Prop where
 ns:∀x u,W.nsIn K mainGlobals x=some (some u)->mg x=some u
 no:∀x,W.nsIn K mainGlobals x=some none->mg x=none
theorem Zx.of{h:Heap}(X:K.In h)(G:h.Ns mainGlobals mg):Zx P w K mg base:=⟨fun _ _ e=>W.mg_of X G e,fun _ e=>W.mg_none_of X G e⟩
variable {x p1 p2 p3 p4 p5 p6:Str}{st:Stmt}{n:Nat}{sp:Sp}
theorem Zx.cl(Z:Zx P w K mg base)(t:TopAt K x st){ps:List Str}(ok:fY P w K mg base x x st n ps sp)(b:∀{f d},mE K x x st f d->gM K d ps []):Cl P w K mg base n sp x:=by
 obtain⟨_,a,t⟩:=t;obtain⟨_,F⟩:=t.fn;exact⟨_,_,_,ok F,b F,F.kp,Z.ns _ _ a⟩
theorem Zx.c1(Z:Zx P w K mg base)(t:TopAt K x st)(ok:fY P w K mg base x x st n [p1] sp)(h:autoParam (∀(kV doc pm:Value) (an:Option Addr) (cdv ct u1:Value),bindArgs (W.fnOf x x (bT st) (bF st) (aK st) .none kV doc pm an cdv ct) ⟨[u1],[]⟩=pure [(p1,u1)]) Rq2._auto_1):Cl P w K mg base n sp x:=Z.cl t ok fun F=>F.b1 h
theorem Zx.c2(Z:Zx P w K mg base)(t:TopAt K x st)(ok:fY P w K mg base x x st n [p1,p2] sp)(h:autoParam (∀(kV doc pm:Value) (an:Option Addr) (cdv ct u1 u2:Value),bindArgs (W.fnOf x x (bT st) (bF st) (aK st) .none kV doc pm an cdv ct) ⟨[u1,u2],[]⟩=pure [(p1,u1),(p2,u2)]) Rq2._auto_1):Cl P w K mg base n sp x:=Z.cl t ok fun F=>F.b2 h
theorem Zx.c3(Z:Zx P w K mg base)(t:TopAt K x st)(ok:fY P w K mg base x x st n [p1,p2,p3] sp)(h:autoParam (∀(kV doc pm:Value) (an:Option Addr) (cdv ct u1 u2 u3:Value),bindArgs (W.fnOf x x (bT st) (bF st) (aK st) .none kV doc pm an cdv ct) ⟨[u1,u2,u3],[]⟩=pure [(p1,u1),(p2,u2),(p3,u3)]) Rq2._auto_1):Cl P w K mg base n sp x:=Z.cl t ok fun F=>F.b3 h
theorem Zx.c4(Z:Zx P w K mg base)(t:TopAt K x st)(ok:fY P w K mg base x x st n [p1,p2,p3,p4] sp)(h:autoParam (∀(kV doc pm:Value) (an:Option Addr) (cdv ct u1 u2 u3 u4:Value),bindArgs (W.fnOf x x (bT st) (bF st) (aK st) .none kV doc pm an cdv ct) ⟨[u1,u2,u3,u4],[]⟩=pure [(p1,u1),(p2,u2),(p3,u3),(p4,u4)]) Rq2._auto_1):Cl P w K mg base n sp x:=Z.cl t ok fun F=>F.b4 h
theorem Zx.c5(Z:Zx P w K mg base)(t:TopAt K x st)(ok:fY P w K mg base x x st n [p1,p2,p3,p4,p5] sp)(h:autoParam (∀(kV doc pm:Value) (an:Option Addr) (cdv ct u1 u2 u3 u4 u5:Value),bindArgs (W.fnOf x x (bT st) (bF st) (aK st) .none kV doc pm an cdv ct) ⟨[u1,u2,u3,u4,u5],[]⟩=pure [(p1,u1),(p2,u2),(p3,u3),(p4,u4),(p5,u5)]) Rq2._auto_1):Cl P w K mg base n sp x:=Z.cl t ok fun F=>F.b5 h
theorem okn{q:Str}{k:Nat}{ps:List Str}:fY P w K mg base x q st k ps (fun _ _ _ _=>False):=fun _=>⟨fun _ _ _ _ h=>h.elim,fun _ _ _ _ _ _ _ _ _ _ _ _ _ h=>h.elim⟩
end
section
variable {X:Cx}{x:Str}{p pos pos':Pos}{e:Expr}{es:List Expr}{t:TA}{te:TE}
theorem bS{k:Nat}{sp:Sp}(C:Cl X.prog X.w X.K X.mg X.base k sp x){n:Nat}(hr:dH n X.A)(ha:PA X (e::es) t)(hn:autoParam (k<=n) Rq6._auto_1)(hg:autoParam (Gl X x) Rq0._auto_1)(hdb:autoParam ((x==("__debug__": Str))=false) Rq1._auto_1)(he:autoParam (starEach (e::es) X.env=(false,eval e X.env)::starEach es X.env) Rq0._auto_1)
  (hpl:autoParam ((backTo pos (starEach es X.env)).any (·.1)=false) Rq0._auto_1):PE X (.Call (.Name x p) (e::es) [] pos) (qL sp [] E0 t):=by obtain⟨_,_,_,g,b,k,m⟩:=C;exact aC0 g (hr.mono hn) hg m k b .nil bY0 ha hdb he hpl
theorem eG(i:Nat){bM:List Stmt}{u:TS}(hN:X.N.Nodup)(he:PE X e te)(h2:nL X bM u)(hi:autoParam (X.N[i]?=some x) Rq0._auto_1)(hx:autoParam (Loc X.env.scope x) Rq8._auto_1)(hs:autoParam (swapsWith e (some (.Name x pos')) pos.line X.env=pure false) Rq0._auto_1)
  (hf:autoParam (X.fn x=true\/X.env.scope.names.lookup x=some .local) Rq3._auto_1):nL X (.Assign [.Name x pos'] e pos::bM) (bR8 (aJ6 te (tT i)) u):=aF (fW hN hi hx he hs hf) h2
theorem psz(i:Nat)(hN:X.N.Nodup)(he:PE X e te)(hi:autoParam (X.N[i]?=some x) Rq0._auto_1)(hx:autoParam (Loc X.env.scope x) Rq8._auto_1)(hs:autoParam (swapsWith e (some (.Name x pos')) pos.line X.env=pure false) Rq0._auto_1)
  (hf:autoParam (X.fn x=true\/X.env.scope.names.lookup x=some .local) Rq3._auto_1):PS X (.Assign [.Name x pos'] e pos) (aJ6 te (tT i)):=fW hN hi hx he hs hf
theorem fG(i:Nat)(hN:X.N.Nodup:=by dsimp only[cI];decide)(hi:autoParam (X.N[i]?=some x) Rq0._auto_1)(hx:autoParam (Loc X.env.scope x) Rq8._auto_1)(hf:autoParam (X.fn x=true\/X.env.scope.names.lookup x=some .local) Rq3._auto_1):PG X (.Name x pos) (tT i):=pJ hN hi hx hf
theorem pfr{tg iter:Expr}{body:List Stmt}{wi:TI}{g:TG}{tb:TS}(hi:PI X tg iter wi)(hg:PG X tg g)(hb:nL X body tb)(hp:PassesOwn (model X.prog X.w) X.A X.env X.xe:=by exact jj)(hc:autoParam (X.calm=true) Rq0._auto_1)
  (hs:autoParam (∀x,foldedSetIterable iter X.env x=pure x) Rq4._auto_1):PS X (.For tg iter body [] pos) (bY1 wi g tb):=aK5 hp hc hi hg hb hs
variable {id T:String}{r:List V->Hp->VK->Prop}
theorem jU(hc:eA X (.builtin id) r)(hm:X.mg x=none)(hv:bootBuiltins x=some (.builtin id))(ha:PA X (e::es) t)(hg:autoParam (Gl X x) Rq0._auto_1)(hn:autoParam (x≠"__name__") Rq1._auto_1)(hdb:autoParam ((x==("__debug__": Str))=false) Rq1._auto_1)
  (he:autoParam (starEach (e::es) X.env=(false,eval e X.env)::starEach es X.env) Rq0._auto_1) (hpl:autoParam ((backTo pos (starEach es X.env)).any (·.1)=false) Rq0._auto_1):PE X (.Call (.Name x p) (e::es) [] pos) (tCB r t):=hX hc hg hm hv ha hn hdb he hpl
theorem sH(hc:eA X (.type T) r)(hm:X.mg x=none)(hv:bootBuiltins x=some (.type T))(ha:PA X (e::es) t)(hg:autoParam (Gl X x) Rq0._auto_1)(hn:autoParam (x≠"__name__") Rq1._auto_1)(hdb:autoParam ((x==("__debug__": Str))=false) Rq1._auto_1)
  (he:autoParam (starEach (e::es) X.env=(false,eval e X.env)::starEach es X.env) Rq0._auto_1) (hpl:autoParam ((backTo pos (starEach es X.env)).any (·.1)=false) Rq0._auto_1):PE X (.Call (.Name x p) (e::es) [] pos) (tCB r t):=aI1 hc hg hm hv ha hn hdb he hpl
variable {a b:Expr}{ta tb:TE}
theorem bQ{r:R2}(hr:IxR X r)(ha:PE X a ta)(hb:PE X b tb)(hs:autoParam (aD4 b) Rq10._auto_1):PE X (.Subscript a b pos) (tOp r ta tb):=bX7 hr ha hb hs
theorem dZ{op:CmpOp}{r:R2}(ho:jC X (compareOp op) r)(ha:PE X a ta)(hb:PE X b tb)(hm:autoParam (behindInMarks op b=false) Rq11._auto_1):PT X (.Compare a [op] [b] pos) (aK2 (tOp r ta tb)):=mO ho ha hb hm
theorem nM{op:CmpOp}{r:R2}(ho:jC X (compareOp op) r)(ha:PE X a ta)(hb:PE X b tb)(hm:autoParam (behindInMarks op b=false) Rq11._auto_1):PE X (.Compare a [op] [b] pos) (tOp r ta tb):=bE7 ho ha hb hm
theorem vY(hu:X.A.units+1<cLine)(ho:PE X a ta)(hi:PE X b tb)(hs:autoParam (bI8 b) Rq10._auto_1):PE X (.Subscript a b pos) (bF6 ta tb):=iK hu ho hi hs
theorem pdp{tv:TE}(hu:X.A.units+1<cLine)(ho:PE X a ta)(hi:PE X b tb)(hv:PE X e tv)(hs:autoParam (swapsWith e (some (.Subscript a b pos')) pos.line X.env=pure false) Rq0._auto_1):PS X (.Assign [.Subscript a b pos'] e pos) (bG7 ta tb tv):=pM hu ho hi hv hs
theorem aQ(ha:PE X a ta)(h:autoParam (starEach [a] X.env=[(false,eval a X.env)]) Rq0._auto_1):PA X [a] (pY ta tNil):=aA ha cX h
theorem pgl{v:Addr}(hm:X.mg x=some (.ref v))(hg:autoParam (Gl X x) Rq0._auto_1)(hd:autoParam ((x==("__debug__": Str))=false) Rq1._auto_1):PE X (.Name x pos) (tC (.ref v)):=dM hg hm rfl hd
end
open PySem PySem.Spec PyProof.Rows PySem.W
def Fz(a:Addr)(o:Obj):HO:= .frz o (.ext fun h=>h.get? a=some o)
theorem cA5{P:Program}{w:World}{H:Hp}{h:Heap}{a:Addr}{o:Obj}(e:h.get? a=some o):bU P w H h a (Fz a o):=⟨e,e,⟨_,e⟩,fun _ _ p k=>k _ p⟩
structure xN(H:Hp)(f:Addr)(ar:Arguments)(body:Expr)(sc:Scope)(cl:List (Str×Addr))(qual:Str)(c:Addr):Prop where
 ex:∃(pm ctv:Value) (oc:Obj) (vs:Array Value) (t:Tok),H f=some (Fz f (kla_obj "<lambda>" qual ar body sc cl pm c ctv))/\H c=some (Fz c oc)/\oc.data= .fields vs/\vs[1]?=some (.str qual t)
theorem xN.un{fs ex:List Addr}{H H':Hp}{h h':Heap}{f:Addr}{ar:Arguments}{body:Expr}{sc:Scope}{cl:List (Str×Addr)}{qual:Str}{c:Addr}(L:xN H f ar body sc cl qual c)(u:Un fs ex H H' h h'):xN H' f ar body sc cl qual c:=by
 obtain⟨pm,ctv,oc,vs,t,e1,e2,r⟩:=L.ex;exact⟨pm,ctv,oc,vs,t,u.frzs _ _ _ e1,u.frzs _ _ _ e2,r⟩
structure xV(s:Shared)(fs:List Addr)(H:Hp)(sc:Scope)(cl:List (Str×Addr))(cv:List (Str×V)):Prop where
 inj:∀x y d,cl.lookup x=some d->cl.lookup y=some d->x=y
 at_:∀x d,cl.lookup x=some d->H d=none/\d∉fs/\∃v,s.heap.IsCell d v
 val:∀x v,(x,v)∈cv->∃d u,cl.lookup x=some d/\s.heap.IsCell d (some u)/\bJ v u
 has:∀x,sc.names.lookup x=some .free->∃d,cl.lookup x=some d
structure rD(p1 p2:Str)(cn:List Str)(sc:Scope):Prop where
 kind:sc.kind= .function
 co:sc.isCoroutine=false
 gen:sc.isGenerator=false
 ne:p1≠p2
 l1:sc.names.lookup p1=some .local
 l2:sc.names.lookup p2=some .local
 cap:∀x∈cn,sc.names.lookup x=some .free
 nocell:∀y∈sc.names,y.2≠ .cell
def xI(P:Program)(w:World)(K:W.Frag)(mg:Str->Option Value)(base:Heap)(N:List Str)(qual:Str)(scope:Scope)(f c:Addr)(cl:List (Str×Addr))(A:Around)(outer:List Env)(s:Shared)(H:Hp):Cx where
 prog:=P
 w:=w
 K:=K
 mg:=mg
 base:=base
 A:=A.deeper (envX qual scope s.heap.objs.size f (.ref c) cl)
 N:=N
 s₀:=s
 H₀:=H
 env:=envX qual scope s.heap.objs.size f (.ref c) cl
 outer:=outer
 stack:=envX qual scope s.heap.objs.size f (.ref c) cl::outer
 ex:=[]
 calm:=true
 fn:=fun _=>false
 pn:=[]
 xe:=fun _ _=>False
theorem bA9{P:Program}{w:World}{K:W.Frag}{mg:Str->Option Value}{base:Heap}{k:Nat}{A:Around}{outer:List Env}{s:Shared}{H:Hp}{f c:Addr}{ar:Arguments}{body:Expr}{sc:Scope}{cl:List (Str×Addr)}{cv:List (Str×V)}{qual p1 p2:Str}{a b:V}{us:List Value}{te:TE}{Q:VK}
  (hr:dH (k+1) A) (e0:wX P w K mg base A outer s H) (L:xN H f ar body sc cl qual c) (C:xV s (iR outer) H sc cl cv) (S:rD p1 p2 (cv.map (·.1)) sc) (r:bI [a,b] us)
  (hbi:∀pm ctv u v,bindArgs (kla_fn "<lambda>" qual ar body sc cl pm (.ref c) ctv) ⟨[u,v],[]⟩=pure [(p1,u),(p2,v)])
  (h:PE (xI P w K mg base (p1::p2::cv.map (·.1)) qual sc f c cl A outer s H) body te) (q:te (some a::some b::cv.map (fun p=>some p.2)) H Q) :
  codeAny (model P w) A (.call (.ref f) ⟨us,[]⟩) (CR oX outer P w H s Q E0) s:=by
 obtain⟨u1,u2,rfl,r1,r2⟩:=pS r;obtain⟨pm,ctv,oc,vs,t,hf,hc,hd,hv⟩:=L.ex;have of:=(e0.hok _ _ hf).1;have occ:=(e0.hok _ _ hc).1;have lim:s.heap.NoLimit:=e0.mod.nolimit.keeps fun b o e=>(e0.bs b o e).1
 refine kla_callFunE hr.depth of rfl S.co S.gen rfl ⟨c,oc,vs,t,rfl,occ,hd,hv⟩ ?_;rw[hbi];refine aj (wp S.nocell (fun y hy=>?_) (fun h₁ hns hsb=>?_) S.kind)
 ·simp only[List.mem_cons,List.not_mem_nil,or_false] at hy;rcases hy with rfl|rfl
  ·exact S.l1
  ·exact S.l2
 have hk₁:∀b o,s.heap.get? b=some o->h₁.get? b=some o:=fun b o e=>hsb.extBut b o (bw (ay e)) (ae _ e)
 refine⟨lim.keeps hk₁,?_⟩;show codeAny _ _ (.expr body (envX qual sc s.heap.objs.size f (.ref c) cl)) _ _;refine kla_codeExpr (dm (h [] _ _ H Q ?_ q) (by rintro v s' ⟨x,H',J,rv,z⟩;exact⟨x,H',J.os,J.bare,J.base,J.hok,rv,z⟩) fun _ _ z=>z.elim);have noA:∀b:Addr,b∉(xI P w K mg base (p1::p2::cv.map (·.1)) qual sc f c cl A outer s H).ex:=fun b z=>absurd (show b∈([]:List Addr) from z) (by simp)
 have free:∀y,sc.names.lookup y=some .free->∃d,cl.lookup y=some d:=C.has;refine⟨⟨e0.mod,S.kind,rfl,rfl,ah _,C.inj,fun y hy=>?_,fun y d z _=>(by cases z),fun _=>hr.hd,pp e0.frames,.inr ⟨rfl,rfl⟩,fun b z=>absurd z (noA b),e0.bs,e0.bsz,fun b _ _=>noA b,fun b z=>absurd z (noA b),e0.funs,e0.frf⟩,
  rfl,e0.bare,Un.kept hk₁,⟨_,hns,fun i x v e1 e2 e3=>?_⟩,fun y d e=>?_,e0.hok.fresh (ah _),fun y d e=>(C.at_ y d e).1,fun p hp=>absurd (show p∈([]:List (Addr×Obj)) from hp) (by simp),e0.hok.kept hk₁,?_⟩
 ·have hy:sc.names.lookup y=some .cell\/sc.names.lookup y=some .free:=hy;rcases hy with hy|hy
  ·exact absurd rfl (S.nocell _ (gi hy))
  ·exact free y hy
 ·match i with
  |0 =>
   cases e1
   cases e2
   refine⟨u1,r1,.inl ⟨S.l1,?_⟩⟩;have n:(p1==p2)=false:=by simpa using S.ne
   simp[List.lookup_cons,n]
  |1 =>
   cases e1
   cases e2
   refine⟨u2,r2,.inl ⟨S.l2,?_⟩⟩;simp[List.lookup_cons]
  |i+2 =>
   have e1:(cv.map (·.1))[i]?=some x:=e1;have e2:(cv.map (fun p=>some p.2))[i]?=some (some v):=e2;rw[cq] at e1 e2
   cases g:cv[i]? with
   |none=>rw[g] at e1;cases e1
   |some p =>
    rw[g] at e1 e2
    cases e1
    cases e2
    obtain⟨d,u,l,ic,rv⟩:=C.val p.1 p.2 (bq g);exact⟨u,rv,.inr ⟨.inr (S.cap _ (jn (bq g))),d,l,ic.keeps hk₁⟩⟩
 ·obtain⟨v,ic⟩:=(C.at_ y d e).2.2;exact⟨v,ic.keeps hk₁⟩
 ·simp[xI]
section
variable {X:Cx}{i k:Nat}{x:Str}{f c:Addr}{ar:Arguments}{body:Expr}{sc:Scope}{cl:List (Str×Addr)}{cv:List (Str×V)}{qual p1 p2:Str}{p pos:Pos}{e:Expr}{es:List Expr}{t:TA}{te:TE}
theorem xV.on{s:Shared}{σ:St}{H:Hp}{pins:List (Addr×Obj)}(C:xV X.s₀ X.fs X.H₀ sc cl cv)(hx:X.ex=[])(I:aU X pins σ H s):xV s (iR X.stack) H sc cl cv:=by
 have kp:∀d o,X.s₀.heap.get? d=some o->X.H₀ d=none->d∉X.fs->s.heap.get? d=some o:=fun d o e n z=>I.base.keep d o e n z (by rw[hx];simp)
 have ic:∀d v,X.H₀ d=none->d∉X.fs->X.s₀.heap.IsCell d v->s.heap.IsCell d v:=fun d v n z ⟨o,e,q⟩=>⟨o,kp d o e n z,q⟩
 refine⟨C.inj,fun y d e=>?_,fun y v hm=>?_,C.has⟩
 ·obtain⟨n,z,v,hc⟩:=C.at_ y d e;have hc':=hc;obtain⟨o,g,q⟩:=hc';refine⟨I.base.free d o g n (by rw[hx];simp),fun m=>?_,v,ic d v n z hc⟩;rcases bu.mp (I.stkSub d m) with w|w
  ·have:=ay g;rw[w] at this;exact absurd this (mh.mpr I.ok.above)
  ·exact z w
 ·obtain⟨d,u,l,hc,rv⟩:=C.val y v hm;obtain⟨n,z,_⟩:=C.at_ y d l;exact⟨d,u,l,ic d _ n z hc,rv⟩
def aR0(i:Nat)(f:Addr)(cv:List (Str×V))(te:TE)(t:TA):TE:=fun σ H Q=>σ[i]?=some (some (.ref f))/\t σ H fun vs H1=>∃a b,vs=[a,b]/\te (some a::some b::cv.map (fun p=>some p.2)) H1 Q
theorem bB2{f:Addr}{o:Obj}{fd:FuncData}(hd:o.data= .func fd)(h:Heap)(e:h.get? f=some o){M:Model}:∃k,(k=Keeper.frame\/k=Keeper.machine\/k=Keeper.boundFrame)/\Looks M h (keeperOf (.ref f)) k:=by
 obtain⟨a,b,d,sl⟩:=o
 cases hd
 exact⟨.frame,.inl rfl,(Looks.ld (part:=none) e).andThen .now⟩
theorem aU2(L:xN X.H₀ f ar body sc cl qual c)(C:xV X.s₀ X.fs X.H₀ sc cl cv)(S:rD p1 p2 (cv.map (·.1)) sc)(hr:dH (k+1) X.A)
  (hbi:∀pm ctv u v,bindArgs (kla_fn "<lambda>" qual ar body sc cl pm (.ref c) ctv) ⟨[u,v],[]⟩=pure [(p1,u),(p2,v)])
  (h:∀s H,PE (xI X.prog X.w X.K X.mg X.base (p1::p2::cv.map (·.1)) qual sc f c cl X.A X.stack s H) body te) (ha:PA X (e::es) t) (hi:autoParam (X.N[i]?=some x) Rq0._auto_1) (hl:autoParam (Vis X.env.scope x) Rq7._auto_1) (hx:autoParam (X.ex=[]) Rq0._auto_1)
  (hdb:autoParam ((x==("__debug__": Str))=false) Rq1._auto_1) (hcd:autoParam ((x==("__classdict__": Str))=false) Rq1._auto_1) (he:autoParam (starEach (e::es) X.env=(false,eval e X.env)::starEach es X.env) Rq0._auto_1) (hpl:autoParam ((backTo pos (starEach es X.env)).any (·.1)=false) Rq0._auto_1) :
  PE X (.Call (.Name x p) (e::es) [] pos) (aR0 i f cv te t):=by
 intro pins s σ H Q I ⟨hf,q⟩;refine ge ?_;refine dm (aS0 (pos:=p) hi hl hdb hcd pins s σ H (fun v H'=>v= .ref f/\H'=H) I ⟨_,hf,rfl,rfl⟩) (fun uf s1 ⟨v,H1,I1,rv,e1,e2⟩=>?_) fun _ _ z=>z
 subst e1;subst e2;obtain rfl:uf=Value.ref f:=rv;obtain⟨pm,ctv,oc,vs',tq,hf0,r0⟩:=L.ex;have hh:wpAny (model X.prog X.w) X.A (spliced (backTo pos (starEach (e::es) X.env))) (fun us s2=>s2.heap.get? f=some (kla_obj "<lambda>" qual ar body sc cl pm c ctv)/\wpAny (model X.prog X.w) X.A (call (.ref f) ([]++us)) (EP X pins σ Q) X.xe s2) X.xe s1:=by
  refine cK (ha pos pins s1 σ _ _ I1 q) ?_;rintro us s2 ⟨vs,H2,I2,r,a,b,ev,z⟩
  subst ev;have L2:=L.un I2.base;have g2:H2 f=some (Fz f (kla_obj "<lambda>" qual ar body sc cl pm c ctv)):=I2.base.frzs _ _ _ hf0;refine⟨(I2.hok _ _ g2).1,?_⟩;refine oh (km (bA9 hr I2.env0 L2 (C.on hx I2) S r hbi (h s2 H2) z) fun r s' hq=>?_)
  cases r with
  |error e=>exact hq.elim
  |ok fl =>
   cases fl with
   |ret u=>exact I2.after hq
   |next=>exact False.elim hq
   |brk=>exact False.elim hq
   |cont=>exact False.elim hq
 rw[he] at hh ⊢;exact callWith_of (P:=fun h=>h.get? f=some (kla_obj "<lambda>" qual ar body sc cl pm c ctv)) (by show((false || (backTo pos (starEach es X.env)).any (·.1)) || false)=false;rw[hpl];rfl) (fun h g=>bB2 rfl h g) (PySem.Calls.evalArgs_plain hh)
end
structure yI(base:Heap)(mg:Str->Option Value)(c P:Addr):Prop where
 hd:CodeHd base c P
 bi:∃bm o,mg "__builtins__"=some (.ref bm)/\bm≠builtinsNs/\base.get? bm=some o/\o.cls= .type "module"/\o.dict=some builtinsNs/\o.data= .plain
def lL(H:Hp)(P:Addr)(pos:Pos)(q:Str):Prop:=H P=some (.tbl #[])\/∃(c:Addr) (oc:Obj) (vs:Array Value) (t:Tok),H P=some (.tbl #[rawInt pos.line,rawInt pos.col,.ref c])/\H c=some (Fz c oc)/\oc.data= .fields vs/\vs[1]?=some (.str q t)
def jF(P:Addr)(H H':Hp):Prop:=∀a o,H a=some o->a≠P->H' a=some o
theorem jF.trans{P:Addr}{H H1 H2:Hp}(a:jF P H H1)(b:jF P H1 H2):jF P H H2:=fun c o e n=>b c o (a c o e n) n
theorem jF.of{P:Addr}{H H':Hp}(s:bD H H'):jF P H H':=fun a o e _=>s a o e
theorem lL.is{H:Hp}{P:Addr}{pos:Pos}{q:Str}(h:lL H P pos q):∃ps,H P=some (.tbl ps):=by
 rcases h with h|⟨_,_,_,_,h,_⟩<;>exact⟨_,h⟩
theorem lL.same{H H':Hp}{P:Addr}{pos:Pos}{q:Str}(h:lL H P pos q)(s:bD H H'):lL H' P pos q:=by
 rcases h with h|⟨c,oc,vs,t,h1,h2,r⟩
 ·exact .inl (s _ _ h)
 ·exact .inr ⟨c,oc,vs,t,s _ _ h1,s _ _ h2,r⟩
theorem jF.ts{P:Addr}{H H':Hp}{ps:Array Value}(h:jF P H H')(e:H P=some (.tbl ps)):∀(p:Addr) (xs:List V),H p=some (.tup xs)->H' p=some (.tup xs):=fun p xs z=>h p _ z (fun y=>by rw[y,e] at z;cases z)
def cB9(P:Addr)(pos:Pos)(ar:Arguments)(body:Expr)(sc:Scope)(cl:List (Str×Addr))(q:Str):TE:=fun _ H Q=>lL H P pos q /\
 ∀f c H',lL H' P pos q->jF P H H'->H f=none->xN H' f ar body sc cl q c->Q (.ref f) H'
section
variable {X:Cx}{c P:Addr}{ar:Arguments}{body:Expr}{sc:Scope}{pos:Pos}
theorem aT3{pins:List (Addr×Obj)}{σ:St}{H:Hp}{s:Shared}{ps ps':Array Value}{news:List (Addr×Obj)}{h':Heap}{tk:Tok}(I:aU X pins σ H s)(hP:H P=some (.tbl ps))(hx:Heap.ExtBut P s.heap h')(hps:h'.get? P=some (tabObj (ps++ps')))
  (hn:∀p∈news,s.heap.objs.size<=p.1/\h'.get? p.1=some p.2) :
  ∃H',aU X pins σ H' { s with heap:=h',toks:=tk }/\jF P H H'/\H' P=some (.tbl (ps++ps'))/\∀p∈news,H' p.1=some (Fz p.1 p.2):=by
 have nP:∀b,H b=none->b≠P:=fun b n z=>by rw[z,hP] at n;cases n
 have fr:∀b o,H b=some o->∀p∈news,b≠p.1:=fun b o e p hp z=>by rw[z,I.hok.fresh (hn p hp).1] at e;cases e
 have ltf:∀b o,s.heap.get? b=some o->∀p∈news,b≠p.1:=fun b o e p hp z=>by
  have:=ay e;rw[z] at this;exact absurd this (mh.mpr (hn p hp).1)
 let H':Hp:=fun b=>if b=P then some (.tbl (ps++ps')) else if (news.find? (fun p=>p.1==b)).isSome then (news.find? (fun p=>p.1==b)).map (fun p=>Fz p.1 p.2) else H b
 have hP':H' P=some (.tbl (ps++ps')):=bg rfl;have old:∀b,b≠P->(∀p∈news,b≠p.1)->H' b=H b:=fun b n k=>by
  show(if b=P then _ else _)=_;rw[av n,av];rw[oq];rintro⟨p,hp,z⟩;exact k p hp (by simpa using Eq.symm (by simpa using z))
 have newP:∀p∈news,p.1≠P:=fun p hp z=>by
  have:=I.hok.lt hP;rw[<-z] at this;exact absurd this (mh.mpr (hn p hp).1)
 have new':∀p∈news,∃o,h'.get? p.1=some o/\H' p.1=some (Fz p.1 o)/\o=p.2:=fun p hp=>by
  have hs:(news.find? (fun q=>q.1==p.1)).isSome=true:=by
   rw[oq];exact⟨p,hp,by simp⟩
  obtain⟨q,hq⟩:=jh.mp hs;have hq1:q.1=p.1:=by simpa using List.find?_some hq
  have hq2:=List.mem_of_find?_eq_some hq;have g1:=(hn p hp).2;have g2:=(hn q hq2).2;rw[hq1,g1] at g2;have z:=dg g2;refine⟨p.2,g1,?_,rfl⟩;show(if p.1=P then _ else _)=_;rw[av (newP p hp),bg hs,hq];show some (Fz q.1 q.2)=_;rw[hq1,z]
 have off:jF P H H':=fun b o e n=>by rw[old b n (fr b o e)];exact e
 have kp:∀b o,b≠P->s.heap.get? b=some o->h'.get? b=some o:=fun b o n e=>hx b o n e
 refine⟨H',I.un ⟨fun b o e n _ _=>kp b o (nP b n) e,fun b o e n _ _=>⟨o.slots,kp b o (nP b n) e⟩,fun b o e n _=>by rw[old b (nP b n) (ltf b o e)];exact n,fun b o e _=>?_,fun b xs e=>off b _ e (fun z=>by rw[z,hP] at e;cases e),fun b o u e=>off b _ e (fun z=>by rw[z,hP] at e;cases e),fun b qs e=>?_⟩ (fun b u e=>?_),off,hP',fun p hp=>?_⟩
 ·by_cases z:b=P
  ·rw[z];exact⟨_,hps⟩
  ·exact⟨o,kp b o z e⟩
 ·by_cases z:b=P
  ·subst z;rw[hP] at e
   cases e
   exact⟨ps',hP'⟩
  ·exact⟨#[],by rw[off b _ e z];simp⟩
 ·by_cases z:b=P
  ·subst z;rw[hP'] at e
   cases e
   exact hps
  ·by_cases hm:∃p∈news,b=p.1
   ·obtain⟨p,hp,rfl⟩:=hm;obtain⟨o,g,hh,_⟩:=new' p hp;rw[hh] at e
    cases e
    exact cA5 g
   ·have e':H b=some u:=by rw[<-old b z (fun p hp w=>hm ⟨p,hp,w⟩)];exact e
    refine(I.hok b u e').stay (fun b' u' w g=>kp b' u' (fun y=>?_) g) (fun b' w=>off b' _ w (fun y=>by rw[y,hP] at w;cases w)) fun b' xs w=>off b' _ w (fun y=>by rw[y,hP] at w;cases w)
    rcases w with rfl|w
    ·exact z y
    ·rw[y,hP] at w;cases w
 ·obtain⟨o,g,hh,rfl⟩:=new' p hp;exact hh
theorem bK6(B:yI X.base X.mg c P)(hc:X.env.code= .ref c)(hfr:∀y∈sc.names,y.2= .free->X.env.kindOf y.1=some .cell\/X.env.kindOf y.1=some .free)(hdf:autoParam (defaultsOf ar X.env=([],[])) Rq0._auto_1) :
  PE X (.Lambda ar body sc pos) (cB9 P pos ar body sc (jS X.env sc.names) (X.env.qual++"<lambda>")):=by
 intro pins s σ H Q I ⟨hT,q⟩;have hge:=I.ok.glob;have hg:s.heap.Ns mainGlobals X.mg:=I.mod.glob.keeps I.bk;have C:CodeHd s.heap c P:=B.hd.keeps I.bk;obtain⟨ps,hP⟩:=hT.is;have oP:s.heap.get? P=some (tabObj ps):=I.hok P _ hP;have nb:∀b o,X.base.get? b=some o->b≠P:=fun b o e z=>by
  have:=(I.bs b o e).2;rw[z,hP] at this
  cases this
 obtain⟨bm,ob,b1,b2,b3,b4,b5,b6⟩:=B.bi;obtain⟨og,eg,epg,g1,g2,_⟩:=I.mod.glob;have hgP:mainGlobals≠P:=nb _ _ g1;have hbG:bm≠mainGlobals:=fun z=>by
  rw[z,g1] at b3
  cases b3
  rw[g2] at b6
  cases b6
 have HB:s.heap.BuiltinsAt X.mg P:=⟨bm,ob,b1,b2,hbG,nb _ _ b3,I.bk _ _ b3,b4,b5,b6⟩
 have hcl:closureFor sc X.env=pure (jS X.env sc.names):=mC fun y hy e=>I.ok.has y.1 (hfr y hy e)
 refine kla_eval hdf ?_;rcases hT with h0|⟨c',oc,vs,t,h0,h1,h2,h3⟩
 ·rw[h0] at hP
  cases hP
  refine kla_makeFunction (mg:=X.mg) hcl hge hg hc C oP trivial rfl hgP HB fun c' ctv h' tk hx hge' hlt hrec htb=>?_
  obtain⟨c₂,oc,vs,t,e2,hoc,hd,hv⟩:=hrec
  cases e2
  have hx2:Heap.ExtBut P s.heap (h'.push (kla_obj "<lambda>" (X.env.qual++"<lambda>") ar body sc (jS X.env sc.names) ((X.mg "__name__").getD .none) c' ctv)):=fun b o n e=>ae _ (hx b o n e)
  obtain⟨H',I',off,hP',nw⟩:=aT3 (ps':= #[rawInt pos.line,rawInt pos.col,.ref c']) (news:=[(h'.objs.size,kla_obj "<lambda>" (X.env.qual++"<lambda>") ar body sc (jS X.env sc.names) ((X.mg "__name__").getD .none) c' ctv),(c',oc)]) (tk:=tk) I h0 hx2 (ae _ htb) (fun p hp=>by
   simp only[List.mem_cons,List.not_mem_nil,or_false] at hp;rcases hp with rfl|rfl
   ·exact⟨cp hge' (cj hlt),bb _ rfl⟩
   ·exact⟨hge',ae _ hoc⟩)
  have n1:=nw _ aq;have n2:=nw _ (ak _ aq);refine⟨.ref h'.objs.size,H',I',rfl,q _ c' H' (.inr ⟨c',oc,vs,t,?_,n2,hd,hv⟩) off (I.hok.fresh (cp hge' (cj hlt))) ⟨_,ctv,oc,vs,t,n1,n2,hd,hv⟩⟩;rw[hP'];simp
 ·rw[h0] at hP
  cases hP
  refine kla_makeFunctionHit (mg:=X.mg) hcl hge hg hc C oP trivial (cv:= .ref c') ?_ HB fun ctv h' tk hk hsz=>?_
  ·simp[codeAmong,rawInt]
  have hx2:Heap.ExtBut P s.heap (h'.push (kla_obj "<lambda>" (X.env.qual++"<lambda>") ar body sc (jS X.env sc.names) ((X.mg "__name__").getD .none) c' ctv)):=fun b o n e=>ae _ (hk b o e)
  obtain⟨H',I',off,hP',nw⟩:=aT3 (ps':= #[]) (news:=[(h'.objs.size,kla_obj "<lambda>" (X.env.qual++"<lambda>") ar body sc (jS X.env sc.names) ((X.mg "__name__").getD .none) c' ctv)]) (tk:=tk) I h0 hx2 (ae _ (by rw[yh];exact hk _ _ oP)) (fun p hp=>by
   simp only[List.mem_cons,List.not_mem_nil,or_false] at hp
   cases hp
   exact⟨hsz,bb _ rfl⟩)
  have n1:=nw _ aq;have nc:c'≠P:=fun z=>by rw[z,h0] at h1;cases h1
  have n2:=off _ _ h1 nc;refine⟨.ref h'.objs.size,H',I',rfl,q _ c' H' (.inr ⟨c',oc,vs,t,?_,n2,h2,h3⟩) off (I.hok.fresh hsz) ⟨_,ctv,oc,vs,t,n1,n2,h2,h3⟩⟩;rw[hP',yh]
end
section
variable {P:Program}{w:World}{K:W.Frag}{mg:Str->Option Value}{base:Heap}
structure wH(P:Program)(w:World)(K:W.Frag)(mg:Str->Option Value)(base:Heap)(k:Nat) where
 ar:Arguments
 body:Expr
 sc:Scope
 p1:Str
 p2:Str
 cn:List Str
 te:TE
 S:rD p1 p2 cn sc
 hb:∀(qual:Str) (cl:List (Str×Addr)) (pm ctv:Value) (c:Addr) (u v:Value),bindArgs (kla_fn "<lambda>" qual ar body sc cl pm (.ref c) ctv) ⟨[u,v],[]⟩=pure [(p1,u),(p2,v)]
 h:∀(qual:Str) (f c:Addr) (cl:List (Str×Addr)) (A:Around) (outer:List Env) (s:Shared) (H:Hp),dH k (A.deeper (envX qual sc s.heap.objs.size f (.ref c) cl))->PE (xI P w K mg base (p1::p2::cn) qual sc f c cl A outer s H) body te
def aE2{k:Nat}(Λ:wH P w K mg base k)(cv:List V)(s:Shared)(fs:List Addr)(H:Hp)(f:Addr):Prop:=
 ∃(cl:List (Str×Addr)) (qual:Str) (c:Addr) (cw:List (Str×V)),xN H f Λ.ar Λ.body Λ.sc cl qual c/\xV s fs H Λ.sc cl cw/\cw.map (·.1)=Λ.cn/\cw.map (·.2)=cv
structure bH3(P:Program)(w:World)(K:W.Frag)(mg:Str->Option Value)(base:Heap)(k:Nat)(f:Addr)(fd:FuncData)(ps:List Str)(Z:Shared->List Addr->Hp->Addr->Prop)(sp:Sp):Prop where
 len:∀vs H Q E,sp vs H Q E->vs.length=ps.length
 run:∀(A:Around) (outer:List Env) (s:Shared) (H:Hp) (args:Args) (us:List Value) (vs:List V) (g:Addr) (Q:VK) (E:XK),dH k A->wX P w K mg base A outer s H->BindsTo s fd args (ps.zip us)->bI vs us->vs[1]?=some (.ref g)->Z s (iR outer) H g->sp vs H Q E ->
  codeAny (model P w) A (.call (.ref f) args) (CR oX outer P w H s Q E) s
def bP4(P:Program)(w:World)(K:W.Frag)(mg:Str->Option Value)(base:Heap)(x q:Str)(st:Stmt)(n k:Nat)(ps:List Str)(sp:TE->List V->Sp):Prop:=
 ∀{f:Addr}{d:FuncData},mE K x q st f d->∀(Λ:wH P w K mg base k) (cv:List V),bH3 P w K mg base n f d ps (aE2 Λ cv) (sp Λ.te cv)
theorem cD8{x q:Str}{st:Stmt}{k j:Nat}{ps:List Str}{sp:TE->List V->Sp}(N:List Str)
  (hb:∀{f:Addr}{cdv:Value}{A:Around}{outer:List Env}{s:Shared}{vs:List V}{g:Addr}{E:XK}(Λ:wH P w K mg base j) (cv:List V) (H:Hp) (Q:VK),N.Nodup->dH k (A.deeper (envOfC q (aK st) s.heap.objs.size f cdv))->vs[1]?=some (.ref g)->aE2 Λ cv s (iR outer) H g->sp Λ.te cv vs H Q E ->
   ∃t,nL (iT oX P w K mg base N q (aK st) f cdv A outer s H E).nox (bF st) t/\t { nx:=fun _ H'=>Q .non H',rt:=Q } (eS N vs) H)
  (len:∀te cv vs H Q E,sp te cv vs H Q E->vs.length=ps.length)
  (S:autoParam (dY N ps (aK st)) Rq5._auto_1):bP4 P w K mg base x q st (k+1) j ps sp:=by
 intro f d F Λ cv;obtain⟨oc,od,kV,doc,pm,an,cdv,ct,osl,rfl,lk,hcd⟩:=F.ex;refine⟨len _ _,fun A outer s H args us vs g Q E hr e0 hb' r hg hz hsp=>?_⟩;have hl:=len _ _ _ _ _ _ hsp;have KX:K.In s.heap:=e0.mod.kin.keeps fun b o e=>(e0.bs b o e).1
 have lim:s.heap.NoLimit:=e0.mod.nolimit.keeps fun b o e=>(e0.bs b o e).1
 have hkind:∀y∈ps.zip us,(aK st).names.lookup y.1=some .local\/((aK st).names.lookup y.1=some .cell/\((cellsFrom (s.heap.objs.size+1) (aK st).names []).lookup y.1).isSome=true):=fun⟨n,v⟩ hy=>by
  rcases S.par n (jr hy).1 with q|q
  ·exact .inl q
  ·exact .inr ⟨q,ut _ _ _ (.inl q)⟩
 refine lr hr.depth (KX _ _ lk) rfl S.co S.gen rfl (yi KX hcd) (hb' _ _ _ _ ?_);refine jy S.kind hkind fun env he s1 x=>?_
 subst he;refine⟨lim.keeps x.toInCall.keep,ua ?_⟩;obtain⟨t,ht,hq⟩:=hb Λ cv H Q S.nd (hr.deeper _) hg hz hsp;have I:aU (iT oX P w K mg base N q (aK st) f cdv A outer s H E) [] (eS N vs) H s1:=lC S hr.hd e0 hl r x;refine dm (ht.nox [] s1 (eS N vs) H _ I hq) (fun fl s' hs=>?_) fun e s' hs=>hs
 have fin:∀{σ':St}{H':Hp}{v:V}{u:Value},aU (iT oX P w K mg base N q (aK st) f cdv A outer s H E) [] σ' H' s'->bJ v u->Q v H'->CE outer P w H s Q u s':=
  fun {σ' H' v u} J rv q=>⟨v,H',J.os,J.bare,J.base,J.hok,rv,q⟩
 cases fl with
 |ret u =>
  obtain⟨v,σ',H',J,rv,q⟩:=hs;exact fin J rv q
 |next =>
  obtain⟨σ',H',J,q⟩:=hs;exact fin (v:=V.non) (u:=Value.none) J rfl q
 |brk =>
  obtain⟨_,_,_,q⟩:=hs;exact False.elim q
 |cont =>
  obtain⟨_,_,_,q⟩:=hs;exact False.elim q
def ClZ(P:Program)(w:World)(K:W.Frag)(mg:Str->Option Value)(base:Heap)(n k:Nat)(sp:TE->List V->Sp)(x:Str):Prop:=∃f d ps,(∀(Λ:wH P w K mg base k) (cv:List V),bH3 P w K mg base n f d ps (aE2 Λ cv) (sp Λ.te cv))/\gM K d ps []/\W.keepIn K (.ref f)=true/\mg x=some (.ref f)
theorem Zx.z2{x p1 p2:Str}{st:Stmt}{n k:Nat}{sp:TE->List V->Sp}(Z:Zx P w K mg base)(t:TopAt K x st)(ok:bP4 P w K mg base x x st n k [p1,p2] sp)(h:autoParam (∀(kV doc pm:Value) (an:Option Addr) (cdv ct u1 u2:Value),bindArgs (W.fnOf x x (bT st) (bF st) (aK st) .none kV doc pm an cdv ct) ⟨[u1,u2],[]⟩=pure [(p1,u1),(p2,u2)]) Rq2._auto_1):ClZ P w K mg base n k sp x:=by
 obtain⟨_,a,t⟩:=t;obtain⟨_,F⟩:=t.fn;exact⟨_,_,_,ok F,F.b2 h,F.kp,Z.ns _ _ a⟩
def bM7(P:Program)(w:World)(K:W.Frag)(mg:Str->Option Value)(base:Heap)(x q:Str)(st:Stmt)(n:Nat)(ps:List Str)(c:Addr)(sp:Sp):Prop:=∀{f:Addr}{d:FuncData},mE K x q st f d->d.code= .ref c->kF P w K mg base oX n f d ps sp
theorem cB2{x q:Str}{st:Stmt}{k:Nat}{ps:List Str}{sp:Sp}{c:Addr}(N:List Str)
  (hb:∀{f:Addr}{A:Around}{outer:List Env}{s:Shared}{vs:List V}{E:XK}(H:Hp) (Q:VK),N.Nodup->dH k (A.deeper (envOfC q (aK st) s.heap.objs.size f (.ref c)))->sp vs H Q E ->
   ∃t,nL (iT oX P w K mg base N q (aK st) f (.ref c) A outer s H E).nox (bF st) t/\t { nx:=fun _ H'=>Q .non H',rt:=Q } (eS N vs) H)
  (len:∀vs H Q E,sp vs H Q E->vs.length=ps.length)
  (S:autoParam (dY N ps (aK st)) Rq5._auto_1):bM7 P w K mg base x q st (k+1) ps c sp:=by
 intro f d F hc;obtain⟨oc,od,kV,doc,pm,an,cdv,ct,osl,rfl,lk,hcd⟩:=F.ex;have hc:cdv= .ref c:=hc;subst hc;refine aX9 lk hcd S len fun A outer s H vs Q E hr hsp=>?_
 obtain⟨t,h,q⟩:=hb H Q S.nd hr hsp;exact⟨t,h.nox,q⟩
def TopAtT(K:W.Frag)(x:Str)(st:Stmt)(c:Addr):Prop:=∃f oc od kV dc pm an ct sl,W.nsIn K mainGlobals x=some (some (.ref f))/\K.lookup f=some ⟨oc,od,.func (W.fnOf x x (bT st) (bF st) (aK st) .none kV dc pm an (.ref c) ct),sl⟩/\W.codeIn K (.ref c) x=true/\W.keepIn K (.ref f)=true
theorem TopAtT.of{x:Str}{st:Stmt}{f c:Addr}{oc:Value}{od:Option Addr}{kV dc pm:Value}{an:Option Addr}{ct:Value}{sl:Array (Option Value)}(a:W.nsIn K mainGlobals x=some (some (.ref f)))(l:K.lookup f=some ⟨oc,od,.func (W.fnOf x x (bT st) (bF st) (aK st) .none kV dc pm an (.ref c) ct),sl⟩)(c':W.codeIn K (.ref c) x=true)(k:W.keepIn K (.ref f)=true):TopAtT K x st c:=⟨f,oc,od,kV,dc,pm,an,ct,sl,a,l,c',k⟩
theorem Zx.t2{x p1 p2:Str}{st:Stmt}{n:Nat}{sp:Sp}{c:Addr}(Z:Zx P w K mg base)(t:TopAtT K x st c)(ok:bM7 P w K mg base x x st n [p1,p2] c sp)(h:autoParam (∀(kV doc pm:Value) (an:Option Addr) (cdv ct u1 u2:Value),bindArgs (W.fnOf x x (bT st) (bF st) (aK st) .none kV doc pm an cdv ct) ⟨[u1,u2],[]⟩=pure [(p1,u1),(p2,u2)]) Rq2._auto_1):Cl P w K mg base n sp x:=by
 obtain⟨f,oc,od,kV,dc,pm,an,ct,sl,a,l,c',k⟩:=t;have F:=aA2 l c' k;exact⟨_,_,_,ok F rfl,F.b2 h,F.kp,Z.ns _ _ a⟩
end
section
variable {X:Cx}{x:Str}{p pos:Pos}{e:Expr}{es:List Expr}{t:TA}
theorem aU.lamC{s:Shared}{σ:St}{H:Hp}{pins:List (Addr×Obj)}{sc:Scope}{cw:List (Str×V)}(I:aU X pins σ H s)(hfn:X.fn=fun _=>true)(hfr:∀y∈sc.names,y.2= .free->X.env.kindOf y.1=some .cell)(hcap:∀y∈cw,sc.names.lookup y.1=some .free)
  (hv:∀y∈cw,∃j:Nat,X.N[j]?=some y.1/\σ[j]?=some (some y.2)):xV s (iR X.stack) H sc (jS X.env sc.names) cw:=by
 have hs:∀y∈sc.names,y.2= .free->∃c,X.env.cells.lookup y.1=some c:=fun y hy e=>I.ok.has y.1 (.inl (hfr y hy e))
 have g:∀z d,(jS X.env sc.names).lookup z=some d->X.env.cells.lookup z=some d:=fun z d h=>by
  rcases aA4 sc.names [] hs h with q|q
  ·exact absurd q (by simp)
  ·exact q
 refine⟨fun a b d h1 h2=>I.ok.inj a b d (g _ _ h1) (g _ _ h2),fun a d h=>⟨I.freeC a d (g _ _ h),fun m=>?_,I.cell a d (g _ _ h)⟩,fun a v hm=>?_,fun a h=>qO sc.names [] (.inl (gi h))⟩
 ·rcases bu.mp (I.stkSub d m) with z|z
  ·exact I.cne a d (g _ _ h) z
  ·obtain⟨_,o,ho,_⟩:=I.ok.funs.mem z;exact absurd (ay ho) (mh.mpr (I.ok.cab a d (by rw[hfn]) (g _ _ h)))
 ·have hf:=hcap _ hm;obtain⟨j,h1,h2⟩:=hv _ hm;have hm':=gi hf;have hk:=hfr _ hm' rfl;obtain⟨m,_,hl⟩:=I.loc;obtain⟨u,r,l⟩:=hl j a v h1 h2 (.inr (.inl hk));obtain⟨d,hd⟩:=qO (env:=X.env) (x:=a) sc.names [] (.inl hm');have hd2:=g _ _ hd;rcases l with⟨k,_⟩|⟨_,c,e,ic⟩
  ·have:=hk.symm.trans k
   cases this
  ·rw[hd2] at e
   cases e
   exact⟨d,u,hd,ic,r⟩
def bH9{P:Program}{w:World}{K:W.Frag}{mg:Str->Option Value}{base:Heap}{k:Nat}(N:List Str)(cl:List (Str×Addr))(Λ:wH P w K mg base k)(sp:TE->List V->Sp)(t:TA):TE:=fun σ H Q=>t σ H fun vs H1=>∃(f c:Addr) (q:Str) (cw:List (Str×V)),vs[1]?=some (.ref f)/\xN H1 f Λ.ar Λ.body Λ.sc cl q c/\cw.map (·.1)=Λ.cn/\(∀y∈cw,∃j:Nat,N[j]?=some y.1/\σ[j]?=some (some y.2))/\sp Λ.te (cw.map (·.2)) vs H1 Q E0
theorem cB1{k j n:Nat}{sp:TE->List V->Sp}(C:ClZ X.prog X.w X.K X.mg X.base k j sp x)(Λ:wH X.prog X.w X.K X.mg X.base j)(hr:dH n X.A)(ha:PA X (e::es) t)(hfr:∀y∈Λ.sc.names,y.2= .free->X.env.kindOf y.1=some .cell)(hfn:autoParam (X.fn=(fun _=>true)) Rq0._auto_1)(hn:autoParam (k<=n) Rq6._auto_1)(hg:autoParam (Gl X x) Rq0._auto_1)(hdb:autoParam ((x==("__debug__": Str))=false) Rq1._auto_1)
  (he:autoParam (starEach (e::es) X.env=(false,eval e X.env)::starEach es X.env) Rq0._auto_1) (hpl:autoParam ((backTo pos (starEach es X.env)).any (·.1)=false) Rq0._auto_1) :
  PE X (.Call (.Name x p) (e::es) [] pos) (bH9 X.N (jS X.env Λ.sc.names) Λ sp t):=by
 intro pins s σ H Q I h;obtain⟨f,d,ps,F,b,kp,m⟩:=C;refine ge (mM I hg m ?_ hdb);refine W.callWith_K (h₀:=X.base) I.ok.mod.kin kp (cK (ha pos pins s σ H _ I h) ?_) he hpl;rintro us s1 ⟨vs,H1,I1,r,g,c,q,cw,h1,h2,h3,h4,h5⟩;refine⟨I1.kIn,?_⟩;have hl:(us++[]).length=ps.length:=by rw[gz, <-r.length];exact(F Λ _).len _ _ _ _ h5
 have bd:=b s1 us I1.kIn hl;rw[gz] at bd;have hcap:∀y∈cw,Λ.sc.names.lookup y.1=some .free:=fun y hy=>Λ.S.cap _ (by rw[<-h3];exact jn hy)
 refine oh (km ((F Λ _).run X.A X.stack s1 H1 ⟨us,[]⟩ us vs g Q E0 (hr.mono hn) I1.env0 bd r h1 ⟨_,q,c,cw,h2,I1.lamC hfn hfr hcap h4,h3,rfl⟩ h5) fun r s' hq=>?_)
 cases r with
 |error e=>exact hq.elim
 |ok fl =>
  cases fl with
  |ret u=>exact I1.after hq
  |next=>exact False.elim hq
  |brk=>exact False.elim hq
  |cont=>exact False.elim hq
theorem bV2{k j:Nat}{i:Nat}{f:Addr}{cv:List V}(Λ:wH X.prog X.w X.K X.mg X.base j)(L:aE2 Λ cv X.s₀ X.fs X.H₀ f)(hr:dH (k+1) X.A)(ha:PA X (e::es) t)(hj:autoParam (j<=k) Rq6._auto_1)(hi:autoParam (X.N[i]?=some x) Rq0._auto_1)(hl:autoParam (Vis X.env.scope x) Rq7._auto_1)(hx:autoParam (X.ex=[]) Rq0._auto_1)
  (hdb:autoParam ((x==("__debug__": Str))=false) Rq1._auto_1) (hcd:autoParam ((x==("__classdict__": Str))=false) Rq1._auto_1) (he:autoParam (starEach (e::es) X.env=(false,eval e X.env)::starEach es X.env) Rq0._auto_1) (hpl:autoParam ((backTo pos (starEach es X.env)).any (·.1)=false) Rq0._auto_1) :
  PE X (.Call (.Name x p) (e::es) [] pos) (fun σ H Q=>σ[i]?=some (some (.ref f))/\t σ H fun vs H1=>∃a b,vs=[a,b]/\Λ.te (some a::some b::cv.map some) H1 Q):=by
 obtain⟨cl,qual,c,cw,l1,l2,l3,l4⟩:=L;have hm:∀l:List (Str×V),l.map (fun p=>some p.2)=(l.map (·.2)).map some:=fun l=>by simp
 have:=aU2 (p:=p) (pos:=pos) (te:=Λ.te) (t:=t) (i:=i) (x:=x) (e:=e) (es:=es) l1 l2 (by rw[l3];exact Λ.S) hr (fun pm ctv u v=>Λ.hb qual cl pm ctv c u v) (fun s H=>by rw[l3];exact Λ.h qual f c cl X.A X.stack s H ((hr.deeper _).mono hj)) ha hi hl hx hdb hcd he hpl;unfold aR0 at this;rw[hm,l4] at this;exact this
end
def aN6(Ps:List Addr)(H:Hp):Prop:=(∀P∈Ps,H P=some (.tbl #[]))/\∀b,H b=none\/(∃o xs,H b=some (.frz o (.lst xs)))\/b∈Ps
theorem aG3{P:Program}{w:World}{K:W.Frag}{mg mb:Str->Option Value}{CX:CXT}{k:Nat}{fa a:Addr}{fd:FuncData}{x:Str}{sp:Sp}{s₁:Shared}{vs:List Value}{ns:List Int}{ts:List (Addr×Addr)}
  (KX:K.In s₁.heap) (hT:∀q∈ts,CodeHd s₁.heap q.1 q.2/\s₁.heap.get? q.2=some (tabObj #[])) (hK:noTabs K=true) (hns:s₁.heap.Ns mainGlobals mg) (hb:s₁.heap.Ns builtinsNs mb) (hbb:∀x:Str,x≠"__name__"->mb x=bootBuiltins x) (hlim:s₁.heap.NoLimit)
  (hbm:∃bm o,mg "__builtins__"=some (.ref bm)/\bm≠builtinsNs/\s₁.heap.get? bm=some o/\o.cls= .type "module"/\o.dict=some builtinsNs/\o.data= .plain) (hg:s₁.gens= #[])
  (ha:s₁.heap.get? a=some { cls:= .type "list",data:= .seq vs.toArray }) (hi:IntsAre vs ns) (hl:ns.length<=sizeLine) (hr:dH k callerA)
  (F:∀base:Heap,K.In base->base.Ns mainGlobals mg->(∀q∈ts,yI base mg q.1 q.2)->kF P w K mg base CX k fa fd [x] sp) (hbind:∀(s:Shared) (u:Value),BindsTo s fd ⟨[u],[]⟩ [(x,u)])
  (hsp:∀H:Hp,aN6 (ts.map (·.2)) H->bK K H a (ns.map V.int)->sp [.ref a] H (fun v _=>v= .bl true) fun _ _ _=>False)
  (hCX:∀H e s',CX [] H s₁ (fun _ _ _=>False) e s'->False) :
  codeAny (model P w) callerA (.call (.ref fa) ⟨[.ref a],[]⟩) (fun r s'=>r= .ok (.ret (.bool true))/\OldK s₁.heap s'.heap/\s'.os=s₁.os/\AllBare s'.gens) s₁:=by
 have rv:=tZ hi;have lenV:=hi.length;have aT:a∉ts.map (·.2):=fun hm=>by
  obtain⟨q,hq,e⟩:=dh.mp hm;have:=(hT q hq).2;rw[e,ha] at this
  cases this
 have core:∀H:Hp,aN6 (ts.map (·.2)) H->bK K H a (ns.map V.int)->jH P w H s₁.heap->(∀b,H b≠none->b=a\/b∈ts.map (·.2))->(H a≠none->K.lookup a=none) ->
   codeAny (model P w) callerA (.call (.ref fa) ⟨[.ref a],[]⟩) (fun r s'=>r= .ok (.ret (.bool true))/\OldK s₁.heap s'.heap/\s'.os=s₁.os/\AllBare s'.gens) s₁:=by
  intro H hO hS hok hA hKa;have base_of:∀{b:Addr}{o:Obj},s₁.heap.get? b=some o->H b=none->(sO s₁.heap H).get? b=some o:=fun e n=>aQ2 e n
  have noT:∀{b:Addr}{o:Obj},s₁.heap.get? b=some o->o≠tabObj #[]->b≠a->H b=none:=fun {b o} e d n=>by
   cases q:H b with
   |none=>rfl
   |some u =>
    rcases hA b (by rw[q];simp) with e'|e'
    ·exact absurd e' n
    ·obtain⟨q',hq',e2⟩:=dh.mp e';have:=(hT q' hq').2;rw[e2,e] at this
     cases this
     exact absurd rfl d
  have noA:∀{b:Addr}{o:Obj}{es:Array DictEntry}{ep:Nat},s₁.heap.get? b=some o->o.data= .dict es ep->H b=none:=fun {b o es ep} e d =>
   noT e (fun z=>by rw[z] at d;cases d) fun z=>by
    subst z;rw[ha] at e;cases e;have d':Data.seq vs.toArray _=Data.dict es ep:=d
    cases d'
  have nsK:∀{b:Addr}{m:Str->Option Value},s₁.heap.Ns b m->(sO s₁.heap H).Ns b m:=fun {b m} ⟨o,es,ep,e,d,r⟩=>⟨o,es,ep,base_of e (noA e d),d,r⟩
  have hKb:K.In (sO s₁.heap H):=fun b o e=>base_of (KX b o e) (by
   by_cases n:b=a
   ·subst n
    cases q:H b with
    |none=>rfl
    |some u=>rw[hKa (by rw[q];simp)] at e;cases e
   ·refine noT (KX b o e) (fun z=>?_) n;have h2:=ko.mp hK (b,o) (mem_of_lookupK e);subst z;exact absurd (show false=true from h2) bj)
  have hM:Mod K mg (sO s₁.heap H):=⟨hKb,nsK hns,⟨mb,nsK hb,hbb⟩,let⟨mc,h1,h2⟩:=hlim;⟨mc,nsK h1,h2⟩⟩
  have hB:∀q∈ts,yI (sO s₁.heap H) mg q.1 q.2:=fun q hq=>by
   obtain⟨o,vs',file,tf,flags,tg,inF,text,tt,e1,r1,r2,r3,r4,r5,r6,r7,r8,hne⟩:=(hT q hq).1;obtain⟨bm,ob,b1,b2,b3,b4,b5,b6⟩:=hbm;refine⟨⟨o,vs',file,tf,flags,tg,inF,text,tt,base_of e1 (noT e1 (fun z=>by rw[z] at r1;cases r1) fun z=>by rw[z,ha] at e1;cases e1;injection r1 with z;exact absurd z (by decide)),r1,r2,r3,r4,r5,r6,r7,r8,hne⟩,⟨bm,ob,b1,b2,base_of b3 (noT b3 (fun z=>by rw[z] at b4;cases b4) fun z=>by rw[z,ha] at b3;cases b3;injection b4 with z;exact absurd z (by decide)),b4,b5,b6⟩⟩
  have e0:wX P w K mg (sO s₁.heap H) callerA [] s₁ H:=⟨rfl,hM,fun b o e=>bD3 e,Nat.le_of_eq (aG4 _ _),trivial,fun b hb=>absurd (show b∈([]:List Addr) from hb) (by simp),hok,.of_eq hg⟩
  refine km ((F _ hKb (nsK hns) hB).run callerA [] s₁ H ⟨[.ref a],[]⟩ [.ref a] [.ref a] _ _ hr e0 (hbind s₁ (.ref a)) (.cons rfl .nil) (hsp H hO hS)) fun r s' h=>?_
  cases r with
  |error e=>exact(hCX H e s' h).elim
  |ok fl =>
   cases fl with
   |next=>exact False.elim h
   |brk=>exact False.elim h
   |cont=>exact False.elim h
   |ret u =>
    obtain⟨v,H',os,bare,un,hok',r',q⟩:=h;have q':v= .bl true:=q;subst q';obtain rfl:u=Value.bool true:=r';have keep:∀b o,b∉ts.map (·.2)->s₁.heap.get? b=some o->s'.heap.get? b=some o:=fun b o hb e=>by
     cases q:H b with
     |none=>exact un.keep b o e q (by intro z;exact absurd (show b∈([]:List Addr) from z) (by simp)) (by simp)
     |some u =>
      rcases hO.2 b with z|⟨ob,xs,z⟩|z
      ·rw[q] at z;cases z
      ·have z2:=un.frzs b ob _ z;obtain⟨e1,_⟩:=hok b _ z;obtain⟨e2,_⟩:=hok' b _ z2;rw[e] at e1;cases e1;exact e2
      ·exact absurd z hb
    have grown:∀b o,b∈ts.map (·.2)->s₁.heap.get? b=some o->isCodeTable s₁.heap b/\o=tabObj #[]/\∃ps,s'.heap.get? b=some (tabObj ps):=fun b o hb e=>by
     obtain⟨q,hq,rfl⟩:=dh.mp hb;have e2:=(hT q hq).2;rw[e] at e2;obtain⟨more,e3⟩:=un.tbls _ _ (hO.1 _ hb);exact⟨((hT q hq).1.tab (hT q hq).2).isCodeTable,dg e2,_,hok' _ _ e3⟩
    refine⟨rfl,⟨fun b o e=>?_,fun b o e=>?_⟩,os,bare⟩
    ·by_cases hb:b∈ts.map (·.2)
     ·obtain⟨ht,rfl,ps,hP⟩:=grown b o hb e;exact .inr (.inl ⟨ht,rfl, #[],ps,rfl,by rw[Array.empty_append];exact hP⟩)
     ·exact .inl (keep b o hb e)
    ·by_cases hb:b∈ts.map (·.2)
     ·obtain⟨_,_,ps,hP⟩:=grown b o hb e;exact⟨_,hP⟩
     ·exact⟨o,keep b o hb e⟩
 have tabOk:∀(H:Hp) b,b∈ts.map (·.2)->bU P w H s₁.heap b (.tbl #[]):=fun H b hb=>by
  obtain⟨q,hq,rfl⟩:=dh.mp hb;exact(hT q hq).2
 cases hk:K.lookup a with
 |some o =>
  have e:=KX a o hk;rw[ha] at e
  cases e
  refine core (fun b=>if b∈ts.map (·.2) then some (.tbl #[]) else none) ⟨fun b hb=>bg hb,fun b=>?_⟩ (.inr ⟨_,vs.toArray,_,hk,rfl,rfl,rfl,by rw[bn,lenV];exact hl,by simpa using rv⟩) (fun b u z=>?_) (fun b z=>?_) fun z=>absurd (av aT) z
  ·by_cases hb:b∈ts.map (·.2)
   ·exact .inr (.inr hb)
   ·exact .inl (av hb)
  ·by_cases hb:b∈ts.map (·.2)
   ·have z':=(bg hb).symm.trans z
    cases z'
    exact tabOk _ b hb
   ·have z':=(av hb).symm.trans z
    cases z'
  ·by_cases hb:b∈ts.map (·.2)
   ·exact .inr hb
   ·exact absurd (av hb) z
 |none =>
  refine core (fun b=>if b∈ts.map (·.2) then some (.tbl #[]) else if b=a then some (.frz { cls:= .type "list",data:= .seq vs.toArray } (.lst (ns.map V.int))) else none) ⟨fun b hb=>bg hb,fun b=>?_⟩ (.inl (.inr ⟨{ cls:= .type "list",data:= .seq vs.toArray },(av aT).trans (bg rfl)⟩)) (fun b u z=>?_) (fun b z=>?_) fun _=>hk
  ·by_cases hb:b∈ts.map (·.2)
   ·exact .inr (.inr hb)
   ·by_cases hb2:b=a
    ·exact .inr (.inl ⟨_,_,(av hb).trans (bg hb2)⟩)
    ·exact .inl ((av hb).trans (av hb2))
  ·by_cases hb:b∈ts.map (·.2)
   ·have z':=(bg hb).symm.trans z
    cases z'
    exact tabOk _ b hb
   ·have z:=(av hb).symm.trans z
    by_cases hb2:b=a
    ·have z':=(bg hb2).symm.trans z
     cases z'
     subst hb2;exact⟨ha,by rw[ac];exact hl,vs,_,rv,ha⟩
    ·have z':=(av hb2).symm.trans z
     cases z'
  ·by_cases hb:b∈ts.map (·.2)
   ·exact .inr hb
   ·by_cases hb2:b=a
    ·exact .inl hb2
    ·exact absurd ((av hb).trans (av hb2)) z
theorem walkT_of{l:W.OpenLaw}{n k:Nat}{q:Program}{loose:List Str}{XP:(Str->Option Value)->Heap->Prop}{YP:World->Heap->Prop}{d:DefRec}{K:Params->W.Frag}{sp:World->Sp}{x:Str}{ts:List (Addr×Addr)}
  (hn:l.most=some n) (hn2:n<=sizeLine) (hdf:d.params.defaults=[]) (hr:dH k callerA)
  (hY:∀(w:World) (h:Heap),YP w h->(K w.params).In h/\∀P∈ts.map (·.2),h.get? P=some (tabObj #[]))
  (hK:∀w:World,noTabs (K w.params)=true) (hH:∀(w:World) (q),q∈ts->codeHdIn (K w.params) q.1 q.2=true)
  (F:∀(w:World) (mg:Str->Option Value) (fa:Addr) (h:Heap),(K w.params).In h->h.Ns mainGlobals mg->mg d.name=some (.ref fa) ->
   ∃fd:FuncData,(∀(s:Shared) (u:Value),BindsTo s fd ⟨[u],[]⟩ [(x,u)]) /\
    ∀base:Heap,(K w.params).In base->base.Ns mainGlobals mg->(∀q∈ts,yI base mg q.1 q.2)->kF l.prog w (K w.params) mg base oX k fa fd [x] (sp w))
  (hsp:∀(w:World) (H:Hp) (a:Addr) (ns:List Int),ns.length<=n->aN6 (ts.map (·.2)) H->bK (K w.params) H a (ns.map V.int)->sp w [.ref a] H (fun v _=>v= .bl true) fun _ _ _=>False) :
  W.WalkO q loose XP YP l.row.toRowW d [] (fun f vs=>PySem.call f vs):=by
 refine Att.attach_call hn hdf fun w s₀ s₁ mg mb fa o pm cd doc a vs ns G Y ho hd hcd hmg hobj hints hlen hg=>?_
 obtain⟨KX,Y2⟩:=hY w _ Y;obtain⟨fd,hb,hF⟩:=F w mg fa _ KX G.T.g hmg;obtain⟨bm,ob,a1,a2,a3,a4,a5,a6⟩:=G.T.bmain;exact aG3 KX (fun q hq=>⟨codeHd_of_K KX (hH w q hq),Y2 _ (jn hq)⟩) (hK w) G.T.g G.T.b G.T.builtins G.T.nolimit ⟨bm,ob,a1,a2,a3,a4,a5,a6⟩ hg hobj hints (cp hlen hn2) hr hF hb (fun H hO hS=>hsp w H a ns hlen hO hS) fun H e s' z=>z
end L2
namespace Mine
open PySem L2
section
variable (Chg:Nat->Rw->List Rw->Prop)
mutual
def Reb(k:Nat):Rw->List Rw->Prop
 |.when _ _ _ t a b,o=>∃p pa pb a' b',zI (k+1) a a'/\zI (k+1+bP a) b b'/\Chg k (.when p pa pb t a' b') o
 |.times _ _ n b,o=>∃p pb b',zI (k+1) b b'/\Chg k (.times p pb n b') o
 |.thr p w x us am,o=>Chg k (.thr p w x us am) o
 |.lt p x t,o=>Chg k (.lt p x t) o
 |.tell p t,o=>Chg k (.tell p t) o
def zI(k:Nat):List Rw->List Rw->Prop
 |[],o=>o=[]
 |r::rs,o=>∃o1 o2,Reb k r o1/\zI (k+r.cnt) rs o2/\o=o1++o2
end
abbrev BSt:=List (List Rw)
def bV0(r:Rw)(k:Nat)(c d:BSt):Prop:=match r with
 |.when _ _ _ t _ _=>∃B2 B1 B st p pa pb o,c=B2::B1::B::st/\Chg k (.when p pa pb t B1 B2) o/\d=(B++o)::st
 |.times _ _ n _=>∃B1 B st p pb o,c=B1::B::st/\Chg k (.times p pb n B1) o/\d=(B++o)::st
 |.thr _ _ _ _ _=>False
 |.lt _ _ _=>False
 |.tell _ _=>False
def iS(s:Stp)(c d:BSt):Prop:=
 if eR s=true then d=[]::c
 else if s.1="row" then ∃B st o,c=B::st/\Chg s.2.2 s.2.1 o/\d=(B++o)::st
 else bV0 Chg s.2.1 s.2.2 c d
def jT:List Stp->BSt->BSt->Prop
 |[],c,d=>c=d
 |s::l,c,d=>∃e,iS Chg s c e/\jT l e d
variable {Chg}
theorem jT.app:∀{l m:List Stp}{c d:BSt},jT Chg (l++m) c d->∃e,jT Chg l c e/\jT Chg m e d
 |[],_,c,_,h=>⟨c,rfl,h⟩
 |_::_,_,_,_,⟨e,h,k⟩=>let⟨g,a,b⟩:=jT.app k;⟨g,⟨e,h,a⟩,b⟩
theorem jT.snoc{s:Stp}{e:BSt}:∀{l:List Stp}{c d:BSt},jT Chg l c d->iS Chg s d e->jT Chg (l++[s]) c e
 |[],c,d,h,k=>⟨e,by rw[show c=d from h];exact k,rfl⟩
 |_::_,_,_,⟨g,h,k⟩,j=>⟨g,h,jT.snoc k j⟩
theorem vS{w:Str}{r:Rw}{k:Nat}{c d:BSt}(h:iS Chg (w,r,k) c d)(o:uQ w r.w=true):d=[]::c:=by
 unfold iS at h;rw[bg (show eR (w,r,k)=true from o)] at h;exact h
theorem yN{r:Rw}{k:Nat}{c d:BSt}(h:iS Chg ("row",r,k) c d)(o:uQ "row" r.w=false):∃B st o,c=B::st/\Chg k r o/\d=(B++o)::st:=by
 unfold iS at h;rw[av (show ¬eR (("row": Str),r,k)=true by rw[show eR (("row": Str),r,k)=false from o];exact bj),bg rfl] at h;exact h
theorem aY4{r:Rw}{k:Nat}{c d:BSt}(h:iS Chg ("end",r,k) c d):bV0 Chg r k c d:=by
 unfold iS at h;rw[av (show ¬eR (("end": Str),r,k)=true by rw[show eR (("end": Str),r,k)=false from bB1 _];exact bj),av gX] at h;exact h
mutual
theorem bC6:∀(r:Rw) (k:Nat) {B:List Rw}{st d:BSt},WdR r->jT Chg (bY k r) (B::st) d->∃o,Reb Chg k r o/\d=(B++o)::st
 |.thr p w x us am,k,B,st,d,hw,h=>by
  simp only[bY] at h;obtain⟨e,h,q⟩:=h;obtain⟨B',st',o,e1,e2,e3⟩:=yN h (bQ3 hw)
  cases e1
  exact⟨o,e2,by rw[<-e3];exact(show e=d from q).symm⟩
 |.lt p x t,k,B,st,d,hw,h=>by
  simp only[bY] at h;obtain⟨e,h,q⟩:=h;obtain⟨B',st',o,e1,e2,e3⟩:=yN h bL2
  cases e1
  exact⟨o,e2,by rw[<-e3];exact(show e=d from q).symm⟩
 |.tell p t,k,B,st,d,hw,h=>by
  simp only[bY] at h;obtain⟨e,h,q⟩:=h;obtain⟨B',st',o,e1,e2,e3⟩:=yN h bI7
  cases e1
  exact⟨o,e2,by rw[<-e3];exact(show e=d from q).symm⟩
 |.when p pa pb t a b,k,B,st,d,hw,h=>by
  simp only[bY] at h;obtain⟨e0,h0,h⟩:=h;have z0:=vS h0 bN1;subst z0;obtain⟨e3,h,h3⟩:=jT.app h;obtain⟨e2,h,h2⟩:=jT.app h;obtain⟨e1,h1,h⟩:=jT.app h;obtain⟨oa,ra,rfl⟩:=kG a (k+1) hw.1 h1;obtain⟨e4,h4,q4⟩:=h;have z4:=vS h4 (bR9 _);subst z4;have q4:[]::([]++oa)::B::st=e2:=q4;subst q4;obtain⟨ob,rb,rfl⟩:=kG b (k+1+bP a) hw.2 h2;obtain⟨e5,h5,q5⟩:=h3;obtain⟨B2,B1,B',st',p',pa',pb',o,c1,c2,c3⟩:=aY4 h5
  cases c1
  exact⟨o,⟨p',pa',pb',_,_,ra,rb,c2⟩,by rw[<-c3];exact(show e5=d from q5).symm⟩
 |.times p pb n b,k,B,st,d,hw,h=>by
  simp only[bY] at h;obtain⟨e0,h0,h⟩:=h;have z0:=vS h0 bR2;subst z0;obtain⟨e1,h1,h3⟩:=jT.app h;obtain⟨ob,rb,rfl⟩:=kG b (k+1) hw h1;obtain⟨e5,h5,q5⟩:=h3;obtain⟨B1,B',st',p',pb',o,c1,c2,c3⟩:=aY4 h5
  cases c1
  exact⟨o,⟨p',pb',_,rb,c2⟩,by rw[<-c3];exact(show e5=d from q5).symm⟩
theorem kG:∀(rs:List Rw) (k:Nat) {B:List Rw}{st d:BSt},WdL rs->jT Chg (bR k rs) (B::st) d->∃o,zI Chg k rs o/\d=(B++o)::st
 |[],k,B,st,d,_,h=>⟨[],rfl,by rw[gz];exact(show B::st=d from h).symm⟩
 |r::rs,k,B,st,d,hw,h=>by
  simp only[bR] at h;obtain⟨e,h1,h2⟩:=jT.app h;obtain⟨o1,r1,rfl⟩:=bC6 r k hw.1 h1;obtain⟨o2,r2,rfl⟩:=kG rs (k+r.cnt) hw.2 h2;exact⟨o1++o2,⟨o1,o2,r1,r2,rfl⟩,by rw[lq]⟩
end
end
def bT0(ν:Str->Str):Rw->Rw->Prop
 |.thr _ w x us am,q=>∃p,q= .thr p w (ν x) us am
 |.lt _ x t,q=>∃p t',q= .lt p (ν x) t'/\fR ν t t'
 |.tell _ t,q=>∃p t',q= .tell p t'/\fR ν t t'
 |.when _ pa pb t a b,q=>∃p t',q= .when p pa pb t' a b/\fR ν t t'
 |.times p pb n b,q=>q= .times p pb n b
def bO7(ν:Str->Str)(_:Nat)(r:Rw)(o:List Rw):Prop:=∃q,o=[q]/\bT0 ν r q
mutual
theorem bE5{ν:Str->Str}:∀(r:Rw) (k:Nat) {o:List Rw},Reb (bO7 ν) k r o->∃q,o=[q]/\eL ν r q
 |.thr _ w x us am,k,o,⟨q,e,h⟩=>⟨q,e,h⟩
 |.lt _ x t,k,o,⟨q,e,h⟩=>⟨q,e,h⟩
 |.tell _ t,k,o,⟨q,e,h⟩=>⟨q,e,h⟩
 |.when _ _ _ t a b,k,o,⟨p,pa,pb,a',b',ra,rb,q,e,p',t',f,ht⟩=>⟨q,e,p',pa,pb,t',a',b',f,ht,kU a _ ra,kU b _ rb⟩
 |.times _ _ n b,k,o,⟨p,pb,b',rb,q,e,f⟩=>⟨q,e,p,pb,b',f,kU b _ rb⟩
theorem kU{ν:Str->Str}:∀(rs:List Rw) (k:Nat) {o:List Rw},zI (bO7 ν) k rs o->bO ν rs o
 |[],_,_,e=>e
 |r::rs,k,_,⟨o1,o2,h1,h2,e⟩=>by
  obtain⟨q,rfl,hq⟩:=bE5 r k h1;exact⟨q,o2,e,hq,kU rs _ h2⟩
end
inductive spRb(te:TE)(cv:List V)(vs:List V)(H:Hp)(Q:VK)(z1:XK):Prop
 |mk:∀(p f:Addr) (rs:List Rw) (Chg:Nat->Rw->List Rw->Prop),(vs=[.ref p,.ref f])->(H p=some (.tup (bL rs)))->(aZ H rs)->(bP rs<=4000)->((∀(r:Rw) (n:Nat) (G:Hp) (W:VK),bD H G->eF G r->(∀(l:Addr) (o:List Rw) (G':Hp),bD G G'->G' l=some (.lst (bL o))->aZ G' o->Chg n r o->o.length<=1->W (.ref l) G')->te (some (.ref r.p)::some (.int n)::cv.map some) G W))->(∀(q:Addr) (o:List Rw) (H':Hp),bD H H'->H' q=some (.tup (bL o))->aZ H' o->zI Chg 0 rs o->Q (.ref q) H')->spRb te cv vs H Q z1
structure nN(H:Hp)(p:Addr)(ks:List Str)(rs:List Rw)(m:Nat):Prop where
 ex:∃pk pr,H p=some (.tup [.ref pk,.ref pr])/\H pk=some (.tup (ks.map V.str))/\H pr=some (.tup (bL rs))
 rows:aZ H rs
 cnt:bP rs<=73*m
 sc:∃k2,fO [] rs k2
 tk:cA rs
 t1:1<=eE rs
 k1:1<=ks.length
 k3:ks.length<=3
 dp:jD rs<=2
 tz:iH rs
 us:∀q∈dA rs,∀p w x us am,q= .thr p w x us am->∀u∈us,uS u
 few:oW (9*m) (eM rs)
 m4:m<=3
theorem nN.ts{H H':Hp}{p:Addr}{ks:List Str}{rs:List Rw}{m:Nat}(t:TS H H')(P:nN H p ks rs m):nN H' p ks rs m:=
 ⟨let⟨pk,pr,a,b,c⟩:=P.ex;⟨pk,pr,t _ _ a,t _ _ b,t _ _ c⟩,aZ.ts t rs P.rows,P.cnt,P.sc,P.tk,P.t1,P.k1,P.k3,P.dp,P.tz,P.us,P.few,P.m4⟩
inductive spRowsIn(vs:List V)(H:Hp)(Q:VK)(z1:XK):Prop
 |mk:∀(p:Addr) (ks:List Str) (rs:List Rw) (m:Nat),(vs=[.ref p])->(nN H p ks rs m)->(∀(r:Addr) (H':Hp),bD H H'->H r=none->H' r=some (.lst (bL (dA rs)))->Q (.ref r) H')->spRowsIn vs H Q z1
inductive spKindsL(vs:List V)(H:Hp)(Q:VK)(z1:XK):Prop
 |mk:∀(p:Addr) (ks:List Str),(vs=[.ref p])->(H p=some (.tup (ks.map V.str)))->(1<=ks.length)->(ks.length<=3)->(ks.Nodup)->(∀H',bD H H'->Q .non H')->spKindsL vs H Q z1
inductive spLookL(vs:List V)(H:Hp)(Q:VK)(z1:XK):Prop
 |mk:∀(p:Addr) (ks:List Str) (rs:List Rw) (m:Nat),(vs=[.ref p])->(nN H p ks rs m)->(ks.Nodup)->(∀H',bD H H'->Q (.bl true) H')->spLookL vs H Q z1
inductive spIsNm(vs:List V)(H:Hp)(Q:VK)(z1:XK):Prop
 |mk:∀z:Str,(vs=[.str z])->(z.length<=1000)->(∀H',bD H H'->Q (.bl (jR z)) H')->spIsNm vs H Q z1
inductive spNmV(vs:List V)(H:Hp)(Q:VK)(z1:XK):Prop
 |mk:∀(p:Addr) (ks:List Str) (rs:List Rw) (m:Nat),(vs=[.ref p])->(nN H p ks rs m)->(∀(d:Addr) (kvs:List (Key×V)) (H':Hp),bD H H'->H d=none->H' d=some (.dK kvs)->(∃xs:List Str,kvs.map (·.1)=xs.map (fun x=>(Sum.inr x:Key))/\xs.Nodup/\∀x,x∈xs↔x∈eM rs)->Q (.ref d) H')->spNmV vs H Q z1
inductive spSpl(vs:List V)(H:Hp)(Q:VK)(z1:XK):Prop
 |mk:∀n:Nat,(vs=[.int n])->(n<700)->(Q (.str (sp n)) H)->spSpl vs H Q z1
def NmD(H:Hp)(d:Addr)(as:List (Str×Str)):Prop:=H d=some (.dK (as.map fun p=>((Sum.inr p.1:Key),V.str p.2)))
theorem NmD.same{H H':Hp}{d:Addr}{as:List (Str×Str)}(h:NmD H d as)(s:bD H H'):NmD H' d as:=s _ _ h
theorem aB5{x:Str}:∀{as:List (Str×Str)},dP (as.map fun p=>((Sum.inr p.1:Key),V.str p.2)) (Sum.inr x:Key)=(as.lookup x).map V.str
 |[]=>by simp[nJ]
 |(a,b)::as=>by
  rw[ek,List.lookup_cons]
  by_cases c:a=x
  ·subst c;rw[cO rfl];simp
  ·rw[bX (fun z=>c (by injection z)),aB5 (as:=as)];rw[show(x==a)=false by simpa using fun z:x=a=>c z.symm]
inductive spNewN(vs:List V)(H:Hp)(Q:VK)(z1:XK):Prop
 |mk:∀(p q:Addr) (K1 K2:List Str) (rs1 rs2:List Rw) (m1 m2:Nat),(vs=[.ref p,.ref q])->(nN H p K1 rs1 m1)->(nN H q K2 rs2 m2)->(m1+m2<=4)->(∀(d:Addr) (as:List (Str×Str)) (H':Hp),bD H H'->H d=none->NmD H' d as->nY (fun x=>(as.lookup x).getD x) K1 K2 (eM rs1) (eM rs2)->Q (.ref d) H')->spNewN vs H Q z1
def nuA(as:List (Str×Str))(x:Str):Str:=(as.lookup x).getD x
inductive aO6(n:Nat)(vs:List V)(H:Hp)(Q:VK)(z1:XK):Prop
 |mk:∀(d:Addr) (t:Tm) (as:List (Str×Str)),(vs=[.ref t.p,.ref d])->(lN H t)->(t.size<=n)->(NmD H d as)->(∀(u:Tm) (H':Hp),bD H H'->lN H' u->fR (nuA as) t u->Q (.ref u.p) H')->aO6 n vs H Q z1
def aB6:Nat->Sp
 |0=>fun _ _ _ _=>False
 |n+1=>aO6 (n+1)
inductive spRnR(vs:List V)(H:Hp)(Q:VK)(z1:XK):Prop
 |mk:∀(d:Addr) (r:Rw) (as:List (Str×Str)),(vs=[.ref r.p,.ref d])->(eF H r)->(NmD H d as)->(∀(q:Rw) (H':Hp),bD H H'->eF H' q->bT0 (nuA as) r q->Q (.ref q.p) H')->spRnR vs H Q z1
structure sI where
 P:Addr
 pos:Pos
 q:Str
inductive aT5(L:sI)(vs:List V)(H:Hp)(Q:VK)(z1:XK):Prop
 |mk:∀(p d:Addr) (rs:List Rw) (as:List (Str×Str)),(vs=[.ref p,.ref d])->(lL H L.P L.pos L.q)->(H p=some (.tup (bL rs)))->(aZ H rs)->(bP rs<=4000)->(NmD H d as)->(∀(q:Addr) (o:List Rw) (H':Hp),jF L.P H H'->lL H' L.P L.pos L.q->H' q=some (.tup (bL o))->aZ H' o->bO (nuA as) rs o->Q (.ref q) H')->aT5 L vs H Q z1
theorem aS2{k:Key}{w:V}:∀{ks:List Key}{vs:List V}{i:Nat},ks.Nodup->ks[i]?=some k->vs.length=ks.length->(ks.zip vs).map (fun kv=>if kv.1=k then (kv.1,w) else kv)=ks.zip (vs.set i w)
 |[],_,i,_,h,_=>by simp at h
 |a::ks,[],_,_,_,h=>by simp at h
 |a::ks,v::vs,0,nd,h,hl=>by
  have e:a=k:=by simpa using h
  subst e;have nd:=cy.mp nd;have:(ks.zip vs).map (fun kv=>if kv.1=a then (kv.1,w) else kv)=ks.zip vs:=by
   refine(xk (g:=id) (l:=ks.zip vs) fun kv hkv=>?_).trans (List.map_id _);exact av fun e:kv.1=a=>nd.1 (by rw[<-e];exact(jr (a:=kv.1) (b:=kv.2) hkv).1)
  simp only[List.zip_cons_cons,List.map_cons,if_pos,List.set_cons_zero,this]
 |a::ks,v::vs,i+1,nd,h,hl=>by
  have nd:=cy.mp nd;have h:ks[i]?=some k:=by simpa using h
  have ne:¬a=k:=fun e=>nd.1 (by rw[e];exact bq h)
  simp only[List.zip_cons_cons,List.map_cons,if_neg ne,List.set_cons_succ,aS2 (w:=w) nd.2 h (by simpa using hl)]
theorem pU{k:Key}:∀{ks:List Key}{vs:List V}{i:Nat},ks.Nodup->ks[i]?=some k->vs.length=ks.length->dP (ks.zip vs) k=vs[i]?
 |[],_,i,_,h,_=>by simp at h
 |a::ks,[],_,_,_,h=>by simp at h
 |a::ks,v::vs,0,nd,h,hl=>by
  have e:a=k:=by simpa using h
  subst e;rw[yj,cO rfl];rfl
 |a::ks,v::vs,i+1,nd,h,hl=>by
  have nd:=cy.mp nd;have h:ks[i]?=some k:=by simpa using h
  have ne:¬a=k:=fun e=>nd.1 (by rw[e];exact bq h)
  rw[yj,bX ne,pU nd.2 h (by simpa using hl)];rfl
theorem aV2{k:Key}{w:V}{ks:List Key}{vs:List V}{i:Nat}(nd:ks.Nodup)(h:ks[i]?=some k)(hl:vs.length=ks.length):dI (ks.zip vs) k w=ks.zip (vs.set i w):=by
 unfold dI;rw[bg,aS2 nd h hl];rw[gG,pU nd h hl];have:i<vs.length:=by rw[hl];exact(bf.mp h).1
 rw[bc this];rfl
theorem tJ:∀{more acc:List (Key×V)},((acc++more).map (·.1)).Nodup->iE acc more=acc++more
 |[],acc,_=>by simp[iE]
 |(k,v)::more,acc,nd=>by
  have e:dI acc k v=acc++[(k,v)]:=qI _ (by
   cases q:dP acc k with
   |none=>rfl
   |some u =>
    exfalso;have a:=gG k acc;rw[q] at a;obtain⟨p,hp,hk⟩:=jc.mp a;have hk:=ag hk;rw[au,ek,jk] at nd;exact nd.2.2 _ (jn hp) _ aq hk)
  show iE (dI acc k v) more=_;rw[e,tJ (by rw[lq];exact nd),lq];rfl
def tU:List Key:=(["kinds","names","room","by","left","wide"]:List Str).map Sum.inr
theorem pT:tU.Nodup:=by decide
def iN(kd:Int)(nl:Addr)(room by_ left wd:Int):List (Key×V):=tU.zip [.int kd,.ref nl,.int room,.int by_,.int left,.int wd]
structure We(H:Hp)(d l sc nl:Addr)(kd wd:Int)(xs:List Str):Prop where
 deal:dJ H d l
 scn:∃room by_ left,H sc=some (.dK (iN kd nl room by_ left wd))
 nms:H nl=some (.lst (xs.map V.str))
 ne1:sc≠d
 ne2:nl≠l
 x1:1<=xs.length
 x2:xs.length<=9
 m1:1<=kd
 m2:kd<=3
 w1:1<=wd
 w2:wd<=9
section
variable {H H':Hp}{d l sc nl:Addr}{kd wd:Int}{xs:List Str}
theorem We.sl(W:We H d l sc nl kd wd xs):sc≠l:=by
 obtain⟨_,_,_,e⟩:=W.scn;obtain⟨sd,k,ls,z⟩:=W.deal;exact iM e z.lc (by intro z;cases z)
theorem We.out(W:We H d l sc nl kd wd xs)(D:dJ H' d l)(o:eW d l H H'):We H' d l sc nl kd wd xs:=
 ⟨D,let⟨a,b,c,e⟩:=W.scn;⟨a,b,c,o _ _ e W.ne1 W.sl⟩,aO W.deal W.nms W.ne2 o,W.ne1,W.ne2,W.x1,W.x2,W.m1,W.m2,W.w1,W.w2⟩
theorem We.same(W:We H d l sc nl kd wd xs)(s:bD H H'):We H' d l sc nl kd wd xs:=
 ⟨W.deal.same s,let⟨a,b,c,e⟩:=W.scn;⟨a,b,c,s _ _ e⟩,s _ _ W.nms,W.ne1,W.ne2,W.x1,W.x2,W.m1,W.m2,W.w1,W.w2⟩
theorem We.put(W:We H d l sc nl kd wd xs)(room by_ left:Int):We (aN H sc (.dK (iN kd nl room by_ left wd))) d l sc nl kd wd xs:=by
 obtain⟨_,_,_,e⟩:=W.scn;obtain⟨sd,k,ls,z⟩:=id W.deal;have n1:=W.ne1;have n2:=W.sl;refine⟨⟨sd,k,ls,⟨by rw[aH n1.symm];exact z.dc,by rw[aH n2.symm];exact z.lc,z.s0,z.s1,z.n0,z.l0⟩⟩,⟨_,_,_,aC⟩,?_,n1,W.ne2,W.x1,W.x2,W.m1,W.m2,W.w1,W.w2⟩;rw[aH (iM W.nms e (by intro z;cases z))];exact W.nms
theorem iY{room by_ left:Int}(e:H sc=some (.dK (iN kd nl room by_ left wd)))(i:Nat){x:Str}{v:V}(h:tU[i]?=some (Sum.inr x))(hv:([.int kd,.ref nl,.int room,.int by_,.int left,.int wd]:List V)[i]?=some v):fK H sc (.str x) (some v):=by
 rw[<-hv, <-pU (k:=Sum.inr x) pT h rfl];exact fK.k (k:=Sum.inr x) e
theorem qB{room by_ left:Int}(e:H sc=some (.dK (iN kd nl room by_ left wd)))(i:Nat){x:Str}{v:V}(h:tU[i]?=some (Sum.inr x)):gO H sc (.str x) v (aN H sc (.dK (tU.zip (([.int kd,.ref nl,.int room,.int by_,.int left,.int wd]:List V).set i v)))):=by
 rw[<-aV2 (k:=Sum.inr x) pT h rfl];exact gO.k (k:=Sum.inr x) e (aL (by show 6<=1000;decide))
theorem We.gKinds(W:We H d l sc nl kd wd xs):fK H sc (.str "kinds") (some (.int kd)):=by obtain⟨_,_,_,e⟩:=W.scn;exact iY e 0 rfl rfl
theorem We.gNames(W:We H d l sc nl kd wd xs):fK H sc (.str "names") (some (.ref nl)):=by obtain⟨_,_,_,e⟩:=W.scn;exact iY e 1 rfl rfl
theorem We.gRoom(W:We H d l sc nl kd wd xs):∃v,fK H sc (.str "room") (some (.int v)):=by obtain⟨_,_,_,e⟩:=W.scn;exact⟨_,iY e 2 rfl rfl⟩
theorem We.gBy(W:We H d l sc nl kd wd xs):∃v,fK H sc (.str "by") (some (.int v)):=by obtain⟨_,_,_,e⟩:=W.scn;exact⟨_,iY e 3 rfl rfl⟩
theorem We.gLeft(W:We H d l sc nl kd wd xs):∃v,fK H sc (.str "left") (some (.int v)):=by obtain⟨_,_,_,e⟩:=W.scn;exact⟨_,iY e 4 rfl rfl⟩
theorem We.gWide(W:We H d l sc nl kd wd xs):fK H sc (.str "wide") (some (.int wd)):=by obtain⟨_,_,_,e⟩:=W.scn;exact iY e 5 rfl rfl
theorem We.off(W:We H d l sc nl kd wd xs)(o:HO):eX [d,l,sc] H (aN H sc o):=fun b u e n=>by
 rw[aH fun z=>n (by rw[z];simp)];exact e
theorem We.pRoom(W:We H d l sc nl kd wd xs)(v:Int):∃H',gO H sc (.str "room") (.int v) H'/\We H' d l sc nl kd wd xs/\eX [d,l,sc] H H':=by obtain⟨_,_,_,e⟩:=W.scn;exact⟨_,qB e 2 rfl,W.put _ _ _,W.off _⟩
theorem We.pBy(W:We H d l sc nl kd wd xs)(v:Int):∃H',gO H sc (.str "by") (.int v) H'/\We H' d l sc nl kd wd xs/\eX [d,l,sc] H H':=by obtain⟨_,_,_,e⟩:=W.scn;exact⟨_,qB e 3 rfl,W.put _ _ _,W.off _⟩
theorem We.pLeft(W:We H d l sc nl kd wd xs)(v:Int):∃H',gO H sc (.str "left") (.int v) H'/\We H' d l sc nl kd wd xs/\eX [d,l,sc] H H':=by obtain⟨_,_,_,e⟩:=W.scn;exact⟨_,qB e 4 rfl,W.put _ _ _,W.off _⟩
theorem We.ts(W:We H d l sc nl kd wd xs)(o:eX [d,l,sc] H H'):TS H H':=fun p ys h=>by
 obtain⟨_,_,_,e⟩:=W.scn;obtain⟨sd,k,ls,z⟩:=W.deal;refine o _ _ h fun m=>?_
 simp only[List.mem_cons,List.not_mem_nil,or_false] at m;rcases m with m|m|m
 ·rw[m,z.dc] at h;cases h
 ·rw[m,z.lc] at h;cases h
 ·rw[m,e] at h;cases h
theorem We.keep(W:We H d l sc nl kd wd xs){p:Addr}{ys:List V}(h:H p=some (.lst ys))(n:p≠l)(o:eX [d,l,sc] H H'):H' p=some (.lst ys):=by
 obtain⟨_,_,_,e⟩:=W.scn;obtain⟨sd,k,ls,z⟩:=W.deal;refine o _ _ h fun m=>?_
 simp only[List.mem_cons,List.not_mem_nil,or_false] at m;rcases m with m|m|m
 ·rw[m,z.dc] at h;cases h
 ·exact n m
 ·rw[m,e] at h;cases h
theorem We.lst(W:We H d l sc nl kd wd xs){p:Addr}{ys zs:List V}(h:H p=some (.lst ys))(n:p≠l)(n2:p≠nl):We (aN H p (.lst zs)) d l sc nl kd wd xs:=by
 obtain⟨a,b,c,e⟩:=W.scn;exact⟨wY W.deal h n,⟨a,b,c,by rw[aH (iM e h (by intro z;cases z))];exact e⟩,by rw[aH n2.symm];exact W.nms,W.ne1,W.ne2,W.x1,W.x2,W.m1,W.m2,W.w1,W.w2⟩
theorem We.all(W:We H d l sc nl kd wd xs):∀b∈[d,l,sc],∃o,H b=some o:=by
 obtain⟨_,_,_,e⟩:=W.scn;obtain⟨sd,k,ls,z⟩:=W.deal;intro b m;simp only[List.mem_cons,List.not_mem_nil,or_false] at m;rcases m with m|m|m
 ·exact⟨_,by rw[m];exact z.dc⟩
 ·exact⟨_,by rw[m];exact z.lc⟩
 ·exact⟨_,by rw[m];exact e⟩
theorem We.new(W:We H d l sc nl kd wd xs){p:Addr}(h:H p=none):p≠d/\p≠l/\p≠sc/\p≠nl:=by
 obtain⟨_,_,_,e⟩:=W.scn;have:=eZ W.deal h;exact⟨this.1,this.2,(fun z=>by rw[z,e] at h;cases h),(fun z=>by rw[z,W.nms] at h;cases h)⟩
end
theorem uP{α:Type}{R:V->α->Prop}:∀{vs:List V},fQ R vs []->vs=[]
 |[],_=>rfl
 |_::_,h=>h.elim
theorem cD0{a b:Int}(ha:1<=a)(hb:1<=b):0<=rO a b/\rO a b<=a/\(2*a<=b->2*rO a b<=aT4 a b):=by
 have g:=aW7 (a:=a) hb;have h0:0<=rO a b:=Int.ediv_nonneg (by lia) (yd g);refine⟨h0,Int.ediv_le_self _ (by lia),fun h=>?_⟩;have r:=aH7 (a:=a) (b:=b) (by lia) hb;have:rO a b*(2*a)<=a*aT4 a b:=by rw[<-r];exact qp h h0
 refine Int.le_of_mul_le_mul_left (a:=a) ?_ (by lia);rw[show a*(2*rO a b)=rO a b*(2*a) by rw[Int.mul_comm (rO a b),Int.mul_assoc,Int.mul_left_comm]];exact this
theorem bW1{a b:Addr}{c d:Int}:∀u∈[V.ref a,V.ref b,V.int c,V.int d],uS u:=fun u h=>by
 simp only[List.mem_cons,List.not_mem_nil,or_false] at h;rcases h with rfl|rfl|rfl|rfl
 ·exact yE _
 ·exact yE _
 ·exact qV _
 ·exact qV _
theorem cA4{a:Addr}{b c d:Int}:∀u∈[V.ref a,V.int b,V.int c,V.int d],uS u:=fun u h=>by
 simp only[List.mem_cons,List.not_mem_nil,or_false] at h;rcases h with rfl|rfl|rfl|rfl
 ·exact yE _
 ·exact qV _
 ·exact qV _
 ·exact qV _
theorem cB0{a b c:Addr}{m d e:Int}:∀u∈[V.int m,V.ref a,V.ref b,V.ref c,V.int d,V.int e],uS u:=fun u h=>by
 simp only[List.mem_cons,List.not_mem_nil,or_false] at h;rcases h with rfl|rfl|rfl|rfl|rfl|rfl
 ·exact qV _
 ·exact yE _
 ·exact yE _
 ·exact yE _
 ·exact qV _
 ·exact qV _
inductive spSumE(vs:List V)(H:Hp)(Q:VK)(z1:XK):Prop
 |mk:∀(d l:Addr) (m:Int),(vs=[.ref d,.int m])->(dJ H d l)->(0<=m)->(m<=3)->(∀(p:Addr) (ws:List V) (H':Hp),dJ H' d l->eW d l H H'->H' p=some (.tup ws)->ws.length<=3->Q (.ref p) H')->spSumE vs H Q z1
inductive spStpE(vs:List V)(H:Hp)(Q:VK)(z1:XK):Prop
 |mk:∀(d l:Addr) (m:Int),(vs=[.ref d,.int m])->(dJ H d l)->((m=1\/m=2))->(∀(p:Addr) (a b:Int) (H':Hp),dJ H' d l->eW d l H H'->H' p=some (.tup [.int a,.int b])->0<=a->a<=100->(m=2->2*a<=b)->Q (.ref p) H')->spStpE vs H Q z1
inductive spThrE(vs:List V)(H:Hp)(Q:VK)(z1:XK):Prop
 |mk:∀(d l sc nl:Addr) (kd wd:Int) (xs:List Str) (x:Str),(vs=[.ref d,.ref sc,.str x])->(We H d l sc nl kd wd xs)->(∀(p:Addr) (w:Str) (us:List V) (H':Hp),dJ H' d l->eW d l H H'->H' p=some (.tup (.str w :: .str x::us))->mY H' w us false->(∀u∈us,uS u)->Q (.ref p) H')->spThrE vs H Q z1
def cap:Nat->Int
 |0=>2
 |n+1=>2*cap n+2
inductive aK0(n:Nat)(vs:List V)(H:Hp)(Q:VK)(z1:XK):Prop
 |mk:∀(d l kn:Addr) (ks:List Str) (room:Int),(vs=[.ref d,.ref kn,.int room])->(dJ H d l)->(H kn=some (.lst (ks.map V.str)))->(kn≠l)->(ks.length<=1000)->(1<=room)->(room<=cap n)->(∀(t:Tm) (H':Hp),dJ H' d l->eW d l H H'->lN H' t->t.ok->(∀x∈t.names,x∈ks)->(t.size:Int)<=room->Q (.ref t.p) H')->aK0 n vs H Q z1
def qF:Nat->Sp
 |0=>fun _ _ _ _=>False
 |n+1=>aK0 n
def bR3(ks:List Str)(x:Str)(r:Rw):Prop:=(∃p w us,r= .thr p w x us false/\∀u∈us,uS u)\/∃p t,r= .lt p x t/\(∀y∈t.names,y∈ks)/\t.size<=7
inductive spSetE(vs:List V)(H:Hp)(Q:VK)(z1:XK):Prop
 |mk:∀(d l sc nl kn:Addr) (kd wd:Int) (xs ks:List Str),(vs=[.ref d,.ref sc,.ref kn])->(We H d l sc nl kd wd xs)->(H kn=some (.lst (ks.map V.str)))->(kn≠l)->(ks.length<=500)->(∀(p kn':Addr) (r:Rw) (x:Str) (H':Hp),We H' d l sc nl kd wd xs->eX [d,l,sc] H H'->H' p=some (.tup [.ref r.p,.int 0,.ref kn'])->eF H' r->bR3 ks x r->x∈xs->H kn'=none->H' kn'=some (.lst ((ks++[x]).map V.str))->Q (.ref p) H')->spSetE vs H Q z1
def lI:Nat->Nat
 |0=>1
 |1=>4
 |_=>12
def zL:Nat->Nat
 |0=>1
 |1=>1
 |_=>6
structure RwE(ks:List Str)(xs:List Str)(r:Rw)(k2:List Str)(tells:Int)(m:Nat):Prop where
 sc:sJ ks r k2
 tl:tel r=tells
 tk:lT r
 t0:0<=tells
 t1:tells<=zL m
 ct:r.cnt<=lI m
 dp:r.dp<=m
 tz:yH r
 us:∀q∈gJ r,∀p w x us am,q= .thr p w x us am->∀u∈us,uS u
 st:∀y∈dU [r],y∈xs
structure sE(ks:List Str)(xs:List Str)(rs:List Rw)(k2:List Str)(tells:Int)(m n:Nat):Prop where
 sc:fO ks rs k2
 tl:eE rs=tells
 tk:cA rs
 t0:0<=tells
 t1:tells<=(n*zL m:Nat)
 ct:bP rs<=n*lI m
 dp:jD rs<=m
 tz:iH rs
 us:∀q∈dA rs,∀p w x us am,q= .thr p w x us am->∀u∈us,uS u
 st:∀y∈dU rs,y∈xs
inductive uK(m:Nat)(vs:List V)(H:Hp)(Q:VK)(z1:XK):Prop
 |mk:∀(d l sc nl kn:Addr) (kd wd:Int) (xs ks:List Str) (deep:Int),(vs=[.ref d,.ref sc,.ref kn,.int deep])->(We H d l sc nl kd wd xs)->(H kn=some (.lst (ks.map V.str)))->(kn≠l)->(ks.length+lI m<=200)->(m<=2)->(deep=2-(m:Int))->(∀(p kn':Addr) (r:Rw) (k2:List Str) (tells:Int) (H':Hp),We H' d l sc nl kd wd xs->eX [d,l,sc] H H'->H' p=some (.tup [.ref r.p,.int tells,.ref kn'])->eF H' r->RwE ks xs r k2 tells m->(kn'=kn\/H kn'=none)->H' kn'=some (.lst (k2.map V.str))->Q (.ref p) H')->uK m vs H Q z1
def aV9:Nat->Sp
 |0=>fun _ _ _ _=>False
 |m+1=>uK m
inductive nQ(m:Nat)(vs:List V)(H:Hp)(Q:VK)(z1:XK):Prop
 |mk:∀(d l sc nl kn:Addr) (kd wd:Int) (xs ks:List Str) (deep:Int) (n:Nat),(vs=[.ref d,.ref sc,.ref kn,.int deep,.int n])->(We H d l sc nl kd wd xs)->(H kn=some (.lst (ks.map V.str)))->(kn≠l)->(ks.length+n*lI m<=200)->(m<=2)->(n<=6)->(deep=2-(m:Int))->(∀(p pr kn':Addr) (rs:List Rw) (k2:List Str) (tells:Int) (H':Hp),We H' d l sc nl kd wd xs->eX [d,l,sc] H H'->H' p=some (.tup [.ref pr,.int tells,.ref kn'])->H' pr=some (.tup (bL rs))->aZ H' rs->sE ks xs rs k2 tells m n->(kn'=kn\/H kn'=none)->H' kn'=some (.lst (k2.map V.str))->Q (.ref p) H')->nQ m vs H Q z1
def bF8:Nat->Sp
 |0=>fun _ _ _ _=>False
 |m+1=>nQ m
def zR:Nat->Sp
 |0=>fun _ _ _ _=>False
 |m+1=>fun vs H Q _=>∃(d l sc nl kn:Addr) (kd wd:Int) (xs ks:List Str) (deep:Int),vs=[.ref d,.ref sc,.ref kn,.int deep]/\We H d l sc nl kd wd xs/\H kn=some (.lst (ks.map V.str))/\kn≠l/\ks.length+lI (m+1)<=200/\m<=1/\deep=1-(m:Int) /\
 ∀(p kn':Addr) (r:Rw) (k2:List Str) (tells:Int) (H':Hp),We H' d l sc nl kd wd xs->eX [d,l,sc] H H'->H' p=some (.tup [.ref r.p,.int tells,.ref kn'])->eF H' r->RwE ks xs r k2 tells (m+1)->H kn'=none->H' kn'=some (.lst (k2.map V.str))->Q (.ref p) H'
inductive spPrgE(vs:List V)(H:Hp)(Q:VK)(z1:XK):Prop
 |mk:∀(d l kl nl:Addr) (ks xs:List Str) (room:Int),(vs=[.ref d,.ref kl,.ref nl,.int room])->(dJ H d l)->(H kl=some (.lst (ks.map V.str)))->(kl≠l)->(1<=ks.length)->(ks.length<=3)->(H nl=some (.lst (xs.map V.str)))->(nl≠l)->(1<=xs.length)->(xs.length<=9)->(∀(p:Addr) (rs:List Rw) (H':Hp),dJ H' d l->eW d l H H'->nN H' p ks rs 1->Q (.ref p) H')->spPrgE vs H Q z1
mutual
theorem bQ1:∀(r:Rw),(∀q∈gJ r,q.w≠"tell")->tel r=0
 |.thr _ _ _ _ _,_=>rfl
 |.lt _ _ _,_=>rfl
 |.tell p t,h=>absurd rfl (h (Rw.tell p t) aq)
 |.when _ _ _ _ a b,h=>pH a fun q hq=>h q (ak _ (bv _ hq))
 |.times _ _ n b,h=>by
  have e:=pH b fun q hq=>h q (ak _ hq)
  show n*eE b=0;rw[e,Int.mul_zero]
theorem pH:∀(rs:List Rw),(∀q∈dA rs,q.w≠"tell")->eE rs=0
 |[],_=>rfl
 |r::rs,h=>by
  show tel r+eE rs=0;rw[bQ1 r fun q hq=>h q (bv _ hq),pH rs fun q hq=>h q (bh _ hq)];rfl
end
theorem aI0{rs:List Rw}(h:1<=eE rs):∃s∈bR 0 rs,s.2.1.w="tell":=by
 by_cases c:∃q∈dA rs,q.w="tell"
 ·obtain⟨q,hq,e⟩:=c;rw[<-fX rs 0] at hq;obtain⟨s,hs,rfl⟩:=dh.mp hq;exact⟨s,(dr.mp hs).1,e⟩
 ·have:=pH rs fun q hq z=>c ⟨q,hq,z⟩
  lia
def sM(a b:Str)(tn:Int)(ws:List Str):Prop:=∀k w,ws[k]?=some w->w=sR a b tn k\/w=sR a b tn k++"q"
theorem aG7{a b:Str}{tn:Int}{i:Nat}{ws:List Str}(h:sM a b tn ws)(hl:ws.length=i){w:Str}(hw:w=sR a b tn i\/w=sR a b tn i++"q"):sM a b tn (ws++[w]):=fun k v hv=>by
 by_cases c:k<ws.length
 ·rw[sy c] at hv;exact h k v hv
 ·rw[jx (by lia)] at hv;have:k-ws.length=0:=by
   have:=(bf.mp hv).1;simp only[List.length_cons,List.length_nil] at this;lia
  rw[this] at hv;have hv:w=v:=by simpa using hv
  rw[<-hv,show k=i from by lia];exact hw
theorem bB4{a b:Str}{tn:Int}:∀{ws:List Str},sM a b tn ws->ws.length<=9->ws.Nodup:=by
 intro ws h hl;have:∀n,n<=ws.length->bR5 a b tn n (ws.take n):=by
  intro n
  induction n with
  |zero=>intro _;rw[List.take_zero];exact⟨oj,fun _ z=>nomatch z⟩
  |succ n ih =>
   intro hn;rw[aX (bc (show n<ws.length by lia))];exact aH1 (ih (by lia)) (by lia) (h n _ (bc (show n<ws.length by lia)))
 have:=this ws.length (ah _);rw[cm] at this;exact this.1
theorem aB9{α:Type}(l:List α):∀m:Nat,m<=l.length->(List.range m).filterMap (fun k=>l[k]?)=l.take m
 |0,_=>by simp
 |m+1,h=>by
  rw[List.range_succ,dw,aB9 l m (by lia),aX (bc (show m<l.length by lia))];rw[ny (b:=l[m]) (by rw[bc (show m<l.length by lia)]),List.filterMap_nil]
theorem aM4(z:Str)(h:z.length<=8):(Txt.slice z none (some 7)).cps.toList=z.cps.toList.take 7:=by
 have hz:z.cps.toList.length=z.length:=rfl;have e:Builtin.Str.strSliceIndices none (some 7) 1 z.length=List.range (min 7 z.length):=by
  have:z.length=0\/z.length=1\/z.length=2\/z.length=3\/z.length=4\/z.length=5\/z.length=6\/z.length=7\/z.length=8:=by lia
  rcases this with e|e|e|e|e|e|e|e|e<;>rw[e]<;>decide
 unfold Txt.slice;rw[e,za]
 split
 ·rename_i q
  have q:min 7 z.length=z.length:=by simpa using q
  rw[dk (by rw[hz];lia)]
 ·show(List.filterMap (fun x=>z.cps[x]?) (List.range (min 7 z.length))).toArray.toList=_;have:(fun x:Nat=>z.cps[x]?)=fun k:Nat=>z.cps.toList[k]?:=by
   funext k
   rw[gm]
  rw[this];have c:=aB9 z.cps.toList (min 7 z.length) (by rw[hz];lia);refine c.trans ?_
  by_cases h7:7<=z.length
  ·rw[jw h7]
  ·rw[uu (by lia),dk (by rw[hz];exact ah _),dk (by rw[hz];lia)]
theorem oK{x y:Str}(h:x.cps.toList=y.cps.toList):x=y:=by
 cases x;cases y
 exact dz Str.mk (uq.mp h)
theorem cE5{a b:Str}{tn:Int}{k:Nat}{w:Str}(hl:a.length+b.length<=6)(h:w=sR a b tn k\/w=sR a b tn k++"q"):Txt.slice w none (some 7)=sR a b tn k\/Txt.slice w none (some 7)=sR a b tn k++"q":=by
 have lk:=pP a b tn k;generalize sR a b tn k=v at lk h ⊢;have lv:v.cps.toList.length=v.length:=rfl;rcases h with rfl|rfl
 ·exact .inl (oK (by rw[aM4 _ (by lia),dk (by lia)]))
 ·have q1:("q": Str).length=1:=wV;have e:(v++"q").cps.toList=v.cps.toList++("q": Str).cps.toList:=by rw[pN,xm]
  have q2:("q": Str).cps.toList.length=1:=rfl;have s:=aM4 (v++"q") (by rw[ke];lia)
  by_cases c:v.length=7
  ·refine .inl (oK ?_);rw[s,e,List.take_append_of_le_length (by lia),dk (by lia)]
  ·refine .inr (oK ?_);rw[s,dk (by rw[e,ao];lia)]
theorem aL2{a b:Str}{tn:Int}{ws:List Str}(hl:a.length+b.length<=6)(h:sM a b tn ws):sM a b tn (ws.map fun w=>Txt.slice w none (some 7)):=fun k v hv=>by
 rw[cq] at hv
 cases e:ws[k]? with
 |none=>rw[e] at hv;cases hv
 |some w =>
  rw[e] at hv
  cases hv
  exact cE5 hl (h k w e)
theorem xS{a b:Str}{tn:Int}{ws:List Str}(hl:a.length+b.length<=6)(h:sM a b tn ws):∀w∈ws,w.length<=8:=fun w hw=>by
 obtain⟨k,e⟩:=we.mp hw;have lk:=pP a b tn k;rcases h k w e with rfl|rfl
 ·lia
 ·rw[ke,wV];lia
theorem aU9(x:Str):x++Str.empty=x:=oK (by rw[pN,xm];exact gz _)
theorem lU(z:Str)(lo hi:Option Int):(Txt.slice z lo hi).length<=(Builtin.Str.strSliceIndices lo hi 1 z.length).length:=by
 unfold Txt.slice
 split
 ·rename_i q
  have q:(Builtin.Str.strSliceIndices lo hi 1 z.length).length=z.length:=by simpa using q
  lia
 ·exact gp _ _
theorem bD2{z:Str}{j:Int}(h:z.length<=6)(j0:0<=j)(j1:j<(z.length:Int)+1):(Txt.slice z none (some j)).length+(Txt.slice z (some j) none).length<=6:=by
 obtain⟨i,rfl⟩:=fu j0;have key:∀n:Nat,n<7->∀i:Nat,i<n+1->(Builtin.Str.strSliceIndices none (some (i:Int)) 1 n).length+(Builtin.Str.strSliceIndices (some (i:Int)) none 1 n).length<=6:=by decide
 have:=key z.length (by lia) i (by lia);have a:=lU z none (some (i:Int));have b:=lU z (some (i:Int)) none;lia
inductive spNamesE(vs:List V)(H:Hp)(Q:VK)(z1:XK):Prop
 |mk:∀(d l:Addr) (m:Int),(vs=[.ref d,.int m])->(dJ H d l)->(0<=m)->(m<=9)->(∀(p:Addr) (ws:List Str) (a b:Str) (tn:Int) (H':Hp),dJ H' d l->eW d l H H'->H p=none->H' p=some (.lst (ws.map V.str))->ws.length=m.toNat->a.length+b.length<=6->sM a b tn ws->Q (.ref p) H')->spNamesE vs H Q z1
section
variable {ks k1 k2 k3 k4 xs:List Str}{m n i:Nat}{a b rs:List Rw}{r:Rw}{x:Str}{t u:Int}
theorem aN0{i j:Nat}{σ:St}{H:Hp}{Q:VK}{deep:Int}{d l:Addr}(h3:σ[i]?=some (some (.int deep)))(h0:σ[j]?=some (some (.ref d)))(D:dJ H d l)(k:∀(e:Bool) (H2:Hp),dJ H2 d l->eW d l H H2->(e=true->deep=0)->Q (.bl e) H2):bH0 (tOp rEq (xY i) (tC (.int 0))) (tOp rEq (qL spDraw [] E0 (pY (xY j) (pY (tC (.int 2)) tNil))) (tC (.int 1))) σ H Q:=by
 refine⟨_,h3,rfl,_,rfl,?_⟩
 by_cases c:deep=0
 ·subst c;exact bH (af rfl) ⟨_,h0,d,l,2,rfl,D,by decide,by decide,fun x H2 _ _ D2 o2=>⟨rfl,k _ H2 D2 o2 fun _=>rfl⟩⟩
 ·have e:decide (V.int deep=V.int 0)=false:=ba fun z=>c (by injection z)
  rw[e];exact aV (by simp) (k false H D (eW.refl _) fun z=>nomatch z)
theorem mG(m:Nat):1<=lI m:=by
 rcases m with _|_|m<;>simp only[lI]<;>lia
theorem bA5(m:Nat):1<=zL m:=by
 rcases m with _|_|m<;>simp only[zL]<;>lia
theorem bR3.row(h:bR3 ks x r)(hx:x∈xs):RwE ks xs r (ks++[x]) 0 m:=by
 have:=mG m;rcases h with⟨p,w,us,rfl,hu⟩|⟨p,t,rfl,nm,sz⟩
 ·refine⟨⟨rfl,rfl⟩,rfl,trivial,mw _,by lia,this,bt _,trivial,fun q hq p w x us' am e=>?_,fun y hy=>?_⟩
  ·rw[cg.mp hq] at e;injection e with _ _ _ e
   rw[<-e];exact hu
  ·have:y=x:=by simpa [dU,dA,gJ,Rw.sets] using hy
   rw[this];exact hx
 ·refine⟨⟨rfl,nm⟩,rfl,trivial,mw _,by lia,this,bt _,sz,fun q hq p w x us' am e=>?_,fun y hy=>?_⟩
  ·rw[cg.mp hq] at e
   cases e
  ·have:y=x:=by simpa [dU,dA,gJ,Rw.sets] using hy
   rw[this];exact hx
theorem aM1{p:Addr}{t:Tm}(nm:∀y∈t.names,y∈ks)(sz:t.size<=7):RwE ks xs (.tell p t) ks 1 m:=by
 have:=mG m;have:=bA5 m;refine⟨⟨rfl,nm⟩,rfl,trivial,by decide,by lia,by assumption,bt _,sz,fun q hq p w x us' am e=>?_,fun y hy=>?_⟩
 ·rw[cg.mp hq] at e
  cases e
 ·exact absurd hy (by simp[dU,dA,gJ,Rw.sets])
theorem sE.nil:sE ks xs [] ks 0 m 0:=⟨rfl,rfl,trivial,mw _,by lia,bt _,bt _,trivial,(fun q hq=>by exact absurd hq (by simp[dA])),(fun y hy=>by exact absurd hy (by simp[dU,dA]))⟩
theorem sE.mono(h:sE ks xs rs k2 t m i)(hi:i<=n):sE ks xs rs k2 t m n:=
 ⟨h.sc,h.tl,h.tk,h.t0,Int.le_trans h.t1 (Int.ofNat_le.mpr (qo _ hi)),cp h.ct (qo _ hi),h.dp,h.tz,h.us,h.st⟩
theorem sE.snoc(h:sE ks xs rs k1 t m i)(g:RwE k1 xs r k2 u m):sE ks xs (rs++[r]) k2 (t+u) m (i+1):=by
 have e1:(i+1)*zL m=i*zL m+zL m:=yk _ _;have e2:(i+1)*lI m=i*lI m+lI m:=yk _ _;have h1:=h.t0;have h2:=h.t1;have h3:=h.ct;have g1:=g.t0;have g2:=g.t1;have g3:=g.ct;refine⟨fO.app (ks:=ks) h.sc g.sc,?_,cA.app h.tk ⟨g.tk,trivial⟩,by lia,by lia,?_,uV h.dp g.dp,iH.app h.tz ⟨g.tz,trivial⟩,fun q hq=>?_,fun y hy=>?_⟩
 ·rw[nA,h.tl];simp only[eE];rw[g.tl];lia
 ·rw[jV];simp only[bP];lia
 ·rw[fL] at hq;rcases bp.mp hq with z|z
  ·exact h.us q z
  ·exact g.us q (by simpa [dA] using z)
 ·rw[vV] at hy;rcases bp.mp hy with z|z
  ·exact h.st y z
  ·exact g.st y z
theorem aX6(hm:m<=1)(h1:n<=2)(h2:m=0->n<=1):n*lI m<=lI (m+1)/\n*zL m<=2/\n*lI m+n*zL m+2<=lI (m+1):=by
 have:m=0\/m=1:=by lia
 rcases this with rfl|rfl
 ·have:=h2 rfl;simp only[lI,zL];lia
 ·simp only[lI,zL];lia
theorem sE.when{p pa pb:Addr}{tt:Tm}{nb:Nat}(A:sE ks xs a k3 t m n)(B:sE ks xs b k4 t 0 nb)(hb:(nb:Int)<=1+t)(hm:m<=1)(h1:n<=2)(h2:m=0->n<=1)(nm:∀y∈tt.names,y∈ks)(sz:tt.size<=7):RwE ks xs (.when p pa pb tt a b) (k3.filter fun x=>decide (x∈k4)) t (m+1):=by
 obtain⟨c1,c2,c3⟩:=aX6 hm h1 h2;have a1:=A.t1;have a2:=A.ct;have a3:=A.dp;have b2:=B.ct;have b3:=B.dp;have e:nb*lI 0=nb:=Nat.mul_one _;refine⟨⟨nm,k3,k4,A.sc,B.sc,rfl⟩,A.tl,⟨by rw[A.tl,B.tl],A.tk,B.tk⟩,A.t0,?_,?_,?_,⟨sz,A.tz,B.tz⟩,fun q hq=>?_,fun y hy=>?_⟩
 ·have:m=0\/m=1:=by lia
  rcases this with rfl|rfl
  ·have:=h2 rfl;simp only[zL] at a1 ⊢;lia
  ·simp only[zL] at a1 ⊢;lia
 ·simp only[Rw.cnt];lia
 ·simp only[Rw.dp];lia
 ·intro p' w x us am e;rcases bu.mp hq with z|z
  ·rw[z] at e;cases e
  ·rcases bp.mp z with z|z
   ·exact A.us q z p' w x us am e
   ·exact B.us q z p' w x us am e
 ·rw[nG] at hy;rcases bp.mp hy with z|z
  ·exact A.st y z
  ·exact B.st y z
theorem sE.times{p pb:Addr}{j:Int}(B:sE ks xs b k2 t 1 n)(h1:n<=2)(j1:1<=j)(j3:j<=3):RwE ks xs (.times p pb j b) k2 (j*t) 2:=by
 have b0:=B.t0;have b1:=B.t1;have b2:=B.ct;have b3:=B.dp;simp only[lI,zL] at b1 b2;have hj:j=1\/j=2\/j=3:=by lia
 refine⟨B.sc,by show j*eE b=_;rw[B.tl],⟨⟨by lia,by lia,by rw[B.tl];exact b0,by rw[B.tl];lia⟩,B.tk⟩,?_,?_,?_,?_,B.tz,fun q hq=>?_,fun y hy=>?_⟩
 ·rcases hj with rfl|rfl|rfl<;>lia
 ·simp only[zL];rcases hj with rfl|rfl|rfl<;>lia
 ·simp only[Rw.cnt,lI];lia
 ·simp only[Rw.dp];lia
 ·intro p' w x us am e;rcases bu.mp hq with z|z
  ·rw[z] at e;cases e
  ·exact B.us q z p' w x us am e
 ·rw[kY] at hy;exact B.st y hy
end
end Mine
namespace L2
open PySem PySem.Spec PyProof.Rows
theorem aQ3{P:Program}{w:World}{knd:KeyKind P w Key}{i:Nat}:∀{es:List DictEntry}{vs:List (Key×Value)}{e:DictEntry},Pairs knd es vs->es[i]?=some e->∃kv,vs[i]?=some kv/\knd.is kv.1 e.key=true:=by
 induction i with
 |zero =>
  intro es vs e h he
  cases h with
  |nil=>cases he
  |@cons e' kv _ _ a b c=>cases he;exact⟨kv,rfl,a⟩
 |succ i ih =>
  intro es vs e h he
  cases h with
  |nil=>cases he
  |@cons e' kv _ _ a b c=>exact ih c he
theorem bT2{i:Nat}:∀{kvs:List (Key×V)}{vs:List (Key×Value)}{kv:Key×Value},KV kvs vs->vs[i]?=some kv->∃p,kvs[i]?=some p/\p.1=kv.1:=by
 induction i with
 |zero =>
  intro kvs vs kv h he
  cases h with
  |nil=>cases he
  |cons a b=>cases he;exact⟨_,rfl,a.1⟩
 |succ i ih =>
  intro kvs vs kv h he
  cases h with
  |nil=>cases he
  |cons a b=>exact ih b he
section
variable {X:Cx}
theorem oQ(hc:autoParam (X.calm=true) Rq0._auto_1):eA X (.type "list") (fun xs H Q=>∃(d:Addr) (kvs:List (Key×V)),xs=[.ref d]/\H d=some (.dK kvs)/\∀l,H l=none->Q (.ref l) (aN H l (.lst (kvs.map fun kv=>kV kv.1)))):=by
 intro pins s σ H xs us Q I r h;obtain⟨d,kvs,rfl,hd,q⟩:=h;obtain⟨u,rfl,ru⟩:=gN r
 cases ru
 obtain⟨z,hs,vs,rel,o,es,ep,g1,g2,g3,g4,g5,g6⟩:=qJ I.hok hd;have sz:es.size=kvs.length:=by rw[gj rel, <-g5.length,eo]
 refine W.kdl_call (bP1 (o:=o) (es:=es) (ep:=ep) hs g2 g3) (I.ok.hd hc) g1 (by rw[sz];exact z) fun h' tk acc c kp hl ai=>?_
 have f:=I.hok.fresh (ah s.heap.objs.size);have al:acc.toList.length=(kvs.map fun kv=>kV kv.1).length:=by rw[eo,ai.1,sz,ac]
 refine⟨.ref s.heap.objs.size,_,I.laid (o:= .lst (kvs.map fun kv=>kV kv.1)) (t':=tk) kp (ah _) ⟨by rw[ac];exact z,acc.toList,c,?_,by rw[hl,qc]⟩,rfl,q _ f⟩;refine aP1 al fun i y hy=>?_
 obtain⟨e,he,ey⟩:=ai.2 i y (by rw[<-gm];exact hy);rw[<-gm] at he;obtain⟨kv,hkv,his⟩:=aQ3 g5 he;obtain⟨p,hp,ep⟩:=bT2 rel hkv;refine⟨kV p.1,by rw[cq,hp];rfl,?_⟩;rw[ey];exact aB7 (by rw[ep];exact his)
def bQ4(tl:TE):TI:=fun σ H R=>tl σ H fun x H1=>∃d o kvs,x= .ref d/\H1 d=some (.frz o (.dK kvs))/\R (Itd d o kvs) H1
theorem aS9{tg l:Expr}{tl:TE}(hl:PE X l tl):PI X tg l (bQ4 tl):=by
 intro pins s σ H R I h;refine cK (hl pins s σ H _ I h) ?_;rintro v s1 ⟨x,H1,I1,r1,q1⟩
 obtain⟨d,o,kvs,e,hd,q⟩:=q1;subst e
 cases r1
 obtain⟨e,z,ns,vs,rel,o',es,ep,h1,h2,h3,h4,h5,h6⟩:=(show bU X.prog X.w H1 s1.heap d (.frz o (.dK kvs)) from I1.hok d _ hd)
 rw[e] at h1
 cases h1
 have hl:kvs.length=vs.length:=gj rel;refine yu (knd:=aW X.prog X.w) ns ⟨o,es,e,h2,h3,h4,h5,h6⟩ ?_;have f:H1 s1.heap.objs.size=none:=I1.hok.fresh (ah _);refine⟨s1.heap.objs.size,[s1.heap.objs.size],_,_,_,rfl,I1.kept (t':=s1.toks) fun b o e=>ae _ e,tE d _ o kvs h3,⟨bt _,⟨_,bb _ rfl,rfl,by rw[hl];rfl⟩⟩,fun b hb=>?_,q⟩;have e:b=s1.heap.objs.size:=by simpa using hb
 subst e;exact I1.fpOk (ah _) f
end
end L2
namespace Mine
open PySem L2
theorem rA{H:Hp}{d:Addr}{as:List (Str×Str)}(h:NmD H d as)(x:Str):∃o,fK H d (.str x) o/\o.getD (.str x)= .str (nuA as x):=by
 refine⟨_,fK.k (k:=Sum.inr x) h,?_⟩;rw[aB5];unfold nuA
 cases as.lookup x<;>rfl
theorem yX{H:Hp}{d:Addr}{as:List (Str×Str)}(h:NmD H d as):IsD H d:= .inl ⟨_,.inl h⟩
theorem aF2{a b:V}{r:List V}:iF (a::b::r) (some 2) none=r:=by
 show((a::b::r).drop (min 2 (r.length+1+1))).take (r.length+1+1-min 2 (r.length+1+1))=r;rw[jw (by lia)];simp
theorem aF5{a b:V}{r:List V}:¬(HT.sIx (a::b::r).length 0 (some 2)=0/\HT.sIx (a::b::r).length (a::b::r).length none=(a::b::r).length):=by
 show ¬(min 2 (r.length+1+1)=0/\_);rw[jw (by lia)];exact fun z=>absurd z.1 (by decide)
def alpha:Str:="abcdefghijklmnopqrstuvwxyz"
abbrev sL(z:Str):List Nat:=z.cps.toList
theorem uC(c:Nat):c∈sL alpha↔97<=c/\c<=122:=by
 refine⟨fun h=>?_,fun h=>?_⟩
 ·have:∀c∈sL alpha,97<=c/\c<=122:=by decide
  exact this c h
 ·have:∀n:Fin 26,97+n.val∈sL alpha:=by decide
  have:=this ⟨c-97,by lia⟩;rw[show 97+(c-97)=c from by lia] at this;exact this
theorem aU0{p:Nat->Prop}[DecidablePred p](l:List Nat):(l.map fun c=>decide (p c)).all id=decide (∀c∈l,p c):=by
 induction l with
 |nil=>simp
 |cons x r ih=>rw[ek,xc,ih];simp
theorem aC9{H:Hp}{w:Str}{us:List V}{am:Bool}(h:mY H w us am):us.length<=900:=by
 rcases h with⟨_,_,_,_,_,rfl,_⟩|⟨_,_,_,_,_,rfl,_⟩|⟨_,_,_,_,_,_,_,_,_,rfl,_⟩<;>show _<=900<;>simp
def iI(kvs:List (Key×V))(xs:List Str):Prop:=kvs.map (·.1)=xs.map (fun x=>(Sum.inr x:Key))/\xs.Nodup
theorem iI.nil:iI [] []:=⟨rfl,oj⟩
theorem iI.any{kvs:List (Key×V)}{xs:List Str}(h:iI kvs xs)(x:Str):(kvs.any fun kv=>decide (kv.1=(Sum.inr x:Key)))=decide (x∈xs):=by
 rw[ii,jc,fh];refine⟨fun⟨kv,hkv,e⟩=>?_,fun c=>?_⟩
 ·have:kv.1∈xs.map (fun x=>(Sum.inr x:Key)):=by rw[<-h.1];exact jn hkv
  rw[ag e] at this;obtain⟨y,hy,e⟩:=dh.mp this;injection e with e
  rw[<-e];exact hy
 ·have:(Sum.inr x:Key)∈kvs.map (·.1):=by rw[h.1];exact dh.mpr ⟨x,c,rfl⟩
  obtain⟨kv,hkv,e⟩:=dh.mp this;exact⟨kv,hkv,af e⟩
theorem iI.put{kvs:List (Key×V)}{xs:List Str}(h:iI kvs xs)(x:Str)(v:V):∃ys,iI (dI kvs (Sum.inr x) v) ys/\∀y,y∈ys↔y∈xs\/y=x:=by
 unfold dI;rw[h.any]
 by_cases c:x∈xs
 ·rw[af c,bg rfl];refine⟨xs,⟨?_,h.2⟩,fun y=>⟨.inl,fun z=>z.elim id (fun e=>e ▸ c)⟩⟩;rw[kq, <-h.1];refine xk fun kv _=>?_
  show(if kv.1=_ then (kv.1,v) else kv).1=kv.1
  split<;>rfl
 ·rw[ba c,av (by decide)];refine⟨xs++[x],⟨by rw[au,h.1,au];rfl,?_⟩,fun y=>by simp⟩;rw[jk];exact⟨h.2,by simp,fun a ha b hb e=>c (by rw[List.mem_singleton.mp hb] at e;rw[<-e];exact ha)⟩
theorem iI.get{kvs:List (Key×V)}{xs:List Str}(h:iI kvs xs)(x:Str):(dP kvs (Sum.inr x:Key)).isSome=decide (x∈xs):=by rw[<-gG,h.any]
theorem iI.len{kvs:List (Key×V)}{xs:List Str}(h:iI kvs xs):kvs.length=xs.length:=by
 have:=dz List.length h.1
 rwa [ac,ac] at this
def eU(d:Addr)(H G:Hp):Prop:=∀c u,H c=some u->c≠d->G c=some u
theorem eU.refl{d:Addr}{H:Hp}:eU d H H:=fun _ _ e _=>e
theorem eU.trans{d:Addr}{H G F:Hp}(a:eU d H G)(b:eU d G F):eU d H F:=fun c u e n=>b c u (a c u e n) n
theorem eU.of{d:Addr}{H G:Hp}(s:bD H G):eU d H G:=fun c u e _=>s c u e
theorem eU.upd{d:Addr}{H:Hp}{o:HO}:eU d H (aN H d o):=fun c u e n=>(aH n).trans e
theorem eU.ts{d:Addr}{H G:Hp}{kvs:List (Key×V)}(a:eU d H G)(h:H d=some (.dK kvs)):TS H G:=fun p ys e=>a p _ e (fun z=>by rw[z,h] at e;cases e)
theorem eU.same{d:Addr}{H H1 G:Hp}(a:eU d H1 G)(s:bD H H1)(h:H d=none):bD H G:=fun c u e=>a c u (s c u e) (fun z=>by rw[z,h] at e;cases e)
theorem gO.names{H:Hp}{d:Addr}{kvs:List (Key×V)}{xs:List Str}(h:H d=some (.dK kvs))(q:iI kvs xs)(hl:xs.length<=900)(x:Str)(v:V):∃(kvs':List (Key×V)) (ys:List Str),gO H d (.str x) v (aN H d (.dK kvs'))/\iI kvs' ys/\∀y,y∈ys↔y∈xs\/y=x:=by
 obtain⟨ys,a,b⟩:=q.put x v;exact⟨_,ys,gO.k (k:=Sum.inr x) h (aL (by rw[q.len];lia)),a,b⟩
theorem oM{rs:List Rw}{i:Nat}{v:V}(h:(bL rs)[i]?=some v):∃q,rs[i]?=some q/\v= .ref q.p:=by
 unfold bL at h;rw[cq] at h
 cases e:rs[i]? with
 |none=>rw[e] at h;cases h
 |some q=>rw[e] at h;exact⟨q,rfl,(dg h).symm⟩
def wC(ts:List Str):List (Key×V):=ts.foldl (fun acc x=>dI acc (Sum.inr x) (.bl true)) []
theorem wM(ts:List Str)(x:Str):wC (ts++[x])=dI (wC ts) (Sum.inr x) (.bl true):=by unfold wC;rw[yv];rfl
theorem aT8(ts:List Str):∃ys,iI (wC ts) ys/\∀y,y∈ys↔y∈ts:=by
 have:∀n,∃ys,iI (wC (ts.take n)) ys/\∀y,y∈ys↔y∈ts.take n:=by
  intro n
  induction n with
  |zero=>exact⟨[],iI.nil,fun y=>by simp⟩
  |succ n ih =>
   obtain⟨ys,a,b⟩:=ih
   cases e:ts[n]? with
   |none =>
    have hl:ts.length<=n:=List.getElem?_eq_none_iff.mp e;rw[dk hl] at a b;rw[dk (by lia)];exact⟨ys,a,b⟩
   |some x =>
    rw[aX e,wM];obtain⟨zs,c,d⟩:=a.put x (.bl true);exact⟨zs,c,fun y=>by rw[d y,b y];simp⟩
 have:=this ts.length
 rwa [cm] at this
theorem bD1:∀ts:List Str,(wC ts).length<=ts.length:=fun ts=>by
 obtain⟨ys,a,b⟩:=aT8 ts;rw[a.len];exact aR8 a.2 fun y hy=>(b y).mp hy
def BlV(H:Hp)(v:V)(x:Str):Prop:=∃t,v= .ref t/\H t=some (.tup [.str x,.bl true])
theorem BlV.ts{H H':Hp}(t:TS H H'){v:V}{x:Str}(h:BlV H v x):BlV H' v x:=by obtain⟨a,e,k⟩:=h;exact⟨a,e,t _ _ k⟩
theorem aS3{H:Hp}{d:Addr}{ys:List V}{ts:List Str}(tw:fQ (BlV H) ys ts)(pl:ts.length<=900)(hd:H d=none):zF H d ys fun i=> .dK (wC (ts.take i)):=fun i hi=>by
 obtain⟨x,hx,t,e,ht⟩:=lO tw (bc hi);refine⟨t,.str x,.bl true,by rw[bc hi,e],ht,?_⟩;have ln:=bD1 (ts.take i);rw[ci] at ln;have:=gO.k (k:=(Sum.inr x:Key)) (v:=V.bl true) (H:=aN H d (.dK (wC (ts.take i)))) (a:=d) aC (aL (by lia));rw[aE8] at this
 dsimp only
 rw[aX hx,wM];exact this
theorem bJ2{T bs:List Str}{j a:Nat}{b:Str}(hb:bs[j]?=some b)(hf:(fr T)[j]?=some a):(ass T bs)[j]?=some (b,sp a):=by
 unfold ass;rw[cq,(ng (z:=(b,a))).mpr ⟨hb,hf⟩];rfl
theorem bB7{T bs:List Str}{j a:Nat}{b:Str}(nd:bs.Nodup)(hb:bs[j]?=some b)(hf:(fr T)[j]?=some a) :
  dI (((ass T bs).take j).map fun p=>((Sum.inr p.1:Key),V.str p.2)) (Sum.inr b) (.str (sp a))=((ass T bs).take (j+1)).map fun p=>((Sum.inr p.1:Key),V.str p.2):=by
 rw[aX (bJ2 hb hf),au];unfold dI;rw[av]
 ·rfl
 ·intro h;obtain⟨kv,hkv,e⟩:=jc.mp h;obtain⟨pr,hpr,rfl⟩:=dh.mp hkv;have e:pr.1=b:=by have e:=ag e;injection e
  obtain⟨i,hi⟩:=we.mp hpr;have ij:i<j:=by
   have:=(bf.mp hi).1;rw[ci] at this;lia
  rw[tu ij] at hi;unfold ass at hi;rw[cq] at hi
  cases q:(bs.zip (fr T))[i]? with
  |none=>rw[q] at hi;cases hi
  |some z =>
   rw[q] at hi
   cases hi
   have hz:=(ng.mp q).1;have e:z.1=b:=e;rw[e] at hz;obtain⟨h1,e1⟩:=bf.mp hz;obtain⟨h2,e2⟩:=bf.mp hb;have:=(List.pairwise_iff_getElem.mp nd) i j h1 h2 ij;exact this (e1.trans e2.symm)
theorem wA{kvs:List (Key×V)}{xs:List Str}(h:kvs.map (·.1)=xs.map (fun x=>(Sum.inr x:Key))):(kvs.map fun kv=>kV kv.1)=xs.map V.str:=by
 have:(kvs.map fun kv=>kV kv.1)=(kvs.map (·.1)).map kV:=by rw[kq];rfl
 rw[this,h,kq];rfl
theorem vA{α:Type}{R:V->α->Prop}{v:V}{a:α}(r:R v a):∀{vs:List V}{as:List α},fQ R vs as->fQ R (vs++[v]) (as++[a])
 |[],[],_=>⟨r,trivial⟩
 |[],_::_,h=>h.elim
 |_::_,[],h=>h.elim
 |_::_,_::_,⟨h,k⟩=>⟨h,vA r k⟩
end Mine
namespace L2
open PySem
theorem bI6{X:Cx}(K:W.Frag)(hK:autoParam (X.K=K) Rq0._auto_1):eA X (.type "tuple") (fun xs H Q=>∃p ys,xs=[.ref p]/\((bK K H p ys/\∀l,H l=none->Q (.ref l) (aN H l (.tup ys)))\/(aR K H p ys/\Q (.ref p) H))):=by subst hK;exact cY
end L2
namespace Mine
open PySem L2
def bd(s:Stp)(n:Nat):Option Nat:=
 if eR s=true then some (n+1) else if s.1="row" then (if 1<=n then some n else none)
 else match s.2.1 with
  |.when _ _ _ _ _ _=>if 3<=n then some (n-2) else none
  |.times _ _ _ _=>if 2<=n then some (n-1) else none
  |.thr _ _ _ _ _=>none
  |.lt _ _ _=>none
  |.tell _ _=>none
theorem vD{w:Str}{r:Rw}{k n:Nat}(o:uQ w r.w=true):bd (w,r,k) n=some (n+1):=by
 unfold bd;rw[bg (show eR (w,r,k)=true from o)]
theorem aA5{r:Rw}{k n:Nat}(o:uQ "row" r.w=false)(h:1<=n):bd (("row": Str),r,k) n=some n:=by
 unfold bd;rw[av (show ¬eR (("row": Str),r,k)=true by rw[show eR (("row": Str),r,k)=false from o];exact bj),bg rfl,bg h]
theorem oE{s:Stp}{n m:Nat}(h:bd s n=some m):dL bd [s] n=some m:=by show(bd s n).bind some=_;rw[h];rfl
theorem bF0{p pa pb:Addr}{t:Tm}{a b:List Rw}{k n:Nat}(h:3<=n):bd (("end": Str),Rw.when p pa pb t a b,k) n=some (n-2):=by
 unfold bd;rw[av (show ¬eR (("end": Str),Rw.when p pa pb t a b,k)=true by rw[show eR (("end": Str),Rw.when p pa pb t a b,k)=false from bB1 _];exact bj),av gX];exact bg h
theorem aU3{p pb:Addr}{m:Int}{b:List Rw}{k n:Nat}(h:2<=n):bd (("end": Str),Rw.times p pb m b,k) n=some (n-1):=by
 unfold bd;rw[av (show ¬eR (("end": Str),Rw.times p pb m b,k)=true by rw[show eR (("end": Str),Rw.times p pb m b,k)=false from bB1 _];exact bj),av gX];exact bg h
mutual
theorem bA4:∀(r:Rw) (k n:Nat),WdR r->1<=n->dL bd (bY k r) n=some n
 |.thr p w x us am,k,n,hw,hn=>oE (aA5 (bQ3 hw) hn)
 |.lt p x t,k,n,_,hn=>oE (aA5 bL2 hn)
 |.tell p t,k,n,_,hn=>oE (aA5 bI7 hn)
 |.when p pa pb t a b,k,n,hw,hn=>by
  simp only[bY];show(bd _ n).bind (dL bd _)=_;rw[vD bN1];show dL bd _ (n+1)=_;rw[cH,cH,cH,jW a (k+1) (n+1) hw.1 (by lia)];rw[iq,oE (vD (bR9 _)),iq,jW b _ (n+1+1) hw.2 (by lia),iq];exact oE (bF0 (by lia))
 |.times p pb m b,k,n,hw,hn=>by
  simp only[bY];show(bd _ n).bind (dL bd _)=_;rw[vD bR2];show dL bd _ (n+1)=_;rw[cH,jW b (k+1) (n+1) hw (by lia)];rw[iq];exact oE (aU3 (by lia))
theorem jW:∀(rs:List Rw) (k n:Nat),WdL rs->1<=n->dL bd (bR k rs) n=some n
 |[],k,n,_,_=>rfl
 |r::rs,k,n,hw,hn=>by
  simp only[bR];rw[cH,bA4 r k n hw.1 hn];exact jW rs _ n hw.2 hn
end
def mF(G:Hp)(n:Nat):List Addr->BSt->Prop
 |[],[]=>True
 |a::as,B::st=>(G a=some (.lst (bL B))/\aZ G B/\B.length<=n)/\mF G n as st
 |[],_::_=>False
 |_::_,[]=>False
theorem mF.len{G:Hp}{n:Nat}:∀{as:List Addr}{c:BSt},mF G n as c->as.length=c.length
 |[],[],_=>rfl
 |_::_,_::_,⟨_,h⟩=>by rw[bz,bz,mF.len h]
 |[],_::_,h=>h.elim
 |_::_,[],h=>h.elim
theorem mF.at{G G':Hp}{n m:Nat}(t:TS G G')(hm:n<=m):∀{as:List Addr}{c:BSt},mF G n as c->(∀a∈as,∀o,G a=some o->G' a=some o)->mF G' m as c
 |[],[],_,_=>trivial
 |a::_,_::_,⟨⟨h1,h2,h3⟩,h⟩,k=>⟨⟨k a aq _ h1,aZ.ts t _ h2,by lia⟩,mF.at t hm h fun b hb=>k b (ak _ hb)⟩
 |[],_::_,h,_=>h.elim
 |_::_,[],h,_=>h.elim
theorem mF.split{G:Hp}{n:Nat}{D:BSt}:∀{C:BSt}{as:List Addr},mF G n as (C++D)->∃xs ys,as=xs++ys/\mF G n xs C/\mF G n ys D
 |[],as,h=>⟨[],as,rfl,trivial,h⟩
 |_::C,a::as,⟨h,k⟩=>by
  obtain⟨xs,ys,e,p,q⟩:=mF.split (C:=C) k;exact⟨a::xs,ys,by rw[e];rfl,⟨h,p⟩,q⟩
 |_::_,[],h=>h.elim
theorem mF.app{G:Hp}{n:Nat}{D:BSt}{ys:List Addr}(q:mF G n ys D):∀{C:BSt}{xs:List Addr},mF G n xs C->mF G n (xs++ys) (C++D)
 |[],[],_=>q
 |_::_,_::_,⟨h,k⟩=>⟨h,mF.app q k⟩
 |[],_::_,h=>h.elim
 |_::_,[],h=>h.elim
theorem mF.rev{G:Hp}{n:Nat}:∀{C:BSt}{xs:List Addr},mF G n xs C->mF G n xs.reverse C.reverse
 |[],[],_=>trivial
 |B::C,a::xs,⟨h,k⟩=>by
  rw[db,db];exact mF.app (D:=[B]) (ys:=[a]) ⟨h,trivial⟩ (mF.rev k)
 |[],_::_,h=>h.elim
 |_::_,[],h=>h.elim
theorem mF.get{G:Hp}{n:Nat}{a:Addr}:∀{C:BSt}{xs:List Addr}{i:Nat},mF G n xs C->xs[i]?=some a->∃B,C[i]?=some B/\G a=some (.lst (bL B))/\aZ G B/\B.length<=n
 |B::C,b::xs,0,⟨h,k⟩,e=>by cases e;exact⟨B,rfl,h⟩
 |B::C,b::xs,i+1,⟨h,k⟩,e=>mF.get (C:=C) (xs:=xs) (i:=i) k e
 |[],[],i,_,e=>by cases e
 |[],_::_,_,h,_=>h.elim
 |_::_,[],_,h,_=>h.elim
def aA0(G:Hp)(v:V)(B:List Rw):Prop:=∃t,v= .ref t/\G t=some (.tup (bL B))/\aZ G B
theorem aA0.ts{G G':Hp}(t:TS G G'){v:V}{B:List Rw}(h:aA0 G v B):aA0 G' v B:=by obtain⟨a,e,k,r⟩:=h;exact⟨a,e,t _ _ k,aZ.ts t _ r⟩
theorem aL7{Chg:Nat->Rw->List Rw->Prop}{G:Hp}{c:BSt}{s:Stp}{m:Nat}(hr:eF G s.2.1)(ho:¬eR s=true)(hn:¬s.1="row")(hb:bd s c.length=some m) :
  ∃(Bs:List (List Rw)) (B:List Rw) (st:BSt) (x y:V) (us:List V),c=Bs.reverse++(B::st)/\Bs.length=us.length/\(us.length=1\/us.length=2)/\m=(B::st).length/\G s.2.1.p=some (.tup (x::y::us)) /\
   ∀(q:Addr) (ys:List V) (G':Hp),G' q=some (.tup (x::y::ys))->fQ (aA0 G') ys Bs->TS G G'->∃r',r'.p=q/\eF G' r'/\∀o,Chg s.2.2 r' o->iS Chg s c ((B++o)::st):=by
 obtain⟨w,r,k⟩:=s;unfold bd at hb;rw[av ho,av hn] at hb
 cases r with
 |thr p w x us am=>cases hb
 |lt p x t=>cases hb
 |tell p t=>cases hb
 |when p pa pb t a b =>
  have hb:(if 3<=c.length then some (c.length-2) else none)=some m:=hb
  by_cases c3:3<=c.length
  ·rw[bg c3] at hb;obtain⟨B2,B1,B,st,rfl⟩:∃B2 B1 B st,c=B2::B1::B::st:=by
    match c,c3 with
    |B2::B1::B::st,_=>exact⟨_,_,_,_,rfl⟩
   cases hb
   refine⟨[B1,B2],B,st,_,_,[.ref pa,.ref pb],rfl,rfl,.inr rfl,rfl,hr.1,fun q ys G' hq tw tt=>?_⟩
   match ys,tw with
   |[v1,v2],⟨⟨t1,e1,h1,r1⟩,⟨t2,e2,h2,r2⟩,_⟩ =>
    subst e1 e2;refine⟨.when q t1 t2 t B1 B2,rfl,⟨hq,hr.2.1.ts tt,hr.2.2.1,h1,h2,r1,r2⟩,fun o ho'=>?_⟩;unfold iS;rw[av ho,av hn];exact⟨B2,B1,B,st,q,t1,t2,o,rfl,ho',rfl⟩
  ·rw[av c3] at hb;cases hb
 |times p pb j b =>
  have hb:(if 2<=c.length then some (c.length-1) else none)=some m:=hb
  by_cases c3:2<=c.length
  ·rw[bg c3] at hb;obtain⟨B1,B,st,rfl⟩:∃B1 B st,c=B1::B::st:=by
    match c,c3 with
    |B1::B::st,_=>exact⟨_,_,_,rfl⟩
   cases hb
   refine⟨[B1],B,st,_,_,[.ref pb],rfl,rfl,.inl rfl,rfl,hr.1,fun q ys G' hq tw tt=>?_⟩
   match ys,tw with
   |[v1],⟨⟨t1,e1,h1,r1⟩,_⟩ =>
    subst e1;refine⟨.times q t1 j B1,rfl,⟨hq,h1,r1⟩,fun o ho'=>?_⟩;unfold iS;rw[av ho,av hn];exact⟨B1,B,st,q,t1,o,rfl,ho',rfl⟩
  ·rw[av c3] at hb;cases hb
theorem bD6{ys zs:List V}{m:Nat}(hm:zs.length=m)(h:1<=m):iF (ys++zs) (some (-(m:Int))) none=zs:=by
 have e:HT.sIx (ys++zs).length 0 (some (-(m:Int)))=ys.length:=by
  show(if -(m:Int)<0 then (-(m:Int)+((ys++zs).length:Int)).toNat else _)=_;rw[bg (by lia),ao];lia
 unfold iF;rw[e,List.drop_left];show zs.take ((ys++zs).length-ys.length)=zs;rw[ao,Nat.add_sub_cancel_left,cm]
theorem aF7{ys zs:List V}{m:Nat}(hm:zs.length=m)(h:1<=m):iF (ys++zs) none (some (-(m:Int)))=ys:=by
 have e:HT.sIx (ys++zs).length (ys++zs).length (some (-(m:Int)))=ys.length:=by
  show(if -(m:Int)<0 then (-(m:Int)+((ys++zs).length:Int)).toNat else _)=_;rw[bg (by lia),ao];lia
 unfold iF;rw[e];show((ys++zs).drop 0).take (ys.length-0)=ys;rw[List.drop_zero,Nat.sub_zero,List.take_left]
theorem aC4{S:List Addr}{H G:Hp}{b:Addr}(k:eX S H G)(h:G b=none):b∈S\/H b=none:=by
 by_cases c:b∈S
 ·exact .inl c
 ·refine .inr ?_
  cases e:H b with
  |none=>rfl
  |some u=>rw[k b u e c] at h;cases h
theorem mF.mem{G:Hp}{n:Nat}:∀{as:List Addr}{c:BSt},mF G n as c->∀a∈as,∃o,G a=some o
 |[],[],_,_,h=>absurd h dv
 |b::_,_::_,⟨h1,h⟩,a,m=>by
  rcases bu.mp m with rfl|m
  ·exact⟨_,h1.1⟩
  ·exact mF.mem h a m
 |[],_::_,h,_,_=>h.elim
 |_::_,[],h,_,_=>h.elim
theorem cD3{a b c:V}{r:List V}:iF (a::b::c::r) none (some 2)=[a,b]:=by
 show((a::b::c::r).drop 0).take (min 2 (r.length+1+1+1)-0)=_;rw[jw (by lia)];rfl
theorem cA6{a b c:V}{r:List V}:¬(HT.sIx (a::b::c::r).length 0 none=0/\HT.sIx (a::b::c::r).length (a::b::c::r).length (some 2)=(a::b::c::r).length):=by
 show ¬(0=0/\min 2 (r.length+1+1+1)=r.length+1+1+1);lia
theorem aD3{ys:List V}{x:V}:nO (ys++[x]) (-1)=some x:=by
 unfold nO ixN;rw[av (by decide),bg (by rw[ao,js];lia)];show(ys++[x])[(-1+((ys++[x]).length:Int)).toNat]?=some x;rw[show(-1+((ys++[x]).length:Int)).toNat=ys.length from by rw[ao,js];lia,jx (ah _),ye];rfl
theorem vF{S:List Addr}{H G:Hp}{b:Addr}{o:HO}(k:eX S H G)(h:b∈S\/H b=none):eX S H (aN G b o):=fun c u e n=>by
 have:c≠b:=fun z=>by
  rcases h with h|h
  ·exact n (by rw[z];exact h)
  ·rw[z,h] at e;cases e
 exact(aH this).trans (k c u e n)
end Mine
namespace L2
open PySem PySem.Spec PyProof.Rows
section
variable {prog:Program}{w:World}{A:Around}{E:Value->Shared->Prop}{h:Heap}{g:Array GenState}{d:Drawn}{t:Nat}{os:OsState}
variable {nm q:Str}{C N fI:Addr}{bs bm bmB bmN:List Value}{hdct:Bool}{sn:List Str}{sub:List Value}{ab:Bool}{col:Option Bool}{dd:Option Addr}{k0 k1 k2 k3 k5:Option Value}{B Bn newId nid inN initId:String}
end
def fM(K:W.Frag)(N:Addr):Bool:=match K.lookup N with
 |some ⟨_,_,.dict es _,_⟩=>es.toList.all fun e=>match e.key with | .str _ _=>true|_=>false
 |_=>false
theorem rZ{K:W.Frag}{h:Heap}{N:Addr}(X:K.In h)(e:fM K N=true):∃m,h.Ns N m:=by
 unfold fM at e
 split at e
 ·rename_i c dd es ep sl ho
  refine⟨_,_,es,ep,X _ _ ho,rfl,fun x hx=>?_,fun _=>rfl⟩;have q:=ko.mp e x (by simpa using hx)
  cases hk:x.key with
  |str n t=>exact⟨n,t,rfl⟩
  |_=>rw[hk] at q;cases q
 ·cases e
def XN(a C:Addr):HO:= .ext fun h=>∃o,h.get? a=some o/\o.cls= .ref C/\W.notCls o=true/\o.dict=none
def XD(a C dx:Addr):HO:= .ext fun h=>∃o,h.get? a=some o/\o.cls= .ref C/\W.notCls o=true/\o.dict=some dx
def XM(a:Addr)(fs:List (Str×V)):HO:= .ext fun h=>∃mA,h.Ns1 a mA/\(∀f,iX (fs.lookup f) (mA f))/\PySem.Within mA (fs.map (·.1))
section
variable {P:Program}{w:World}{H:Hp}{h:Heap}{a C dx:Addr}{fs:List (Str×V)}
theorem bT9(e:∃o,h.get? a=some o/\o.cls= .ref C/\W.notCls o=true/\o.dict=none):bU P w H h a (XN a C):=
 ⟨e,let⟨o,q,_⟩:=e;⟨o,q⟩,(by rintro _ _ ⟨o,q,r⟩ k;exact⟨o,k o q,r⟩)⟩
end
abbrev aB4(C D:Addr):List Value:=[.ref C,.ref D,.type "ValueError",.type "Exception",.type "BaseException",.type "object"]
structure fH(K:W.Frag)(C D:Addr):Prop where
 at_:∃cd,W.clsIn K C=some cd/\cd.hasDict=true/\cd.mro=aB4 C D
 sa:W.findIn K (.ref C) "__setattr__"=some (some (.builtin "object.__setattr__"))
 ga:W.findIn K (.ref C) "__getattribute__"=some (some (.builtin "BaseException.__getattribute__"))
 gh:W.findIn K (.ref C) "__getattr__"=some none
section
variable {prog:Program}{w:World}{A:Around}{E:Value->Shared->Prop}{R:Result->Shared->Prop}{s:Shared}{K:W.Frag}{x C D:Addr}{ox:Obj}{od:Option Obj}{name:Str}{v:Value}{tk:Tok}
theorem fH.sub{M:Model}{h:Heap}(W:fH K C D)(X:K.In h){T:Value}{b:Bool}(e:(aB4 C D).contains T=b):PySem.W.Looks M h (isSubtype (.ref C) T) b:=by
 obtain⟨cd,hc,_,hm⟩:=W.at_;refine PySem.W.looks_mroIn X ?_;unfold PySem.W.mroIn;rw[hc,iq,hm,av (by simp),e]
end
section
variable {prog:Program}{w:World}{A:Around}{E:Value->Shared->Prop}{R:Result->Shared->Prop}{s:Shared}{K:W.Frag}{x C D:Addr}{ox:Obj}{od:Option Obj}{name:Str}{v:Value}{tk:Tok}
theorem cB5(X:K.In s.heap)(I:PySem.W.InstAt s.heap x ox C od)(W:fH K C D)
  (h:wpAny (model prog w) A.in1 (Builtin.«object.__getattribute__» ⟨[.ref x,.str name tk],[]⟩) (fun fin s'=>match fin with | .done f=>R (.ok f) s' | .again c'=>c'.quiet=true/\codeAny (model prog w) A c' R s') (fun e s'=>R (.error e) s') s) :
  codeAny (model prog w) A (.call (.builtin "BaseException.__getattribute__") ⟨[.ref x,.str name tk],[]⟩) R s:=by
 have base:PySem.W.Looks (model prog w) s.heap (isInstance (.ref x) (.type "BaseException")) true:=I.type.andThen (W.sub X (by simp));exact qg PySem.F.excAttr_ValueError.ga.plain PySem.F.entry_bexc_ga
  (@PySem.W.check_slot (model prog w) _ _ s "BaseException.__getattribute__" "BaseException" "__getattribute__" (.ref x) [.str name tk] [] _ (by decide) (by decide) base (PySem.F.args_bexc_ga _ _) h)
theorem xby{Q:Value->Shared->Prop}{fill expr:Bool}(X:K.In s.heap)(I:PySem.W.InstAt s.heap x ox C od)(W:fH K C D)(hh:PySem.W.handedIn v=true)
  (h:∀P:Value->Shared->Prop,P v s->wpAny (model prog w) A.in1 (Builtin.«object.__getattribute__» ⟨[.ref x,.str name tk],[]⟩) (fun fin s'=>match fin with | .done (.ret u)=>P u s'|_=>False) (fun _ _=>False) s)
  (q:Q v s):wpAny (model prog w) A (getAttrBy (.ref x) (.str name tk) fill expr) Q E s:=by
 obtain⟨hp,g,d,t,os⟩:=s;have L0:=I.type (M:=model prog w);have L1:=wx (M:=model prog w) X W.ga;have L2:=wx (M:=model prog w) X W.gh;unfold getAttrBy;refine ej (aa (L0.at (aa (L1.at ?_))));show wpAny _ _ (getAttrByItsOwn _ _ _ _ _ _) _ _ _;refine aa (L2.at (aa (mo (ej ?_))));have e0:callGetattribute (.ref x) (.str name tk) (.builtin "BaseException.__getattribute__") expr=boundAndCalled (.builtin "BaseException.__getattribute__") (.ref x) (.str name tk):=by cases expr<;>rfl
 rw[e0];unfold boundAndCalled;rw[PySem.F.excAttr_ValueError.ga.bind];refine aa (aj (oh (cB5 X I W (dm (h (fun u s'=>wpAny (model prog w) A (handedOut u) Q E s') ?_) (fun fin s' z=>?_) fun _ _ z=>z.elim))))
 ·rw[PySem.W.handedOut_of hh];exact aj q
 ·rcases fin with(_|_|_|_)|_<;>first|exact z|exact z.elim
end
structure XIs(K:W.Frag)(C:Addr):Prop where
 at_:W.findIn K (.ref C) "__class__"=some (some (.builtin "object.__class__"))
 get:W.specialIn K (.builtin "object.__class__") "__get__"=some (some (.builtin "getset_descriptor.__get__"))
 tk:W.takesIn K (.builtin "object.__class__")=some true
section
variable {prog:Program}{w:World}{A:Around}{E:Value->Shared->Prop}{R:Result->Shared->Prop}{s:Shared}{K:W.Frag}{x C D:Addr}{ox:Obj}{od:Option Obj}{name:Str}{v:Value}{tk:Tok}
theorem aN1(W:fH K C D)(Z:XIs K C):PySem.W.findObj K C od "__class__"=some (.bind (.builtin "getset_descriptor.__get__") (.builtin "object.__class__")):=by
 obtain⟨cd,hc,_⟩:=W.at_;unfold PySem.W.findObj;rw[hc,iq,Z.at_,iq];simp[Z.get,Z.tk]
theorem fH.obj(W:fH K C D):PySem.W.mroIn K C (.type "object")=some true:=by
 obtain⟨cd,hc,_,hm⟩:=W.at_;unfold PySem.W.mroIn;rw[hc,iq,hm,av (by simp)];simp
theorem cF0{Q:Option Value->Shared->Prop}(X:K.In s.heap)(I:PySem.W.InstAt s.heap x ox C od)(W:fH K C D)(Z:XIs K C)(h:Q (some (.ref C)) { s with toks:=s.toks+1 }):wpAny (model prog w) A (getAttr? (.ref x) "__class__") Q E s:=by
 obtain⟨hp,g,d,t,os⟩:=s;unfold getAttr? getAttrBy?;refine aa (wpAny_mkText (aa (mo (xby (s:=⟨hp,g,d,t+1,os⟩) (v:= .ref C) X I W rfl (fun P p=>?_) (aj h)))));have L0:=I.type (M:=model prog w);have L3:=PySem.W.looks_find (M:=model prog w) X I (aN1 (od:=od) W Z);refine aa (aj (aa (aj (aa (L0.at (aa (L3.at ?_)))))));show wpAny _ _ (holding [.builtin "object.__class__"] (call (.builtin "getset_descriptor.__get__") [.builtin "object.__class__",.ref x,.ref C])>>=ret) _ _ _;exact aa (ej (oh (PySem.W.class_get (s:=⟨hp,g,d,t+1,os⟩) X I W.obj (aj p))))
theorem fH.isT{M:Model}{h:Heap}(W:fH K C D)(X:K.In h):PySem.W.Looks M h (isType (.ref C)) true:=by
 obtain⟨cd,hc,_⟩:=W.at_;unfold PySem.W.clsIn at hc
 split at hc
 ·rename_i ho
  intro A' Q' E' s' k q;unfold isType loadHead;exact aa (wpAny_loadPart (k _ _ (X _ _ ho)) (aj q))
 ·cases hc
theorem yL(W:fH K C D)(Z:XIs K C):PySem.W.KitX K (.ref x) (.ref C) (fun h=>∃ox od,PySem.W.InstAt h x ox C od) where
 ty:=fun _ _ _ ⟨_,_,I⟩=>I.type
 it:=fun _ _ X _=>W.isT X
 ne:=fun h tp dd its n sl X htp=>by
  obtain⟨cd,hc,_⟩:=W.at_;refine sw.mpr fun q=>?_
  cases Value.ref.inj (beq_iff_eq.mp q)
  unfold PySem.W.clsIn at hc
  split at hc
  ·rename_i ho
   cases(X _ _ ho).symm.trans htp
  ·cases hc
 ca:=fun X ⟨_,_,I⟩ k=>cF0 X I W Z k
end
def XAt(H:Hp)(a C:Addr):Prop:=H a=some (XN a C)\/∃dx fs,H a=some (XD a C dx)/\H dx=some (XM dx fs)
section
variable {X:Cx}{pins:List (Addr×Obj)}{σ:St}{H:Hp}{s:Shared}{a C D dx:Addr}{fs:List (Str×V)}{f:Str}{v:V}{A:Around}{E:Value->Shared->Prop}
theorem bK1(I:aU X pins σ H s)(e:H a=some (XN a C)):∃o,s.heap.get? a=some o/\o.cls= .ref C/\W.notCls o=true/\o.dict=none:=
 (show bU X.prog X.w H s.heap a (XN a C) from I.hok a _ e).1
theorem bJ3(I:aU X pins σ H s)(e:H a=some (XD a C dx)):∃o,s.heap.get? a=some o/\o.cls= .ref C/\W.notCls o=true/\o.dict=some dx:=
 (show bU X.prog X.w H s.heap a (XD a C dx) from I.hok a _ e).1
theorem bW6(I:aU X pins σ H s)(e:H dx=some (XM dx fs)):∃mA,s.heap.Ns1 dx mA/\(∀f,iX (fs.lookup f) (mA f))/\PySem.Within mA (fs.map (·.1)):=
 (show bU X.prog X.w H s.heap dx (XM dx fs) from I.hok dx _ e).1
theorem yP(I:aU X pins σ H s)(e:XAt H a C):∃ox od,W.InstAt s.heap a ox C od:=by
 rcases e with e|⟨dx,fs,e,e'⟩
 ·obtain⟨o,h1,h2,h3,h4⟩:=bK1 I e;exact⟨o,none,h1,h2,h3,by rw[h4];trivial⟩
 ·obtain⟨o,h1,h2,h3,h4⟩:=bJ3 I e;obtain⟨mA,n,_⟩:=bW6 I e';obtain⟨od,ho,_⟩:=tQ n;exact⟨o,some od,h1,h2,h3,by rw[h4];exact ho⟩
theorem qP:eA X (.builtin "isinstance") (fun xs H Q=>∃a c C D b,xs=[.ref a,c]/\(∃C',c= .ref C'/\PySem.W.kitOne X.K (.ref C) (.ref C')=some b\/∃n,c= .ty n/\PySem.W.kitOne X.K (.ref C) (.type n)=some b)/\XAt H a C/\fH X.K C D/\XIs X.K C/\Q (.bl b) H):=by
 intro pins s σ H xs us Q I r h;obtain⟨a,c,C,D,b,rfl,e,x,W,Z,q⟩:=h;obtain⟨u,w',rfl,ru,rw'⟩:=pS r
 cases ru
 have fin:∀tk,EP X pins σ Q (.bool b) { s with toks:=tk }:=fun tk=>⟨.bl b,H,I.tok tk,rfl,q⟩
 obtain⟨C',e⟩:=e;rcases e with⟨rfl,e⟩|⟨n,rfl,e⟩
 ·cases rw'
  exact fm (yL W Z) I.kIn (yP I x) e (fun z=>nomatch z) fin
 ·cases rw'
  exact fm (yL W Z) I.kIn (yP I x) e (fun z=>nomatch z) fin
end
theorem bF3{K:W.Frag}{h:Heap}{a:Addr}{m:Str->Option Value}{n:Str}{r:Option Value}(X:K.In h)(G:h.Ns a m)(e:W.nsIn K a n=some r):m n=r:=by
 obtain⟨o,es,ep,ho,hd,_,hf⟩:=G;rw[<-hf];unfold nsFind findBy;rw[<-xt];unfold W.nsIn at e
 split at e
 ·rename_i q
  have z:=(X _ _ q).symm.trans ho
  cases z
  cases hd
  split at e
  ·rename_i he
   cases e
   rw[he];rfl
  ·rename_i he
   split at e
   ·cases e
   ·cases e
    rw[he];rfl
 ·cases e
section
variable {prog:Program}{w:World}{A:Around}{E:Value->Shared->Prop}{h:Heap}{g:Array GenState}{d:Drawn}{t:Nat}{os:OsState}
variable {nm q:Str}{C N fI:Addr}{bs bm bmB bmN:List Value}{hdct:Bool}{sn:List Str}{sub:List Value}{ab:Bool}{col:Option Bool}{dd:Option Addr}{k0 k1 k2 k3 k5:Option Value}{B Bn newId nid inN initId:String}
end
abbrev veB:List Value:=[.type "ValueError",.type "Exception",.type "BaseException",.type "object"]
structure XMk(K:W.Frag)(C D:Addr)(i:Option Value):Prop where
 kp:W.keepIn K (.ref C)=true
 cls:∃(nm q:Str) (N:Addr) (bs:List Value) (hdct:Bool) (sn:List Str) (sub:List Value) (ab:Bool) (col:Option Bool) (dd:Option Addr) (k0 k1 k2 k3 k5:Option Value) (Bn newId inN:String) (bmN:List Value),ExcBaseFacts Bn newId inN bmN/\veB.contains (.type Bn)=true /\
  K.lookup C=some (excClassObj nm q C N bs (.ref D::veB) hdct sn sub ab col dd k0 k1 k2 k3 k5 newId)/\fM K N=true/\W.nsIn K N "__init__"=some i
 up:∃(c0:Value) (dd:Option Addr) (cd:ClassData) (sl:Array (Option Value)),K.lookup D=some ⟨c0,dd,.cls cd,sl⟩/\fM K cd.ns=true/\W.nsIn K cd.ns "__init__"=some none
theorem XMk.tail{K:W.Frag}{C D:Addr}{i:Option Value}{h:Heap}(M:XMk K C D i)(X:K.In h):OwnTail h veB (.ref D::veB):=by
 obtain⟨c0,dd,cd,sl,l,tx,n⟩:=M.up;obtain⟨m,hm⟩:=rZ X tx;exact .own (X _ _ l) hm (bF3 X hm n) .base
section
variable {X:Cx}{CX:CXT}{k:Nat}{f C D:Addr}{fd:FuncData}{ps:List Str}{sp:Sp}{E:XK}{x:Str}{p pos:Pos}{e:Expr}{es:List Expr}{t:TA}
end
theorem fH.subIn{K:PySem.W.Frag}{C D:Addr}(W:fH K C D)(T:Value):PySem.W.subIn K (.ref C) T=some ((aB4 C D).contains T):=by
 obtain⟨cd,hc,_,hm⟩:=W.at_;show PySem.W.mroIn K C T=_;unfold PySem.W.mroIn;rw[hc,iq,hm,av (by simp)]
theorem bD9:W.kitMeta "ValueError"=true:=by decide
theorem aZ0{K:W.Frag}{C D N:Addr}{nm q:Str}{bs:List Value}{sn:List Str}{sub:List Value}{ab:Bool}{col:Option Bool}{dd:Option Addr}{k0 k1 k2 k3 k5:Option Value}{newId:String}
  (l:K.lookup C=some (excClassObj nm q C N bs (.ref D::veB) true sn sub ab col dd k0 k1 k2 k3 k5 newId)) (sa:W.findIn K (.ref C) "__setattr__"=some (some (.builtin "object.__setattr__")))
  (ga:W.findIn K (.ref C) "__getattribute__"=some (some (.builtin "BaseException.__getattribute__"))) (gh:W.findIn K (.ref C) "__getattr__"=some none):fH K C D:=
 ⟨⟨_,by unfold W.clsIn;rw[l],rfl,rfl⟩,sa,ga,gh⟩
theorem bW8{K:W.Frag}{C D N:Addr}{nm q:Str}{bs:List Value}{sn:List Str}{sub:List Value}{ab:Bool}{col:Option Bool}{dd:Option Addr}{k0 k1 k2 k3 k5 i:Option Value}
  {c0:Value}{dd':Option Addr}{cd:ClassData}{sl:Array (Option Value)}
  (l:K.lookup C=some (excClassObj nm q C N bs (.ref D::veB) true sn sub ab col dd k0 k1 k2 k3 k5 "ValueError.__new__")) (kp:W.keepIn K (.ref C)=true) (tx:fM K N=true) (ni:W.nsIn K N "__init__"=some i)
  (lD:K.lookup D=some ⟨c0,dd',.cls cd,sl⟩) (tD:fM K cd.ns=true) (nD:W.nsIn K cd.ns "__init__"=some none):XMk K C D i:=
 ⟨kp,⟨nm,q,N,bs,true,sn,sub,ab,col,dd,k0,k1,k2,k3,k5,_,_,_,_,sj,by simp,l,tx,ni⟩,⟨c0,dd',cd,sl,lD,tD,nD⟩⟩
theorem aB0{K:W.Frag}{N:Addr}{oc:Value}{od:Option Addr}{es:Array DictEntry}{n:Nat}{sl:Array (Option Value)}(l:K.lookup N=some ⟨oc,od,.dict es n,sl⟩)(h:(es.toList.all fun e=>match e.key with | .str _ _=>true|_=>false)=true):fM K N=true:=by
 unfold fM;rw[l];exact h
open PySem PySem.Spec PyProof.Rows PySem.W
def aE7(h:Heap)(x C:Addr)(tb:Value):Prop:=∃o vs,h.get? x=some o/\o.cls= .ref C/\o.dict= .none/\o.data= .fields vs/\vs[1]?=some tb
def pV(h:Heap)(x T C:Addr)(fl:Value):Prop:=aE7 h x C (.ref T)/\T≠x/\∃o ts,h.get? T=some o/\o.data= .fields ts/\ts[3]?=some fl
structure Kp(fs ch:List Addr)(h h':Heap):Prop where
 k:∀b o,h.get? b=some o->b∉fs->b∉ch->h'.get? b=some o
 f:∀b o,h.get? b=some o->b∈fs->b∉ch->∃sl,h'.get? b=some { o with slots:=sl }
theorem Kp.any{fs ch:List Addr}{h h':Heap}(a:Kp fs ch h h'){b:Addr}{o:Obj}(e:h.get? b=some o)(n:b∉ch):∃sl,h'.get? b=some { o with slots:=sl }:=by
 by_cases c:b∈fs
 ·exact a.f b o e c n
 ·exact⟨o.slots,a.k b o e c n⟩
theorem Kp.trans{fs ch:List Addr}{h h1 h2:Heap}(a:Kp fs ch h h1)(b:Kp fs ch h1 h2):Kp fs ch h h2:=
 ⟨fun c o e n m=>b.k c o (a.k c o e n m) n m,fun c o e n m=>by
  obtain⟨sl,e1⟩:=a.f c o e n m;obtain⟨sl2,e2⟩:=b.f c _ e1 n m;exact⟨sl2,e2⟩⟩
theorem Kp.mono{fs ch ch':List Addr}{h h':Heap}(a:Kp fs ch h h')(s:∀b∈ch,b∈ch'):Kp fs ch' h h':=⟨fun b o e n m=>a.k b o e n fun z=>m (s b z),fun b o e n m=>a.f b o e n fun z=>m (s b z)⟩
theorem Kp.kept{fs:List Addr}{h h':Heap}(k:∀b o,h.get? b=some o->h'.get? b=some o):Kp fs [] h h':=⟨fun b o e _ _=>k b o e,fun b o e _ _=>⟨o.slots,k b o e⟩⟩
theorem Kp.drop{fs ch:List Addr}{h h':Heap}(a:Kp fs ch h h')(n:∀b∈ch,h.get? b= .none):Kp fs [] h h':=by
 have q:∀b o,h.get? b=some o->b∉ch:=fun b o e z=>by rw[n b z] at e;cases e
 exact⟨fun b o e hn _=>a.k b o e hn (q b o e),fun b o e hn _=>a.f b o e hn (q b o e)⟩
theorem aK4{base:Heap}:∀{l:List Env}{h h':Heap},h.FunFrames base l->(∀b∈iR l,∀o,h.get? b=some o->∃sl,h'.get? b=some { o with slots:=sl })->h'.FunFrames base l
 |[],_,_,_,_=>by rw[Heap.FunFrames.eq_1];trivial
 |env::l,h,h',ff,k=>by
  rw[Heap.FunFrames.eq_2] at ff ⊢;obtain⟨h1,⟨L,o,h2,h3,h4,h5⟩,h6⟩:=ff;obtain⟨sl,e⟩:=k L (jf.mpr ⟨env,aq,h2⟩) o h4;refine⟨h1,⟨L,_,h2,h3,e,h5⟩,aK4 h6 fun b hb=>k b ?_⟩;obtain⟨env',h7,h8⟩:=jf.mp hb;exact jf.mpr ⟨env',ak _ h7,h8⟩
section
variable {M:Model}{A:Around}{E:Value->Shared->Prop}{s:Shared}{base:Heap}{env:Env}{outer:List Env}{L x T C:Addr}{Q:Unit->Shared->Prop}
theorem jY{fs:List Addr}{fl:Value}(hT:T∉fs)(F:pV s.heap x T C fl)(q:∀h',Kp fs [T] s.heap h'->pV h' x T C .none->Q () { s with heap:=h' }):wpAny M A (setFlight (.ref x) .none) Q E s:=by
 obtain⟨⟨o,vs,e1,e2,e3,e4,e5⟩,ne,oT,ts,f1,f2,f3⟩:=F;have sz:3<ts.size:=(mq.mp f3).1;refine wpAny_setFlight_none e1 e4 e5 f1 f2 sz (q _ ⟨fun b u e _ n=>?_,fun b u e hb n=>⟨u.slots,?_⟩⟩ ⟨⟨o,vs,?_,e2,e3,e4,e5⟩,ne,_,_,ik _ f1 (ju (ib f2 _)),ib f2 _,?_⟩)
 ·rw[eh _ _ _ _ (by simpa using n)];exact e
 ·rw[eh _ _ _ _ (by simpa using n)];exact e
 ·rw[eh _ _ _ _ ne.symm];exact e1
 ·simp[sz]
theorem aK3{head:Value}{hadNext:Bool}{tb:Value}(hA:A.frames=some (env::outer))(ff:s.heap.FunFrames base (env::outer))(hf:env.frame=some L)(ex:aE7 s.heap x C tb)
  (q:∀h' T,Kp (iR (env::outer)) [x] s.heap h'->s.heap.get? T= .none->T∉iR (env::outer)->pV h' x T C (rawInt L)->Q () { s with heap:=h' }) :
  wpAny M A (do
   let a <-PySem.frameOf env
   let pl <-entryPlaceOf L hadNext
   let b <-EntryCells.newEntry head a Value.none (rawInt L) Value.none pl
   setField (Value.ref x) 1 b) Q E s:=by
 obtain⟨o,vs,e1,e2,e3,e4,e5⟩:=ex;have nx:x∉iR (env::outer):=fun z=>by
  obtain⟨_,u,hu,hd⟩:=ff.mem z;rw[e1] at hu
  cases hu
  exact hd _ e4
 have sz:1<vs.size:=(mq.mp e5).1;refine aa (wpAny_frameOf_fun hA ff hf fun h1 so=>?_);obtain⟨z1,k1,sl1⟩:=so;refine aa (wpAny_entryPlaceOf fun pl hpl=>?_);refine aa (fg ?_ (hpl.sizeOk5 _ _ _ _ _));have ex1:(h1.push { cls:= .type "traceback",dict:= .none,data:= .fields ([head,Value.ref L,Value.none,rawInt L,Value.none]++if pl.isEmpty=true then List.replicate 6 Value.none else pl).toArray }).get? x=some o:=ae _ ((k1 x nx).trans e1);refine lu ex1 e4 sz ?_;have lt1:x<h1.objs.size:=ay ((k1 x nx).trans e1);have neT:h1.objs.size≠x:=jp lt1;have fT:s.heap.get? h1.objs.size= .none:=by rw[z1];exact wj (ah _)
 refine q _ h1.objs.size ⟨fun b u e hn n=>?_,fun b u e hb n=>?_⟩ fT (fun z=>?_) ⟨⟨_,_,ik _ ex1 (ju (ib e4 _)),(sr ..).trans e2,?_,ib e4 _,by simp[sz]⟩,neT,{ cls:= .type "traceback",dict:= .none,data:= .fields ([head,Value.ref L,Value.none,rawInt L,Value.none]++if pl.isEmpty=true then List.replicate 6 Value.none else pl).toArray },_,?_,rfl,?_⟩
 ·rw[eh _ _ _ _ (by simpa using n)];exact ae _ ((k1 b hn).trans e)
 ·obtain⟨sl,e'⟩:=sl1 b u e;refine⟨sl,?_⟩;rw[eh _ _ _ _ (by simpa using n)];exact ae _ e'
 ·obtain⟨_,u,hu,_⟩:=ff.mem z;rw[fT] at hu
  cases hu
 ·obtain⟨c,d,da,sl⟩:=o
  dsimp only at e3 e4
  subst e3 e4;rfl
 ·rw[eh _ _ _ _ neT];exact bb _ rfl
 ·simp
theorem aL4(hA:A.frames=some (env::outer))(ff:s.heap.FunFrames base (env::outer))(hf:env.frame=some L)(ex:aE7 s.heap x C .none)
  (q:∀h' T,Kp (iR (env::outer)) [x] s.heap h'->s.heap.get? T= .none->T∉iR (env::outer)->pV h' x T C (rawInt L)->Q () { s with heap:=h' }):wpAny M A (noteFrame (.ref x) env) Q E s:=by
 obtain⟨o,vs,e1,e2,e3,e4,e5⟩:=id ex;unfold noteFrame;rw[hf];refine aa (fi e1 e4 e5 ?_);rw[av (by simp)];exact aK3 hA ff hf ex q
theorem aY9(hA:A.frames=some (env::outer))(ff:s.heap.FunFrames base (env::outer))(hf:env.frame=some L)(hT:T∉iR (env::outer))(F:pV s.heap x T C .none)
  (q:∀h' T',Kp (iR (env::outer)) [x,T] s.heap h'->s.heap.get? T'= .none->T'∉iR (env::outer)->pV h' x T' C (rawInt L)->Q () { s with heap:=h' }):wpAny M A (noteFrame (.ref x) env) Q E s:=by
 obtain⟨⟨o,vs,e1,e2,e3,e4,e5⟩,ne,oT,ts,f1,f2,f3⟩:=id F;have sz:3<ts.size:=(mq.mp f3).1;unfold noteFrame;rw[hf];refine aa (fi e1 e4 e5 ?_);rw[bg (by simp)];refine aa (fi f1 f2 f3 ?_);rw[av (by simp[rawInt])];refine aa (lu f1 f2 sz ?_);have k1:Kp (iR (env::outer)) [T] s.heap (s.heap.update T (Obj.mapFields fun y=>y.setIfInBounds 3 Value.none)):=⟨fun b u e _ n=>by rw[eh _ _ _ _ (by simpa using n)];exact e,fun b u e hb n=>⟨u.slots,by rw[eh _ _ _ _ (by simpa using n)];exact e⟩⟩
 have x1:(s.heap.update T (Obj.mapFields fun y=>y.setIfInBounds 3 Value.none)).get? x=some o:=by rw[eh _ _ _ _ ne.symm];exact e1
 have n1:∀b,s.heap.get? b≠ .none->(s.heap.update T (Obj.mapFields fun y=>y.setIfInBounds 3 Value.none)).get? b≠ .none:=fun b hb=>by
  by_cases c:b=T
  ·subst c;rw[ik _ f1 (ju (ib f2 _))];simp
  ·rw[eh _ _ _ _ c];exact hb
 have ff1:(s.heap.update T (Obj.mapFields fun y=>y.setIfInBounds 3 Value.none)).FunFrames base (env::outer):=aK4 ff fun b hb u e=>k1.f b u e hb (by simpa using fun z:b=T=>hT (z ▸ hb))
 generalize s.heap.update T (Obj.mapFields fun y=>y.setIfInBounds 3 Value.none)=h1 at k1 x1 n1 ff1 ⊢;refine aK3 (s:={ s with heap:=h1 }) (tb:= .ref T) hA ff1 hf ⟨o,vs,x1,e2,e3,e4,e5⟩ fun h' T' k2 t1 t2 F2=>q h' T' ((k1.mono (by simp)).trans (k2.mono (by simp))) ?_ t2 F2
 cases z:s.heap.get? T' with
 |none=>rfl
 |some u=>exact absurd t1 (n1 T' (by rw[z];simp))
end
theorem bU.got{P:Program}{w:World}{H:Hp}{h:Heap}{a:Addr}{o:HO}(x:bU P w H h a o):∃ob,h.get? a=some ob:=by
 cases o with
 |lst xs=>obtain⟨_,_,_,_,e⟩:=x;exact⟨_,e⟩
 |tup xs=>obtain⟨_,_,_,o,e,_⟩:=x;exact⟨_,e⟩
 |dK kvs=>obtain⟨_,_,_,_,o,_,_,e,_⟩:=x;exact⟨_,e⟩
 |dT kvs=>obtain⟨_,_,_,_,o,_,_,e,_⟩:=x;exact⟨_,e⟩
 |set S n=>obtain⟨o,_,_,_,e,_⟩:=x;exact⟨_,e⟩
 |ins C dx fs=>obtain⟨_,_,_,e,_⟩:=x;exact⟨_,e⟩
 |own y=>obtain⟨_,e⟩:=x;exact⟨_,e⟩
 |xd fs=>obtain⟨_,⟨_,_,_,e,_⟩,_⟩:=x;exact⟨_,e⟩
 |rng lo hi=>obtain⟨_,_,_,e⟩:=x;exact⟨_,e⟩
 |frz ob u=>obtain⟨e,_⟩:=x;exact⟨_,e⟩
 |tbl ps=>exact⟨_,(show h.get? a=some _ from x)⟩
 |met f y=>exact⟨_,(show h.get? a=some _ from x)⟩
 |ext φ=>obtain⟨_,⟨_,e⟩,_⟩:=x;exact⟨_,e⟩
theorem jH.none{P:Program}{w:World}{H:Hp}{h:Heap}{a:Addr}(x:jH P w H h)(e:h.get? a= .none):H a= .none:=by
 cases q:H a with
 |none=>rfl
 |some u =>
  obtain⟨o,z⟩:=(x a u q).got;rw[e] at z
  cases z
section
variable {X:Cx}{pins:List (Addr×Obj)}{σ:St}{H:Hp}{s:Shared}
theorem iP(hs:X.stack=X.env::X.outer)(hf:X.env.frame=some X.env.locals){b:Addr}:b∈iR X.stack↔b=X.env.locals\/b∈iR X.outer:=by
 rw[hs];unfold iR;rw[my,hf];simp
def CX1(P:Program)(w:World):CXT:=fun outer H s E e s'=>∃(x T C:Addr) (H':Hp),e= .ref x/\s'.os=s.os/\AllBare s'.gens/\Un (iR outer) [] H H' s.heap s'.heap/\jH P w H' s'.heap /\
 s.heap.get? x= .none/\s.heap.get? T= .none/\H' x= .none/\H' T= .none/\pV s'.heap x T C .none/\E (.ref C) .none H'
theorem aU.hokK(I:aU X pins σ H s){h':Heap}{ch:List Addr}(k:Kp (iR X.stack) ch s.heap h')(n:∀b∈ch,H b= .none):jH X.prog X.w H h':=fun b u e=>by
 have nf:∀c v,H c=some v->c∉iR X.stack/\c∉ch:=fun c v e=>⟨fun z=>(by rw[I.stkFree c z] at e;cases e),fun z=>(by rw[n c z] at e;cases e)⟩
 refine(I.hok b u e).stay (fun c v hc q=>?_) (fun c q=>q) fun c xs q=>q
 rcases hc with z|z
 ·rw[z] at q ⊢;exact k.k _ _ q (nf b u e).1 (nf b u e).2
 ·exact k.k _ _ q (nf c _ z).1 (nf c _ z).2
theorem yW{E:XK}{x C:Addr}{h1:Heap}{E':Value->Shared->Prop}(I:aU X pins σ H s)(hs:X.stack=X.env::X.outer)(hf:X.env.frame=some X.env.locals)(hex:X.ex=[])(made:s.heap.MadeExcOf h1 x (.ref C) [])(hE:E (.ref C) .none H) :
  wpAny (model X.prog X.w) X.A (leaving X.env (.ref x)) (fun _ s''=>CX1 X.prog X.w X.outer X.H₀ X.s₀ E (.ref x) s'') E' { s with heap:=h1 }:=by
 have ff0:=I.stack;have k0:Kp (iR X.stack) [] s.heap h1:=Kp.kept made.keeps;have ff:h1.FunFrames X.base (X.env::X.outer):=by
  rw[<-hs];exact aK4 ff0 fun b hb o e=>k0.f b o e hb (by simp)
 obtain⟨t,ex,_⟩:=made.there;unfold leaving;refine aa (aL4 (s:={ s with heap:=h1 }) (by rw[I.ok.frames,hs]) ff hf ⟨_,_,ex,rfl,rfl,rfl,rfl⟩ fun h2 T k1 t1 t2 F=>?_);refine jY (s:={ s with heap:=h2 }) t2 F fun h3 k2 F3=>?_
 rw[<-hs] at k1 k2 t2;have sT:s.heap.get? T= .none:=by
  cases q:s.heap.get? T with
  |none=>rfl
  |some o=>rw[made.keeps _ _ q] at t1;cases t1
 have kk:Kp (iR X.stack) [] s.heap h3:=((k0.mono (ch':=[x,T]) (by simp)).trans ((k1.mono (by simp)).trans (k2.mono (by simp)))).drop (by
  intro b hb;rcases bu.mp hb with z|z
  ·rw[z];exact made.new
  ·have z:b=T:=by simpa using z
   rw[z];exact sT)
 have none0:∀b,s.heap.get? b= .none->X.s₀.heap.get? b= .none:=fun b e=>by
  cases q:X.s₀.heap.get? b with
  |none=>rfl
  |some o =>
   obtain⟨o',z⟩:=I.base.there b o q (by rw[hex];simp);rw[e] at z
   cases z
 have neL:∀b o,X.s₀.heap.get? b=some o->b≠X.env.locals:=fun b o e=>bw (bx (ay e) I.ok.above)
 refine⟨x,T,C,H,rfl,I.os,I.bare,⟨fun b o e hn nb _=>?_,fun b o e hn hb _=>?_,fun b o e hn hx=>I.base.free b o e hn (by rw[hex];simp),fun b o e _=>?_,I.base.tups,I.base.frzs,I.base.tbls⟩,I.hokK kk (by simp),none0 x made.new,none0 T sT,jH.none I.hok made.new,jH.none I.hok sT,F3,hE⟩
 ·have e1:=I.base.keep b o e hn nb (by rw[hex];simp);exact kk.k b o e1 (fun z=>by
   rcases(iP hs hf).mp z with z|z
   ·exact neL b o e z
   ·exact nb z) (by simp)
 ·obtain⟨sl,e1⟩:=I.base.slot b o e hn hb (by rw[hex];simp);obtain⟨sl',e2⟩:=kk.f b _ e1 ((iP hs hf).mpr (.inr hb)) (by simp);exact⟨sl',e2⟩
 ·obtain⟨o',e1⟩:=I.base.there b o e (by rw[hex];simp);obtain⟨sl,e2⟩:=kk.any e1 (by simp);exact⟨_,e2⟩
theorem aH4{P:Program}{w:World}{K:W.Frag}{mg:Str->Option Value}{base:Heap}{N:List Str}{qual:Str}{scope:Scope}{f:Addr}{cd:Value}{A:Around}{outer:List Env}{s:Shared}{H:Hp}{E:XK}
  {nm:Str}{C D:Addr}{np cpos pos:Pos}(hg:Gl (iT (CX1 P w) P w K mg base N qual scope f cd A outer s H E) nm) (hm:mg nm=some (.ref C)) (M:XMk K C D .none) (hdb:autoParam ((nm==("__debug__": Str))=false) Rq1._auto_1) :
  PS (iT (CX1 P w) P w K mg base N qual scope f cd A outer s H E) (.Raise (some (.Call (.Name nm np) [] [] cpos)) .none pos) (fun _ _ H1=>E (.ref C) .none H1):=by
 intro pins s1 σ H1 D' I h;obtain⟨nm',q,Nn,bs,hdct,sn,sub,ab,col,dd,k0,k1,k2,k3,k5,Bn,newId,inN,bmN,eb,hc,hl,tx,ni⟩:=M.cls;have hh:(A.deeper (envOfC qual scope s.heap.objs.size f cd)).handled= .none:=I.ok.hd rfl;have kin:=I.kIn;obtain⟨mN,hN⟩:=rZ kin tx;refine wpAny_Raise_call_subU (nm:=nm') (q:=q) (bs:=bs) (hdct:=hdct) (sn:=sn) (sub:=sub) (ab:=ab) (col:=col) (dd:=dd) (k0:=k0) (k1:=k1) (k2:=k2) (k3:=k3) (k5:=k5) (C:=C) (N:=Nn) (bm:= .ref D::veB) (bmB:=veB) (mN:=mN) eb hc sj (by rw[List.contains_cons,show veB.contains (Value.type "BaseException")=true by decide,Bool.or_true]) hh rfl (bF3 kin hN ni) ?_;refine cK (dM (v:= .ref C) hg hm rfl hdb pins s1 σ H1 (fun v H2=>v= .ref C/\H2=H1) I ⟨rfl,rfl⟩) ?_;rintro u s2 ⟨v,H2,I2,r,rfl,rfl⟩
 cases r
 refine⟨rfl,?_⟩;refine aj ⟨rfl,bt _,?_,?_,M.tail I2.kIn,fun h' x made=>?_⟩
 ·exact I2.kIn _ _ hl
 ·obtain⟨o',lk⟩:∃o',K.lookup Nn=some o':=by
   cases hk:K.lookup Nn with
   |none=>unfold fM at tx;rw[hk] at tx;cases tx
   |some o'=>exact⟨o',rfl⟩
  obtain⟨o,es,ep,ho,r⟩:=hN;have e1:s1.heap.get? Nn=some o':=kin _ _ lk;rw[e1] at ho
  cases ho
  exact⟨_,es,ep,I2.kIn _ _ lk,r⟩
 ·exact yW I2 rfl rfl rfl made h
end
structure bO8(X:Cx)(pins:List (Addr×Obj))(x:Addr):Prop where
 s0:X.s₀.heap.get? x= .none
 loc:x≠X.env.locals
 cel:∀y c,X.env.cells.lookup y=some c->c≠x
 pin:∀p∈X.pn++pins,p.1≠x
 fr:x∉iR X.stack
section
variable {X:Cx}{pins:List (Addr×Obj)}{σ:St}{H:Hp}{s:Shared}{x:Addr}
theorem aU.away(I:aU X pins σ H s)(hex:X.ex=[])(e:s.heap.get? x= .none):bO8 X pins x where
 s0:=by
  cases q:X.s₀.heap.get? x with
  |none=>rfl
  |some o =>
   obtain⟨o',z⟩:=I.base.there x o q (by rw[hex];simp);rw[e] at z;cases z
 loc:=fun z=>by
  obtain⟨m,⟨o,es,ep,ho,_⟩,_⟩:=I.loc;rw[<-z,e] at ho;cases ho
 cel:=fun y c hc z=>by
  obtain⟨v,o,ho,_⟩:=I.cell y c hc;rw[z,e] at ho;cases ho
 pin:=fun p hp z=>by
  have:=(I.pin p hp).1;rw[z,e] at this;cases this
 fr:=fun z=>by
  obtain⟨_,o,ho,_⟩:=I.stack.mem z;rw[e] at ho;cases ho
theorem aU.nopins(I:aU X pins σ H s):aU X [] σ H s:=⟨I.ok,I.os,I.bare,I.base,I.loc,I.cell,I.free,I.freeC,fun p hp=>I.pin p (by simp at hp ⊢;exact .inl hp),I.hok,I.len⟩
theorem aU.move(I:aU X pins σ H s)(hs:X.stack=X.env::X.outer)(hf:X.env.frame=some X.env.locals)(hex:X.ex=[]){h':Heap}{H':Hp}{ch:List Addr}(aw:∀b∈ch,bO8 X pins b)(k:Kp (iR X.stack) ch s.heap h')(hn:∀b,b∉ch->H' b=H b)(hc:∀b∈ch,H b= .none)
  (hok:jH X.prog X.w H' h'):aU X pins σ H' { s with heap:=h' }:=by
 have ns0:∀b o,X.s₀.heap.get? b=some o->b∉ch:=fun b o e z=>by rw[(aw b z).s0] at e;cases e
 have neL:∀b o,X.s₀.heap.get? b=some o->b≠X.env.locals:=fun b o e=>bw (bx (ay e) I.ok.above)
 have nch:∀b u,H b=some u->b∉ch:=fun b u e z=>by rw[hc b z] at e;cases e
 have lnc:X.env.locals∉ch:=fun z=>(aw _ z).loc rfl
 have cell:∀y c v,X.env.cells.lookup y=some c->s.heap.IsCell c v->h'.IsCell c v:=fun y c v hy ⟨o,ho,hd⟩=>by
  obtain⟨sl,e⟩:=k.any ho (fun z=>(aw c z).cel y c hy rfl);exact⟨_,e,hd⟩
 refine⟨I.ok,I.os,I.bare,⟨fun b o e n nb nx=>?_,fun b o e n hb nx=>?_,fun b o e n nx=>?_,fun b o e nx=>?_,fun b xs e=>?_,fun b o u e=>?_,fun b ps e=>?_⟩,?_,fun y c hy=>?_,?_,fun y c hy=>?_,fun p hp=>?_,hok,I.len⟩
 ·exact k.k b o (I.base.keep b o e n nb nx) (fun z=>by
   rcases(iP hs hf).mp z with z|z
   ·exact neL b o e z
   ·exact nb z) (ns0 b o e)
 ·obtain⟨sl,e1⟩:=I.base.slot b o e n hb nx;obtain⟨sl',e2⟩:=k.f b _ e1 ((iP hs hf).mpr (.inr hb)) (ns0 b o e);exact⟨sl',e2⟩
 ·rw[hn b (ns0 b o e)];exact I.base.free b o e n nx
 ·obtain⟨o',e1⟩:=I.base.there b o e nx;obtain⟨sl,e2⟩:=k.any e1 (ns0 b o e);exact⟨_,e2⟩
 ·have q:=I.base.tups b xs e;rw[hn b (nch b _ q)];exact q
 ·have q:=I.base.frzs b o u e;rw[hn b (nch b _ q)];exact q
 ·obtain⟨more,q⟩:=I.base.tbls b ps e;exact⟨more,by rw[hn b (nch b _ q)];exact q⟩
 ·obtain⟨m,⟨o,es,ep,ho,r⟩,lk⟩:=I.loc;obtain⟨sl,e⟩:=k.any ho lnc;refine⟨m,⟨_,es,ep,e,r⟩,fun i y v h1 h2 h3=>?_⟩;obtain⟨u,ru,l⟩:=lk i y v h1 h2 h3;refine⟨u,ru,?_⟩;rcases l with l|⟨l1,c,l2,l3⟩
  ·exact .inl l
  ·exact .inr ⟨l1,c,l2,cell y c _ l2 l3⟩
 ·obtain⟨v,hv⟩:=I.cell y c hy;exact⟨v,cell y c v hy hv⟩
 ·rw[hn _ lnc];exact I.free
 ·rw[hn c fun z=>(aw c z).cel y c hy rfl];exact I.freeC y c hy
 ·obtain⟨p1,p2,p3,p4,p5⟩:=I.pin p hp;have pc:p.1∉ch:=fun z=>(aw _ z).pin p hp rfl
  refine⟨k.k _ _ p1 (fun z=>?_) pc,by rw[hn _ pc];exact p2,p3,p4,p5⟩;rcases(iP hs hf).mp z with z|z
  ·exact p3 z
  ·exact p4 z
theorem aU.unset{i:Nat}{n:Str}{h':Heap}{u:Option Value}{m:Str->Option Value}(I:aU X pins σ H s)(hN:X.N.Nodup)(hi:X.N[i]?=some n)(hl:X.env.kindOf n=some .local)(lk:∀(i:Nat) (x:Str) (v:V),X.N[i]?=some x->σ[i]?=some (some v)->Vis X.env.scope x->∃u,bJ v u/\bZ9 X.env s.heap m x u)
  (ns:h'.Ns X.env.locals (fun x=>if x=n then u else m x)) (sb:Heap.SameBut X.env.locals s.heap h'):aU X pins (σ.set i .none) H { s with heap:=h' }:=by
 have kp:∀b o,b≠X.env.locals->s.heap.get? b=some o->h'.get? b=some o:=fun b o hb e=>(sb.2 b hb).trans e
 have neL:∀b o,X.s₀.heap.get? b=some o->b≠X.env.locals:=fun b o e=>bw (bx (ay e) I.ok.above)
 have cell:∀c v,s.heap.IsCell c v->h'.IsCell c v:=fun c v ⟨o,ho,hd⟩=>⟨o,kp c o (fun z=>by
  obtain⟨m',⟨o',es,ep,ho',hd',_⟩,_⟩:=I.loc;rw[z,ho'] at ho
  cases ho
  rw[hd'] at hd
  cases hd) ho,hd⟩
 refine⟨I.ok,I.os,I.bare,⟨fun b o e n nb nx=>kp b o (neL b o e) (I.base.keep b o e n nb nx),fun b o e n hb nx=>?_,I.base.free,fun b o e nx=>?_,I.base.tups,I.base.frzs,I.base.tbls⟩,⟨_,ns,fun j y v h1 h2 h3=>?_⟩,fun y c hy=>?_,I.free,I.freeC,fun p hp=>?_,fun b v e=>?_,by rw[vb];exact I.len⟩
 ·obtain⟨sl,e1⟩:=I.base.slot b o e n hb nx;exact⟨sl,kp b _ (neL b o e) e1⟩
 ·obtain⟨o',e1⟩:=I.base.there b o e nx;exact⟨o',kp b o' (neL b o e) e1⟩
 ·by_cases c:j=i
  ·subst c;rw[List.getElem?_set_self'] at h2
   cases hq:σ[j]? with
   |none=>rw[hq] at h2;cases h2
   |some z=>rw[hq] at h2;cases h2
  ·rw[pi (fun z=>c z.symm)] at h2;obtain⟨w',rw',l⟩:=lk j y v h1 h2 h3;refine⟨w',rw',?_⟩;rcases l with⟨l1,l2⟩|⟨l1,cc,l2,l3⟩
   ·refine .inl ⟨l1,?_⟩;show(if y=n then u else m y)=some w';rw[av (show ¬y=n from fun z=>c ?_)]
    ·exact l2
    ·rw[z] at h1;have a1:=(bf.mp h1)
     have a2:=(bf.mp hi)
     exact(tj hN).mp (a1.2.trans a2.2.symm)
   ·exact .inr ⟨l1,cc,l2,cell cc _ l3⟩
 ·obtain⟨v,hv⟩:=I.cell y c hy;exact⟨v,cell c v hv⟩
 ·obtain⟨p1,p2,p3,p4,p5⟩:=I.pin p hp;exact⟨kp _ _ p3 p1,p2,p3,p4,p5⟩
 ·refine(I.hok b v e).stay (fun c o hc q=>kp c o ?_ q) (fun c q=>q) fun c xs q=>q
  rcases hc with z|z
  ·rw[z];intro z2;rw[z2,I.free] at e;cases e
  ·intro z2;rw[z2,I.free] at z;cases z
abbrev Cx.hand(X:Cx)(x:Addr):Cx:={ X with A:=X.A.mark (some (.ref x)),calm:=false,xe:=fun _ _=>False }
theorem aU.hand(I:aU X pins σ H s)(x:Addr):aU (X.hand x) pins σ H s:=
 ⟨⟨I.ok.mod,I.ok.kind,I.ok.glob,I.ok.blt,I.ok.above,I.ok.inj,I.ok.has,I.ok.cab,(fun z=>nomatch z),I.ok.frames,I.ok.stk,I.ok.exf,I.ok.bs,I.ok.bsz,I.ok.noex,I.ok.exfs,I.ok.funs,I.ok.frf⟩,I.os,I.bare,I.base,I.loc,I.cell,I.free,I.freeC,I.pin,I.hok,I.len⟩
theorem aU.unhand{x:Addr}(ok:X.Ok)(I:aU (X.hand x) pins σ H s):aU X pins σ H s:=⟨ok,I.os,I.bare,I.base,I.loc,I.cell,I.free,I.freeC,I.pin,I.hok,I.len⟩
end
structure XUp(K:W.Frag)(D:Addr):Prop where
 ty:typeIn K (.ref D)=some (.type "type")
 cl:(clsIn K D).isSome=true
 be:subIn K (.ref D) (.type "BaseException")=some true
theorem zU{K:W.Frag}:subIn K (.type "type") (.type "tuple")=some false:=by
 show Option.map _ (fastBuiltinMro "type")=_
 decide
theorem bB0{M:Model}{K:W.Frag}{h:Heap}{D:Addr}(c:(clsIn K D).isSome=true)(X:K.In h):Looks M h (isType (.ref D)) true:=by
 obtain⟨cd,hc⟩:=jh.mp c;unfold clsIn at hc
 split at hc
 ·rename_i ho
  intro A' Q' E' s' k q;unfold isType loadHead;exact aa (wpAny_loadPart (k _ _ (X _ _ ho)) (aj q))
 ·cases hc
theorem bJ9{M:Model}{A:Around}{E:Value->Shared->Prop}{s:Shared}{K:PySem.W.Frag}{x C D:Addr}{tb:Value}{Q:Bool->Shared->Prop}(kin:K.In s.heap)(U:XUp K D)(W:fH K C D)(e:aE7 s.heap x C tb)(q:Q true s):wpAny M A (excMatches (.ref x) (.ref D)) Q E s:=by
 obtain⟨o,vs,e1,e2,e3,e4,e5⟩:=e;have J:InstAt s.heap x o C .none:=⟨e1,e2,by unfold notCls;rw[e4],by rw[e3];trivial⟩
 unfold excMatches;refine aa ?_;unfold isInstance;refine aa ((looks_typeIn kin U.ty).here ((looks_subIn kin zU).here ?_));rw[av (by simp)];refine aa (aj ?_);refine aa ?_;rw[vd];refine aa ?_;unfold isExcClass;refine aa (aa ((bB0 U.cl kin).here ?_));rw[bg rfl];refine(looks_subIn kin U.be).here ?_;rw[av (by simp)];refine aj ?_
 dsimp only
 rw[List.forIn_nil];refine aj (aa (J.type.here ?_));refine aa ?_;rw[vd];refine aa (aa ((looks_subIn kin (W.subIn (.ref D))).here ?_));rw[bg (by simp[aB4])];exact aj (aj (aj q))
section
variable {X:Cx}
def PS0(X:Cx)(st:Stmt)(t:TS):Prop:=∀(s:Shared) (σ:St) (H:Hp) (D:jK),aU X [] σ H s->t D σ H->wpAny (model X.prog X.w) X.A (exec st X.env) (SP X [] D) X.xe s
def wQ(X:Cx)(st:List Stmt)(t:TS):Prop:=∀(s:Shared) (σ:St) (H:Hp) (D:jK),aU X [] σ H s->t D σ H->wpAny (model X.prog X.w) X.A (execs st X.env) (SP X [] D) X.xe s
theorem PS.p0{st:Stmt}{t:TS}(h:PS X st t):PS0 X st t:=fun s σ H D I q=>h [] s σ H D I q
theorem nL.p0{st:List Stmt}{t:TS}(h:nL X st t):wQ X st t:=fun s σ H D I q=>h [] s σ H D I q
theorem aC7{st:Stmt}{bM:List Stmt}{t u:TS}(h1:PS0 X st t)(h2:wQ X bM u):wQ X (st::bM) (bR8 t u):=by
 intro s σ H D I h;refine tm (cK (h1 s σ H { D with nx:=u D } I h) fun f s1 q=>?_)
 cases f with
 |next =>
  obtain⟨σ',H',I',q⟩:=q;exact h2 s1 σ' H' D I' q
 |ret v=>exact q
 |brk=>exact q
 |cont=>exact q
theorem wQ.nox{st:List Stmt}{t:TS}(h:wQ X.nox st t):wQ X st t:=fun s σ H D I q =>
 dm (h s σ H D (I.wish _) q) (fun f s' z=>SP.unwish z) fun _ _ z=>z.elim
def cF3(K:W.Frag)(D:Addr)(i l:Nat)(tb:XK->TS)(th:TS):TS:=fun Dn σ H =>
 tb (fun cls _ H'=>∃C,cls= .ref C/\fH K C D/\∀(σ':St) (x:Addr),σ'.length=l->H' x= .none ->
  th { nx:=fun σ2 H2=>Dn.nx (σ2.set i .none) H2,rt:=Dn.rt } (σ'.set i (some (.ref x))) (aN H' x (XN x C))) Dn σ H
theorem bC5{i:Nat}{n nmT:Str}{D:Addr}{body suite:List Stmt}{b0:Stmt}{np hpos pos:Pos}{tb:XK->TS}{th:TS}(hs:X.stack=X.env::X.outer)(hf:X.env.frame=some X.env.locals)(hex:X.ex=[])(hN:X.N.Nodup)(hi:X.N[i]?=some n)
  (hl:X.env.scope.names.lookup n=some .local) (hk:X.env.kindOf n=some .local) (hg:Gl X nmT) (hm:X.mg nmT=some (.ref D)) (U:XUp X.K D)
  (hb:∀(Ex:Value->Shared->Prop) (E1:XK),rH (CX1 X.prog X.w) (X.wish Ex) E1->nL (X.wish Ex) body (tb E1)) (hh:∀x,nL (X.hand x) (b0::suite) th) (hdb:autoParam ((nmT==("__debug__": Str))=false) Rq1._auto_1) :
  PS0 X (.Try body [.ExceptHandler (some (.Name nmT np)) (some n) (b0::suite) hpos] [] [] pos) (cF3 X.K D i X.N.length tb th):=by
 intro s σ H Dn I h;have kf:=I.ok.kind;refine wpAny_Try_except ?_;refine dm (hb (fun e s₁=>wpAny (model X.prog X.w) X.A (noteFrame e X.env) (fun _ s₂=>wpAny (model X.prog X.w) X.A (setFlight e .none) (fun _ s₃=>wpAny (model X.prog X.w) X.A (handleBy e X.env [.ExceptHandler (some (.Name nmT np)) (some n) (b0::suite) hpos]) (SP X [] Dn) X.xe s₃) X.xe s₂) X.xe s₁) _ ?_ [] s σ H Dn (I.wish _) h) (fun f s1 q=>?_) fun _ _ z=>z
 ·intro pins' σ' H1 s1 e s2 I1 cx;obtain⟨x,T,C,H2,rfl,os,bare,un,hok,nx,nT,hx,hT,F,C',eC,W,q⟩:=cx
  cases eC
  have J1:aU X [] σ' H1 s1:=I1.unwish.nopins;have ax:=J1.away hex nx;have aT:=J1.away hex nT;have J2:aU X [] σ' H2 s2:=J1.call' os un hok bare fun b z=>absurd z (by simp)
  have fr2:=J2.stack;rw[hs] at fr2;have tf:=aT.fr;rw[hs] at tf;show wpAny _ _ (noteFrame (.ref x) X.env) _ _ s2;refine aY9 (s:=s2) (outer:=X.outer) (by rw[J2.ok.frames,hs]) fr2 hf tf F fun h3 T3 k3 t3 t3' F3=>?_
  refine jY (s:={ s2 with heap:=h3 }) t3' F3 fun h4 k4 F4=>?_
  have a3:=J2.away hex t3;rw[<-hs] at k3 k4;have k34:Kp (iR X.stack) [x,T,T3] s2.heap h4:=(k3.mono (by simp)).trans (k4.mono (by simp));have hT3:H2 T3= .none:=jH.none J2.hok t3;have cl:∀b∈[x,T,T3],H2 b= .none:=fun b hb=>by
   simp only[List.mem_cons,List.not_mem_nil,or_false] at hb;rcases hb with rfl|rfl|rfl
   ·exact hx
   ·exact hT
   ·exact hT3
  have aw:∀b∈[x,T,T3],bO8 X [] b:=fun b hb=>by
   simp only[List.mem_cons,List.not_mem_nil,or_false] at hb;rcases hb with rfl|rfl|rfl
   ·exact ax
   ·exact aT
   ·exact a3
  have J4:aU X [] σ' H2 { s2 with heap:=h4 }:=J2.move hs hf hex aw k34 (fun b _=>rfl) cl (J2.hokK k34 cl);refine wpAny_handleBy_cons ?_ (fun z=>nomatch z);refine codeAny_handlers_test (mM (X:=X.hand x) (J4.hand x) hg hm ?_ hdb);refine bJ9 J4.kIn U W F4.1 ?_;refine codeAny_handlers_suite_as ?_;refine jY (s:={ s2 with heap:=h4 }) (fs:=iR X.stack) a3.fr F4 fun h5 k5 F5=>?_
  have J5:aU X [] σ' H2 { s2 with heap:=h5 }:=J4.move hs hf hex (ch:=[T3]) (fun b hb=>aw b (by simp at hb ⊢;exact .inr (.inr hb))) k5 (fun b _=>rfl) (fun b hb=>cl b (by simp at hb ⊢;exact .inr (.inr hb))) (J4.hokK k5 fun b hb=>cl b (by simp at hb ⊢;exact .inr (.inr hb)));obtain⟨⟨o,vs,e1,e2,e3,e4,e5⟩,_⟩:=F5;have xn:∃o,h5.get? x=some o/\o.cls= .ref C/\notCls o=true/\o.dict= .none:=⟨o,e1,e2,by unfold notCls;rw[e4],e3⟩
  have hok6:jH X.prog X.w (aN H2 x (XN x C)) h5:=fun b u eb=>by
   by_cases c:b=x
   ·subst c;rw[aC] at eb
    cases eb
    exact bT9 xn
   ·rw[aH c] at eb;refine(J5.hok b u eb).stay (fun _ _ _ q=>q) (fun cc q=>?_) fun cc xs q=>?_
    ·rw[aH (fun z=>by rw[z,hx] at q;cases q)];exact q
    ·rw[aH (fun z=>by rw[z,hx] at q;cases q)];exact q
  have J6:aU X [] σ' (aN H2 x (XN x C)) { s2 with heap:=h5 }:=J5.move hs hf hex (ch:=[x]) (fun b hb=>aw b (by simp at hb ⊢;exact .inl hb)) (Kp.mono (Kp.kept fun _ _ e=>e) (by simp)) (fun b hb=>aH (by simpa using hb)) (fun b hb=>cl b (by simp at hb ⊢;exact .inl hb)) hok6;refine hV (v:= .ref x) J6 hN hi (.inl hl) rfl (fun s7 J7=>?_) (.inr hl);refine dm (hh x [] s7 _ _ _ (J7.hand x) (q σ' x J6.len hx)) (fun f s8 q8=>?_) fun _ _ z=>z.elim
  have done:∀(σ2:St) (H8:Hp),aU X [] σ2 H8 s8->∀{Q:Unit->Shared->Prop}{E:Value->Shared->Prop},(∀s9,aU X [] (σ2.set i .none) H8 s9->Q () s9)->wpAny (model X.prog X.w) X.A (do bindName X.env n Value.none;unbindBehindTheSuite X.env n hpos) Q E s8:=fun σ2 H8 J8 Q E q9=>by
   refine aa (vq (hV (v:= .non) J8 hN hi (.inl hl) rfl (fun s9 J9=>?_) (.inr hl)));unfold unbindBehindTheSuite;obtain⟨m,hm9,lk⟩:=J9.loc;have il:i<σ2.length:=by rw[J8.len];exact(bf.mp hi).1
   obtain⟨u,ru,lk1⟩:=lk i n .non hi (by rw[ou il]) (.inl hl);have mn:m n=some u:=by
    rcases lk1 with⟨_,z⟩|⟨z,_⟩
    ·exact z
    ·rw[hk] at z;rcases z with z|z<;>cases z
   refine se (wpAny_unbindName_local hk hm9 mn (by rw[kf];rfl) fun h9 u9 ns9 sb9=>?_);have:=J9.unset hN hi hk lk ns9 sb9;rw[List.set_set] at this;exact q9 _ this
  cases f with
  |next =>
   obtain⟨σ2,H8,J8,z⟩:=q8;exact done σ2 H8 (J8.unhand J6.ok) fun s9 J9=>⟨_,H8,J9,z⟩
  |ret v =>
   obtain⟨w',σ2,H8,J8,r,z⟩:=q8;exact done σ2 H8 (J8.unhand J6.ok) fun s9 J9=>⟨w',_,H8,J9,r,z⟩
  |brk =>
   obtain⟨_,_,_,z⟩:=q8;exact z.elim
  |cont =>
   obtain⟨_,_,_,z⟩:=q8;exact z.elim
 ·have q:=SP.unwish q
  cases f with
  |next=>exact na q
  |ret v=>exact q
  |brk=>exact q
  |cont=>exact q
end
theorem uJ{K:W.Frag}{t:Value}:∀{its:List Value},(∀c∈its,kitOne K t c=some false)->kitAny K t its=some false
 |[],_=>rfl
 |c::r,h=>by
  have h1:=h c aq;have h2:=uJ fun x hx=>h x (ak _ hx)
  simp[kitAny,h1,h2]
theorem qS:∀{cs:List Addr}{us:List Value},bI (cs.map V.ref) us->us=cs.map Value.ref
 |[],_,.nil=>rfl
 |c::cs,_,.cons r t=>by
  have r:_=Value.ref c:=r;rw[qS t,r];rfl
theorem aL9{X:Cx}:eA X (.builtin "isinstance") (fun xs H Q=>∃(a p C D:Addr) (cs:List Addr),xs=[.ref a,.ref p]/\aR X.K H p (cs.map V.ref)/\XAt H a C/\fH X.K C D/\XIs X.K C/\(∀c∈cs,kitOne X.K (.ref C) (.ref c)=some false)/\Q (.bl false) H):=by
 intro pins s σ H xs us Q I r h;obtain⟨a,p,C,D,cs,rfl,hq,x,W,Z,no,q⟩:=h;obtain⟨u,w',rfl,ru,rw'⟩:=pS r
 cases ru
 cases rw'
 obtain⟨its,rv,⟨⟨cls,dd,data,sl⟩,ho,hc,n,hd⟩,_⟩:=I.tuple hq;simp only at hc hd;subst hc hd;have e:=qS rv;subst e;refine kia_tup (yL W Z) I.kIn (yP I x) ho (uJ fun c hc=>?_) (fun z=>nomatch z) fun tk=>⟨.bl false,H,I.tok tk,rfl,q⟩
 obtain⟨c',hc',rfl⟩:=dh.mp hc;exact no c' hc'
structure aB8(k:Nat)(A:Around):Prop where
 dp:A.depth+3*k+5<recursionLimit
 un:A.units+16*k+200<cLine
theorem dH.h{k:Nat}{A:Around}(r:dH k A)(e:Option Value):aB8 k (A.mark e):=⟨r.dp,r.un⟩
structure xT(P:Program)(w:World)(K:W.Frag)(mg:Str->Option Value)(base:Heap)(k:Nat)(f:Addr)(fd:FuncData)(ps:List Str)(sp:Sp):Prop where
 len:∀vs H Q E,sp vs H Q E->vs.length=ps.length
 run:∀(A:Around) (outer:List Env) (s:Shared) (H:Hp) (args:Args) (us:List Value) (vs:List V) (Q:VK) (E:XK),aB8 k A->wX P w K mg base A outer s H->BindsTo s fd args (ps.zip us)->bI vs us->sp vs H Q E ->
  codeAny (model P w) A (.call (.ref f) args) (CR oX outer P w H s Q E) s
abbrev cxH(P:Program)(w:World)(K:W.Frag)(mg:Str->Option Value)(base:Heap)(N:List Str)(qual:Str)(scope:Scope)(f:Addr)(cd:Value)(A:Around)(outer:List Env)(s:Shared)(H:Hp)(E:XK):Cx:=
 { iT oX P w K mg base N qual scope f cd A outer s H E with calm:=false,xe:=fun _ _=>False }
section
variable {P:Program}{w:World}{K:W.Frag}{mg:Str->Option Value}{base:Heap}
theorem mE.okH{x qual:Str}{st:Stmt}{f:Addr}{fd:FuncData}{N ps:List Str}{k:Nat}{sp:Sp}(F:mE K x qual st f fd)(S:dY N ps (aK st))(len:∀vs H Q E,sp vs H Q E->vs.length=ps.length)
  (hbody:∀(cdv:Value) (A:Around) (outer:List Env) (s:Shared) (H:Hp) (vs:List V) (Q:VK) (E:XK),sp vs H Q E ->
   ∃t,nL (cxH P w K mg base N qual (aK st) f cdv A outer s H E) (bF st) t/\t { nx:=fun _ H'=>Q .non H',rt:=Q } (eS N vs) H):xT P w K mg base (k+1) f fd ps sp:=by
 obtain⟨oc,od,kV,doc,pm,an,cdv,ct,osl,rfl,lk,hcd⟩:=F.ex;refine⟨len,fun A outer s H args us vs Q E hr e0 hb r hsp=>?_⟩;have hl:=len _ _ _ _ hsp;have KX:K.In s.heap:=e0.mod.kin.keeps fun b o e=>(e0.bs b o e).1
 have lim:s.heap.NoLimit:=e0.mod.nolimit.keeps fun b o e=>(e0.bs b o e).1
 have hkind:∀y∈ps.zip us,(aK st).names.lookup y.1=some .local\/((aK st).names.lookup y.1=some .cell/\((cellsFrom (s.heap.objs.size+1) (aK st).names []).lookup y.1).isSome=true):=fun⟨n,v⟩ hy=>by
  rcases S.par n (jr hy).1 with q|q
  ·exact .inl q
  ·exact .inr ⟨q,ut _ _ _ (.inl q)⟩
 refine lr (by have:=hr.dp;lia) (KX _ _ lk) rfl S.co S.gen rfl (yi KX hcd) (hb _ _ _ _ ?_);refine jy S.kind hkind fun env he s1 x=>?_
 subst he;refine⟨lim.keeps x.toInCall.keep,ua ?_⟩;obtain⟨t,ht,hq⟩:=hbody cdv A outer s H vs Q E hsp;have J:=lC (CX:=oX) (E:=E) (A:={ A with handled:= .none }) S rfl (⟨e0.frames,e0.mod,e0.bs,e0.bsz,e0.funs,e0.frf,e0.hok,e0.bare⟩:wX P w K mg base { A with handled:= .none } outer s H) hl r x;have I:aU (cxH P w K mg base N qual (aK st) f cdv A outer s H E) [] (eS N vs) H s1:=
  ⟨⟨J.ok.mod,J.ok.kind,J.ok.glob,J.ok.blt,J.ok.above,J.ok.inj,J.ok.has,J.ok.cab,(fun z=>nomatch z),pp e0.frames,J.ok.stk,J.ok.exf,J.ok.bs,J.ok.bsz,J.ok.noex,J.ok.exfs,J.ok.funs,J.ok.frf⟩,J.os,J.bare,J.base,J.loc,J.cell,J.free,J.freeC,J.pin,J.hok,J.len⟩
 refine dm (ht [] s1 (eS N vs) H _ I hq) (fun fl s' hs=>?_) fun e s' hs=>hs.elim
 have fin:∀{σ':St}{H':Hp}{v:V}{u:Value},aU (cxH P w K mg base N qual (aK st) f cdv A outer s H E) [] σ' H' s'->bJ v u->Q v H'->CE outer P w H s Q u s':=
  fun {σ' H' v u} J rv q=>⟨v,H',J.os,J.bare,J.base,J.hok,rv,q⟩
 cases fl with
 |ret u =>
  obtain⟨v,σ',H',J,rv,q⟩:=hs;exact fin J rv q
 |next =>
  obtain⟨σ',H',J,q⟩:=hs;exact fin (v:=V.non) (u:=Value.none) J rfl q
 |brk =>
  obtain⟨_,_,_,q⟩:=hs;exact False.elim q
 |cont =>
  obtain⟨_,_,_,q⟩:=hs;exact False.elim q
theorem mE.okX{x qual:Str}{st:Stmt}{f:Addr}{fd:FuncData}{N ps:List Str}{k:Nat}{sp:Sp}(F:mE K x qual st f fd)(S:dY N ps (aK st))(len:∀vs H Q E,sp vs H Q E->vs.length=ps.length)
  (hbody:∀(cdv:Value) (A:Around) (outer:List Env) (s:Shared) (H:Hp) (vs:List V) (Q:VK) (E:XK),dH k (A.deeper (envOfC qual (aK st) s.heap.objs.size f cdv))->sp vs H Q E ->
   ∃t,nL (iT (CX1 P w) P w K mg base N qual (aK st) f cdv A outer s H E) (bF st) t/\t { nx:=fun _ H'=>Q .non H',rt:=Q } (eS N vs) H):kF P w K mg base (CX1 P w) (k+1) f fd ps sp:=by
 obtain⟨oc,od,kV,doc,pm,an,cdv,ct,osl,rfl,lk,hcd⟩:=F.ex;exact aX9 lk hcd S len fun A outer s H vs Q E hr hsp=>hbody cdv A outer s H vs Q E hr hsp
theorem mE.ok0{x qual:Str}{st:Stmt}{f:Addr}{fd:FuncData}{N ps:List Str}{k:Nat}{sp:Sp}(F:mE K x qual st f fd)(S:dY N ps (aK st))(len:∀vs H Q E,sp vs H Q E->vs.length=ps.length)
  (hbody:∀(cdv:Value) (A:Around) (outer:List Env) (s:Shared) (H:Hp) (vs:List V) (Q:VK) (E:XK),dH k (A.deeper (envOfC qual (aK st) s.heap.objs.size f cdv))->sp vs H Q E ->
   ∃t,wQ (iT oX P w K mg base N qual (aK st) f cdv A outer s H E).nox (bF st) t/\t { nx:=fun _ H'=>Q .non H',rt:=Q } (eS N vs) H):kF P w K mg base oX (k+1) f fd ps sp:=by
 obtain⟨oc,od,kV,doc,pm,an,cdv,ct,osl,rfl,lk,hcd⟩:=F.ex;refine⟨len,fun A outer s H args us vs Q E hr e0 hb r hsp=>?_⟩;have hl:=len _ _ _ _ hsp;have KX:K.In s.heap:=e0.mod.kin.keeps fun b o e=>(e0.bs b o e).1
 have lim:s.heap.NoLimit:=e0.mod.nolimit.keeps fun b o e=>(e0.bs b o e).1
 have hkind:∀y∈ps.zip us,(aK st).names.lookup y.1=some .local\/((aK st).names.lookup y.1=some .cell/\((cellsFrom (s.heap.objs.size+1) (aK st).names []).lookup y.1).isSome=true):=fun⟨n,v⟩ hy=>by
  rcases S.par n (jr hy).1 with q|q
  ·exact .inl q
  ·exact .inr ⟨q,ut _ _ _ (.inl q)⟩
 refine lr hr.depth (KX _ _ lk) rfl S.co S.gen rfl (yi KX hcd) (hb _ _ _ _ ?_);refine jy S.kind hkind fun env he s1 x=>?_
 subst he;refine⟨lim.keeps x.toInCall.keep,ua ?_⟩;obtain⟨t,ht,hq⟩:=hbody cdv A outer s H vs Q E (hr.deeper _) hsp;have I:aU (iT oX P w K mg base N qual (aK st) f cdv A outer s H E) [] (eS N vs) H s1:=lC S hr.hd e0 hl r x;refine dm (ht.nox s1 (eS N vs) H _ I hq) (fun fl s' hs=>?_) fun e s' hs=>hs
 have fin:∀{σ':St}{H':Hp}{v:V}{u:Value},aU (iT oX P w K mg base N qual (aK st) f cdv A outer s H E) [] σ' H' s'->bJ v u->Q v H'->CE outer P w H s Q u s':=
  fun {σ' H' v u} J rv q=>⟨v,H',J.os,J.bare,J.base,J.hok,rv,q⟩
 cases fl with
 |ret u =>
  obtain⟨v,σ',H',J,rv,q⟩:=hs;exact fin J rv q
 |next =>
  obtain⟨σ',H',J,q⟩:=hs;exact fin (v:=V.non) (u:=Value.none) J rfl q
 |brk =>
  obtain⟨_,_,_,q⟩:=hs;exact False.elim q
 |cont =>
  obtain⟨_,_,_,q⟩:=hs;exact False.elim q
end
section
variable {X:Cx}{k:Nat}{f:Addr}{fd:FuncData}{ps:List Str}{sp:Sp}{x:Str}{p pos:Pos}{e:Expr}{es:List Expr}{t:TA}
theorem aW9(F:xT X.prog X.w X.K X.mg X.base k f fd ps sp)(hr:aB8 k X.A)(hg:Gl X x)(hm:X.mg x=some (.ref f))(hk:W.keepIn X.K (.ref f)=true)(hb:gM X.K fd ps [])
  (ha:PA X (e::es) t) (hdb:autoParam ((x==("__debug__": Str))=false) Rq1._auto_1) (he:autoParam (starEach (e::es) X.env=(false,eval e X.env)::starEach es X.env) Rq0._auto_1) (hpl:autoParam ((backTo pos (starEach es X.env)).any (·.1)=false) Rq0._auto_1) :
  PE X (.Call (.Name x p) (e::es) [] pos) (qL sp [] E0 t):=by
 intro pins s σ H Q I h;refine ge (mM I hg hm ?_ hdb);refine W.callWith_K (h₀:=X.base) I.ok.mod.kin hk (cK (ha pos pins s σ H _ I h) ?_) he hpl;rintro us s1 ⟨vs,H1,I1,r,q⟩;refine⟨I1.kIn,?_⟩;have r2:bI (vs++[]) (us++[]):=r.append .nil;have hl:(us++[]).length=ps.length:=by rw[<-r2.length];exact F.len _ _ _ _ q
 refine oh (km (F.run X.A X.stack s1 H1 ⟨us,[]⟩ (us++[]) (vs++[]) Q E0 hr I1.env0 (hb s1 us I1.kIn hl) r2 q) fun r s' hq=>?_)
 cases r with
 |error e=>exact hq.elim
 |ok fl =>
  cases fl with
  |ret u=>exact I1.after hq
  |next=>exact False.elim hq
  |brk=>exact False.elim hq
  |cont=>exact False.elim hq
end
open PySem PySem.Spec PyProof.Rows
section
variable {P:Program}{w:World}{H:Hp}{h:Heap}{a C dx:Addr}
end
section
variable {X:Cx}{pins:List (Addr×Obj)}{σ:St}{H:Hp}{s:Shared}{a C dx:Addr}{f:Str}
end
section
variable {X:Cx}{CX:CXT}{k:Nat}{f C D:Addr}{fd:FuncData}{ps:List Str}{sp:Sp}{E:XK}{x:Str}{p pos:Pos}{e:Expr}{es:List Expr}{t:TA}
end
open PySem PySem.Spec PyProof.Rows PySem.W
section
variable {M:Model}{A:Around}{E:Value->Shared->Prop}{s:Shared}{base:Heap}{env:Env}{outer:List Env}{L x T C dx:Addr}{Q:Unit->Shared->Prop}
end
section
variable {X:Cx}{pins:List (Addr×Obj)}{σ:St}{H:Hp}{s:Shared}
end
section
variable {M:Model}{A:Around}{E:Value->Shared->Prop}{env:Env}
variable {nm q:Str}{C N:Addr}{bs bm:List Value}{hdct:Bool}{sn:List Str}{sub:List Value}{ab:Bool}{col:Option Bool}{dd:Option Addr}{k0 k1 k2 k3 k5:Option Value}{newId:String}
end
section
variable {X:Cx}
end
section
variable {X:Cx}{f:Str}
end
section
variable {P:Program}{w:World}{K:W.Frag}{mg:Str->Option Value}{base:Heap}{N:List Str}{qual:Str}{scope:Scope}{f:Addr}{cd:Value}{A:Around}{outer:List Env}{s0:Shared}{H0:Hp}{E:XK}
end
section
variable {P:Program}{w:World}{K:W.Frag}{mg:Str->Option Value}{base:Heap}
end
open PySem PySem.Spec PyProof.Rows
section
variable {P:Program}{w:World}{K:W.Frag}{mg:Str->Option Value}{base:Heap}
theorem cE7{x q:Str}{st:Stmt}{k:Nat}{ps:List Str}{sp:Sp}(N:List Str)
  (hb:∀{f:Addr}{cdv:Value}{A:Around}{outer:List Env}{s:Shared}{vs:List V}{E:XK}(H:Hp) (Q:VK),N.Nodup->dH k (A.deeper (envOfC q (aK st) s.heap.objs.size f cdv))->sp vs H Q E ->
   ∃t,wQ (iT oX P w K mg base N q (aK st) f cdv A outer s H E).nox (bF st) t/\t { nx:=fun _ H'=>Q .non H',rt:=Q } (eS N vs) H)
  (len:∀vs H Q E,sp vs H Q E->vs.length=ps.length:=by intro _ _ _ _ h;first|(cases h;subst_vars;rfl)|((repeat obtain⟨_,h⟩:=h);subst_vars;rfl))
  (S:autoParam (dY N ps (aK st)) Rq5._auto_1):fY P w K mg base x q st (k+1) ps sp:=
 fun F=>F.ok0 S len fun _ _ _ _ H _ Q _ hr h=>hb H Q S.nd hr h
variable {x p1 p2:Str}{st:Stmt}{n:Nat}{sp:Sp}
end
section
variable {X:Cx}{x:Str}{p pos:Pos}{e:Expr}{es:List Expr}{t:TA}
end
section
variable {P:Program}{w:World}{K:W.Frag}{mg:Str->Option Value}{base:Heap}{N:List Str}{qual:Str}{scope:Scope}{f:Addr}{cd:Value}{A:Around}{outer:List Env}{s:Shared}{H:Hp}{E:XK}
end
structure lQ(K:W.Frag)(R:Addr)(cs:List Addr)(D:Addr):Prop where
 over:fH K R D
 is:XIs K R
 ty:∀C∈cs,W.typeIn K (.ref C)=some (.type "type")
 cl:∀C∈cs,(W.clsIn K C).isSome=true
 nr:R∉cs
 nd:D∉cs
 dc:(W.clsIn K D).isSome=true
 dt:W.typeIn K (.ref D)=some (.type "type")
theorem lQ.kit{K:W.Frag}{cs:List Addr}{R D C:Addr}(F:lQ K R cs D)(h:C∈cs):W.kitOne K (.ref R) (.ref C)=some false:=by
 have e:¬R=C:=fun z=>F.nr (z ▸ h)
 have ne:C≠D:=fun z=>F.nd (z ▸ h)
 have b:(Value.ref R==Value.ref C)=false:=sw.mpr fun q=>e (Value.ref.inj (beq_iff_eq.mp q))
 obtain⟨cd,hc⟩:=jh.mp (F.cl C h);unfold W.kitOne;rw[b];unfold W.kitCls;simp[hc,F.ty C h,F.over.subIn,Ne.symm e,ne,e]
theorem lQ.self{K:W.Frag}{cs:List Addr}{R D:Addr}(F:lQ K R cs D):W.kitOne K (.ref R) (.ref R)=some true:=by
 unfold W.kitOne;simp
theorem lQ.ve{K:W.Frag}{cs:List Addr}{R D:Addr}(F:lQ K R cs D):W.kitOne K (.ref R) (.type "ValueError")=some true:=by
 unfold W.kitOne W.kitCls;simp[bD9,F.over.subIn]
theorem lQ.up{K:W.Frag}{cs:List Addr}{R D:Addr}(F:lQ K R cs D):W.kitOne K (.ref R) (.ref D)=some true:=by
 unfold W.kitOne W.kitCls;simp[F.dc,F.dt,F.over.subIn]
theorem bA7:bootBuiltins "ValueError"=some (.type "ValueError"):=by decide
theorem bE3{X:Cx}:jC X (compareOp .IsNot) (fun x y H Q=>∃a b,x= .bl a/\y= .bl b/\Q (.bl (a != b)) H):=by
 intro pins s σ H x y v u Q I rx ry h;obtain⟨a,b,rfl,rfl,q⟩:=h
 cases rx
 cases ry
 exact isnot_bool ⟨.bl (a != b),H,I,rfl,q⟩
section
variable {P:Program}{w:World}{K:W.Frag}{mg:Str->Option Value}{base:Heap}
def bQ6(K:W.Frag)(x:Str)(st:Stmt)(f:Addr)(i:Int):Prop:=∃(oc:Value) (od:Option Addr) (T:Addr) (kV dc pm:Value) (an:Option Addr) (cd ct:Value) (sl:Array (Option Value)) (o:Obj) (n:Nat) (t:Tok),K.lookup f=some ⟨oc,od,.func (W.fnOf x x (bT st) (bF st) (aK st) (.ref T) kV dc pm an cd ct),sl⟩/\W.codeIn K cd x=true/\W.keepIn K (.ref f)=true/\K.lookup T=some o/\o.data= .seq #[.int i t] n
def bL4(K:W.Frag)(x:Str)(st:Stmt)(i:Int):Prop:=∃f,W.nsIn K mainGlobals x=some (some (.ref f))/\bQ6 K x st f i
end
section
variable {X:Cx}{x:Str}{p pos:Pos}{e:Expr}{es:List Expr}{t:TA}
end
section
variable {P:Program}{w:World}{K:W.Frag}{mg:Str->Option Value}{base:Heap}
section
variable {x p1 p2 p3 p4:Str}{st:Stmt}{n:Nat}{sp:Sp}{i:Int}(Z:Zx P w K mg base) (t:bL4 K x st i)
include Z t
end
end
section
variable {X:Cx}{x:Str}{p pos:Pos}{e:Expr}{es:List Expr}{t:TA}
end
open PySem PySem.Spec PyProof.Rows PySem.W
section
variable {X:Cx}{pins:List (Addr×Obj)}{σ:St}{H:Hp}{s:Shared}
end
section
variable {X:Cx}{CX:CXT}{k:Nat}{f C:Addr}{fd:FuncData}{ps:List Str}{sp:Sp}{dvs:List V}{ds:List Value}{E:St->XK}{x m:Str}{p pos apos:Pos}{e o:Expr}{es:List Expr}{ta:TE}{t:TA}
end
def ClH(P:Program)(w:World)(K:W.Frag)(mg:Str->Option Value)(base:Heap)(n:Nat)(sp:Sp)(x:Str):Prop:=∃f d ps,xT P w K mg base n f d ps sp/\gM K d ps []/\W.keepIn K (.ref f)=true/\mg x=some (.ref f)
theorem Zx.h1{P:Program}{w:World}{K:W.Frag}{mg:Str->Option Value}{base:Heap}{x p1:Str}{st:Stmt}{n:Nat}{sp:Sp}(Z:Zx P w K mg base)(t:TopAt K x st)(ok:∀{f:Addr}{d:FuncData},mE K x x st f d->xT P w K mg base n f d [p1] sp)(h:autoParam (∀(kV doc pm:Value) (an:Option Addr) (cdv ct u1:Value),bindArgs (W.fnOf x x (bT st) (bF st) (aK st) .none kV doc pm an cdv ct) ⟨[u1],[]⟩=pure [(p1,u1)]) Rq2._auto_1):ClH P w K mg base n sp x:=by
 obtain⟨_,a,t⟩:=t;obtain⟨_,F⟩:=t.fn;exact⟨_,_,_,ok F,F.b1 h,F.kp,Z.ns _ _ a⟩
section
variable {X:Cx}{x:Str}{p pos:Pos}{e:Expr}{es:List Expr}{t:TA}
theorem cE3{k:Nat}{sp:Sp}(C:ClH X.prog X.w X.K X.mg X.base k sp x){n:Nat}(hr:aB8 n X.A)(ha:PA X (e::es) t)(hn:autoParam (k<=n) Rq6._auto_1)(hg:autoParam (Gl X x) Rq0._auto_1)(hdb:autoParam ((x==("__debug__": Str))=false) Rq1._auto_1)(he:autoParam (starEach (e::es) X.env=(false,eval e X.env)::starEach es X.env) Rq0._auto_1)
  (hpl:autoParam ((backTo pos (starEach es X.env)).any (·.1)=false) Rq0._auto_1):PE X (.Call (.Name x p) (e::es) [] pos) (qL sp [] E0 t):=by obtain⟨_,_,_,F,b,k,m⟩:=C;exact aW9 F ⟨by have:=hr.dp;lia,by have:=hr.un;lia⟩ hg m k b ha hdb he hpl
end
open PySem PySem.Spec PyProof.Rows
section
variable {P:Program}{w:World}{K:W.Frag}{mg:Str->Option Value}{base:Heap}
def ClX(P:Program)(w:World)(K:W.Frag)(mg:Str->Option Value)(base:Heap)(n:Nat)(sp:Sp)(x:Str):Prop:=∃f d ps,kF P w K mg base (CX1 P w) n f d ps sp/\gM K d ps []/\W.keepIn K (.ref f)=true/\mg x=some (.ref f)
def bN6(P:Program)(w:World)(K:W.Frag)(mg:Str->Option Value)(base:Heap)(x q:Str)(st:Stmt)(n:Nat)(ps:List Str)(sp:Sp):Prop:=∀{f:Addr}{d:FuncData},mE K x q st f d->kF P w K mg base (CX1 P w) n f d ps sp
theorem cD1{x q:Str}{st:Stmt}{k:Nat}{ps:List Str}{sp:Sp}(N:List Str)
  (hb:∀{f:Addr}{cdv:Value}{A:Around}{outer:List Env}{s:Shared}{vs:List V}{E:XK}(H:Hp) (Q:VK),N.Nodup->dH k (A.deeper (envOfC q (aK st) s.heap.objs.size f cdv))->sp vs H Q E ->
   ∃t,nL (iT (CX1 P w) P w K mg base N q (aK st) f cdv A outer s H E) (bF st) t/\t { nx:=fun _ H'=>Q .non H',rt:=Q } (eS N vs) H)
  (len:∀vs H Q E,sp vs H Q E->vs.length=ps.length:=by intro _ _ _ _ h;first|(cases h;subst_vars;rfl)|((repeat obtain⟨_,h⟩:=h);subst_vars;rfl))
  (S:autoParam (dY N ps (aK st)) Rq5._auto_1):bN6 P w K mg base x q st (k+1) ps sp:=
 fun F=>F.okX S len fun _ _ _ _ H _ Q _ hr h=>hb H Q S.nd hr h
theorem Zx.x2{x p1 p2:Str}{st:Stmt}{n:Nat}{sp:Sp}(Z:Zx P w K mg base)(t:TopAt K x st)(ok:bN6 P w K mg base x x st n [p1,p2] sp)(h:autoParam (∀(kV doc pm:Value) (an:Option Addr) (cdv ct u1 u2:Value),bindArgs (W.fnOf x x (bT st) (bF st) (aK st) .none kV doc pm an cdv ct) ⟨[u1,u2],[]⟩=pure [(p1,u1),(p2,u2)]) Rq2._auto_1):ClX P w K mg base n sp x:=by
 obtain⟨_,a,t⟩:=t;obtain⟨_,F⟩:=t.fn;exact⟨_,_,_,ok F,F.b2 h,F.kp,Z.ns _ _ a⟩
end
section
variable {X:Cx}{x:Str}{p pos:Pos}{e:Expr}{es:List Expr}{t:TA}
theorem cC5{k:Nat}{sp:Sp}{E:XK}(C:ClX X.prog X.w X.K X.mg X.base k sp x){n:Nat}(hr:dH n X.A)(hx:rH (CX1 X.prog X.w) X E)(ha:PA X (e::es) t)(hn:autoParam (k<=n) Rq6._auto_1)(hg:autoParam (Gl X x) Rq0._auto_1)(hdb:autoParam ((x==("__debug__": Str))=false) Rq1._auto_1)(he:autoParam (starEach (e::es) X.env=(false,eval e X.env)::starEach es X.env) Rq0._auto_1)
  (hpl:autoParam ((backTo pos (starEach es X.env)).any (·.1)=false) Rq0._auto_1):PE X (.Call (.Name x p) (e::es) [] pos) (qL sp [] E t):=by obtain⟨_,_,_,g,b,k,m⟩:=C;exact aC0 g (hr.mono hn) hg m k b .nil hx ha hdb he hpl
end
end L2
namespace Mine
open PySem L2
def cE4:Stmt->Pos
 |st=>match bF st with
  |[.Return (some (.Call _ [_,.Lambda _ _ _ pos] _ _)) _]=>pos
  |_=>⟨0,0,0,0⟩
def cE9:Stmt->Option Arguments
 |st=>match bF st with
  |[.Return (some (.Call _ [_,.Lambda ar _ _ _] _ _)) _]=>some ar
  |_=>none
def cE2:Stmt->Expr
 |st=>match bF st with
  |[.Return (some (.Call _ [_,.Lambda _ b _ _] _ _)) _]=>b
  |_=> .Constant .none 0 ⟨0,0,0,0⟩
def bV5:Stmt->Scope
 |st=>match bF st with
  |[.Return (some (.Call _ [_,.Lambda _ _ sc _] _ _)) _]=>sc
  |_=>aK st
mutual
theorem eL.usR{ν:Str->Str}:∀{r r':Rw},eL ν r r'->(∀q∈gJ r,∀p w x us am,q= .thr p w x us am->∀u∈us,uS u)->∀q∈gJ r',∀p w x us am,q= .thr p w x us am->∀u∈us,uS u
 |.thr p0 w0 x0 us0 am0,_,⟨p1,e⟩,h,q,hq,p,w,x,us,am,eq=>by
  rw[e] at hq;rw[cg.mp hq] at eq;injection eq with _ _ _ eu _
  rw[<-eu];exact h _ (cg.mpr rfl) _ _ _ _ _ rfl
 |.lt _ _ _,_,⟨_,_,e,_⟩,_,q,hq,p,w,x,us,am,eq=>by
  rw[e] at hq;rw[cg.mp hq] at eq
  cases eq
 |.tell _ _,_,⟨_,_,e,_⟩,_,q,hq,p,w,x,us,am,eq=>by
  rw[e] at hq;rw[cg.mp hq] at eq
  cases eq
 |.when _ _ _ _ a b,_,⟨_,_,_,_,_,_,e,_,ha,hb⟩,h,q,hq,p,w,x,us,am,eq=>by
  rw[e] at hq;rcases bu.mp hq with z|z
  ·rw[z] at eq;cases eq
  ·rcases bp.mp z with z|z
   ·exact bO.usL ha (fun q' hq'=>h q' (ak _ (bv _ hq'))) q z p w x us am eq
   ·exact bO.usL hb (fun q' hq'=>h q' (ak _ (bh _ hq'))) q z p w x us am eq
 |.times _ _ _ b,_,⟨_,_,_,e,hb⟩,h,q,hq,p,w,x,us,am,eq=>by
  rw[e] at hq;rcases bu.mp hq with z|z
  ·rw[z] at eq;cases eq
  ·exact bO.usL hb (fun q' hq'=>h q' (ak _ hq')) q z p w x us am eq
theorem bO.usL{ν:Str->Str}:∀{rs rs':List Rw},bO ν rs rs'->(∀q∈dA rs,∀p w x us am,q= .thr p w x us am->∀u∈us,uS u)->∀q∈dA rs',∀p w x us am,q= .thr p w x us am->∀u∈us,uS u
 |[],_,e,_,q,hq,p,w,x,us,am,eq=>by rw[show _=[] from e] at hq;exact absurd hq (by simp[dA])
 |r::rs,_,⟨_,_,e,hr,hs⟩,h,q,hq,p,w,x,us,am,eq=>by
  rw[e] at hq;rcases bp.mp hq with z|z
  ·exact eL.usR hr (fun q' hq'=>h q' (bv _ hq')) q z p w x us am eq
  ·exact bO.usL hs (fun q' hq'=>h q' (bh _ hq')) q z p w x us am eq
end
theorem aT0{n:Nat}:∀{rs qs:List Rw},jD rs<=n->jD qs<=n->jD (rs++qs)<=n
 |[],_,_,h=>h
 |r::rs,qs,h,k=>by
  simp only[jD] at h;have:=aT0 (rs:=rs) (qs:=qs) (n:=n) (by lia) k;simp only[List.cons_append,jD];lia
theorem nN.behind{H:Hp}{p q r pk pr:Addr}{K1 K2:List Str}{rs1 rs2 o:List Rw}{m1 m2:Nat}{ν:Str->Str}(P1:nN H p K1 rs1 m1)(P2:nN H q K2 rs2 m2)(h:m1+m2<=3)(R:bO ν rs2 o)(hr:H r=some (.tup [.ref pk,.ref pr]))(hk:H pk=some (.tup (K1.map V.str)))(hp:H pr=some (.tup (bL (rs1++o))))(ho:aZ H o):nN H r K1 (rs1++o) (m1+m2):=by
 obtain⟨k1,s1⟩:=P1.sc;obtain⟨k2,s2⟩:=P2.sc;obtain⟨k3,s3,_⟩:=R.sc s2 [] (fun _ z=>nomatch z);obtain⟨k4,s4,_⟩:=fO.wide o k1 s3 (fun _ z=>nomatch z);have c1:=P1.cnt;have c2:=P2.cnt;have t1:=P1.t1;have t2:=P2.t1;refine⟨⟨pk,pr,hr,hk,hp⟩,aZ.app P1.rows ho,?_,⟨_,fO.cat s1 s4⟩,cA.app P1.tk (R.telOk P2.tk),?_,P1.k1,P1.k3,aT0 P1.dp (by rw[R.dp];exact P2.dp),iH.app P1.tz (R.tsz P2.tz),fun z hz=>?_,?_,h⟩
 ·rw[jV,R.cnt];lia
 ·rw[nA,R.tel];lia
 ·rw[fL] at hz;rcases bp.mp hz with e|e
  ·exact P1.us z e
  ·exact R.usL P2.us z e
 ·rw[uY,R.nm,Nat.mul_add];exact P1.few.app (P2.few.map ν)
inductive aL0(cF:Addr)(L:sI)(vs:List V)(H:Hp)(Q:VK)(E:XK):Prop
 |mk:∀(p q:Addr) (K1 K2:List Str) (rs1 rs2:List Rw) (m1 m2:Nat),(vs=[.ref p,.ref q])->(lL H L.P L.pos L.q)->(nN H p K1 rs1 m1)->(nN H q K2 rs2 m2)->(m1+m2<=3)->(((K1=K2/\∀(r:Addr) (o:List Rw) (ν:Str->Str) (H':Hp),jF L.P H H'->lL H' L.P L.pos L.q->nN H' r K1 (rs1++o) (m1+m2)->aZ H' o->bO ν rs2 o->nY ν K1 K2 (eM rs1) (eM rs2)->Q (.ref r) H')\/(K1≠K2/\∀H',bD H H'->E (.ref cF) .none H')))->aL0 cF L vs H Q E
def xU(H:Hp)(d:Addr)(S:List Str)(ν:Str->Str):Prop:=H d=some (.dK (S.map fun x=>((Sum.inr x:Key),V.str (ν x))))/\S.Nodup
theorem pI{ν:Str->Str}{x:Str}:∀{S:List Str},dP (S.map fun x=>((Sum.inr x:Key),V.str (ν x))) (Sum.inr x:Key)=if x∈S then some (.str (ν x)) else none
 |[]=>rfl
 |y::S=>by
  rw[ek]
  by_cases c:y=x
  ·rw[cO (by rw[c]),c,bg aq]
  ·rw[bX (fun z=>c (by injection z)),pI (S:=S)]
   by_cases d:x∈S
   ·rw[bg d,bg (ak _ d)]
   ·rw[av d,av (fun z=>by
     rcases bu.mp z with z|z
     ·exact c z.symm
     ·exact d z)]
theorem bA3{ν:Str->Str}{x:Str}{S:List Str}(h:x∉S):dI (S.map fun x=>((Sum.inr x:Key),V.str (ν x))) (Sum.inr x) (.str (ν x))=(S++[x]).map fun x=>((Sum.inr x:Key),V.str (ν x)):=by
 unfold dI;rw[av,au]
 ·rfl
 ·intro z;obtain⟨kv,hkv,e⟩:=jc.mp z;obtain⟨y,hy,rfl⟩:=dh.mp hkv;have e:=ag e;injection e with e
  exact h (e ▸ hy)
theorem xU.bar{H H':Hp}{d:Addr}{S:List Str}{ν:Str->Str}(h:xU H d S ν)(s:bD H H'):xU H' d S ν:=⟨s _ _ h.1,h.2⟩
theorem xU.ts{H H':Hp}{d:Addr}{S:List Str}{ν:Str->Str}(h:xU H d S ν)(b:eU d H H'):TS H H':=b.ts h.1
inductive spNmT(vs:List V)(H:Hp)(Q:VK)(z1:XK):Prop
 |mk:∀(d:Addr) (S:List Str) (ν:Str->Str) (x:Str) (T:List Str),(vs=[.str (ν x),.str x,.ref d])->(xU H d S ν)->(oW 900 T)->(x∈T)->((∀y∈S,y∈T))->(∀(S':List Str) (H':Hp),eU d H H'->xU H' d S' ν->(∀y,y∈S'↔y∈S\/y=x)->Q (.bl true) H')->spNmT vs H Q z1
inductive aT1(n:Nat)(vs:List V)(H:Hp)(Q:VK)(z1:XK):Prop
 |mk:∀(d:Addr) (S:List Str) (ν:Str->Str) (t u:Tm) (T:List Str),(vs=[.ref u.p,.ref t.p,.ref d])->(xU H d S ν)->(lN H t)->(lN H u)->(fR ν t u)->(t.size<=n)->(oW 900 T)->((∀y∈t.names,y∈T))->((∀y∈S,y∈T))->(∀(S':List Str) (H':Hp),eU d H H'->xU H' d S' ν->(∀y,y∈S'↔y∈S\/y∈t.names)->Q (.bl true) H')->aT1 n vs H Q z1
def aD7:Nat->Sp
 |0=>fun _ _ _ _=>False
 |n+1=>aT1 n
abbrev bU4(L:List Rw):Prop:=∀q∈L,∀p w x us am,q=Rw.thr p w x us am->∀u∈us,uS u
inductive aL3(m:Nat)(vs:List V)(H:Hp)(Q:VK)(z1:XK):Prop
 |mk:∀(d:Addr) (S:List Str) (ν:Str->Str) (r q:Rw) (T:List Str),(vs=[.ref q.p,.ref r.p,.ref d])->(xU H d S ν)->(eF H r)->(eF H q)->(eL ν r q)->(r.dp<=m)->(yH r)->(bU4 (gJ r))->(r.cnt<=900)->(oW 900 T)->((∀y∈eM [r],y∈T))->((∀y∈S,y∈T))->(∀(S':List Str) (H':Hp),eU d H H'->xU H' d S' ν->(∀y,y∈S'↔y∈S\/y∈eM [r])->Q (.bl true) H')->aL3 m vs H Q z1
def aX0:Nat->Sp
 |0=>fun _ _ _ _=>False
 |n+1=>aL3 n
inductive aQ9(m:Nat)(vs:List V)(H:Hp)(Q:VK)(z1:XK):Prop
 |mk:∀(d:Addr) (S:List Str) (ν:Str->Str) (rs qs:List Rw) (p q:Addr) (T:List Str),(vs=[.ref q,.ref p,.ref d])->(xU H d S ν)->(H p=some (.tup (bL rs)))->(H q=some (.tup (bL qs)))->(aZ H rs)->(aZ H qs)->(bO ν rs qs)->(jD rs<=m)->(iH rs)->(bU4 (dA rs))->(bP rs<=900)->(oW 900 T)->((∀y∈eM rs,y∈T))->((∀y∈S,y∈T))->(∀(S':List Str) (H':Hp),eU d H H'->xU H' d S' ν->(∀y,y∈S'↔y∈S\/y∈eM rs)->Q (.bl true) H')->aQ9 m vs H Q z1
def aE5:Nat->Sp
 |0=>fun _ _ _ _=>False
 |n+1=>aQ9 n
inductive aM9(n:Nat)(vs:List V)(H:Hp)(Q:VK)(z1:XK):Prop
 |mk:∀(p:Addr) (rs:List Rw),(vs=[.ref p])->(H p=some (.tup (bL rs)))->(aZ H rs)->(jD rs<=n)->(bP rs<=900)->(∀(l:Addr) (H':Hp),bD H H'->H' l=some (.lst (bL (dA rs)))->Q (.ref l) H')->aM9 n vs H Q z1
def aC8:Nat->Sp
 |0=>fun _ _ _ _=>False
 |n+1=>aM9 n
theorem fR.shape{ν:Str->Str}:∀{t u:Tm},fR ν t u->u.w=t.w/\u.rest.length=t.rest.length
 |.num _ _,_,⟨_,e⟩=>by rw[e];exact⟨rfl,rfl⟩
 |.nam _ _,_,⟨_,e⟩=>by rw[e];exact⟨rfl,rfl⟩
 |.op _ _ _ _,_,⟨_,_,_,e,_⟩=>by rw[e];exact⟨rfl,rfl⟩
theorem eL.shape{ν:Str->Str}:∀{r q:Rw},eL ν r q->q.w=r.w/\q.rest.length=r.rest.length
 |.thr _ _ _ _ _,_,⟨_,e⟩=>by rw[e];exact⟨rfl,by simp[Rw.rest]⟩
 |.lt _ _ _,_,⟨_,_,e,_⟩=>by rw[e];exact⟨rfl,rfl⟩
 |.tell _ _,_,⟨_,_,e,_⟩=>by rw[e];exact⟨rfl,rfl⟩
 |.when _ _ _ _ _ _,_,⟨_,_,_,_,_,_,e,_⟩=>by rw[e];exact⟨rfl,rfl⟩
 |.times _ _ _ _,_,⟨_,_,_,e,_⟩=>by rw[e];exact⟨rfl,rfl⟩
theorem kQ{H:Hp}:∀{us:List V},(∀u∈us,uS u)->Paired (Deq H 0) us us
 |[],_=> .nil
 |u::us,h=> .cons (h u aq) (kQ fun v hv=>h v (ak _ hv))
theorem bO.at{ν:Str->Str}:∀{rs qs:List Rw}{i:Nat}{r:Rw},bO ν rs qs->rs[i]?=some r->∃q,qs[i]?=some q/\eL ν r q
 |[],_,i,r,_,e=>by cases e
 |x::rs,_,0,r,⟨q,qs,e,h,k⟩,f=>by cases f;exact⟨q,by rw[e];rfl,h⟩
 |x::rs,_,i+1,r,⟨q,qs,e,h,k⟩,f=>by
  obtain⟨q',a,b⟩:=bO.at (rs:=rs) (i:=i) k f;exact⟨q',by rw[e];exact a,b⟩
theorem bO.length{ν:Str->Str}:∀{rs qs:List Rw},bO ν rs qs->qs.length=rs.length
 |[],_,e=>by rw[show _=[] from e]
 |_::_,_,⟨_,_,e,_,k⟩=>by rw[e,bz,bz,bO.length k]
theorem iH.mem:∀{rs:List Rw}{r:Rw},iH rs->r∈rs->yH r
 |_::_,_,⟨h,k⟩,m=>by
  rcases bu.mp m with rfl|m
  ·exact h
  ·exact iH.mem k m
theorem aD0{rs:List Rw}{r:Rw}(h:r∈rs):∀q∈gJ r,q∈dA rs:=by
 induction rs with
 |nil=>cases h
 |cons x rs ih =>
  intro q hq;rcases bu.mp h with rfl|m
  ·exact bv _ hq
  ·exact bh _ (ih m q hq)
theorem bC8{rs:List Rw}{r:Rw}(h:r∈rs):∀y∈eM [r],y∈eM rs:=fun y hy=>by
 unfold eM at hy ⊢;obtain⟨q,hq,hy⟩:=jd.mp hy;exact jd.mpr ⟨q,aD0 h q (by simpa [dA] using hq),hy⟩
theorem bG2{H:Hp}{r:Rw}(h:eF H r):oY (V.str r.w) [V.str "tell",V.str "when",V.str "times"]= !r.sets.isSome:=by
 cases r with
 |thr p w x us am =>
  have hw:=h.2.w;have:w="ladder"\/w="flat"\/w="choose"\/w="first":=by simpa [cV] using hw
  rcases this with e|e|e|e<;>(show oY (V.str w) _=false;rw[e];decide)
 |lt p x t=>show oY (V.str "let") _=false;decide
 |tell p t=>show oY (V.str "tell") _=true;decide
 |when p pa pb t a b=>show oY (V.str "when") _=true;decide
 |times p pb n b=>show oY (V.str "times") _=true;decide
theorem aU4:∀{L T:List Key},L.Nodup->(∀x∈L,x∈T)->L.length<=T.length
 |[],_,_,_=>bt _
 |x::L,T,nd,h=>by
  obtain⟨h1,h2⟩:=cy.mp nd;have hx:=h x aq;have a:=aU4 (L:=L) (T:=T.filter fun y=>decide (y≠x)) h2 fun y hy=>dr.mpr ⟨h y (ak _ hy),af fun e=>h1 (by rw[<-e];exact hy)⟩
  have b:=(List.length_filter_lt_length_iff_exists (l:=T) (p:=fun y=>decide (y≠x))).mpr ⟨x,hx,by simp⟩;rw[bz];lia
theorem aN3(ts:List Str):(tk ts).length=ts.length:=ac _
theorem bY2{ts:List Str}(h:ts.Nodup):(dd (tk ts)).length=ts.length:=by
 rw[wI,aN3];unfold tk;rw[sf,yy];exact h.imp fun z q=>z (by injection q)
theorem oV{ν:Str->Str}:∀{S:List Str},S.Nodup->(∀x∈S,∀y∈S,ν x=ν y->x=y)->(S.map ν).Nodup
 |[],_,_=>oj
 |x::S,nd,h=>by
  obtain⟨h1,h2⟩:=cy.mp nd;rw[ek,cy];refine⟨fun z=>?_,oV h2 fun a ha b hb=>h a (ak _ ha) b (ak _ hb)⟩;obtain⟨y,hy,e⟩:=dh.mp z;exact h1 (h y (ak _ hy) x aq e ▸ hy)
theorem nN.stn{H:Hp}{p:Addr}{ks:List Str}{rs:List Rw}{m:Nat}(P:nN H p ks rs m)(x:Str):x∈dU rs↔x∈eM rs:=by
 obtain⟨k2,h⟩:=P.sc;refine⟨bL5,fun z=>?_⟩;rcases h.clo.1 x z with e|e
 ·cases e
 ·exact e
def NmF(H:Hp)(d:Addr)(o:PySem.Obj)(S:List Str)(ν:Str->Str):Prop:=H d=some (.frz o (.dK (S.map fun x=>((Sum.inr x:Key),V.str (ν x)))))
theorem NmF.get{H:Hp}{d:Addr}{o:PySem.Obj}{S:List Str}{ν:Str->Str}(h:NmF H d o S ν){x:Str}(hx:x∈S):fK H d (.str x) (some (.str (ν x))):= .inl ⟨_,Sum.inr x,.inr ⟨o,h⟩,rfl,by rw[pI,bg hx]⟩
theorem aU6{S:List Str}{ν:Str->Str}{i:Nat}{k:Key}{v:V}(h:(S.map fun x=>((Sum.inr x:Key),V.str (ν x)))[i]?=some (k,v)):∃x,S[i]?=some x/\k=Sum.inr x:=by
 rw[cq] at h;obtain⟨x,hx,e⟩:=lh.mp h;injection e with e1 e2
 exact⟨x,hx,e1.symm⟩
inductive spNmR(vs:List V)(H:Hp)(Q:VK)(z1:XK):Prop
 |mk:∀(d p q:Addr) (S:List Str) (ν:Str->Str) (K1 K2:List Str) (rs1 rs2:List Rw) (m1 m2:Nat),(vs=[.ref d,.ref p,.ref q])->(xU H d S ν)->(nN H p K1 rs1 m1)->(nN H q K2 rs2 m2)->(nY ν K1 K2 (eM rs1) (eM rs2))->((∀y,y∈S↔y∈eM rs2))->(∀H',eU d H H'->Q (.bl true) H')->spNmR vs H Q z1
inductive aP8(cR:Addr)(vs:List V)(H:Hp)(Q:VK)(z1:XK):Prop
 |mk:∀x,(vs=[.ref x])->(H x=some (XN x cR))->(∀H',bD H H'->Q (.bl true) H')->aP8 cR vs H Q z1
theorem cC3{σ:St}(h:σ.length=4):∃v0 v1 v2 v3,σ=[v0,v1,v2,v3]:=by
 match σ,h with
 |[a,b,c,d],_=>exact⟨a,b,c,d,rfl⟩
inductive aB1(L:sI)(vs:List V)(H:Hp)(Q:VK)(z1:XK):Prop
 |mk:∀(p q:Addr) (K1 K2:List Str) (rs1 rs2:List Rw) (m1 m2:Nat),(vs=[.ref p,.ref q])->(lL H L.P L.pos L.q)->(nN H p K1 rs1 m1)->(nN H q K2 rs2 m2)->(m1+m2<=3)->(((K1=K2/\∀(r:Addr) (o:List Rw) (ν:Str->Str) (H':Hp),jF L.P H H'->lL H' L.P L.pos L.q->nN H' r K1 (rs1++o) (m1+m2)->aZ H' o->bO ν rs2 o->nY ν K1 K2 (eM rs1) (eM rs2)->Q (.ref r) H')\/(K1≠K2/\∀H',bD H H'->Q (.str "refused") H')))->aB1 L vs H Q z1
inductive spKnd(vs:List V)(H:Hp)(Q:VK)(z1:XK):Prop
 |mk:∀(d l kl:Addr) (ks:List Str),(vs=[.ref d,.ref kl])->(dJ H d l)->(H kl=some (.lst (ks.map V.str)))->(kl≠l)->(1<=ks.length)->(ks.length<=3)->((∀x∈ks,x.length<=8))->(∀(kl':Addr) (ks':List Str) (H':Hp),dJ H' d l->eW d l H H'->H' kl'=some (.lst (ks'.map V.str))->kl'≠l->1<=ks'.length->ks'.length<=3->Q (.ref kl') H')->spKnd vs H Q z1
inductive spTwo(vs:List V)(H:Hp)(Q:VK)(z1:XK):Prop
 |mk:∀(d l kl ol:Addr) (ks os:List Str),(vs=[.ref d,.ref kl,.ref ol,.int 3])->(dJ H d l)->(H kl=some (.lst (ks.map V.str)))->(kl≠l)->(1<=ks.length)->(ks.length<=3)->(H ol=some (.lst (os.map V.str)))->(ol≠l)->(1<=os.length)->(os.length<=3)->(∀(r p q:Addr) (rs1 rs2:List Rw) (H':Hp),dJ H' d l->eW d l H H'->H' r=some (.tup [.ref p,.ref q])->nN H' p ks rs1 1->nN H' q os rs2 1->Q (.ref r) H')->spTwo vs H Q z1
inductive aQ1(L:sI)(vs:List V)(H:Hp)(Q:VK)(z1:XK):Prop
 |mk:∀(p q:Addr) (ks:List Str) (rs1 rs2:List Rw) (m1 m2:Nat),(vs=[.ref p,.ref q])->(lL H L.P L.pos L.q)->(nN H p ks rs1 m1)->(nN H q ks rs2 m2)->(m1+m2<=3)->(ks.Nodup)->(∀H',jF L.P H H'->lL H' L.P L.pos L.q->Q (.bl true) H')->aQ1 L vs H Q z1
theorem cD2{x:V}{r:List V}:iF (x::r) (some 1) none=r:=by
 show((x::r).drop (min 1 (r.length+1))).take (r.length+1-min 1 (r.length+1))=r;rw[jw (by lia)];simp
theorem pE{xs:List V}(n:Nat):iF xs none (some (n:Int))=xs.take n:=by
 show(xs.drop 0).take (HT.sIx xs.length xs.length (some (n:Int))-0)=_;rw[List.drop_zero,Nat.sub_zero,show HT.sIx xs.length xs.length (some (n:Int))=min n xs.length from HT.sIx_nat _ _ n]
 by_cases h:n<=xs.length
 ·rw[jw h]
 ·rw[uu (by lia),cm,dk (by lia)]
theorem wL{xs:List V}(n:Nat):iF xs (some (n:Int)) none=xs.drop n:=by
 show(xs.drop (HT.sIx xs.length 0 (some (n:Int)))).take (xs.length-HT.sIx xs.length 0 (some (n:Int)))=_;rw[show HT.sIx xs.length 0 (some (n:Int))=min n xs.length from HT.sIx_nat _ _ n]
 by_cases h:n<=xs.length
 ·rw[jw h,dk (by rw[me];exact ah _)]
 ·rw[uu (by lia),List.drop_length,List.drop_of_length_le (by lia),List.take_nil]
theorem bE0{ys zs:List V}:iF (ys++zs) none (some (ys.length:Int))=ys:=by rw[pE,List.take_left]
theorem aJ4{ys zs:List V}:iF (ys++zs) (some (ys.length:Int)) none=zs:=by rw[wL,List.drop_left]
theorem bV8{ys zs:List V}(h:1<=zs.length):¬(HT.sIx (ys++zs).length 0 none=0/\HT.sIx (ys++zs).length (ys++zs).length (some (ys.length:Int))=(ys++zs).length):=by
 rw[show HT.sIx (ys++zs).length (ys++zs).length (some (ys.length:Int))=min ys.length (ys++zs).length from HT.sIx_nat _ _ _,ao];lia
theorem bC1{ys zs:List V}(h:1<=ys.length):¬(HT.sIx (ys++zs).length 0 (some (ys.length:Int))=0/\HT.sIx (ys++zs).length (ys++zs).length none=(ys++zs).length):=by
 rw[show HT.sIx (ys++zs).length 0 (some (ys.length:Int))=min ys.length (ys++zs).length from HT.sIx_nat _ _ _,ao];lia
theorem aE9{rs:List Rw}:∀u∈bL rs,uS u:=fun u hu=>by
 obtain⟨r,_,rfl⟩:=dh.mp hu;exact yE _
theorem bD7{ks:List Str}:∀u∈ks.map V.str,uS u:=fun u hu=>by
 obtain⟨x,_,rfl⟩:=dh.mp hu;exact mR _
theorem aS8{rs:List Rw}(h:1<=eE rs):1<=rs.length:=by
 cases rs with
 |nil=>exact absurd h (by decide)
 |cons r rs=>rw[bz];lia
theorem mQ{H H':Hp}{d l P:Addr}{ps:Array Value}(D:dJ H d l)(e:H P=some (.tbl ps))(o:eW d l H H'):H' P=some (.tbl ps):=by
 obtain⟨sd,k,ls,z⟩:=D;exact o _ _ e (fun h=>by rw[h,z.dc] at e;cases e) (fun h=>by rw[h,z.lc] at e;cases e)
inductive mZ(K:W.Frag)(L:sI)(vs:List V)(H:Hp)(Q:VK)(z1:XK):Prop
 |mk:∀(a:Addr) (ns:List Int),(vs=[.ref a])->(bK K H a (ns.map V.int))->(ns.length<=63)->(H L.P=some (.tbl #[]))->(∀H',Q (.bl true) H')->mZ K L vs H Q z1
theorem lW{H:Hp}{n:Nat}:∀{us:List V},(∀u∈us,uS u)->Paired (Deq H n) us us
 |[],_=> .nil
 |u::us,h=> .cons (gL (h u aq) n) (lW fun v hv=>h v (ak _ hv))
theorem rE{R:V->V->Prop}:∀{as bs cs ds:List V},Paired R as bs->Paired R cs ds->Paired R (as++cs) (bs++ds)
 |[],_,_,_,.nil,k=>k
 |_::_,_,_,_,.cons h t,k=> .cons h (rE t k)
def top(i:Nat):Stmt:=PySem.Challenge.pw_pairedthrows_k46_one_behind_another.main.body.getD i (.Pass ⟨0,0,0,0⟩)
abbrev bX5:Stmt:=top 11
abbrev bW7:Stmt:=top 12
abbrev cA0:Stmt:=top 13
abbrev bZ4:Stmt:=top 14
abbrev bX8:Stmt:=top 15
abbrev bT3:Stmt:=top 16
abbrev bS4:Stmt:=top 17
abbrev cA9:Stmt:=top 18
abbrev bZ2:Stmt:=top 19
abbrev bU0:Stmt:=top 22
abbrev bY3:Stmt:=top 23
abbrev bX4:Stmt:=top 24
abbrev bZ5:Stmt:=top 25
abbrev bZ6:Stmt:=top 26
abbrev bX1:Stmt:=top 27
abbrev bS6:Stmt:=top 28
abbrev bY4:Stmt:=top 29
abbrev bS2:Stmt:=top 31
abbrev cA8:Stmt:=top 36
abbrev bU9:Stmt:=top 38
abbrev bU2:Stmt:=top 39
abbrev bW0:Stmt:=top 40
abbrev bT8:Stmt:=top 41
abbrev bW4:Stmt:=top 42
abbrev yJ:Stmt:=top 43
abbrev cA1:Stmt:=top 44
abbrev aV3:Stmt:=top 46
abbrev aP7:Stmt:=top 47
abbrev bF1:Stmt:=top 48
abbrev aQ0:Stmt:=top 49
abbrev aP9:Stmt:=top 50
abbrev aO9:Stmt:=top 51
abbrev aV6:Stmt:=top 52
abbrev aJ9:Stmt:=top 53
abbrev bG0:Stmt:=top 54
abbrev aQ8:Stmt:=top 55
abbrev aU5:Stmt:=top 56
abbrev aO0:Stmt:=top 57
abbrev aL5:Stmt:=top 58
abbrev aX5:Stmt:=top 59
abbrev bS7:Stmt:=top 60
abbrev bX2:Stmt:=top 61
abbrev bV9:Stmt:=top 62
abbrev bW2:Stmt:=top 63
abbrev bU8:Stmt:=top 64
abbrev bU7:Stmt:=top 65
abbrev aW8:Stmt:=top 66
abbrev bK2:Stmt:=top 67
abbrev bY7:Stmt:=top 68
abbrev bZ1:Stmt:=top 69
abbrev bU1:Stmt:=top 70
abbrev aY0:Stmt:=top 71
section
variable {P:Program}{w:World}{K:W.Frag}{mg:Str->Option Value}{base:Heap}
theorem vG:dY ["_law_deal_here","_law_many","_law_number","_law_one","_law_other"] ["_law_deal_here","_law_many"] (aK aP7):=by refine⟨rfl,rfl,rfl,?_,rfl,?_,?_⟩<;>decide
theorem bD0{f:Addr}{fd:FuncData}(F:mE K "_law_draw" "_law_draw" aP7 f fd)(ml:mg "len"=none):kF P w K mg base oX 1 f fd ["_law_deal_here","_law_many"] spDraw:=by
 refine F.ok vG (fun vs H Q E h=>?_) (fun cdv A outer s H vs Q E hr h=>?_)
 ·obtain⟨d,l,m,rfl,_⟩:=h;rfl
 obtain⟨d,l,m,rfl,⟨sd,n,ls,D⟩,hm0,hm1,k⟩:=h;have hu:=hG hr;refine⟨_,aF (iV jj (jM (mO bN (iK hu (pv 0) aG (fun _ _=>rfl)) aD (nX _)) (jO (mO jQ (hX bG (by rfl) ml cu (aA (iK hu (pv 0) aG (fun _ _=>rfl)) cX)) aD (nX _)))).pt
   (aE (pM hu (pv 0) aG (jZ bo gq gy kA (iK hu (pv 0) aG (fun _ _=>rfl))) rfl)))
  (aF (fW (i:=2) vG.nd rfl (fj rfl) (iK hu (pv 0) aG (fun _ _=>rfl)))
  (aF (bA (mO jQ (pv 2) aD (nX _))
   (aF (pM hu (pv 0) aG (aS nF (pv 2) (pv 1)) rfl) (aE (aM (aS iA (pv 2) (pv 1))))) aP)
  (aF (fW (i:=3) vG.nd rfl (fj rfl) (aS iA (aS dE (aS iD (iK hu (pv 0) aG (fun _ _=>rfl)) aD) aD) aD))
  (aF (pM hu (pv 0) aG (aS iA (aS dE (aS iD (pv 3) aD) aD) aD) rfl)
  (aF (fW (i:=4) vG.nd rfl (fj rfl) (aS iA (aS iD (iK hu (pv 0) aG (fun _ _=>rfl)) (iK hu (pv 0) aG (fun _ _=>rfl))) aD))
  (aE (aM (aS iA (aS dE (aS iD (aS iA (aS iD (pv 3) (pv 3)) aD) aD) (pv 4)) (pv 1))))))))),?_⟩
 refine⟨fun j σ H1=>∃n' ls',σ=[some (.ref d),some (.int m),none,none,none]/\cE H1 d l sd n' ls'/\j=ls'.length/\eW d l H H1,⟨_,n,ls,rfl,D,rfl,eW.refl H⟩,?_⟩;rintro j σ H1 ⟨n',ls',rfl,D1,rfl,o1⟩;refine⟨_,rfl,d,_,rfl,D1.gn,rfl,_,rfl,?_⟩;refine lK (fun c=>?a) (fun c=>cC7 ?b)
 case' a=>refine⟨_,rfl,d,_,rfl,D1.gl,l,_,rfl,.inl (bK.of D1.lc),_,_,rfl,rfl,_,rfl,?_⟩
 case' a=>refine lK (fun c2=>?loop) (fun c2=>?b2)
 case loop =>
   have hl:0<ls'.length:=by
    have:=ag c2
    simpa using this
   obtain⟨z,hz⟩:∃z,ls'[ls'.length-1]?=some z:=⟨ls'[ls'.length-1],by simp⟩
   have hz2:(ls'.map V.int)[(ls'.map V.int).length-1]?=some (.int z):=by rw[ac,cq,hz];rfl
   have z0:0<=z:=D1.l0 z (bq hz);have D2:cE (aN H1 l (.lst (ls'.dropLast.map V.int))) d l sd n' ls'.dropLast:=D1.left fun x hx=>D1.l0 x (List.dropLast_subset _ hx)
   refine⟨fun σ' H'=>σ'=[some (.ref d),some (.int m),none,none,none]/\cE H' d l sd z ls'.dropLast/\eW d l H H',fun σ' H' q=>⟨_,by rw[wo];lia,z,ls'.dropLast,q.1,q.2.1,rfl,q.2.2⟩,?_⟩;refine⟨_,rfl,d,_,rfl,D1.gl,.inl ⟨rfl,_,bK.of D1.lc⟩,l,_,_,rfl,rfl,D1.lc,hz2,?_⟩;have e:∀(o:List V),(ls'.map V.int).dropLast=o->aN H1 l (.lst (ls'.map V.int).dropLast)=aN H1 l (.lst o):=fun o e=>by rw[e]
   rw[e _ List.map_dropLast.symm];refine⟨_,rfl,d,_,rfl,D2.pn z,rfl,D2.number z0,o1.trans (eW.upd_l.trans eW.upd_d)⟩
 all_goals
  refine⟨_,rfl,d,_,rfl,D1.gn,?_⟩;refine⟨_,rfl,_,_,rfl,rfl,_,rfl,?_⟩;refine lK (fun c3=>?_) (fun c3=>?_)
  ·have hp:0<n':=ag c3;refine⟨_,rfl,_,rfl,_,_,rfl,rfl,⟨hm0,by lia⟩,_,rfl,d,_,rfl,D1.pn (n' / m),?_⟩;refine⟨_,rfl,_,rfl,_,_,rfl,rfl,hm0,?_⟩;exact k _ _ (kz _ (by lia)) (lg _ hm0) ⟨_,_,_,D1.number (Int.ediv_nonneg (by lia) (by lia))⟩ (o1.trans eW.upd_d)
  ·
   have q1:(0:Int)<2147483647:=by decide
   refine⟨_,rfl,d,_,rfl,D1.gs,_,_,rfl,rfl,.inr ⟨by decide,by decide⟩,_,_,rfl,rfl,_,_,rfl,rfl,q1,?_⟩;have q2:(0:Int)<2147483587:=by decide
   refine⟨_,rfl,_,_,rfl,rfl,.inr ⟨by decide,by decide⟩,_,_,rfl,rfl,_,_,rfl,rfl,q2,_,rfl,d,_,rfl,D1.ps _,?_⟩;have D2:=D1.seed (v:=((sd*48271+5003) % 2147483647*39373+60013) % 2147483587) (by lia) (by lia);have q3:(0:Int)<2147483549:=by decide
   have q4:(0:Int)<2147483563:=by decide
   refine⟨_,rfl,d,_,rfl,D2.gs,_,rfl,d,_,rfl,D2.gs,_,_,rfl,rfl,.inr ⟨by lia,by lia⟩,_,_,rfl,rfl,q3,?_⟩;refine⟨_,rfl,_,rfl,_,_,rfl,rfl,.inr ⟨by lia,by lia⟩,_,_,rfl,rfl,q4,_,_,rfl,rfl,.inr ⟨by decide,by decide⟩,_,rfl,_,_,rfl,rfl,_,rfl,_,_,rfl,rfl,hm0,?_⟩;exact k _ _ (kz _ (by lia)) (lg _ hm0) ⟨_,_,_,D2⟩ (o1.trans eW.upd_d)
end
theorem aA3(x n:Int)(l:Addr):iE [] (eJ x n l)=eJ x n l:=by
 unfold iE eJ;simp only[List.foldl_cons,List.foldl_nil];have e1:dI ([]:List (Key×V)) (Sum.inr ("seed": Str)) (V.int x)=[(Sum.inr ("seed": Str),V.int x)]:=rfl;have e2:dI [(Sum.inr ("seed": Str),V.int x)] (Sum.inr ("number": Str):Key) (V.int n)=[(Sum.inr ("seed": Str),V.int x),(Sum.inr ("number": Str),V.int n)]:=qI _ (by rw[bX ksn,nJ]);have e3:dI [(Sum.inr ("seed": Str),V.int x),(Sum.inr ("number": Str),V.int n)] (Sum.inr ("left": Str):Key) (V.ref l)=[(Sum.inr ("seed": Str),V.int x),(Sum.inr ("number": Str),V.int n)]++[(Sum.inr ("left": Str),V.ref l)]:=qI _ (by rw[bX ksl,bX knl,nJ]);rw[e1,e2,e3];rfl
theorem aR4:(["_law_cell"]:List Str).Nodup:=by decide
theorem aU7(ns:List Int)(lo hi:Option Int):∃ms:List Int,iF (ns.map V.int) lo hi=ms.map V.int/\ms.length<=ns.length:=by
 refine⟨(ns.drop (HT.sIx ns.length 0 lo)).take (HT.sIx ns.length ns.length hi-HT.sIx ns.length 0 lo),?_,?_⟩
 ·unfold iF;rw[ac,sk,List.map_drop]
 ·rw[ci,me];lia
section
variable {P:Program}{w:World}{K:W.Frag}{mg:Str->Option Value}{base:Heap}
theorem rL:dY ["_law_script","_law_base","_law_cells","_law_number","_law_cell"] ["_law_script","_law_base"] (aK aV3):=by refine⟨rfl,rfl,rfl,?_,rfl,?_,?_⟩<;>decide
theorem bC4{f:Addr}{fd:FuncData}(F:mE K "_law_deal" "_law_deal" aV3 f fd)(mm:mg "max"=none)(mr:mg "reversed"=none)(ml:mg "list"=none):kF P w K mg base oX 1 f fd ["_law_script","_law_base"] (yD K):=by
 refine F.ok rL (fun vs H Q E h=>?_) (fun cdv A outer s H vs Q E hr h=>?_)
 ·obtain⟨a,ns,b,rfl,_⟩:=h;rfl
 obtain⟨a,ns,b,rfl,hS,hlen,hb0,hb1,k⟩:=h;refine⟨_,aF (lG ["_law_cell"] [none] (i:=2) rL.nd rfl (fj rfl) (cU (cC iJ (pv 0) (cS (pv 1)) (cS aD)))
   (fun _ _ _ _=>pJ (i:=0) aR4 rfl (fj rfl)) (fun _ _ _ _=>eT) (fun _ _ _ _=>hX (uG rfl) (by rfl) mm wf (aA (pv 0) (aA (aS jE aD (pv 0)) cX))))
  (aF (fW (i:=3) rL.nd rfl (fj rfl) (aS dE aD (aS iD aD (pv 1))))
  (aF (aK5 jj rfl (cU (pv 2)) (pJ (i:=4) rL.nd rfl (fj rfl))
   (aE (fW (i:=3) rL.nd rfl (fj rfl) (aS iA (aS dE (aS dE (aS iD (pv 3) aD) (aS iA (pv 4) aD)) aD) aD))))
  (aE (aM (aE4 (fP aG (pv 3) (fP aG aD (fP aG (xX (dF ["_law_cell"] [none] (cU (pv 2))
   (fun _ _ _ _=>pJ (i:=0) aR4 rfl (fj rfl)) (fun _ _ _ _=>kN (mO aM7 (pv 0) (aS bJ1 aD aD) (nX _))) (fun _ _ _ _=>pv 0)) (by rfl) ml (by rfl) mr) aC2))) rfl rfl (by decide) (by decide)))))),?_⟩
 refine⟨_,rfl,_,rfl,_,rfl,_,rfl,a,_,rfl,hS,fun p1 np1=>?_⟩;obtain⟨ms,em,hms⟩:=aU7 ns (some b) (some 63);have g1:bD H (aN H p1 (.lst (iF (ns.map V.int) (some b) (some 63)))):=aB np1 _;have hp1:bK K (aN H p1 (.lst (iF (ns.map V.int) (some b) (some 63)))) p1 (ms.map V.int):=by rw[em];exact bK.of aC
 generalize aN H p1 (.lst (iF (ns.map V.int) (some b) (some 63)))=H1 at g1 hp1 ⊢;refine⟨p1,rfl,⟨_,hp1⟩,cZ (xs:=ms.map V.int) (fun i ys σ H2=>H2=H1/\(∃v,σ=[v])/\∃cs:List Int,ys=cs.map V.int/\cs.length=i/\∀x∈cs,0<=x)
  (by rw[ac];exact aL (by lia)) ⟨rfl,⟨_,rfl⟩,[],rfl,rfl,fun _ z=>nomatch z⟩ (fun i ys σ H2 ⟨_,_,cs,e1,e2,_⟩=>by rw[e1,ac];lia) (fun i ys σ H2 _ ⟨e,_⟩=>by rw[e];exact hp1) ?_ ?_⟩
 ·rintro i x ys σ H2 hx ⟨rfl,⟨v,rfl⟩,cs,rfl,rfl,h0⟩;obtain⟨z,rfl,_⟩:=vI hx;refine⟨_,rfl,_,rfl,_,_,rfl,rfl,_,_,rfl,rfl,⟨_,rfl⟩,cs++[if 0-z > z then 0-z else z],by rw[au];rfl,by rw[ao];rfl,fun x hx=>?_⟩;rcases bp.mp hx with q|q
  ·exact h0 x q
  ·have e:x=if 0-z > z then 0-z else z:=by simpa using q
   rw[e];split<;>lia
 rintro ys σ H2 ⟨rfl,_,cs,rfl,hcs,h0⟩ p2 np2;have hm63:cs.length<=63:=by rw[ac] at hcs;lia
 have g2:bD H2 (aN H2 p2 (.lst (cs.map V.int))):=aB np2 _;have hp2:bK K (aN H2 p2 (.lst (cs.map V.int))) p2 (cs.map V.int):=bK.of aC;generalize aN H2 p2 (.lst (cs.map V.int))=H3 at g2 hp2 ⊢;refine⟨_,rfl,_,_,rfl,rfl,.inl ⟨by decide,by decide⟩,_,_,rfl,rfl,?_⟩;refine⟨_,rfl,p2,rfl,⟨_,hp2⟩,xE (K:=K) (a:=p2) (xs:=cs.map V.int) (fun i σ H4=>H4=H3/\∃(x:Int) (v:Option V),σ=[some (.ref a),some (.int b),some (.ref p2),some (.int x),v]/\0<=x/\x<2147483647)
  ⟨rfl,6271+11*b,none,rfl,by lia,by lia⟩ (fun i σ H4 _ ⟨e,_⟩=>by rw[e];exact hp2) ?_ ?_⟩
 ·rintro i y σ H4 hi ⟨rfl,x,v,rfl,x0,x1⟩;obtain⟨z,rfl,_⟩:=vI hi;have q1:(0:Int)<2147483579:=by decide
  have q2:(0:Int)<2147483647:=by decide
  refine⟨_,rfl,_,_,rfl,rfl,.inr ⟨by decide,by decide⟩,_,rfl,_,_,rfl,rfl,q1,_,_,rfl,rfl,_,_,rfl,rfl,_,_,rfl,rfl,q2,rfl,_,_,rfl,?_,?_⟩
  ·exact kz _ (by decide)
  ·exact lg _ q2
 rintro σ H4 ⟨rfl,x,v,rfl,x0,x1⟩;intro d nd;have g4:bD H4 (aN H4 d (.dK [])):=aB nd _;have hd4:aN H4 d (.dK []) d=some (.dK []):=aC;have hp4:=g4.seq hp2;refine⟨_,rfl,_,rfl,p2,rfl,⟨_,hp4⟩,?_⟩;generalize aN H4 d (.dK [])=H5 at g4 hd4 hp4 ⊢;refine cZ (xs:=cs.map V.int) (fun i ys σ H6=>H6=H5/\(∃v,σ=[v])/\∃ls:List Int,ys=ls.map V.int/\ls.length<=i/\∀x∈ls,0<=x)
  (by rw[ac];exact aL (by lia)) ⟨rfl,⟨_,rfl⟩,[],rfl,ah _,fun _ z=>nomatch z⟩ (fun i ys σ H2 ⟨_,_,cs,e1,e2,_⟩=>by rw[e1,ac];lia) (fun i ys σ H2 _ ⟨e,_⟩=>by rw[e];exact hp4) ?_ ?_
 ·rintro i y ys σ H6 hy ⟨rfl,⟨v',rfl⟩,ls,rfl,hl,l0⟩;obtain⟨z,rfl,hz⟩:=vI hy;have z0:0<=z:=h0 z (bq hz);refine⟨_,rfl,_,_,rfl,rfl,⟨by decide,by decide,by decide⟩,_,_,rfl,rfl,_,rfl,?_⟩;refine lK (fun c=>?_) (fun c=>?_)
  ·refine⟨_,rfl,rfl,⟨_,rfl⟩,ls++[z],by rw[au];rfl,by rw[ao];show ls.length+1<=i+1;lia,fun x hx=>?_⟩;rcases bp.mp hx with q|q
   ·exact l0 x q
   ·have e:x=z:=by simpa using q
    rw[e];exact z0
  ·exact⟨rfl,⟨_,rfl⟩,ls,rfl,ot hl,l0⟩
 rintro ys σ H6 ⟨rfl,_,ls,rfl,hl,l0⟩ p3 np3;have g5:bD H6 (aN H6 p3 (.lst (ls.map V.int))):=aB np3 _;refine⟨p3,_,rfl,bK.of aC,fun l nl=>?_⟩;generalize aN H6 p3 (.lst (ls.map V.int))=H7 at g5 nl ⊢;have g6:bD H7 (aN H7 l (.lst (ls.map V.int).reverse)):=aB nl _;have hd7:H7 d=some (.dK []):=g5 _ _ hd4;refine⟨g6 _ _ hd7,eJ x 0 l,rfl,by show 3<=15;decide,?_⟩;have em:iE [] (eJ x 0 l)=eJ x 0 l:=aA3 _ _ _;have neld:l≠d:=fun z=>by rw[z] at nl;rw[nl] at hd7;cases hd7
 refine k d l _ ?_ ?_ ⟨x,0,ls.reverse,⟨by rw[em];exact aC,by rw[aH neld,aC,pd],x0,x1,mw 0,fun y hy=>l0 y (by simpa using hy)⟩⟩ ?_
 ·exact(g1.trans g2).free nd
 ·exact(g1.trans (g2.trans (g4.trans g5))).free nl
 ·intro c o e;rw[aH (aI e ((g1.trans g2).free nd))];exact(g1.trans (g2.trans (g4.trans (g5.trans g6)))) c o e
theorem bK7  : fY P w K mg base "parts_of" "parts_of" bX5 1 ["term"] spParts:=by
 refine iG ["term","parts","waiting","part"] fun H Q nd hr h=>?_
 obtain⟨t,rfl,ht,hz,k⟩:=h;have hu:=hG hr;refine⟨_,(eG 1 nd (bZ cX)
  (eG 2 nd (bZ (aQ (pv 0)))
  (aF (iV jj (rN (pv 2) (fun _=>rfl))
  (eG 3 nd (jZ bo gq gy kA (pv 2))
  (aF (cL (fA bo de df cQ (pv 1) (aQ (pv 3))))
  (aE (bA (dZ bN (bQ aJ (pv 3) aD) aG) (aE (cL (fA bo ir iu gT (pv 2) (aQ (bZ (aA (bQ aJ (pv 3) aD) (aQ (bQ aJ (pv 3) aD)))))))) aP)))))
  (aE (aM (pv 1)))))),?_⟩
 refine⟨bt _,fun l1 hl1=>?_⟩;obtain⟨H1,e0,s1,h1⟩:=pQ hl1 (.lst []);rw[e0];clear e0;refine⟨_,rfl,pA,fun l2 hl2=>?_⟩;have n2:=s1.free hl2;have ne:l2≠l1:=(aI h1 hl2).symm;have s2:=s1.trans (aB hl2 (.lst [.ref t.p]));have h12:aN H1 l2 (.lst [.ref t.p]) l1=some (.lst []):=by rw[aH ne.symm];exact h1
 have h2:aN H1 l2 (.lst [.ref t.p]) l2=some (.lst [.ref t.p]):=aC;generalize aN H1 l2 (.lst [.ref t.p])=H2 at s2 h12 h2 ⊢;refine⟨fun m σ G=>∃(ps stk:List Tm) (v3:Option V),σ=[some (.ref t.p),some (.ref l1),some (.ref l2),v3]/\bD H G/\G l1=some (.lst (ps.map fun u=>V.ref u.p))/\G l2=some (.lst (stk.reverse.map fun u=>V.ref u.p))/\ps++stk.flatMap Tm.pre=t.pre/\(∀u∈stk,lN H u)/\m=(stk.flatMap Tm.pre).length,
  ⟨_,[],[t],none,rfl,s2,h12,h2,by simp,fun u hu=>by rw[List.mem_singleton.mp hu];exact ht,rfl⟩,?_⟩
 rintro m σ G ⟨ps,stk,v3,rfl,s3,g1,g2,eq,hs,rfl⟩;refine⟨_,rfl,_,.inl ⟨_,bK.of g2,rfl⟩,?_⟩;have lt:=dz List.length eq;rw[ao,Tm.pre_len] at lt;have ls:stk.length<=(stk.flatMap Tm.pre).length:=aB2 stk
 cases stk with
 |nil =>
  refine aV (by simp) ?_;rw[List.flatMap_nil,gz] at eq;exact⟨_,rfl,k l1 G s3 hl1 (by rw[<-eq];exact g1)⟩
 |cons u bM =>
  refine bH (by simp) ?_;have hu:=hs u aq;have up:=u.size_pos;rw[sv,ao,Tm.pre_len] at lt;rw[bz,sv,ao,Tm.pre_len] at ls;refine⟨fun σ' G'=>∃(ps' stk':List Tm) (v3:Option V),σ'=[some (.ref t.p),some (.ref l1),some (.ref l2),v3]/\bD H G'/\G' l1=some (.lst (ps'.map fun u=>V.ref u.p))/\G' l2=some (.lst (stk'.reverse.map fun u=>V.ref u.p))/\ps'++stk'.flatMap Tm.pre=t.pre/\(∀u∈stk',lN H u)/\(stk'.flatMap Tm.pre).length+1=((u::bM).flatMap Tm.pre).length,
   (by rintro σ' G' ⟨ps',stk',v3',e1,e2,e3,e4,e5,e6,e7⟩;exact⟨_,by lia,ps',stk',v3',e1,e2,e3,e4,e5,e6,rfl⟩),?_⟩
  have er:(u::bM).reverse.map (fun u=>V.ref u.p)=bM.reverse.map (fun u=>V.ref u.p)++[V.ref u.p]:=by rw[db,au];rfl
  rw[er] at g2;refine⟨_,rfl,.inl ⟨rfl,_,bK.of g2⟩,l2,_,V.ref u.p,rfl,rfl,g2,by simp,?_⟩;rw[iy];have s4:=bW (ys:=bM.reverse.map fun u=>V.ref u.p) s3 n2;have g3:aN G l2 (.lst (bM.reverse.map fun u=>V.ref u.p)) l2=some (.lst (bM.reverse.map fun u=>V.ref u.p)):=aC;have g4:aN G l2 (.lst (bM.reverse.map fun u=>V.ref u.p)) l1=some (.lst (ps.map fun u=>V.ref u.p)):=by rw[aH ne.symm];exact g1
  generalize aN G l2 (.lst (bM.reverse.map fun u=>V.ref u.p))=G1 at s4 g3 g4 ⊢;refine⟨_,rfl,.inl ⟨rfl,_,bK.of g4⟩,_,rfl,l1,_,_,rfl,rfl,g4,aL (by rw[ac];lia),?_⟩;have s5:=bW (ys:=(ps++[u]).map fun u=>V.ref u.p) s4 hl1;have ea:(ps.map fun u=>V.ref u.p)++[V.ref u.p]=(ps++[u]).map fun u=>V.ref u.p:=by rw[au];rfl
  rw[ea];have g5:aN G1 l1 (.lst ((ps++[u]).map fun u=>V.ref u.p)) l1=some (.lst ((ps++[u]).map fun u=>V.ref u.p)):=aC;have g6:aN G1 l1 (.lst ((ps++[u]).map fun u=>V.ref u.p)) l2=some (.lst (bM.reverse.map fun u=>V.ref u.p)):=by rw[aH ne];exact g3
  generalize aN G1 l1 (.lst ((ps++[u]).map fun u=>V.ref u.p))=G2 at s5 g5 g6 ⊢;have hu5:=hu.ts (.of s5);refine⟨_,rfl,u.p,_,_,.str u.w,rfl,rfl,aR.of hu5.at,jB,rfl,_,rfl,?_⟩
  cases u with
  |op p s a b =>
   refine bH (af rfl) ?_;refine⟨_,rfl,.inl ⟨rfl,_,bK.of g6⟩,_,rfl,p,_,_,.ref b.p,rfl,rfl,aR.of hu5.1,rfl,_,rfl,p,_,_,.ref a.p,rfl,rfl,aR.of hu5.1,rfl,eY,fun l3 hl3=>?_⟩;have s6:=s5.trans (aB hl3 (.lst [.ref b.p,.ref a.p]));have n31:l1≠l3:=aI g5 hl3;have n32:l2≠l3:=aI g6 hl3;have g7:aN G2 l3 (.lst [.ref b.p,.ref a.p]) l3=some (.lst [.ref b.p,.ref a.p]):=aC;have g8:aN G2 l3 (.lst [.ref b.p,.ref a.p]) l1=_:=(aH n31).trans g5;have g9:aN G2 l3 (.lst [.ref b.p,.ref a.p]) l2=_:=(aH n32).trans g6;generalize aN G2 l3 (.lst [.ref b.p,.ref a.p])=G3 at s6 g7 g8 g9 ⊢;refine⟨l2,l3,_,_,rfl,rfl,g9,g7,by rw[ac,du];have:=aL (n:=1000) (ah _);show bM.length+2<=_;lia,?_⟩;have ez:(bM.reverse.map fun u=>V.ref u.p)++[.ref b.p,.ref a.p]=(a::b::bM).reverse.map fun u=>V.ref u.p:=by simp
   rw[ez];refine⟨ps++[.op p s a b],a::b::bM,_,rfl,bW s6 n2,(aH ne.symm).trans g8,aC,?_,fun x hx=>?_,?_⟩
   ·rw[<-eq];simp[Tm.pre]
   ·rcases bu.mp hx with e|e
    ·rw[e];exact hu.2.1
    ·rcases bu.mp e with e|e
     ·rw[e];exact hu.2.2
     ·exact hs x (ak _ e)
   ·simp[Tm.pre]<;>lia
  |num p n =>
   refine aV (fun z=>cB4 (ag z)) ?_;refine⟨ps++[.num p n],bM,_,rfl,s5,g5,g6,?_,fun x hx=>hs x (ak _ hx),?_⟩
   ·rw[<-eq];simp[Tm.pre]
   ·simp[Tm.pre]<;>lia
  |nam p n =>
   refine aV (fun z=>bY6 (ag z)) ?_;refine⟨ps++[.nam p n],bM,_,rfl,s5,g5,g6,?_,fun x hx=>hs x (ak _ hx),?_⟩
   ·rw[<-eq];simp[Tm.pre]
   ·simp[Tm.pre]<;>lia
theorem bQ2(C_Prt:Cl P w K mg base 1 spParts "parts_of"):fY P w K mg base "names_in" "names_in" bW7 2 ["term"] spNamesIn:=by
 refine iG ["term"] fun H Q nd hr h=>?_
 obtain⟨t,rfl,ht,hz,k⟩:=h;have hu:=hG hr;refine⟨_,(aE (aM (dF ["part"] [none] (cU (bS C_Prt hr (aQ (pv 0)))) (fun _ _ _ _=>(fG 0)) (fun _ _ _ _=>(kN (dZ bN (bQ (pC K) (pv 0) aD) aG))) (fun _ _ _ _=>(bQ (pC K) (pv 0) aD))))),?_⟩;refine⟨_,rfl,t,rfl,ht,hz,fun r H1 s1 _ h1=>⟨r,rfl,⟨_,bK.of h1⟩,?_⟩⟩;have pl:=Tm.pre_len t;refine cZ (K:=K) (a:=r) (xs:=t.pre.map fun u=>V.ref u.p) (fun i ys σ G=>G=H1/\(∃v,σ=[v])/\ys=((t.pre.take i).filterMap Tm.nm).map V.str)
  (gR (by rw[ac];lia)) ⟨rfl,⟨_,rfl⟩,rfl⟩ (fun i ys σ G ⟨_,_,e⟩=>by
   rw[e,ac];exact cp (gp _ _) (by rw[ci];lia)) (by rintro i ys σ G _ ⟨e,_⟩;rw[e];exact bK.of h1) ?_ ?_
 ·rintro i v ys σ G hv ⟨rfl,⟨v',rfl⟩,rfl⟩;obtain⟨u,hu,rfl⟩:∃u,t.pre[i]?=some u/\v=V.ref u.p:=by
   rw[cq] at hv
   cases e:t.pre[i]? with
   |none=>rw[e] at hv;cases hv
   |some u=>rw[e] at hv;exact⟨u,rfl,(dg hv).symm⟩
  have hU:=(lN.pre ht u (bq hu)).ts (.of s1);refine⟨_,rfl,u.p,_,_,.str u.w,rfl,rfl,aR.of hU.at,jB,rfl,_,rfl,?_⟩;rw[aX hu,dw,au]
  cases u with
  |nam p x=>exact bH (af rfl) ⟨_,rfl,p,_,_,.str x,rfl,rfl,aR.of hU,rfl,rfl,⟨_,rfl⟩,rfl⟩
  |num p n=>exact aV (fun z=>wMN (ag z)) ⟨rfl,⟨_,rfl⟩,by rw[ip (by rfl)];simp⟩
  |op p s a b=>exact aV (fun z=>wOM (ag z)) ⟨rfl,⟨_,rfl⟩,by rw[ip (by rfl)];simp⟩
 ·rintro ys σ G ⟨rfl,_,rfl⟩ l hl;rw[ac,cm,Tm.pre_names];exact k l _ (s1.trans (aB hl _)) aC
theorem bN3{cT:Addr}(m_THROWS:mg "THROWS"=some (.ref cT))(hT:∀H,aR K H cT (cV.map V.str)):fY P w K mg base "sets_name" "sets_name" cA0 1 ["row"] spSetsN:=by
 refine iG ["row"] fun H Q nd hr h=>?_
 obtain⟨r,rfl,hr0,k⟩:=h;refine⟨_,(aE (aM (aD5 (nM dW (bQ aJ (pv 0) aD) (pgl m_THROWS)) (dO (nM bN (bQ aJ (pv 0) aD) aG))))),?_⟩;rw[<-aN9 (eF.wd r hr0)] at k;refine⟨_,rfl,r.p,_,_,.str r.w,rfl,rfl,aR.of hr0.at,jB,cT,_,rfl,.inr (hT _),rfl,cJ _,_,rfl,?_⟩;have ei:oY (V.str r.w) (cV.map V.str)=decide (r.w∈cV):=dQ _ _
 by_cases c:r.w∈cV
 ·refine bH (ei.trans (af c)) ?_;rw[af c] at k;exact k
 ·refine aV (fun z=>c (ag (ei.symm.trans z))) ?_;rw[ba c,wy] at k;refine⟨_,rfl,r.p,_,_,.str r.w,rfl,rfl,aR.of hr0.at,jB,rfl,?_⟩;rw[show decide (V.str r.w=V.str "let")=decide (r.w="let") from by simp];exact k
theorem bM9(C_NmI:Cl P w K mg base 2 spNamesIn "names_in"):fY P w K mg base "names_asked" "names_asked" bZ4 3 ["row"] spAsked:=by
 refine iG ["row"] fun H Q nd hr h=>?_
 obtain⟨r,rfl,hr0,k⟩:=h;refine⟨_,(aF (bA (dZ bN (bQ aJ (pv 0) aD) aG) (aE (aM (bS C_NmI hr (aQ (bQ aJ (pv 0) aD))))) aP)
  (aF (bA (dZ dW (bQ aJ (pv 0) aD) (bE (aA aG (aQ aG)))) (aE (aM (bS C_NmI hr (aQ (bQ aJ (pv 0) aD))))) aP)
  (aE (aM (bZ cX))))),?_⟩
 refine⟨_,rfl,r.p,_,_,.str r.w,rfl,rfl,aR.of hr0.at,jB,rfl,_,rfl,?_⟩;generalize hP:r.p=P
 cases r with
 |lt p x t =>
  obtain rfl:p=P:=hP;refine bH (af rfl) ?_;refine⟨_,rfl,p,_,_,.ref t.p,rfl,rfl,aR.of hr0.1,rfl,t,rfl,hr0.2.1,by have:=hr0.2.2.2;lia,fun q H' s h=>k q H' s h⟩
 |tell p t =>
  obtain rfl:p=P:=hP;refine aV (fun z=>wTL (ag z)) ?_;refine⟨_,rfl,p,_,_,.str "tell",rfl,rfl,aR.of hr0.1,rfl,eY,fun t2 ht2=>?_⟩;have s1:=aB ht2 (.tup [.str "tell",.str "when"]);refine⟨t2,[.str "tell",.str "when"],rfl,.inr (aR.of aC),rfl,by decide,_,rfl,?_⟩;refine bH (by decide) ?_;exact⟨_,rfl,p,_,_,.ref t.p,rfl,rfl,aR.of (s1 _ _ hr0.1),rfl,t,rfl,hr0.2.1.ts (.of s1),by have:=hr0.2.2.2;lia,fun q H' s h=>k q H' (s1.trans s) h⟩
 |when p pa pb t a b =>
  obtain rfl:p=P:=hP;refine aV (fun z=>wWL (ag z)) ?_;refine⟨_,rfl,p,_,_,.str "when",rfl,rfl,aR.of hr0.1,rfl,eY,fun t2 ht2=>?_⟩;have s1:=aB ht2 (.tup [.str "tell",.str "when"]);refine⟨t2,[.str "tell",.str "when"],rfl,.inr (aR.of aC),rfl,by decide,_,rfl,?_⟩;refine bH (by decide) ?_;exact⟨_,rfl,p,_,_,.ref t.p,rfl,rfl,aR.of (s1 _ _ hr0.1),rfl,t,rfl,hr0.2.1.ts (.of s1),by have:=hr0.2.2.1.2;lia,fun q H' s h=>k q H' (s1.trans s) h⟩
 |times p pb n b =>
  obtain rfl:p=P:=hP;refine aV (fun z=>wML (ag z)) ?_;refine⟨_,rfl,p,_,_,.str "times",rfl,rfl,aR.of hr0.1,rfl,eY,fun t2 ht2=>?_⟩;have s1:=aB ht2 (.tup [.str "tell",.str "when"]);refine⟨t2,[.str "tell",.str "when"],rfl,.inr (aR.of aC),rfl,by decide,_,rfl,?_⟩;refine aV (by decide) ?_;exact⟨bt _,fun l hl=>k l _ (s1.trans (aB hl _)) aC⟩
 |thr p w x vs am =>
  obtain rfl:p=P:=hP;have hw:=hr0.2.w;refine aV (fun z=>aS1 hw (ag z)) ?_;refine⟨_,rfl,p,_,_,.str w,rfl,rfl,aR.of hr0.1,jB,eY,fun t2 ht2=>?_⟩;have s1:=aB ht2 (.tup [.str "tell",.str "when"]);refine⟨t2,[.str "tell",.str "when"],rfl,.inr (aR.of aC),rfl,by decide,_,rfl,?_⟩;refine aV (bK8 hw) ?_;exact⟨bt _,fun l hl=>k l _ (s1.trans (aB hl _)) aC⟩
theorem bP9  : fY P w K mg base "as_steps" "as_steps" bX8 1 ["rows"] spAsS:=by
 refine iG ["rows"] fun H Q nd hr h=>?_
 obtain⟨p,rs,rfl,hp,hl,k⟩:=h;refine⟨_,(aE (aM (dF ["row"] [none] (aW6 (pv 0)) (fun _ _ _ _=>(fG 0)) (fun _ _ _ _=>eT) (fun _ _ _ _=>(bE (aA aG (aQ (pv 0)))))))),?_⟩;refine⟨_,rfl,p,rfl,⟨_,aR.of hp⟩,aW1 (K:=K) (a:=p) (xs:=bL rs) (fun i zs σ G=>bD H G/\(∃v,σ=[v])/\fQ (kR G) zs ((rs.take i).map fun r=>(("row": Str),r)))
  (by rw[bB];exact gR (by lia)) ⟨bD.refl _,⟨_,rfl⟩,trivial⟩ (by rintro i zs σ G ⟨_,_,e⟩;rw[e.length,ac,ci];lia) (by rintro i zs σ G _ ⟨e,_⟩;exact aR.of (e _ _ hp)) ?_ ?_⟩
 ·rintro i v zs σ G hv ⟨s1,⟨v',rfl⟩,tw⟩;obtain⟨r,rfl,hr'⟩:=bC0 hv;refine⟨_,rfl,eY,fun t ht=>⟨s1.trans (aB ht _),⟨_,rfl⟩,?_⟩⟩;rw[aX hr',au];exact fQ.append (tw.mono fun _ _ z=>kR.ts (.of (aB ht _)) z) ⟨⟨t,rfl,aC⟩,trivial⟩
 ·rintro zs σ G ⟨s1,_,tw⟩ l hl';rw[bB,cm] at tw;exact k l zs _ (s1.trans (aB hl' _)) aC (tw.mono fun _ _ z=>kR.ts (.of (aB hl' _)) z)
theorem bI4(C_AsS:Cl P w K mg base 1 spAsS "as_steps"):fY P w K mg base "inner_steps" "inner_steps" bT3 2 ["row"] spInner:=by
 refine iG ["row"] fun H Q nd hr h=>?_
 obtain⟨r,rfl,hr0,hc,k⟩:=h;refine⟨_,(aF (bA (dZ bN (bQ aJ (pv 0) aD) aG) (aE (aM (aS eI (aS eI (aS eI (bS C_AsS hr (aQ (bQ aJ (pv 0) aD))) (bZ (aQ (bE (aA aG (aQ (pv 0))))))) (bS C_AsS hr (aQ (bQ aJ (pv 0) aD)))) (bZ (aQ (bE (aA aG (aQ (pv 0))))))))) aP)
  (aF (bA (dZ bN (bQ aJ (pv 0) aD) aG) (aE (aM (aS eI (bS C_AsS hr (aQ (bQ aJ (pv 0) aD))) (bZ (aQ (bE (aA aG (aQ (pv 0))))))))) aP)
  (aE (aM (bZ cX))))),?_⟩
 refine⟨_,rfl,r.p,_,_,.str r.w,rfl,rfl,aR.of hr0.at,jB,rfl,_,rfl,?_⟩;have ln:=gE r.kids;have ck:=aK9 r;generalize hP:r.p=P
 cases r with
 |when p pa pb t a b =>
  obtain rfl:p=P:=hP;refine bH (af rfl) ?_;have la:a.length+b.length<=4000:=by simp only[Rw.kids,List.length_append] at ln ck;lia
  obtain⟨hp,_,_,ha,hb,ra,rb⟩:=id hr0;refine⟨_,rfl,p,_,_,.ref pa,rfl,rfl,aR.of hp,rfl,pa,a,rfl,ha,by lia,fun r1 z1 H1 s1 h1 t1=>?_⟩;refine⟨_,rfl,eY,fun t2 ht2=>⟨pA,fun l2 hl2=>?_⟩⟩;have s2:=(aB ht2 (.tup [.str "else",.ref p])).trans (aB hl2 (.lst [.ref t2]));have h2:aN (aN H1 t2 (.tup [.str "else",.ref p])) l2 (.lst [.ref t2]) l2=some (.lst [.ref t2]):=aC;have e2:kR (aN (aN H1 t2 (.tup [.str "else",.ref p])) l2 (.lst [.ref t2])) (.ref t2) (("else": Str),Rw.when p pa pb t a b):=⟨t2,rfl,(aB hl2 _) _ _ aC⟩
  generalize aN (aN H1 t2 (.tup [.str "else",.ref p])) l2 (.lst [.ref t2])=H2 at s2 h2 e2 ⊢;have l1:=t1.length;rw[ac] at l1;refine⟨r1,l2,_,_,rfl,rfl,s2 _ _ h1,h2,cj (gR (by rw[l1];show a.length+1<=9000000;lia)),fun l3 hl3=>?_⟩;have s3:=s2.trans (aB hl3 (.lst (z1++[.ref t2])));have h3:aN H2 l3 (.lst (z1++[.ref t2])) l3=some (.lst (z1++[.ref t2])):=aC;have t3:fQ (kR (aN H2 l3 (.lst (z1++[.ref t2])))) (z1++[.ref t2]) (a.map (fun r=>(("row": Str),r))++[(("else": Str),Rw.when p pa pb t a b)]):=fQ.append (t1.mono fun _ _ z=>kR.ts (.of s3) z) ⟨e2.ts (.of (aB hl3 _)),trivial⟩;generalize aN H2 l3 (.lst (z1++[.ref t2]))=H3 at s3 h3 t3 ⊢;have g3:=s1.trans s3;refine⟨_,rfl,p,_,_,.ref pb,rfl,rfl,aR.of (g3 _ _ hp),rfl,pb,b,rfl,g3 _ _ hb,by lia,fun r4 z4 H4 s4 h4 t4=>?_⟩;have l4:=t4.length;rw[ac] at l4;refine⟨l3,r4,_,_,rfl,rfl,s4 _ _ h3,h4,cj (gR (by simp only[List.length_append,List.length_cons,List.length_nil,l1,l4];lia)),fun l5 hl5=>?_⟩
  have s5:=s4.trans (aB hl5 (.lst (z1++[.ref t2]++z4)));have h5:aN H4 l5 (.lst (z1++[.ref t2]++z4)) l5=some (.lst (z1++[.ref t2]++z4)):=aC;have t5:=fQ.append (t3.mono fun _ _ z=>kR.ts (.of s5) z) (t4.mono fun _ _ z=>kR.ts (.of (aB hl5 (.lst (z1++[.ref t2]++z4)))) z);generalize aN H4 l5 (.lst (z1++[.ref t2]++z4))=H5 at s5 h5 t5 ⊢;refine⟨_,rfl,eY,fun t6 ht6=>⟨pA,fun l6 hl6=>?_⟩⟩;have s6:=(aB ht6 (.tup [.str "end",.ref p])).trans (aB hl6 (.lst [.ref t6]));have h6:aN (aN H5 t6 (.tup [.str "end",.ref p])) l6 (.lst [.ref t6]) l6=some (.lst [.ref t6]):=aC;have e6:kR (aN (aN H5 t6 (.tup [.str "end",.ref p])) l6 (.lst [.ref t6])) (.ref t6) (("end": Str),Rw.when p pa pb t a b):=⟨t6,rfl,(aB hl6 _) _ _ aC⟩
  generalize aN (aN H5 t6 (.tup [.str "end",.ref p])) l6 (.lst [.ref t6])=H6 at s6 h6 e6 ⊢;refine⟨l5,l6,_,_,rfl,rfl,s6 _ _ h5,h6,cj (gR (by simp only[List.length_append,List.length_cons,List.length_nil];lia)),fun l7 hl7=>?_⟩;refine k l7 _ _ (g3.trans (s5.trans (s6.trans (aB hl7 _)))) aC ?_;exact fQ.append (t5.mono fun _ _ z=>kR.ts (.of (s6.trans (aB hl7 _))) z) ⟨e6.ts (.of (aB hl7 _)),trivial⟩
 |times p pb n b =>
  obtain rfl:p=P:=hP;refine aV (fun z=>wTW (ag z)) ?_;refine⟨_,rfl,p,_,_,.str "times",rfl,rfl,aR.of hr0.at,jB,rfl,_,rfl,?_⟩;refine bH (af rfl) ?_;have la:b.length<=4000:=by simp only[Rw.kids] at ln ck;lia
  obtain⟨hp,hb,rb⟩:=id hr0;refine⟨_,rfl,p,_,_,.ref pb,rfl,rfl,aR.of hp,rfl,pb,b,rfl,hb,by lia,fun r1 z1 H1 s1 h1 t1=>?_⟩;refine⟨_,rfl,eY,fun t2 ht2=>⟨pA,fun l2 hl2=>?_⟩⟩;have s2:=(aB ht2 (.tup [.str "end",.ref p])).trans (aB hl2 (.lst [.ref t2]));have h2:aN (aN H1 t2 (.tup [.str "end",.ref p])) l2 (.lst [.ref t2]) l2=some (.lst [.ref t2]):=aC;have e2:kR (aN (aN H1 t2 (.tup [.str "end",.ref p])) l2 (.lst [.ref t2])) (.ref t2) (("end": Str),Rw.times p pb n b):=⟨t2,rfl,(aB hl2 _) _ _ aC⟩
  generalize aN (aN H1 t2 (.tup [.str "end",.ref p])) l2 (.lst [.ref t2])=H2 at s2 h2 e2 ⊢;have l1:=t1.length;rw[ac] at l1;refine⟨r1,l2,_,_,rfl,rfl,s2 _ _ h1,h2,cj (gR (by rw[l1];show b.length+1<=9000000;lia)),fun l3 hl3=>?_⟩;refine k l3 _ _ (s1.trans (s2.trans (aB hl3 _))) aC ?_;exact fQ.append (t1.mono fun _ _ z=>kR.ts (.of (s2.trans (aB hl3 _))) z) ⟨e2.ts (.of (aB hl3 _)),trivial⟩
 |thr p w x vs am =>
  obtain rfl:p=P:=hP;have hw:=hr0.2.w;refine aV (fun z=>aY1 hw (ag z)) ?_;refine⟨_,rfl,p,_,_,.str w,rfl,rfl,aR.of hr0.at,jB,rfl,_,rfl,?_⟩;refine aV (fun z=>bI1 hw (ag z)) ?_;exact⟨bt _,fun l hl=>k l [] _ (aB hl _) aC trivial⟩
 |lt p x t =>
  obtain rfl:p=P:=hP;refine aV (fun z=>wLW (ag z)) ?_;refine⟨_,rfl,p,_,_,.str "let",rfl,rfl,aR.of hr0.at,jB,rfl,_,rfl,?_⟩;refine aV (fun z=>wLT (ag z)) ?_;exact⟨bt _,fun l hl=>k l [] _ (aB hl _) aC trivial⟩
 |tell p t =>
  obtain rfl:p=P:=hP;refine aV (fun z=>wEW (ag z)) ?_;refine⟨_,rfl,p,_,_,.str "tell",rfl,rfl,aR.of hr0.at,jB,rfl,_,rfl,?_⟩;refine aV (fun z=>wET (ag z)) ?_;exact⟨bt _,fun l hl=>k l [] _ (aB hl _) aC trivial⟩
theorem bO6(C_AsS:Cl P w K mg base 1 spAsS "as_steps")(C_Inn:Cl P w K mg base 2 spInner "inner_steps")(m_reversed:mg "reversed"=none):fY P w K mg base "steps_of" "steps_of" bS4 3 ["rows"] spSteps:=by
 refine iG ["rows","steps","count","waiting","step","row"] fun H Q nd hr h=>?_
 obtain⟨p,rs,rfl,hp,hR,hc,k⟩:=h;refine⟨_,(eG 1 nd (bZ cX)
  (eG 2 nd aD
  (aF (lG ["step"] [none] (i:=3) nd rfl (fj rfl) (aO5 (bS C_AsS hr (aQ (pv 0))) (by rfl) m_reversed) (fun _ _ _ _=>(fG 0)) (fun _ _ _ _=>eT) (fun _ _ _ _=>(bE (aA (bQ (pC K) (pv 0) aD) (aA (bQ (pC K) (pv 0) aD) (aQ qQ))))))
  (aF (iV jj (rN (pv 3) (fun _=>rfl))
  (eG 4 nd (jZ bo gq gy kA (pv 3))
  (aE (bA (dZ bN (bQ aJ (pv 4) aD) aG) (eG 5 nd (bQ aJ (pv 4) aD)
  (aF (cL (fA bo de df cQ (pv 1) (aQ (bE (aA aG (aA (pv 5) (aQ (pv 2))))))))
  (aF (cL (fA bo ir iu gT (pv 3) (aQ (dF ["inner","count"] [none,some 2] (aO5 (bS C_Inn hr (aQ (pv 5))) (by rfl) m_reversed) (fun _ _ _ _=>(fG 0)) (fun _ _ _ _=>eT) (fun _ _ _ _=>(bE (aA (bQ (pC K) (pv 0) aD) (aA (bQ (pC K) (pv 0) aD) (aQ (pv 1))))))))))
  (aE (xZ (i:=2) nd rfl (mj rfl) aD oH))))) (aE (cL (fA bo de df cQ (pv 1) (aQ (pv 4)))))))))
  (aE (aM (pv 1))))))),?_⟩
 have rl:=gE rs;have tl:=dN rs 0;refine⟨bt _,fun l1 hl1=>?_⟩;obtain⟨H1,e0,s1,h1⟩:=pQ hl1 (.lst []);rw[e0];clear e0;refine⟨_,rfl,p,rs,rfl,s1 _ _ hp,by lia,fun r z H2 s2 h2 t2=>⟨r,_,rfl,bK.of h2,?_⟩⟩;have zl:=t2.length;rw[ac] at zl;have t2r:=uM t2;refine wG (K:=K) (a:=r) (xs:=z) (fun i ys σ G=>bD H2 G/\(∃v,σ=[v])/\fQ (kJ G) ys (((rs.map fun r=>pZ 0 (("row": Str),r)).reverse).take i))
  (gR (by lia)) ⟨bD.refl _,⟨_,rfl⟩,trivial⟩ (by rintro i ys σ G ⟨_,_,e⟩;rw[e.length,ci];lia) (by rintro i ys σ G _ ⟨e,_⟩;exact bK.of (e _ _ h2)) ?_ ?_
 ·rintro i v ys σ G hv ⟨s3,⟨v',rfl⟩,tw⟩;obtain⟨s,hs,q,rfl,hq⟩:=lO t2r hv;refine⟨_,rfl,q,_,_,.str s.1,rfl,rfl,aR.of (s3 _ _ hq),rfl,_,rfl,q,_,_,.ref s.2.p,rfl,rfl,aR.of (s3 _ _ hq),rfl,by show 3<=sizeLine;decide,fun t ht=>⟨s3.trans (aB ht _),⟨_,rfl⟩,?_⟩⟩;have hs0:=List.mem_reverse.mp (bq hs);obtain⟨r9,_,e9⟩:=dh.mp hs0;have hs9:((rs.map fun r=>pZ 0 (("row": Str),r)).reverse)[i]?=some (pZ 0 s):=by
   rw[<-rK, <-pd,cq,hs];rfl
  rw[aX hs9];exact fQ.append (tw.mono fun _ _ z=>kJ.ts (.of (aB ht _)) z) ⟨⟨t,_,rfl,aC,fun z=>absurd (by rw[<-e9];rfl) z⟩,trivial⟩
 rintro ys σ G ⟨s3,_,tw⟩ lw hlw;have el:z.length=((rs.map fun r=>pZ 0 (("row": Str),r)).reverse).length:=by rw[du,ac];exact zl
 rw[el,cm] at tw;have s4:=s1.trans (s2.trans (s3.trans (aB hlw (.lst ys))));have h4:aN G lw (.lst ys) lw=some (.lst ys):=aC;have ne:lw≠l1:=(aI ((s2.trans s3) _ _ h1) hlw).symm;have g1:aN G lw (.lst ys) l1=some (.lst []):=(aH ne.symm).trans ((s2.trans s3) _ _ h1);have nw:H lw=none:=(s1.trans (s2.trans s3)).free hlw;replace tw:=tw.mono fun _ _ z=>kJ.ts (.of (aB hlw (.lst ys))) z
 generalize aN G lw (.lst ys)=H4 at s4 h4 g1 tw ⊢;refine⟨fun m σ G=>∃(em stk:List Stp) (ez wz:List V) (n:Nat) (v4 v5:Option V),σ=[some (.ref p),some (.ref l1),some (.int n),some (.ref lw),v4,v5]/\bD H G/\G l1=some (.lst ez)/\fQ (mB G) ez em/\G lw=some (.lst wz)/\fQ (kJ G) wz stk.reverse/\em++eV n stk=bR 0 rs/\(∀s∈stk,eF H s.2.1/\s.2.1.cnt<=4000)/\m=(eV n stk).length,
  ⟨_,[],rs.map fun r=>pZ 0 (("row": Str),r),[],ys,0,none,none,rfl,s4,g1,trivial,h4,tw,(iU rs 0 0).1,fun s hs=>by
   obtain⟨r0,m0,e0⟩:=dh.mp hs;rw[<-e0];have:=vE m0;exact⟨hR.mem _ m0,by show r0.cnt<=4000;lia⟩,rfl⟩,?_⟩
 clear tw h4 g1;rintro m σ G ⟨em,stk,ez,wz,n,v4,v5,rfl,s5,g1,t5,g2,t6,eq,hs,rfl⟩;refine⟨_,rfl,_,.inl ⟨_,bK.of g2,rfl⟩,?_⟩;have lt:=dz List.length eq;rw[ao] at lt;have ls:=nH stk n;have l5:=t5.length;have l6:=t6.length;rw[du] at l6
 cases stk with
 |nil =>
  obtain rfl:wz=[]:=ja.mp l6;refine aV (by simp) ?_;rw[eV,gz] at eq;rw[eq] at t5;exact⟨_,rfl,k l1 ez G s5 hl1 g1 t5⟩
 |cons s bM =>
  rw[db] at t6;obtain⟨us,u,rfl,t7,q,n0,rfl,hq,hn0⟩:=xQ t6;refine bH (by simp) ?_;have hS:=hs s aq;rw[bz] at ls l6;rw[ao,bz,pw] at l6;refine⟨fun σ' G'=>∃(em' stk':List Stp) (ez' wz':List V) (n':Nat) (v4 v5:Option V),σ'=[some (.ref p),some (.ref l1),some (.int n'),some (.ref lw),v4,v5]/\bD H G'/\G' l1=some (.lst ez')/\fQ (mB G') ez' em'/\G' lw=some (.lst wz')/\fQ (kJ G') wz' stk'.reverse/\em'++eV n' stk'=bR 0 rs/\(∀s∈stk',eF H s.2.1/\s.2.1.cnt<=4000)/\(eV n' stk').length+1=(eV n (s::bM)).length,
   (by rintro σ' G' ⟨em',stk',ez',wz',n',v4',v5',e1,e2,e3,e4,e5,e6,e7,e8,e9⟩;exact⟨_,by lia,em',stk',ez',wz',n',v4',v5',e1,e2,e3,e4,e5,e6,e7,e8,rfl⟩),?_⟩
  refine⟨_,rfl,.inl ⟨rfl,_,bK.of g2⟩,lw,_,V.ref q,rfl,rfl,g2,by simp,?_⟩;rw[iy];have ts6:=TS.lst (ys:=us) g2;have s6:=bW (ys:=us) s5 nw;have g3:aN G lw (.lst us) lw=some (.lst us):=aC;have g4:aN G lw (.lst us) l1=some (.lst ez):=(aH ne.symm).trans g1;have hq6:=ts6 _ _ hq;replace t5:=t5.mono fun _ _ z=>mB.ts ts6 z
  replace t7:=t7.mono fun _ _ z=>kJ.ts ts6 z
  generalize aN G lw (.lst us)=G1 at s6 g3 g4 hq6 t5 t7 ⊢;refine⟨_,rfl,q,_,_,.str s.1,rfl,rfl,aR.of hq6,rfl,rfl,_,rfl,?_⟩
  by_cases c:s.1="row"
  ·refine bH (by rw[c];exact af rfl) ?_;obtain⟨s1',r0,k0⟩:=s;have c:s1'="row":=c;subst c;have ex:eV n ((("row": Str),r0,k0)::bM)=(("row": Str),r0,n)::eV (n+1) ((eQ r0).map (pZ n)++bM):=aI2 rfl;have li:=nH ((eQ r0).map (pZ n)++bM) (n+1);rw[ao,ac] at li;rw[ex,bz] at lt;refine⟨_,rfl,q,_,_,.ref r0.p,rfl,rfl,aR.of hq6,rfl,?_⟩;refine⟨_,rfl,.inl ⟨rfl,_,bK.of g4⟩,_,rfl,_,rfl,by show 3<=sizeLine;decide,fun t ht=>?_⟩;have s7:=s6.trans (aB ht (.tup [.str "row",.ref r0.p,.int n]));have nt1:l1≠t:=aI g4 ht;have nt2:lw≠t:=aI g3 ht;have g5:aN G1 t (.tup [.str "row",.ref r0.p,.int n]) l1=_:=(aH nt1).trans g4;have g6:aN G1 t (.tup [.str "row",.ref r0.p,.int n]) lw=_:=(aH nt2).trans g3;have et:mB (aN G1 t (.tup [.str "row",.ref r0.p,.int n])) (.ref t) (("row": Str),r0,n):=⟨t,rfl,aC⟩
   replace t5:=t5.mono fun _ _ z=>mB.ts (.of (aB ht (.tup [.str "row",.ref r0.p,.int n]))) z
   replace t7:=t7.mono fun _ _ z=>kJ.ts (.of (aB ht (.tup [.str "row",.ref r0.p,.int n]))) z
   generalize aN G1 t (.tup [.str "row",.ref r0.p,.int n])=G2 at s7 g5 g6 et t5 t7 ⊢;refine⟨l1,_,_,rfl,rfl,g5,gR (by lia),?_⟩;have ts8:=TS.lst (ys:=ez++[.ref t]) g5;have s8:=bW (ys:=ez++[.ref t]) s7 hl1;have g7:aN G2 l1 (.lst (ez++[.ref t])) l1=some (.lst (ez++[.ref t])):=aC;have g8:aN G2 l1 (.lst (ez++[.ref t])) lw=some (.lst us):=(aH ne).trans g6;have t8:=fQ.append (t5.mono fun _ _ z=>mB.ts ts8 z) (show fQ (mB (aN G2 l1 (.lst (ez++[.ref t])))) [.ref t] [(("row": Str),r0,n)] from⟨et.ts ts8,trivial⟩);replace t7:=t7.mono fun _ _ z=>kJ.ts ts8 z
   generalize aN G2 l1 (.lst (ez++[.ref t]))=G3 at s8 g7 g8 t8 t7 ⊢;refine⟨_,rfl,.inl ⟨rfl,_,bK.of g8⟩,_,rfl,r0,rfl,eF.ts (.of s8) r0 hS.1,hS.2,fun qi zi H9 s9 h9 t9=>⟨qi,_,rfl,bK.of h9,?_⟩⟩;have t9r:=uM t9;have zl9:=t9.length;refine wG (K:=K) (a:=qi) (xs:=zi) (fun i ys σ G=>bD H9 G/\(∃v,σ=[v,some (.int n)])/\fQ (kJ G) ys (((eQ r0).map (pZ n)).reverse.take i))
    (gR (by lia)) ⟨bD.refl _,⟨_,rfl⟩,trivial⟩ (by rintro i ys σ G ⟨_,_,e⟩;rw[e.length,ci];lia) (by rintro i ys σ G _ ⟨e,_⟩;exact bK.of (e _ _ h9)) ?_ ?_
   ·rintro i v ys σ G hv ⟨s3,⟨v',rfl⟩,tw⟩;obtain⟨s,hs,q,rfl,hq⟩:=lO t9r hv;refine⟨_,rfl,q,_,_,.str s.1,rfl,rfl,aR.of (s3 _ _ hq),rfl,_,rfl,q,_,_,.ref s.2.p,rfl,rfl,aR.of (s3 _ _ hq),rfl,_,rfl,by show 3<=sizeLine;decide,fun t ht=>⟨s3.trans (aB ht _),⟨_,rfl⟩,?_⟩⟩;have hs9:(((eQ r0).map (pZ n)).reverse)[i]?=some (pZ n s):=by rw[<-pd,cq,hs];rfl
    rw[aX hs9];exact fQ.append (tw.mono fun _ _ z=>kJ.ts (.of (aB ht _)) z) ⟨⟨t,_,rfl,aC,fun _=>rfl⟩,trivial⟩
   rintro ys σ G5 ⟨s10,_,tw⟩ l10 hl10;have el:zi.length=((eQ r0).map (pZ n)).reverse.length:=by rw[du,ac];exact zl9
   rw[el,cm] at tw;have s11:=s9.trans (s10.trans (aB hl10 (.lst ys)));have h11:aN G5 l10 (.lst ys) l10=some (.lst ys):=aC;have n10:lw≠l10:=aI ((s9.trans s10) _ _ g8) hl10;replace tw:=tw.mono fun _ _ z=>kJ.ts (.of (aB hl10 (.lst ys))) z
   generalize aN G5 l10 (.lst ys)=G6 at s11 h11 tw ⊢;have yl:=tw.length;rw[du,ac] at yl;refine⟨lw,l10,_,_,rfl,rfl,s11 _ _ g8,h11,cj (gR (by lia)),?_⟩;have ts12:=(TS.of s11).trans (TS.lst (ys:=us++ys) (s11 _ _ g8));refine⟨_,rfl,_,_,rfl,rfl,em++[(("row": Str),r0,n)],(eQ r0).map (pZ n)++bM,_,_,n+1,_,_,rfl,bW (s8.trans s11) nw,(aH ne.symm).trans (s11 _ _ g7),t8.mono fun _ _ z=>mB.ts ts12 z,aC,?_,?_,fun s hs'=>?_,?_⟩
   ·rw[xo];exact fQ.append (t7.mono fun _ _ z=>kJ.ts ts12 z) (tw.mono fun _ _ z=>kJ.ts (TS.lst (s11 _ _ g8)) z)
   ·rw[<-eq,ex];simp
   ·rcases bp.mp hs' with e|e
    ·obtain⟨s9,m9,e9⟩:=dh.mp e;rw[<-e9];exact aT2 hS.1 hS.2 m9
    ·exact hs s (ak _ e)
   ·rw[ex,bz]
  ·refine aV (fun z=>c (by have z:=ag z;injection z)) ?_;have ex:=kI (s:=s) (k:=n) (r:=bM) c;have:=nH bM n;rw[ex,bz] at lt;have hn1:=hn0 c;refine⟨_,rfl,.inl ⟨rfl,_,bK.of g4⟩,_,rfl,l1,_,_,rfl,rfl,g4,gR (by lia),?_⟩;have ts8:=TS.lst (ys:=ez++[.ref q]) g4;refine⟨em++[s],bM,_,_,n,_,_,rfl,bW s6 hl1,aC,fQ.append (t5.mono fun _ _ z=>mB.ts ts8 z) ⟨⟨q,rfl,by rw[<-hn1];exact ts8 _ _ hq6⟩,trivial⟩,(aH ne).trans g3,t7.mono fun _ _ z=>kJ.ts ts8 z,?_,fun s hs'=>hs s (ak _ hs'),?_⟩
   ·rw[<-eq,ex];simp
   ·rw[ex,bz]
theorem bK4(C_Sts:Cl P w K mg base 3 spSteps "steps_of"):fY P w K mg base "rows_in" "rows_in" bS2 4 ["program"] spRowsIn:=by
 refine iG ["program"] fun H Q nd hr h=>?_
 obtain⟨p,ks,rs,m,rfl,P0,k⟩:=h;refine⟨_,(aE (aM (dF ["word","row","number"] [none,none,none] (cU (bS C_Sts hr (aQ (bQ aJ (pv 0) aD)))) (fun _ _ _ _=>(bH5 K (n:=3) rfl (aY (fG 0) (aY (fG 1) (aY (fG 2) fB))))) (fun _ _ _ _=>(kN (dZ bN (pv 0) aG))) (fun _ _ _ _=>(pv 1))))),?_⟩;obtain⟨pk,pr,hp,hk,hpr⟩:=P0.ex;have tl:=dN rs 0;have c0:=P0.cnt;have m4:=P0.m4;refine⟨_,rfl,p,_,_,.ref pr,rfl,rfl,aR.of hp,rfl,pr,rs,rfl,hpr,P0.rows,by lia,fun r zs H1 s1 _ h1 t1=>⟨r,rfl,⟨_,bK.of h1⟩,?_⟩⟩;have zl:=t1.length;refine cZ (K:=K) (a:=r) (xs:=zs) (fun i ys σ G=>G=H1/\(∃v1 v2 v3,σ=[v1,v2,v3])/\ys=bL ((((bR 0 rs).take i).filter eO).map (·.2.1)))
  (gR (by lia)) ⟨rfl,⟨_,_,_,rfl⟩,rfl⟩ (fun i ys σ G ⟨_,_,e⟩=>by
   rw[e,bB,ac];exact cp (jv _ _) (by rw[ci];lia)) (by rintro i ys σ G _ ⟨e,_⟩;rw[e];exact bK.of h1) ?_ ?_
 ·rintro i v ys σ G hv ⟨rfl,⟨v1,v2,v3,rfl⟩,rfl⟩;obtain⟨s,hs,q,rfl,hq⟩:=lO t1 hv;refine⟨q,_,rfl,aR.of hq,rfl,_,_,rfl,_,_,rfl,_,_,rfl,rfl,?_⟩;refine⟨_,rfl,rfl,_,rfl,?_⟩;rw[aX hs,fk,au,dS]
  by_cases c:s.1="row"
  ·refine bH (by rw[c];exact af rfl) ⟨_,rfl,rfl,⟨_,_,_,rfl⟩,?_⟩;rw[di (p:=eO) (af c)];rfl
  ·refine aV (fun z=>c (by have z:=ag z;injection z)) ⟨rfl,⟨_,_,_,rfl⟩,?_⟩;rw[ef (p:=eO) (by unfold eO;simpa using c)];simp[bL]
 ·rintro ys σ G ⟨rfl,_,rfl⟩ l hl;rw[zl,cm,fX];exact k l _ (s1.trans (aB hl _)) (s1.free hl) aC
theorem bQ7  : fY P w K mg base "begins_rows" "begins_rows" cA9 1 ["word","row"] spBegins:=by
 refine iG ["word","row"] fun H Q nd hr h=>?_
 obtain⟨s,rfl,hr0,k⟩:=h;refine⟨_,(aE (aM (aD5 (nM bN (pv 0) aG) (dO (dR (nM bN (pv 0) aG) (dO (nM dW (bQ aJ (pv 1) aD) (bE (aA aG (aQ aG)))))))))),?_⟩;refine⟨_,rfl,rfl,_,rfl,?_⟩;unfold eR uQ at k
 by_cases c:s.1="else"
 ·rw[af c,Bool.true_or] at k;exact bH (by rw[c];exact af rfl) (k _ (bD.refl _))
 refine aV (fun z=>c (by have z:=ag z;injection z)) ?_;rw[ba c,wy] at k;refine⟨_,rfl,rfl,_,rfl,?_⟩
 by_cases c2:s.1="row"
 ·rw[af c2,sg] at k;refine bH (by rw[c2];exact af rfl) ?_;refine⟨_,rfl,s.2.1.p,_,_,.str s.2.1.w,rfl,rfl,aR.of hr0.at,jB,eY,fun t2 ht2=>?_⟩;refine⟨t2,(["when","times"]:List Str).map V.str,rfl,.inr (aR.of aC),rfl,cJ _,?_⟩;rw[dQ];exact k _ (aB ht2 _)
 ·rw[ba c2,Bool.false_and] at k;exact aV (fun z=>c2 (by have z:=ag z;injection z)) (k _ (bD.refl _))
theorem bN9  : fY P w K mg base "first_is_amiss" "first_is_amiss" bU0 1 ["row"] spFirstA:=by
 refine iG ["row","mark","steepness","low","high"] fun H Q nd hr h=>?_
 obtain⟨p,x,us,am,rfl,hp,ok,k⟩:=h;refine⟨_,(eG 1 nd (bQ aJ (pv 0) aD)
  (eG 2 nd (bQ aJ (pv 0) aD)
  (eG 3 nd (bQ aJ (pv 0) aD)
  (eG 4 nd (bQ aJ (pv 0) aD)
  (aE (aM (aD5 (nM qC (pv 4) (pv 3)) (aD5 (aR1 (aR9 qC qC (pv 3) (pv 1) (pv 4))) (dO (nM jQ (aS iD aD (bQ aJ (pv 2) aD)) (bQ aJ (pv 2) aD))))))))))),?_⟩
 rcases ok with⟨m,_⟩|⟨m,_⟩|⟨_,mark,a,q,c,lo,hi,y,z,rfl,hq,_,h1,h2,rfl⟩
 ·exact absurd m (by decide)
 ·exact absurd m (by decide)
 refine⟨_,rfl,p,_,_,.int mark,rfl,rfl,aR.of hp,rfl,?_⟩;refine⟨_,rfl,p,_,_,.ref q,rfl,rfl,aR.of hp,rfl,?_⟩;refine⟨_,rfl,p,_,_,.int lo,rfl,rfl,aR.of hp,rfl,?_⟩;refine⟨_,rfl,p,_,_,.int hi,rfl,rfl,aR.of hp,rfl,?_⟩;refine⟨_,rfl,_,rfl,_,_,rfl,rfl,_,rfl,?_⟩
 by_cases c1:hi<=lo
 ·rw[af (.inl c1)] at k;exact bH (af c1) k
 refine aV (fun z=>c1 (ag z)) ?_;refine⟨_,rfl,_,rfl,_,_,rfl,rfl,_,rfl,?_⟩
 by_cases c2:lo<=mark
 ·refine bH (af c2) ⟨_,rfl,_,_,rfl,rfl,_,rfl,_,rfl,?_⟩
  by_cases c3:mark<=hi
  ·refine aV (by rw[af c3];decide) ?_;refine⟨_,rfl,q,_,_,.int y,rfl,rfl,aR.of hq,rfl,_,_,rfl,rfl,.inl ⟨by decide,by decide⟩,_,rfl,q,_,_,.int z,rfl,rfl,aR.of hq,rfl,_,_,rfl,rfl,?_⟩;show Q (.bl (decide (z<2*y))) H;rw[show decide (hi<=lo\/¬(lo<=mark/\mark<=hi)\/z<2*y)=decide (z<2*y) from uw.mpr ⟨fun h=>by lia,fun h=> .inr (.inr h)⟩] at k;exact k
  ·rw[af (.inr (.inl fun z=>c3 z.2))] at k;exact bH (by rw[ba c3];rfl) k
 ·rw[af (.inr (.inl fun z=>c2 z.1))] at k;refine aV (fun z=>c2 (ag z)) ⟨_,rfl,_,rfl,?_⟩;exact bH rfl k
theorem bN7{cT:Addr}(m_THROWS:mg "THROWS"=some (.ref cT))(hT:∀H,aR K H cT (cV.map V.str))(C_FiA:Cl P w K mg base 1 spFirstA "first_is_amiss"):fY P w K mg base "range_is_amiss" "range_is_amiss" bY3 2 ["row"] spRangeA:=by
 refine iG ["row"] fun H Q nd hr h=>?_
 obtain⟨r,rfl,hr0,k⟩:=h;refine⟨_,(aF (bA (dZ bN (bQ aJ (pv 0) aD) aG) (aE (aM (bS C_FiA hr (aQ (pv 0))))) aP)
  (aE (aM (dR (nM dW (bQ aJ (pv 0) aD) (pgl m_THROWS)) (dO (nM jQ (bQ aJ (pv 0) aD) (bQ aJ (pv 0) aD))))))),?_⟩
 refine⟨_,rfl,r.p,_,_,.str r.w,rfl,rfl,aR.of hr0.at,jB,rfl,_,rfl,?_⟩
 by_cases cf:r.w="first"
 ·refine bH (by rw[cf];exact af rfl) ?_;obtain⟨p,w,x,vs,am,rfl⟩:∃p w x vs am,r= .thr p w x vs am:=by
   cases r with
   |thr p w x vs am=>exact⟨p,w,x,vs,am,rfl⟩
   |lt p x t=>exact absurd cf (by show ¬(("let": Str)="first");decide)
   |tell p t=>exact absurd cf (by show ¬(("tell": Str)="first");decide)
   |when p pa pb t a b=>exact absurd cf (by show ¬(("when": Str)="first");decide)
   |times p pb n b=>exact absurd cf (by show ¬(("times": Str)="first");decide)
  have cf:w="first":=cf;subst cf;exact⟨_,rfl,p,x,vs,am,rfl,hr0.1,hr0.2,k⟩
 refine aV (fun z=>cf (by have z:=ag z;injection z)) ?_;refine⟨_,rfl,r.p,_,_,.str r.w,rfl,rfl,aR.of hr0.at,jB,cT,_,rfl,.inr (hT _),rfl,cJ _,_,rfl,?_⟩;have ei:oY (V.str r.w) (cV.map V.str)=decide (r.w∈cV):=dQ _ _
 by_cases c:r.w∈cV
 ·refine bH (ei.trans (af c)) ?_;generalize hP:r.p=P
  cases r with
  |thr p w x vs am =>
   obtain rfl:p=P:=hP;rcases hr0.2 with⟨_,a,b,lo,hi,rfl,_,rfl⟩|⟨_,a,b,lo,hi,rfl,_,rfl⟩|⟨z,_⟩
   ·exact⟨_,rfl,p,_,_,.int lo,rfl,rfl,aR.of hr0.1,rfl,_,rfl,p,_,_,.int hi,rfl,rfl,aR.of hr0.1,rfl,_,_,rfl,rfl,k⟩
   ·exact⟨_,rfl,p,_,_,.int lo,rfl,rfl,aR.of hr0.1,rfl,_,rfl,p,_,_,.int hi,rfl,rfl,aR.of hr0.1,rfl,_,_,rfl,rfl,k⟩
   ·exact absurd z cf
  |lt p x t=>exact absurd (show("let": Str)∈cV from c) (by decide)
  |tell p t=>exact absurd (show("tell": Str)∈cV from c) (by decide)
  |when p pa pb t a b=>exact absurd (show("when": Str)∈cV from c) (by decide)
  |times p pb n b=>exact absurd (show("times": Str)∈cV from c) (by decide)
 ·refine aV (fun z=>c (ag (ei.symm.trans z))) ?_
  cases r with
  |thr p w x vs am=>exact absurd hr0.2.w c
  |lt p x t=>exact k
  |tell p t=>exact k
  |when p pa pb t a b=>exact k
  |times p pb n b=>exact k
theorem bN0  : fY P w K mg base "in_both" "in_both" bZ5 1 ["one","other"] spBoth:=by
 refine iG ["one","other","both","name"] fun H Q nd hr h=>?_
 obtain⟨a,b,ka,kb,n,m,rfl,nab,Da,Db,hn,k⟩:=h;have hu:=hG hr;refine⟨_,(eG 2 nd jX
  (aF (pfr (vL (pv 0)) (fG 3 nd)
  (aE (bA (zH (vQ hu (pv 3) (pv 1))) (aE (pdp hu (pv 2) (pv 3) fS)) aP)))
  (aE (aM (pv 2))))),?_⟩
 refine fun d hd=>?_
 have s1:=aB hd (.dK []);have D1:Dk (aN H d (.dK [])) d [] 0:=Dk.new aC;obtain⟨kvs,ha,r1,r2,r3⟩:=Da.ex;have nda:a≠d:=aI ha hd;have ha1:=s1 _ _ ha;have Db1:=Db.at (s1 b);generalize aN H d (.dK [])=H1 at s1 D1 ha1 Db1 ⊢;refine⟨_,rfl,a,kvs,rfl,ha1,fun o=>?_⟩;have f2:∀c u,H c=some u->c≠a->aN H1 a (.frz o (.dK kvs)) c=some u:=fun c u e nc=>(aH nc).trans (s1 _ _ e)
 have D2:Dk (aN H1 a (.frz o (.dK kvs))) d [] 0:=D1.at fun u e=>(aH nda.symm).trans e
 have Db2:Dk (aN H1 a (.frz o (.dK kvs))) b kb m:=Db1.at fun u e=>(aH nab.symm).trans e
 have ha2:aN H1 a (.frz o (.dK kvs)) a=some (.frz o (.dK kvs)):=aC;generalize aN H1 a (.frz o (.dK kvs))=H2 at f2 D2 Db2 ha2 ⊢;have ndb:d≠b:=by
  obtain⟨q,e,_⟩:=Db.ex;exact(aI e hd).symm
 refine tV (d:=a) (o:=o) (kvs:=kvs) (fun i σ G=>∃v3,σ=[some (.ref a),some (.ref b),some (.ref d),v3]/\(∀c u,H c=some u->c≠a->G c=some u)/\Dk G d ((aF4 (kvs.take i)).filter fun x=>decide (x∈kb)) i/\Dk G b kb m/\G a=some (.frz o (.dK kvs)))
  ⟨_,rfl,f2,D2,Db2,ha2⟩ (by rintro i σ G _ ⟨_,_,_,_,_,e⟩;exact e) ?_ ?_
 ·rintro D' i ky v σ G hv ⟨v3,rfl,f3,D3,Db3,ha3⟩;have hi:=(bf.mp hv).1;obtain⟨x,hx⟩:=r2 _ (bq hv);have hx:ky=Sum.inr x:=hx;subst hx;have en:aF4 (kvs.take (i+1))=aF4 (kvs.take i)++[x]:=by unfold aF4;rw[aX hv,dw];rfl
  obtain⟨ov,g1,g2⟩:=Db3.get x;refine⟨_,rfl,_,rfl,b,ov,rfl,g1,_,rfl,?_⟩;rw[g2,en,fk]
  by_cases c:x∈kb
  ·refine bH (af c) ?_;obtain⟨ob,p1,p2,qq,rfl⟩:=D3.put (by lia) x (.bl true);refine⟨_,rfl,_,rfl,d,_,rfl,p1,_,rfl,fun c u e nc=>?_,?_,Db3.at fun u e=>(aH ndb.symm).trans e,(aH nda).trans ha3⟩
   ·rw[aH (aI e hd)];exact f3 c u e nc
   ·rw[di (p:=fun x=>decide (x∈kb)) (af c)];exact p2
  ·refine aV (by simpa using c) ⟨_,rfl,f3,?_,Db3,ha3⟩;rw[ef (p:=fun x=>decide (x∈kb)) (by simpa using c)]
   simpa using D3.more (gg i)
 ·rintro σ G ⟨v3,rfl,f3,D3,Db3,ha3⟩;refine⟨_,rfl,k d G f3 hd ((D3.ext fun x=>?_).more r3)⟩;rw[cm,dr,dr,aT9,r1 x]
theorem bR7(C_RnA:Cl P w K mg base 2 spRangeA "range_is_amiss"):fY P w K mg base "range_faults" "range_faults" bX4 3 ["steps"] spRangeF:=by
 refine iG ["steps"] fun H Q nd hr h=>?_
 obtain⟨ls,zs,rs,rfl,SH,k⟩:=h;refine⟨_,(aE (aM (dF ["word","row","number"] [none,none,none] (cU (pv 0)) (fun _ _ _ _=>(bH5 K (n:=3) rfl (aY (fG 0) (aY (fG 1) (aY (fG 2) fB))))) (fun _ _ _ _=>(kN (PW.pt (jM (dZ bN (pv 0) aG) (jO (fF (bS C_RnA hr (aQ (pv 1))))))))) (fun _ _ _ _=>(bE (aA (pv 2) (aA aD (aQ aG)))))))),?_⟩;obtain⟨h1,t1,hR,hc⟩:=SH;have zl:=t1.length;have tl:=dN rs 0;refine⟨_,rfl,ls,rfl,⟨_,bK.of h1⟩,cZ (K:=K) (a:=ls) (xs:=zs) (fun i ys σ G=>bD H G/\(∃v1 v2 v3,σ=[v1,v2,v3])/\fQ (lM G) ys (((bR 0 rs).take i).filterMap rgF))
  (gR (by lia)) ⟨bD.refl _,⟨_,_,_,rfl⟩,trivial⟩ (by rintro i ys σ G ⟨_,_,e⟩;rw[e.length];exact cp (gp _ _) (by rw[ci];lia)) (by rintro i ys σ G _ ⟨e,_⟩;exact bK.of (e _ _ h1)) ?_ ?_⟩
 ·rintro i v ys σ G hv ⟨s2,⟨v1,v2,v3,rfl⟩,tw⟩;obtain⟨s,hs,q,rfl,hq⟩:=lO t1 hv;have hrs:=eN rs 0 hR s (bq hs);rw[bA0 hs];refine⟨q,_,rfl,aR.of (s2 _ _ hq),rfl,_,_,rfl,_,_,rfl,_,_,rfl,rfl,?_⟩;refine⟨_,rfl,rfl,_,rfl,?_⟩
  by_cases c:s.1="row"
  ·refine bH (by rw[c];exact af rfl) ⟨_,rfl,s.2.1,rfl,eF.ts (.of s2) _ hrs,_,rfl,?_⟩
   cases ha:s.2.1.ams with
   |true =>
    refine bH rfl ⟨_,rfl,by show 3<=sizeLine;decide,fun t ht=>⟨s2.trans (aB ht _),⟨_,_,_,rfl⟩,fQ.append (tw.mono fun _ _ z=>lM.ts (.of (aB ht _)) z) ?_⟩⟩;rw[show rgF s=some ((s.2.2:Int),0) by unfold rgF;rw[bg c,bg ha]];exact⟨⟨t,rfl,by rw[cD6];exact aC⟩,trivial⟩
   |false =>
    refine aV (by decide) ⟨s2,⟨_,_,_,rfl⟩,?_⟩;rw[show rgF s=none by unfold rgF;rw[bg c,av (by rw[ha];exact bj)]]
    simpa using tw
  ·refine aV (fun z=>c (by have z:=ag z;injection z)) (aV (by decide) ⟨s2,⟨_,_,_,rfl⟩,?_⟩);rw[vM c]
   simpa using tw
 ·rintro ys σ G ⟨s2,_,tw⟩ l hl;rw[zl,cm,kK] at tw;exact k l ys _ (s2.trans (aB hl _)) (s2.free hl) aC (tw.mono fun _ _ z=>lM.ts (.of (aB hl _)) z)
theorem bP7(C_SeN:Cl P w K mg base 1 spSetsN "sets_name")(C_Bth:Cl P w K mg base 1 spBoth "in_both")(C_Ask:Cl P w K mg base 3 spAsked "names_asked")(m_all:mg "all"=none)(m_dict:mg "dict"=none):fY P w K mg base "unknown_faults" "unknown_faults" bZ6 4 ["steps"] spUnkF:=by
 refine iG ["steps","faults","known","kept","word","row","number","ahead"] fun H Q nd hr h=>?_
 obtain⟨ls,zs,rs,rfl,SH,k⟩:=h;have hu:=hG hr;refine⟨_,(eG 1 nd (bZ cX)
  (eG 2 nd jX
  (eG 3 nd (bZ cX)
  (aF (pfr (cU (pv 0)) (iO rfl (aY (fG 4 nd) (aY (fG 5 nd) (aY (fG 6 nd) fB))))
  (aE (bA (dZ bN (pv 4) aG) (aF (jG (bA (gK (fF (jU nI m_all ma (aQ (dF ["name","known"] [none,some 2] (cU (bS C_Ask hr (aQ (pv 5)))) (fun _ _ _ _=>(fG 0)) (fun _ _ _ _=>eT) (fun _ _ _ _=>(bJ8 (vQ hu (pv 0) (pv 1))))))))) (aE (cL (fA bo de df cQ (pv 1) (aQ (bE (aA (pv 6) (aA aD (aQ aG)))))))) aP))
  (aF (jG (bA (fF (bS C_SeN hr (aQ (pv 5)))) (aE (pdp hu (pv 2) (bQ aJ (pv 5) aD) fS)) aP))
  (aE (bA (dZ bN (bQ aJ (pv 5) aD) aG) (aE (cL (fA bo de df cQ (pv 3) (aQ (sH yK m_dict vo (aQ (pv 2))))))) aP)))) (aE (bA (dZ bN (pv 4) aG) (eG 7 nd (jZ bo gq gy kA (pv 3))
  (aF (cL (fA bo de df cQ (pv 3) (aQ (pv 2))))
  (aE (psz 2 nd (pv 7))))) (aE (bA (dZ bN (bQ aJ (pv 5) aD) aG) (aE (psz 2 nd (bS C_Bth hr (aA (jZ bo gq gy kA (pv 3)) (aQ (pv 2)))))) aP)))))))
  (aE (aM (pv 1))))))),?_⟩
 obtain⟨h1,t1,hR,hc⟩:=SH;have zl:=t1.length;have tl:=dN rs 0;have full:=rW rs 0 [] [] [];refine⟨bt _,fun lf hlf=>?_⟩;obtain⟨HA,e0,sA,gA⟩:=pQ hlf (.lst []);rw[e0];clear e0;refine fun kd hkd=>?_
 have hkd0:=sA.free hkd;have sB:=sA.trans (aB hkd (.dK []));have gB:=aB hkd (.dK []) _ _ gA;have dB:Dk (aN HA kd (.dK [])) kd [] 0:=Dk.new aC;generalize aN HA kd (.dK [])=HB at sB gB dB ⊢;refine⟨bt _,fun lk hlk=>?_⟩;have hlk0:=sB.free hlk;have nfk:lf≠lk:=aI gB hlk;have sC:=sB.trans (aB hlk (.lst []));have gC:=aB hlk (.lst []) _ _ gB;have dC:=dB.at (aB hlk (.lst []) kd);have kC:aN HB lk (.lst []) lk=some (.lst []):=aC;generalize aN HB lk (.lst [])=HC at sC gC dC kC ⊢;refine⟨_,rfl,ls,rfl,⟨_,bK.of (sC _ _ h1)⟩,gW (K:=K) (a:=ls) (xs:=zs) (fun i σ G=>∃(kd:Addr) (ads:List Addr) (fz:List V) (F:List Ft) (kn:List Str) (kp:List (List Str)) (v4 v5 v6 v7:Option V),σ=[some (.ref ls),some (.ref lf),some (.ref kd),some (.ref lk),v4,v5,v6,v7]/\bD H G/\G lf=some (.lst fz)/\fQ (lM G) fz F/\G lk=some (.lst (ads.reverse.map V.ref))/\(kd::ads).Nodup/\(∀a∈kd::ads,H a=none)/\pO G i (kd::ads) (kn::kp)/\dL gY ((bR 0 rs).take i) ([],[],[])=some (F,kn,kp))
  ⟨kd,[],[],[],[],[],_,_,_,_,rfl,sC,gC,trivial,kC,by simp,fun a ha=>by rw[List.mem_singleton.mp ha];exact hkd0,⟨dC,trivial⟩,rfl⟩ (by rintro i σ G _ ⟨_,_,_,_,_,_,_,_,_,_,_,e,_⟩;exact bK.of (e _ _ h1)) ?_ ?_⟩
 ·rintro D' i v σ G hv ⟨kd,ads,fz,F,kn,kp,v4,v5,v6,v7,rfl,s3,gf,tF,gk,nd,fr,DL,hrun⟩;obtain⟨s,hs,q,rfl,hq0⟩:=lO t1 hv;have hi:=(bf.mp hs).1;obtain⟨⟨F',kn',kp'⟩,e1,e2⟩:=vR gY full hs hrun;have kl:=mP (fun st:USt=>st.2.2.length) bS5 _ _ _ hrun;have fl:=mP (fun st:USt=>st.1.length) bL9 _ _ _ hrun;have lF:=tF.length;simp only[List.length_nil,List.length_take] at kl fl;have al:=DL.len;simp only[List.length_cons] at al;have kl:kp.length<=i:=by lia
  have hq:=s3 _ _ hq0;have hrs0:=eN rs 0 hR s (bq hs);have hw:=eF.wd _ hrs0;have hrs:=eF.ts (.of s3) s.2.1 hrs0;refine⟨q,_,rfl,aR.of hq,rfl,_,_,rfl,_,_,rfl,_,_,rfl,rfl,?_⟩;refine⟨_,rfl,rfl,_,rfl,?_⟩;have dks:=DL.is;have nlk:∀a∈kd::ads,a≠lk:=fun a ha z=>by
   obtain⟨w,e⟩:=dks a ha;rw[z,gk] at e;cases e
  have nlf:∀a∈kd::ads,a≠lf:=fun a ha z=>by
   obtain⟨w,e⟩:=dks a ha;rw[z,gf] at e;cases e
  unfold gY at e1
  by_cases c:s.1="row"
  ·rw[bg c] at e1;refine bH (by rw[c];exact af rfl) ?_;refine⟨fun σ' G'=>∃fz',σ'=[some (.ref ls),some (.ref lf),some (.ref kd),some (.ref lk),some (.str s.1),some (.ref s.2.1.p),some (.int s.2.2),v7]/\bD H G'/\G' lf=some (.lst fz')/\fQ (lM G') fz' (F++sF s.2.2 kn s.2.1.asked)/\G' lk=some (.lst (ads.reverse.map V.ref))/\pO G' i (kd::ads) (kn::kp),?_,?_⟩
   ·refine⟨_,rfl,s.2.1,rfl,hrs,fun rq H4 s4 h4=>⟨rq,rfl,⟨_,bK.of h4⟩,?_⟩⟩;have DL4:=DL.at (ah _) fun a _ o e=>s4 _ _ e
    have al':s.2.1.asked.length<=9000000:=aI9 hrs0;refine cZ (K:=K) (a:=rq) (xs:=s.2.1.asked.map V.str) (fun j ys σ G'=>G'=H4/\(∃v,σ=[v,some (.ref kd)])/\ys=(s.2.1.asked.take j).map fun y=>V.bl (decide (y∈kn)))
     (gR (by rw[ac];exact al')) ⟨rfl,⟨_,rfl⟩,rfl⟩ (by rintro j ys σ G' ⟨_,_,e⟩;rw[e,ac,ci];lia) (by rintro j ys σ G' _ ⟨e,_⟩;rw[e];exact bK.of h4) ?_ ?_
    ·rintro j v ys σ G' hv ⟨rfl,⟨v',rfl⟩,rfl⟩;obtain⟨y,rfl,hy⟩:=iL hv;obtain⟨ov,g1,g2⟩:=DL4.1.get y;refine⟨_,rfl,_,rfl,kd,ov,rfl,g1,rfl,⟨_,rfl⟩,?_⟩;rw[g2,aX hy,au];rfl
    rintro ys σ G' ⟨rfl,_,rfl⟩ l5 hl5;rw[ac,cm];have s5:=s4.trans (aB hl5 (.lst (s.2.1.asked.map fun y=>V.bl (decide (y∈kn)))));have h5:aN G' l5 (.lst (s.2.1.asked.map fun y=>V.bl (decide (y∈kn)))) l5=some (.lst ((s.2.1.asked.map fun y=>decide (y∈kn)).map V.bl)):=by rw[aC,kq];rfl
    generalize aN G' l5 (.lst (s.2.1.asked.map fun y=>V.bl (decide (y∈kn))))=G5 at s5 h5 ⊢;refine⟨l5,_,rfl,bK.of h5,_,rfl,?_⟩;have DL5:=DL.at (ah _) fun a _ o e=>s5 _ _ e
    have tF5:=tF.mono fun _ _ z=>lM.ts (.of s5) z
    have gf5:=s5 _ _ gf;have gk5:=s5 _ _ gk
    by_cases ca:∀y∈s.2.1.asked,y∈kn
    ·refine aV (by rw[aA8.mpr ca];decide) ⟨fz,rfl,s3.trans s5,gf5,?_,gk5,DL5⟩;unfold sF;rw[bg ca,gz];exact tF5
    ·refine bH (by rw[show(s.2.1.asked.map fun y=>decide (y∈kn)).all id=false from sw.mpr fun z=>ca (aA8.mp z)];rfl) ?_;refine⟨_,rfl,.inl ⟨rfl,_,bK.of gf5⟩,_,rfl,by show 3<=sizeLine;decide,fun t ht=>?_⟩;have s6:=aB ht (.tup [.int s.2.2,.int 1,.str "unknown"]);have e6:lM (aN G5 t (.tup [.int s.2.2,.int 1,.str "unknown"])) (.ref t) ((s.2.2:Int),1):=⟨t,rfl,by rw[cF1];exact aC⟩
     have s36:=(s3.trans s5).trans s6;have gf6:=s6 _ _ gf5;have gk6:=s6 _ _ gk5;have DL6:=DL5.at (ah _) fun a _ o e=>s6 _ _ e
     have tF6:=tF5.mono fun _ _ z=>lM.ts (.of s6) z
     generalize aN G5 t (.tup [.int s.2.2,.int 1,.str "unknown"])=G6 at s6 e6 s36 gf6 gk6 DL6 tF6 ⊢;refine⟨lf,_,_,rfl,rfl,gf6,gR (by lia),fz++[.ref t],rfl,bW s36 hlf,aC,?_,(aH nfk.symm).trans gk6,DL6.at (ah _) fun a ha o e=>(aH (nlf a ha)).trans e⟩;unfold sF;rw[av ca];exact fQ.append (tF6.mono fun _ _ z=>lM.ts (TS.lst gf6) z) ⟨e6.ts (TS.lst gf6),trivial⟩
   rintro σ1 G5 ⟨fz1,rfl,s35,gf5,tF5,gk5,DL5⟩;refine⟨fun σ' G'=>σ'=[some (.ref ls),some (.ref lf),some (.ref kd),some (.ref lk),some (.str s.1),some (.ref s.2.1.p),some (.int s.2.2),v7]/\bD H G'/\G' lf=some (.lst fz1)/\fQ (lM G') fz1 (F++sF s.2.2 kn s.2.1.asked)/\G' lk=some (.lst (ads.reverse.map V.ref))/\pO G' (i+1) (kd::ads) ((kn++s.2.1.sets.toList)::kp),?_,?_⟩
   ·refine⟨_,rfl,s.2.1,rfl,eF.ts (.of s35) s.2.1 hrs0,_,rfl,?_⟩
    cases hst:s.2.1.sets with
    |none =>
     refine aV (by simp) ⟨rfl,s35,gf5,tF5,gk5,?_⟩;show pO G5 (i+1) (kd::ads) ((kn++[])::kp);rw[gz];exact DL5.at (gg _) fun a _ o e=>e
    |some x =>
     refine bH rfl ?_;obtain⟨us,hus⟩:=pF (eF.ts (.of s35) s.2.1 hrs0) hst;obtain⟨ob,p1,p2,qq,rfl⟩:=DL5.1.put (by lia) x (.bl true);obtain⟨w0,d0⟩:=DL5.is kd aq;refine⟨_,rfl,_,rfl,s.2.1.p,_,_,.str x,rfl,rfl,aR.of hus,at1,kd,_,rfl,p1,rfl,?_,?_,tF5.mono fun _ _ z=>lM.ts (fun c ys e=>(aH (iM e d0 (by intro z;cases z))).trans e) z,?_,p2,?_⟩
     ·intro b u e;rw[aH (aI e (fr kd aq))];exact s35 b u e
     ·rw[aH (nlf kd aq).symm];exact gf5
     ·rw[aH (nlk kd aq).symm];exact gk5
     ·refine pO.at (gg i) DL5.2 fun a ha o e=>?_
      have:a≠kd:=fun z=>(cy.mp nd).1 (by rw[<-z];exact ha)
      rw[aH this];exact e
   ·rintro σ' G' ⟨rfl,s6,gf6,tF6,gk6,DL6⟩;refine⟨_,rfl,s.2.1.p,_,_,.str s.2.1.w,rfl,rfl,aR.of (eF.ts (.of s6) s.2.1 hrs0).at,jB,rfl,_,rfl,?_⟩;unfold sQ at e1;rw[bH2 hw]
    cases hb:jP s.2.1 with
    |false =>
     rw[hb] at e1
     cases e1
     exact aV (by decide) ⟨kd,ads,_,_,_,_,_,_,_,_,rfl,s6,gf6,tF6,gk6,nd,fr,DL6,e2⟩
    |true =>
     rw[hb] at e1
     cases e1
     refine bH rfl ?_;obtain⟨kvs,z1,z2⟩:=DL6.1.ex;refine⟨_,rfl,.inl ⟨rfl,_,bK.of gk6⟩,_,rfl,kd,kvs,rfl,z1,fun d7 hd7=>?_⟩;have f7:=s6.free hd7;have s7:=aB hd7 (.dK kvs);have D7:Dk (aN G' d7 (.dK kvs)) d7 (kn++s.2.1.sets.toList) (i+1):=⟨kvs,aC,z2⟩
     have n7:d7∉kd::ads:=fun m=>by
      obtain⟨w,e⟩:=DL6.is d7 m;rw[e] at hd7;cases hd7
     have n7k:d7≠lk:=(aI gk6 hd7).symm;have DL7:=DL6.at (ah _) fun a _ o e=>s7 _ _ e
     have gf7:=s7 _ _ gf6;have tF7:=tF6.mono fun _ _ z=>lM.ts (.of s7) z
     have gk7:=s7 _ _ gk6;have s67:=s6.trans s7;generalize aN G' d7 (.dK kvs)=G7 at s7 D7 DL7 gf7 tF7 gk7 s67 ⊢;refine⟨lk,_,_,rfl,rfl,gk7,gR (by rw[ac,du];lia),?_⟩;refine⟨kd,d7::ads,_,_,_,_,_,_,_,_,rfl,bW s67 hlk0,(aH nfk).trans gf7,tF7.mono fun _ _ z=>lM.ts (TS.lst gk7) z,?_,?_,?_,?_,e2⟩
     ·rw[aC,db,au];rfl
     ·rw[cy] at nd ⊢;refine⟨fun m=>?_,cy.mpr ⟨fun m=>n7 (ak _ m),nd.2⟩⟩;rcases bu.mp m with e|e
      ·exact n7 (by rw[<-e];exact aq)
      ·exact nd.1 e
     ·intro a ha;rcases bu.mp ha with e|e
      ·exact fr a (by rw[e];exact aq)
      ·rcases bu.mp e with e|e
       ·rw[e];exact f7
       ·exact fr a (ak _ e)
     ·refine⟨DL7.1.at fun o e=>(aH (nlk kd aq)).trans e,D7.at fun o e=>(aH n7k).trans e,pO.at (ah _) DL7.2 fun a ha o e=>(aH (nlk a (ak _ ha))).trans e⟩
  ·rw[av c] at e1;refine aV (fun z=>c (by have z:=ag z;injection z)) ?_;refine⟨_,rfl,rfl,_,rfl,?_⟩
   by_cases c2:s.1="else"
   ·rw[bg c2] at e1;refine bH (by rw[c2];exact af rfl) ?_
    cases kp with
    |nil=>cases e1
    |cons a0 r0 =>
    have e1:some (F,a0,kn::r0)=some (F',kn',kp'):=e1;injection e1 with e1
    injection e1 with q0 e1
    injection e1 with q1 q2
    subst q0 q1 q2;obtain⟨ad,bM,rfl,Da,Dr⟩:=DL.2.cons;have er:(ad::bM).reverse.map V.ref=bM.reverse.map V.ref++[V.ref ad]:=by rw[db,au];rfl
    rw[er] at gk;refine⟨_,rfl,.inl ⟨rfl,_,bK.of gk⟩,lk,_,V.ref ad,rfl,rfl,gk,by simp,?_⟩;rw[iy];have s4:=bW (ys:=bM.reverse.map V.ref) s3 hlk0;have g4:aN G lk (.lst (bM.reverse.map V.ref)) lk=some (.lst (bM.reverse.map V.ref)):=aC;have gf4:aN G lk (.lst (bM.reverse.map V.ref)) lf=_:=(aH nfk).trans gf;have tF4:=tF.mono fun _ _ z=>lM.ts (TS.lst (ys:=bM.reverse.map V.ref) gk) z
    have DL4:pO (aN G lk (.lst (bM.reverse.map V.ref))) i (kd::ad::bM) (kn::a0::r0):=DL.at (ah _) fun a ha o e=>(aH (nlk a ha)).trans e
    generalize aN G lk (.lst (bM.reverse.map V.ref))=G4 at s4 g4 gf4 tF4 DL4 ⊢;refine⟨_,rfl,.inl ⟨rfl,_,bK.of g4⟩,_,rfl,lk,_,_,rfl,rfl,g4,gR (by rw[ac,du];simp only[List.length_cons] at al kl;lia),?_⟩;refine⟨_,rfl,ad,kd::bM,_,_,_,_,_,_,_,_,rfl,bW s4 hlk0,(aH nfk).trans gf4,tF4.mono fun _ _ z=>lM.ts (TS.lst g4) z,?_,?_,?_,?_,e2⟩
    ·rw[aC,db,au];rfl
    ·exact(List.Perm.swap kd ad bM).nodup_iff.mpr nd |> fun z=>z
    ·intro a ha;refine fr a ?_;rcases bu.mp ha with e|e
     ·rw[e];simp
     ·rcases bu.mp e with e|e
      ·rw[e];simp
      ·simp[e]
    ·have DL5:pO (aN G4 lk (.lst (bM.reverse.map V.ref++[V.ref kd]))) (i+1) (kd::ad::bM) (kn::a0::r0):=DL4.at (gg _) fun a ha o e=>(aH (nlk a ha)).trans e
     exact⟨DL5.2.1,DL5.1,DL5.2.2⟩
   ·rw[av c2] at e1;refine aV (fun z=>c2 (by have z:=ag z;injection z)) ?_;refine⟨_,rfl,s.2.1.p,_,_,.str s.2.1.w,rfl,rfl,aR.of hrs.at,jB,rfl,_,rfl,?_⟩;rw[bH2 hw]
    cases hb:jP s.2.1 with
    |false =>
     rw[hb] at e1
     cases e1
     exact aV (by decide) ⟨kd,ads,_,_,_,_,_,_,_,_,rfl,s3,gf,tF,gk,nd,fr,DL.at (gg _) fun a _ o e=>e,e2⟩
    |true =>
     rw[hb] at e1;refine bH rfl ?_
     cases kp with
     |nil=>cases e1
     |cons a0 r0 =>
     have e1:some (F,kn.filter (fun x=>decide (x∈a0)),r0)=some (F',kn',kp'):=e1;injection e1 with e1
     injection e1 with q0 e1
     injection e1 with q1 q2
     subst q0 q1 q2;obtain⟨ad,bM,rfl,Da,Dr⟩:=DL.2.cons;have er:(ad::bM).reverse.map V.ref=bM.reverse.map V.ref++[V.ref ad]:=by rw[db,au];rfl
     rw[er] at gk;refine⟨_,rfl,.inl ⟨rfl,_,bK.of gk⟩,lk,_,V.ref ad,rfl,rfl,gk,by simp,?_⟩;rw[iy];have s4:=bW (ys:=bM.reverse.map V.ref) s3 hlk0;have g4:aN G lk (.lst (bM.reverse.map V.ref)) lk=some (.lst (bM.reverse.map V.ref)):=aC;have gf4:aN G lk (.lst (bM.reverse.map V.ref)) lf=_:=(aH nfk).trans gf;have tF4:=tF.mono fun _ _ z=>lM.ts (TS.lst (ys:=bM.reverse.map V.ref) gk) z
     have DL4:pO (aN G lk (.lst (bM.reverse.map V.ref))) i (kd::ad::bM) (kn::a0::r0):=DL.at (ah _) fun a ha o e=>(aH (nlk a ha)).trans e
     have nka:=nlk ad (by simp);have nfa:=nlf ad (by simp);generalize aN G lk (.lst (bM.reverse.map V.ref))=G4 at s4 g4 gf4 tF4 DL4 ⊢;have nd2:=cy.mp nd;have nd3:=cy.mp nd2.2;refine⟨_,rfl,ad,kd,a0,kn,i,i,rfl,fun z=>nd2.1 (by rw[<-z];simp),DL4.2.1,DL4.1,by lia,fun d5 H5 f5 fd5 D5=>?_⟩;have n5:∀a∈bM,d5≠a:=fun a ha z=>by
      obtain⟨w,e⟩:=DL4.is a (by simp[ha]);rw[z,e] at fd5;cases fd5
     obtain⟨w0,d0⟩:=DL4.is ad (by simp);refine⟨d5,bM,_,_,_,_,_,_,_,_,rfl,fun b u e=>?_,f5 _ _ gf4 nfa.symm,tF4.mono fun _ _ z=>lM.ts (fun c ys e=>f5 _ _ e (iM e d0 (by intro z;cases z))) z,f5 _ _ g4 nka.symm,?_,fun a ha=>?_,⟨(D5.more (gg _)).ext fun x=>by simp only[List.mem_filter,decide_eq_true_eq];exact And.comm,pO.at (gg _) DL4.2.2 fun a ha o e=>f5 _ _ e fun z=>nd3.1 (by rw[<-z];exact ha)⟩,e2⟩
     ·exact f5 _ _ (s4 _ _ e) (aI e (fr ad (by simp)))
     ·exact cy.mpr ⟨fun m=>n5 d5 m rfl,nd3.2⟩
     ·rcases bu.mp ha with e|e
      ·rw[e];exact s4.free fd5
      ·exact fr a (by simp[e])
 ·rintro σ G ⟨kd,ads,fz,F,kn,kp,v4,v5,v6,v7,rfl,s3,gf,tF,gk,nd,fr,DL,hrun⟩;rw[zl,cm,full] at hrun
  cases hrun
  exact⟨_,rfl,k lf fz G s3 hlf gf tF⟩
theorem bN5(C_Bgn:Cl P w K mg base 1 spBegins "begins_rows"):fY P w K mg base "tells_faults" "tells_faults" bX1 4 ["steps"] spTelF:=by
 refine iG ["steps","faults","counts","word","row","number","inner","other"] fun H Q nd hr h=>?_
 obtain⟨ls,zs,rs,rfl,SH,hT,_,k⟩:=h;refine⟨_,(eG 1 nd (bZ cX)
  (eG 2 nd (bZ (aQ aD))
  (aF (pfr (cU (pv 0)) (iO rfl (aY (fG 3 nd) (aY (fG 4 nd) (aY (fG 5 nd) fB))))
  (aE (bA (fF (bS C_Bgn hr (aA (pv 3) (aQ (pv 4))))) (aE (cL (fA bo de df cQ (pv 2) (aQ aD)))) (aE (bA (dZ bN (bQ aJ (pv 4) aD) aG) (aE (uZ (pv 2) qQ rS aD oH rR)) (aE (bA (PW.pt (jM (dZ bN (pv 3) aG) (jO (dZ bN (bQ aJ (pv 4) aD) aG)))) (eG 6 nd (jZ bo gq gy kA (pv 2))
  (aE (uZ (pv 2) qQ rS (aS iD (bQ aJ (pv 4) aD) (pv 6)) oH rR))) (aE (bA (dZ bN (pv 3) aG) (eG 7 nd (jZ bo gq gy kA (pv 2))
  (eG 6 nd (jZ bo gq gy kA (pv 2))
  (aF (uZ (pv 2) qQ rS (pv 6) oH rR)
  (aE (bA (dZ rT (pv 6) (pv 7)) (aE (cL (fA bo de df cQ (pv 1) (aQ (bE (aA (pv 5) (aA aD (aQ aG)))))))) aP))))) aP)))))))))
  (aE (aM (pv 1)))))),?_⟩
 obtain⟨h1,t1,hR,hc⟩:=SH;have zl:=t1.length;have tl:=dN rs 0;have full:=qY rs 0 [] 0 [] (aZ.wd rs hR);refine⟨bt _,fun lf hlf=>?_⟩;obtain⟨HA,e0,sA,gA⟩:=pQ hlf (.lst []);rw[e0];clear e0;refine⟨pA,fun lc hlc=>?_⟩;have hlc0:=sA.free hlc;have nfc:lf≠lc:=aI gA hlc;have sB:=sA.trans (aB hlc (.lst [.int 0]));have gB:=aB hlc (.lst [.int 0]) _ _ gA;have cB:aN HA lc (.lst [.int 0]) lc=some (.lst (([0]:List Int).reverse.map V.int)):=aC;generalize aN HA lc (.lst [.int 0])=HB at sB gB cB ⊢;refine⟨_,rfl,ls,rfl,⟨_,bK.of (sB _ _ h1)⟩,gW (K:=K) (a:=ls) (xs:=zs) (fun i σ G=>∃(fz:List V) (F:List Ft) (st:List Int) (v3 v4 v5 v6 v7:Option V),σ=[some (.ref ls),some (.ref lf),some (.ref lc),v3,v4,v5,v6,v7]/\bD H G/\G lf=some (.lst fz)/\fQ (lM G) fz F/\G lc=some (.lst (st.reverse.map V.int))/\dL gH ((bR 0 rs).take i) ([],[0])=some (F,st))
  ⟨[],[],[0],_,_,_,_,_,rfl,sB,gB,trivial,cB,rfl⟩ (by rintro i σ G _ ⟨_,_,_,_,_,_,_,_,_,e,_⟩;exact bK.of (e _ _ h1)) ?_ ?_⟩
 ·rintro D' i v σ G hv ⟨fz,F,st,v3,v4,v5,v6,v7,rfl,s3,gf,tF,gc,hrun⟩;obtain⟨s,hs,q,rfl,hq0⟩:=lO t1 hv;have hi:=(bf.mp hs).1;obtain⟨⟨F',st'⟩,e1,e2⟩:=vR gH full hs hrun;have sl:=mP (fun st:TSt=>st.2.length) bU6 _ _ _ hrun;have fl:=mP (fun st:TSt=>st.1.length) bL0 _ _ _ hrun;have lF:=tF.length;simp only[List.length_nil,List.length_cons,List.length_take] at sl fl;have hT0:=kD rs 0 hT s (bq hs);have hrs0:=eN rs 0 hR s (bq hs);have hw:=eF.wd _ hrs0;refine⟨q,_,rfl,aR.of (s3 _ _ hq0),rfl,_,_,rfl,_,_,rfl,_,_,rfl,rfl,?_⟩;refine⟨_,rfl,_,rfl,s,rfl,eF.ts (.of s3) s.2.1 hrs0,fun G1 s4=>⟨_,rfl,?_⟩⟩;have s5:=s3.trans s4;have gf1:=s4 _ _ gf;have gc1:=s4 _ _ gc;have tF1:=tF.mono fun _ _ z=>lM.ts (.of s4) z
  have hrs:=eF.ts (.of s5) s.2.1 hrs0;have sz:(st.reverse.map V.int).length<sizeLine:=by rw[ac,du];exact gR (by lia)
  unfold gH at e1
  by_cases c1:eR s=true
  ·rw[bg c1] at e1
   cases e1
   refine bH c1 ⟨_,rfl,.inl ⟨rfl,_,bK.of gc1⟩,lc,_,_,rfl,rfl,gc1,sz,?_⟩;refine⟨fz,F,0::st,_,_,_,_,_,rfl,bW s5 hlc0,(aH nfc).trans gf1,tF1.mono fun _ _ z=>lM.ts (TS.lst gc1) z,?_,e2⟩;rw[aC,db,au];rfl
  rw[av c1] at e1;refine aV c1 ?_;refine⟨_,rfl,s.2.1.p,_,_,.str s.2.1.w,rfl,rfl,aR.of hrs.at,jB,rfl,_,rfl,?_⟩;rw[bX9 hw]
  by_cases c2:rJ s.2.1=true
  ·rw[bg c2] at e1;refine bH c2 ?_
   cases st with
   |nil=>cases e1
   |cons c0 r0 =>
   cases e1
   have er:(c0::r0).reverse.map V.int=r0.reverse.map V.int++[V.int c0]:=by rw[db,au];rfl
   rw[er] at gc1;refine⟨_,rfl,lc,_,_,rfl,rfl,bK.of gc1,_,_,rfl,rfl,lc,_,_,rfl,rfl,gc1,?_⟩;refine⟨fz,F,(c0+1)::r0,_,_,_,_,_,rfl,bW s5 hlc0,(aH nfc).trans gf1,tF1.mono fun _ _ z=>lM.ts (TS.lst gc1) z,?_,e2⟩;rw[aC,db,au];rfl
  rw[av c2] at e1;refine aV c2 ?_;refine⟨_,rfl,rfl,_,rfl,?_⟩
  by_cases c3:s.1="end"
  ·rw[bg c3] at e1;refine bH (by rw[c3];exact af rfl) ?_;refine⟨_,rfl,s.2.1.p,_,_,.str s.2.1.w,rfl,rfl,aR.of hrs.at,jB,rfl,_,rfl,?_⟩;obtain⟨w0,r,n⟩:=s;have c3:w0="end":=c3;subst c3;have e1:xF r n (F,st)=some (F',st'):=e1;have hT0:yY r:=hT0;have hrs:eF G1 r:=hrs;generalize hP:(("end": Str),r,n).2.1.p=P
   cases r with
   |times p pb m b =>
    obtain rfl:p=P:=hP;refine bH (af rfl) ?_
    match st,e1,gc1,sl,e2 with
    |i0::c0::r0,e1,gc1,sl,e2 =>
    have e1:some (F,(c0+m*i0)::r0)=some (F',st'):=e1;have bd:0<=m/\m<=9:=⟨hT0.1,hT0.2.1⟩
    ·cases e1
     have er:(i0::c0::r0).reverse.map V.int=(r0.reverse.map V.int++[V.int c0])++[V.int i0]:=by simp
     rw[er] at gc1;refine⟨_,rfl,.inl ⟨rfl,_,bK.of gc1⟩,lc,_,.int i0,rfl,rfl,gc1,by simp,?_⟩;rw[iy];have s6:=bW (ys:=r0.reverse.map V.int++[V.int c0]) s5 hlc0;have g6:aN G1 lc (.lst (r0.reverse.map V.int++[V.int c0])) lc=some (.lst (r0.reverse.map V.int++[V.int c0])):=aC;have gf6:aN G1 lc (.lst (r0.reverse.map V.int++[V.int c0])) lf=_:=(aH nfc).trans gf1;have h6:=TS.lst (ys:=r0.reverse.map V.int++[V.int c0]) gc1 _ _ hrs.1;have tF6:=tF1.mono fun _ _ z=>lM.ts (TS.lst (ys:=r0.reverse.map V.int++[V.int c0]) gc1) z
     generalize aN G1 lc (.lst (r0.reverse.map V.int++[V.int c0]))=G6 at s6 g6 gf6 h6 tF6 ⊢;refine⟨_,rfl,lc,_,_,rfl,rfl,bK.of g6,_,rfl,p,_,_,.int m,rfl,rfl,aR.of h6,rfl,_,rfl,_,_,rfl,rfl,.inl ⟨by lia,by lia⟩,_,_,rfl,rfl,lc,_,_,rfl,rfl,g6,?_⟩;refine⟨fz,F,(c0+m*i0)::r0,_,_,_,_,_,rfl,bW s6 hlc0,(aH nfc).trans gf6,tF6.mono fun _ _ z=>lM.ts (TS.lst g6) z,?_,e2⟩;rw[aC,db,au];rfl
   |when p pa pb t a b =>
    obtain rfl:p=P:=hP;refine aV (fun z=>wWT (ag z)) ?_;refine⟨_,rfl,rfl,_,rfl,?_⟩;refine bH (af rfl) ?_
    match st,e1,gc1,sl,e2 with
    |o0::i0::c0::r0,e1,gc1,sl,e2 =>
    have e1:some (F++(if i0=o0 then [] else [((n:Int),2)]),(c0+i0)::r0)=some (F',st'):=e1;injection e1 with e1
    injection e1 with q1 q2
    subst q1 q2;have er:(o0::i0::c0::r0).reverse.map V.int=((r0.reverse.map V.int++[V.int c0])++[V.int i0])++[V.int o0]:=by simp
    rw[er] at gc1;refine⟨_,rfl,.inl ⟨rfl,_,bK.of gc1⟩,lc,_,.int o0,rfl,rfl,gc1,by simp,?_⟩;rw[iy];have s6:=bW (ys:=r0.reverse.map V.int++[V.int c0]++[V.int i0]) s5 hlc0;have g6:aN G1 lc (.lst (r0.reverse.map V.int++[V.int c0]++[V.int i0])) lc=some (.lst (r0.reverse.map V.int++[V.int c0]++[V.int i0])):=aC;have gf6:aN G1 lc (.lst (r0.reverse.map V.int++[V.int c0]++[V.int i0])) lf=_:=(aH nfc).trans gf1;have tF6:=tF1.mono fun _ _ z=>lM.ts (TS.lst (ys:=r0.reverse.map V.int++[V.int c0]++[V.int i0]) gc1) z
    generalize aN G1 lc (.lst (r0.reverse.map V.int++[V.int c0]++[V.int i0]))=G6 at s6 g6 gf6 tF6 ⊢;refine⟨_,rfl,.inl ⟨rfl,_,bK.of g6⟩,lc,_,.int i0,rfl,rfl,g6,by simp,?_⟩;rw[iy];have s7:=bW (ys:=r0.reverse.map V.int++[V.int c0]) s6 hlc0;have g7:aN G6 lc (.lst (r0.reverse.map V.int++[V.int c0])) lc=some (.lst (r0.reverse.map V.int++[V.int c0])):=aC;have gf7:aN G6 lc (.lst (r0.reverse.map V.int++[V.int c0])) lf=_:=(aH nfc).trans gf6;have tF7:=tF6.mono fun _ _ z=>lM.ts (TS.lst (ys:=r0.reverse.map V.int++[V.int c0]) g6) z
    generalize aN G6 lc (.lst (r0.reverse.map V.int++[V.int c0]))=G7 at s7 g7 gf7 tF7 ⊢;refine⟨_,rfl,lc,_,_,rfl,rfl,bK.of g7,_,rfl,_,_,rfl,rfl,lc,_,_,rfl,rfl,g7,?_⟩;have g8:aN G7 lc (.lst (r0.reverse.map V.int++[V.int (c0+i0)])) lc=some (.lst (((c0+i0)::r0).reverse.map V.int)):=by rw[aC,db,au];rfl
    have s8:=bW (ys:=r0.reverse.map V.int++[V.int (c0+i0)]) s7 hlc0;have gf8:aN G7 lc (.lst (r0.reverse.map V.int++[V.int (c0+i0)])) lf=_:=(aH nfc).trans gf7;have tF8:=tF7.mono fun _ _ z=>lM.ts (TS.lst (ys:=r0.reverse.map V.int++[V.int (c0+i0)]) g7) z
    generalize aN G7 lc (.lst (r0.reverse.map V.int++[V.int (c0+i0)]))=G8 at s8 g8 gf8 tF8 ⊢;refine⟨_,rfl,_,rfl,rfl,_,rfl,?_⟩
    by_cases bd:i0=o0
    ·refine aV (by simp[bd]) ?_;rw[bg bd,gz] at e2;exact⟨fz,F,_,_,_,_,_,_,rfl,s8,gf8,tF8,g8,e2⟩
    ·refine bH (by simp[bd]) ?_;rw[av bd] at e2;refine⟨_,rfl,.inl ⟨rfl,_,bK.of gf8⟩,_,rfl,by show 3<=sizeLine;decide,fun tt htt=>?_⟩;have s9:=aB htt (.tup [.int n,.int 2,.str "tells"]);have e9:lM (aN G8 tt (.tup [.int n,.int 2,.str "tells"])) (.ref tt) ((n:Int),2):=⟨tt,rfl,by rw[cF5];exact aC⟩
     have s89:=s8.trans s9;have gf9:=s9 _ _ gf8;have g9:=s9 _ _ g8;have tF9:=tF8.mono fun _ _ z=>lM.ts (.of s9) z
     generalize aN G8 tt (.tup [.int n,.int 2,.str "tells"])=G9 at s9 e9 s89 gf9 g9 tF9 ⊢;refine⟨lf,_,_,rfl,rfl,gf9,gR (by lia),fz++[.ref tt],_,_,_,_,_,_,_,rfl,bW s89 hlf,aC,?_,(aH nfc.symm).trans g9,e2⟩;exact fQ.append (tF9.mono fun _ _ z=>lM.ts (TS.lst gf9) z) ⟨e9.ts (TS.lst gf9),trivial⟩
   |thr p w x vs am=>cases e1
   |lt p x t=>cases e1
   |tell p t=>cases e1
  ·rw[av c3] at e1
   cases e1
   refine aV (fun z=>c3 (by have z:=ag z;injection z)) ?_;refine aV (by decide) ?_;refine⟨_,rfl,rfl,_,rfl,?_⟩;refine aV (fun z=>c3 (by have z:=ag z;injection z)) ?_;exact⟨_,_,_,_,_,_,_,_,rfl,s5,gf1,tF1,gc1,e2⟩
 ·rintro σ G ⟨fz,F,st,v3,v4,v5,v6,v7,rfl,s3,gf,tF,gc,hrun⟩;rw[zl,cm,full] at hrun
  cases hrun
  exact⟨_,rfl,k lf fz G s3 hlf gf tF⟩
theorem bH6{tM:Tok}(m_MOST_KINDS:mg "MOST_KINDS"=some (.int 3 tM))(m_len:mg "len"=none)(m_set:mg "set"=none):fY P w K mg base "look_at_kinds" "look_at_kinds" bS6 2 ["kinds"] spKindsL:=by
 refine iG ["kinds"] fun H Q nd hr h=>?_
 obtain⟨p,ks,rfl,hp,k1,k3,nd,k⟩:=h;have hr1:dH 1 _:=hr.mono (by decide);refine⟨_,(aF (bA (gK (rX qC qC aD (jU bG m_len cu (aQ (pv 0))) (dM (v:= .int 3) (by rfl) m_MOST_KINDS ⟨_,rfl⟩))) iZ aP)
  (aE (bA (dZ nK (jU (aJ0 P w) m_len cu (aQ (sH (aG2 P w hr1) m_set wg (aQ (pv 0))))) (jU bG m_len cu (aQ (pv 0)))) iZ aP))),?_⟩
 refine⟨_,rfl,p,_,rfl,.inr (aR.of hp),_,_,rfl,rfl,_,rfl,bH (by rw[ac];simp only[decide_eq_true_eq];lia) ⟨_,_,rfl,rfl,_,rfl,aV (by rw[ac,af (by lia)];decide) ?_⟩⟩;have em:ks.map V.str=(ks.map fun x=>(Sum.inr x:Key)).map kV:=by rw[kq];rfl
 refine⟨_,rfl,p,ks.map (fun x=>(Sum.inr x:Key)),rfl,by rw[<-em];exact aR.of hp,by rw[ac];lia,fun a ha=>?_⟩;have s1:=aB ha (wT P w a (ks.map fun x=>(Sum.inr x:Key)));refine⟨a,_,rfl,aC,_,rfl,p,_,rfl,.inr (aR.of (s1 _ _ hp)),_,_,rfl,rfl,_,rfl,aV ?_ (k _ s1)⟩;rw[wI (zP nd),ac,ac];simp
theorem bO0(C_Lkk:Cl P w K mg base 2 spKindsL "look_at_kinds")(C_Sts:Cl P w K mg base 3 spSteps "steps_of")(C_TlF:Cl P w K mg base 4 spTelF "tells_faults")(C_RnF:Cl P w K mg base 3 spRangeF "range_faults")(C_UnF:Cl P w K mg base 4 spUnkF "unknown_faults")(m_min:mg "min"=none)(m_any:mg "any"=none):fY P w K mg base "look" "look" bY4 5 ["program"] spLookL:=by
 refine iG ["program","steps","faults","fault"] fun H Q nd hr h=>?_
 obtain⟨p,ks,rs,m,rfl,P0,ndk,k⟩:=h;refine⟨_,(aF (cL (bS C_Lkk hr (aQ (bQ aJ (pv 0) aD))))
  (eG 1 nd (bS C_Sts hr (aQ (bQ aJ (pv 0) aD)))
  (eG 2 nd (aS eI (aS eI (bS C_RnF hr (aQ (pv 1))) (bS C_UnF hr (aQ (pv 1)))) (bS C_TlF hr (aQ (pv 1))))
  (aF (bA (rN (pv 2) (fun _=>rfl)) iZ aP)
  (aF (bA (gK (fF (jU aX2 m_any PyProof.Rows.boot_any (aQ (dF ["step"] [none] (cU (pv 1)) (fun _ _ _ _=>(fG 0)) (fun _ _ _ _=>eT) (fun _ _ _ _=>(nM bN (bQ (pC K) (bQ (pC K) (pv 0) aD) aD) aG))))))) iZ aP)
  (aE (aM fS))))))),?_⟩
 obtain⟨pk,pr,hp,hk,hpr⟩:=P0.ex;have tl:=dN rs 0;have m4:=P0.m4;obtain⟨k2,hsc⟩:=P0.sc;have c4:bP rs<=4000:=by have:=P0.cnt;lia
 have c0:=P0.cnt;refine⟨_,rfl,p,_,_,.ref pk,rfl,rfl,aR.of hp,rfl,pk,ks,rfl,hk,P0.k1,P0.k3,ndk,fun H1 s1=>?_⟩;refine⟨_,rfl,p,_,_,.ref pr,rfl,rfl,aR.of (s1 _ _ hp),rfl,pr,rs,rfl,s1 _ _ hpr,aZ.ts (.of s1) rs P0.rows,c4,fun ls zs H2 s2 _ h2 t2=>?_⟩;have SH:lX H2 ls zs rs:=⟨h2,t2,aZ.ts (.of (s1.trans s2)) rs P0.rows,c4⟩
 have zl:=t2.length;refine⟨_,rfl,ls,zs,rs,rfl,SH,fun r3 u3 H3 s3 _ h3 w3=>?_⟩;rw[fO.rf 0 hsc] at w3;obtain rfl:=uP w3;refine⟨_,rfl,ls,zs,rs,rfl,SH.same s3,fun r4 u4 H4 s4 _ h4 w4=>?_⟩;rw[(fO.uf 0 [] hsc fun y hy=>absurd hy dv).1] at w4;obtain rfl:=uP w4;refine⟨r3,r4,_,_,rfl,rfl,s4 _ _ h3,h4,bt _,fun l5 hl5=>?_⟩;have s5:=s4.trans (aB hl5 (.lst ([]++[])));have h5:aN H4 l5 (.lst ([]++[])) l5=some (.lst []):=aC;generalize aN H4 l5 (.lst ([]++[]))=H5 at s5 h5 ⊢;refine⟨_,rfl,ls,zs,rs,rfl,(SH.same s3).same s5,P0.tk.tim,cp P0.dp (by decide),fun r6 u6 H6 s6 _ h6 w6=>?_⟩;rw[cA.tf 0 P0.tk] at w6;obtain rfl:=uP w6;refine⟨l5,r6,_,_,rfl,rfl,s6 _ _ h5,h6,bt _,fun l7 hl7=>?_⟩;have s7:=s3.trans (s5.trans (s6.trans (aB hl7 (.lst ([]++[])))));have h7:aN H6 l7 (.lst ([]++[])) l7=some (.lst []):=aC;generalize aN H6 l7 (.lst ([]++[]))=H7 at s7 h7 ⊢;refine⟨_,rfl,_,.inl ⟨_,bK.of h7,rfl⟩,aV (by decide) ?_⟩
 obtain⟨h8,t8,hR8,_⟩:=SH.same s7;refine⟨_,rfl,ls,rfl,⟨_,bK.of h8⟩,cZ (K:=K) (a:=ls) (xs:=zs) (fun i ys σ G=>G=H7/\(∃v,σ=[v])/\ys=(((bR 0 rs).take i).map fun s:Stp=>decide (s.2.1.w="tell")).map V.bl)
  (gR (by lia)) ⟨rfl,⟨_,rfl⟩,rfl⟩ (by rintro i ys σ G ⟨_,_,e⟩;rw[e,ac,ac,ci];lia) (by rintro i ys σ G _ ⟨e,_⟩;rw[e];exact bK.of h8) ?_ ?_⟩
 ·rintro i v ys σ G hv ⟨rfl,⟨v',rfl⟩,rfl⟩;obtain⟨s,hs,q,rfl,hq⟩:=lO t8 hv;have hrs:=eN rs 0 hR8 s (bq hs);refine⟨_,rfl,q,_,_,.ref s.2.1.p,rfl,rfl,aR.of hq,rfl,s.2.1.p,_,_,.str s.2.1.w,rfl,rfl,aR.of hrs.at,jB,rfl,rfl,⟨_,rfl⟩,?_⟩;rw[aX hs,au,au];rw[show decide (V.str s.2.1.w=V.str "tell")=decide (s.2.1.w="tell") from by simp];rfl
 rintro ys σ G ⟨rfl,_,rfl⟩ l9 hl9;rw[zl,cm];refine⟨l9,_,rfl,bK.of aC,_,rfl,?_⟩;refine aV ?_ (k _ (s1.trans (s2.trans (s7.trans (aB hl9 _)))));obtain⟨s,ms,es⟩:=aI0 (rs:=rs) (P0.t1);have:(((bR 0 rs).map fun s:Stp=>decide (s.2.1.w="tell")).any id)=true:=by
  rw[List.any_map,jc];exact⟨s,ms,af es⟩
 rw[this]
 decide
theorem bD5  : fY P w K mg base "_law_lowest" "_law_lowest" bF1 1 ["_law_top","_law_bottom"] spLow:=by
 refine iG ["_law_top","_law_bottom","_law_one","_law_other"] fun H Q nd hr h=>?_
 obtain⟨a,b,rfl,ha,hb,hz,k⟩:=h;refine⟨_,(aF (aO1 (i:=2) (j:=3) rfl nd rfl rfl (by decide) rfl rfl (aA (pv 0) (aQ (pv 1))) rfl)
  (aF (iV jj (dZ jQ (pv 3) aD)
  (aE (aO1 (i:=2) (j:=3) rfl nd rfl rfl (by decide) rfl rfl (aA (pv 3) (aQ (aS iA (pv 2) (pv 3)))) rfl)))
  (aE (aM (bE (aA (aS wU (pv 0) (pv 2)) (aQ (aS wU (pv 1) (pv 2))))))))),?_⟩
 have g0:0<gI a b:=aW7 hb;have g1:gI a b<2^200*2^200:=Int.lt_of_le_of_lt (bS3 hb) hz;refine⟨_,rfl,_,rfl,_,_,rfl,?_⟩;refine⟨fun j σ H1=>H1=H/\∃(x y:Int),σ=[some (.int a),some (.int b),some (.int x),some (.int y)]/\0<=x/\0<=y/\gI x y=gI a b/\j=y.toNat,⟨_,rfl,a,b,rfl,ha,by lia,rfl,rfl⟩,?_⟩;rintro j σ H1 ⟨rfl,x,y,rfl,hx,hy,hg,rfl⟩;refine⟨_,rfl,_,_,rfl,rfl,_,rfl,?_⟩;refine lK (fun c=>?_) (fun c=>?_)
 ·have yp:0<y:=ag c;refine⟨fun σ' H'=>H'=H1/\σ'=[some (.int a),some (.int b),some (.int y),some (.int (x % y))],fun σ' H' ⟨e1,e2⟩=>⟨(x % y).toNat,?_,e1,y,x % y,e2,hy,kz _ (by lia),(aL8 hx yp).trans hg,rfl⟩,?_⟩
  ·have:=lg x yp;have:=kz x (show y≠0 by lia);lia
  ·exact⟨_,rfl,_,rfl,_,rfl,_,_,rfl,rfl,yp,_,_,rfl,rfl,rfl⟩
 ·have y0:y=0:=by
   have:¬0<y:=fun z=>c (af z)
   lia
  subst y0;rw[bE4 hx] at hg;subst hg;exact⟨_,rfl,_,rfl,_,_,rfl,rfl,⟨g0,g1⟩,_,rfl,_,rfl,_,_,rfl,rfl,⟨g0,g1⟩,eY,fun p hp=>k p hp⟩
theorem aV4(C_LLow:Cl P w K mg base 1 spLow "_law_lowest")(C_Draw:Cl P w K mg base 1 spDraw "_law_draw"):fY P w K mg base "_law_steepness" "_law_steepness" aQ0 2 ["_law_deal_here","_law_most"] spStpE:=by
 refine iG ["_law_deal_here","_law_most","_law_q"] fun H Q nd hr h=>?_
 obtain⟨d,l,m,rfl,D,hm,k⟩:=h;refine⟨_,(eG 2 nd (aS dE aD (bS C_Draw hr (aA (pv 0) (aQ aD))))
  (aE (aM (bS C_LLow hr (aA (aS dE aD (bS C_Draw hr (aA (pv 0) (aQ (bQ fE (bZ (aA (aS jE (pv 2) aD) (aQ (aS nF (pv 2) aD)))) (aS jE (pv 1) aD)))))) (aQ (pv 2))))))),?_⟩
 refine⟨_,rfl,d,l,8,rfl,D,by decide,by decide,fun x H1 x0 x1 D1 o1=>⟨_,_,rfl,rfl,?_⟩⟩;refine⟨_,rfl,_,rfl,_,_,rfl,rfl,_,rfl,_,_,rfl,rfl,⟨by decide,by decide⟩,eY,fun p hp=>?_⟩;refine⟨_,rfl,_,_,rfl,rfl,?_⟩;obtain⟨v,hv,v0,v1,v2⟩:∃v:Int,nO [V.int (2+x-1),V.int ((2+x) / 2)] (m-1)=some (.int v)/\0<v/\v<=8/\(m=2->2*v<=2+x):=by
  rcases hm with rfl|rfl
  ·exact⟨2+x-1,rfl,by lia,by lia,fun z=>absurd z (by decide)⟩
  ·exact⟨(2+x) / 2,rfl,by lia,by lia,fun _=>by lia⟩
 refine⟨p,_,_,_,rfl,rfl,bK.of aC,hv,?_⟩;refine⟨d,l,v,rfl,D1.same (aB hp _),v0,by lia,fun y H2 y0 y1 D2 o2=>⟨_,_,rfl,rfl,?_⟩⟩;refine⟨_,rfl,1+y,2+x,rfl,by lia,by lia,Int.lt_trans (show 2+x<16 by lia) (by decide),fun r hr'=>?_⟩;obtain⟨a,b,c⟩:=cD0 (a:=1+y) (b:=2+x) (by lia) (by lia);exact k r _ _ _ (D2.same (aB hr' _)) (o1.trans ((eW.of (aB hp _)).trans (o2.trans (eW.of (aB hr' _))))) aC a (by lia) (fun z=>c (by have:=v2 z;lia))
theorem aL1(C_Draw:Cl P w K mg base 1 spDraw "_law_draw")(m_tuple:mg "tuple"=none)(m_range:mg "range"=none):fY P w K mg base "_law_sum" "_law_sum" aO9 2 ["_law_deal_here","_law_many"] spSumE:=by
 refine iG ["_law_deal_here","_law_many"] fun H Q nd hr h=>?_
 obtain⟨d,l,m,rfl,D,m0,m3,k⟩:=h;refine⟨_,(aE (aM (sH cY m_tuple dq (aQ (dF ["_law_k","_law_deal_here"] [none,some 0] (gU (by rfl) m_range (aQ (pv 1))) (fun _ _ _ _=>(fG 0)) (fun _ _ _ _=>eT) (fun _ _ _ _=>(bS C_Draw hr (aA (pv 1) (aQ aD))))))))),?_⟩;refine⟨_,rfl,m,rfl,by lia,by lia,lY (n:=m.toNat) (fun i ys σ G=>dJ G d l/\eW d l H G/\(∃v,σ=[v,some (.ref d)])/\ys.length=i) (aL (by lia)) ⟨D,eW.refl _,⟨_,rfl⟩,rfl⟩ (by rintro i ys σ G ⟨_,_,_,e⟩;lia) ?_ ?_⟩
 ·rintro i ys σ G hi ⟨D1,o1,⟨v,rfl⟩,hl⟩;exact⟨_,rfl,d,l,4,rfl,D1,by decide,by decide,fun x H3 x0 x1 D3 o3=>⟨D3,o1.trans o3,⟨_,rfl⟩,by rw[ao,hl];rfl⟩⟩
 ·rintro ys σ G ⟨D1,o1,_,hl⟩ p hp;exact⟨p,_,rfl,.inl ⟨bK.of aC,fun u hu'=>k u _ _ (D1.same ((aB hp _).trans (aB hu' _))) (o1.trans (eW.of ((aB hp _).trans (aB hu' _)))) aC (by lia)⟩⟩
theorem aN7(C_Draw:Cl P w K mg base 1 spDraw "_law_draw")(C_Stp46:Cl P w K mg base 2 spStpE "_law_steepness")(C_Sum46:Cl P w K mg base 2 spSumE "_law_sum")(m_tuple:mg "tuple"=none)(m_max:mg "max"=none)(m_range:mg "range"=none):fY P w K mg base "_law_throw" "_law_throw" aV6 3 ["_law_deal_here","_law_scene","_law_x"] spThrE:=by
 refine iG ["_law_deal_here","_law_scene","_law_x","_law_form","_law_many","_law_low","_law_high","_law_sums","_law_mark"] fun H Q nd hr h=>?_
 obtain⟨d,l,sc,nl,kd,wd,xs,x,rfl,W,k⟩:=h;have hu:=hG hr;refine⟨_,(eG 3 nd (bS C_Draw hr (aA (pv 0) (aQ aD)))
  (eG 4 nd (vY hu (pv 1) aG)
  (eG 5 nd (bS C_Draw hr (aA (pv 0) (aQ (vY hu (pv 1) aG))))
  (eG 6 nd (aS dE (pv 5) (bS C_Draw hr (aA (pv 0) (aQ (aS dE (vY hu (pv 1) aG) aD)))))
  (aF (bA (dZ nK (pv 3) aD) (aE (aM (bE (aA aG (aA (pv 2) (aA (bS C_Sum46 hr (aA (pv 0) (aQ (pv 4)))) (aA (bS C_Stp46 hr (aA (pv 0) (aQ aD))) (aA (pv 5) (aQ (pv 6)))))))))) aP)
  (aF (bA (dZ bN (pv 3) aD) (aE (aM (bE (aA aG (aA (pv 2) (aA (bS C_Sum46 hr (aA (pv 0) (aQ (pv 4)))) (aA (bS C_Draw hr (aA (pv 0) (aQ aD))) (aA (pv 5) (aQ (pv 6)))))))))) aP)
  (eG 7 nd (sH cY m_tuple dq (aQ (dF ["_law_k","_law_deal_here","_law_many"] [none,some 0,some 4] (gU (by rfl) m_range (aQ (aS dE aD (bS C_Draw hr (aA (pv 0) (aQ aD)))))) (fun _ _ _ _=>(fG 0)) (fun _ _ _ _=>eT) (fun _ _ _ _=>(bS C_Sum46 hr (aA (pv 1) (aQ (pv 2))))))))
  (aF (bA (dZ nK (pv 3) aD) (aE (aM (bE (aA aG (aA (pv 2) (aA (pv 7) (aA (bS C_Stp46 hr (aA (pv 0) (aQ aD))) (aA (pv 5) (aQ (pv 6)))))))))) aP)
  (eG 6 nd (jU (uG rfl) m_max wf (aA (pv 6) (aQ (aS dE (pv 5) aD))))
  (eG 8 nd (aS dE (pv 5) (bS C_Draw hr (aA (pv 0) (aQ (aS dE (aS jE (pv 6) (pv 5)) aD)))))
  (aE (aM (bE (aA aG (aA (pv 2) (aA (pv 8) (aA (bS C_Stp46 hr (aA (pv 0) (aQ aD))) (aA (bS C_Stp46 hr (aA (pv 0) (aQ aD))) (aA (pv 7) (aA (pv 5) (aQ (pv 6)))))))))))))))))))))),?_⟩
 have w1:=W.w1;have w2:=W.w2;have m0:=W.m1;have m3:=W.m2;refine⟨_,rfl,d,l,8,rfl,W.deal,by decide,by decide,fun fo H1 f0 f1 D1 o1=>?_⟩;have W1:=W.out D1 o1;refine⟨_,rfl,sc,_,rfl,W1.gKinds,?_⟩;refine⟨_,rfl,_,rfl,sc,_,rfl,W1.gWide,d,l,wd,rfl,D1,by lia,by lia,fun lo H2 a0 a1 D2 o2=>?_⟩;have W2:=W1.out D2 o2;refine⟨_,rfl,_,rfl,_,rfl,sc,_,rfl,W2.gWide,_,_,rfl,rfl,d,l,wd+1,rfl,D2,by lia,by lia,fun u H3 b0 b1 D3 o3=>⟨_,_,rfl,rfl,?_⟩⟩;have oA:=o1.trans (o2.trans o3);refine⟨_,rfl,_,_,rfl,rfl,_,rfl,?_⟩
 by_cases c0:fo<4
 ·refine bH (af c0) ?_;refine⟨_,rfl,_,rfl,_,rfl,d,l,kd,rfl,D3,by lia,m3,fun p4 ws4 H4 D4 o4 h4 n4=>⟨_,rfl,d,l,1,rfl,D4,.inl rfl,fun p5 a5 b5 H5 D5 o5 h5 _ _ _=>⟨_,rfl,_,rfl,by show 6<=sizeLine;decide,fun p hp=>?_⟩⟩⟩;exact k p "ladder" _ _ (D5.same (aB hp _)) (oA.trans (o4.trans (o5.trans (eW.of (aB hp _))))) aC (.inl ⟨by decide,_,_,_,_,rfl,⟨p4,ws4,rfl,(aB hp _) _ _ (TS.out D4 o5 _ _ h4),by lia⟩,(ba (by lia)).symm⟩) bW1
 refine aV (fun z=>c0 (ag z)) ?_;refine⟨_,rfl,rfl,_,rfl,?_⟩
 by_cases c1:fo=4
 ·refine bH (by rw[c1];exact af rfl) ?_;refine⟨_,rfl,_,rfl,_,rfl,d,l,kd,rfl,D3,by lia,m3,fun p4 ws4 H4 D4 o4 h4 n4=>⟨_,rfl,d,l,5,rfl,D4,by decide,by decide,fun y H5 _ _ D5 o5=>⟨_,rfl,_,rfl,by show 6<=sizeLine;decide,fun p hp=>?_⟩⟩⟩;exact k p "flat" _ _ (D5.same (aB hp _)) (oA.trans (o4.trans (o5.trans (eW.of (aB hp _))))) aC (.inl ⟨by decide,_,_,_,_,rfl,⟨p4,ws4,rfl,(aB hp _) _ _ (TS.out D4 o5 _ _ h4),by lia⟩,(ba (by lia)).symm⟩) cA4
 refine aV (fun z=>c1 (by have z:=ag z;injection z)) ?_;refine⟨_,rfl,d,l,3,rfl,D3,by decide,by decide,fun n4 H4 e0 e1 D4 o4=>⟨_,_,rfl,rfl,?_⟩⟩;have oB:=oA.trans o4;refine⟨1+n4,rfl,by lia,by lia,lY (n:=(1+n4).toNat) (fun i ys σ G=>dJ G d l/\eW d l H G/\(∃v,σ=[v,some (.ref d),some (.int kd)])/\ys.length=i/\∀u∈ys,Sm G u) (aL (by lia)) ⟨D4,oB,⟨_,rfl⟩,rfl,fun _ z=>nomatch z⟩ (by rintro i ys σ G ⟨_,_,_,e,_⟩;lia) ?_ ?_⟩
 ·rintro i ys σ G hi ⟨D5,o5,⟨v,rfl⟩,hl,hS⟩;refine⟨_,rfl,_,rfl,d,l,kd,rfl,D5,by lia,m3,fun p6 ws6 H6 D6 o6 h6 n6=>⟨D6,o5.trans o6,⟨_,rfl⟩,by rw[ao,hl];rfl,fun u hu=>?_⟩⟩;rcases bp.mp hu with e|e
  ·exact(hS u e).ts (TS.out D5 o6)
  ·rw[cg.mp e];exact⟨p6,ws6,rfl,h6,by lia⟩
 rintro ys σ G ⟨D5,o5,_,hl,hS⟩ lx hlx;refine⟨lx,ys,rfl,.inl ⟨bK.of aC,fun t6 ht6=>?_⟩⟩;have s6:=(aB hlx (.lst ys)).trans (aB ht6 (.tup ys));have D6:=D5.same s6;have o6:=o5.trans (eW.of (d:=d) (l:=l) s6);have sms:Sms (aN (aN G lx (.lst ys)) t6 (.tup ys)) (.ref t6):=⟨t6,ys,rfl,aC,by lia,fun u hu=>(hS u hu).ts (.of s6)⟩
 generalize aN (aN G lx (.lst ys)) t6 (.tup ys)=H6 at D6 o6 sms ⊢;refine⟨_,rfl,_,_,rfl,rfl,_,rfl,?_⟩
 by_cases c2:fo<7
 ·refine bH (af c2) ?_;refine⟨_,rfl,_,rfl,_,rfl,d,l,1,rfl,D6,.inl rfl,fun p7 a7 b7 H7 D7 o7 h7 _ _ _=>⟨_,rfl,_,rfl,by show 6<=sizeLine;decide,fun p hp=>?_⟩⟩;exact k p "choose" _ _ (D7.same (aB hp _)) (o6.trans (o7.trans (eW.of (aB hp _)))) aC (.inr (.inl ⟨rfl,_,_,_,_,rfl,(sms.ts (TS.out D6 o7)).ts (.of (aB hp _)),(ba (by lia)).symm⟩)) bW1
 refine aV (fun z=>c2 (ag z)) ?_;refine⟨_,rfl,_,rfl,_,_,rfl,rfl,_,_,rfl,?_⟩;obtain⟨h2,e2,b1',b2'⟩:∃h2:Int,(if lo+1 > lo+u then lo+1 else lo+u)=h2/\lo<h2/\h2<=lo+10:=⟨_,rfl,by split<;>lia,by split<;>lia⟩
 rw[e2];refine⟨_,rfl,_,rfl,_,rfl,_,rfl,_,_,rfl,rfl,_,_,rfl,rfl,d,l,_,rfl,D6,by lia,by lia,fun mk H7 g0 g1 D7 o7=>⟨_,_,rfl,rfl,?_⟩⟩;refine⟨_,rfl,_,rfl,_,rfl,d,l,1,rfl,D7,.inl rfl,fun p8 a8 b8 H8 D8 o8 h8 _ _ _=>⟨_,rfl,d,l,2,rfl,D8,.inr rfl,fun p9 a9 b9 H9 D9 o9 h9 x9 y9 q9=>⟨_,rfl,_,rfl,_,rfl,by show 8<=sizeLine;decide,fun p hp=>?_⟩⟩⟩;exact k p "first" _ _ (D9.same (aB hp _)) (o6.trans (o7.trans (o8.trans (o9.trans (eW.of (aB hp _)))))) aC (.inr (.inr ⟨rfl,_,_,p9,_,_,_,a9,b9,rfl,(aB hp _) _ _ h9,(((sms.ts (TS.out D6 o7)).ts (TS.out D7 o8)).ts (TS.out D8 o9)).ts (.of (aB hp _)),x9,y9,(ba (by have:=q9 rfl;lia)).symm⟩)) cB0
theorem aO4(n:Nat)(C_Trm46:Cl P w K mg base (n+1) (qF n) "_law_term")(C_Draw:Cl P w K mg base 1 spDraw "_law_draw")(m_len:mg "len"=none):fY P w K mg base "_law_term" "_law_term" aJ9 (n+1+1) ["_law_deal_here","_law_known","_law_room"] (qF (n+1)):=by
 refine iG ["_law_deal_here","_law_known","_law_room","_law_half","_law_one"] fun H Q nd hr h=>?_
 obtain⟨d,l,kn,ks,room,rfl,D,hk,nk,lk,r1,r2,k⟩:=h;refine⟨_,(aF (bA (fC (PW.pt (kO (dZ nK (pv 2) aD) (kB (dZ bN (bS C_Draw hr (aA (pv 0) (aQ aD))) aD))))) (aF (bA (fC (PW.pt (jM (dZ jQ (jU bG m_len cu (aQ (pv 1))) aD) (jO (dZ jQ (bS C_Draw hr (aA (pv 0) (aQ aD))) aD))))) (aE (aM (bE (aA aG (aQ (bQ fE (pv 1) (bS C_Draw hr (aA (pv 0) (aQ (jU bG m_len cu (aQ (pv 1)))))))))))) aP)
  (aE (aM (bE (aA aG (aQ (bQ fE (bZ (aA (bS C_Draw hr (aA (pv 0) (aQ aD))) (aQ (bS C_Draw hr (aA (pv 0) (aQ aD)))))) (bS C_Draw hr (aA (pv 0) (aQ aD)))))))))) aP)
  (eG 3 nd (aS nF (aS jE (pv 2) aD) aD)
  (eG 4 nd (bS C_Trm46 hr (aA (pv 0) (aA (pv 1) (aQ (pv 3)))))
  (aE (aM (bE (aA aG (aA (bQ uR aG (bS C_Draw hr (aA (pv 0) (aQ aD)))) (aA (pv 4) (aQ (bS C_Trm46 hr (aA (pv 0) (aA (pv 1) (aQ (pv 3))))))))))))))),?_⟩
 refine⟨fun b G=>dJ G d l/\eW d l H G/\(b=false->3<=room),?_,?_⟩
 ·refine⟨_,rfl,_,_,rfl,rfl,_,rfl,?_⟩
  by_cases c1:room<3
  ·exact bH (af c1) ⟨D,eW.refl _,fun z=>nomatch z⟩
  ·refine aV (by simpa using c1) ⟨_,rfl,d,l,3,rfl,D,by decide,by decide,fun x H1 x0 x1 D1 o1=>⟨rfl,_,rfl,D1,o1,fun _=>by lia⟩⟩
 rintro b G ⟨D1,o1,hb⟩;have hk1:=aO D hk nk o1
 cases b with
 |false =>
  refine aV (by simp) ?_;have c1:=hb rfl
  cases n with
  |zero=>exact absurd r2 (by simp only[cap];lia)
  |succ n =>
  simp only[cap] at r2;refine⟨_,rfl,_,_,rfl,rfl,_,_,rfl,rfl,⟨by decide,by decide⟩,?_⟩;refine⟨_,rfl,_,rfl,_,rfl,d,l,kn,ks,(room-1) / 2,rfl,D1,hk1,nk,lk,by lia,by lia,fun t1 H3 D3 o3 h3 ok3 nm3 sz3=>?_⟩;have hk3:=aO D1 hk1 nk o3;refine⟨_,rfl,d,l,5,rfl,D3,by decide,by decide,fun y H4 y0 y1 D4 o4=>?_⟩;obtain⟨c,hc,hs⟩:=bP0 y0 y1;have hk4:=aO D3 hk3 nk o4;refine⟨_,y,c,rfl,rfl,by decide,hc,_,rfl,_,rfl,_,rfl,_,rfl,d,l,kn,ks,(room-1) / 2,rfl,D4,hk4,nk,lk,by lia,by lia,fun t2 H5 D5 o5 h5 ok5 nm5 sz5=>⟨by show 4<=sizeLine;decide,fun p hp=>?_⟩⟩;have s6:=aB hp (.tup [.str "op",.str ⟨#[c]⟩,.ref t1.p,.ref t2.p]);have t15:=(TS.out D3 o4).trans ((TS.out D4 o5).trans (.of s6));refine k (.op p ⟨#[c]⟩ t1 t2) _ (D5.same s6) (o1.trans (o3.trans (o4.trans (o5.trans (.of s6))))) ⟨aC,h3.ts t15,h5.ts (.of s6)⟩ ⟨hs,ok3,ok5⟩ (fun z hz=>?_) ?_
  ·rcases bp.mp hz with q|q
   ·exact nm3 z q
   ·exact nm5 z q
  ·simp only[Tm.size];lia
 |true =>
  refine bH rfl ?_;refine⟨fun b G'=>dJ G' d l/\eW d l H G'/\(b=true->0<ks.length),?_,?_⟩
  ·refine⟨_,rfl,kn,_,rfl,.inl (bK.of hk1),_,_,rfl,rfl,_,rfl,?_⟩
   by_cases c:(0:Int)<((ks.map V.str).length:Int)
   ·refine bH (af c) ⟨_,rfl,d,l,4,rfl,D1,by decide,by decide,fun x H2 x0 x1 D2 o2=>⟨_,_,rfl,rfl,_,rfl,D2,o1.trans o2,fun _=>by rw[ac] at c;lia⟩⟩
   ·exact aV (by simpa using c) ⟨D1,o1,fun z=>nomatch z⟩
  rintro b G2 ⟨D2,o2,hb2⟩;have hk2:=aO D hk nk o2
  cases b with
  |true =>
   have kp:=hb2 rfl;refine bH rfl ?_;refine⟨_,rfl,_,rfl,_,rfl,kn,_,rfl,.inl (bK.of hk2),d,l,_,rfl,D2,by rw[ac];lia,by rw[ac];lia,fun x H3 x0 x1 D3 o3=>?_⟩;obtain⟨v,hv,ha⟩:=aY2 x0 x1;obtain⟨y,rfl,hy⟩:=iL hv;refine⟨kn,_,_,.str y,rfl,rfl,bK.of (aO D2 hk2 nk o3),ha,eY,fun p hp=>?_⟩;have s4:=aB hp (.tup [.str "name",.str y]);refine k (.nam p y) _ (D3.same s4) (o2.trans (o3.trans (.of s4))) aC trivial (fun z hz=>?_) (by simp only[Tm.size];lia);rw[cg.mp hz];exact bq hy
  |false =>
   refine aV (by simp) ?_;refine⟨_,rfl,d,l,4,rfl,D2,by decide,by decide,fun x H3 x0 x1 D3 o3=>?_⟩;refine⟨_,rfl,d,l,1000,rfl,D3,by decide,by decide,fun y H4 y0 y1 D4 o4=>⟨eY,fun l0 hl0=>?_⟩⟩;have n0:=(eZ D4 hl0).2;obtain⟨H5,e0,s5,h5⟩:=pQ hl0 (.lst [.int x,.int y]);rw[e0];clear e0;refine⟨_,rfl,d,l,2,rfl,D4.same s5,by decide,by decide,fun z H6 z0 z1 D6 o6=>?_⟩;obtain⟨w,hw,w0,w1⟩:∃w:Int,nO [V.int x,V.int y] z=some (.int w)/\0<=w/\w<1000:=by
    have:z=0\/z=1:=by lia
    rcases this with rfl|rfl
    ·exact⟨x,rfl,x0,by lia⟩
    ·exact⟨y,rfl,y0,y1⟩
   refine⟨l0,_,_,.int w,rfl,rfl,bK.of (aO (D4.same s5) h5 n0 o6),hw,eY,fun p hp=>?_⟩;have s7:=aB hp (.tup [.str "num",.int w]);exact k (.num p w) _ (D6.same s7) (o2.trans (o3.trans (o4.trans ((eW.of s5).trans (o6.trans (.of s7)))))) aC ⟨w0,w1⟩ (fun z hz=>absurd hz dv) (by simp only[Tm.size];lia)
theorem bB8(C_Draw:Cl P w K mg base 1 spDraw "_law_draw")(C_Thw46:Cl P w K mg base 3 spThrE "_law_throw")(C_Trm46:Cl P w K mg base 4 (qF 3) "_law_term")(m_len:mg "len"=none):fY P w K mg base "_law_set_row" "_law_set_row" bG0 5 ["_law_deal_here","_law_scene","_law_known"] spSetE:=by
 refine iG ["_law_deal_here","_law_scene","_law_known","_law_x"] fun H Q nd hr h=>?_
 obtain⟨d,l,sc,nl,kn,kd,wd,xs,ks,rfl,W0,hk,nk,lk,k⟩:=h;have hu:=hG hr;refine⟨_,(eG 3 nd (bQ fE (vY hu (pv 1) aG) (bS C_Draw hr (aA (pv 0) (aQ (jU bG m_len cu (aQ (vY hu (pv 1) aG)))))))
  (aF (bA (fC (PW.pt (jM (dZ aM7 (vY hu (pv 1) aG) (vY hu (pv 1) aG)) (jO (dZ jQ (bS C_Draw hr (aA (pv 0) (aQ aD))) aD))))) (aF (pdp hu (pv 1) aG (aS jE (vY hu (pv 1) aG) (vY hu (pv 1) aG)))
  (aE (aM (bE (aA (bS C_Thw46 hr (aA (pv 0) (aA (pv 1) (aQ (pv 3))))) (aA aD (aQ (aS eI (pv 2) (bZ (aQ (pv 3))))))))))) aP)
  (aE (aM (bE (aA (bE (aA aG (aA (pv 3) (aQ (bS C_Trm46 hr (aA (pv 0) (aA (pv 2) (aQ aD)))))))) (aA aD (aQ (aS eI (pv 2) (bZ (aQ (pv 3)))))))))))),?_⟩
 have x1:=W0.x1;have x2:=W0.x2;refine⟨_,rfl,sc,_,rfl,W0.gNames,?_⟩;refine⟨_,rfl,_,rfl,sc,_,rfl,W0.gNames,nl,_,rfl,.inl (bK.of W0.nms),d,l,_,rfl,W0.deal,by rw[ac];lia,by rw[ac];lia,fun y H1 y0 y1 D1 o1=>?_⟩;obtain⟨v,hv,ha⟩:=aY2 y0 y1;obtain⟨x,rfl,hx⟩:=iL hv;have W1:=W0.out D1 o1;have hk1:=aO W0.deal hk nk o1;refine⟨nl,_,_,.str x,rfl,rfl,bK.of W1.nms,ha,?_⟩;obtain⟨rm,gr⟩:=W1.gRoom;obtain⟨by_,gb⟩:=W1.gBy;refine⟨fun b G=>We G d l sc nl kd wd xs/\eW d l H G,?_,?_⟩
 ·refine⟨_,rfl,sc,_,rfl,gr,_,rfl,sc,_,rfl,gb,_,_,rfl,rfl,_,rfl,?_⟩;refine lK (fun _=>⟨_,rfl,d,l,4,rfl,D1,by decide,by decide,fun x H2 x0 x1 D2 o2=>⟨_,_,rfl,rfl,_,rfl,W1.out D2 o2,o1.trans o2⟩⟩) (fun _=>⟨W1,o1⟩)
 rintro b G ⟨W2,o2⟩;have hk2:=aO W0.deal hk nk o2;have oo2:=eX.out (sc:=sc) o2
 cases b with
 |true =>
  refine bH rfl ?_;obtain⟨rm2,gr2⟩:=W2.gRoom;obtain⟨by2,gb2⟩:=W2.gBy;refine⟨_,rfl,sc,_,rfl,gr2,_,rfl,sc,_,rfl,gb2,_,_,rfl,rfl,?_⟩;obtain⟨H3,p3,W3,o3⟩:=W2.pRoom (rm2-by2);have hk3:=W2.keep hk2 nk o3;refine⟨_,rfl,sc,_,rfl,p3,?_⟩;refine⟨_,rfl,_,rfl,_,rfl,d,l,sc,nl,kd,wd,xs,x,rfl,W3,fun p w us H4 D4 o4 h4 ok4 okv=>?_⟩;have W4:=W3.out D4 o4;have hk4:=aO W3.deal hk3 nk o4;refine⟨_,rfl,_,rfl,pA,fun l5 hl5=>?_⟩;obtain⟨H5,e0,s5,h5⟩:=pQ hl5 (.lst [.str x]);rw[e0];clear e0;refine⟨kn,l5,_,_,rfl,rfl,s5 _ _ hk4,h5,cj (aL (by rw[ac];show _+1<=_;lia)),fun l6 hl6=>?_⟩;have s6:=s5.trans (aB hl6 (.lst (ks.map V.str++[.str x])));have h6:aN H5 l6 (.lst (ks.map V.str++[.str x])) l6=some (.lst ((ks++[x]).map V.str)):=by rw[aC,au];rfl
  have oA:=oo2.trans (o3.trans (eX.out (sc:=sc) o4));have f6:H l6=none:=oA.fresh W4.all (s5.free hl6);generalize aN H5 l6 (.lst (ks.map V.str++[.str x]))=H6 at s6 h6 ⊢;refine⟨by show 3<=sizeLine;decide,fun q hq=>?_⟩;have s7:=s6.trans (aB hq (.tup [.ref p,.int 0,.ref l6]));exact k q l6 (.thr p w x us false) x _ (W4.same s7) (oA.trans (.of s7)) aC ⟨s7 _ _ h4,ok4.ts (.of s7)⟩ (.inl ⟨p,w,us,rfl,okv⟩) (bq hx) f6 ((aB hq _) _ _ h6)
 |false =>
  refine aV (by simp) ?_;refine⟨_,rfl,_,rfl,_,rfl,d,l,kn,ks,7,rfl,W2.deal,hk2,nk,by lia,by decide,by decide,fun t H4 D4 o4 h4 ok4 nm4 sz4=>⟨by show 3<=sizeLine;decide,fun p hp=>?_⟩⟩;have s5:=aB hp (.tup [.str "let",.str x,.ref t.p]);have h5:aN H4 p (.tup [.str "let",.str x,.ref t.p]) p=some (.tup [.str "let",.str x,.ref t.p]):=aC;have W4:=W2.out D4 o4;have hk4:=aO W2.deal hk2 nk o4;generalize aN H4 p (.tup [.str "let",.str x,.ref t.p])=H5 at s5 h5 ⊢;refine⟨_,rfl,_,rfl,pA,fun l6 hl6=>?_⟩;have s6:=s5.trans (aB hl6 (.lst [.str x]));have h6:aN H5 l6 (.lst [.str x]) l6=some (.lst [.str x]):=aC;have h56:=aB hl6 (.lst [.str x]) _ _ h5;generalize aN H5 l6 (.lst [.str x])=H6 at s6 h6 h56 ⊢;refine⟨kn,l6,_,_,rfl,rfl,s6 _ _ hk4,h6,cj (aL (by rw[ac];show _+1<=_;lia)),fun l7 hl7=>?_⟩;have s7:=s6.trans (aB hl7 (.lst (ks.map V.str++[.str x])));have h7:aN H6 l7 (.lst (ks.map V.str++[.str x])) l7=some (.lst ((ks++[x]).map V.str)):=by rw[aC,au];rfl
  have h57:=aB hl7 (.lst (ks.map V.str++[.str x])) _ _ h56;have oA:=oo2.trans (eX.out (sc:=sc) o4);have f7:H l7=none:=oA.fresh W4.all (s6.free hl7);generalize aN H6 l7 (.lst (ks.map V.str++[.str x]))=H7 at s7 h7 h57 ⊢;refine⟨by show 3<=sizeLine;decide,fun q hq=>?_⟩;have s8:=s7.trans (aB hq (.tup [.ref p,.int 0,.ref l7]));exact k q l7 (.lt p x t) x _ (W4.same s8) (oA.trans (.of s8)) aC ⟨aB hq _ _ _ h57,h4.ts (.of s8),ok4,by lia⟩ (.inr ⟨p,t,rfl,nm4,by lia⟩) (bq hx) f7 ((aB hq _) _ _ h7)
theorem aT7(m:Nat)(C_Trm46:Cl P w K mg base 4 (qF 3) "_law_term")(C_Rws46:Cl P w K mg base (7+3*m) (nQ m) "_law_rows")(C_Draw:Cl P w K mg base 1 spDraw "_law_draw")(C_SetR:Cl P w K mg base 5 spSetE "_law_set_row")(m_range:mg "range"=none)(m_len:mg "len"=none)(m_int:mg "int"=none)(m_tuple:mg "tuple"=none):fY P w K mg base "_law_when" "_law_when" aQ8 (7+3*m+1) ["_law_deal_here","_law_scene","_law_known","_law_deep"] (zR (m+1)):=by
 refine iG ["_law_deal_here","_law_scene","_law_known","_law_deep","_law_term_here","_law_one","_law_tells","_law_first","_law_other","_law_second","_law_row_here","_law_no","_law_k"] fun H Q nd hr h=>?_
 obtain⟨d,l,sc,nl,kn,kd,wd,xs,ks,deep,rfl,W0,hk,nk,lk,hm,hd,k⟩:=h;have hu:=hG hr;refine⟨_,(eG 4 nd (bS C_Trm46 hr (aA (pv 0) (aA (pv 2) (aQ aD))))
  (aF (lZ (bS C_Rws46 hr (aA (pv 0) (aA (pv 1) (aA (pv 2) (aA (aS dE (pv 3) aD) (aQ (aS dE aD (sH lE m_int md (aQ (dR (nM bN (pv 3) aD) (dO (nM bN (bS C_Draw hr (aA (pv 0) (aQ aD))) aD)))))))))))) (iO rfl (aY (fG 5 nd) (aY (fG 6 nd) (aY (fG 7 nd) fB)))))
  (eG 8 nd (bZ cX)
  (eG 9 nd (pv 2)
  (aF (jG (bA (dZ bN (bS C_Draw hr (aA (pv 0) (aQ aD))) aD) (aF (lZ (bS C_SetR hr (aA (pv 0) (aA (pv 1) (aQ (pv 2))))) (iO rfl (aY (fG 10 nd) (aY (fG 11 nd) (aY (fG 9 nd) fB)))))
  (aE (cL (fA bo de df cQ (pv 8) (aQ (pv 10)))))) aP))
  (aF (pfr (gU (by rfl) m_range (aQ (pv 6))) (fG 12 nd)
  (aE (cL (fA bo de df cQ (pv 8) (aQ (bE (aA aG (aQ (bS C_Trm46 hr (aA (pv 0) (aA (pv 9) (aQ aD))))))))))))
  (aF (pdp hu (pv 1) aG (aS jE (vY hu (pv 1) aG) (jU bG m_len cu (aQ (pv 8)))))
  (aE (aM (bE (aA (bE (aA aG (aA (pv 4) (aA (pv 5) (aQ (sH cY m_tuple dq (aQ (pv 8)))))))) (aA (pv 6) (aQ (dF ["_law_x","_law_second"] [none,some 9] (cU (pv 7)) (fun _ _ _ _=>(fG 0)) (fun _ _ _ _=>(kN (dZ (inK K) (pv 0) (pv 1)))) (fun _ _ _ _=>(pv 0)))))))))))))))),?_⟩
 have lk1:=mG (m+1);refine⟨_,rfl,_,rfl,d,l,kn,ks,5,rfl,W0.deal,hk,nk,by lia,by decide,by decide,fun t H1 D1 o1 h1 ok1 nm1 sz1=>?_⟩;have W1:=W0.out D1 o1;have hk1:=aO W0.deal hk nk o1;refine⟨_,rfl,_,rfl,_,rfl,_,rfl,_,_,rfl,rfl,aN0 rfl rfl D1 fun e H2 D2 o2 he=> .inr ⟨_,rfl,_,_,rfl,rfl,?_⟩⟩;have W2:=W1.out D2 o2;have hk2:=aO D1 hk1 nk o2;have oA:=(eX.out (sc:=sc) o1).trans (eX.out (sc:=sc) o2);obtain⟨n,hn,n1,n2,n3⟩:∃n:Nat,(1:Int)+(if e=true then 1 else 0)=(n:Int)/\1<=n/\n<=2/\(m=0->n<=1):=by
  cases e with
  |true=>exact⟨2,rfl,by decide,by decide,fun z=>by have:=he rfl;lia⟩
  |false=>exact⟨1,rfl,by decide,by decide,fun _=>ah _⟩
 obtain⟨c1,c2,c3⟩:=aX6 hm n2 n3;refine⟨d,l,sc,nl,kn,kd,wd,xs,ks,deep+1,n,by show [_,_,_,_,V.int (1+if e=true then 1 else 0)]=_;rw[hn],W2,hk2,nk,by lia,by lia,by lia,by lia,fun p3 pr3 kn3 rs3 k3 t3 H3 W3 o3 h3 hp3 hr3 b3 q3 hk3=>?_⟩;refine⟨p3,_,rfl,aR.of h3,rfl,_,_,rfl,_,_,rfl,_,_,rfl,rfl,?_⟩;have hkk3:=W2.keep hk2 nk o3;have n3l:kn3≠l:=by
  rcases q3 with z|z
  ·rw[z];exact nk
  ·exact(W2.new z).2.1
 have h13:=(h1.ts (TS.out D1 o2)).ts (W2.ts o3);have oB:=oA.trans o3;clear h1 hk1 hk2 D1 D2 o1 o2 o3 W1 h3;refine⟨bt _,fun lo hlo=>?_⟩;obtain⟨_,nlo,_,nln⟩:=W3.new hlo;have l0:=oB.fresh W3.all hlo;have n3o:kn3≠lo:=aI hk3 hlo;have nko:kn≠lo:=aI hkk3 hlo;obtain⟨H4,e0,s4,g4⟩:=pQ hlo (.lst []);rw[e0];clear e0;have W4:=W3.same s4;have oC:=oB.trans (eX.of s4);have hk4:=s4 _ _ hk3;have hkk4:=s4 _ _ hkk3;have h14:=h13.ts (.of s4);have hp4:=s4 _ _ hp3;have hr4:=aZ.ts (.of s4) _ hr3;clear h13 hp3 hr3 hk3 hkk3 s4 W3 oA oB;refine⟨_,rfl,?_⟩;refine⟨fun σ' G=>∃(kn2:Addr) (k2:List Str) (bs:List Rw) (v10 v11:Option V),σ'=[some (.ref d),some (.ref sc),some (.ref kn),some (.int deep),some (.ref t.p),some (.ref pr3),some (.int t3),some (.ref kn3),some (.ref lo),some (.ref kn2),v10,v11,none]/\We G d l sc nl kd wd xs/\eX [d,l,sc] H G/\TS H4 G/\G kn3=some (.lst (k3.map V.str))/\G lo=some (.lst (bL bs))/\aZ G bs/\sE ks xs bs k2 0 0 1/\kn2≠l/\kn2≠lo/\G kn2=some (.lst (k2.map V.str)),?_,?_⟩
 ·refine⟨_,rfl,d,l,2,rfl,W4.deal,by decide,by decide,fun y H5 _ _ D5 o5=>⟨rfl,_,rfl,?_⟩⟩;have W5:=W4.out D5 o5;have g5:=aO W4.deal g4 nlo o5;have hk5:=aO W4.deal hk4 n3l o5;have hkk5:=aO W4.deal hkk4 nk o5;have oD:=oC.trans (eX.out (sc:=sc) o5);have t5:=TS.out W4.deal o5;refine lK (fun _=>?_) (fun _=>⟨kn,ks,[],_,_,rfl,W5,oD,t5,hk5,g5,trivial,sE.nil.mono (by decide),nk,nko,hkk5⟩);refine⟨_,rfl,_,rfl,_,rfl,d,l,sc,nl,kn,kd,wd,xs,ks,rfl,W5,hkk5,nk,by lia,fun p6 kn6 r6 x6 H6 W6 o6 h6 hr6 s6 m6 f6 hk6=>?_⟩;refine⟨p6,_,rfl,aR.of h6,rfl,_,_,rfl,_,_,rfl,_,_,rfl,rfl,?_⟩;have g6:=W5.keep g5 nlo o6;have hk36:=W5.keep hk5 n3l o6;have n6l:=(W5.new f6).2.1;have n6o:kn6≠lo:=(aI g5 f6).symm;refine⟨_,rfl,.inl ⟨rfl,_,bK.of g6⟩,_,rfl,lo,_,_,rfl,rfl,g6,by show 0<sizeLine;decide,?_⟩;have tN:=TS.lst (ys:=bL [r6]) g6;exact⟨kn6,_,[r6],_,_,rfl,W6.lst (zs:=bL [r6]) g6 nlo nln,(oD.trans o6).new l0,(t5.trans (W5.ts o6)).trans tN,(aH n3o).trans hk36,aC,⟨eF.ts tN r6 hr6,trivial⟩,sE.nil.snoc (s6.row m6),n6l,n6o,(aH n6o).trans hk6⟩
 rintro σ' G ⟨kn2,k2,bs,v10,v11,rfl,W5,o5,t5,hk5,g5,hb5,b5,n2l,n2o,hk25⟩;have t30:=b3.t0;have t31:=b3.t1;have sl5:=fO.len bs b5.sc;have ct5:=b5.ct;simp only[lI] at ct5;refine⟨_,rfl,t3,rfl,by lia,by lia,nS (n:=t3.toNat) (fun i σ G=>∃(bs:List Rw) (v12:Option V),σ=[some (.ref d),some (.ref sc),some (.ref kn),some (.int deep),some (.ref t.p),some (.ref pr3),some (.int t3),some (.ref kn3),some (.ref lo),some (.ref kn2),v10,v11,v12]/\We G d l sc nl kd wd xs/\eX [d,l,sc] H G/\TS H4 G/\G kn3=some (.lst (k3.map V.str))/\G lo=some (.lst (bL bs))/\aZ G bs/\sE ks xs bs k2 (i:Int) 0 (i+1)/\G kn2=some (.lst (k2.map V.str)))
  ⟨bs,_,rfl,W5,o5,t5,hk5,g5,hb5,b5,hk25⟩ ?_ ?_⟩
 ·rintro i σ G7 hi ⟨bs,v12,rfl,W7,o7,t7,hk7,g7,hb7,b7,hk27⟩;have ct7:=b7.ct;simp only[lI] at ct7;have ln:=gE bs;refine⟨_,rfl,.inl ⟨rfl,_,bK.of g7⟩,_,rfl,_,rfl,d,l,kn2,k2,5,rfl,W7.deal,hk27,n2l,by lia,by decide,by decide,fun t8 H8 D8 o8 h8 ok8 nm8 sz8=>⟨eY,fun p hp=>?_⟩⟩;have W8:=W7.out D8 o8;have g8:=aO W7.deal g7 nlo o8;have hk8:=aO W7.deal hk7 n3l o8;have hk28:=aO W7.deal hk27 n2l o8;obtain⟨H9,e0,s9,g9⟩:=pQ hp (.tup [.str "tell",.ref t8.p]);rw[e0];clear e0;refine⟨lo,_,_,rfl,rfl,s9 _ _ g8,by rw[bB];exact aL (by lia),?_⟩;have tN:=TS.lst (ys:=bL bs++[.ref p]) (s9 _ _ g8);have tA:=((TS.out W7.deal o8).trans (.of s9)).trans tN;refine⟨bs++[.tell p t8],_,rfl,(W8.same s9).lst (zs:=bL bs++[.ref p]) (s9 _ _ g8) nlo nln,((o7.trans (eX.out (sc:=sc) o8)).trans (eX.of s9)).new l0,t7.trans tA,(aH n3o).trans (s9 _ _ hk8),by rw[aC,dS];rfl,aZ.app (qs:=[.tell p t8]) (aZ.ts tA _ hb7) ⟨⟨tN _ _ g9,h8.ts ((TS.of s9).trans tN),ok8,by lia⟩,trivial⟩,?_,(aH n2o).trans (s9 _ _ hk28)⟩
  exact b7.snoc (aM1 nm8 (by lia))
 rintro σ G7 ⟨bs,v12,rfl,W7,o7,t7,hk7,g7,hb7,b7,hk27⟩;have ct7:=b7.ct;simp only[lI] at ct7;have ln:=gE bs;obtain⟨lf,gl⟩:=W7.gLeft;refine⟨_,rfl,sc,_,rfl,gl,_,rfl,lo,_,rfl,.inl (bK.of g7),_,_,rfl,rfl,?_⟩;obtain⟨H8,p8,W8,o8⟩:=W7.pLeft (lf-((bL bs).length:Int));refine⟨_,rfl,sc,_,rfl,p8,?_⟩;have g8:=W7.keep g7 nlo o8;have hk8:=W7.keep hk7 n3l o8;have hk28:=W7.keep hk27 n2l o8;have t8:=t7.trans (W7.ts o8);refine⟨_,rfl,_,rfl,_,rfl,lo,_,rfl,.inl ⟨bK.of g8,fun pb hpb=>⟨by show 4<=sizeLine;decide,fun q hq=>?_⟩⟩⟩;have s9:=(aB hpb (.tup (bL bs))).trans (aB hq (.tup [.str "when",.ref t.p,.ref pr3,.ref pb]));have gb9:=aB hq (.tup [.str "when",.ref t.p,.ref pr3,.ref pb]) _ _ (show aN H8 pb (.tup (bL bs)) pb=_ from aC);have gq9:aN (aN H8 pb (.tup (bL bs))) q (.tup [.str "when",.ref t.p,.ref pr3,.ref pb]) q=some (.tup [.str "when",.ref t.p,.ref pr3,.ref pb]):=aC;generalize aN (aN H8 pb (.tup (bL bs))) q (.tup [.str "when",.ref t.p,.ref pr3,.ref pb])=H9 at s9 gb9 gq9 ⊢
 have l3:=fO.len rs3 b3.sc;have c3':=b3.ct;refine⟨_,rfl,_,rfl,kn3,rfl,⟨_,bK.of (s9 _ _ hk8)⟩,cZ (K:=K) (a:=kn3) (xs:=k3.map V.str) (fun i ys σ G=>G=H9/\(∃v,σ=[v,some (.ref kn2)])/\ys=((k3.take i).filter fun x=>decide (x∈k2)).map V.str)
  (aL (by rw[ac];lia)) ⟨rfl,⟨_,rfl⟩,rfl⟩ (fun i ys σ G ⟨_,_,e⟩=>by
   rw[e,ac];exact cp (jv _ _) (by rw[ci];lia)) (by rintro i ys σ G _ ⟨e,_⟩;rw[e];exact bK.of (s9 _ _ hk8)) ?_ ?_⟩
 ·rintro i v ys σ G hv ⟨rfl,⟨v',rfl⟩,rfl⟩;obtain⟨x,rfl,hx⟩:=iL hv;refine⟨_,rfl,_,rfl,kn2,_,rfl,.inl (bK.of (s9 _ _ hk28)),rfl,cJ _,_,rfl,?_⟩;have ei:oY (V.str x) (k2.map V.str)=decide (x∈k2):=dQ _ _;rw[aX hx,fk,au]
  by_cases c:x∈k2
  ·refine bH (ei.trans (af c)) ⟨_,rfl,rfl,⟨_,rfl⟩,?_⟩;rw[di (p:=fun x=>decide (x∈k2)) (af c)];rfl
  ·refine aV (fun z=>c (ag (ei.symm.trans z))) ⟨rfl,⟨_,rfl⟩,?_⟩;rw[ef (p:=fun x=>decide (x∈k2)) (by simpa using c)];simp
 rintro ys σ G ⟨rfl,_,rfl⟩ l10 hl10;rw[ac,cm];refine⟨by show 3<=sizeLine;decide,fun p hp=>?_⟩;have s10:=aB hl10 (.lst ((k3.filter fun x=>decide (x∈k2)).map V.str));have s11:=aB hp (.tup [.ref q,.int t3,.ref l10]);have sA:=s9.trans (s10.trans s11);have tA:=(t8.trans (.of sA))
 have oF:=(o7.trans o8).trans (eX.of sA);refine k p l10 (.when q pr3 pb t rs3 bs) _ t3 _ (W8.same sA) oF aC ⟨(s10.trans s11) _ _ gq9,h14.ts tA,⟨ok1,by lia⟩,tA _ _ hp4,(s10.trans s11) _ _ gb9,aZ.ts tA _ hr4,aZ.ts ((W7.ts o8).trans (.of sA)) _ hb7⟩ ?_ ?_ (s11 _ _ aC)
 ·exact sE.when b3 (by rw[mz t30] at b7;exact b7) (by lia) hm n2 n3 nm1 (by lia)
 ·exact(o7.trans o8).fresh W8.all (s9.free hl10)
theorem aQ7(m:Nat)(C_Draw:Cl P w K mg base 1 spDraw "_law_draw")(C_Whn46:Cl P w K mg base (5+3*m) (zR m) "_law_when")(C_Rws46:Cl P w K mg base (4+3*m) (bF8 m) "_law_rows")(C_SetR:Cl P w K mg base 5 spSetE "_law_set_row")(C_Trm46:Cl P w K mg base 4 (qF 3) "_law_term")(m_int:mg "int"=none):fY P w K mg base "_law_row" "_law_row" aU5 (5+3*m+1) ["_law_deal_here","_law_scene","_law_known","_law_deep"] (uK m):=by
 refine iG ["_law_deal_here","_law_scene","_law_known","_law_deep","_law_form","_law_k","_law_rows_here","_law_tells"] fun H Q nd hr h=>?_
 obtain⟨d,l,sc,nl,kn,kd,wd,xs,ks,deep,rfl,W0,hk,nk,lk,hm,hd,k⟩:=h;have hu:=hG hr;refine⟨_,(aF (pdp hu (pv 1) aG (aS jE (vY hu (pv 1) aG) aD))
  (eG 4 nd (bS C_Draw hr (aA (pv 0) (aQ aD)))
  (aF (bA (fC (PW.pt (jM (dZ bN (pv 4) aD) (jM (dZ nK (pv 3) aD) (jO (dZ jQ (vY hu (pv 1) aG) (bQ fE (bZ (aA aD (aQ aD))) (sH lE m_int md (aQ (nM jQ (pv 3) aD)))))))))) (aE (aM (bS C_Whn46 hr (aA (pv 0) (aA (pv 1) (aA (pv 2) (aQ (pv 3)))))))) aP)
  (aF (bA (fC (PW.pt (jM (dZ bN (pv 4) aD) (jM (dZ bN (pv 3) aD) (jO (dZ jQ (vY hu (pv 1) aG) aD)))))) (eG 5 nd (aS dE aD (bS C_Draw hr (aA (pv 0) (aQ aD))))
  (aF (pdp hu (pv 1) aG (pv 5))
  (aF (lZ (bS C_Rws46 hr (aA (pv 0) (aA (pv 1) (aA (pv 2) (aA aD (aQ (aS dE aD (bS C_Draw hr (aA (pv 0) (aQ aD)))))))))) (iO rfl (aY (fG 6 nd) (aY (fG 7 nd) (aY (fG 2 nd) fB)))))
  (aF (pdp hu (pv 1) aG aD)
  (aE (aM (bE (aA (bE (aA aG (aA (pv 5) (aQ (pv 6))))) (aA (aS iD (pv 5) (pv 7)) (aQ (pv 2))))))))))) aP)
  (aF (bA (dZ nK (pv 4) aD) (aE (aM (bS C_SetR hr (aA (pv 0) (aA (pv 1) (aQ (pv 2))))))) aP)
  (aE (aM (bE (aA (bE (aA aG (aQ (bS C_Trm46 hr (aA (pv 0) (aA (pv 2) (aQ aD))))))) (aA aD (aQ (pv 2)))))))))))),?_⟩
 have rp:=mG m;obtain⟨lf,gl⟩:=W0.gLeft;refine⟨_,rfl,sc,_,rfl,gl,_,_,rfl,rfl,?_⟩;obtain⟨H1,p1,W1,o1⟩:=W0.pLeft (lf-1);refine⟨_,rfl,sc,_,rfl,p1,?_⟩;have hk1:=W0.keep hk nk o1;refine⟨_,rfl,d,l,10,rfl,W1.deal,by decide,by decide,fun fo H2 f0 f1 D2 o2=>?_⟩;have W2:=W1.out D2 o2;have hk2:=aO W1.deal hk1 nk o2;have oA:=o1.trans (eX.out (sc:=sc) o2);clear p1 gl W0 W1 D2 hk hk1 o2;refine⟨fun b G=>We G d l sc nl kd wd xs/\eX [d,l,sc] H2 G/\(b=true->deep<2),?_,?_⟩
 ·refine⟨_,rfl,rfl,_,rfl,?_⟩;refine lK (fun _=>⟨_,rfl,_,_,rfl,rfl,_,rfl,?_⟩) (fun _=>⟨W2,eX.refl _,fun z=>nomatch z⟩)
  by_cases c:deep<2
  ·obtain⟨lf,gl⟩:=W2.gLeft;refine bH (af c) ⟨_,rfl,sc,_,rfl,gl,eY,fun l0 hl0=>⟨_,rfl,_,_,rfl,rfl,.inr ⟨_,rfl,?_⟩⟩⟩;have h0:aN H2 l0 (.lst [.int 3,.int 6]) l0=some (.lst [.int 3,.int 6]):=aC;have s0:=aB hl0 (.lst [.int 3,.int 6]);generalize aN H2 l0 (.lst [.int 3,.int 6])=H3 at s0 h0 ⊢;obtain⟨v,hv⟩:∃v:Int,nO [V.int 3,V.int 6] (if decide (deep > 0)=true then 1 else 0)=some (.int v):=by
    split
    ·exact⟨6,rfl⟩
    ·exact⟨3,rfl⟩
   exact⟨l0,_,_,.int v,rfl,rfl,bK.of h0,hv,_,_,rfl,rfl,_,rfl,W2.same s0,eX.of s0,fun _=>c⟩
  ·exact aV (by simpa using c) ⟨W2,eX.refl _,fun z=>nomatch z⟩
 rintro b H3 ⟨W3,o3,hb⟩;have hk3:=W2.keep hk2 nk o3;have oB:=oA.trans o3
 cases b with
 |true =>
  refine bH rfl ?_;have d2:=hb rfl
  cases m with
  |zero=>exact absurd d2 (by lia)
  |succ m =>
  exact⟨_,rfl,_,rfl,_,rfl,_,rfl,d,l,sc,nl,kn,kd,wd,xs,ks,deep,rfl,W3,hk3,nk,lk,by lia,by lia,fun p kn' r k2 tells H' W' o' h' hr' b' f' hk'=>k p kn' r k2 tells H' W' (oB.trans o') h' hr' b' (.inr (oB.fresh W3.all f')) hk'⟩
 |false =>
 refine aV (by simp) ?_;clear hb;refine⟨fun b G=>We G d l sc nl kd wd xs/\G=H3/\(b=true->deep=0),?_,?_⟩
 ·refine⟨_,rfl,rfl,_,rfl,?_⟩;refine lK (fun _=>⟨_,rfl,rfl,_,rfl,?_⟩) (fun _=>⟨W3,rfl,fun z=>nomatch z⟩)
  by_cases c:deep=0
  ·obtain⟨lf,gl⟩:=W3.gLeft;exact bH (by rw[c];exact af rfl) ⟨_,rfl,sc,_,rfl,gl,_,_,rfl,rfl,_,rfl,W3,rfl,fun _=>c⟩
  ·exact aV (fun z=>c (by have z:=ag z;injection z)) ⟨W3,rfl,fun z=>nomatch z⟩
 rintro b G ⟨_,rfl,hb⟩
 cases b with
 |true =>
  refine bH rfl ?_;have d0:=hb rfl;obtain rfl:m=2:=by lia
  refine⟨_,rfl,d,l,3,rfl,W3.deal,by decide,by decide,fun y H4 y0 y1 D4 o4=>⟨_,_,rfl,rfl,?_⟩⟩;have W4:=W3.out D4 o4;have hk4:=aO W3.deal hk3 nk o4;obtain⟨H5,p5,W5,o5⟩:=W4.pBy (1+y);refine⟨_,rfl,_,rfl,sc,_,rfl,p5,?_⟩;have hk5:=W4.keep hk4 nk o5;refine⟨_,rfl,_,rfl,_,rfl,_,rfl,d,l,2,rfl,W5.deal,by decide,by decide,fun z H6 z0 z1 D6 o6=>⟨_,_,rfl,rfl,?_⟩⟩;have W6:=W5.out D6 o6;have hk6:=aO W5.deal hk5 nk o6;have oC:=oB.trans ((eX.out (sc:=sc) o4).trans (o5.trans (eX.out (sc:=sc) o6)));obtain⟨n,hn,n1,n2⟩:∃n:Nat,1+z=(n:Int)/\1<=n/\n<=2:=⟨(1+z).toNat,by lia,by lia,by lia⟩
  simp only[lI] at lk;refine⟨d,l,sc,nl,kn,kd,wd,xs,ks,1,n,by show [_,_,_,_,V.int (1+z)]=_;rw[hn],W6,hk6,nk,by simp only[lI];lia,by decide,by lia,by decide,fun p7 pr7 kn7 rs7 k7 t7 H7 W7 o7 h7 hp7 hr7 b7 q7 hk7=>?_⟩;refine⟨p7,_,rfl,aR.of h7,rfl,_,_,rfl,_,_,rfl,_,_,rfl,rfl,?_⟩;obtain⟨H8,p8,W8,o8⟩:=W7.pBy 1;refine⟨_,rfl,sc,_,rfl,p8,?_⟩;have n7l:kn7≠l:=by
   rcases q7 with z|z
   ·rw[z];exact nk
   ·exact(W6.new z).2.1
  have hk8:=W7.keep hk7 n7l o8;refine⟨_,rfl,_,rfl,by show 3<=sizeLine;decide,fun q hq=>⟨_,rfl,_,rfl,_,_,rfl,rfl,?_,_,rfl,by show 3<=sizeLine;decide,fun p hp=>?_⟩⟩
  ·exact .inl ⟨by lia,by lia⟩
  have s9:=aB hq (.tup [.str "times",.int (1+y),.ref pr7]);have s10:=aB hp (.tup [.ref q,.int ((1+y)*t7),.ref kn7]);have sA:=s9.trans s10;have tA:=(W7.ts o8).trans (.of sA);refine k p kn7 (.times q pr7 (1+y) rs7) k7 _ _ (W8.same sA) ((oC.trans (o7.trans o8)).trans (eX.of sA)) aC ⟨s10 _ _ aC,tA _ _ hp7,aZ.ts tA _ hr7⟩ (sE.times b7 n2 (by lia) (by lia)) ?_ (sA _ _ hk8);rcases q7 with z|z
  ·exact .inl z
  ·exact .inr (oC.fresh W6.all z)
 |false =>
 refine aV (by simp) ?_;refine⟨_,rfl,_,_,rfl,rfl,_,rfl,?_⟩;refine lK (fun _=>?_) (fun _=>?_)
 ·exact⟨_,rfl,_,rfl,_,rfl,d,l,sc,nl,kn,kd,wd,xs,ks,rfl,W3,hk3,nk,by lia,fun p kn' r x H' W' o' h' hr' s' m' f' hk'=>k p kn' r _ 0 H' W' (oB.trans o') h' hr' (s'.row m') (.inr (oB.fresh W3.all f')) hk'⟩
 ·refine⟨_,rfl,_,rfl,d,l,kn,ks,7,rfl,W3.deal,hk3,nk,by lia,by decide,by decide,fun t H4 D4 o4 h4 ok4 nm4 sz4=>⟨eY,fun q hq=>⟨_,rfl,by show 3<=sizeLine;decide,fun p hp=>?_⟩⟩⟩;have s9:=aB hq (.tup [.str "tell",.ref t.p]);have s10:=aB hp (.tup [.ref q,.int 1,.ref kn]);have sA:=s9.trans s10;exact k p kn (.tell q t) ks 1 _ ((W3.out D4 o4).same sA) ((oB.trans (eX.out (sc:=sc) o4)).trans (eX.of sA)) aC ⟨s10 _ _ aC,h4.ts (.of sA),ok4,by lia⟩ (aM1 nm4 (by lia)) (.inl rfl) (sA _ _ (aO W3.deal hk3 nk o4))
theorem aP5(m:Nat)(C_Row46:Cl P w K mg base (6+3*m) (aV9 (m+1)) "_law_row")(m_range:mg "range"=none)(m_tuple:mg "tuple"=none):fY P w K mg base "_law_rows" "_law_rows" aO0 (6+3*m+1) ["_law_deal_here","_law_scene","_law_known","_law_deep","_law_many"] (nQ m):=by
 refine iG ["_law_deal_here","_law_scene","_law_known","_law_deep","_law_many","_law_found","_law_tells","_law_k","_law_row_here","_law_more"] fun H Q nd hr h=>?_
 obtain⟨d,l,sc,nl,kn,kd,wd,xs,ks,deep,n,rfl,W0,hk,nk,lk,hm,hn,hd,k⟩:=h;have hu:=hG hr;refine⟨_,(eG 5 nd (bZ cX)
  (eG 6 nd aD
  (aF (pfr (gU (by rfl) m_range (aQ (pv 4))) (fG 7 nd)
  (aE (bA (dZ jQ (vY hu (pv 1) aG) aD) (aF (lZ (bS C_Row46 hr (aA (pv 0) (aA (pv 1) (aA (pv 2) (aQ (pv 3)))))) (iO rfl (aY (fG 8 nd) (aY (fG 9 nd) (aY (fG 2 nd) fB)))))
  (aF (cL (fA bo de df cQ (pv 5) (aQ (pv 8))))
  (aE (psz 6 nd (aS dE (pv 6) (pv 9)))))) aP)))
  (aE (aM (bE (aA (sH cY m_tuple dq (aQ (pv 5))) (aA (pv 6) (aQ (pv 2)))))))))),?_⟩
 have rp:=mG m;refine⟨bt _,fun lo hlo=>?_⟩;obtain⟨_,nlo,_,nln⟩:=W0.new hlo;have nko:kn≠lo:=aI hk hlo;obtain⟨H1,e0,s1,g1⟩:=pQ hlo (.lst []);rw[e0];clear e0;have R12:lI m<=12:=by
  rcases m with _|_|m<;>simp only[lI]<;>lia
 refine⟨_,rfl,n,rfl,by lia,by lia,nS (n:=(n:Int).toNat) (fun i σ G=>∃(knc:Addr) (kc:List Str) (rs:List Rw) (tl:Int) (v7 v8 v9:Option V),σ=[some (.ref d),some (.ref sc),some (.ref knc),some (.int deep),some (.int n),some (.ref lo),some (.int tl),v7,v8,v9]/\We G d l sc nl kd wd xs/\eX [d,l,sc] H G/\G lo=some (.lst (bL rs))/\aZ G rs/\sE ks xs rs kc tl m i/\(knc=kn\/H knc=none)/\knc≠l/\knc≠lo/\G knc=some (.lst (kc.map V.str)))
  ⟨kn,ks,[],0,_,_,_,rfl,W0.same s1,eX.of s1,g1,trivial,sE.nil,.inl rfl,nk,nko,s1 _ _ hk⟩ ?_ ?_⟩
 ·rintro i σ G hi ⟨knc,kc,rs,tl,v7,v8,v9,rfl,W2,o2,g2,hr2,b2,q2,n2l,n2o,hk2⟩;have i1:i+1<=n:=by lia
  have mul1:(i+1)*lI m<=n*lI m:=qo _ i1;have mul2:(i+1)*lI m=i*lI m+lI m:=yk _ _;have sl:=fO.len rs b2.sc;have ct:=b2.ct;have ln:=gE rs;obtain⟨lf,gl⟩:=W2.gLeft;refine⟨_,rfl,sc,_,rfl,gl,_,_,rfl,rfl,_,rfl,?_⟩;refine lK (fun _=>?_) (fun _=>⟨knc,kc,rs,tl,_,_,_,rfl,W2,o2,g2,hr2,b2.mono (by lia),q2,n2l,n2o,hk2⟩);refine⟨_,rfl,_,rfl,_,rfl,_,rfl,d,l,sc,nl,knc,kd,wd,xs,kc,deep,rfl,W2,hk2,n2l,by lia,hm,hd,fun p3 kn3 r3 k3 t3 H3 W3 o3 h3 hr3 b3 q3 hk3=>?_⟩;refine⟨p3,_,rfl,aR.of h3,rfl,_,_,rfl,_,_,rfl,_,_,rfl,rfl,?_⟩;have g3:=W2.keep g2 nlo o3;have n3l:kn3≠l:=by
   rcases q3 with z|z
   ·rw[z];exact n2l
   ·exact(W2.new z).2.1
  have n3o:kn3≠lo:=by
   rcases q3 with z|z
   ·rw[z];exact n2o
   ·exact(aI g2 z).symm
  refine⟨_,rfl,.inl ⟨rfl,_,bK.of g3⟩,_,rfl,lo,_,_,rfl,rfl,g3,by rw[bB];exact aL (by lia),?_⟩;have tN:=TS.lst (ys:=bL rs++[.ref r3.p]) g3;have hR:=aZ.app (qs:=[r3]) (aZ.ts ((W2.ts o3).trans tN) rs hr2) ⟨eF.ts tN r3 hr3,trivial⟩;refine⟨_,rfl,_,rfl,_,_,rfl,rfl,?_⟩;refine⟨kn3,k3,rs++[r3],tl+t3,_,_,_,rfl,W3.lst (zs:=bL rs++[.ref r3.p]) g3 nlo nln,(o2.trans o3).new hlo,by rw[aC,dS];rfl,hR,b2.snoc b3,?_,n3l,n3o,(aH n3o).trans hk3⟩;rcases q3 with z|z
  ·rw[z];exact q2
  ·exact .inr (o2.fresh W2.all z)
 rintro σ G ⟨knc,kc,rs,tl,v7,v8,v9,rfl,W2,o2,g2,hr2,b2,q2,n2l,n2o,hk2⟩;refine⟨_,rfl,lo,_,rfl,.inl ⟨bK.of g2,fun t ht=>⟨_,rfl,_,rfl,by show 3<=sizeLine;decide,fun p hp=>?_⟩⟩⟩;have s9:=aB ht (.tup (bL rs));have s10:=aB hp (.tup [.ref t,.int tl,.ref knc]);have sA:=s9.trans s10;exact k p t knc rs kc tl _ (W2.same sA) (o2.trans (eX.of sA)) aC (s10 _ _ aC) (aZ.ts (.of sA) _ hr2) b2 q2 (sA _ _ hk2)
theorem aV8(C_Rws46:Cl P w K mg base 13 (nQ 2) "_law_rows")(C_Draw:Cl P w K mg base 1 spDraw "_law_draw")(C_Trm46:Cl P w K mg base 4 (qF 3) "_law_term")(m_len:mg "len"=none)(m_tuple:mg "tuple"=none):fY P w K mg base "_law_program" "_law_program" aL5 14 ["_law_deal_here","_law_kinds_here","_law_names_here","_law_room"] spPrgE:=by
 refine iG ["_law_deal_here","_law_kinds_here","_law_names_here","_law_room","_law_scene","_law_rows_here","_law_tells","_law_known"] fun H Q nd hr h=>?_
 obtain⟨d,l,kl,nl,ks,xs,room,rfl,D,hk,nk,k1,k3,hn,nn,x1,x9,k⟩:=h;refine⟨_,(eG 4 nd (aE4 (fP aG (jU bG m_len cu (aQ (pv 1))) (fP aG (pv 2) (fP aG (pv 3) (fP aG aD (fP aG aD (fP aG aD aC2)))))) rfl rfl (by decide) (by decide))
  (aF (lZ (bS C_Rws46 hr (aA (pv 0) (aA (pv 4) (aA (bZ cX) (aA aD (aQ (aS dE aD (bS C_Draw hr (aA (pv 0) (aQ aD)))))))))) (iO rfl (aY (fG 5 nd) (aY (fG 6 nd) (aY (fG 7 nd) fB)))))
  (aE (aM (bE (aA (sH cY m_tuple dq (aQ (pv 1))) (aQ (aS nC (pv 5) (bE (aQ (bE (aA aG (aQ (bS C_Trm46 hr (aA (pv 0) (aA (pv 7) (aQ aD))))))))))))))))),?_⟩
 refine fun sc hsc=>⟨_,rfl,kl,_,rfl,.inl (bK.of (aB hsc (.dK []) _ _ hk)),_,rfl,_,rfl,aC,iN ks.length nl room 1 9 3,by rw[ac];rfl,by show 6<=15;decide,?_⟩
 rw[aE8,tJ (acc:=[]) (more:=iN ks.length nl room 1 9 3) (show tU.Nodup from pT)];have s1:=aB hsc (.dK ([]++iN ks.length nl room 1 9 3));have h1:aN H sc (.dK ([]++iN ks.length nl room 1 9 3)) sc=some (.dK (iN ks.length nl room 1 9 3)):=aC;generalize aN H sc (.dK ([]++iN ks.length nl room 1 9 3))=H1 at s1 h1 ⊢;have W1:We H1 d l sc nl ks.length 3 xs:=⟨D.same s1,⟨_,_,_,h1⟩,s1 _ _ hn,(eZ D hsc).1,nn,x1,x9,by lia,by lia,by decide,by decide⟩
 have hk1:=s1 _ _ hk;refine⟨_,rfl,_,rfl,bt _,fun kn hkn=>?_⟩;have nkn:=(W1.new hkn).2.1;have s2:=aB hkn (.lst []);have h2:aN H1 kn (.lst []) kn=some (.lst (([]:List Str).map V.str)):=aC;generalize aN H1 kn (.lst [])=H2 at s2 h2 ⊢;have W2:=W1.same s2;refine⟨_,rfl,d,l,6,rfl,W2.deal,by decide,by decide,fun y H3 y0 y1 D3 o3=>⟨_,_,rfl,rfl,?_⟩⟩;have W3:=W2.out D3 o3;have hk3:=aO W2.deal (s2 _ _ hk1) nk o3;have h3:=aO W2.deal h2 nkn o3;have oA:=(eW.of (d:=d) (l:=l) (s1.trans s2)).trans o3;obtain⟨n,hn',n6⟩:∃n:Nat,1+y=(n:Int)/\n<=6:=⟨(1+y).toNat,by lia,by lia⟩
 refine⟨d,l,sc,nl,kn,ks.length,3,xs,[],0,n,by show [_,_,_,_,V.int (1+y)]=_;rw[hn'],W3,h3,nkn,by simp only[lI,List.length_nil];lia,by decide,n6,by decide,fun p4 pr4 kn4 rs4 k4 t4 H4 W4 o4 h4 hp4 hr4 b4 q4 hk4=>?_⟩;refine⟨p4,_,rfl,aR.of h4,rfl,_,_,rfl,_,_,rfl,_,_,rfl,rfl,?_⟩;have hkl4:=W3.keep hk3 nk o4;have n4l:kn4≠l:=by
  rcases q4 with z|z
  ·rw[z];exact nkn
  ·exact(W3.new z).2.1
 have oB:=aY7 oA hsc o4;have ct:=b4.ct;simp only[lI] at ct;have sl:=fO.len rs4 b4.sc;have ln:=gE rs4;simp only[List.length_nil] at sl;refine⟨_,rfl,kl,_,rfl,.inl ⟨bK.of hkl4,fun kt hkt=>?_⟩⟩;obtain⟨H5,e0,s5,h5⟩:=pQ hkt (.tup (ks.map V.str));rw[e0];clear e0;refine⟨_,rfl,_,rfl,_,rfl,d,l,kn4,k4,7,rfl,W4.deal.same s5,s5 _ _ hk4,n4l,by lia,by decide,by decide,fun t6 H6 D6 o6 h6 ok6 nm6 sz6=>⟨eY,fun q hq=>⟨pA,fun u hu'=>?_⟩⟩⟩;have t56:=TS.out (W4.deal.same s5) o6;have s7:=aB hq (.tup [.str "tell",.ref t6.p]);have s8:=aB hu' (.tup [.ref q]);have hq8:aN (aN H6 q (.tup [.str "tell",.ref t6.p])) u (.tup [.ref q]) q=_:=s8 _ _ aC;have hu8:aN (aN H6 q (.tup [.str "tell",.ref t6.p])) u (.tup [.ref q]) u=some (.tup [.ref q]):=aC;have s78:=s7.trans s8;generalize aN (aN H6 q (.tup [.str "tell",.ref t6.p])) u (.tup [.ref q])=H8 at s78 hq8 hu8 ⊢;refine⟨pr4,u,_,_,rfl,rfl,(t56.trans (.of s78)) _ _ (s5 _ _ hp4),hu8,by rw[bB];exact cj (aL (by show _+1<=_;lia)),fun pr H9 s9 h9=>⟨eY,fun p hp=>?_⟩⟩
 have s10:=aB hp (.tup [.ref kt,.ref pr]);have sA:=s78.trans (s9.trans s10);have tA:=t56.trans (.of sA);have e9:bL rs4++[V.ref q]=bL (rs4++[.tell q t6]):=by rw[dS];rfl
 rw[e9] at h9;have g:RwE k4 xs (.tell q t6) k4 1 2:=aM1 nm6 (by lia);have b:=b4;have cl:=(fO.app (ks:=[]) b4.sc g.sc).clo;refine k p (rs4++[.tell q t6]) _ (D6.same sA) ((oB.trans (.of s5)).trans (o6.trans (.of sA))) ⟨⟨kt,pr,aC,tA _ _ h5,s10 _ _ h9⟩,aZ.app (qs:=[.tell q t6]) (aZ.ts ((TS.of s5).trans tA) _ hr4) ⟨⟨(s9.trans s10) _ _ hq8,h6.ts (.of sA),ok6,by lia⟩,trivial⟩,?_,⟨_,fO.app (ks:=[]) b4.sc g.sc⟩,cA.app b4.tk ⟨g.tk,trivial⟩,?_,k1,k3,uV b4.dp g.dp,iH.app b4.tz ⟨g.tz,trivial⟩,fun z hz=>?_,?_,by decide⟩
 ·rw[jV];simp only[bP,Rw.cnt];lia
 ·have t0:=b4.t0;rw[nA,b4.tl];simp only[eE,tel];lia
 ·rw[fL] at hz;rcases bp.mp hz with e|e
  ·exact b4.us z e
  ·exact g.us z (by simpa [dA] using e)
 ·refine(oW.len x9).sub fun x hx=>?_
  rcases cl.1 x hx with e|e
  ·cases e
  ·rw[vV] at e;rcases bp.mp e with e|e
   ·exact b4.st x e
   ·exact g.st x e
theorem aS5(C_Draw:Cl P w K mg base 1 spDraw "_law_draw")(m_range:mg "range"=none)(m_len:mg "len"=none)(m_int:mg "int"=none):fY P w K mg base "_law_names" "_law_names" aP9 2 ["_law_deal_here","_law_many"] spNamesE:=by
 refine iG ["_law_deal_here","_law_many","_law_letters","_law_kept","_law_core","_law_at","_law_turn","_law_found","_law_k","_law_name"] fun H Q nd hr h=>?_
 obtain⟨d,l,m,rfl,D,m0,m9,k⟩:=h;refine⟨_,(@aF _ _ _ _ _ (psz 2 nd aG)
  (@aF _ _ _ _ _ (@fW _ _ 3 _ _ _ _ nd rfl (fj rfl) (@bE _ _ _ _ _ (@aA _ _ _ _ _ aG (@aA _ _ _ _ _ aG (@aA _ _ _ _ _ aG (@aA _ _ _ _ _ aG (@aA _ _ _ _ _ aG (@aA _ _ _ _ _ aG (@aA _ _ _ _ _ aG (@aA _ _ _ _ _ aG (@aA _ _ _ _ _ aG (@aA _ _ _ _ _ aG (@aA _ _ _ _ _ aG (@aA _ _ _ _ _ aG cX rfl) rfl) rfl) rfl) rfl) rfl) rfl) rfl) rfl) rfl) rfl) rfl)) rfl (fj rfl))
  (@aF _ _ _ _ _ (psz 4 nd (fA PySem.F.plainAttrs_str PySem.F.slot_str_join PySem.F.type_str_join bB9 aG (aQ (dF ["_law_k","_law_letters","_law_deal_here"] [none,some 2,some 0] (gU (by rfl) m_range (aQ (bS C_Draw hr (aA (pv 0) (aQ aD))))) (fun _ _ _ _=>(fG 0)) (fun _ _ _ _=>eT) (fun _ _ _ _=>(bQ uR (pv 1) (bS C_Draw hr (aA (pv 2) (aQ aD)))))))))
  (@aF _ _ _ _ _ (psz 5 nd (bS C_Draw hr (aA (pv 0) (aQ (aS dE (jU fN m_len cu (aQ (pv 4))) aD)))))
  (@aF _ _ _ _ _ (psz 6 nd (bS C_Draw hr (aA (pv 0) (aQ aD))))
  (@aF _ _ _ _ _ (psz 7 nd (bZ cX))
  (@aF _ _ _ _ _ (pfr (gU (by rfl) m_range (aQ (pv 1))) (fG 8 nd)
  (eG 9 nd (aS fZ (aS fZ (cC yS (pv 4) dG (cS (pv 5))) (bQ uR (pv 2) (aS iA (aS dE (pv 6) (aS iD aD (pv 8))) aD))) (cC yS (pv 4) (cS (pv 5)) dG))
  (aE (cL (fA bo de df cQ (pv 7) (aQ (aS fZ (pv 9) (aS zO aG (sH lE m_int md (aQ (nM dW (pv 9) (pv 3))))))))))))
  (@aE _ _ _ (aM (pv 7)))))))))),?_⟩
 refine⟨by show 12<=sizeLine;decide,fun t ht=>?_⟩;have D0:=D.same (aB ht (.tup [.str "kinds",.str "ladder",.str "flat",.str "choose",.str "first",.str "let",.str "tell",.str "when",.str "else",.str "times",.str "end",.str "of"]));have o0:=eW.of (d:=d) (l:=l) (aB ht (.tup [.str "kinds",.str "ladder",.str "flat",.str "choose",.str "first",.str "let",.str "tell",.str "when",.str "else",.str "times",.str "end",.str "of"]));have h0:aN H t (.tup [.str "kinds",.str "ladder",.str "flat",.str "choose",.str "first",.str "let",.str "tell",.str "when",.str "else",.str "times",.str "end",.str "of"]) t=some (.tup (fJ.map V.str)):=aC;have f0:= @bD.free _ _ (aB ht (.tup [.str "kinds",.str "ladder",.str "flat",.str "choose",.str "first",.str "let",.str "tell",.str "when",.str "else",.str "times",.str "end",.str "of"]));generalize aN H t (.tup [.str "kinds",.str "ladder",.str "flat",.str "choose",.str "first",.str "let",.str "tell",.str "when",.str "else",.str "times",.str "end",.str "of"])=H0 at D0 o0 h0 f0 ⊢
 have k:∀(p:Addr) (ws:List Str) (a b:Str) (tn:Int) (H':Hp),dJ H' d l->eW d l H0 H'->H0 p=none->H' p=some (.lst (ws.map V.str))->ws.length=m.toNat->a.length+b.length<=6->sM a b tn ws->Q (.ref p) H':=fun p ws a b tn H' D' o' f'=>k p ws a b tn H' D' (o0.trans o') (f0 f')
 clear o0 f0;refine⟨rfl,_,rfl,d,l,7,rfl,D0,by decide,by decide,fun n0 H1 n1 n2 D1 o1=>⟨n0,rfl,by lia,by lia,?_⟩⟩;refine lY (fun i ys σ G=>dJ G d l/\eW d l H0 G/\(∃v,σ=[v,some (.str "abcdefghijklmnopqrstuvwxyz"),some (.ref d)])/\∃zs:List Str,ys=zs.map V.str/\zs.length=i/\∀z∈zs,z.length=1) (aL (by lia)) ⟨D1,o1,⟨_,rfl⟩,[],rfl,rfl,fun _ z=>nomatch z⟩
  (by rintro i ys σ G ⟨_,_,_,zs,e,e2,_⟩;rw[e,ac];lia) ?_ ?_
 ·rintro i ys σ G hi ⟨D2,o2,⟨v,rfl⟩,zs,rfl,hl,h1⟩;refine⟨_,rfl,_,rfl,d,l,26,rfl,D2,by decide,by decide,fun r H3 r0 r1 D3 o3=>?_⟩;obtain⟨c,hc⟩:=bO1 (z:="abcdefghijklmnopqrstuvwxyz") r0 r1;refine⟨_,r,c,rfl,rfl,by decide,hc,D3,o2.trans o3,⟨_,rfl⟩,zs++[⟨#[c]⟩],by rw[au];rfl,by rw[ao,hl];rfl,fun z hz=>?_⟩;rcases bp.mp hz with q|q
  ·exact h1 z q
  ·have e:z=⟨#[c]⟩:=by simpa using q
   rw[e];rfl
 rintro ys σ H2 ⟨D2,o2,_,zs,rfl,hl,h1⟩ p hp;have hsm:=wO h1;refine⟨_,p,zs,rfl,rfl,bK.of aC,by rw[hsm];show zs.length+zs.length*0<=_;lia,?_⟩;have hj:=aR3 "" zs;rw[hsm] at hj;have e0:("": Str).length=0:=rfl;rw[e0] at hj;have D3:=D2.same (aB hp (.lst (zs.map V.str)));have o3:=o2.trans (eW.of (d:=d) (l:=l) (aB hp (.lst (zs.map V.str))));have h03:=aB hp (.lst (zs.map V.str)) _ _ (TS.out D0 o2 _ _ h0);generalize aN H2 p (.lst (zs.map V.str))=H3 at D3 o3 h03 ⊢;generalize Txt.join "" zs=cr at hj ⊢;have c6:cr.length<=6:=by lia
 have cz:cr.length<=sizeLine:=cj (aL (by lia));refine⟨_,rfl,_,rfl,cr,rfl,cz,_,_,rfl,rfl,d,l,_,rfl,D3,by lia,by lia,fun at' H4 a0 a1 D4 o4=>?_⟩;refine⟨_,rfl,d,l,26,rfl,D4,by decide,by decide,fun tn' H5 b0 b1 D5 o5=>?_⟩;have oA:=o3.trans (o4.trans o5);refine⟨bt _,fun lf hlf=>?_⟩;have nf:=aI5 D5 oA hlf;have L6:nB (aN H5 lf (.lst [])) d l lf []:=nB.new D5 hlf;have o6:=oA.trans (eW.of (d:=d) (l:=l) (aB hlf (.lst [])));have t5:=aB hlf (.lst []) _ _ (TS.out D4 o5 _ _ (TS.out D3 o4 _ _ h03));generalize aN H5 lf (.lst [])=H6 at L6 o6 t5 ⊢;refine⟨_,rfl,m,rfl,by lia,by lia,nS (n:=m.toNat) (fun i σ G=>∃(ws:List Str) (v7 v8:Option V),σ=[some (.ref d),some (.int m),some (.str "abcdefghijklmnopqrstuvwxyz"),some (.ref t),some (.str cr),some (.int at'),some (.int tn'),some (.ref lf),v7,v8]/\nB G d l lf (ws.map V.str)/\eW d l H0 G/\G t=some (.tup (fJ.map V.str))/\ws.length=i/\sM (Txt.slice cr none (some at')) (Txt.slice cr (some at') none) tn' ws)
  ⟨[],_,_,rfl,L6,o6,t5,rfl,fun _ _ z=>nomatch z⟩ ?_ ?_⟩
 ·rintro i σ G hi ⟨ws,v7,v8,rfl,L7,o7,t7,hw,hb⟩;have hc:=bB5 tn' i;generalize hlt:aF0 tn' i=c at hc;have t1:=nv cr none (some at');have t2:=nv cr (some at') none;have q26:(0:Int)<26:=by decide
  have z1:(Txt.slice cr none (some at')).length+(⟨#[c]⟩:Str).length<=7:=by show _+1<=7;lia
  have z2:(Txt.slice cr none (some at')++(⟨#[c]⟩:Str)).length<=7:=by rw[ke];exact z1
  refine⟨_,rfl,_,rfl,_,rfl,cr,rfl,cz,_,rfl,_,rfl,_,rfl,_,_,rfl,rfl,.inl ⟨by decide,by decide⟩,_,_,rfl,rfl,_,_,rfl,rfl,q26,_,_,c,rfl,rfl,by decide,hc,_,_,rfl,rfl,cp z1 (by decide),_,rfl,_,rfl,_,rfl,cr,rfl,cz,_,_,rfl,rfl,cj (aL (by lia)),?_⟩;have z3:(Txt.slice cr none (some at')++(⟨#[c]⟩:Str)++Txt.slice cr (some at') none).length<=13:=by rw[ke];lia
  have ew:Txt.slice cr none (some at')++(⟨#[c]⟩:Str)++Txt.slice cr (some at') none=sR (Txt.slice cr none (some at')) (Txt.slice cr (some at') none) tn' i:=by rw[<-hlt];rfl
  generalize Txt.slice cr none (some at')++(⟨#[c]⟩:Str)++Txt.slice cr (some at') none=wd at z3 ew ⊢;refine⟨_,rfl,.inl ⟨rfl,_,bK.of L7.lst⟩,_,rfl,_,rfl,_,rfl,t,_,rfl,.inr (aR.of t7),rfl,nZ fJ,.inr ⟨_,rfl,?_⟩⟩;have qe:=wV;have fin:∀w':Str,(w'=wd\/w'=wd++"q")->∃(us:List Str) (v7 v8:Option V),[some (.ref d),some (.int m),some (.str "abcdefghijklmnopqrstuvwxyz"),some (.ref t),some (.str cr),some (.int at'),some (.int tn'),some (.ref lf),some (.int (0+(i:Int))),some (.str wd)]=[some (.ref d),some (.int m),some (.str "abcdefghijklmnopqrstuvwxyz"),some (.ref t),some (.str cr),some (.int at'),some (.int tn'),some (.ref lf),v7,v8]/\nB (aN G lf (.lst (ws.map V.str++[.str w']))) d l lf (us.map V.str)/\eW d l H0 (aN G lf (.lst (ws.map V.str++[.str w'])))/\(aN G lf (.lst (ws.map V.str++[.str w']))) t=some (.tup (fJ.map V.str))/\us.length=i+1/\sM (Txt.slice cr none (some at')) (Txt.slice cr (some at') none) tn' us:=fun w' hw' =>
   ⟨ws++[w'],_,_,rfl,by rw[au];exact L7.app _,aC3 o7 nf,TS.lst L7.lst _ _ t7,by rw[ao,hw];rfl,aG7 hb hw (by rw[ew] at hw';exact hw')⟩
  generalize oY (V.str wd) (fJ.map V.str)=kb
  cases kb with
  |true=>exact⟨_,_,rfl,rfl,rfl,.inr rfl,_,_,rfl,rfl,by show _+1<=_;exact cj (aL (by lia)),lf,_,_,rfl,rfl,L7.lst,aL (by rw[ac];lia),fin _ (.inr rfl)⟩
  |false=>exact⟨_,_,rfl,rfl,rfl,.inl rfl,_,_,rfl,rfl,by show _+0<=_;exact cj (aL (by lia)),lf,_,_,rfl,rfl,L7.lst,aL (by rw[ac];lia),fin _ (.inl (aU9 wd))⟩
 ·rintro σ G ⟨ws,v7,v8,rfl,L7,o7,_,hw,hb⟩;have t1:=bD2 c6 a0 a1;exact⟨_,rfl,k lf ws _ _ _ G L7.deal o7 nf L7.lst hw (by lia) hb⟩
theorem bR0{aw:Addr}{tL tN:Tok}(m_LETTERS:mg "LETTERS"=some (.str alpha tL))(m_LONGEST_NAME:mg "LONGEST_NAME"=some (.int 8 tN))(m_KEPT_WORDS:mg "KEPT_WORDS"=some (.ref aw))(hW:∀H,aR K H aw (fJ.map V.str))(m_all:mg "all"=none)(m_len:mg "len"=none):fY P w K mg base "is_name" "is_name" cA8 1 ["text"] spIsNm:=by
 refine iG ["text"] fun H Q nd hr h=>?_
 obtain⟨z,rfl,hl,k⟩:=h;refine⟨_,(aF (bA (gK (fC (rX qC qC aD (jU fN m_len cu (aQ (pv 0))) (dM (v:= .int 8) (by rfl) m_LONGEST_NAME ⟨_,rfl⟩)))) (aE (aM fS)) aP)
  (aE (aM (dR (nM jI (pv 0) (pgl m_KEPT_WORDS)) (dO (jU nI m_all ma (aQ (dF ["sign"] [none] (aK8 (pv 0)) (fun _ _ _ _=>(fG 0)) (fun _ _ _ _=>eT) (fun _ _ _ _=>(nM sV (pv 0) (dM (v:= .str alpha) (by rfl) m_LETTERS ⟨_,rfl⟩))))))))))),?_⟩
 have hz:z.length<=sizeLine:=cj (aL hl);refine⟨fun b G=>G=H/\b=decide (1<=z.length/\z.length<=8),?_,?_⟩
 ·refine⟨_,rfl,_,rfl,hz,_,_,rfl,rfl,_,rfl,?_⟩
  by_cases h1:1<=z.length
  ·refine bH (af (by lia)) ⟨_,_,rfl,rfl,_,rfl,rfl,?_⟩
   by_cases h2:z.length<=8
   ·rw[af (show(z.length:Int)<=8 by lia),af ⟨h1,h2⟩]
   ·rw[ba (show ¬(z.length:Int)<=8 by lia),ba (fun q=>h2 q.2)]
  ·exact aV (fun q=>h1 (by have:=ag q;lia)) ⟨_,rfl,rfl,(ba (fun q=>h1 q.1)).symm⟩
 rintro b G ⟨rfl,rfl⟩
 by_cases c:1<=z.length/\z.length<=8
 ·rw[af c];refine aV (by decide) ?_;refine⟨_,rfl,aw,_,rfl,.inr (hW G),rfl,cJ _,_,rfl,?_⟩;have ei:oY (V.str z) (fJ.map V.str)=decide (z∈fJ):=dQ _ _;show if (!oY (V.str z) (fJ.map V.str))=true then _ else _
  rw[ei]
  by_cases c2:z∈fJ
  ·rw[af c2];refine aV (fun z=>absurd z (show ¬(!true)=true by decide)) ?_;have e:jR z=false:=by unfold jR;rw[af c2];simp
   rw[e] at k;exact k G (bD.refl _)
  ·rw[ba c2];refine bH (show(!false)=true by decide) ?_;refine⟨_,rfl,z,rfl,wF (x:=z) (fun i ys σ H2=>H2=G/\(∃v,σ=[v])/\ys=((sL z).take i).map fun c=>V.bl (decide (97<=c/\c<=122))) (aL hl) ⟨rfl,⟨_,rfl⟩,rfl⟩
    (by rintro i ys σ H2 ⟨_,_,e⟩;rw[e,ac,ci];lia) ?_ ?_⟩
   ·rintro i c ys σ H2 hc ⟨rfl,⟨v,rfl⟩,rfl⟩;refine⟨_,rfl,_,_,rfl,rfl,rfl,⟨_,rfl⟩,?_⟩;have hc':(sL z)[i]?=some c:=by rw[gm];exact hc
    have fo:(!(Builtin.Str.occurrences alpha ⟨#[c]⟩ 0 alpha.length 1).isEmpty)=decide (c∈sL alpha):=zb alpha c;rw[aX hc',au,fo,uw.mpr (uC c)];rfl
   ·rintro ys σ H2 ⟨rfl,_,rfl⟩ l hl2;have el:((sL z).take z.length).map (fun c=>V.bl (decide (97<=c/\c<=122)))=((sL z).map fun c=>decide (97<=c/\c<=122)).map V.bl:=by
     rw[dk (i:=z.length) (show(sL z).length<=z.length from ah _),kq];rfl
    refine⟨l,(sL z).map fun c=>decide (97<=c/\c<=122),rfl,by rw[el];exact bK.of aC,?_⟩;rw[aU0];have e:jR z=decide (∀c∈sL z,97<=c/\c<=122):=by unfold jR;rw[af c,ba c2];simp
    rw[e] at k;exact k _ (aB hl2 _)
 ·rw[ba c];refine bH (by decide) ?_;have e:jR z=false:=by unfold jR;rw[ba c];rfl
  rw[e] at k;exact k G (bD.refl _)
theorem bI3(C_RwI:Cl P w K mg base 4 spRowsIn "rows_in")(C_SeN:Cl P w K mg base 1 spSetsN "sets_name")(C_Ask:Cl P w K mg base 3 spAsked "names_asked"):fY P w K mg base "names_of_values" "names_of_values" bU9 5 ["program"] spNmV:=by
 refine iG ["program","names","row","name"] fun H Q nd hr h=>?_
 obtain⟨p,ks,rs,m,rfl,P0,k⟩:=h;have hu:=hG hr;refine⟨_,(eG 1 nd jX
  (aF (pfr (cU (bS C_RwI hr (aQ (pv 0)))) (fG 2 nd)
  (aF (jG (bA (fF (bS C_SeN hr (aQ (pv 2)))) (aE (pdp hu (pv 1) (bQ aJ (pv 2) aD) fS)) aP))
  (aE (pfr (cU (bS C_Ask hr (aQ (pv 2)))) (fG 3 nd)
  (aE (pdp hu (pv 1) (pv 3) fS))))))
  (aE (aM (pv 1))))),?_⟩
 have c0:=P0.cnt;have m4:=P0.m4;refine fun d hd=>?_
 obtain⟨H0,e0,s0,g0⟩:=pQ hd (.dK []);rw[e0];clear e0;have P1:=P0.ts (.of s0);refine⟨_,rfl,p,ks,rs,m,rfl,P1,fun r H1 s1 f1 h1=>⟨r,rfl,⟨_,bK.of h1⟩,?_⟩⟩;have pl:(dA rs).length<=300:=by rw[eB];lia
 have hR:=jL (aZ.ts (.of s1) rs P1.rows);have g1:=s1 _ _ g0;refine gW (K:=K) (a:=r) (xs:=bL (dA rs)) (fun i σ G=>∃(xs:List Str) (kvs:List (Key×V)) (v2 v3:Option V),σ=[some (.ref p),some (.ref d),v2,v3]/\eU d H1 G/\G d=some (.dK kvs)/\iI kvs xs/\(∀x,x∈xs↔x∈((dA rs).take i).flatMap oZ))
  ⟨[],[],_,_,rfl,eU.refl,g1,iI.nil,fun x=>by simp⟩ (by rintro i σ G _ ⟨_,_,_,_,_,b,_⟩;exact bK.of (b _ _ h1 (fun z=>by rw[z,g1] at h1;cases h1))) ?_ ?_
 ·rintro D' i v σ G hv ⟨xs,kvs,v2,v3,rfl,b1,gd,q1,hx⟩;obtain⟨q,hq,rfl⟩:=oM hv;have hqm:=bq hq;have hrq:=(hR q hqm).ts (b1.ts g1);have few:∀{ys:List Str}{b:List Str},(∀y,y∈ys↔y∈((dA rs).take i).flatMap oZ\/y∈b)->(∀y∈b,y∈oZ q)->ys.Nodup->ys.length<=900:=fun {ys b} hy hb nd=>by
   have:=P0.few.le nd fun y hy'=>by
    rcases(hy y).mp hy' with z|z
    ·obtain⟨a,ha,hz⟩:=jd.mp z;exact jd.mpr ⟨a,qm ha,hz⟩
    ·exact jd.mpr ⟨q,hqm,hb y z⟩
   lia
  have en:((dA rs).take (i+1)).flatMap oZ=((dA rs).take i).flatMap oZ++oZ q:=by rw[aX hq,xj];simp
  rw[en];refine⟨fun σ' G'=>∃(xs:List Str) (kvs:List (Key×V)),σ'=[some (.ref p),some (.ref d),some (.ref q.p),v3]/\eU d H1 G'/\G' d=some (.dK kvs)/\iI kvs xs/\(∀x,x∈xs↔x∈((dA rs).take i).flatMap oZ\/x∈q.sets.toList),?_,?_⟩
  ·refine⟨_,rfl,q,rfl,hrq,_,rfl,?_⟩
   cases e:q.sets with
   |none=>exact aV (by simp) ⟨xs,kvs,rfl,b1,gd,q1,fun x=>by rw[hx x];simp⟩
   |some x =>
    refine bH rfl ?_;obtain⟨kvs',ys,dp,q2,hy⟩:=gO.names gd q1 (few (b:=[]) (fun y=>by rw[hx y];simp) (fun _ z=>nomatch z) q1.2) x (.bl true);obtain⟨us,hqp⟩:=pF hrq e;refine⟨_,rfl,_,rfl,q.p,_,_,.str x,rfl,rfl,aR.of hqp,at1,d,_,rfl,dp,ys,kvs',rfl,b1.trans eU.upd,aC,q2,fun y=>?_⟩;rw[hy y,hx y];simp
  ·rintro σ' G' ⟨xs,kvs,rfl,b2,gd2,q2,hx2⟩;have hrq2:=(hR q hqm).ts (b2.ts g1);refine⟨_,rfl,q,rfl,hrq2,fun la G2 s3 h3=>⟨la,rfl,⟨_,bK.of h3⟩,?_⟩⟩;have gd3:=s3 _ _ gd2;refine gW (K:=K) (a:=la) (xs:=q.asked.map V.str) (fun j σ G=>∃(xs:List Str) (kvs:List (Key×V)) (v3:Option V),σ=[some (.ref p),some (.ref d),some (.ref q.p),v3]/\eU d G2 G/\G d=some (.dK kvs)/\iI kvs xs/\(∀x,x∈xs↔x∈((dA rs).take i).flatMap oZ\/x∈q.sets.toList++q.asked.take j))
    ⟨xs,kvs,_,rfl,eU.refl,gd3,q2,fun x=>by rw[hx2 x];simp⟩ (by rintro i σ G _ ⟨_,_,_,_,b,_⟩;exact bK.of (b _ _ h3 (fun z=>by rw[z,gd3] at h3;cases h3))) ?_ ?_
   ·rintro D2 j v σ G hv ⟨xs,kvs,v3,rfl,b4,gd4,q4,hx4⟩;obtain⟨x,rfl,hxj⟩:=iL hv;obtain⟨kvs',ys,dp,q5,hy⟩:=gO.names gd4 q4 (few hx4 (fun y hy=>by
     unfold oZ;rcases bp.mp hy with z|z
     ·exact bv _ z
     ·exact bh _ (qm z)) q4.2) x (.bl true)
    refine⟨_,rfl,_,rfl,d,_,rfl,dp,ys,kvs',_,rfl,b4.trans eU.upd,aC,q5,fun y=>?_⟩;rw[hy y,hx4 y,aX hxj];simp only[List.mem_append,List.mem_singleton,or_assoc]
   ·rintro σ G ⟨xs,kvs,v3,rfl,b4,gd4,q4,hx4⟩;refine⟨xs,kvs,_,_,rfl,b2.trans ((eU.of s3).trans b4),gd4,q4,fun x=>?_⟩;rw[hx4 x,ac,cm,bp,bp];unfold oZ;rw[bp]
 ·rintro σ G ⟨xs,kvs,v2,v3,rfl,b1,gd,q1,hx⟩;refine⟨_,rfl,k d kvs G (b1.same (s0.trans s1) hd) hd gd ⟨xs,q1.1,q1.2,fun x=>?_⟩⟩;rw[hx x,bB,cm];rfl
theorem bN2{tL:Tok}(m_LETTERS:mg "LETTERS"=some (.str alpha tL))(m_len:mg "len"=none):fY P w K mg base "spelled" "spelled" bU2 1 ["number"] spSpl:=by
 refine iG ["number","word"] fun H Q nd hr h=>?_
 obtain⟨n,rfl,hn,k⟩:=h;refine⟨_,(eG 1 nd aG
  (aF (iV jj (dZ aM7 (pv 0) aD)
  (eG 1 nd (aS fZ (bQ uR (dM (v:= .str alpha) (by rfl) m_LETTERS ⟨_,rfl⟩) (aS iA (pv 0) (jU fN m_len cu (aQ (dM (v:= .str alpha) (by rfl) m_LETTERS ⟨_,rfl⟩))))) (pv 1))
  (aE (psz 0 nd (aS jE (aS nF (pv 0) (jU fN m_len cu (aQ (dM (v:= .str alpha) (by rfl) m_LETTERS ⟨_,rfl⟩)))) aD)))))
  (aE (aM (pv 1))))),?_⟩
 have e26:(alpha.length:Int)=26:=by decide
 have az:alpha.length<=sizeLine:=cj (aL (by lia));refine⟨fun j σ H1=>H1=H/\∃(x:Int) (wd:Str),σ=[some (.int x),some (.str wd)]/\((j=2/\x=n/\wd="")\/(j=1/\26<=n/\x=(n:Int) / 26-1/\wd=⟨#[97+n % 26]⟩)\/(j=0/\x= -1/\wd=sp n)),⟨2,rfl,_,_,rfl,.inl ⟨rfl,rfl,rfl⟩⟩,?_⟩;rintro j σ H1 ⟨rfl,x,wd,rfl,hx⟩;refine⟨_,rfl,_,_,rfl,rfl,_,rfl,?_⟩;refine lK (fun c=>?_) (fun c=>?_)
 ·have x0:0<=x:=ag c;obtain⟨y,rfl⟩:=fu x0;have hc:=aV7 (r:=y % 26) (Nat.mod_lt _ (by decide));have em:(y:Int) % (alpha.length:Int)=((y % 26:Nat):Int):=by rw[e26];lia
  have ed:(y:Int) / (alpha.length:Int)=(y:Int) / 26:=by rw[e26]
  have wl:wd.length<=2:=by
   rcases hx with⟨_,_,rfl⟩|⟨_,_,_,rfl⟩|⟨_,e,_⟩
   ·decide
   ·show 1<=2;decide
   ·lia
  refine⟨fun σ' H'=>H'=H1/\σ'=[some (.int ((y:Int) / (alpha.length:Int)-1)),some (.str ((⟨#[97+y % 26]⟩:Str)++wd))],fun σ' H' ⟨e1,e2⟩=>?_,?_⟩
  ·rw[ed] at e2;rcases hx with⟨rfl,e,rfl⟩|⟨rfl,n26,e,rfl⟩|⟨_,e,_⟩
   ·obtain rfl:y=n:=by lia
    have ea:(⟨#[97+y % 26]⟩:Str)++("": Str)=⟨#[97+y % 26]⟩:=oK rfl;rw[ea] at e2
    by_cases c:y<26
    ·exact⟨0,by decide,e1,_,_,e2,.inr (.inr ⟨rfl,by lia,by unfold sp;rw[bg c,Nat.mod_eq_of_lt c]⟩)⟩
    ·exact⟨1,by decide,e1,_,_,e2,.inr (.inl ⟨rfl,by lia,rfl,rfl⟩)⟩
   ·refine⟨0,by decide,e1,_,_,e2,.inr (.inr ⟨rfl,by lia,?_⟩)⟩;unfold sp;rw[av (by lia),show y % 26=n / 26-1 from by lia];exact oK rfl
   ·lia
  ·refine⟨_,rfl,alpha,rfl,az,_,_,rfl,rfl,(show(0:Int)<(alpha.length:Int) by lia),alpha,_,97+y % 26,rfl,rfl,az,by show nO _ ((y:Int) % (alpha.length:Int))=_;rw[em];exact hc,_,rfl,_,_,rfl,rfl,cj (aL (by show 1+_<=_;lia)),_,rfl,alpha,rfl,az,_,_,rfl,rfl,⟨by rw[e26];decide,by rw[e26];decide⟩,_,_,rfl,rfl,rfl,rfl⟩
 ·have x0:¬0<=x:=fun z=>c (af z)
  rcases hx with⟨_,e,_⟩|⟨_,n26,e,_⟩|⟨_,_,rfl⟩
  ·lia
  ·lia
  ·exact⟨_,rfl,k⟩
theorem bK9(C_NmV:Cl P w K mg base 5 spNmV "names_of_values")(C_Spl:Cl P w K mg base 1 spSpl "spelled")(C_IsN:Cl P w K mg base 1 spIsNm "is_name")(m_dict:mg "dict"=none)(m_sorted:mg "sorted"=none)(m_list:mg "list"=none):fY P w K mg base "new_names" "new_names" bW0 6 ["one","other"] spNewN:=by
 refine iG ["one","other","ones","others","taken","both","told","number","name"] fun H Q nd hr h=>?_
 obtain⟨p,q,K1,K2,rs1,rs2,m1,m2,rfl,P1,P2,hm,k⟩:=h;have hu:=hG hr;have hr1:dH 1 _:=hr.mono (by decide);refine⟨_,(eG 2 nd (bS C_NmV hr (aQ (pv 0)))
  (eG 3 nd (bS C_NmV hr (aQ (pv 1)))
  (eG 4 nd (sH (yQ hr1) m_dict vo (aQ (dF ["name"] [none] (cU (aS eI (aS eI (aS eI (sH gP m_list ig (aQ (bQ aJ (pv 0) aD))) (sH gP m_list ig (aQ (bQ aJ (pv 1) aD)))) (sH oQ m_list ig (aQ (pv 2)))) (sH oQ m_list ig (aQ (pv 3))))) (fun _ _ _ _=>(fG 0)) (fun _ _ _ _=>eT) (fun _ _ _ _=>(bE (aA (pv 0) (aQ fS)))))))
  (eG 5 nd (jU (xA hr1) m_sorted PyProof.Rows.boot_sorted (aQ (dF ["name","ones"] [none,some 2] (vL (pv 3)) (fun _ _ _ _=>(fG 0)) (fun _ _ _ _=>(kN (zH (vQ hu (pv 0) (pv 1))))) (fun _ _ _ _=>(pv 0)))))
  (eG 6 nd jX
  (eG 7 nd aD
  (aF (pfr (cU (pv 5)) (fG 8 nd)
  (aF (iV jj (PW.pt (kO (gK (fF (bS C_IsN hr (aQ (bS C_Spl hr (aQ (pv 7))))))) (kB (zH (vQ hu (bS C_Spl hr (aQ (pv 7))) (pv 4))))))
  (aE (xZ (i:=7) nd rfl (fj rfl) aD oH)))
  (aF (pdp hu (pv 6) (pv 8) (bS C_Spl hr (aQ (pv 7))))
  (aE (xZ (i:=7) nd rfl (fj rfl) aD oH)))))
  (aE (aM (pv 6)))))))))),?_⟩
 obtain⟨pk,pr,hp,hpk,_⟩:=P1.ex;obtain⟨qk,qr,hq,hqk,_⟩:=P2.ex;have kk1:=P1.k3;have kk2:=P2.k3;refine⟨_,rfl,p,K1,rs1,m1,rfl,P1,fun d1 kv1 H1 s1 f1 h1 ⟨N1,e1,nd1,x1⟩=>?_⟩;refine⟨_,rfl,q,K2,rs2,m2,rfl,P2.ts (.of s1),fun d2 kv2 H2 s2 f2 h2 ⟨N2,e2,nd2,x2⟩=>?_⟩;have l1:N1.length<=9*m1:=P1.few.le nd1 fun y hy=>(x1 y).mp hy
 have l2:N2.length<=9*m2:=P2.few.le nd2 fun y hy=>(x2 y).mp hy
 have s12:=s1.trans s2;have n12:=aI h1 f2;have h1:=s2 _ _ h1;refine⟨_,rfl,p,_,_,.ref pk,rfl,rfl,aR.of (s12 _ _ hp),rfl,pk,_,rfl,.inr (aR.of (s12 _ _ hpk)),fun a3 ha3=>?_⟩;obtain⟨H3,e0,s3,g3⟩:=pQ ha3 (.lst (K1.map V.str));rw[e0];clear e0;refine⟨_,rfl,q,_,_,.ref qk,rfl,rfl,aR.of ((s12.trans s3) _ _ hq),rfl,qk,_,rfl,.inr (aR.of ((s12.trans s3) _ _ hqk)),fun a4 ha4=>?_⟩;have s4:=aB ha4 (.lst (K2.map V.str));have g4:aN H3 a4 (.lst (K2.map V.str)) a4=some (.lst (K2.map V.str)):=aC;have g34:=s4 _ _ g3;generalize aN H3 a4 (.lst (K2.map V.str))=H4 at s4 g4 g34 ⊢;refine⟨a3,a4,_,_,rfl,rfl,g34,g4,cj (aL (by rw[ac,ac];lia)),fun a5 ha5=>?_⟩;rw[<-au];obtain⟨H5,e0,s5,g5⟩:=pQ ha5 (.lst ((K1++K2).map V.str));rw[e0];clear e0;have t25:=s3.trans (s4.trans s5);refine⟨_,rfl,d1,kv1,rfl,t25 _ _ h1,fun a6 ha6=>?_⟩;rw[wA e1];have s6:=aB ha6 (.lst (N1.map V.str))
 have g6:aN H5 a6 (.lst (N1.map V.str)) a6=some (.lst (N1.map V.str)):=aC;have g56:=s6 _ _ g5;generalize aN H5 a6 (.lst (N1.map V.str))=H6 at s6 g6 g56 ⊢;refine⟨a5,a6,_,_,rfl,rfl,g56,g6,cj (aL (by rw[ac,ac,ao];lia)),fun a7 ha7=>?_⟩;rw[<-au];obtain⟨H7,e0,s7,g7⟩:=pQ ha7 (.lst ((K1++K2++N1).map V.str));rw[e0];clear e0;have t27:=t25.trans (s6.trans s7);refine⟨_,rfl,d2,kv2,rfl,t27 _ _ h2,fun a8 ha8=>?_⟩;rw[wA e2];have s8:=aB ha8 (.lst (N2.map V.str));have g8:aN H7 a8 (.lst (N2.map V.str)) a8=some (.lst (N2.map V.str)):=aC;have g78:=s8 _ _ g7;generalize aN H7 a8 (.lst (N2.map V.str))=H8 at s8 g8 g78 ⊢;refine⟨a7,a8,_,_,rfl,rfl,g78,g8,cj (aL (by rw[ac,ac,ao,ao];lia)),fun a9 ha9=>?_⟩;rw[<-au];have Tl:(K1++K2++N1++N2).length<=100:=by rw[ao,ao,ao];lia
 have Tm:∀y,y∈K1++K2++N1++N2↔y∈K1++K2++eM rs1++eM rs2:=fun y=>by
  simp only[List.mem_append];rw[x1 y,x2 y]
 have fewT:oW 100 (K1++K2++eM rs1++eM rs2):=⟨_,Tl,fun x hx=>(Tm x).mpr hx⟩
 generalize hT':K1++K2++N1++N2=T' at Tl Tm ⊢;obtain⟨H9,e0,s9,g9⟩:=pQ ha9 (.lst (T'.map V.str));rw[e0];clear e0;have t29:=t27.trans (s8.trans s9);have h19:=t29 _ _ h1;have h29:=t29 _ _ h2;have s09:=s12.trans t29;clear s3 s4 s5 s6 s7 s8 s9 t25 t27 t29 g3 g34 g4 g5 g56 g6 g7 g78 g8 ha3 ha4 ha5 ha6 ha7 ha8 ha9 h1 h2;refine⟨a9,rfl,⟨_,bK.of g9⟩,cZ (K:=K) (a:=a9) (xs:=T'.map V.str) (fun i ys σ G=>bD H9 G/\(∃v,σ=[v])/\fQ (BlV G) ys (T'.take i))
  (aL (by rw[ac];lia)) ⟨bD.refl _,⟨_,rfl⟩,trivial⟩ (by rintro i ys σ G ⟨_,_,e⟩;rw[e.length,ci];lia) (by rintro i ys σ G _ ⟨e,_⟩;exact bK.of (e _ _ g9)) ?_ ?_⟩
 ·rintro i v ys σ G hv ⟨sG,⟨v',rfl⟩,tw⟩;obtain⟨x,rfl,hx⟩:=iL hv;refine⟨_,rfl,eY,fun t ht=>?_⟩;have st:=aB ht (.tup [.str x,.bl true]);refine⟨sG.trans st,⟨_,rfl⟩,?_⟩;rw[aX hx];exact vA ⟨t,rfl,aC⟩ (tw.mono fun _ _ z=>z.ts (.of st))
 rintro ys σ G ⟨sG,_,tw⟩ lx hlx;rw[ac,cm] at tw;have sx:=aB hlx (.lst ys);have gx:aN G lx (.lst ys) lx=some (.lst ys):=aC;have tw:=tw.mono fun _ _ z=>BlV.ts (.of sx) z
 generalize aN G lx (.lst ys)=G1 at sx gx tw ⊢;refine⟨lx,ys,fun i=> .dK (wC (T'.take i)),rfl,gx,.inl rfl,fun d3 hd3=>⟨aS3 tw (by lia) hd3,?_⟩⟩;rw[show((fun i=>HO.dK (wC (T'.take i))) ys.length)=HO.dK (wC T') from by show HO.dK (wC (T'.take ys.length))=_;rw[tw.length,cm]];have n23:=aI ((sG.trans sx) _ _ h29) hd3;have sd:=aB hd3 (.dK (wC T'));have gd:aN G1 d3 (.dK (wC T')) d3=some (.dK (wC T')):=aC;have sA:=s09.trans (sG.trans (sx.trans sd));have h1A:=(sG.trans (sx.trans sd)) _ _ h19;have h2A:=(sG.trans (sx.trans sd)) _ _ h29;generalize aN G1 d3 (.dK (wC T'))=G2 at sd gd sA h1A h2A ⊢;clear sG sx gx tw sd h19 h29 g9 s09;obtain⟨TK,tk1,tk2⟩:=aT8 T';have z2:kv2.length=N2.length:=iI.len ⟨e2,nd2⟩;refine⟨_,rfl,d2,kv2,rfl,h2A,fun o=>tR (d:=d2) (o:=o) (kvs:=kv2) (fun i zs σ G=>G=aN G2 d2 (.frz o (.dK kv2))/\(∃v,σ=[v,some (.ref d1)])/\zs=((N2.take i).filter fun x=>decide (x∈N1)).map V.str)
  (aL (by lia)) ⟨rfl,⟨_,rfl⟩,rfl⟩ (fun i ys σ G ⟨_,_,e⟩=>by
   rw[e,ac];exact cp (jv _ _) (by rw[ci];lia)) (by rintro i ys σ G _ ⟨e,_⟩;rw[e];exact aC) ?_ ?_⟩
 ·rintro i ky v ys σ G hv ⟨rfl,⟨v',rfl⟩,rfl⟩;have hk:(kv2.map (·.1))[i]?=some ky:=by rw[cq,hv];rfl
  rw[e2,cq] at hk;obtain⟨x,hx,rfl⟩:=lh.mp hk;refine⟨_,rfl,_,rfl,d1,_,rfl,fK.k (k:=Sum.inr x) ((aH n12).trans h1A),_,rfl,?_⟩;have ei:=iI.get ⟨e1,nd1⟩ x;rw[aX hx,fk,au]
  by_cases c:x∈N1
  ·refine bH (ei.trans (af c)) ⟨_,rfl,rfl,⟨_,rfl⟩,?_⟩;rw[di (p:=fun x=>decide (x∈N1)) (af c)];rfl
  ·refine aV (fun z=>c (ag (ei.symm.trans z))) ⟨rfl,⟨_,rfl⟩,?_⟩;rw[ef (p:=fun x=>decide (x∈N1)) (by simpa using c)];simp
 rintro zs σ G ⟨rfl,_,rfl⟩ lz hlz;rw[z2,cm];have bl:(N2.filter fun x=>decide (x∈N1)).length<=N2.length:=jv _ _;have sB:bD H (aN G2 d2 (.frz o (.dK kv2))):=fun c u e=>(aH (fun z=>by rw[z,s1.free f2] at e;cases e)).trans (sA _ _ e)
 have g3B:aN G2 d2 (.frz o (.dK kv2)) d3=some (.dK (wC T')):=(aH n23.symm).trans gd;generalize aN G2 d2 (.frz o (.dK kv2))=G3 at hlz sB g3B ⊢;refine⟨lz,_,rfl,bK.of aC,by lia,fun bs pm so l5 hl5=>?_⟩;have sz:=(aB hlz (.lst ((N2.filter fun x=>decide (x∈N1)).map V.str))).trans (aB hl5 (.lst (bs.map V.str)));have g5:aN (aN G3 lz (.lst ((N2.filter fun x=>decide (x∈N1)).map V.str))) l5 (.lst (bs.map V.str)) l5=some (.lst (bs.map V.str)):=aC;have g3C:=sz _ _ g3B;have sC:=sB.trans sz;generalize aN (aN G3 lz (.lst ((N2.filter fun x=>decide (x∈N1)).map V.str))) l5 (.lst (bs.map V.str))=G4 at g5 g3C sC ⊢;have bl2:bs.length<=36:=by rw[pm.length_eq];lia
 have bnd:bs.Nodup:=pm.nodup_iff.mpr (nd2.filter _);have bm:∀x,x∈bs↔x∈eM rs2/\x∈eM rs1:=fun x=>by rw[pm.mem_iff,dr,fh,x1 x,x2 x]
 refine fun d4 hd4=>?_
 have f4:H d4=none:=sC.free hd4;have n53:=aI g3C hd4;have n54:=aI g5 hd4;have s4:=aB hd4 (.dK []);have g4:aN G4 d4 (.dK []) d4=some (.dK []):=aC;have g5:=s4 _ _ g5;have g3:=s4 _ _ g3C;have sD:=sC.trans s4;generalize aN G4 d4 (.dK [])=G5 at g4 g5 g3 sD ⊢;generalize hT:K1++K2++eM rs1++eM rs2=T at Tm fewT;have frl:=aA1 fewT;refine⟨_,rfl,l5,rfl,⟨_,bK.of g5⟩,gW (K:=K) (a:=l5) (xs:=bs.map V.str) (fun j σ G=>∃(a:Nat) (v8:Option V),σ=[some (.ref p),some (.ref q),some (.ref d1),some (.ref d2),some (.ref d3),some (.ref l5),some (.ref d4),some (.int a),v8]/\eU d4 G5 G/\NmD G d4 ((ass T bs).take j)/\a<=200/\((List.range a).filter (jN T)).length=j)
  ⟨0,_,rfl,eU.refl,g4,by decide,rfl⟩ (by rintro i σ G _ ⟨_,_,_,b,_⟩;exact bK.of (b _ _ g5 n54)) ?_ ?_⟩
 ·rintro D' j v σ G hv ⟨a,v8,rfl,b1,hD,a2,hj⟩;obtain⟨b,rfl,hb⟩:=iL hv;have jl:=(bf.mp hb).1;refine⟨fun μ σ' G'=>∃a':Nat,σ'=[some (.ref p),some (.ref q),some (.ref d1),some (.ref d2),some (.ref d3),some (.ref l5),some (.ref d4),some (.int a'),some (.str b)]/\eU d4 G5 G'/\NmD G' d4 ((ass T bs).take j)/\a'<=200/\((List.range a').filter (jN T)).length=j/\μ=200-a',⟨_,a,rfl,b1,hD,a2,hj,rfl⟩,?_⟩;rintro μ σ' G' ⟨a',rfl,b2,hD2,a22,hj2,rfl⟩;have al:=bX0 a22 hj2 (by lia);have spl:(sp a').length<=2:=by rw[aA7];split<;>decide
  refine⟨_,rfl,a',rfl,by lia,sp a',rfl,by lia,fun G6 s6=>⟨_,rfl,?_⟩⟩;rw[bG5 al];refine aV (by decide) ?_;have b3:=b2.trans (eU.of s6);have hD3:=hD2.same s6;refine⟨_,rfl,a',rfl,by lia,_,rfl,d3,_,rfl,fK.k (k:=Sum.inr (sp a')) (b3 _ _ g3 n53),_,rfl,?_⟩;have ei:=tk1.get (sp a');have em:(sp a'∈TK)↔sp a'∈T:=(tk2 _).trans (Tm _)
  by_cases c:sp a'∈T
  ·refine bH (ei.trans (af (em.mpr c))) ⟨fun σ' G'=>σ'=[some (.ref p),some (.ref q),some (.ref d1),some (.ref d2),some (.ref d3),some (.ref l5),some (.ref d4),some (.int (a' + 1:Nat)),some (.str b)]/\G'=G6,(by rintro σ' G' ⟨e1,e2⟩;exact⟨200-(a' + 1),by lia,a' + 1,e1,by rw[e2];exact b3,by rw[e2];exact hD3,al,bX6 (by unfold jN;rw[af c];rfl) hj2,rfl⟩),?_⟩;exact⟨_,rfl,_,_,rfl,rfl,rfl,rfl⟩
  ·refine aV (fun z=>c (em.mp (ag (ei.symm.trans z)))) ?_;obtain⟨q1,q2⟩:=bU5 (T:=T) al (by unfold jN;rw[ba c];rfl) hj2;have ap:=bB7 bnd hb q1;have hl:((ass T bs).take j).length<=36:=by rw[ci];lia
   refine⟨_,rfl,a',rfl,by lia,_,rfl,_,rfl,d4,_,rfl,gO.k (k:=Sum.inr b) hD3 (aL (by rw[ac];lia)),?_⟩;rw[ap];exact⟨_,rfl,_,_,rfl,rfl,a' + 1,_,rfl,b3.trans eU.upd,aC,al,q2⟩
 ·rintro σ G ⟨a,v8,rfl,b1,hD,a2,hj⟩;rw[ac,dk (by unfold ass;rw[ac,List.length_zip];lia)] at hD;refine⟨_,rfl,k d4 (ass T bs) G (b1.same sD f4) f4 hD ⟨bs,bnd,so,bm,by lia,by rw[hT];exact fewT,by rw[hT];rfl⟩⟩
theorem bI0(n:Nat)(C_RnT:Cl P w K mg base (n+1) (aB6 n) "renamed_term"):fY P w K mg base "renamed_term" "renamed_term" bT8 (n+1+1) ["term","names"] (aB6 (n+1)):=by
 refine iG ["term","names"] fun H Q nd hr h=>?_
 obtain⟨d,t,as,rfl,ht,hn,hD,k⟩:=h;have hu:=hG hr;refine⟨_,(aF (bA (dZ bN (bQ aJ (pv 0) aD) aG) (aE (aM (bE (aA aG (aA (bQ aJ (pv 0) aD) (aA (bS C_RnT hr (aA (bQ aJ (pv 0) aD) (aQ (pv 1)))) (aQ (bS C_RnT hr (aA (bQ aJ (pv 0) aD) (aQ (pv 1))))))))))) aP)
  (aF (bA (dZ bN (bQ aJ (pv 0) aD) aG) (aE (aM (bE (aA aG (aQ (rP hu (pv 1) (bQ aJ (pv 0) aD) (bQ aJ (pv 0) aD) ⟨rfl,rfl,rfl,rfl⟩)))))) aP)
  (aE (aM (pv 0))))),?_⟩
 refine⟨_,rfl,t.p,_,_,.str t.w,rfl,rfl,aR.of ht.at,jB,rfl,_,rfl,?_⟩;generalize hP:t.p=P
 cases t with
 |op p s a b =>
  obtain rfl:p=P:=hP;refine bH (af rfl) ?_;have a1:=a.size_pos;have b1:=b.size_pos;simp only[Tm.size] at hn
  cases n with
  |zero=>exact absurd hn (by lia)
  |succ n =>
  refine⟨_,rfl,p,_,_,.str s,rfl,rfl,aR.of ht.1,rfl,_,rfl,p,_,_,.ref a.p,rfl,rfl,aR.of ht.1,rfl,_,rfl,d,a,as,rfl,ht.2.1,by lia,hD,fun u1 H1 s1 h1 r1=>?_⟩;refine⟨_,rfl,p,_,_,.ref b.p,rfl,rfl,aR.of (s1 _ _ ht.1),rfl,_,rfl,d,b,as,rfl,ht.2.2.ts (.of s1),by lia,hD.same s1,fun u2 H2 s2 h2 r2=>⟨by show 4<=sizeLine;decide,fun q hq=>?_⟩⟩;have s3:=aB hq (.tup [.str "op",.str s,.ref u1.p,.ref u2.p]);exact k (.op q s u1 u2) _ (s1.trans (s2.trans s3)) ⟨aC,h1.ts (.of (s2.trans s3)),h2.ts (.of s3)⟩ ⟨q,u1,u2,rfl,r1,r2⟩
 |nam p x =>
  obtain rfl:p=P:=hP;obtain⟨o,g1,g2⟩:=rA hD x;refine aV (fun z=>bY6 (ag z)) ⟨_,rfl,p,_,_,.str "name",rfl,rfl,aR.of ht,rfl,rfl,_,rfl,bH (af rfl) ?_⟩;refine⟨_,rfl,d,rfl,yX hD,_,rfl,p,_,_,.str x,rfl,rfl,aR.of ht,rfl,_,rfl,p,_,_,.str x,rfl,rfl,aR.of ht,rfl,o,g1,eY,fun q hq=>?_⟩;rw[g2];exact k (.nam q (nuA as x)) _ (aB hq _) aC ⟨q,rfl⟩
 |num p m =>
  obtain rfl:p=P:=hP;refine aV (fun z=>(show ¬(V.str "num"=V.str "op") by decide) (ag z)) ⟨_,rfl,p,_,_,.str "num",rfl,rfl,aR.of ht,rfl,rfl,_,rfl,aV (fun z=>(show ¬(V.str "num"=V.str "name") by decide) (ag z)) ⟨_,rfl,?_⟩⟩;exact k (.num p m) _ (bD.refl _) ht ⟨p,rfl⟩
theorem bL1{cT:Addr}(m_THROWS:mg "THROWS"=some (.ref cT))(hT:∀H,aR K H cT (cV.map V.str))(C_RnT:Cl P w K mg base 102 (aB6 101) "renamed_term"):fY P w K mg base "renamed_row" "renamed_row" bW4 103 ["row","names"] spRnR:=by
 refine iG ["row","names"] fun H Q nd hr h=>?_
 obtain⟨d,r,as,rfl,hr0,hD,k⟩:=h;have hu:=hG hr;refine⟨_,(aF (bA (dZ bN (bQ aJ (pv 0) aD) aG) (aE (aM (bE (aA aG (aA (rP hu (pv 1) (bQ aJ (pv 0) aD) (bQ aJ (pv 0) aD) ⟨rfl,rfl,rfl,rfl⟩) (aQ (bS C_RnT hr (aA (bQ aJ (pv 0) aD) (aQ (pv 1)))))))))) aP)
  (aF (bA (dZ dW (bQ aJ (pv 0) aD) (pgl m_THROWS)) (aE (aM (aS nC (bE (aA (bQ aJ (pv 0) aD) (aQ (rP hu (pv 1) (bQ aJ (pv 0) aD) (bQ aJ (pv 0) aD) ⟨rfl,rfl,rfl,rfl⟩)))) (cC kP (pv 0) (cS aD) dG)))) aP)
  (aF (bA (dZ dW (bQ aJ (pv 0) aD) (bE (aA aG (aQ aG)))) (aE (aM (aS nC (bE (aA (bQ aJ (pv 0) aD) (aQ (bS C_RnT hr (aA (bQ aJ (pv 0) aD) (aQ (pv 1))))))) (cC kP (pv 0) (cS aD) dG)))) aP)
  (aE (aM (pv 0)))))),?_⟩
 refine⟨_,rfl,r.p,_,_,.str r.w,rfl,rfl,aR.of hr0.at,jB,rfl,_,rfl,?_⟩;generalize hP:r.p=P
 cases r with
 |lt p x t =>
  obtain rfl:p=P:=hP;obtain⟨o,g1,g2⟩:=rA hD x;refine bH (af rfl) ?_;refine⟨_,rfl,d,rfl,yX hD,_,rfl,p,_,_,.str x,rfl,rfl,aR.of hr0.1,rfl,_,rfl,p,_,_,.str x,rfl,rfl,aR.of hr0.1,rfl,o,g1,?_⟩;rw[g2];refine⟨_,rfl,p,_,_,.ref t.p,rfl,rfl,aR.of hr0.1,rfl,_,rfl,d,t,as,rfl,hr0.2.1,ot hr0.2.2.2,hD,fun u H1 s1 h1 r1=>⟨by show 3<=sizeLine;decide,fun q hq=>?_⟩⟩;exact k (.lt q (nuA as x) u) _ (s1.trans (aB hq _)) ⟨aC,h1.ts (.of (aB hq _)),r1.fine hr0.2.2⟩ ⟨q,u,rfl,r1⟩
 |tell p t =>
  obtain rfl:p=P:=hP;refine aV (fun z=>wTL (ag z)) ⟨_,rfl,p,_,_,.str "tell",rfl,rfl,aR.of hr0.1,rfl,cT,_,rfl,.inr (hT _),rfl,cJ _,_,rfl,?_⟩;have ei:oY (V.str "tell") (cV.map V.str)=decide (("tell": Str)∈cV):=dQ _ _;refine aV (fun z=>absurd (ag (ei.symm.trans z)) (by decide)) ?_;refine⟨_,rfl,p,_,_,.str "tell",rfl,rfl,aR.of hr0.1,rfl,eY,fun t2 ht2=>?_⟩;have s1:=aB ht2 (.tup [.str "tell",.str "when"]);refine⟨t2,[.str "tell",.str "when"],rfl,.inr (aR.of aC),rfl,by decide,_,rfl,bH (by decide) ?_⟩;have h0:=s1 _ _ hr0.1;refine⟨_,rfl,p,_,_,.str "tell",rfl,rfl,aR.of h0,rfl,_,rfl,p,_,_,.ref t.p,rfl,rfl,aR.of h0,rfl,_,rfl,d,t,as,rfl,hr0.2.1.ts (.of s1),ot hr0.2.2.2,hD.same s1,fun u H1 s2 h1 r1=>⟨eY,fun q hq=>?_⟩⟩;have s3:=aB hq (.tup [.str "tell",.ref u.p]);have h3:aN H1 q (.tup [.str "tell",.ref u.p]) q=some (.tup [.str "tell",.ref u.p]):=aC
  have hp3:=s3 _ _ (s2 _ _ h0);generalize aN H1 q (.tup [.str "tell",.ref u.p])=H3 at s3 h3 hp3 ⊢;refine⟨_,rfl,_,rfl,p,_,rfl,aR.of hp3,aF5,fun c hc=>⟨q,c,_,_,rfl,rfl,aB hc _ _ _ h3,by rw[aC,aF2],by show 2+0<=sizeLine;decide,fun y H4 s4 h4=>?_⟩⟩;have sA:=s3.trans ((aB hc _).trans s4);exact k (.tell y u) _ (s1.trans (s2.trans sA)) ⟨h4,h1.ts (.of sA),r1.fine hr0.2.2⟩ ⟨y,u,rfl,r1⟩
 |when p pa pb t a b =>
  obtain rfl:p=P:=hP;refine aV (fun z=>wWL (ag z)) ⟨_,rfl,p,_,_,.str "when",rfl,rfl,aR.of hr0.1,rfl,cT,_,rfl,.inr (hT _),rfl,cJ _,_,rfl,?_⟩;have ei:oY (V.str "when") (cV.map V.str)=decide (("when": Str)∈cV):=dQ _ _;refine aV (fun z=>absurd (ag (ei.symm.trans z)) (by decide)) ?_;refine⟨_,rfl,p,_,_,.str "when",rfl,rfl,aR.of hr0.1,rfl,eY,fun t2 ht2=>?_⟩;have s1:=aB ht2 (.tup [.str "tell",.str "when"]);refine⟨t2,[.str "tell",.str "when"],rfl,.inr (aR.of aC),rfl,by decide,_,rfl,bH (by decide) ?_⟩;have h0:=s1 _ _ hr0.1;refine⟨_,rfl,p,_,_,.str "when",rfl,rfl,aR.of h0,rfl,_,rfl,p,_,_,.ref t.p,rfl,rfl,aR.of h0,rfl,_,rfl,d,t,as,rfl,hr0.2.1.ts (.of s1),ot hr0.2.2.1.2,hD.same s1,fun u H1 s2 h1 r1=>⟨eY,fun q hq=>?_⟩⟩;have s3:=aB hq (.tup [.str "when",.ref u.p]);have h3:aN H1 q (.tup [.str "when",.ref u.p]) q=some (.tup [.str "when",.ref u.p]):=aC
  have hp3:=s3 _ _ (s2 _ _ h0);generalize aN H1 q (.tup [.str "when",.ref u.p])=H3 at s3 h3 hp3 ⊢;refine⟨_,rfl,_,rfl,p,_,rfl,aR.of hp3,aF5,fun c hc=>⟨q,c,_,_,rfl,rfl,aB hc _ _ _ h3,by rw[aC,aF2],by show 2+2<=sizeLine;decide,fun y H4 s4 h4=>?_⟩⟩;have sA:=s3.trans ((aB hc _).trans s4);have sB:=s1.trans (s2.trans sA);exact k (.when y pa pb u a b) _ sB ⟨h4,h1.ts (.of sA),r1.fine hr0.2.2.1,sB _ _ hr0.2.2.2.1,sB _ _ hr0.2.2.2.2.1,aZ.ts (.of sB) _ hr0.2.2.2.2.2.1,aZ.ts (.of sB) _ hr0.2.2.2.2.2.2⟩ ⟨y,u,rfl,r1⟩
 |times p pb n b =>
  obtain rfl:p=P:=hP;refine aV (fun z=>wML (ag z)) ⟨_,rfl,p,_,_,.str "times",rfl,rfl,aR.of hr0.1,rfl,cT,_,rfl,.inr (hT _),rfl,cJ _,_,rfl,?_⟩;have ei:oY (V.str "times") (cV.map V.str)=decide (("times": Str)∈cV):=dQ _ _;refine aV (fun z=>absurd (ag (ei.symm.trans z)) (by decide)) ?_;refine⟨_,rfl,p,_,_,.str "times",rfl,rfl,aR.of hr0.1,rfl,eY,fun t2 ht2=>?_⟩;have s1:=aB ht2 (.tup [.str "tell",.str "when"]);refine⟨t2,[.str "tell",.str "when"],rfl,.inr (aR.of aC),rfl,by decide,_,rfl,aV (by decide) ⟨_,rfl,?_⟩⟩;exact k (.times p pb n b) _ s1 (eF.ts (.of s1) _ hr0) rfl
 |thr p w x vs am =>
  obtain rfl:p=P:=hP;have hw:=hr0.2.w;obtain⟨o,g1,g2⟩:=rA hD x;refine aV (fun z=>aS1 hw (ag z)) ⟨_,rfl,p,_,_,.str w,rfl,rfl,aR.of hr0.1,jB,cT,_,rfl,.inr (hT _),rfl,cJ _,_,rfl,?_⟩;have ei:oY (V.str w) (cV.map V.str)=decide (w∈cV):=dQ _ _;refine bH (ei.trans (af hw)) ?_;refine⟨_,rfl,p,_,_,.str w,rfl,rfl,aR.of hr0.1,jB,_,rfl,d,rfl,yX hD,_,rfl,p,_,_,.str x,rfl,rfl,aR.of hr0.1,at1,_,rfl,p,_,_,.str x,rfl,rfl,aR.of hr0.1,at1,o,g1,?_⟩;rw[g2];refine⟨eY,fun q hq=>?_⟩;have s3:=aB hq (.tup [.str w,.str (nuA as x)]);have h3:aN H q (.tup [.str w,.str (nuA as x)]) q=some (.tup [.str w,.str (nuA as x)]):=aC;have hp3:=s3 _ _ hr0.1;generalize aN H q (.tup [.str w,.str (nuA as x)])=H3 at s3 h3 hp3 ⊢;have hv:=aC9 hr0.2;refine⟨_,rfl,_,rfl,p,_,rfl,aR.of hp3,aF5,fun c hc=>⟨q,c,_,_,rfl,rfl,aB hc _ _ _ h3,by rw[aC,aF2],by show 2+vs.length<=sizeLine;exact cj (aL (by lia)),fun y H4 s4 h4=>?_⟩⟩
  have sA:=s3.trans ((aB hc _).trans s4);exact k (.thr y w (nuA as x) vs am) _ sA ⟨h4,hr0.2.ts (.of sA)⟩ ⟨y,rfl⟩
theorem bM0(C_Sts:Cl P w K mg base 3 spSteps "steps_of")(C_Bgn:Cl P w K mg base 1 spBegins "begins_rows")(m_tuple:mg "tuple"=none)(m_len:mg "len"=none):bP4 P w K mg base "rebuilt" "rebuilt" bZ2 105 103 ["rows","change"] spRb:=by
 refine cD8 ["rows","change","blocks","word","row","number","many","inner"] (fun Λ cv H Q nd hr hg hz h=>?_) (by intro _ _ _ _ _ _ h;first|(cases h;subst_vars;rfl)|((repeat obtain⟨_,h⟩:=h);subst_vars;rfl));obtain⟨p,f,rs,Chg,rfl,hp,hR,hc,hch,k⟩:=h;obtain rfl:=V.ref.inj (dg (show some (V.ref f)=some (V.ref _) from hg));refine⟨_,(eG 2 nd (bZ (aQ (bZ cX)))
  (aF (pfr (cU (bS C_Sts hr (aQ (pv 0)))) (iO rfl (aY (fG 3 nd) (aY (fG 4 nd) (aY (fG 5 nd) fB))))
  (aE (bA (fF (bS C_Bgn hr (aA (pv 3) (aQ (pv 4))))) (aE (cL (fA bo de df cQ (pv 2) (aQ (bZ cX))))) (aE (bA (dZ bN (pv 3) aG) (aE (cL (fA bo ir iu gT (bQ fE (pv 2) qQ) (aQ (bV2 (i:=1) Λ hz hr (aA (pv 4) (aQ (pv 5)))))))) (eG 6 nd (jU bG m_len cu (aQ (cC kP (pv 4) (cS aD) dG)))
  (eG 7 nd (sH cY m_tuple dq (aQ (dF ["block"] [none] (cU (cC iJ (pv 2) (cS (aM6 zM (pv 6))) dG)) (fun _ _ _ _=>(fG 0)) (fun _ _ _ _=>eT) (fun _ _ _ _=>(sH (bI6 K) m_tuple dq (aQ (pv 0)))))))
  (eG 2 nd (cC iJ (pv 2) dG (cS (aM6 zM (pv 6))))
  (aE (cL (fA bo ir iu gT (bQ fE (pv 2) qQ) (aQ (bV2 (i:=1) Λ hz hr (aA (aS nC (cC kP (pv 4) dG (cS aD)) (pv 7)) (aQ (pv 5))))))))))))))))
  (aE (aM (sH cY m_tuple dq (aQ (bQ fE (pv 2) aD))))))),?_⟩
 refine⟨bt _,fun a0 ha0=>⟨pA,fun lb0 hlb0=>?_⟩⟩;have s0:=(aB ha0 (.lst [])).trans (aB hlb0 (.lst [.ref a0]));have ga0:=aB hlb0 (.lst [.ref a0]) _ _ (show aN H a0 (.lst []) a0=some (.lst []) from aC);have gl0:aN (aN H a0 (.lst [])) lb0 (.lst [.ref a0]) lb0=some (.lst [.ref a0]):=aC;have n0:a0≠lb0:=aI (show aN H a0 (.lst []) a0=some (.lst []) from aC) hlb0;have fl0:H lb0=none:=(aB ha0 (.lst [])).free hlb0;generalize aN (aN H a0 (.lst [])) lb0 (.lst [.ref a0])=H0 at s0 ga0 gl0 ⊢;refine⟨_,rfl,p,rs,rfl,s0 _ _ hp,aZ.ts (.of s0) rs hR,hc,fun ls zs H2 s2 f2 h2 t2=>?_⟩;have s02:=s0.trans s2;have hR2:=aZ.ts (.of s02) rs hR;have wd:=aZ.wd rs hR;have zl:=t2.length;have sl:=dN rs 0;have nl1:ls≠a0:=(aI ga0 f2).symm;have nl2:ls≠lb0:=(aI gl0 f2).symm;have ga2:=s2 _ _ ga0;have gl2:=s2 _ _ gl0;have tsO:∀{G:Hp},eX [a0,lb0] H2 G->TS H2 G:=fun {G} o q xs e=>o q _ e fun z=>by
  simp only[List.mem_cons,List.not_mem_nil,or_false] at z;rcases z with z|z
  ·rw[z,ga2] at e;cases e
  ·rw[z,gl2] at e;cases e
 have smO:∀{G:Hp},eX [a0,lb0] H2 G->bD H G:=fun {G} o q u e=>o q _ (s02 _ _ e) fun z=>by
  simp only[List.mem_cons,List.not_mem_nil,or_false] at z;rcases z with z|z
  ·rw[z,ha0] at e;cases e
  ·rw[z,fl0] at e;cases e
 have lsO:∀{G:Hp},eX [a0,lb0] H2 G->G ls=some (.lst zs):=fun {G} o=>o _ _ h2 fun z=>by
  simp only[List.mem_cons,List.not_mem_nil,or_false] at z;exact z.elim nl1 nl2
 refine⟨ls,rfl,⟨_,bK.of h2⟩,gW (K:=K) (a:=ls) (xs:=zs) (fun i σ G=>∃(lb:Addr) (as:List Addr) (c:BSt) (v3 v4 v5 v6 v7:Option V),σ=[some (.ref p),some (.ref f),some (.ref lb),v3,v4,v5,v6,v7]/\eX [a0,lb0] H2 G/\G lb=some (.lst (as.reverse.map V.ref))/\(lb::as).Nodup/\(∀b∈lb::as,b∈[a0,lb0]\/H2 b=none)/\mF G i as c/\jT Chg ((bR 0 rs).take i) [[]] c/\dL bd ((bR 0 rs).take i) 1=some c.length/\c.length<=i+1)
  ⟨lb0,[a0],[[]],_,_,_,_,_,rfl,eX.refl _,gl2,by simp[n0.symm],fun b hb=> .inl (by simpa [or_comm] using hb),⟨⟨ga2,trivial,ah _⟩,trivial⟩,rfl,rfl,ah _⟩ (by rintro i σ G _ ⟨_,_,_,_,_,_,_,_,_,o,_⟩;exact bK.of (lsO o)) ?_ ?_⟩
 ·rintro D' i v σ G hv ⟨lb,as,c,v3,v4,v5,v6,v7,rfl,oG,gb,nd1,fr,bk,run,dp,cl⟩;obtain⟨s,hs,q,rfl,hq⟩:=lO t2 hv;have il:=(bf.mp hs).1;have hrs:=eF.ts (tsO oG) _ (eN rs 0 hR2 s (bq hs));obtain⟨m',bm,bm2⟩:=vR bd (jW rs 0 1 wd (ah _)) hs dp;refine⟨q,_,rfl,aR.of (tsO oG _ _ hq),rfl,_,_,rfl,_,_,rfl,_,_,rfl,rfl,?_⟩;refine⟨_,rfl,_,rfl,s,rfl,hrs,fun G1 s1=>⟨_,rfl,?_⟩⟩;have oG:=oG.trans (eX.of s1);have gb:=s1 _ _ gb;have bk:=bk.at (.of s1) (ah _) fun a _ o e=>s1 a o e
  have hrs:=eF.ts (.of s1) _ hrs;clear s1;have etk:=aX hs;obtain⟨nla,nda⟩:=cy.mp nd1;have bl:=bk.len
  by_cases co:eR s=true
  ·refine bH co ⟨_,rfl,.inl ⟨rfl,_,bK.of gb⟩,bt _,fun a ha=>?_⟩;have sa:=aB ha (.lst []);have nba:=aI gb ha;have fa:=aC4 oG ha;have ga:aN G1 a (.lst []) a=some (.lst []):=aC;generalize aN G1 a (.lst [])=G2 at sa ga ⊢;refine⟨lb,_,_,rfl,rfl,sa _ _ gb,by rw[ac,du];exact gR (by lia),?_⟩;have tN:=TS.lst (ys:=as.reverse.map V.ref++[.ref a]) (sa _ _ gb);have em:m'=c.length+1:=by
    unfold bd at bm;rw[bg co] at bm;exact(dg bm).symm
   have naa:a∉as:=fun z=>by
    obtain⟨o,e⟩:=bk.mem a z;rw[ha] at e;cases e
   refine⟨lb,a::as,[]::c,_,_,_,_,_,rfl,vF (oG.trans (eX.of sa)) (fr lb aq),by rw[aC,db,au];rfl,?_,fun b hb=>?_,⟨⟨(aH nba.symm).trans ga,trivial,bt _⟩,bk.at ((TS.of sa).trans tN) (gg i) fun b hb o e=>(aH fun z=>nla (by rw[<-z];exact hb)).trans (sa _ _ e)⟩,?_,?_,by rw[bz];lia⟩
   ·rw[cy,cy];exact⟨fun z=>by
     rcases bu.mp z with z|z
     ·exact nba z
     ·exact nla z,naa,nda⟩
   ·rcases bu.mp hb with z|z
    ·rw[z];exact fr lb aq
    ·rcases bu.mp z with z|z
     ·rw[z];exact fa
     ·exact fr b (ak _ z)
   ·rw[etk];exact run.snoc (by unfold iS;rw[bg co])
   ·rw[bm2,em,bz]
  ·refine aV co ⟨_,rfl,rfl,_,rfl,?_⟩
   by_cases cr:s.1="row"
   ·refine bH (by rw[cr];exact af rfl) ?_;have bm:=bm;unfold bd at bm;rw[av co,bg cr] at bm;obtain⟨B,st,rfl⟩:∃B st,c=B::st:=by
     cases c with
     |nil=>rw[av (by decide)] at bm;cases bm
     |cons B st=>exact⟨B,st,rfl⟩
    rw[bg (by rw[bz];lia)] at bm;obtain⟨a,as',rfl⟩:∃a as',as=a::as':=by
     cases as with
     |nil=>exact bk.elim
     |cons a as'=>exact⟨a,as',rfl⟩
    obtain⟨⟨ga,hB,lB⟩,bk⟩:=bk;refine⟨_,rfl,lb,_,_,.ref a,rfl,rfl,bK.of gb,by rw[db,au];exact aD3,.inl ⟨rfl,_,bK.of ga⟩,rfl,_,rfl,_,rfl,_,_,rfl,hch s.2.1 s.2.2 G1 _ (smO oG) hrs fun l o G2 s2' hl hro hcg lo=>?_⟩;refine⟨a,l,_,_,rfl,rfl,s2' _ _ ga,hl,by rw[bB,bB];exact cj (gR (by lia)),?_⟩;have tN:=TS.lst (ys:=bL B++bL o) (s2' _ _ ga);have nba:lb≠a:=fun z=>nla (by rw[z];exact aq)
    refine⟨lb,a::as',(B++o)::st,_,_,_,_,_,rfl,vF (oG.trans (eX.of s2')) (fr a (ak _ aq)),(aH nba).trans (s2' _ _ gb),nd1,fr,⟨⟨by rw[aC,dS],aZ.app (aZ.ts ((TS.of s2').trans tN) _ hB) (aZ.ts tN _ hro),by rw[ao];lia⟩,bk.at ((TS.of s2').trans tN) (gg i) fun b hb o e=>(aH fun z=>(cy.mp nda).1 (by rw[<-z];exact hb)).trans (s2' _ _ e)⟩,?_,?_,by rw[bz] at cl ⊢;lia⟩
    ·rw[etk];exact run.snoc (by unfold iS;rw[av co,bg cr];exact⟨B,st,o,rfl,hcg,rfl⟩)
    ·rw[bm2, <-bm,bz,bz]
   ·refine aV (fun z=>cr (by have z:=ag z;injection z)) ?_;obtain⟨Bs,B,st,x,y,us,rfl,lB,hu2,em,hp',mk⟩:=aL7 (Chg:=Chg) hrs co cr bm;obtain⟨xs',ys',rfl,bk1,bk2⟩:=bk.split;obtain⟨a,as',rfl⟩:∃a as',ys'=a::as':=by
     cases ys' with
     |nil=>exact bk2.elim
     |cons a as'=>exact⟨a,as',rfl⟩
    have bk1r:=bk1.rev;rw[List.reverse_reverse] at bk1r;have zlen:(xs'.reverse.map V.ref).length=us.length:=by rw[ac,bk1r.len,lB]
    have u1:1<=us.length:=by lia
    have gb:G1 lb=some (.lst ((a::as').reverse.map V.ref++xs'.reverse.map V.ref)):=by rw[gb,xo,au]
    refine⟨_,rfl,_,rfl,s.2.1.p,_,rfl,aR.of hp',aF5,fun t ht=>?_⟩;rw[aF2];obtain⟨G2,e0,st,gt⟩:=pQ ht (.tup us);rw[e0];clear e0;refine⟨t,us,rfl,.inr (aR.of gt),?_⟩;refine⟨_,rfl,_,rfl,_,rfl,_,rfl,lb,_,rfl,bK.of (st _ _ gb),fun l6 hl6=>?_⟩;rw[bD6 zlen u1];have s6:=st.trans (aB hl6 (.lst (xs'.reverse.map V.ref)));have g6:aN G2 l6 (.lst (xs'.reverse.map V.ref)) l6=some (.lst (xs'.reverse.map V.ref)):=aC;generalize aN G2 l6 (.lst (xs'.reverse.map V.ref))=G6 at s6 g6 ⊢;refine⟨l6,rfl,⟨_,bK.of g6⟩,cZ (K:=K) (a:=l6) (xs:=xs'.reverse.map V.ref) (fun j ys σ G'=>bD G6 G'/\(∃v,σ=[v])/\fQ (aA0 G') ys (Bs.take j))
     (aL (by lia)) ⟨bD.refl _,⟨_,rfl⟩,trivial⟩ (by rintro j ys σ G' ⟨_,_,e⟩;rw[e.length,ci];lia) (by rintro j ys σ G' _ ⟨e,_⟩;exact bK.of (e _ _ g6)) ?_ ?_⟩
    ·rintro j v ys σ G' hv ⟨sG,⟨v',rfl⟩,tw⟩;rw[cq] at hv;obtain⟨b,hb,rfl⟩:=lh.mp hv;obtain⟨B',hB',gB,rB,_⟩:=bk1r.get hb;refine⟨_,rfl,b,_,rfl,.inl ⟨bK.of ((s6.trans sG) _ _ gB),fun t' ht'=>?_⟩⟩;have sn:=aB ht' (.tup (bL B'));refine⟨sG.trans sn,⟨_,rfl⟩,?_⟩;rw[aX hB'];exact vA ⟨t',rfl,aC,aZ.ts (.of (s6.trans (sG.trans sn))) _ rB⟩ (tw.mono fun _ _ z=>z.ts (.of sn))
    rintro ys σ G7 ⟨sG,_,tw⟩ l7 hl7;rw[zlen, <-lB,cm] at tw;have yl:=tw.length;refine⟨l7,_,rfl,.inl ⟨bK.of aC,fun u hu'=>?_⟩⟩;have s8:=s6.trans (sG.trans ((aB hl7 (.lst ys)).trans (aB hu' (.tup ys))));have tw:=tw.mono fun _ _ z=>aA0.ts (.of ((aB hl7 (.lst ys)).trans (aB hu' (.tup ys)))) z
    have gu:aN (aN G7 l7 (.lst ys)) u (.tup ys) u=some (.tup ys):=aC;generalize aN (aN G7 l7 (.lst ys)) u (.tup ys)=G8 at s8 tw gu ⊢;refine⟨_,rfl,_,rfl,_,rfl,_,rfl,lb,_,rfl,bK.of (s8 _ _ gb),fun lb2 hlb2=>?_⟩;rw[aF7 zlen u1];have s9:=aB hlb2 (.lst ((a::as').reverse.map V.ref));have g9:aN G8 lb2 (.lst ((a::as').reverse.map V.ref)) lb2=some (.lst ((a::as').reverse.map V.ref)):=aC;have f9:=aC4 (oG.trans (eX.of s8)) hlb2;have s19:=s8.trans s9;have nmem:∀b∈a::as',b≠lb2:=fun b hb z=>by
     obtain⟨o,e⟩:=bk2.mem b hb;rw[z] at e;rw[s8 _ _ e] at hlb2;cases hlb2
    have tw:=tw.mono fun _ _ z=>aA0.ts (.of s9) z
    have gu:=s9 _ _ gu;generalize aN G8 lb2 (.lst ((a::as').reverse.map V.ref))=G9 at s9 g9 s19 tw gu ⊢;obtain⟨⟨ga,hB,lBn⟩,bk3⟩:=bk2;obtain⟨u0,ur,rfl⟩:∃u0 ur,us=u0::ur:=by
     cases us with
     |nil=>exact absurd u1 (by decide)
     |cons u0 ur=>exact⟨u0,ur,rfl⟩
    refine⟨_,rfl,lb2,_,_,.ref a,rfl,rfl,bK.of g9,by rw[db,au];exact aD3,.inl ⟨rfl,_,bK.of (s19 _ _ ga)⟩,rfl,?_⟩;refine⟨_,rfl,_,rfl,s.2.1.p,_,rfl,aR.of (s19 _ _ hp'),cA6,fun t2 ht2=>?_⟩;rw[cD3];have s10:=aB ht2 (.tup [x,y]);refine⟨_,rfl,t2,u,_,_,rfl,rfl,aC,s10 _ _ gu,by show 2+_<=_;exact cj (aL (by lia)),fun qn G11 s11 h11=>⟨_,rfl,_,_,rfl,?_⟩⟩;have sB:=s19.trans (s10.trans s11);obtain⟨r',rfl,hr',mk'⟩:=mk qn ys G11 h11 (tw.mono fun _ _ z=>z.ts (.of (s10.trans s11))) (.of sB);refine hch r' s.2.2 G11 _ (smO (oG.trans (eX.of sB))) hr' fun l o G12 s12 hl hro hcg lo=>?_
    have sC:=sB.trans s12;refine⟨a,l,_,_,rfl,rfl,sC _ _ ga,hl,by rw[bB,bB];exact cj (gR (by lia)),?_⟩;have tN:=TS.lst (ys:=bL B++bL o) (sC _ _ ga);have nd2:=(jk.mp nda).2.1;refine⟨lb2,a::as',(B++o)::_,_,_,_,_,_,rfl,vF (oG.trans (eX.of sC)) (fr a (ak _ (bh _ aq))),(aH (nmem a aq).symm).trans ((s10.trans (s11.trans s12)) _ _ g9),cy.mpr ⟨fun z=>nmem lb2 z rfl,nd2⟩,fun b hb=>?_,⟨⟨by rw[aC,dS],aZ.app (aZ.ts ((TS.of sC).trans tN) _ hB) (aZ.ts tN _ hro),by rw[ao];lia⟩,bk3.at ((TS.of sC).trans tN) (gg i) fun b hb o e=>(aH fun z=>(cy.mp nd2).1 (by rw[<-z];exact hb)).trans (sC _ _ e)⟩,?_,?_,?_⟩
    ·rcases bu.mp hb with z|z
     ·rw[z];exact f9
     ·exact fr b (ak _ (bh _ z))
    ·rw[etk];exact run.snoc (mk' o hcg)
    ·rw[bm2,em];rfl
    ·rw[ao] at cl;rw[bz] at cl ⊢;lia
 ·rintro σ G ⟨lb,as,c,v3,v4,v5,v6,v7,rfl,oG,gb,nd1,fr,bk,run,dp,cl⟩;rw[zl,cm] at run;obtain⟨o,ro,rfl⟩:=kG rs 0 wd run
  match as,bk with
  |[a],⟨⟨ga,hB,_⟩,_⟩ =>
   exact⟨_,rfl,lb,_,_,.ref a,rfl,rfl,bK.of gb,rfl,a,_,rfl,.inl ⟨bK.of ga,fun q hq=>k q o _ ((smO oG).trans (aB hq _)) aC (aZ.ts (.of (aB hq _)) _ hB) ro⟩⟩
def aM3(Pt:Addr):sI:=⟨Pt,cE4 yJ,"renamed.<locals>.<lambda>"⟩
def bO5(C_RnR:Cl P w K mg base 103 spRnR "renamed_row"):wH P w K mg base 103 where
 ar:=(cE9 yJ).getD ⟨[],[],none,[],[],none,[]⟩
 body:=cE2 yJ
 sc:=bV5 yJ
 p1:="row"
 p2:="number"
 cn:=["names"]
 te:=cA7 (pY (qL spRnR [] E0 (pY (xY 0) (pY (xY 2) tNil))) tNil)
 S:=⟨rfl,rfl,rfl,by decide,by decide,by decide,by decide,by decide⟩
 hb:=by intros;rfl
 h:=fun qual f c cl A outer s H hr=>bZ (aQ (bS C_RnR hr (aA (pv 0) (aQ (pv 2)))))
theorem bJ6{c Pt:Addr}(C_Rbl:ClZ P w K mg base 105 103 spRb "rebuilt")(C_RnR:Cl P w K mg base 103 spRnR "renamed_row")(B:yI base mg c Pt):bM7 P w K mg base "renamed" "renamed" yJ 106 ["rows","names"] c (aT5 (aM3 Pt)):=by
 refine cB2 ["rows","names"] (fun H Q nd hr h=>?_) (by intro _ _ _ _ h;first|(cases h;subst_vars;rfl)|((repeat obtain⟨_,h⟩:=h);subst_vars;rfl));obtain⟨p,d,rs,as,rfl,hT,hp,hR,hc,hD,k⟩:=h;have key:∀y∈(bV5 yJ).names,y.2= .free->y.1="names":=by decide
 refine⟨_,(aE (aM (cB1 C_Rbl (bO5 C_RnR) hr (aA (pv 0) (aQ (bK6 B rfl fun y hy hf=> .inl (by rw[key y hy hf];rfl)))) fun y hy hf=>by rw[key y hy hf];rfl))),?_⟩;obtain⟨ps,eP⟩:=hT.is;have eP:H Pt=some (.tbl ps):=eP;refine⟨_,rfl,hT,fun f' c' H1 hT1 o1 hf hL=>?_⟩;have t1:TS H H1:=o1.ts eP;have hD1:NmD H1 d as:=o1 d _ hD fun z=>by rw[z] at hD;unfold NmD at hD;rw[eP] at hD;cases hD
 refine⟨f',c',_,[("names",.ref d)],rfl,hL,rfl,fun y hy=>⟨1,by rw[cg.mp hy];rfl,by rw[cg.mp hy];rfl⟩,p,f',rs,bO7 (nuA as),rfl,t1 _ _ hp,aZ.ts t1 rs hR,hc,fun r n G W sG hrG next=>?_,fun q o H' s' hq ho ro=>?_⟩
 ·refine⟨_,rfl,_,rfl,d,r,as,rfl,hrG,hD1.same sG,fun q G1 s1 hq r1=>⟨pA,fun l hl=>?_⟩⟩;exact next l [q] _ (s1.trans (aB hl _)) aC ⟨eF.ts (.of (aB hl _)) _ hq,trivial⟩ ⟨q,rfl,r1⟩ (ah _)
 ·exact k q o H' (o1.trans (jF.of s')) (hT1.same s') hq ho (kU rs 0 ro)
theorem bM3{cF D:Addr}{L:sI}(m_NoFit:mg "NoFit"=some (.ref cF))(M_NoFit:XMk K cF D none)(C_Ren:Cl P w K mg base 106 (aT5 L) "renamed")(C_NwN:Cl P w K mg base 6 spNewN "new_names"):bN6 P w K mg base "behind" "behind" cA1 108 ["one","other"] (aL0 cF L):=by
 refine cD1 ["one","other"] (fun H Q nd hr h=>?_) (by rintro _ _ _ _ ⟨_,_,_,_,_,_,_,_,rfl,_⟩;rfl);obtain⟨p,q,K1,K2,rs1,rs2,m1,m2,rfl,hT,P1,P2,hm,way⟩:=h;refine⟨_,(aF (bA (dZ (qR hr) (bQ aJ (pv 0) aD) (bQ aJ (pv 1) aD)) (aE (aH4 (by rfl) m_NoFit M_NoFit)) aP)
  (aE (aM (bE (aA (bQ aJ (pv 0) aD) (aQ (aS nC (bQ aJ (pv 0) aD) (bS C_Ren hr (aA (bQ aJ (pv 1) aD) (aQ (bS C_NwN hr (aA (pv 0) (aQ (pv 1)))))))))))))),?_⟩
 obtain⟨pk,pr,hp,hpk,hpr⟩:=P1.ex;obtain⟨qk,qr,hq,hqk,hqr⟩:=P2.ex;refine⟨_,rfl,p,_,_,.ref pk,rfl,rfl,aR.of hp,rfl,_,rfl,q,_,_,.ref qk,rfl,rfl,aR.of hq,rfl,pk,qk,K1,K2,rfl,rfl,.inr ⟨aR.of hpk,aR.of hqk⟩,_,rfl,?_⟩;rcases way with⟨rfl,k⟩|⟨ne,k⟩
 rotate_left
 ·rw[ba ne];exact bH rfl (k _ (bD.refl _))
 rw[af rfl];refine aV (by decide) ?_;refine⟨_,rfl,p,_,_,.ref pk,rfl,rfl,aR.of hp,rfl,_,rfl,p,_,_,.ref pr,rfl,rfl,aR.of hp,rfl,?_⟩;refine⟨_,rfl,q,_,_,.ref qr,rfl,rfl,aR.of hq,rfl,_,rfl,_,rfl,p,q,K1,K1,rs1,rs2,m1,m2,rfl,P1,P2,by lia,fun d as H1 s1 f1 hD nu=>?_⟩;have c2:=P2.cnt;have c1:=P1.cnt;refine⟨qr,d,rs2,as,rfl,hT.same s1,s1 _ _ hqr,aZ.ts (.of s1) _ P2.rows,by lia,hD,fun t o H2 o2 hT2 ht ho R=>?_⟩;obtain⟨ps,eP⟩:=(hT.same s1).is;have t2:TS H1 H2:=o2.ts eP;have tA:=(TS.of s1).trans t2;have cl:=gE rs1;have co:=gE o;have ce:=R.cnt;refine⟨pr,t,_,_,rfl,rfl,tA _ _ hpr,ht,by rw[bB,bB];exact cj (aL (by lia)),fun u H3 s3 h3=>⟨eY,fun r hr'=>?_⟩⟩;rw[<-dS] at h3;have s4:=aB hr' (.tup [.ref pk,.ref u]);have sB:=s3.trans s4;have tB:=tA.trans (.of sB);have ho':=aZ.ts (.of sB) _ ho;exact k r o _ _ (((jF.of s1).trans o2).trans (jF.of sB)) (hT2.same sB) (nN.behind (P1.ts tB) (P2.ts tB) hm R aC (tB _ _ hpk) (s4 _ _ h3) ho') ho' R nu
theorem aS4(n:Nat)(C_Flt46:Cl P w K mg base (n+1) (aC8 n) "_law_flat"):fY P w K mg base "_law_flat" "_law_flat" aX5 (n+1+1) ["_law_rows_here"] (aC8 (n+1)):=by
 refine iG ["_law_rows_here","_law_found","_law_row_here"] fun H Q nd hr h=>?_
 obtain⟨p,rs,rfl,hp,hR,hd,hc,k⟩:=h;refine⟨_,(eG 1 nd (bZ cX)
  (aF (pfr (aW6 (pv 0)) (fG 2 nd)
  (aF (cL (fA bo de df cQ (pv 1) (aQ (pv 2))))
  (aF (jG (bA (dZ bN (bQ aJ (pv 2) aD) aG) (aE (cL (fA bo ir iu gT (pv 1) (aQ (aS eI (bS C_Flt46 hr (aQ (bQ aJ (pv 2) aD))) (bS C_Flt46 hr (aQ (bQ aJ (pv 2) aD)))))))) aP))
  (aE (jG (bA (dZ bN (bQ aJ (pv 2) aD) aG) (aE (cL (fA bo ir iu gT (pv 1) (aQ (bS C_Flt46 hr (aQ (bQ aJ (pv 2) aD))))))) aP))))))
  (aE (aM (pv 1))))),?_⟩
 refine⟨bt _,fun lo hlo=>?_⟩;obtain⟨H1,e0,s1,g1⟩:=pQ hlo (.lst []);rw[e0];clear e0;have pne:p≠lo:=aI hp hlo;have t1:∀{G:Hp},eU lo H1 G->TS H G:=fun {G} b q ys e=>b q _ (s1 _ _ e) (fun z=>by rw[z,hlo] at e;cases e)
 have pl:=eB;have tot:∀n,(dA (rs.take n)).length<=900:=fun n=>by
  have:dA rs=dA (rs.take n)++dA (rs.drop n):=by rw[<-fL,ly]
  have h2:=dz List.length this;rw[ao,pl] at h2;lia
 refine⟨_,rfl,p,rfl,⟨_,aR.of (s1 _ _ hp)⟩,aP6 (K:=K) (a:=p) (xs:=bL rs) (fun i σ G=>∃v2,σ=[some (.ref p),some (.ref lo),v2]/\eU lo H1 G/\G lo=some (.lst (bL (dA (rs.take i)))))
  ⟨_,rfl,eU.refl,g1⟩ (by rintro i σ G _ ⟨_,_,b,_⟩;exact aR.of (t1 b _ _ hp)) ?_ ?_⟩
 ·rintro D' i v σ G hv ⟨v2,rfl,b1,g2⟩;obtain⟨r,hr0,rfl⟩:=oM hv;have hm:=bq hr0;have hR2:=aZ.ts (t1 b1) rs hR;have hrr:=aZ.mem hR2 r hm;have hdr:r.dp<=n:=cp (zZ hm) hd;have e1:dA (rs.take (i+1))=dA (rs.take i)++gJ r:=by rw[aX hr0,fL];simp[dA]
  have t1':=tot (i+1);have t0:=tot i;rw[e1,ao] at t1';have lR:(bL (dA (rs.take i))).length<=900:=by rw[bB];exact t0
  refine⟨_,rfl,.inl ⟨rfl,_,bK.of g2⟩,_,rfl,lo,_,_,rfl,rfl,g2,aL (by lia),?_⟩;have tN:=TS.lst (ys:=bL (dA (rs.take i))++[.ref r.p]) g2;have g3:aN G lo (.lst (bL (dA (rs.take i))++[.ref r.p])) lo=some (.lst (bL (dA (rs.take i)++[r]))):=by rw[aC,dS];rfl
  have b3:=b1.trans (eU.upd (d:=lo) (o:= .lst (bL (dA (rs.take i))++[.ref r.p])));have hrr3:=eF.ts tN r hrr;generalize aN G lo (.lst (bL (dA (rs.take i))++[.ref r.p]))=G3 at g3 b3 hrr3 ⊢;clear b1 g2 tN hrr hR2;have ext:∀{G:Hp}{l:Addr}{L:List Rw}(b:eU lo H1 G),G lo=some (.lst (bL L))->∀zs,eU lo H1 (aN G lo (.lst (bL L++zs))):=fun b _ zs=>b.trans eU.upd
  refine⟨fun σ' G'=>∃L:List Rw,σ'=[some (.ref p),some (.ref lo),some (.ref r.p)]/\eU lo H1 G'/\G' lo=some (.lst (bL (dA (rs.take i)++L)))/\(r.w="when"->L=gJ r)/\(r.w≠"when"->L=[r]),?_,?_⟩
  ·refine⟨_,rfl,r.p,_,_,.str r.w,rfl,rfl,aR.of hrr3.at,jB,rfl,_,rfl,?_⟩
   cases r with
   |when q pa pb t a b =>
    refine bH (af rfl) ?_;simp only[gJ,List.length_cons,List.length_append] at t1';simp only[Rw.dp] at hdr
    cases n with
    |zero=>exact absurd hdr (by lia)
    |succ n =>
    have ca:=eB a;have cb:=eB b;refine⟨_,rfl,.inl ⟨rfl,_,bK.of g3⟩,_,rfl,q,_,_,.ref pa,rfl,rfl,aR.of hrr3.1,rfl,pa,a,rfl,hrr3.2.2.2.1,hrr3.2.2.2.2.2.1,by lia,by lia,fun l4 H4 s4 h4=>?_⟩;refine⟨_,rfl,q,_,_,.ref pb,rfl,rfl,aR.of (s4 _ _ hrr3.1),rfl,pb,b,rfl,s4 _ _ hrr3.2.2.2.2.1,aZ.ts (.of s4) _ hrr3.2.2.2.2.2.2,by lia,by lia,fun l5 H5 s5 h5=>?_⟩;refine⟨l4,l5,_,_,rfl,rfl,s5 _ _ h4,h5,by rw[bB,bB];exact cj (aL (by lia)),fun l6 hl6=>?_⟩;have s6:=s4.trans (s5.trans (aB hl6 (.lst (bL (dA a)++bL (dA b)))));refine⟨lo,l6,_,_,rfl,rfl,s6 _ _ g3,aC,by rw[ao,bB,bB,bB,ao];exact cj (aL (by simp only[List.length_cons,List.length_nil];lia)),?_⟩;refine⟨gJ (.when q pa pb t a b),rfl,(b3.trans (eU.of s6)).trans eU.upd,?_,fun _=>rfl,fun z=>absurd rfl z⟩;rw[aC, <-dS, <-dS];simp[gJ]
   |times q pb m b =>
    exact aV (fun z=>absurd (ag z) (by show ¬(V.str "times"=V.str "when");decide)) ⟨[_],rfl,b3,g3,fun z=>absurd z (show ¬("times": Str)="when" by decide),fun _=>rfl⟩
   |lt q x t=>exact aV (fun z=>absurd (ag z) (by show ¬(V.str "let"=V.str "when");decide)) ⟨[_],rfl,b3,g3,fun z=>absurd z (show ¬("let": Str)="when" by decide),fun _=>rfl⟩
   |tell q t=>exact aV (fun z=>absurd (ag z) (by show ¬(V.str "tell"=V.str "when");decide)) ⟨[_],rfl,b3,g3,fun z=>absurd z (show ¬("tell": Str)="when" by decide),fun _=>rfl⟩
   |thr q w x us am =>
    have hw:w≠"when":=fun z=>absurd hrr3.2.w (by rw[z];decide)
    exact aV (fun z=>hw (by have z:=ag z;injection z)) ⟨[_],rfl,b3,g3,fun z=>absurd z hw,fun _=>rfl⟩
  ·rintro σ' G4 ⟨L,rfl,b4,g4,w1,w2⟩;have hrr4:=aZ.mem (aZ.ts (t1 b4) rs hR) r hm;rw[e1];refine⟨fun σ' G'=>σ'=[some (.ref p),some (.ref lo),some (.ref r.p)]/\eU lo H1 G'/\G' lo=some (.lst (bL (dA (rs.take i)++gJ r))),?_,?_⟩
   ·refine⟨_,rfl,r.p,_,_,.str r.w,rfl,rfl,aR.of hrr4.at,jB,rfl,_,rfl,?_⟩
    cases r with
    |when q pa pb t a b =>
     rw[w1 rfl] at g4;exact aV (fun z=>absurd (ag z) (by show ¬(V.str "when"=V.str "times");decide)) ⟨rfl,b4,g4⟩
    |times q pb m b =>
     refine bH (af rfl) ?_;rw[w2 (show ¬("times": Str)="when" by decide)] at g4;simp only[gJ,List.length_cons] at t1';simp only[Rw.dp] at hdr
     cases n with
     |zero=>exact absurd hdr (by lia)
     |succ n =>
     have cb:=eB b;refine⟨_,rfl,.inl ⟨rfl,_,bK.of g4⟩,_,rfl,q,_,_,.ref pb,rfl,rfl,aR.of hrr4.1,rfl,pb,b,rfl,hrr4.2.1,hrr4.2.2,by lia,by lia,fun l5 H5 s5 h5=>?_⟩;refine⟨lo,l5,_,_,rfl,rfl,s5 _ _ g4,h5,by rw[bB,bB,ao];exact cj (aL (by simp only[List.length_cons,List.length_nil];lia)),?_⟩;refine⟨rfl,(b4.trans (eU.of s5)).trans eU.upd,?_⟩;rw[aC, <-dS];simp[gJ]
    |lt q x t =>
     rw[w2 (show ¬("let": Str)="when" by decide)] at g4;exact aV (fun z=>absurd (ag z) (by show ¬(V.str "let"=V.str "times");decide)) ⟨rfl,b4,g4⟩
    |tell q t =>
     rw[w2 (show ¬("tell": Str)="when" by decide)] at g4;exact aV (fun z=>absurd (ag z) (by show ¬(V.str "tell"=V.str "times");decide)) ⟨rfl,b4,g4⟩
    |thr q w x us am =>
     rw[w2 (fun z=>absurd hrr4.2.w (by rw[show w="when" from z];decide))] at g4;exact aV (fun z=>absurd hrr4.2.w (by have z:=ag z;injection z with z;rw[show w="times" from z];decide)) ⟨rfl,b4,g4⟩
   ·rintro σ' G5 ⟨rfl,b5,g5⟩;exact⟨_,rfl,b5,g5⟩
 ·rintro σ G ⟨v2,rfl,b1,g2⟩;rw[bB,cm] at g2;exact⟨_,rfl,k lo G (b1.same s1 hlo) g2⟩
theorem bI2(m_isinstance:mg "isinstance"=none)(m_str:mg "str"=none):fY P w K mg base "_law_name_told" "_law_name_told" bS7 1 ["_law_found","_law_x","_law_names_here"] spNmT:=by
 refine iG ["_law_found","_law_x","_law_names_here"] fun H Q nd hr h=>?_
 obtain⟨d,S,ν,x,T,rfl,hD,hT,hx,hS,k⟩:=h;refine⟨_,(aE (aM (dR (jU gF m_isinstance dy (aA (pv 0) (aQ (kX (v:= .ty "str") (by rfl) m_str PyProof.Rows.boot_str rfl)))) (dO (nM bN (aZ2 (pv 2) (pv 1) (pv 0) ⟨rfl,rfl,rfl,rfl⟩) (pv 0)))))),?_⟩;refine⟨_,rfl,_,_,_,true,rfl,.str _,rfl,_,rfl,?_⟩;refine bH rfl ?_;have nl:S.length<=900:=hT.le hD.2 hS;refine⟨_,rfl,d,rfl,.inl ⟨_,.inl hD.1⟩,_,rfl,_,rfl,_,Sum.inr x,hD.1,rfl,aL (by rw[ac];lia),fun v hv=>?_,fun hv=>?_⟩
 ·rw[pI] at hv
  by_cases c:x∈S
  ·rw[bg c] at hv
   cases hv
   refine⟨_,rfl,rfl,?_⟩;rw[af rfl];exact k S _ eU.refl hD fun y=>⟨.inl,fun z=>z.elim id fun e=>e ▸ c⟩
  ·rw[av c] at hv;cases hv
 ·rw[pI] at hv
  by_cases c:x∈S
  ·rw[bg c] at hv;cases hv
  ·rw[bA3 c];refine⟨_,rfl,rfl,?_⟩;rw[af rfl];exact k (S++[x]) _ eU.upd ⟨aC,jk.mpr ⟨hD.2,by simp,fun a ha b hb e=>c (by rw[List.mem_singleton.mp hb] at e;rw[<-e];exact ha)⟩⟩ fun y=>by simp
theorem bL7(n:Nat)(C_NmT:Cl P w K mg base 1 spNmT "_law_name_told")(C_TmT:Cl P w K mg base (n+1) (aD7 n) "_law_term_told")(m_isinstance:mg "isinstance"=none)(m_tuple:mg "tuple"=none)(m_len:mg "len"=none):fY P w K mg base "_law_term_told" "_law_term_told" bX2 (n+1+1) ["_law_found","_law_term_here","_law_names_here"] (aD7 (n+1)):=by
 refine iG ["_law_found","_law_term_here","_law_names_here","_law_told_here"] fun H Q nd hr h=>?_
 obtain⟨d,S,ν,t,u,T,rfl,hD,ht,hu0,R,hn,hT,hx,hS,k⟩:=h;refine⟨_,(aF (bA (fC (PW.pt (kO (gK (fF (jU gF m_isinstance dy (aA (pv 0) (aQ (kX (v:= .ty "tuple") (by rfl) m_tuple dq rfl)))))) (kO (dZ rT (jU bG m_len cu (aQ (pv 0))) (jU bG m_len cu (aQ (pv 1)))) (kB (dZ rT (bQ aJ (pv 0) aD) (bQ aJ (pv 1) aD))))))) (aE (aM fS)) aP)
  (aF (bA (dZ bN (bQ aJ (pv 1) aD) aG) (aE (aM (bS C_NmT hr (aA (bQ aJ (pv 0) aD) (aA (bQ aJ (pv 1) aD) (aQ (pv 2))))))) aP)
  (aF (bA (dZ bN (bQ aJ (pv 1) aD) aG) (eG 3 nd (dR (bS C_TmT hr (aA (bQ aJ (pv 0) aD) (aA (bQ aJ (pv 1) aD) (aQ (pv 2))))) (dO (bS C_TmT hr (aA (bQ aJ (pv 0) aD) (aA (bQ aJ (pv 1) aD) (aQ (pv 2)))))))
  (aE (aM (dR (nM bN (bQ aJ (pv 0) aD) (bQ aJ (pv 1) aD)) (dO (pv 3)))))) aP)
  (aE (aM (nM (oI hr) (pv 0) (pv 1))))))),?_⟩
 have sh:=R.shape;refine⟨fun b G=>b=false/\G=H,?_,?_⟩
 ·refine⟨_,rfl,_,_,_,true,rfl,.tup hu0.at,rfl,_,rfl,aV (by decide) ?_⟩;refine⟨_,rfl,u.p,_,rfl,.inr (aR.of hu0.at),_,rfl,t.p,_,rfl,.inr (aR.of ht.at),rfl,_,rfl,?_⟩;refine aV (by simp[sh.2]) ?_;refine⟨_,rfl,u.p,_,_,.str u.w,rfl,rfl,aR.of hu0.at,jB,_,rfl,t.p,_,_,.str t.w,rfl,rfl,aR.of ht.at,jB,rfl,_,rfl,?_,rfl⟩;simp[sh.1]
 rintro b G ⟨rfl,rfl⟩;refine aV (by decide) ?_;refine⟨_,rfl,t.p,_,_,.str t.w,rfl,rfl,aR.of ht.at,jB,rfl,_,rfl,?_⟩
 cases t with
 |nam p x =>
  obtain⟨q,rfl⟩:=R;refine bH (af rfl) ?_;exact⟨_,rfl,q,_,_,.str (ν x),rfl,rfl,aR.of hu0,rfl,_,rfl,p,_,_,.str x,rfl,rfl,aR.of ht,rfl,_,rfl,d,S,ν,x,T,rfl,hD,hT,hx x aq,hS,fun S' H' b h1 h2=>k S' H' b h1 fun y=>by rw[h2 y];simp[Tm.names]⟩
 |num p j =>
  obtain⟨q,rfl⟩:=R;refine aV (fun z=>(show ¬(V.str "num"=V.str "name") by decide) (ag z)) ?_;refine⟨_,rfl,p,_,_,.str "num",rfl,rfl,aR.of ht,rfl,rfl,_,rfl,aV (fun z=>(show ¬(V.str "num"=V.str "op") by decide) (ag z)) ?_⟩;refine⟨_,rfl,_,rfl,q,p,_,_,0,rfl,rfl,aR.of hu0,aR.of ht,.cons (mR _) (.cons (qV _) .nil),by decide,?_⟩;exact k S _ eU.refl hD fun y=>by simp[Tm.names]
 |op p s a b =>
  obtain⟨q,a',b',rfl,Ra,Rb⟩:=R;refine aV (fun z=>(show ¬(V.str "op"=V.str "name") by decide) (ag z)) ?_;refine⟨_,rfl,p,_,_,.str "op",rfl,rfl,aR.of ht.1,rfl,rfl,_,rfl,bH (af rfl) ?_⟩;have a1:=a.size_pos;have b1:=b.size_pos;simp only[Tm.size] at hn
  cases n with
  |zero=>exact absurd hn (by lia)
  |succ n =>
  refine⟨_,rfl,q,_,_,.ref a'.p,rfl,rfl,aR.of hu0.1,rfl,_,rfl,p,_,_,.ref a.p,rfl,rfl,aR.of ht.1,rfl,_,rfl,d,S,ν,a,a',T,rfl,hD,ht.2.1,hu0.2.1,Ra,by lia,hT,(fun y hy=>hx y (bv _ hy)),hS,fun S1 H1 b1 D1 m1=>⟨_,rfl,bH rfl ?_⟩⟩;have t1:=hD.ts b1;have ht1:=lN.ts t1 ht;have hu1:=lN.ts t1 hu0;refine⟨_,rfl,q,_,_,.ref b'.p,rfl,rfl,aR.of hu1.1,rfl,_,rfl,p,_,_,.ref b.p,rfl,rfl,aR.of ht1.1,rfl,_,rfl,d,S1,ν,b,b',T,rfl,D1,ht1.2.2,hu1.2.2,Rb,by lia,hT,(fun y hy=>hx y (bh _ hy)),(fun y hy=>by
   rcases(m1 y).mp hy with z|z
   ·exact hS y z
   ·exact hx y (bv _ z)),fun S2 H2 b2 D2 m2=>?_⟩
  have t2:=t1.trans (D1.ts b2);have ht2:=lN.ts t2 ht;have hu2:=lN.ts t2 hu0;refine⟨_,rfl,q,_,_,.str s,rfl,rfl,aR.of hu2.1,rfl,_,rfl,p,_,_,.str s,rfl,rfl,aR.of ht2.1,rfl,rfl,_,rfl,bH (af rfl) ⟨_,rfl,?_⟩⟩;exact k S2 H2 (b1.trans b2) D2 fun y=>by rw[m2 y,m1 y];simp only[Tm.names,List.mem_append,or_assoc]
theorem bM2(m:Nat)(C_TmT:Cl P w K mg base 9 (aD7 8) "_law_term_told")(C_NmT:Cl P w K mg base 1 spNmT "_law_name_told")(C_RsT:Cl P w K mg base (9+2*m) (aE5 m) "_law_rows_told")(m_isinstance:mg "isinstance"=none)(m_tuple:mg "tuple"=none)(m_len:mg "len"=none):fY P w K mg base "_law_row_told" "_law_row_told" bV9 (9+2*m+1) ["_law_found","_law_row_here","_law_names_here"] (aX0 (m+1)):=by
 refine iG ["_law_found","_law_row_here","_law_names_here","_law_told_here"] fun H Q nd hr h=>?_
 obtain⟨d,S,ν,r,q,T,rfl,hD,hr0,hq0,R,hd,hz,hu0,hc,hT,hx,hS,k⟩:=h;refine⟨_,(aF (bA (fC (PW.pt (kO (gK (fF (jU gF m_isinstance dy (aA (pv 0) (aQ (kX (v:= .ty "tuple") (by rfl) m_tuple dq rfl)))))) (kO (dZ rT (jU bG m_len cu (aQ (pv 0))) (jU bG m_len cu (aQ (pv 1)))) (kB (dZ rT (bQ aJ (pv 0) aD) (bQ aJ (pv 1) aD))))))) (aE (aM fS)) aP)
  (aF (bA (dZ bN (bQ aJ (pv 1) aD) aG) (aE (aM (bS C_TmT hr (aA (bQ aJ (pv 0) aD) (aA (bQ aJ (pv 1) aD) (aQ (pv 2))))))) aP)
  (aF (bA (dZ bN (bQ aJ (pv 1) aD) aG) (aE (aM (dR (bS C_NmT hr (aA (bQ aJ (pv 0) aD) (aA (bQ aJ (pv 1) aD) (aQ (pv 2))))) (dO (bS C_TmT hr (aA (bQ aJ (pv 0) aD) (aA (bQ aJ (pv 1) aD) (aQ (pv 2))))))))) aP)
  (aF (bA (dZ bN (bQ aJ (pv 1) aD) aG) (eG 3 nd (dR (bS C_RsT hr (aA (bQ aJ (pv 0) aD) (aA (bQ aJ (pv 1) aD) (aQ (pv 2))))) (dO (bS C_RsT hr (aA (bQ aJ (pv 0) aD) (aA (bQ aJ (pv 1) aD) (aQ (pv 2)))))))
  (aE (aM (dR (bS C_TmT hr (aA (bQ aJ (pv 0) aD) (aA (bQ aJ (pv 1) aD) (aQ (pv 2))))) (dO (pv 3)))))) aP)
  (aF (bA (dZ bN (bQ aJ (pv 1) aD) aG) (aE (aM (dR (nM bN (bQ aJ (pv 0) aD) (bQ aJ (pv 1) aD)) (dO (bS C_RsT hr (aA (bQ aJ (pv 0) aD) (aA (bQ aJ (pv 1) aD) (aQ (pv 2))))))))) aP)
  (aE (aM (dR (bS C_NmT hr (aA (bQ aJ (pv 0) aD) (aA (bQ aJ (pv 1) aD) (aQ (pv 2))))) (dO (nM (oI hr) (cC kP (pv 0) (cS aD) dG) (cC kP (pv 1) (cS aD) dG))))))))))),?_⟩
 have sh:=R.shape;refine⟨fun b G=>b=false/\G=H,?_,?_⟩
 ·refine⟨_,rfl,_,_,_,true,rfl,.tup hq0.at,rfl,_,rfl,aV (by decide) ?_⟩;refine⟨_,rfl,q.p,_,rfl,.inr (aR.of hq0.at),_,rfl,r.p,_,rfl,.inr (aR.of hr0.at),rfl,_,rfl,?_⟩;refine aV (by simp[sh.2]) ?_;refine⟨_,rfl,q.p,_,_,.str q.w,rfl,rfl,aR.of hq0.at,jB,_,rfl,r.p,_,_,.str r.w,rfl,rfl,aR.of hr0.at,jB,rfl,_,rfl,?_,rfl⟩;simp[sh.1]
 rintro b G ⟨rfl,rfl⟩;refine aV (by decide) ?_;refine⟨_,rfl,r.p,_,_,.str r.w,rfl,rfl,aR.of hr0.at,jB,rfl,_,rfl,?_⟩
 cases r with
 |tell p t =>
  obtain⟨p',t',rfl,Rt⟩:=R;refine bH (af rfl) ?_;exact⟨_,rfl,p',_,_,.ref t'.p,rfl,rfl,aR.of hq0.1,rfl,_,rfl,p,_,_,.ref t.p,rfl,rfl,aR.of hr0.1,rfl,_,rfl,d,S,ν,t,t',T,rfl,hD,hr0.2.1,hq0.2.1,Rt,hz,hT,(fun y hy=>hx y (by simpa [eM,dA,gJ,oZ,Rw.sets,Rw.asked] using hy)),hS,fun S' H' b h1 h2=>k S' H' b h1 fun y=>by rw[h2 y];simp[eM,dA,gJ,oZ,Rw.sets,Rw.asked]⟩
 |lt p x t =>
  obtain⟨p',t',rfl,Rt⟩:=R;refine aV (fun z=>(show ¬(V.str "let"=V.str "tell") by decide) (ag z)) ⟨_,rfl,p,_,_,.str "let",rfl,rfl,aR.of hr0.1,rfl,rfl,_,rfl,bH (af rfl) ?_⟩;refine⟨_,rfl,p',_,_,.str (ν x),rfl,rfl,aR.of hq0.1,rfl,_,rfl,p,_,_,.str x,rfl,rfl,aR.of hr0.1,rfl,_,rfl,d,S,ν,x,T,rfl,hD,hT,hx x (by simp[eM,dA,gJ,oZ,Rw.sets,Rw.asked]),hS,fun S1 H1 b1 D1 m1=>⟨_,rfl,bH rfl ?_⟩⟩;have t1:=hD.ts b1;have hr1':=eF.ts t1 _ hr0;have hq1:=eF.ts t1 _ hq0;exact⟨_,rfl,p',_,_,.ref t'.p,rfl,rfl,aR.of hq1.1,rfl,_,rfl,p,_,_,.ref t.p,rfl,rfl,aR.of hr1'.1,rfl,_,rfl,d,S1,ν,t,t',T,rfl,D1,hr1'.2.1,hq1.2.1,Rt,hz,hT,(fun y hy=>hx y (by simp[eM,dA,gJ,oZ,Rw.sets,Rw.asked,hy])),(fun y hy=>by
   rcases(m1 y).mp hy with z|z
   ·exact hS y z
   ·exact hx y (by simp[eM,dA,gJ,oZ,Rw.sets,Rw.asked,z])),fun S2 H2 b2 D2 m2=>k S2 H2 (b1.trans b2) D2 fun y=>by rw[m2 y,m1 y];simp[eM,dA,gJ,oZ,Rw.sets,Rw.asked,or_assoc]⟩
 |when p pa pb t a b =>
  obtain⟨p',pa',pb',t',a',b',rfl,Rt,Ra,Rb⟩:=R;refine aV (fun z=>(show ¬(V.str "when"=V.str "tell") by decide) (ag z)) ⟨_,rfl,p,_,_,.str "when",rfl,rfl,aR.of hr0.1,rfl,rfl,_,rfl,aV (fun z=>(show ¬(V.str "when"=V.str "let") by decide) (ag z)) ⟨_,rfl,p,_,_,.str "when",rfl,rfl,aR.of hr0.1,rfl,rfl,_,rfl,bH (af rfl) ?_⟩⟩;simp only[Rw.dp] at hd;simp only[Rw.cnt] at hc
  cases m with
  |zero=>exact absurd hd (by lia)
  |succ m =>
  have en:∀y,y∈eM [.when p pa pb t a b]↔y∈t.names\/y∈eM a\/y∈eM b:=fun y=>by rw[mS];simp only[List.mem_append,or_assoc]
  refine⟨_,rfl,p',_,_,.ref pa',rfl,rfl,aR.of hq0.1,rfl,_,rfl,p,_,_,.ref pa,rfl,rfl,aR.of hr0.1,rfl,_,rfl,d,S,ν,a,a',pa,pa',T,rfl,hD,hr0.2.2.2.1,hq0.2.2.2.1,hr0.2.2.2.2.2.1,hq0.2.2.2.2.2.1,Ra,by lia,hz.2.1,(fun q hq=>hu0 q (ak _ (bv _ hq))),by lia,hT,(fun y hy=>hx y ((en y).mpr (.inr (.inl hy)))),hS,fun S1 H1 b1 D1 m1=>⟨_,rfl,bH rfl ?_⟩⟩;have t1:=hD.ts b1;have hr1':=eF.ts t1 _ hr0;have hq1:=eF.ts t1 _ hq0;have hS1:∀y∈S1,y∈T:=fun y hy=>by
   rcases(m1 y).mp hy with z|z
   ·exact hS y z
   ·exact hx y ((en y).mpr (.inr (.inl z)))
  refine⟨_,rfl,p',_,_,.ref pb',rfl,rfl,aR.of hq1.1,rfl,_,rfl,p,_,_,.ref pb,rfl,rfl,aR.of hr1'.1,rfl,_,rfl,d,S1,ν,b,b',pb,pb',T,rfl,D1,hr1'.2.2.2.2.1,hq1.2.2.2.2.1,hr1'.2.2.2.2.2.2,hq1.2.2.2.2.2.2,Rb,by lia,hz.2.2,(fun q hq=>hu0 q (ak _ (bh _ hq))),by lia,hT,(fun y hy=>hx y ((en y).mpr (.inr (.inr hy)))),hS1,fun S2 H2 b2 D2 m2=>?_⟩;have t2:=t1.trans (D1.ts b2);have hr2:=eF.ts t2 _ hr0;have hq2:=eF.ts t2 _ hq0;refine⟨_,rfl,p',_,_,.ref t'.p,rfl,rfl,aR.of hq2.1,rfl,_,rfl,p,_,_,.ref t.p,rfl,rfl,aR.of hr2.1,rfl,_,rfl,d,S2,ν,t,t',T,rfl,D2,hr2.2.1,hq2.2.1,Rt,hz.1,hT,(fun y hy=>hx y ((en y).mpr (.inl hy))),(fun y hy=>by
   rcases(m2 y).mp hy with z|z
   ·exact hS1 y z
   ·exact hx y ((en y).mpr (.inr (.inr z)))),fun S3 H3 b3 D3 m3=>⟨_,rfl,bH rfl ⟨_,rfl,?_⟩⟩⟩
  refine k S3 H3 ((b1.trans b2).trans b3) D3 fun y=>?_
  rw[m3 y,m2 y,m1 y,en y]
  constructor
  ·rintro(((z|z)|z)|z)
   ·exact .inl z
   ·exact .inr (.inr (.inl z))
   ·exact .inr (.inr (.inr z))
   ·exact .inr (.inl z)
  ·rintro(z|z|z|z)
   ·exact .inl (.inl (.inl z))
   ·exact .inr z
   ·exact .inl (.inl (.inr z))
   ·exact .inl (.inr z)
 |times p pb j b =>
  obtain⟨p',pb',b',rfl,Rb⟩:=R;refine aV (fun z=>(show ¬(V.str "times"=V.str "tell") by decide) (ag z)) ⟨_,rfl,p,_,_,.str "times",rfl,rfl,aR.of hr0.1,rfl,rfl,_,rfl,aV (fun z=>(show ¬(V.str "times"=V.str "let") by decide) (ag z)) ⟨_,rfl,p,_,_,.str "times",rfl,rfl,aR.of hr0.1,rfl,rfl,_,rfl,aV (fun z=>(show ¬(V.str "times"=V.str "when") by decide) (ag z)) ⟨_,rfl,p,_,_,.str "times",rfl,rfl,aR.of hr0.1,rfl,rfl,_,rfl,bH (af rfl) ?_⟩⟩⟩;simp only[Rw.dp] at hd;simp only[Rw.cnt] at hc
  cases m with
  |zero=>exact absurd hd (by lia)
  |succ m =>
  refine⟨_,rfl,p',_,_,.int j,rfl,rfl,aR.of hq0.1,rfl,_,rfl,p,_,_,.int j,rfl,rfl,aR.of hr0.1,rfl,rfl,_,rfl,bH (af rfl) ?_⟩;exact⟨_,rfl,p',_,_,.ref pb',rfl,rfl,aR.of hq0.1,rfl,_,rfl,p,_,_,.ref pb,rfl,rfl,aR.of hr0.1,rfl,_,rfl,d,S,ν,b,b',pb,pb',T,rfl,hD,hr0.2.1,hq0.2.1,hr0.2.2,hq0.2.2,Rb,by lia,hz,(fun q hq=>hu0 q (ak _ hq)),by lia,hT,(fun y hy=>hx y (by rw[jA];exact hy)),hS,fun S1 H1 b1 D1 m1=>k S1 H1 b1 D1 fun y=>by rw[m1 y,jA]⟩
 |thr p w x us am =>
  obtain⟨p',rfl⟩:=R;have hw:=hr0.2.w;have ul:=aC9 hr0.2;refine aV (fun z=>absurd hw (by have z:=ag z;injection z with z;rw[show w="tell" from z];decide)) ⟨_,rfl,p,_,_,.str w,rfl,rfl,aR.of hr0.1,jB,rfl,_,rfl,?_⟩;refine aV (fun z=>absurd hw (by have z:=ag z;injection z with z;rw[show w="let" from z];decide)) ⟨_,rfl,p,_,_,.str w,rfl,rfl,aR.of hr0.1,jB,rfl,_,rfl,?_⟩;refine aV (fun z=>absurd hw (by have z:=ag z;injection z with z;rw[show w="when" from z];decide)) ⟨_,rfl,p,_,_,.str w,rfl,rfl,aR.of hr0.1,jB,rfl,_,rfl,?_⟩;refine aV (fun z=>absurd hw (by have z:=ag z;injection z with z;rw[show w="times" from z];decide)) ?_;refine⟨_,rfl,p',_,_,.str (ν x),rfl,rfl,aR.of hq0.1,at1,_,rfl,p,_,_,.str x,rfl,rfl,aR.of hr0.1,at1,_,rfl,d,S,ν,x,T,rfl,hD,hT,hx x (by simp[eM,dA,gJ,oZ,Rw.sets,Rw.asked]),hS,fun S1 H1 b1 D1 m1=>⟨_,rfl,bH rfl ?_⟩⟩
  have t1:=hD.ts b1;have hr1':=eF.ts t1 _ hr0;have hq1:=eF.ts t1 _ hq0;refine⟨_,rfl,_,rfl,p',_,rfl,aR.of hq1.1,aF5,fun c2 hc2=>?_⟩;rw[aF2];obtain⟨H2,e0,s2,g2⟩:=pQ hc2 (.tup us);rw[e0];clear e0;refine⟨_,rfl,_,rfl,p,_,rfl,aR.of (s2 _ _ hr1'.1),aF5,fun c3 hc3=>?_⟩;rw[aF2];have s3:=aB hc3 (.tup us);refine⟨c2,c3,us,us,0,rfl,rfl,aR.of (s3 _ _ g2),aR.of aC,kQ (hu0 (.thr p w x us am) (by simp[gJ]) p w x us am rfl),by decide,?_⟩;exact k S1 _ (b1.trans (eU.of (s2.trans s3))) (D1.bar (s2.trans s3)) fun y=>by rw[m1 y];simp[eM,dA,gJ,oZ,Rw.sets,Rw.asked]
theorem bM1(m:Nat)(C_RwT:Cl P w K mg base (10+2*m) (aX0 (m+1)) "_law_row_told")(m_all:mg "all"=none)(m_isinstance:mg "isinstance"=none)(m_tuple:mg "tuple"=none)(m_len:mg "len"=none)(m_zip:mg "zip"=none):fY P w K mg base "_law_rows_told" "_law_rows_told" bW2 (10+2*m+1) ["_law_found","_law_rows_here","_law_names_here"] (aE5 (m+1)):=by
 refine iG ["_law_found","_law_rows_here","_law_names_here"] fun H Q nd hr h=>?_
 obtain⟨d,S,ν,rs,qs,p,q,T,rfl,hD,hp,hq,hr0,hq0,R,hd,hz,hu0,hc,hT,hx,hS,k⟩:=h;refine⟨_,(aF (bA (fC (PW.pt (kO (gK (fF (jU gF m_isinstance dy (aA (pv 0) (aQ (kX (v:= .ty "tuple") (by rfl) m_tuple dq rfl)))))) (kB (dZ rT (jU bG m_len cu (aQ (pv 0))) (jU bG m_len cu (aQ (pv 1)))))))) (aE (aM fS)) aP)
  (aE (aM (jU nI m_all ma (aQ (dF ["_law_one","_law_row_here","_law_names_here"] [none,none,some 2] (bJ7 (by rfl) m_zip (aA (pv 0) (aQ (pv 1)))) (fun _ _ _ _=>(bH5 K (n:=2) rfl (aY (fG 0) (aY (fG 1) fB)))) (fun _ _ _ _=>eT) (fun _ _ _ _=>(bS C_RwT hr (aA (pv 0) (aA (pv 1) (aQ (pv 2)))))))))))),?_⟩
 have ql:=R.length;have rl:=gE rs;have hne:∀{G:Hp},eU d H G->TS H G:=fun b=>hD.ts b
 refine⟨fun b G=>b=false/\G=H,?_,?_⟩
 ·refine⟨_,rfl,_,_,_,true,rfl,.tup hq,rfl,_,rfl,aV (by decide) ?_⟩;refine⟨_,rfl,q,_,rfl,.inr (aR.of hq),_,rfl,p,_,rfl,.inr (aR.of hp),rfl,_,rfl,?_,rfl⟩;simp[bB,ql]
 rintro b G ⟨rfl,rfl⟩;refine aV (by decide) ?_;refine⟨_,rfl,_,rfl,q,p,rfl,⟨_,aR.of hq⟩,⟨_,aR.of hp⟩,aM5 (K:=K) (a:=q) (b:=p) (xs:=bL qs) (ys:=bL rs) (fun i zs σ G'=>∃(S':List Str) (v0 v1:Option V),σ=[v0,v1,some (.ref d)]/\zs=(List.replicate i true).map V.bl/\eU d G G'/\xU G' d S' ν/\∀y,y∈S'↔y∈S\/y∈eM (rs.take i))
  (aL (by rw[bB];lia)) (by rw[bB,bB,ql]) ⟨S,_,_,rfl,rfl,eU.refl,hD,fun y=>by simp[eM,dA]⟩ (by rintro i zs σ G' ⟨_,_,_,_,e,_⟩;rw[e,ac,vv];exact ah _) (by rintro i zs σ G' _ ⟨_,_,_,_,_,b,_⟩;exact⟨aR.of (hne b _ _ hq),aR.of (hne b _ _ hp)⟩) ?_ ?_⟩
 ·rintro i x y zs σ G' t hxi hyi ⟨S',v0,v1,rfl,rfl,b1,D1,m1⟩ ht;obtain⟨r',hr',rfl⟩:=oM hyi;obtain⟨q',hq',Rr⟩:=R.at hr';obtain⟨q2,hq2,rfl⟩:=oM hxi;rw[hq'] at hq2
  cases hq2
  have hm:=bq hr';have hmq:=bq hq';obtain⟨G2,e0,st,gt⟩:=pQ ht (.tup [.ref q'.p,.ref r'.p]);rw[e0];clear e0;have b2:=b1.trans (eU.of st);have t2:=hne b2;have cr:r'.cnt<=bP rs:=by
   have h:=dz List.length (show dA rs=dA rs from rfl);rw[<-eB, <-aC1];have:dA rs=dA (rs.take i)++(gJ r'++dA (rs.drop (i+1))):=by
    rw[<-lq, <-(show dA (rs.take (i+1))=dA (rs.take i)++gJ r' from by rw[aX hr',fL];simp[dA]), <-fL,ly]
   rw[this,ao,ao];lia
  refine⟨t,_,rfl,aR.of gt,rfl,_,_,rfl,_,_,rfl,rfl,?_⟩;refine⟨_,rfl,_,rfl,_,rfl,d,S',ν,r',q',T,rfl,D1.bar st,aZ.mem (aZ.ts t2 rs hr0) r' hm,aZ.mem (aZ.ts t2 qs hq0) q' hmq,Rr,cp (zZ hm) hd,iH.mem hz hm,(fun z hz=>hu0 z (aD0 hm z hz)),by lia,hT,(fun y hy=>hx y (bC8 hm y hy)),(fun y hy=>by
   rcases(m1 y).mp hy with z|z
   ·exact hS y z
   ·unfold eM at z;obtain⟨a,ha,hy⟩:=jd.mp z;refine hx y (jd.mpr ⟨a,?_,hy⟩);have:dA rs=dA (rs.take i)++dA (rs.drop i):=by rw[<-fL,ly]
    rw[this];exact bv _ ha),fun S2 H2 b3 D2 m2=>?_⟩
  refine⟨S2,_,_,rfl,by rw[List.replicate_succ',au];rfl,b2.trans b3,D2,fun y=>?_⟩;rw[m2 y,m1 y,aX hr',uY,bp,or_assoc]
 ·rintro zs σ G' ⟨S',v0,v1,rfl,rfl,b1,D1,m1⟩ l hl;refine⟨l,List.replicate (bL qs).length true,rfl,bK.of aC,?_⟩;have er:(List.replicate (bL qs).length true).all id=true:=by simp
  rw[er];refine k S' _ (b1.trans (eU.of (aB hl _))) (D1.bar (aB hl _)) fun y=>?_
  rw[m1 y,bB,ql,cm]
theorem bH7(C_Flt46:Cl P w K mg base 5 (aC8 4) "_law_flat")(C_LIN:Cl P w K mg base 1 spIsNm "_law_is_name")(m_len:mg "len"=none)(m_list:mg "list"=none)(m_set:mg "set"=none)(m_int:mg "int"=none):fY P w K mg base "_law_names_right" "_law_names_right" bU8 6 ["_law_names_here","_law_one","_law_other"] spNmR:=by
 refine iG ["_law_names_here","_law_one","_law_other","_law_ahead","_law_there","_law_told_here","_law_taken","_law_x","_law_free"] fun H Q nd hr h=>?_
 obtain⟨d,p,q,S,ν,K1,K2,rs1,rs2,m1,m2,rfl,hD,P1,P2,nu,hS,k⟩:=h;have hu:=hG hr;have hr1:dH 1 _:=hr.mono (by decide);refine⟨_,(aF (lG ["_law_row_here"] [none] (i:=3) nd rfl (fj rfl) (cU (bS C_Flt46 hr (aQ (bQ aJ (pv 1) aD)))) (fun _ _ _ _=>(fG 0)) (fun _ _ _ _=>(kN (dZ (bV6 K) (bQ (pC K) (pv 0) aD) (bE (aA aG (aA aG (aQ aG))))))) (fun _ _ _ _=>(bQ (pC K) (pv 0) aD)))
  (aF (lG ["_law_row_here"] [none] (i:=4) nd rfl (fj rfl) (cU (bS C_Flt46 hr (aQ (bQ aJ (pv 2) aD)))) (fun _ _ _ _=>(fG 0)) (fun _ _ _ _=>(kN (dZ (bV6 K) (bQ (pC K) (pv 0) aD) (bE (aA aG (aA aG (aQ aG))))))) (fun _ _ _ _=>(bQ (pC K) (pv 0) aD)))
  (aF (lG ["_law_x","_law_names_here"] [none,some 0] (i:=5) nd rfl (fj rfl) (vL (pv 0)) (fun _ _ _ _=>(fG 0)) (fun _ _ _ _=>eT) (fun _ _ _ _=>(vY hu (pv 1) (pv 0))))
  (aF (bA (dZ nK (jU (aF3 P w) m_len cu (aQ (sH (aG0 P w hr1) m_set wg (aQ (pv 5))))) (jU bG m_len cu (aQ (pv 5)))) (aE (aM fS)) aP)
  (eG 6 nd (aS eI (aS eI (aS eI (pv 3) (pv 4)) (sH gP m_list ig (aQ (bQ aJ (pv 1) aD)))) (sH gP m_list ig (aQ (bQ aJ (pv 2) aD))))
  (aF (pfr (aS9 (pv 0)) (fG 7 nd)
  (eG 8 nd (dR (nM jI (vY hu (pv 0) (pv 7)) (pv 6)) (dO (bS C_LIN hr (aQ (vY hu (pv 0) (pv 7))))))
  (aE (bA (dZ bE3 (bQ fE (bZ (aA (nM bN (vY hu (pv 0) (pv 7)) (pv 7)) (aQ (pv 8)))) (sH lE m_int md (aQ (nM dW (pv 7) (pv 3))))) fS) (aE (aM fS)) aP))))
  (aE (aM fS)))))))),?_⟩
 obtain⟨pk,pr,hp,hpk,hpr⟩:=P1.ex;obtain⟨qk,qr,hq,hqk,hqr⟩:=P2.ex;have c1:=P1.cnt;have c2:=P2.cnt;have m41:=P1.m4;have m42:=P2.m4;have kk1:=P1.k3;have kk2:=P2.k3;have Sl:S.length<=27:=by have:=P2.few.le hD.2 fun y hy=>(hS y).mp hy;lia
 have inj:∀x∈S,∀y∈S,ν x=ν y->x=y:=fun x hx y hy e=>nu.inj ((hS x).mp hx) ((hS y).mp hy) e
 refine⟨_,rfl,p,_,_,.ref pr,rfl,rfl,aR.of hp,rfl,pr,rs1,rfl,hpr,P1.rows,cp P1.dp (by decide),by lia,fun l1 H1 s1 h1=>⟨l1,rfl,⟨_,bK.of h1⟩,cZ (K:=K) (a:=l1) (xs:=bL (dA rs1)) (fun i ys σ G=>bD H1 G/\(∃v,σ=[v])/\ys=(((dA rs1).take i).filterMap Rw.sets).map V.str)
  (aL (by rw[bB,eB];lia)) ⟨bD.refl _,⟨_,rfl⟩,rfl⟩ (fun i ys σ G ⟨_,_,e⟩=>by
   rw[e,ac];exact cp (gp _ _) (by rw[ci];lia)) (by rintro i ys σ G _ ⟨e,_⟩;exact bK.of (e _ _ h1)) ?_ ?_⟩⟩
 ·rintro i v ys σ G hv ⟨sG,⟨v',rfl⟩,rfl⟩;obtain⟨r,hr0,rfl⟩:=oM hv;have hR:=(jL (aZ.ts (.of s1) _ P1.rows) r (bq hr0)).ts (.of sG);refine⟨_,rfl,r.p,_,_,.str r.w,rfl,rfl,aR.of hR.at,jB,by show 3<=sizeLine;decide,fun t ht=>?_⟩;have st:=aB ht (.tup [.str "tell",.str "when",.str "times"]);refine⟨t,_,rfl,.inr (aR.of aC),rfl,by decide,_,rfl,?_⟩;have ew:=bG2 hR;rw[aX hr0,dw,au]
  cases e:r.sets with
  |none =>
   rw[e] at ew;refine aV (by rw[ew];decide) ⟨sG.trans st,⟨_,rfl⟩,?_⟩;rw[ip e];simp
  |some x =>
   rw[e] at ew;obtain⟨us,hqp⟩:=pF (eF.ts (.of st) _ hR) e;refine bH (by rw[ew];rfl) ⟨_,rfl,r.p,_,_,.str x,rfl,rfl,aR.of hqp,at1,sG.trans st,⟨_,rfl⟩,?_⟩;rw[ny e];rfl
 rintro ys σ G ⟨sG,_,rfl⟩ a1 ha1;rw[bB,cm];have sA:=s1.trans (sG.trans (aB ha1 (.lst ((dU rs1).map V.str))));have gA:aN G a1 (.lst ((dU rs1).map V.str)) a1=some (.lst ((dU rs1).map V.str)):=aC
 change (fun x H=>_) _ (aN G a1 (.lst ((dU rs1).map V.str)))
 generalize aN G a1 (.lst ((dU rs1).map V.str))=GA at sA gA ⊢;clear sG s1 h1 ha1;refine⟨_,rfl,q,_,_,.ref qr,rfl,rfl,aR.of (sA _ _ hq),rfl,qr,rs2,rfl,sA _ _ hqr,aZ.ts (.of sA) _ P2.rows,cp P2.dp (by decide),by lia,fun l4 H4 s4' h4=>?_⟩;have s4:=sA.trans s4';have gA4:=s4' _ _ gA;refine⟨l4,rfl,⟨_,bK.of h4⟩,cZ (K:=K) (a:=l4) (xs:=bL (dA rs2)) (fun i ys σ G=>bD H4 G/\(∃v,σ=[v])/\ys=(((dA rs2).take i).filterMap Rw.sets).map V.str)
  (aL (by rw[bB,eB];lia)) ⟨bD.refl _,⟨_,rfl⟩,rfl⟩ (fun i ys σ G ⟨_,_,e⟩=>by
   rw[e,ac];exact cp (gp _ _) (by rw[ci];lia)) (by rintro i ys σ G _ ⟨e,_⟩;exact bK.of (e _ _ h4)) ?_ ?_⟩
 ·rintro i v ys σ G hv ⟨sG,⟨v',rfl⟩,rfl⟩;obtain⟨r,hr0,rfl⟩:=oM hv;have hR:=(jL (aZ.ts (.of s4) _ P2.rows) r (bq hr0)).ts (.of sG);refine⟨_,rfl,r.p,_,_,.str r.w,rfl,rfl,aR.of hR.at,jB,by show 3<=sizeLine;decide,fun t ht=>?_⟩;have st:=aB ht (.tup [.str "tell",.str "when",.str "times"]);refine⟨t,_,rfl,.inr (aR.of aC),rfl,by decide,_,rfl,?_⟩;have ew:=bG2 hR;rw[aX hr0,dw,au]
  cases e:r.sets with
  |none =>
   rw[e] at ew;refine aV (by rw[ew];decide) ⟨sG.trans st,⟨_,rfl⟩,?_⟩;rw[ip e];simp
  |some x =>
   rw[e] at ew;obtain⟨us,hqp⟩:=pF (eF.ts (.of st) _ hR) e;refine bH (by rw[ew];rfl) ⟨_,rfl,r.p,_,_,.str x,rfl,rfl,aR.of hqp,at1,sG.trans st,⟨_,rfl⟩,?_⟩;rw[ny e];rfl
 rintro ys σ G ⟨sG,_,rfl⟩ a4 ha4;rw[bB,cm];have sB:=s4.trans (sG.trans (aB ha4 (.lst ((dU rs2).map V.str))));have gB:aN G a4 (.lst ((dU rs2).map V.str)) a4=some (.lst ((dU rs2).map V.str)):=aC;have gA5:=(sG.trans (aB ha4 (.lst ((dU rs2).map V.str)))) _ _ gA4
 change (fun x H=>_) _ (aN G a4 (.lst ((dU rs2).map V.str)))
 generalize aN G a4 (.lst ((dU rs2).map V.str))=GB at sB gB gA5 ⊢;clear sG s4 s4' h4 ha4 gA gA4 sA;have d1:d≠a1:=fun z=>by have:=sB _ _ hD.1;rw[z,gA5] at this;cases this
 have d4:d≠a4:=fun z=>by have:=sB _ _ hD.1;rw[z,gB] at this;cases this
 refine⟨_,rfl,d,_,rfl,sB _ _ hD.1,fun o=>tR (d:=d) (o:=o) (kvs:=S.map fun x=>((Sum.inr x:Key),V.str (ν x))) (fun i zs σ G=>G=aN GB d (.frz o (.dK (S.map fun x=>((Sum.inr x:Key),V.str (ν x)))))/\(∃v,σ=[v,some (.ref d)])/\zs=((S.take i).map ν).map V.str)
  (aL (by rw[ac];lia)) ⟨rfl,⟨_,rfl⟩,rfl⟩ (by rintro i ys σ G ⟨_,_,e⟩;rw[e,ac,ac,ci];lia) (by rintro i ys σ G _ ⟨e,_⟩;rw[e];exact aC) ?_ ?_⟩
 ·rintro i ky v ys σ G hv ⟨rfl,⟨v',rfl⟩,rfl⟩;obtain⟨x,hx,rfl⟩:=aU6 hv;have F:NmF (aN GB d (.frz o (.dK (S.map fun x=>((Sum.inr x:Key),V.str (ν x)))))) d o S ν:=aC;refine⟨_,rfl,_,rfl,d,_,rfl,F.get (bq hx),rfl,⟨_,rfl⟩,?_⟩;rw[aX hx,au,au];rfl
 rintro zs σ G ⟨rfl,_,rfl⟩ a5 ha5;rw[ac,cm];have bC:eU d GB (aN GB d (.frz o (.dK (S.map fun x=>((Sum.inr x:Key),V.str (ν x)))))):=eU.upd;have F:NmF (aN GB d (.frz o (.dK (S.map fun x=>((Sum.inr x:Key),V.str (ν x)))))) d o S ν:=aC;generalize aN GB d (.frz o (.dK (S.map fun x=>((Sum.inr x:Key),V.str (ν x)))))=GC at bC F ha5 ⊢;have s5:=aB ha5 (.lst ((S.map ν).map V.str));have g5:aN GC a5 (.lst ((S.map ν).map V.str)) a5=some (.lst ((S.map ν).map V.str)):=aC;have F5:NmF (aN GC a5 (.lst ((S.map ν).map V.str))) d o S ν:=s5 _ _ F;have b5:=bC.trans (eU.of s5)
 change (fun x H=>_) _ (aN GC a5 (.lst ((S.map ν).map V.str)))
 generalize aN GC a5 (.lst ((S.map ν).map V.str))=G5 at g5 F5 b5 ⊢;clear s5 F bC ha5;have ndm:=oV hD.2 inj;refine⟨_,rfl,a5,S.map ν,rfl,bK.of g5,fun ds hds hj=>by have:=aU4 hds hj;rw[aN3,ac] at this;lia,fun a6 ha6=>⟨a6,_,rfl,aC,?_⟩⟩;have s6:=aB ha6 (pW P w a6 (S.map ν));have b6:=b5.trans (eU.of s6);have F6:NmF (aN G5 a6 (pW P w a6 (S.map ν))) d o S ν:=s6 _ _ F5;have g56:=s6 _ _ g5;generalize aN G5 a6 (pW P w a6 (S.map ν))=G6 at b6 F6 g56 ⊢;refine⟨_,rfl,a5,_,rfl,.inl (bK.of g56),_,_,rfl,rfl,_,rfl,aV (by rw[bY2 ndm,ac];simp) ?_⟩;have tD:∀{G:Hp},eU d GB G->eU d H G:=fun b=>(eU.of sB).trans b
 have tS:TS H G6:=hD.ts (tD b6);have lA:(dU rs1).length<=300:=by unfold dU;have:=gp Rw.sets (dA rs1);rw[eB] at this;lia
 have lB:(dU rs2).length<=300:=by unfold dU;have:=gp Rw.sets (dA rs2);rw[eB] at this;lia
 refine⟨_,rfl,_,rfl,a1,a4,_,_,rfl,rfl,b6 _ _ gA5 d1.symm,b6 _ _ gB d4.symm,cj (aL (by rw[ac,ac];lia)),fun a7 ha7=>?_⟩;rw[<-au];obtain⟨G7,e0,s7,g7⟩:=pQ ha7 (.lst ((dU rs1++dU rs2).map V.str));rw[e0];clear e0;refine⟨_,rfl,p,_,_,.ref pk,rfl,rfl,aR.of ((tS.trans (.of s7)) _ _ hp),rfl,pk,_,rfl,.inr (aR.of ((tS.trans (.of s7)) _ _ hpk)),fun a8 ha8=>?_⟩;have s8:=aB ha8 (.lst (K1.map V.str));have g8:aN G7 a8 (.lst (K1.map V.str)) a8=some (.lst (K1.map V.str)):=aC;have g78:=s8 _ _ g7;generalize aN G7 a8 (.lst (K1.map V.str))=G8 at s8 g8 g78 ⊢;refine⟨a7,a8,_,_,rfl,rfl,g78,g8,cj (aL (by rw[ac,ac,ao];lia)),fun a9 ha9=>?_⟩;rw[<-au];have s9:=aB ha9 (.lst ((dU rs1++dU rs2++K1).map V.str));have g9:aN G8 a9 (.lst ((dU rs1++dU rs2++K1).map V.str)) a9=some (.lst ((dU rs1++dU rs2++K1).map V.str)):=aC
 have s79:=s7.trans (s8.trans s9);generalize aN G8 a9 (.lst ((dU rs1++dU rs2++K1).map V.str))=G9 at s9 g9 s79 ⊢;refine⟨_,rfl,q,_,_,.ref qk,rfl,rfl,aR.of ((tS.trans (.of s79)) _ _ hq),rfl,qk,_,rfl,.inr (aR.of ((tS.trans (.of s79)) _ _ hqk)),fun a10 ha10=>?_⟩;have s10:=aB ha10 (.lst (K2.map V.str));have g10:aN G9 a10 (.lst (K2.map V.str)) a10=some (.lst (K2.map V.str)):=aC;have g910:=s10 _ _ g9;generalize aN G9 a10 (.lst (K2.map V.str))=G10 at s10 g10 g910 ⊢;refine⟨a9,a10,_,_,rfl,rfl,g910,g10,cj (aL (by rw[ac,ac,ao,ao];lia)),fun a11 ha11=>?_⟩;rw[<-au];have s11:=aB ha11 (.lst ((dU rs1++dU rs2++K1++K2).map V.str));have g11:aN G10 a11 (.lst ((dU rs1++dU rs2++K1++K2).map V.str)) a11=some (.lst ((dU rs1++dU rs2++K1++K2).map V.str)):=aC;have s611:=s79.trans (s10.trans s11);generalize aN G10 a11 (.lst ((dU rs1++dU rs2++K1++K2).map V.str))=G11 at g11 s611 ⊢
 have F11:NmF G11 d o S ν:=s611 _ _ F6;have b11:=b6.trans (eU.of s611);have gA11:=s611 _ _ (b6 _ _ gA5 d1.symm);have b12:eU d H G11:=tD b11;clear s7 s8 s9 s79 s10 s11 s611 g7 g78 g8 g9 g910 g10 ha7 ha8 ha9 ha10 ha11 b11 b6 F6 F5 b5 tD tS ha6 s6;refine⟨_,rfl,d,o,_,rfl,F11,tV (d:=d) (o:=o) (kvs:=S.map fun x=>((Sum.inr x:Key),V.str (ν x))) (fun i σ G=>∃v7 v8,σ=[some (.ref d),some (.ref p),some (.ref q),some (.ref a1),some (.ref a4),some (.ref a5),some (.ref a11),v7,v8]/\bD G11 G)
  ⟨_,_,rfl,bD.refl _⟩ (by rintro i σ G _ ⟨_,_,_,s⟩;exact s _ _ F11) ?_ ?_⟩
 ·rintro D' i ky v σ G hv ⟨v7,v8,rfl,sG⟩;obtain⟨x,hx,rfl⟩:=aU6 hv;have hxS:=bq hx;have x2:x∈eM rs2:=(hS x).mp hxS;have F:NmF G d o S ν:=sG _ _ F11;have en:oY (V.str (ν x)) ((dU rs1++dU rs2++K1++K2).map V.str)=decide (ν x∈dU rs1++dU rs2++K1++K2):=dQ _ _;have ea:oY (V.str x) ((dU rs1).map V.str)=decide (x∈dU rs1):=dQ _ _;refine⟨_,rfl,_,rfl,d,_,rfl,F.get hxS,_,rfl,a11,_,rfl,.inl (bK.of (sG _ _ g11)),rfl,cJ _,_,rfl,?_⟩
  by_cases c:x∈eM rs1
  ·obtain⟨n1,n2⟩:=nu.new x2 c;have n3:ν x∉dU rs1++dU rs2++K1++K2:=fun z=>n1 (by
    simp only[List.mem_append] at z ⊢;rcases z with((z|z)|z)|z
    ·exact .inl (.inr ((P1.stn _).mp z))
    ·exact .inr ((P2.stn _).mp z)
    ·exact .inl (.inl (.inl z))
    ·exact .inl (.inl (.inr z)))
   refine bH (by rw[en,ba n3];rfl) ?_;have nl:(ν x).length<=1000:=by
    unfold jR at n2;have n2:=(Bool.and_eq_true_iff.mp n2).1;have n2:=ag n2;lia
   refine⟨_,rfl,_,rfl,d,_,rfl,F.get hxS,ν x,rfl,nl,fun G2 s2=>?_⟩;rw[n2];have F2:NmF G2 d o S ν:=s2 _ _ F;refine⟨_,rfl,_,rfl,d,_,rfl,F2.get hxS,_,rfl,rfl,_,rfl,eY,fun l3 hl3=>?_⟩;have s3:=aB hl3 (.lst [.bl (decide (V.str (ν x)=V.str x)),.bl true]);refine⟨_,rfl,_,rfl,a1,_,rfl,.inl (bK.of (s3 _ _ (s2 _ _ (sG _ _ gA11)))),rfl,cJ _,.inr ⟨_,rfl,l3,_,_,.bl true,rfl,rfl,bK.of aC,?_,true,true,rfl,rfl,_,rfl,aV (by decide) ⟨_,_,rfl,sG.trans (s2.trans s3)⟩⟩⟩;show nO [V.bl (decide (V.str (ν x)=V.str x)),V.bl true] (if oY (V.str x) ((dU rs1).map V.str)=true then 1 else 0)=some (V.bl true);rw[bg (by rw[ea];exact af ((P1.stn x).mpr c))];rfl
  ·have n1:=nu.old (fun z=>c z.2);have c1:¬x∈dU rs1:=fun z=>c ((P1.stn x).mp z)
   have e1:decide (V.str (ν x)=V.str x)=true:=af (by rw[n1])
   by_cases c3:ν x∈dU rs1++dU rs2++K1++K2
   ·refine aV (by rw[en,af c3];decide) ?_;refine⟨_,rfl,_,rfl,d,_,rfl,F.get hxS,_,rfl,rfl,_,rfl,eY,fun l3 hl3=>?_⟩;have s3:=aB hl3 (.lst [.bl (decide (V.str (ν x)=V.str x)),.bl false]);refine⟨_,rfl,_,rfl,a1,_,rfl,.inl (bK.of (s3 _ _ (sG _ _ gA11))),rfl,cJ _,.inr ⟨_,rfl,l3,_,_,.bl true,rfl,rfl,bK.of aC,?_,true,true,rfl,rfl,_,rfl,aV (by decide) ⟨_,_,rfl,sG.trans s3⟩⟩⟩;show nO [V.bl (decide (V.str (ν x)=V.str x)),V.bl false] (if oY (V.str x) ((dU rs1).map V.str)=true then 1 else 0)=some (V.bl true);rw[av (by rw[ea,ba c1];decide),e1];rfl
   ·exact absurd (by rw[n1];simp only[List.mem_append];exact .inl (.inl (.inr ((P2.stn x).mpr x2)))) c3
 ·rintro σ G ⟨v7,v8,rfl,sG⟩;exact k G (b12.trans (eU.of sG))
theorem bK5(m_all:mg "all"=none)(m_len:mg "len"=none):fY P w K mg base "_law_is_name" "_law_is_name" bU7 1 ["_law_text"] spIsNm:=by
 refine iG ["_law_text","_law_kept"] fun H Q nd hr h=>?_
 obtain⟨z,rfl,hl,k⟩:=h;refine⟨_,(@aF _ _ _ _ _ (@fW _ _ 1 _ _ _ _ nd rfl (fj rfl) (@bE _ _ _ _ _ (@aA _ _ _ _ _ aG (@aA _ _ _ _ _ aG (@aA _ _ _ _ _ aG (@aA _ _ _ _ _ aG (@aA _ _ _ _ _ aG (@aA _ _ _ _ _ aG (@aA _ _ _ _ _ aG (@aA _ _ _ _ _ aG (@aA _ _ _ _ _ aG (@aA _ _ _ _ _ aG (@aA _ _ _ _ _ aG (@aA _ _ _ _ _ aG cX rfl) rfl) rfl) rfl) rfl) rfl) rfl) rfl) rfl) rfl) rfl) rfl)) rfl (fj rfl))
  (@aF _ _ _ _ _ (bA (PW.pt (kO (gK (fC (rX nK nK aD (jU fN m_len cu (aQ (pv 0))) aD))) (kB (dZ dW (pv 0) (pv 1))))) (aE (aM fS)) aP)
  (@aE _ _ _ (aM (jU nI m_all ma (aQ (dF ["_law_sign"] [none] (aK8 (pv 0)) (fun _ _ _ _=>(fG 0)) (fun _ _ _ _=>eT) (fun _ _ _ _=>(nM sV (pv 0) aG))))))))),?_⟩
 refine⟨by show 12<=sizeLine;decide,fun t ht=>?_⟩;have s0:=aB ht (.tup [.str "kinds",.str "ladder",.str "flat",.str "choose",.str "first",.str "let",.str "tell",.str "when",.str "else",.str "times",.str "end",.str "of"]);have h0:aN H t (.tup [.str "kinds",.str "ladder",.str "flat",.str "choose",.str "first",.str "let",.str "tell",.str "when",.str "else",.str "times",.str "end",.str "of"]) t=some (.tup (fJ.map V.str)):=aC;generalize aN H t (.tup [.str "kinds",.str "ladder",.str "flat",.str "choose",.str "first",.str "let",.str "tell",.str "when",.str "else",.str "times",.str "end",.str "of"])=H1 at s0 h0 ⊢;have hz:z.length<=sizeLine:=cj (aL hl);refine⟨fun b G=>G=H1/\b=decide (1<=z.length/\z.length<=8),?_,?_⟩
 ·refine⟨_,rfl,_,rfl,hz,_,_,rfl,rfl,_,rfl,?_⟩
  by_cases h1:1<=z.length
  ·refine bH (af (by lia)) ⟨_,_,rfl,rfl,_,rfl,rfl,?_⟩
   by_cases h2:z.length<=8
   ·rw[af (show(z.length:Int)<9 by lia),af ⟨h1,h2⟩]
   ·rw[ba (show ¬(z.length:Int)<9 by lia),ba (fun q=>h2 q.2)]
  ·exact aV (fun q=>h1 (by have:=ag q;lia)) ⟨_,rfl,rfl,(ba (fun q=>h1 q.1)).symm⟩
 rintro b G ⟨rfl,rfl⟩
 by_cases c:1<=z.length/\z.length<=8
 ·rw[af c];refine aV (by decide) ?_;have ei:oY (V.str z) (fJ.map V.str)=decide (z∈fJ):=dQ _ _;refine⟨_,rfl,_,rfl,t,_,rfl,.inr (aR.of h0),rfl,cJ _,_,rfl,?_⟩
  by_cases c2:z∈fJ
  ·refine bH (ei.trans (af c2)) ?_;have e:jR z=false:=by unfold jR;rw[af c2];simp
   rw[e] at k;exact k G s0
  ·refine aV (fun q=>c2 (ag (ei.symm.trans q))) ?_;refine⟨_,rfl,z,rfl,wF (x:=z) (fun i ys σ H2=>H2=G/\(∃v,σ=[v])/\ys=((sL z).take i).map fun c=>V.bl (decide (97<=c/\c<=122))) (aL hl) ⟨rfl,⟨_,rfl⟩,rfl⟩
    (by rintro i ys σ H2 ⟨_,_,e⟩;rw[e,ac,ci];lia) ?_ ?_⟩
   ·rintro i c ys σ H2 hc ⟨rfl,⟨v,rfl⟩,rfl⟩;refine⟨_,rfl,_,_,rfl,rfl,rfl,⟨_,rfl⟩,?_⟩;have hc':(sL z)[i]?=some c:=by rw[gm];exact hc
    have fo:(!(Builtin.Str.occurrences alpha ⟨#[c]⟩ 0 alpha.length 1).isEmpty)=decide (c∈sL alpha):=zb alpha c;show _=List.map _ _;rw[aX hc',au,List.map_singleton, <-uw.mpr (uC c), <-fo];rfl
   ·rintro ys σ H2 ⟨rfl,_,rfl⟩ l hl2;have el:((sL z).take z.length).map (fun c=>V.bl (decide (97<=c/\c<=122)))=((sL z).map fun c=>decide (97<=c/\c<=122)).map V.bl:=by
     rw[dk (i:=z.length) (show(sL z).length<=z.length from ah _),kq];rfl
    refine⟨l,(sL z).map fun c=>decide (97<=c/\c<=122),rfl,by rw[el];exact bK.of aC,?_⟩;rw[aU0];have e:jR z=decide (∀c∈sL z,97<=c/\c<=122):=by unfold jR;rw[af c,ba c2];simp
    rw[e] at k;exact k _ (s0.trans (aB hl2 _))
 ·rw[ba c];refine bH (by decide) ?_;have e:jR z=false:=by unfold jR;rw[ba c];rfl
  rw[e] at k;exact k G s0
theorem bG1:dY ["_law_e","_law_others"] ["_law_e"] (aK bK2):=by refine⟨rfl,rfl,rfl,?_,rfl,?_,?_⟩<;>decide
theorem bQ9{cR cF cP cG cW cT cM D:Addr}(m_NoFit:mg "NoFit"=some (.ref cF))(m_NoRows:mg "NoRows"=some (.ref cR))(m_NoPaper:mg "NoPaper"=some (.ref cP))(m_NoProgram:mg "NoProgram"=some (.ref cG))(m_NoRow:mg "NoRow"=some (.ref cW))(m_NoText:mg "NoText"=some (.ref cT))(m_TooMany:mg "TooMany"=some (.ref cM))(m_ThrowError:mg "ThrowError"=some (.ref D))(XF:lQ K cF [cP,cG,cW,cR,cT,cM] D)
  (m_isinstance:mg "isinstance"=none) (m_ValueError:mg "ValueError"=none) {f:Addr}{fd:FuncData}(F:mE K "_law_refused" "_law_refused" bK2 f fd) :
  xT P w K mg base 1 f fd ["_law_e"] (aP8 cF):=by
 refine F.okH bG1 (fun vs H Q E h=>?_) (fun cdv A outer s H vs Q E h=>?_)
 ·obtain⟨x,rfl,_⟩:=h;rfl
 obtain⟨x,rfl,hx,k⟩:=h;refine⟨_,(aF (fW (i:=1) bG1.nd rfl (fj rfl) (hX aL9 (by rfl) m_isinstance dy (aA (pv 0) (aA (bE (aA (dM (v:= .ref cP) (by rfl) m_NoPaper rfl) (aA (dM (v:= .ref cG) (by rfl) m_NoProgram rfl) (aA (dM (v:= .ref cW) (by rfl) m_NoRow rfl) (aA (dM (v:= .ref cR) (by rfl) m_NoRows rfl) (aA (dM (v:= .ref cT) (by rfl) m_NoText rfl) (aA (dM (v:= .ref cM) (by rfl) m_TooMany rfl) cX))))))) cX))))
  (aE (aM (dR (hX qP (by rfl) m_isinstance dy (aA (pv 0) (aA (dM (v:= .ref cF) (by rfl) m_NoFit rfl) cX))) (dR (hX qP (by rfl) m_isinstance dy (aA (pv 0) (aA (dM (v:= .ref D) (by rfl) m_ThrowError rfl) cX))) (dR (hX qP (by rfl) m_isinstance dy (aA (pv 0) (aA (kX (v:= .ty "ValueError") (by rfl) m_ValueError bA7 rfl) cX))) (dO (aR1 (pv 1))))))))),?_⟩
 refine⟨_,rfl,by show 6<=sizeLine;decide,fun t ht=>?_⟩;obtain⟨H1,e0,s1,h1⟩:=pQ ht (.tup [.ref cP,.ref cG,.ref cW,.ref cR,.ref cT,.ref cM]);rw[e0];clear e0;have hx1:=s1 _ _ hx;refine⟨x,t,cF,D,[cP,cG,cW,cR,cT,cM],rfl,aR.of h1,.inl hx1,XF.over,XF.is,fun c hc=>XF.kit hc,?_⟩;refine⟨_,rfl,x,.ref cF,cF,D,true,rfl,⟨cF,.inl ⟨rfl,XF.self⟩⟩,.inl hx1,XF.over,XF.is,_,rfl,?_⟩;refine⟨_,rfl,x,.ref D,cF,D,true,rfl,⟨D,.inl ⟨rfl,XF.up⟩⟩,.inl hx1,XF.over,XF.is,_,rfl,?_⟩;refine⟨_,rfl,x,.ty "ValueError",cF,D,true,rfl,⟨D,.inr ⟨_,rfl,XF.ve⟩⟩,.inl hx1,XF.over,XF.is,_,rfl,?_⟩;exact⟨_,rfl,_,rfl,k _ s1⟩
theorem bO3{cF D:Addr}{L:sI}(m_ThrowError:mg "ThrowError"=some (.ref D))(U:XUp K D)(XO:fH K cF D)(C_Bhd:ClX P w K mg base 108 (aL0 cF L) "behind")(H_Rfd:ClH P w K mg base 1 (aP8 cF) "_law_refused"):fY P w K mg base "_law_told" "_law_told" bY7 109 ["_law_one","_law_other"] (aB1 L):=by
 refine cE7 ["_law_one","_law_other","_law_found","_law_e"] (fun H Q nd hr h=>?_) (by rintro _ _ _ _ ⟨_,_,_,_,_,_,_,_,rfl,_⟩;rfl);obtain⟨p,q,K1,K2,rs1,rs2,m1,m2,rfl,hT,P1,P2,hm,way⟩:=h;have hr1:dH 1 _:=hr.mono (by decide);refine⟨_,aC7 (PS.p0 (fW (i:=2) nd rfl (fj rfl) aG))
  (aC7 (bC5 (i:=3) rfl rfl rfl nd rfl rfl rfl (by rfl) m_ThrowError U
   (fun Ex E1 ps=>aE (fW (i:=2) nd rfl (fj rfl) (cC5 C_Bhd hr ps (aA (pv 0) (aQ (pv 1))))))
   (fun x=>aE (bA (fF (cE3 H_Rfd (hr1.h _) (aQ (pv 3)))) (aE (fW (i:=2) nd rfl (fj rfl) aG)) aP)))
  (nL.p0 (aE (aM (pv 2))))),?_⟩
 refine⟨_,rfl,_,rfl,p,q,K1,K2,rs1,rs2,m1,m2,rfl,hT,P1,P2,hm,?_⟩;rcases way with⟨e,k⟩|⟨ne,k⟩
 ·exact .inl ⟨e,fun r o ν H1 o1 t1 P ho R nu=>⟨_,rfl,k r o ν H1 o1 t1 P ho R nu⟩⟩
 ·refine .inr ⟨ne,fun H1 s1=>⟨cF,rfl,XO,fun σ x hl hx=>?_⟩⟩;obtain⟨v0,v1,v2,v3,rfl⟩:=cC3 hl;refine⟨_,rfl,x,rfl,aC,fun H2 s2=>⟨_,rfl,?_⟩⟩;exact bH rfl ⟨_,rfl,k H2 (s1.trans ((aB hx _).trans s2))⟩
theorem bJ4(C_Draw:Cl P w K mg base 1 spDraw "_law_draw"):fY P w K mg base "_law_kinds" "_law_kinds" bZ1 2 ["_law_deal_here","_law_kinds_here"] spKnd:=by
 refine iG ["_law_deal_here","_law_kinds_here","_law_way"] fun H Q nd hr h=>?_
 obtain⟨d,l,kl,ks,rfl,D,hk,nk,k1,k3,kl8,k⟩:=h;refine⟨_,(eG 2 nd (bS C_Draw hr (aA (pv 0) (aQ aD)))
  (aF (bA (dZ bN (pv 2) aD) (aE (aM (aU1 (pv 1) qQ))) aP)
  (aF (bA (dZ bN (pv 2) aD) (aE (aM (aS eI (cC iJ (pv 1) (cS aD) dG) (bZ (aQ (aS fZ (bQ fE (pv 1) aD) aG)))))) aP)
  (aF (bA (dZ bN (pv 2) aD) (aE (aM (cC iJ (aS eI (pv 1) (bZ (aQ (aS fZ (bQ fE (pv 1) aD) aG)))) dG (cS aD)))) aP)
  (aE (aM (pv 1))))))),?_⟩
 refine⟨_,rfl,d,l,12,rfl,D,by decide,by decide,fun y H1 y0 y1 D1 o1=>?_⟩;have hk1:=aO D hk nk o1;refine⟨_,rfl,rfl,_,rfl,?_⟩;refine lK (fun _=>?_) (fun _=>?_)
 ·refine⟨_,rfl,kl,_,rfl,bK.of hk1,fun a ha=>?_⟩;rw[<-pd];have s:=aB ha (.lst (ks.reverse.map V.str));exact k a _ _ (D1.same s) (o1.trans (.of s)) aC (eZ D1 ha).2 (by rw[du];exact k1) (by rw[du];exact k3)
 obtain⟨x,xr,rfl⟩:∃x xr,ks=x::xr:=by
  cases ks with
  |nil=>exact absurd k1 (by decide)
  |cons x xr=>exact⟨x,xr,rfl⟩
 have x8:=kl8 x aq;have xz:x.length+("x": Str).length<=sizeLine:=cj (aL (by show x.length+1<=1000;lia));rw[bz] at k3;refine⟨_,rfl,rfl,_,rfl,lK (fun _=>?_) (fun _=>?_)⟩
 ·refine⟨_,rfl,_,rfl,kl,_,rfl,bK.of hk1,fun a ha=>?_⟩;rw[ek,cD2];obtain⟨H2,e0,s2,g2⟩:=pQ ha (.lst (xr.map V.str));rw[e0];clear e0;refine⟨_,rfl,kl,_,_,.str x,rfl,rfl,bK.of (s2 _ _ hk1),jB,_,_,rfl,rfl,xz,pA,fun b hb=>?_⟩;have s3:=aB hb (.lst [.str (x++"x")]);refine⟨a,b,_,_,rfl,rfl,s3 _ _ g2,aC,cj (aL (by rw[ac];show xr.length+1<=1000;lia)),fun c hc=>?_⟩;rw[show xr.map V.str++[V.str (x++"x")]=(xr++[x++"x"]).map V.str from by rw[au];rfl];have s4:=s2.trans (s3.trans (aB hc (.lst ((xr++[x++"x"]).map V.str))));exact k c _ _ (D1.same s4) (o1.trans (.of s4)) aC (eZ (D1.same (s2.trans s3)) hc).2 (by rw[ao];exact Nat.le_add_left _ _) (by rw[ao];show xr.length+1<=3;lia)
 refine⟨_,rfl,rfl,_,rfl,lK (fun _=>?_) (fun _=>?_)⟩
 ·refine⟨_,rfl,_,rfl,kl,_,_,.str x,rfl,rfl,bK.of hk1,jB,_,_,rfl,rfl,xz,pA,fun b hb=>?_⟩;have s3:=aB hb (.lst [.str (x++"x")]);refine⟨kl,b,_,_,rfl,rfl,s3 _ _ hk1,aC,cj (aL (by rw[ac];show xr.length+1+1<=1000;lia)),fun c hc=>?_⟩;rw[show(x::xr).map V.str++[V.str (x++"x")]=(x::xr++[x++"x"]).map V.str from by rw[au];rfl];have s4:=s3.trans (aB hc (.lst ((x::xr++[x++"x"]).map V.str)));refine⟨_,rfl,c,_,rfl,bK.of aC,fun e he=>?_⟩;rw[show(3:Int)=((3:Nat):Int) from rfl,pE, <-sk];have s5:=s4.trans (aB he (.lst (((x::xr++[x++"x"]).take 3).map V.str)));exact k e _ _ (D1.same s5) (o1.trans (.of s5)) aC (eZ (D1.same s4) he).2 (by rw[ci];simp;lia) (by rw[ci];lia)
 ·exact⟨_,rfl,k kl _ H1 D1 o1 hk1 nk (by simp) (by rw[List.length_cons];exact k3)⟩
theorem aP2(C_Nms46:Cl P w K mg base 2 spNamesE "_law_names")(C_Draw:Cl P w K mg base 1 spDraw "_law_draw")(C_Prg46:Cl P w K mg base 14 spPrgE "_law_program"):fY P w K mg base "_law_two" "_law_two" aW8 15 ["_law_deal_here","_law_kinds_here","_law_others","_law_room"] spTwo:=by
 refine iG ["_law_deal_here","_law_kinds_here","_law_others","_law_room","_law_names_here","_law_at","_law_one"] fun H Q nd hr h=>?_
 obtain⟨d,l,kl,ol,ks,os,rfl,D,hk,nk,k1,k3,ho,no,os1,os3,k⟩:=h;refine⟨_,(eG 4 nd (bS C_Nms46 hr (aA (pv 0) (aQ aD)))
  (aF (jG (bA (dZ bN (bS C_Draw hr (aA (pv 0) (aQ aD))) aD) (aE (lZ (bQ fE (pv 1) aD) (bO2 (pv 4) (bS C_Draw hr (aA (pv 0) (aQ aD))) xB))) aP))
  (eG 5 nd (bS C_Draw hr (aA (pv 0) (aQ aD)))
  (eG 6 nd (bS C_Prg46 hr (aA (pv 0) (aA (pv 1) (aA (cC iJ (pv 4) dG (cS aD)) (aQ (pv 3))))))
  (aE (aM (bE (aA (pv 6) (aQ (bS C_Prg46 hr (aA (pv 0) (aA (pv 2) (aA (cC iJ (cC iJ (pv 4) (cS (pv 5)) dG) dG (cS aD)) (aQ (pv 3))))))))))))))),?_⟩
 refine⟨_,rfl,d,l,9,rfl,D,by decide,by decide,fun nl ws A B tn H1 D1 oA f1 h1 wl ab wa=>?_⟩;have nnl:=(eZ D f1).2;have hk1:=aO D hk nk oA;have ho1:=aO D ho no oA;have e1:kl≠nl:=aI hk f1;have e2:ol≠nl:=aI ho f1;refine⟨fun σ' G=>∃ws:List Str,σ'=[some (.ref d),some (.ref kl),some (.ref ol),some (.int 3),some (.ref nl),none,none]/\dJ G d l/\eW d l H G/\G nl=some (.lst (ws.map V.str))/\ws.length=9/\G kl=some (.lst (ks.map V.str))/\G ol=some (.lst (os.map V.str)),?_,?_⟩
 ·refine⟨_,rfl,d,l,3,rfl,D1,by decide,by decide,fun y H2 _ _ D2 o2=>⟨rfl,_,rfl,?_⟩⟩;have h2:=aO D1 h1 nnl o2;have hk2:=aO D1 hk1 nk o2;have ho2:=aO D1 ho1 no o2;refine lK (fun _=>?_) (fun _=>⟨ws,rfl,D2,oA.trans o2,h2,wl,hk2,ho2⟩);obtain⟨x,xr,rfl⟩:∃x xr,ks=x::xr:=by
   cases ks with
   |nil=>exact absurd k1 (by decide)
   |cons x xr=>exact⟨x,xr,rfl⟩
  refine⟨_,rfl,kl,_,_,.str x,rfl,rfl,bK.of hk2,jB,_,rfl,_,rfl,d,l,9,rfl,D2,by decide,by decide,fun z H3 z0 z1 D3 o3=>?_⟩;have h3:=aO D2 h2 nnl o3;obtain⟨j,rfl⟩:=fu z0;refine⟨nl,_,_,j,rfl,rfl,h3,by unfold ixN;rw[bg (by lia),bg (by rw[ac,wl];lia)];rfl,?_⟩;rw[show(ws.map V.str).set j (.str x)=(ws.set j x).map V.str from by rw[List.map_set]];exact⟨ws.set j x,rfl,wY D3 h3 nnl,aC3 (oA.trans (o2.trans o3)) f1,aC,by rw[vb];exact wl,(aH e1).trans (aO D2 hk2 nk o3),(aH e2).trans (aO D2 ho2 no o3)⟩
 rintro σ' G ⟨ws,rfl,D2,o2,h2,wl,hk2,ho2⟩;refine⟨_,rfl,d,l,6,rfl,D2,by decide,by decide,fun z H3 z0 z1 D3 o3=>?_⟩;have h3:=aO D2 h2 nnl o3;have hk3:=aO D2 hk2 nk o3;have ho3:=aO D2 ho2 no o3;refine⟨_,rfl,_,rfl,_,rfl,_,rfl,nl,_,rfl,bK.of h3,fun n5 hn5=>?_⟩;rw[show(5:Int)=((5:Nat):Int) from rfl,pE, <-sk];have s4:=aB hn5 (.lst ((ws.take 5).map V.str));have g4:aN H3 n5 (.lst ((ws.take 5).map V.str)) n5=some (.lst ((ws.take 5).map V.str)):=aC;have nn5:=(eZ D3 hn5).2;generalize aN H3 n5 (.lst ((ws.take 5).map V.str))=H4 at s4 g4 ⊢;have D4:=D3.same s4;refine⟨_,rfl,d,l,kl,n5,ks,ws.take 5,3,rfl,D4,s4 _ _ hk3,nk,k1,k3,g4,nn5,by rw[ci];lia,by rw[ci];lia,fun p rs1 H5 D5 o5 P1=>?_⟩;have o35:=(eW.of (d:=d) (l:=l) s4).trans o5;have h5:=aO D3 h3 nnl o35;have hk5:=aO D3 hk3 nk o35;have ho5:=aO D3 ho3 no o35;have oB:=o2.trans (o3.trans o35);obtain⟨j,rfl⟩:=fu z0
 refine⟨_,rfl,_,rfl,_,rfl,_,rfl,_,rfl,_,rfl,nl,_,rfl,bK.of h5,fun m1 hm1=>?_⟩;rw[wL, <-List.map_drop];obtain⟨H6,e0,s6,g6⟩:=pQ hm1 (.lst ((ws.drop j).map V.str));rw[e0];clear e0;refine⟨_,rfl,m1,_,rfl,bK.of g6,fun m2 hm2=>?_⟩;rw[pE, <-sk];have s7:=s6.trans (aB hm2 (.lst (((ws.drop j).take 5).map V.str)));have g7:aN H6 m2 (.lst (((ws.drop j).take 5).map V.str)) m2=some (.lst (((ws.drop j).take 5).map V.str)):=aC;have nm2:=(eZ (D5.same s6) hm2).2;generalize aN H6 m2 (.lst (((ws.drop j).take 5).map V.str))=H7 at s7 g7 ⊢;have D7:=D5.same s7;refine⟨_,rfl,d,l,ol,m2,os,(ws.drop j).take 5,3,rfl,D7,s7 _ _ ho5,no,os1,os3,g7,nm2,by rw[ci,me];lia,by rw[ci];lia,fun q rs2 H8 D8 o8 P2=>⟨eY,fun r hr'=>?_⟩⟩;have s9:=aB hr' (.tup [.ref p,.ref q]);exact k r p q rs1 rs2 _ (D8.same s9) ((oB.trans (.of s7)).trans (o8.trans (.of s9))) aC (P1.ts ((TS.of s7).trans ((TS.out D7 o8).trans (.of s9)))) (P2.ts (.of s9))
theorem bN8{L:sI}(C_Tld:Cl P w K mg base 109 (aB1 L) "_law_told")(C_NmR:Cl P w K mg base 6 spNmR "_law_names_right")(C_RsT:Cl P w K mg base 15 (aE5 3) "_law_rows_told")(C_Lok:Cl P w K mg base 5 spLookL "look")(m_len:mg "len"=none)(m_isinstance:mg "isinstance"=none)(m_tuple:mg "tuple"=none):fY P w K mg base "_law_right" "_law_right" bU1 110 ["_law_one","_law_other"] (aQ1 L):=by
 refine iG ["_law_one","_law_other","_law_found","_law_many","_law_names_here"] fun H Q nd hr h=>?_
 obtain⟨p,q,ks,rs1,rs2,m1,m2,rfl,hT,P1,P2,hm,ndk,k⟩:=h;refine⟨_,(eG 2 nd (bS C_Tld hr (aA (pv 0) (aQ (pv 1))))
  (aF (bA (fC (PW.pt (kO (gK (fF (jU gF m_isinstance dy (aA (pv 2) (aQ (kX (v:= .ty "tuple") (by rfl) m_tuple dq rfl)))))) (kO (dZ rT (jU bG m_len cu (aQ (pv 2))) aD) (kB (dZ (qR hr) (bQ aJ (pv 2) aD) (bQ aJ (pv 0) aD))))))) (aE (aM fS)) aP)
  (eG 3 nd (jU bG m_len cu (aQ (bQ aJ (pv 0) aD)))
  (eG 4 nd jX
  (aF (bA (fC (PW.pt (kO (dZ (aI8 hr) (cC kP (bQ aJ (pv 2) aD) dG (cS (pv 3))) (bQ aJ (pv 0) aD)) (kB (gK (fF (bS C_RsT hr (aA (cC kP (bQ aJ (pv 2) aD) (cS (pv 3)) dG) (aA (bQ aJ (pv 1) aD) (aQ (pv 4))))))))))) (aE (aM fS)) aP)
  (aE (aM (dR (bS C_NmR hr (aA (pv 4) (aA (pv 0) (aQ (pv 1))))) (dO (nM bQ8 (bS C_Lok hr (aQ (pv 2))) fS)))))))))),?_⟩
 refine⟨_,rfl,_,rfl,p,q,ks,ks,rs1,rs2,m1,m2,rfl,hT,P1,P2,hm,.inl ⟨rfl,fun r o ν H1 o1 hT1 PP ho R nu=>?_⟩⟩;obtain⟨ps,eP⟩:=hT.is;have t1:TS H H1:=o1.ts eP;have P1:=P1.ts t1;have P2:=P2.ts t1;obtain⟨rk,rr,hr',hrk,hrr⟩:=PP.ex;obtain⟨pk,pr,hp,hpk,hpr⟩:=P1.ex;obtain⟨qk,qr,hq,hqk,hqr⟩:=P2.ex;have l1:=aS8 P1.t1;have l2:=aS8 P2.t1;have lo:=R.length;have c2:=P2.cnt;have m42:=P2.m4;refine⟨fun b G=>b=false/\G=H1,?_,?_⟩
 ·refine⟨_,rfl,_,_,_,true,rfl,.tup hr',rfl,_,rfl,aV (by decide) ⟨_,rfl,r,_,rfl,.inr (aR.of hr'),rfl,_,rfl,aV (by simp) ⟨_,rfl,r,_,_,.ref rk,rfl,rfl,aR.of hr',rfl,_,rfl,p,_,_,.ref pk,rfl,rfl,aR.of hp,rfl,rk,pk,ks,ks,rfl,rfl,.inr ⟨aR.of hrk,aR.of hpk⟩,_,rfl,by simp,rfl⟩⟩⟩
 rintro b G ⟨rfl,rfl⟩;refine aV (by decide) ?_;refine⟨_,rfl,p,_,_,.ref pr,rfl,rfl,aR.of hp,rfl,pr,_,rfl,.inr (aR.of hpr),?_⟩;refine fun d hd=>?_
 obtain⟨G2,e0,s2,g2⟩:=pQ hd (.dK []);rw[e0];clear e0;rw[dS] at hrr;refine⟨fun b G'=>b=false/\∃S',eU d G2 G'/\xU G' d S' ν/\∀y,y∈S'↔y∈eM rs2,?_,?_⟩
 ·refine⟨_,rfl,r,_,_,.ref rr,rfl,rfl,aR.of (s2 _ _ hr'),rfl,_,rfl,_,rfl,rr,_,rfl,aR.of (s2 _ _ hrr),bV8 (by rw[bB];lia),fun c hc=>?_⟩;rw[bE0];have s3:=s2.trans (aB hc (.tup (bL rs1)));have g3:=aB hc (.tup (bL rs1)) _ _ g2;have gc:aN G2 c (.tup (bL rs1)) c=some (.tup (bL rs1)):=aC;have s23:=aB hc (.tup (bL rs1));generalize aN G2 c (.tup (bL rs1))=G3 at s3 g3 gc s23 ⊢;refine⟨_,rfl,p,_,_,.ref pr,rfl,rfl,aR.of (s3 _ _ hp),rfl,c,pr,_,_,0,rfl,rfl,aR.of gc,aR.of (s3 _ _ hpr),kQ aE9,by decide,_,rfl,aV (by decide) ?_⟩;refine⟨_,rfl,r,_,_,.ref rr,rfl,rfl,aR.of (s3 _ _ hr'),rfl,_,rfl,_,rfl,rr,_,rfl,aR.of (s3 _ _ hrr),bC1 (by rw[bB];lia),fun c4 hc4=>?_⟩;rw[aJ4];have s34:=aB hc4 (.tup (bL o));have s4:=s3.trans s34;have g4:=s34 _ _ g3;have gc4:aN G3 c4 (.tup (bL o)) c4=some (.tup (bL o)):=aC;generalize aN G3 c4 (.tup (bL o))=G4 at s4 s34 g4 gc4 ⊢;refine⟨_,rfl,q,_,_,.ref qr,rfl,rfl,aR.of (s4 _ _ hq),rfl,_,rfl,d,[],ν,rs2,o,qr,c4,eM rs2,rfl,⟨g4,oj⟩,s4 _ _ hqr,gc4,aZ.ts (.of s4) _ P2.rows,aZ.ts (.of s4) _ ho,R,P2.dp,P2.tz,P2.us,by lia,P2.few.mono (by lia),fun y hy=>hy,fun y hy=>absurd hy dv,fun S' G5 b5 D5 m5=>⟨_,rfl,rfl,S',(eU.of (s23.trans s34)).trans b5,D5,fun y=>by rw[m5 y];simp⟩⟩
 rintro b G' ⟨rfl,S',b2,D2,m2'⟩;refine aV (by decide) ?_;have s5:bD G G':=b2.same s2 hd;refine⟨_,rfl,_,rfl,_,rfl,d,p,q,S',ν,ks,ks,rs1,rs2,m1,m2,rfl,D2,P1.ts (.of s5),P2.ts (.of s5),nu,m2',fun H5 b5=>⟨_,rfl,bH rfl ?_⟩⟩;have s6:bD G H5:=(b2.trans b5).same s2 hd;refine⟨_,rfl,r,ks,rs1++o,m1+m2,rfl,PP.ts (.of s6),ndk,fun H6 s7=>⟨true,true,rfl,rfl,?_⟩⟩;have s8:=s6.trans s7;exact k H6 (o1.trans (jF.of s8)) (hT1.same s8)
theorem bL6{L:sI}(C_Deal:Cl P w K mg base 1 (yD K) "_law_deal")(C_Knd:Cl P w K mg base 2 spKnd "_law_kinds")(C_Two46:Cl P w K mg base 15 spTwo "_law_two")(C_Tld:Cl P w K mg base 109 (aB1 L) "_law_told")(C_Rgt:Cl P w K mg base 110 (aQ1 L) "_law_right")(C_Nms46:Cl P w K mg base 2 spNamesE "_law_names")(C_Draw:Cl P w K mg base 1 spDraw "_law_draw"):fY P w K mg base "law" "law" aY0 111 ["_law_script"] (mZ K L):=by
 refine iG ["_law_script","_law_deal_here","_law_kinds_here","_law_others","_law_one","_law_other","_law_both"] fun H Q nd hr h=>?_
 obtain⟨a,ns,rfl,hS,hlen,hT,k⟩:=h;refine⟨_,(eG 1 nd (bS C_Deal hr (aA (pv 0) (aQ aD)))
  (aF (lG ["_law_name"] [none] (i:=2) nd rfl (fj rfl) (cU (bS C_Nms46 hr (aA (pv 1) (aQ (aS dE aD (bS C_Draw hr (aA (pv 1) (aQ aD)))))))) (fun _ _ _ _=>(fG 0)) (fun _ _ _ _=>eT) (fun _ _ _ _=>(cC yS (pv 0) dG (cS aD))))
  (eG 3 nd (bS C_Knd hr (aA (pv 1) (aQ (pv 2))))
  (aF (lZ (bS C_Two46 hr (aA (pv 1) (aA (pv 2) (aA (pv 3) (aQ aD))))) (iO rfl (aY (fG 4 nd) (aY (fG 5 nd) fB))))
  (aF (bA (dZ (qR hr) (pv 2) (pv 3)) (aE (aM (dR (nM bN (bS C_Tld hr (aA (pv 4) (aQ (pv 5)))) aG) (dO (bS C_Rgt hr (aA (pv 4) (aQ (pv 4)))))))) aP)
  (aF (bA (gK (fF (bS C_Rgt hr (aA (pv 4) (aQ (pv 5)))))) iZ aP)
  (eG 6 nd (bS C_Tld hr (aA (pv 4) (aQ (pv 5))))
  (aE (aM (dR (bS C_Rgt hr (aA (pv 6) (aQ (pv 5)))) (dR (bS C_Rgt hr (aA (pv 5) (aQ (pv 6)))) (dO (nM (oI hr) (bS C_Tld hr (aA (pv 4) (aQ (pv 5)))) (pv 6)))))))))))))),?_⟩
 refine⟨_,rfl,a,ns,0,rfl,hS,hlen,by decide,by decide,fun d l H1 fd fl D1 s1=>?_⟩;have e1:=s1 _ _ hT;refine⟨_,rfl,_,rfl,d,l,3,rfl,D1,by decide,by decide,fun y H2 y0 y1 D2 o2=>⟨_,_,rfl,rfl,d,l,1+y,rfl,D2,by lia,by lia,fun nl ws A B tn H3 D3 o3 f3 h3 wl ab wa=>⟨nl,rfl,⟨_,bK.of h3⟩,cZ (K:=K) (a:=nl) (xs:=ws.map V.str) (fun i ys σ G=>G=H3/\(∃v,σ=[v])/\ys=((ws.take i).map fun w=>Txt.slice w none (some 7)).map V.str)
  (aL (by rw[ac];lia)) ⟨rfl,⟨_,rfl⟩,rfl⟩ (by rintro i ys σ G ⟨_,_,e⟩;rw[e,ac,ac,ci];lia) (by rintro i ys σ G _ ⟨e,_⟩;rw[e];exact bK.of h3) ?_ ?_⟩⟩⟩
 ·rintro i v ys σ G hv ⟨rfl,⟨v',rfl⟩,rfl⟩;obtain⟨x,rfl,hx⟩:=iL hv;have xl:=xS ab wa x (bq hx);refine⟨_,rfl,_,rfl,x,rfl,cj (aL (by lia)),rfl,⟨_,rfl⟩,?_⟩;rw[aX hx,au,au];rfl
 rintro ys σ G ⟨rfl,_,rfl⟩ kl hkl;rw[ac,cm];have wc:=aL2 ab wa;have kn:=bB4 wc (by rw[ac];lia);have k8:=xS ab wc;have kl':(ws.map fun w=>Txt.slice w none (some 7)).length=ws.length:=ac _;generalize (ws.map fun w=>Txt.slice w none (some 7))=ks at kn k8 kl' ⊢;have e3:=mQ D2 (mQ D1 e1 o2) o3;have s4:=aB hkl (.lst (ks.map V.str));have g4:aN G kl (.lst (ks.map V.str)) kl=some (.lst (ks.map V.str)):=aC;have nkl:=(eZ D3 hkl).2
 change (fun x H=>_) _ (aN G kl (.lst (ks.map V.str)))
 generalize aN G kl (.lst (ks.map V.str))=H4 at s4 g4 ⊢;have D4:=D3.same s4;have e4:=s4 _ _ e3;refine⟨_,rfl,_,rfl,d,l,kl,ks,rfl,D4,g4,nkl,by lia,by lia,k8,fun ol os H5 D5 o5 h5 nol ol1 ol3=>?_⟩;have e5:=mQ D4 e4 o5;have g5:=aO D4 g4 nkl o5;refine⟨_,rfl,_,rfl,_,rfl,d,l,kl,ol,ks,os,rfl,D5,g5,nkl,by lia,by lia,h5,nol,ol1,ol3,fun r p q rs1 rs2 H6 D6 o6 h6 P1 P2=>?_⟩;have e6:=mQ D5 e5 o6;refine⟨r,_,rfl,aR.of h6,rfl,_,_,rfl,_,_,rfl,rfl,?_⟩;have hT6:lL H6 L.P L.pos L.q:= .inl e6;refine⟨_,rfl,_,rfl,kl,ol,ks,os,rfl,rfl,.inl ⟨bK.of (aO D5 g5 nkl o6),bK.of (aO D5 h5 nol o6)⟩,_,rfl,?_⟩
 by_cases ne:ks=os
 rotate_left
 ·rw[ba ne];refine bH rfl ?_;refine⟨_,rfl,_,rfl,p,q,ks,os,rs1,rs2,1,1,rfl,hT6,P1,P2,by decide,.inr ⟨ne,fun H7 s7=>⟨rfl,_,rfl,bH (af rfl) ?_⟩⟩⟩;exact⟨_,rfl,_,rfl,p,p,ks,rs1,rs1,1,1,rfl,hT6.same s7,P1.ts (.of s7),P1.ts (.of s7),by decide,kn,fun H8 _ _=>k H8⟩
 subst ne;rw[af rfl];refine aV (by decide) ?_;refine⟨_,rfl,_,rfl,p,q,ks,rs1,rs2,1,1,rfl,hT6,P1,P2,by decide,kn,fun H7 o7 hT7=>⟨_,rfl,aV (by decide) ?_⟩⟩;have t7:TS H6 H7:=o7.ts e6;have P17:=P1.ts t7;have P27:=P2.ts t7;refine⟨_,rfl,_,rfl,p,q,ks,ks,rs1,rs2,1,1,rfl,hT7,P17,P27,by decide,.inl ⟨rfl,fun b o ν H8 o8 hT8 Pb ho R nu=>?_⟩⟩;obtain⟨ps7,e7⟩:=hT7.is;have t8:TS H7 H8:=o8.ts e7;refine⟨_,rfl,_,rfl,b,q,ks,rs1++o,rs2,1+1,1,rfl,hT8,Pb,P27.ts t8,by decide,kn,fun H9 o9 hT9=>⟨_,rfl,bH rfl ?_⟩⟩;obtain⟨ps8,e8⟩:=hT8.is;have t9:TS H8 H9:=o9.ts e8;refine⟨_,rfl,_,rfl,q,b,ks,rs2,rs1++o,1,1+1,rfl,hT9,(P27.ts t8).ts t9,Pb.ts t9,by decide,kn,fun H10 o10 hT10=>⟨_,rfl,bH rfl ?_⟩⟩;obtain⟨ps9,e9⟩:=hT9.is;have t10:TS H9 H10:=o10.ts e9;have tB:TS H8 H10:=t9.trans t10;refine⟨_,rfl,_,rfl,p,q,ks,ks,rs1,rs2,1,1,rfl,hT10,(P17.ts t8).ts tB,(P27.ts t8).ts tB,by decide,.inl ⟨rfl,fun b2 oo2 ν2 H11 o11 hT11 Pb2 ho2 R2 nu2=>?_⟩⟩
 obtain⟨ps10,e10⟩:=hT10.is;have tC:TS H8 H11:=tB.trans (o11.ts e10);obtain rfl:=nu.one nu2;obtain⟨bk,br,hb,hbk,hbr⟩:=(Pb.ts tC).ex;obtain⟨ck,cr,hc,hck,hcr⟩:=Pb2.ex;rw[dS] at hbr hcr;refine⟨_,rfl,b2,b,_,_,14,rfl,rfl,aR.of hc,aR.of hb,.cons (.inr ⟨ck,bk,_,_,rfl,rfl,hck,hbk,lW bD7⟩) (.cons (.inr ⟨cr,br,_,_,rfl,rfl,hcr,hbr,rE (lW aE9) (kM 13 R2 R ho2 (aZ.ts tC _ ho) P2.tz P2.us ?_)⟩) .nil),by decide,k _⟩;have:=P2.dp;unfold tX;lia
end
theorem all_mk{l:W.OpenLaw}{w:World}{K:W.Frag}{h:Heap}{mg:Str->Option Value}{fa:Addr}{cc Pt:Addr}{xcT xcW:Addr}{odT odW:Option Addr}{itsT itsW:Array Value}{nT nW:Nat}{slT slW:Array (Option Value)}{tkA tkB tkC:Tok}{xcD xND xc1 xN1:Addr}{xc2 xc3 xc4 xc5 xc6 xc7:Addr}{oc_2 oc_3 oc_4 oc_5 oc_6 oc_7:Value}{oo_2 oo_3 oo_4 oo_5 oo_6 oo_7:Option Addr}{cd_2 cd_3 cd_4 cd_5 cd_6 cd_7:ClassData}{ol_2 ol_3 ol_4 ol_5 ol_6 ol_7:Array (Option Value)}{nmD qnD nm1 qn1:Str}{bsD subD bs1 sub1:List Value}{snD sn1:List Str}{abD ab1:Bool}{colD col1:Option Bool}{ddD dd1:Option Addr}{kaD kbD kcD kdD keD ka1 kb1 kc1 kd1 ke1:Option Value}{oeD oe1:Option Addr}{ooD oo1:Value}{esD es1:Array DictEntry}{enD en1:Nat}{xlD xl1:Array (Option Value)}(X:K.In h)(G:h.Ns mainGlobals mg)(hfa:mg "law"=some (.ref fa))
  (t1:TopAt K "parts_of" bX5)
  (t2:TopAt K "names_in" bW7)
  (t3:TopAt K "sets_name" cA0)
  (t4:TopAt K "names_asked" bZ4)
  (t5:TopAt K "as_steps" bX8)
  (t6:TopAt K "inner_steps" bT3)
  (t7:TopAt K "steps_of" bS4)
  (t8:TopAt K "begins_rows" cA9)
  (t9:TopAt K "rebuilt" bZ2)
  (t10:TopAt K "first_is_amiss" bU0)
  (t11:TopAt K "range_is_amiss" bY3)
  (t12:TopAt K "range_faults" bX4)
  (t13:TopAt K "in_both" bZ5)
  (t14:TopAt K "unknown_faults" bZ6)
  (t15:TopAt K "tells_faults" bX1)
  (t16:TopAt K "look_at_kinds" bS6)
  (t17:TopAt K "look" bY4)
  (t18:TopAt K "rows_in" bS2)
  (t19:TopAt K "is_name" cA8)
  (t20:TopAt K "names_of_values" bU9)
  (t21:TopAt K "spelled" bU2)
  (t22:TopAt K "new_names" bW0)
  (t23:TopAt K "renamed_term" bT8)
  (t24:TopAt K "renamed_row" bW4)
  (t25:TopAtT K "renamed" yJ cc)
  (t26:TopAt K "behind" cA1)
  (t27:TopAt K "_law_deal" aV3)
  (t28:TopAt K "_law_draw" aP7)
  (t29:TopAt K "_law_lowest" bF1)
  (t30:TopAt K "_law_steepness" aQ0)
  (t31:TopAt K "_law_names" aP9)
  (t32:TopAt K "_law_sum" aO9)
  (t33:TopAt K "_law_throw" aV6)
  (t34:TopAt K "_law_term" aJ9)
  (t35:TopAt K "_law_set_row" bG0)
  (t36:TopAt K "_law_when" aQ8)
  (t37:TopAt K "_law_row" aU5)
  (t38:TopAt K "_law_rows" aO0)
  (t39:TopAt K "_law_program" aL5)
  (t40:TopAt K "_law_flat" aX5)
  (t41:TopAt K "_law_name_told" bS7)
  (t42:TopAt K "_law_term_told" bX2)
  (t43:TopAt K "_law_row_told" bV9)
  (t44:TopAt K "_law_rows_told" bW2)
  (t45:TopAt K "_law_names_right" bU8)
  (t46:TopAt K "_law_is_name" bU7)
  (t47:TopAt K "_law_two" aW8)
  (t48:TopAt K "_law_refused" bK2)
  (t49:TopAt K "_law_told" bY7)
  (t50:TopAt K "_law_kinds" bZ1)
  (t51:TopAt K "_law_right" bU1)
  (t52:TopAt K "law" aY0)
  (z_reversed:W.nsIn K mainGlobals "reversed"=some none)
  (z_tuple:W.nsIn K mainGlobals "tuple"=some none)
  (z_len:W.nsIn K mainGlobals "len"=some none)
  (z_all:W.nsIn K mainGlobals "all"=some none)
  (z_dict:W.nsIn K mainGlobals "dict"=some none)
  (z_set:W.nsIn K mainGlobals "set"=some none)
  (z_min:W.nsIn K mainGlobals "min"=some none)
  (z_any:W.nsIn K mainGlobals "any"=some none)
  (z_sorted:W.nsIn K mainGlobals "sorted"=some none)
  (z_list:W.nsIn K mainGlobals "list"=some none)
  (z_max:W.nsIn K mainGlobals "max"=some none)
  (z_range:W.nsIn K mainGlobals "range"=some none)
  (z_int:W.nsIn K mainGlobals "int"=some none)
  (z_isinstance:W.nsIn K mainGlobals "isinstance"=some none)
  (z_str:W.nsIn K mainGlobals "str"=some none)
  (z_zip:W.nsIn K mainGlobals "zip"=some none)
  (z_ValueError:W.nsIn K mainGlobals "ValueError"=some none)
  (qT:W.nsIn K mainGlobals "THROWS"=some (some (.ref xcT)))
  (uT:K.lookup xcT=some ⟨.type "tuple",odT,.seq itsT nT,slT⟩)
  (vT:bI (cV.map V.str) itsT.toList)
  (qW:W.nsIn K mainGlobals "KEPT_WORDS"=some (some (.ref xcW)))
  (uW:K.lookup xcW=some ⟨.type "tuple",odW,.seq itsW nW,slW⟩)
  (vW:bI (fJ.map V.str) itsW.toList)
  (qK:W.nsIn K mainGlobals "MOST_KINDS"=some (some (.int 3 tkA)))
  (qA:W.nsIn K mainGlobals "LETTERS"=some (some (.str alpha tkB)))
  (qN:W.nsIn K mainGlobals "LONGEST_NAME"=some (some (.int 8 tkC)))
  (qD:W.nsIn K mainGlobals "ThrowError"=some (some (.ref xcD)))
  (q1:W.nsIn K mainGlobals "NoFit"=some (some (.ref xc1)))
  (q2:W.nsIn K mainGlobals "NoPaper"=some (some (.ref xc2)))
  (q3:W.nsIn K mainGlobals "NoProgram"=some (some (.ref xc3)))
  (q4:W.nsIn K mainGlobals "NoRow"=some (some (.ref xc4)))
  (q5:W.nsIn K mainGlobals "NoRows"=some (some (.ref xc5)))
  (q6:W.nsIn K mainGlobals "NoText"=some (some (.ref xc6)))
  (q7:W.nsIn K mainGlobals "TooMany"=some (some (.ref xc7)))
  (uD:K.lookup xcD=some (excClassObj nmD qnD xcD xND bsD (veB) true snD subD abD colD ddD kaD kbD kcD kdD keD "ValueError.__new__"))
  (u1:K.lookup xc1=some (excClassObj nm1 qn1 xc1 xN1 bs1 (.ref xcD::veB) true sn1 sub1 ab1 col1 dd1 ka1 kb1 kc1 kd1 ke1 "ValueError.__new__"))
  (u2:K.lookup xc2=some ⟨oc_2,oo_2,.cls cd_2,ol_2⟩)
  (ty2:W.typeIn K (.ref xc2)=some (.type "type"))
  (u3:K.lookup xc3=some ⟨oc_3,oo_3,.cls cd_3,ol_3⟩)
  (ty3:W.typeIn K (.ref xc3)=some (.type "type"))
  (u4:K.lookup xc4=some ⟨oc_4,oo_4,.cls cd_4,ol_4⟩)
  (ty4:W.typeIn K (.ref xc4)=some (.type "type"))
  (u5:K.lookup xc5=some ⟨oc_5,oo_5,.cls cd_5,ol_5⟩)
  (ty5:W.typeIn K (.ref xc5)=some (.type "type"))
  (u6:K.lookup xc6=some ⟨oc_6,oo_6,.cls cd_6,ol_6⟩)
  (ty6:W.typeIn K (.ref xc6)=some (.type "type"))
  (u7:K.lookup xc7=some ⟨oc_7,oo_7,.cls cd_7,ol_7⟩)
  (ty7:W.typeIn K (.ref xc7)=some (.type "type"))
  (tnD:K.lookup xND=some ⟨ooD,oeD,.dict esD enD,xlD⟩)
  (ttD:(esD.toList.all fun e=>match e.key with | .str _ _=>true|_=>false)=true)
  (niD:W.nsIn K xND "__init__"=some none)
  (tn1:K.lookup xN1=some ⟨oo1,oe1,.dict es1 en1,xl1⟩)
  (tt1:(es1.toList.all fun e=>match e.key with | .str _ _=>true|_=>false)=true)
  (ni1:W.nsIn K xN1 "__init__"=some none)
  (sa1:W.findIn K (.ref xc1) "__setattr__"=some (some (.builtin "object.__setattr__")))
  (ga1:W.findIn K (.ref xc1) "__getattribute__"=some (some (.builtin "BaseException.__getattribute__")))
  (gh1:W.findIn K (.ref xc1) "__getattr__"=some none)
  (ca1:W.findIn K (.ref xc1) "__class__"=some (some (.builtin "object.__class__")))
  (kp1:W.keepIn K (.ref xc1)=true)
  (beD:W.subIn K (.ref xcD) (.type "BaseException")=some true)
  (hg:W.specialIn K (.builtin "object.__class__") "__get__"=some (some (.builtin "getset_descriptor.__get__")))
  (ht:W.takesIn K (.builtin "object.__class__")=some true)
  (nr:xc1∉[xc2,xc3,xc4,xc5,xc6,xc7])
  (dnot:xcD∉[xc2,xc3,xc4,xc5,xc6,xc7]) :
  ∃fd:FuncData,(∀(s:Shared) (v:Value),BindsTo s fd ⟨[v],[]⟩ [("_law_script",v)])/\∀base:Heap,K.In base->base.Ns mainGlobals mg->yI base mg cc Pt->kF l.prog w K mg base oX 111 fa fd ["_law_script"] (mZ K (aM3 Pt)):=by
 obtain⟨_,la,oc,od,kV,dc,pm,an,cd,ct,sl,lk,lc,lp⟩:=t52
 cases hfa.symm.trans (W.mg_of X G la)
 refine⟨W.fnOf "law" "law" (bT aY0) (bF aY0) (aK aY0) .none kV dc pm an cd ct,fun s v=> .of_eq rfl,fun base _ _ LB0=>?_⟩;have Z:Zx l.prog w K mg base:= .of X G;have y_reversed:=Z.no _ z_reversed;have y_tuple:=Z.no _ z_tuple;have y_len:=Z.no _ z_len;have y_all:=Z.no _ z_all;have y_dict:=Z.no _ z_dict;have y_set:=Z.no _ z_set;have y_min:=Z.no _ z_min;have y_any:=Z.no _ z_any;have y_sorted:=Z.no _ z_sorted;have y_list:=Z.no _ z_list;have y_max:=Z.no _ z_max;have y_range:=Z.no _ z_range;have y_int:=Z.no _ z_int;have y_isinstance:=Z.no _ z_isinstance;have y_str:=Z.no _ z_str;have y_zip:=Z.no _ z_zip;have y_ValueError:=Z.no _ z_ValueError;have mT:=Z.ns _ _ qT;have zT:itsT.size<=sizeLine:=by
  have e:=vT.length;have e2:itsT.size=4:=by rw[<-eo];simpa [cV] using e.symm
  rw[e2]
  decide
 have hT:∀H,aR K H xcT (cV.map V.str):=fun H=> .inr ⟨_,itsT,nT,uT,rfl,rfl,zT,vT⟩
 have mW:=Z.ns _ _ qW;have zW:itsW.size<=sizeLine:=by
  have e:=vW.length;have e2:itsW.size=12:=by rw[<-eo];simpa [fJ] using e.symm
  rw[e2]
  decide
 have hW:∀H,aR K H xcW (fJ.map V.str):=fun H=> .inr ⟨_,itsW,nW,uW,rfl,rfl,zW,vW⟩
 have mK:=Z.ns _ _ qK;have mA:=Z.ns _ _ qA;have mN:=Z.ns _ _ qN;have W1:=aZ0 u1 sa1 ga1 gh1;have Z1:XIs K xc1:=⟨ca1,hg,ht⟩
 have TD:W.typeIn K (.ref xcD)=some (.type "type"):=by show(K.lookup xcD).map _=_;rw[uD];rfl
 have CD:(W.clsIn K xcD).isSome=true:=by unfold W.clsIn;rw[uD];rfl
 have cl2:(W.clsIn K xc2).isSome=true:=by unfold W.clsIn;rw[u2];rfl
 have cl3:(W.clsIn K xc3).isSome=true:=by unfold W.clsIn;rw[u3];rfl
 have cl4:(W.clsIn K xc4).isSome=true:=by unfold W.clsIn;rw[u4];rfl
 have cl5:(W.clsIn K xc5).isSome=true:=by unfold W.clsIn;rw[u5];rfl
 have cl6:(W.clsIn K xc6).isSome=true:=by unfold W.clsIn;rw[u6];rfl
 have cl7:(W.clsIn K xc7).isSome=true:=by unfold W.clsIn;rw[u7];rfl
 have FM:lQ K xc1 [xc2,xc3,xc4,xc5,xc6,xc7] xcD:=⟨W1,Z1,(by
  intro C h;simp only[List.mem_cons,List.not_mem_nil,or_false] at h;rcases h with rfl|rfl|rfl|rfl|rfl|rfl
  ·exact ty2
  ·exact ty3
  ·exact ty4
  ·exact ty5
  ·exact ty6
  ·exact ty7
  ),(by
  intro C h;simp only[List.mem_cons,List.not_mem_nil,or_false] at h;rcases h with rfl|rfl|rfl|rfl|rfl|rfl
  ·exact cl2
  ·exact cl3
  ·exact cl4
  ·exact cl5
  ·exact cl6
  ·exact cl7
  ),nr,dnot,CD,TD⟩
 have UP:XUp K xcD:=⟨TD,CD,beD⟩
 have MK1:=bW8 u1 kp1 (aB0 tn1 tt1) ni1 uD (aB0 tnD ttD) niD;have mD:=Z.ns _ _ qD;have mc1:=Z.ns _ _ q1;have mc2:=Z.ns _ _ q2;have mc3:=Z.ns _ _ q3;have mc4:=Z.ns _ _ q4;have mc5:=Z.ns _ _ q5;have mc6:=Z.ns _ _ q6;have mc7:=Z.ns _ _ q7;have C1:=Z.c1 t1 (bK7);have C2:=Z.c1 t2 (bQ2 C1);have C3:=Z.c1 t3 (bN3 mT hT);have C4:=Z.c1 t4 (bM9 C2);have C5:=Z.c1 t5 (bP9);have C6:=Z.c1 t6 (bI4 C5);have C7:=Z.c1 t7 (bO6 C5 C6 y_reversed);have C8:=Z.c2 t8 (bQ7);have C9:=Z.z2 t9 (bM0 C7 C8 y_tuple y_len);have C10:=Z.c1 t10 (bN9);have C11:=Z.c1 t11 (bN7 mT hT C10);have C12:=Z.c1 t12 (bR7 C11);have C13:=Z.c2 t13 (bN0);have C14:=Z.c1 t14 (bP7 C3 C13 C4 y_all y_dict);have C15:=Z.c1 t15 (bN5 C8);have C16:=Z.c1 t16 (bH6 mK y_len y_set);have C17:=Z.c1 t17 (bO0 C16 C7 C15 C12 C14 y_min y_any);have C18:=Z.c1 t18 (bK4 C7);have C19:=Z.c1 t19 (bR0 mA mN mW hW y_all y_len);have C20:=Z.c1 t20 (bI3 C18 C3 C4);have C21:=Z.c1 t21 (bN2 mA y_len)
 have C22:=Z.c2 t22 (bK9 C20 C21 C19 y_dict y_sorted y_list);have R23:∀n,Cl l.prog w K mg base (n+1) (aB6 n) "renamed_term":=fun n=>by
  induction n with
  |zero=>exact Z.c2 (p1:="term") (p2:="names") t23 okn
  |succ n ih=>exact Z.c2 t23 (bI0 n ih)
 have C23:=R23 101;have C24:=Z.c2 t24 (bL1 mT hT C23);have C25:=Z.t2 t25 (bJ6 C9 C24 LB0);have C26:=Z.x2 t26 (bM3 (L:=aM3 Pt) mc1 MK1 C25 C22);have C27:=Z.c2 t27 (fun F=>bC4 F y_max y_reversed y_list);have C28:=Z.c2 t28 (fun F=>bD0 F y_len);have C29:=Z.c2 t29 (bD5);have C30:=Z.c2 t30 (aV4 C29 C28);have C31:=Z.c2 t31 (aS5 C28 y_range y_len y_int);have C32:=Z.c2 t32 (aL1 C28 y_tuple y_range);have C33:=Z.c3 t33 (aN7 C28 C30 C32 y_tuple y_max y_range);have R34:∀n,Cl l.prog w K mg base (n+1) (qF n) "_law_term":=fun n=>by
  induction n with
  |zero=>exact Z.c3 (p1:="_law_deal_here") (p2:="_law_known") (p3:="_law_room") t34 okn
  |succ n ih=>exact Z.c3 t34 (aO4 n ih C28 y_len)
 have C34:=R34 3;have C35:=Z.c3 t35 (bB8 C28 C33 C34 y_len);have R38:∀m,Cl l.prog w K mg base (5+3*m) (zR m) "_law_when"/\Cl l.prog w K mg base (4+3*m) (bF8 m) "_law_rows":=fun m=>by
  induction m with
  |zero=>exact⟨Z.c4 (p1:="_law_deal_here") (p2:="_law_scene") (p3:="_law_known") (p4:="_law_deep") t36 okn,Z.c5 (p1:="_law_deal_here") (p2:="_law_scene") (p3:="_law_known") (p4:="_law_deep") (p5:="_law_many") t38 okn⟩
  |succ m ih =>
   have r0:=Z.c4 t37 (aQ7 m C28 ih.1 ih.2 C35 C34 y_int);have e1:5+3*m+1=6+3*m:=by lia
   have r1:Cl l.prog w K mg base (6+3*m) (aV9 (m+1)) "_law_row":=by rw[<-e1];exact r0
   have s0:=Z.c5 t38 (aP5 m r1 y_range y_tuple);have e2:6+3*m+1=7+3*m:=by lia
   have s1:Cl l.prog w K mg base (7+3*m) (nQ m) "_law_rows":=by rw[<-e2];exact s0
   have w0:=Z.c4 t36 (aT7 m C34 s1 C28 C35 y_range y_len y_int y_tuple);have e3:7+3*m+1=5+3*(m+1):=by lia
   have e4:7+3*m=4+3*(m+1):=by lia
   exact⟨by rw[<-e3];exact w0,by rw[<-e4];exact s1⟩
 have C38:=(R38 3).2;have C39:=Z.c4 t39 (aV8 C38 C28 C34 y_len y_tuple);have R40:∀n,Cl l.prog w K mg base (n+1) (aC8 n) "_law_flat":=fun n=>by
  induction n with
  |zero=>exact Z.c1 (p1:="_law_rows_here") t40 okn
  |succ n ih=>exact Z.c1 t40 (aS4 n ih)
 have C40:=R40 4;have C41:=Z.c3 t41 (bI2 y_isinstance y_str);have R42:∀n,Cl l.prog w K mg base (n+1) (aD7 n) "_law_term_told":=fun n=>by
  induction n with
  |zero=>exact Z.c3 (p1:="_law_found") (p2:="_law_term_here") (p3:="_law_names_here") t42 okn
  |succ n ih=>exact Z.c3 t42 (bL7 n C41 ih y_isinstance y_tuple y_len)
 have C42:=R42 8;have R44:∀m,Cl l.prog w K mg base (9+2*m) (aE5 m) "_law_rows_told":=fun m=>by
  induction m with
  |zero=>exact Z.c3 (p1:="_law_found") (p2:="_law_rows_here") (p3:="_law_names_here") t44 okn
  |succ m ih =>
   have r0:=Z.c3 t43 (bM2 m C42 C41 ih y_isinstance y_tuple y_len);have e1:9+2*m+1=10+2*m:=by lia
   have r1:Cl l.prog w K mg base (10+2*m) (aX0 (m+1)) "_law_row_told":=by rw[<-e1];exact r0
   have s0:=Z.c3 t44 (bM1 m r1 y_all y_isinstance y_tuple y_len y_zip);have e2:10+2*m+1=9+2*(m+1):=by lia
   rw[<-e2];exact s0
 have C44:=R44 3;have C46:=Z.c1 t46 (bK5 y_all y_len);have C45:=Z.c3 t45 (bH7 C40 C46 y_len y_list y_set y_int);have C47:=Z.c4 t47 (aP2 C31 C28 C39);have H48:=Z.h1 t48 (bQ9 mc1 mc5 mc2 mc3 mc4 mc6 mc7 mD FM y_isinstance y_ValueError);have C49:=Z.c2 t49 (bO3 mD UP W1 C26 H48);have C50:=Z.c2 t50 (bJ4 C28);have C51:=Z.c2 t51 (bN8 C49 C45 C44 C17 y_len y_isinstance y_tuple);exact bL6 C27 C50 C47 C49 C51 C31 C28 (aA2 lk lc lp)
open PySem PySem.W L2
theorem walk{l:W.OpenLaw}{q:Program}{loose:List Str}{XP:(Str->Option Value)->Heap->Prop}{YP:World->Heap->Prop}{d:DefRec}{K:Params->W.Frag}{c Pt:Addr}(hn:l.most=some 63)(hdf:d.params.defaults=[])
  (hY:∀(w:World) (h:Heap),YP w h->(K w.params).In h/\∀P∈[Pt],h.get? P=some (tabObj #[]))
  (hK:∀w:World,noTabs (K w.params)=true) (hH:∀w:World,codeHdIn (K w.params) c Pt=true)
  (F:∀(w:World) (mg:Str->Option Value) (fa:Addr) (h:Heap),(K w.params).In h->h.Ns mainGlobals mg->mg d.name=some (.ref fa) ->
   ∃fd:FuncData,(∀(s:Shared) (u:Value),BindsTo s fd ⟨[u],[]⟩ [("_law_script",u)])/\∀base:Heap,(K w.params).In base->base.Ns mainGlobals mg->yI base mg c Pt->kF l.prog w (K w.params) mg base oX 111 fa fd ["_law_script"] (mZ (K w.params) (aM3 Pt))) :
  W.WalkO q loose XP YP l.row.toRowW d [] (fun f vs=>PySem.call f vs):=
 L2.walkT_of (n:=63) (k:=111) (x:="_law_script") (ts:=[(c,Pt)]) (sp:=fun w=>mZ (K w.params) (aM3 Pt)) hn (by decide) hdf ⟨rfl,by decide,by decide,rfl⟩ (fun w h Y=>hY w h Y) hK
  (fun w q hq=>by rw[cg.mp hq];exact hH w)
  (fun w mg fa h a b e=>let⟨fd,x,y⟩:=F w mg fa h a b e;⟨fd,x,fun base k m L=>y base k m (L _ (cg.mpr rfl))⟩)
  (fun w H a ns hl hO hS=>⟨a,ns,rfl,hS,hl,hO.1 _ (cg.mpr rfl),fun _=>rfl⟩)
end Mine
open PySem PySem.W PyProof.Rows
namespace PySem.W.Fast
def tw10022902674315994022:=0
def tw10053460082111801105:=0
def tw10064616906001684373:=0
def tw1006620391313666988:=0
def tw10090084562372221284:=0
def tw10091490977446388349:=0
def tw10097155928216635662:=0
def tw10120605601005803038:=0
def tw1012826674153891768:=0
def tw10139035536949956043:=0
def tw10158628532771178233:=0
def tw10233491362479873899:=0
def tw10253232362301674324:=0
def tw10265543026130075944:=0
def tw1027054103665132028:=0
def tw10345991022767141734:=0
def tw10385143295250864491:=0
def tw10437342377911863484:=0
def tw10468888949737058799:=0
def tw10505082207261350359:=0
def tw10515358542282826519:=0
def tw10567442962161728843:=0
def tw10624235326929556837:=0
def tw10647597872380212841:=0
def tw10671797005385120160:=0
def tw10772559495196445921:=0
def tw10779569300825882393:=0
def tw10781272767868506268:=0
def tw1084034559544526348:=0
def tw10846024835102961617:=0
def tw10972684291621948347:=0
def tw1099271865405021013:=0
def tw11006412913236193257:=0
def tw11043715468046226798:=0
def tw110611246768569123:=0
def tw11064059667426105740:=0
def tw11065895544679600172:=0
def tw11067427390827745079:=0
def tw11096648108606141130:=0
def tw11179018881249063254:=0
def tw11202796686995549309:=0
def tw11219602343830212724:=0
def tw11242203700026213183:=0
def tw11301755252131254610:=0
def tw11333482035230039412:=0
def tw11430496639286513689:=0
def tw11442442770493897333:=0
def tw11459739738247735395:=0
def tw11495890680776881787:=0
def tw11522227378815932553:=0
def tw11546840150493533360:=0
def tw11587667128051187680:=0
def tw11597439932524564069:=0
def tw11625965286079613732:=0
def tw11634383894364483153:=0
def tw11662849303116097162:=0
def tw11708244637386726062:=0
def tw11782177057681718888:=0
def tw11868670136714062338:=0
def tw11917339338856240002:=0
def tw11971606107158238271:=0
def tw11991992487047689163:=0
def tw11998690283468490020:=0
def tw12048531856630620413:=0
def tw12050433093315338548:=0
def tw12062638771861719013:=0
def tw12088696079663073324:=0
def tw12107669744476749313:=0
def tw12112521616557811486:=0
def tw12147284646490697432:=0
def tw12208238283463539726:=0
def tw12250520446151809894:=0
def tw12251739873159352223:=0
def tw12253958333135009970:=0
def tw12338144641971491986:=0
def tw12368259477920508329:=0
def tw12420600751366854860:=0
def tw12470088673222698016:=0
def tw12474395247428691055:=0
def tw12502161145838743496:=0
def tw12502620782571944630:=0
def tw12562919302637689358:=0
def tw12604593388314958931:=0
def tw12654963598028667510:=0
def tw12691692423864294328:=0
def tw1270643302143815627:=0
def tw12717660582858829068:=0
def tw12739322182863934037:=0
def tw12829565369769504913:=0
def tw12859874321839504089:=0
def tw12968825482406426368:=0
def tw13037782952858583528:=0
def tw13122963206766738679:=0
def tw13133851068664705000:=0
def tw13238913281304357562:=0
def tw13269367293693359287:=0
def tw13295591244052637689:=0
def tw13318979898347792401:=0
def tw13321812962292686612:=0
def tw13328383542640702578:=0
def tw13337830465177158594:=0
def tw13342368061485243973:=0
def tw13364843564824907010:=0
def tw13384671343737346661:=0
def tw1341763379577679325:=0
def tw13452085723726573003:=0
def tw13505768173588907426:=0
def tw1351059837432937963:=0
def tw13512880280012996222:=0
def tw13527322548543361249:=0
def tw13547060026878179115:=0
def tw1355012382436681043:=0
def tw13590814331720983929:=0
def tw13687803323286225589:=0
def tw13713628455817522116:=0
def tw13816945366869668750:=0
def tw13840896405367727364:=0
def tw13845474750488086689:=0
def tw13914617034355618470:=0
def tw13931834251564064324:=0
def tw13992471398592011019:=0
def tw13997754153874692510:=0
def tw14035309799722151718:=0
def tw14067782749304518662:=0
def tw14068699110026957730:=0
def tw14082586939136683309:=0
def tw14092737698451379104:=0
def tw14096509705312516293:=0
def tw14103075680797488435:=0
def tw14132482417187155698:=0
def tw14193539559339661730:=0
def tw14219484139832679530:=0
def tw14224893292668501440:=0
def tw14257336671420584769:=0
def tw14277615058066728327:=0
def tw14386785601255851423:=0
def tw14409364346891142770:=0
def tw14424767341444745870:=0
def tw14444683269982800316:=0
def tw14477845608691540396:=0
def tw14486876152916490452:=0
def tw14517170970335960105:=0
def tw14517331761319217543:=0
def tw14555738291147066179:=0
def tw14572593760381274886:=0
def tw14597625039759368717:=0
def tw14634658907073617406:=0
def tw14710273692528009506:=0
def tw1472135875190828222:=0
def tw14814070956552393442:=0
def tw14958407157780920079:=0
def tw15013650094237181519:=0
def tw15042560900790807874:=0
def tw15047764181547831690:=0
def tw15068798938078372624:=0
def tw15218666624840322956:=0
def tw15222528551222494737:=0
def tw15341604709718857801:=0
def tw15420447322350029681:=0
def tw15428726653773375318:=0
def tw15433023090840362266:=0
def tw15466111882740639541:=0
def tw15496625718386899303:=0
def tw15517655425841847195:=0
def tw1554922697654902816:=0
def tw15557073470271563369:=0
def tw15632242300730262633:=0
def tw15676077965864873303:=0
def tw156910401575110498:=0
def tw15748131382353283569:=0
def tw15764331881639156927:=0
def tw15782406804857468976:=0
def tw15903495729399097676:=0
def tw15946670299871631244:=0
def tw15985063685788788239:=0
def tw16035398422755845863:=0
def tw16043607656018658509:=0
def tw16070931563449672264:=0
def tw16087554132253411370:=0
def tw16150436960149458403:=0
def tw16165015478237260879:=0
def tw16217976894681514465:=0
def tw16310417232850559573:=0
def tw16322886516974322336:=0
def tw16339013239091199215:=0
def tw16343873053967320624:=0
def tw16483714960698191473:=0
def tw16499130909087714635:=0
def tw16502617769291790708:=0
def tw1652932467265605788:=0
def tw16530251641069261146:=0
def tw16573031506002588811:=0
def tw16589632182940865324:=0
def tw16732064003276725334:=0
def tw16767143086406719377:=0
def tw16827273896755204547:=0
def tw16860121690852375041:=0
def tw16868621766555804808:=0
def tw16875853158353892673:=0
def tw16916739954479678398:=0
def tw16929839842138062417:=0
def tw16967804610613086527:=0
def tw17017268771159922391:=0
def tw1703093332610505107:=0
def tw17080317819218018001:=0
def tw17119538560083543777:=0
def tw171422864463164878:=0
def tw17166546671331943556:=0
def tw17194797683963193730:=0
def tw17205087215108548233:=0
def tw17229450063874644527:=0
def tw17302756012498157024:=0
def tw17467478353738626979:=0
def tw17491369535524062714:=0
def tw1758572761944104575:=0
def tw17729182298818285551:=0
def tw17762873262107595245:=0
def tw17783157971343349780:=0
def tw1778350449784088779:=0
def tw17830952616150834599:=0
def tw17892599642417250525:=0
def tw17915139084191685052:=0
def tw18029835686692763882:=0
def tw18192329142809843591:=0
def tw18384280848152181477:=0
def tw1841121838910702963:=0
def tw18414952857564781630:=0
def tw18434060173156395703:=0
def tw1899458810128807661:=0
def tw1937259064195441577:=0
def tw1965669157158224078:=0
def tw202073087716489292:=0
def tw202660994523083755:=0
def tw2032003267723106671:=0
def tw2040540602599343519:=0
def tw2096993007642312293:=0
def tw2179343184346924003:=0
def tw21858515066551095:=0
def tw2210221091586979473:=0
def tw2271429095312680327:=0
def tw2275073071127316561:=0
def tw2295756909593463629:=0
def tw2408900957706377414:=0
def tw2474751028404227019:=0
def tw2620656379610705279:=0
def tw2649295222988880588:=0
def tw2848568645308643767:=0
def tw2884259118362475040:=0
def tw2890828181313823691:=0
def tw2910480702011807393:=0
def tw2925919695706093778:=0
def tw2961589059108323031:=0
def tw2994817467076383209:=0
def tw3000594159164306642:=0
def tw3032995379150567984:=0
def tw3035318053728467214:=0
def tw3078217555238696900:=0
def tw3112657329867391058:=0
def tw3232320715582748367:=0
def tw3243072937730237218:=0
def tw324552002948803136:=0
def tw3250848634655797424:=0
def tw3277173625130898365:=0
def tw3287389517236970845:=0
def tw3302506773353053469:=0
def tw3346337531848480321:=0
def tw3427157261234403555:=0
def tw3463301402940184743:=0
def tw3468867093429691327:=0
def tw3472960562025787451:=0
def tw3491473044008694058:=0
def tw3511280883921358652:=0
def tw3521460347688378546:=0
def tw3685867829616487183:=0
def tw3746693283338164258:=0
def tw3818926231084484521:=0
def tw392950912981550862:=0
def tw3948960549408601105:=0
def tw3966296588137090380:=0
def tw4003313706220911418:=0
def tw4038057830862644204:=0
def tw4092120989868098082:=0
def tw4095280477054811834:=0
def tw4100835964511360214:=0
def tw4113022329213610311:=0
def tw4188279829904544119:=0
def tw4202507813782019587:=0
def tw4273977472104539654:=0
def tw4285921678274884506:=0
def tw4388369990070156712:=0
def tw4401274093656695584:=0
def tw4421973000134533845:=0
def tw4436527490325950227:=0
def tw4516754303643495534:=0
def tw4528797761770054099:=0
def tw4544175742175256566:=0
def tw4551939042009590901:=0
def tw4606189083488038800:=0
def tw4614605048961973264:=0
def tw4643164298289046183:=0
def tw4732183146942427174:=0
def tw4813571013761582039:=0
def tw4831167926626046951:=0
def tw4838262157398180788:=0
def tw4858367179610453157:=0
def tw4874162232440179631:=0
def tw4925462119280410936:=0
def tw4997582171174996310:=0
def tw501282331427196040:=0
def tw5023907767041538821:=0
def tw503092685981523511:=0
def tw5047633552209780788:=0
def tw509347780123614681:=0
def tw5102259137425214826:=0
def tw5107107614206963003:=0
def tw517394633949564691:=0
def tw5263259568643448265:=0
def tw5270257021454656914:=0
def tw5276895622773182519:=0
def tw5324595821036382521:=0
def tw5353630201993032376:=0
def tw5482290938104262892:=0
def tw5507147266957519543:=0
def tw5533019510961109742:=0
def tw5544472361196524822:=0
def tw5559200228241763938:=0
def tw558446339371939407:=0
def tw5644876783601820988:=0
def tw5645373867980563755:=0
def tw5685172336165460027:=0
def tw5694813937123339364:=0
def tw5732844045435134930:=0
def tw5734350497272851146:=0
def tw5854995958752379629:=0
def tw5874490598355104272:=0
def tw5923075330117723799:=0
def tw5966736631402343354:=0
def tw5975484694979537365:=0
def tw5975561537397588267:=0
def tw5988681432590578880:=0
def tw6002261184971372308:=0
def tw6012777554481484584:=0
def tw6016923358701643884:=0
def tw60370256089289032:=0
def tw6037831345475386468:=0
def tw6076033939403671086:=0
def tw6140929611346880838:=0
def tw616947672829966911:=0
def tw6176363468177899378:=0
def tw6237682913362201735:=0
def tw6385563997945251075:=0
def tw6419058386916735134:=0
def tw6518654116622157686:=0
def tw6583818056012799518:=0
def tw6591513126425207284:=0
def tw6620626851296811488:=0
def tw6646941363433974197:=0
def tw6737013200759467863:=0
def tw6743728798267118454:=0
def tw675909179178400215:=0
def tw6799435315157663073:=0
def tw6868456750037005608:=0
def tw6982039397526301837:=0
def tw6986784853072788398:=0
def tw6995405860834150270:=0
def tw7009412301671083061:=0
def tw701033180668709808:=0
def tw7037859526334171017:=0
def tw7054290385166101590:=0
def tw7081897322723409643:=0
def tw7147002382562352201:=0
def tw7179929742501874885:=0
def tw7180046985782956249:=0
def tw7236032178935763011:=0
def tw7251150437647000038:=0
def tw7267062216610956753:=0
def tw7402030183673555185:=0
def tw7460882634262432799:=0
def tw7474578830208810679:=0
def tw7481389757464061137:=0
def tw7537443574704438103:=0
def tw7571636557172605751:=0
def tw761135818201214850:=0
def tw7645299797018541191:=0
def tw7655260928078688003:=0
def tw7713223069732955577:=0
def tw7727516283029783215:=0
def tw7740007879815075292:=0
def tw7774738873966416172:=0
def tw7780030473076882340:=0
def tw7810052068558721703:=0
def tw7836496723751210954:=0
def tw7871291124194579232:=0
def tw789690447672370717:=0
def tw8004724802091575912:=0
def tw8005475160908394290:=0
def tw8038603134610831327:=0
def tw8078864517283692022:=0
def tw8089063677125425723:=0
def tw809309840007167386:=0
def tw809656564180772817:=0
def tw8133710672716331265:=0
def tw8172324136008994872:=0
def tw8179589439003785136:=0
def tw8229391889705175551:=0
def tw8251009985666183689:=0
def tw830189984323527332:=0
def tw8362492100180895214:=0
def tw8503567605105424918:=0
def tw8531696260530183560:=0
def tw8537215668488366576:=0
def tw8551371421044224472:=0
def tw8611687628549463330:=0
def tw865649319215721495:=0
def tw8670834311573004690:=0
def tw8678287655845795040:=0
def tw8819754649939907482:=0
def tw8854174081498089948:=0
def tw8922935279031712282:=0
def tw9041151615770899984:=0
def tw9079406658181073840:=0
def tw9116660772733576230:=0
def tw9138903055607590882:=0
def tw9243311480859838182:=0
def tw9317261504097180080:=0
def tw9354811289550106556:=0
def tw939065550854276126:=0
def tw9593871852801690777:=0
def tw9656933699754313384:=0
def tw9664262378855023167:=0
def tw9704752062084134108:=0
def tw9711749437789251637:=0
def tw9743107067082404686:=0
def tw9751126713130827381:=0
def tw9755188249475447797:=0
def tw9759493397452116030:=0
def tw9817739110039527838:=0
def tw9817984453445636594:=0
def tw9880960549969104271:=0
def tw9884494352502496757:=0
def tw9922307319319548614:=0
def tw9962537333587639053:=0
def tw9990818255729026765:=0
end PySem.W.Fast
set_option maxRecDepth 100000 in
set_option maxHeartbeats 0 in
theorem PySem.Challenge.cw_pairedthrows_k46_one_behind_another_holds : PySem.Challenge.rw_pairedthrows_k46_one_behind_another.Holds := by
  w_on;o_law;k_head;(case hw=>w_witness2)
  k_fill
  refine' Mine.walk (l:=PySem.Challenge.rw_pairedthrows_k46_one_behind_another) rfl rfl (fun w h Y=>⟨PySem.W.km_in_of Y,PySem.W.km_tabs_of Y⟩) (fun _=>by kernel_rfl) ?H ?F
  case F =>
    intro w mg fa h KX G hmg
    refine' Mine.all_mk KX G hmg ?a0 ?a1 ?a2 ?a3 ?a4 ?a5 ?a6 ?a7 ?a8 ?a9 ?a10 ?a11 ?a12 ?a13 ?a14 ?a15 ?a16 ?a17 ?a18 ?a19 ?a20 ?a21 ?a22 ?a23 ?a24 ?a25 ?a26 ?a27 ?a28 ?a29 ?a30 ?a31 ?a32 ?a33 ?a34 ?a35 ?a36 ?a37 ?a38 ?a39 ?a40 ?a41 ?a42 ?a43 ?a44 ?a45 ?a46 ?a47 ?a48 ?a49 ?a50 ?a51 ?a52 ?a53 ?a54 ?a55 ?a56 ?a57 ?a58 ?a59 ?a60 ?a61 ?a62 ?a63 ?a64 ?a65 ?a66 ?a67 ?a68 ?a69 ?a70 ?a71 ?a72 ?a73 ?a74 ?a75 ?a76 ?a77 ?a78 ?a79 ?a80 ?a81 ?a82 ?a83 ?a84 ?a85 ?a86 ?a87 ?a88 ?a89 ?a90 ?a91 ?a92 ?a93 ?a94 ?a95 ?a96 ?a97 ?a98 ?a99 ?a100 ?a101 ?a102 ?a103 ?a104 ?a105 ?a106 ?a107 ?a108 ?a109 ?a110 ?a111 ?a112 ?a113 ?a114 ?a115
    case a52|a53|a54|a55|a56|a57|a58|a59|a60|a61|a62|a63|a64|a65|a66|a67|a68|a69|a70=>k_is
    case a71=>exact .cons ⟨_,rfl⟩ (.cons ⟨_,rfl⟩ (.cons ⟨_,rfl⟩ (.cons ⟨_,rfl⟩ (.nil))))
    case a72|a73=>k_is
    case a74=>exact .cons ⟨_,rfl⟩ (.cons ⟨_,rfl⟩ (.cons ⟨_,rfl⟩ (.cons ⟨_,rfl⟩ (.cons ⟨_,rfl⟩ (.cons ⟨_,rfl⟩ (.cons ⟨_,rfl⟩ (.cons ⟨_,rfl⟩ (.cons ⟨_,rfl⟩ (.cons ⟨_,rfl⟩ (.cons ⟨_,rfl⟩ (.cons ⟨_,rfl⟩ (.nil))))))))))))
    case a75|a76|a77|a78|a79|a80|a81|a82|a83|a84|a85|a86|a87|a88|a89|a90|a91|a92|a93|a94|a95|a96|a97|a98|a99|a100=>k_is
    case a101=>rfl
    case a102|a103=>k_is
    case a104=>rfl
    case a105|a106|a107|a108|a109|a110|a111|a112|a113=>k_is
    case a114|a115=>decide
    case a0|a1|a2|a3|a4|a5|a6|a7|a8|a9|a10|a11|a12|a13|a14|a15|a16|a17|a18|a19|a20|a21|a22|a23=>apply L2.TopAt.of<;>k_is
    case a24=>apply L2.TopAtT.of<;>k_is
    case a25|a26|a27|a28|a29|a30|a31|a32|a33|a34|a35|a36|a37|a38|a39|a40|a41|a42|a43|a44|a45|a46|a47|a48|a49|a50|a51=>apply L2.TopAt.of<;>k_is
  case H => exact fun _ => by kernel_rfl
