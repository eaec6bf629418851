import PyProof.Rows.All
import Wide.All
import OpenK.AllK
import Wide.FinOn
import Lean
import PyProof.EqAt
import PyProof.EqKinds
import PyProof.TupleCall
import KE.KDictOf
import PyProof.AttrMissHeap
import KE.KSortTup
import PyProof.Rows.InDataRows
import PyProof.AutoListH
import KE.KRevSl
import PyProof.Rows.SetFrom
import PyProof.Rows.SortStr
import KE.KDictLaws
import PyProof.DictWalks
import PyProof.DictItems
import KE.KDictList
import KE.KPairComp
import KE.KLam
import KE.KNestM
import PyProof.ExcClass3
import PyProof.StationsW
import PyProof.RulesTry
import PyProof.Rows.CatchOwn
import OpenK.KCall
import OpenK.KRaise
import PyProof.InstSpecial
import PySem.Challenge.RW_pairedthrows_k47_one_beside_another
set_option Elab.async false
set_option linter.all false
set_option maxRecDepth 100000
open PySem renaming wpAny_bind->aa,wpAny_pure->ak,boot_len->ci,wpAny_mono->dm,wpAny_holding->dz,wpAny_truthy_bool->fc,wpAny_newObj_type->fe,wpAny_field->fh,wpAny_Call_Name_kw->fu,mem_of_lookup->ge,wpAny_callSpecial?_slot->ia,wpAny_loadPart'->ii,wpAny_call_entry->ip,wpAny_seqItems->ji,codeAny_builtin->jm,wpAny_typeNameOfWhole_keyiter->jq,wpAny_passesOwn->jt,wpAny_newFunctionEnv_cells->kg,codeAny_mono->kr,wpAny_getItem_str_slice->kz,wpAny_setField_rec->lh,sizeLine_eq->lm,wpAny_pyIter_list->ly,codeAny_call_function->md,wpAny_setField->me,call_meets->mo,wpAny_attempt->mz,wpAny_execs_nil->nv,wpAny_pyIter_tuple->oh,tupleKind_room_in1->oj,wpAny_rule->oq,wpAny_call->ot,strLen_append->pp,builtinLookup_eq_fast->qc,post_val_or_str->qu,codeAny_call_builtin->qv,wpAny_standAt->sj,plainId_quiet->sk,wpAny_onRaise->su,wpAny_dictEntries->uc,wpAny_execs_cons->uj,codeAny_func->uo,noFill_tuple_add->ut,wpAny_typeOf->uw,wpAny_comprehension_free->ux,wpAny_isInstance->uy,entryFor_of_tree->vb,wpAny_specialOf->vm,typeLookup_type->vp,wpAny_dictEpoch->vt,wpAny_pyNext_list_item->vv,wpAny_getItem_list_neg->vz,wpAny_isTrue_Compare1->wc,wpAny_bindName->we,wpAny_pyNext_list_end->wj,isSubtype_type->wk,wpAny_notOrdered_dict->wo,wpAny_isOneOf_keyiter->wp,wpAny_loadName_local->wv,wpAny_newFunctionEnv->wx,wpAny_updateSeq_pair->wy,wpAny_pyIter_keyiter->xa,wpAny_pyIter_revIter->xb,seq_tuple_add->xi,wpAny_loadName_cell->xo,call_meetsIn->yb,concat_meets->yc,seqIndex_neg->ye,call_reversed_list->yf,wpAny_assign_Name->yq,wpAny_Call_method->yv,wpAny_pyIter_dict->yy,wpAny_storeSet_of->za,fits_of_scanBound->zb,seqIndex_of->zf,wpAny_letGo->zg,wpAny_of_eq->zh,wpAny_pyIter_zip->zk,check_set_init_1->zo,seqSlot_of->zu,wpAny_Name->zw,typeIs_str->zy,typeIs_int->zz
local macro_rules|`(tactic|decide)=>`(tactic|decide +kernel)
local macro_rules|`(def $i:declId $s:optDeclSig $v:declVal)=>`(noncomputable def $i:declId $s:optDeclSig $v:declVal)
set_option compiler.extract_closed false
noncomputable section
open List renaming length_map->ac,length_append->ah,mem_cons_self->ao,mem_cons_of_mem->aq,map_append->av,getElem?_eq_some_iff->bf,mem_of_getElem?->bg,size_toArray->bn,getElem?_eq_getElem->bo,mem_append->bq,mem_append_right->br,length_cons->bt,mem_cons->bv,length_take->bx,take_length->cg,mem_append_left->cj,mem_singleton->cp,nodup_cons->de,getElem?_map->df,reverse_cons->dg,filter_cons_of_pos->dh,mem_map->dj,mem_filter->dk,not_mem_nil->dq,filterMap_append->du,filter_cons_of_neg->dw,length_reverse->eh,map_cons->eo,filter_append->fj,length_filterMap_le->gi,append_nil->gp,take_of_length_le->ie,filterMap_cons_none->iq,dropLast_concat->iz,length_eq_zero_iff->jb,mem_map_of_mem->jd,any_eq_true->je,mem_flatMap->jf,mem_range->jg,mem_filterMap->jh,foldl_cons->jk,map_map->jn,nodup_append->jp,of_mem_zip->ju,length_singleton->jv,take_append_drop->jx,length_filter_le->jy,getElem?_append_right->ke,append_assoc->kj,length_drop->ku,all_eq_true->kw,eq_nil_of_length_eq_zero->lv,length_replicate->ma,any_cons->mx,filterMap_cons->nj,replicate_succ->nq,getElem?_zip_eq_some->ny,nodup_nil->ou,find?_isSome->pd,getElem?_set_self->pf,map_take->pq,getElem?_set_ne->qf,length_nil->qj,length_set->qo,mem_of_mem_take->qy,getElem_of_mem->re,take_succ->rh,nodup_iff_pairwise_ne->sv,getD_eq_getElem?_getD->sy,flatMap_cons->ud,getElem?_append_left->uh,getElem_inj->ui,getElem?_take_of_lt->um,cons_append->uq,getElem_mem->va,map_reverse->vf,filterMap_cons_some->vh,forIn_cons->vo,getElem?_reverse->wm,getElem?_eq_none->wn,mem_iff_getElem?->wq,length_dropLast->ww,pairwise_append->xc,range_eq_range'->xf,all_cons->xj,map_drop->xm,flatMap_append->xt,map_congr_left->xu,reverse_append->xw,map_nil->ya,pairwise_cons->yj,zip_cons_cons->yn,flatten_cons->yw,foldl_append->yz,pairwise_map->zc,ext_getElem->zr
open PySem.Heap renaming get?_push_of_some->af,lt_size->ay,get?_push_size->bc,get?_update_ne->dy,get?_update_self->ik,size_push->kq,get?_update_other->pi,get?_none_of_le->wu
open Nat renaming le_refl->aj,le_of_lt->bp,zero_le->bu,ne_of_lt->bw,lt_of_lt_of_le->bz,le_trans->cm,lt_of_le_of_lt->di,lt_succ_self->ek,sub_lt_sub_left->fm,lt_irrefl->fq,le_succ->fw,ne_of_gt->js,min_eq_left->jz,lt_succ_of_lt->km,not_lt->mq,le_succ_of_le->pe,le_add_right->pw,mul_le_mul_right->qz,sub_self->yh,succ_mul->yo,min_eq_right->zt
open Bool renaming false_ne_true->bh,eq_iff_iff->ig,and_eq_true->mj,true_and->sw,eq_false_iff->ue,or_eq_true->vq,false_or->xh
open PySem.F renaming plainAttrs_list->bj,slot_list_append->cy,type_list_append->db,slot_list_pop->gj,type_list_pop->gm,slot_list_extend->iu,type_list_extend->iw,slot_dict_keyiterator_next->jr,slot_tuple_iterator_next->kh,args_tuple_add_2->om,entry_tuple_add->ow,slot_tuple_add->ph,slot_dict_get->pz,slot_zip_next->qt,args_dict_keyiterator_next_1->qw,args_tuple_iterator_next_1->rg,slot_dict_setdefault->rj,entry_tuple_iterator_next->se,args_tuple_mul_2->sg,excBase_ValueError->tj,entry_tuple_mul->ug,slot_tuple_mul->vd,args_dict_get_3->vi,plainAttrs_dict->vj,entry_dict_get->vx,args_zip_next_1->yx,entry_zip_next->zj,typeCall_set_1->zm,entry_set_init->zn,slot_dict_iter->zp
open PyProof.Rows renaming boot_tuple->cq,boot_isinstance->dr,callWith_type1->gq,boot_list->ib,boot_set->mf,boot_all->mh,boot_int->mi,slot_tuple_getitem->qd,assignInOrder_cons->rn,boot_reversed->sq,subscriptTail_builtinR->vy,boot_dict->wb,boot_max->wt,assignInOrder_nil->yr,Subscript_->zx
open Option.some renaming inj->cu
open Int renaming eq_ofNat_of_zero_le->dv,toNat_natCast->jc,emod_nonneg->lj,emod_lt_of_pos->ll,le_refl->ng,toNat_of_nonneg->nt,mul_le_mul_of_nonneg_right->qx,mul_le_mul_of_nonneg_left->rc,fdiv_eq_ediv_of_nonneg->sr,natCast_dvd_natCast->vk,ediv_mul_cancel->xp,le_of_lt->yg,pow_succ->yi
open Array renaming length_toList->ef,getElem?_toList->im,getElem?_eq_some_iff->na,getElem?_eq_getElem->nz,toArray_toList->qp,find?_toList->xz,append_empty->yk,toList_inj->zq
open Or renaming inl->fi,inr->my
open PySem.W renaming kia_one->fk,cellsFrom_some->vc,cellsFrom_some->vw,looks_findIn->xg,codeRec_of->ym,kitx_list->yt,kitx_dict->yu
open PySem.Paired renaming length->gg
open PySem.Obj renaming data_mapFields->gy,isFreed_of_fields->jw,cls_mapFields->tu
open PySem.Calls renaming spliced_cons->io,spliced_nil->ki,callWith_builtin->lu,evalArgs_plain->qm,Name_function_global->si
open Option renaming bind_some->ir,isSome_iff_exists->jj,map_eq_some_iff->lq,isSome_map->oy,map_some->qh
open True renaming intro->iy
open PyProof.Rows.F renaming plain_set_update_loop->ja,entry_set_update_loop->lg
open PySem.PassesOwn renaming never->jo
open PySem.Around renaming under_plainId->ko,frames_deeper->qg
open PySem.Heap.SameBut renaming update->kx
open PySem.Txt renaming slice_le->oo
open PySem.Code renaming quiet_builtin->sf
open List.Pairwise renaming nil->tm
open PyProof renaming noPylong_of_log2->uz
open PySem.SeqAt.EqAt renaming same->vn,int_str->xx,str_int->xy
open PySem.Walks renaming listRev->xk
open PySem.SeqAt.RcNeAt renaming tuples->xq
open LawfulBEq renaming eq_of_beq->yd
open PySem.SeqAt.RcAt renaming tuples->zd
open PySem.StrLaws renaming found_one->ze
namespace L2
def Rq0 (_:True:=by rfl):True:=trivial
def Rq1 (_:True:=by decide):True:=trivial
def Rq2 (_:True:=by intros;rfl):True:=trivial
def Rq3 (_:True:=by first|exact .inl rfl|exact .inr rfl|assumption):True:=trivial
def Rq4 (_:True:=by intro _;rfl):True:=trivial
def Rq5 (_:True:=by first|decide|lia):True:=trivial
def Rq6 (_:True:=by refine⟨rfl,rfl,rfl,?_,rfl,?_,?_⟩<;>decide):True:=trivial
def Rq7 (_:True:=by first|exact fi rfl|exact my (fi rfl)|exact my (my rfl)):True:=trivial
def Rq8 (_:True:=by first|exact fi rfl|exact my rfl):True:=trivial
def Rq9 (_:True:=by exact fun _ _=>rfl):True:=trivial
def Rq10 (_:True:=by with_unfolding_all rfl):True:=trivial
def Rq11 (_:True:=by first|exact yX _ (by decide) (by decide)|rfl):True:=trivial
def Rq12 (_:True:=by first|exact pF _|rfl):True:=trivial
end L2
namespace L2
open PySem PySem.Spec PyProof.Rows
def ae:=@of_decide_eq_true
def ag:=@decide_eq_true
def au:=@if_neg
def ba:=@decide_eq_false
def bb:=@if_pos
def ej:=@congrArg
def fg:=@decide_eq_true_eq
def nh:=@beq_eq_false_iff_ne
def vg:=@decide_eq_decide
end L2
namespace L2
open PySem PySem.Spec PyProof.Rows
abbrev Key:=Sum Int Str
def jI:Key->Value->Bool
 |.inl k,v=>Value.isInt k v
 |.inr x,v=>Value.isStrOf x v
def cI5 (w:World):Key->Int
 |.inl k=>hashInt k
 |.inr x=>hashStr w x
def cZ:∀{k v},jI k v=true->(∃i t,k=Sum.inl i/\v=Value.int i t)\/(∃x t,k=Sum.inr x/\v=Value.str x t)
 |.inl i,v,h=>by
  obtain⟨t,e⟩:=Value.isInt_shape (k:=i) (v:=v) h
  exact .inl ⟨i,t,rfl,e⟩
 |.inr x,v,h=>by
  obtain⟨t,e⟩:=Value.isStrOf_shape (x:=x) (v:=v) h
  exact .inr ⟨x,t,rfl,e⟩
def lY (i)(t):jI (.inl i) (.int i t)=true:=by simp[jI,Value.isInt]
def gK (x)(t):jI (.inr x) (.str x t)=true:=by simp[jI,Value.isStrOf]
def bT1 (a b):decide ((Sum.inl a:Key)=Sum.inl b)=(a==b):=by
 by_cases e:a=b
 ·subst e;simp
 ·have h:¬(Sum.inl a:Key)=Sum.inl b:=fun q=>e (Sum.inl.inj q)
  rw[ba h]
  exact(nh.mpr e).symm
def bO1 (a b):decide ((Sum.inr a:Key)=Sum.inr b)=decide (a=b):=by
 by_cases e:a=b
 ·subst e;simp
 ·have h:¬(Sum.inr a:Key)=Sum.inr b:=fun q=>e (Sum.inr.inj q)
  rw[ba h,ba e]
def bN6 (a)(b):decide ((Sum.inl a:Key)=Sum.inr b)=false:=ba (fun q=>nomatch q)
def bP0 (a)(b):decide ((Sum.inr a:Key)=Sum.inl b)=false:=ba (fun q=>nomatch q)
def aZ (prog)(w):PySem.KeyKind prog w Key where
 is:=jI
 hash:=cI5 w
 inj:=fun v a b ha hb=>by
  rcases cZ ha with⟨i,t,rfl,rfl⟩|⟨x,t,rfl,rfl⟩
  ·rcases cZ hb with⟨j,u,rfl,e⟩|⟨y,u,rfl,e⟩
   ·injection e with e1 _;rw[e1]
   ·exact nomatch e
  ·rcases cZ hb with⟨j,u,rfl,e⟩|⟨y,u,rfl,e⟩
   ·exact nomatch e
   ·injection e with e1 _;rw[e1]
 byValue:=fun k v h=>by
  rcases cZ h with⟨i,t,rfl,rfl⟩|⟨x,t,rfl,rfl⟩<;>rfl
 pyHash:=fun hv h=>by
  rcases cZ hv with⟨i,t,rfl,rfl⟩|⟨x,t,rfl,rfl⟩
  ·exact wpAny_pyHash_int h
  ·exact wpAny_pyHash_str h
 eqBool:=fun hu hv h=>by
  rcases cZ hu with⟨i,t,rfl,rfl⟩|⟨x,t,rfl,rfl⟩
  ·rcases cZ hv with⟨j,u,rfl,rfl⟩|⟨y,u,rfl,rfl⟩
   ·rw[bT1] at h;exact wpAny_eqBool_int h
   ·rw[bN6] at h;exact xx i t y u _ _ _ _ h
  ·rcases cZ hv with⟨j,u,rfl,rfl⟩|⟨y,u,rfl,rfl⟩
   ·rw[bP0] at h;exact xy x t j u _ _ _ _ h
   ·rw[bO1] at h;exact wpAny_eqBool_str h
 «strs» :=fun k x t v h=>by
  rcases cZ h with⟨i,u,rfl,e⟩|⟨y,u,rfl,e⟩
  ·exact nomatch e
  ·injection e with e1 _
   subst e1
   cases v<;>rfl
def yM (prog)(w)(i)(t):(aZ prog w).is (.inl i) (.int i t)=true:=lY i t
def yQ (prog)(w)(x)(t):(aZ prog w).is (.inr x) (.str x t)=true:=gK x t
inductive V where
 |non|bl (b:Bool)|int (i:Int)|str (x:Str)|byt (b:Array UInt8)|flt (b:UInt64)|ref (a:Addr)|ty (n:String)
 deriving DecidableEq
def bL:V->Value->Prop
 |.non,u=>u=Value.none
 |.bl b,u=>u=Value.bool b
 |.int i,u=>∃t,u=Value.int i t
 |.str x,u=>∃t,u=Value.str x t
 |.byt b,u=>∃t,u=Value.bytes b t
 |.flt b,u=>∃t,u=Value.float b t
 |.ref a,u=>u=Value.ref a
 |.ty n,u=>u=Value.type n
abbrev bM:List V->List Value->Prop:=Paired bL
def bM.length (r:bM xs us):xs.length=us.length:=gg r
def bM.get:∀{xs us}{i:Nat}{x},bM xs us->xs[i]?=some x->∃u,us[i]?=some u/\bL x u
 |_,_,_,_,.nil,e=>by simp at e
 |_,_,0,_,.cons r _,e=>by simp at e;subst e;exact⟨_,rfl,r⟩
 |_,_,i+1,x,.cons _ t,e=>by
  obtain⟨u,h1,h2⟩:=bM.get (i:=i) (x:=x) t (by simpa using e)
  exact⟨u,by simpa using h1,h2⟩
def bM.set (r:bL x u):∀{xs us}(i),bM xs us->bM (xs.set i x) (us.set i u)
 |_,_,_,.nil=> .nil
 |_,_,0,.cons _ t=> .cons r t
 |_,_,i+1,.cons q t=> .cons q (bM.set r i t)
def bM.append:∀{xs ys us ws},bM xs us->bM ys ws->bM (xs++ys) (us++ws)
 |_,_,_,_,.nil,s=>s
 |_,_,_,_,.cons r t,s=> .cons r (bM.append t s)
def bM.take:∀{xs us}(n),bM xs us->bM (xs.take n) (us.take n)
 |_,_,0,_=> .nil
 |_,_,_+1,.nil=> .nil
 |_,_,n+1,.cons r t=> .cons r (bM.take n t)
def bM.drop:∀{xs us}(n),bM xs us->bM (xs.drop n) (us.drop n)
 |_,_,0,r=>r
 |_,_,_+1,.nil=> .nil
 |_,_,n+1,.cons _ t=>bM.drop n t
def jN:Option V->Option Value->Prop
 |some v,some u=>bL v u
 |none,none=>True
 |_,_=>False
def KV:List (κ×V)->List (κ×Value)->Prop:=Paired fun(p:κ×V) (q:κ×Value)=>p.1=q.1/\bL p.2 q.2
def kV:Key->V
 |.inl i=> .int i
 |.inr x=> .str x
inductive HO where
 |lst (xs:List V)
 |tup (xs:List V)
 |dK (kvs:List (Key×V))|dT (kvs:List (List Key×V))
 |set (S:Int->Bool) (n:Nat)
 |ins (C dx:Addr) (fs:List (Str×V))
 |own (x:Addr)
 |xd (fs:List (Str×V))
 |met (f x:Addr)
 |rng (lo hi:Int)
 |frz (o:Obj) (u:HO)
 |tbl (ps:Array Value)
 |ext (φ:Heap->Prop)
abbrev Hp:=Addr->Option HO
def aN (H:Hp)(a:Addr)(o:HO):Hp:=fun b=>if b=a then some o else H b
def aC:aN H a o a=some o:=by unfold aN;rw[bb rfl]
def aH (h:b≠a):aN H a o b=H b:=by unfold aN;rw[au h]
def aH1:aN (aN H a o) a u=aN H a u:=by
 funext b;unfold aN;split<;>rfl
def gX {H:Hp}(h:H a=some o)(h':H b=some u)(d:o≠u):a≠b:=by
 intro e;subst e;rw[h] at h';exact d (cu h')
def aK {H:Hp}(h:H a=some o)(h':H b=none):a≠b:=by
 intro e;subst e;rw[h] at h';cases h'
def jV (h:Heap)(a:Addr)(its:Array Value):Prop:=∃o,h.get? a=some o/\o.cls= .type "tuple"/\∃n,o.data= .seq its n/\o.dict=none
def jV.is (x:jV h a its):IsTup h a its:=by obtain⟨o,e,c,n,d,_⟩:=x;exact⟨o,e,c,n,d⟩
def jV.new (h:Heap)(its):jV (h.push { cls:= .type "tuple",data:= .seq its }) h.objs.size its:=⟨_,bc _ rfl,rfl,_,rfl,rfl⟩
section
variable (P:Program) (w:World)
def bZ (H:Hp)(h:Heap)(a:Addr):HO->Prop
 |.lst xs=>xs.length<=sizeLine/\∃(its:List Value) (n:Nat),bM xs its/\h.get? a=some { cls:= .type "list",data:= .seq its.toArray n }
 |.tup xs=>xs.length<=sizeLine/\∃its:List Value,bM xs its/\jV h a its.toArray
 |.dK kvs=>kvs.length<=sizeLine/\(a==sysModules)=false/\∃vs,KV kvs vs/\h.DictOf (aZ P w) a vs
 |.dT kvs=>kvs.length<=sizeLine/\(a==sysModules)=false/\∃xs:List (List Key×Addr×Value),
   Paired (fun(p:List Key×V) (q:List Key×Addr×Value)=>p.1=q.1/\H q.2.1=some (.tup (p.1.map kV))/\bL p.2 q.2.2) kvs xs /\
   ∃o es ep,h.get? a=some o/\o.ExactDict/\o.data= .dict es ep/\es.toList=xs.map (entryOfKey (tupleKind (aZ P w)))/\(xs.map (·.1)).Nodup
 |.set S n=>h.SetOf (intKind P w) a S n
 |.ins C dx fs=>H dx=some (.own a)/\fs.length<=1000/\dx≠a/\h.get? a=some (PySem.W.instObj C dx) /\
   ∃mA,h.Ns1 dx mA/\(∀f,jN (fs.lookup f) (mA f))/\PySem.Within mA (fs.map (·.1))
 |.own _=>∃o,h.get? a=some o
 |.xd fs=>∃mA,h.Ns1 a mA/\∀f,jN (fs.lookup f) (mA f)
 |.rng lo hi=>∃t u v,h.get? a=some { cls:= .type "range",data:= .fields #[.int lo t,.int hi u,.int 1 v] }
 |.frz o u=>h.get? a=some o/\bZ H h a u
 |.tbl ps=>h.get? a=some { cls:= .none,data:= .fields ps }
 |.met f x=>h.get? a=some (PySem.W.methodObj (.ref f) (.ref x))
 |.ext φ=>φ h/\(∃o,h.get? a=some o)/\∀h1 h2:Heap,φ h1->(∀o,h1.get? a=some o->h2.get? a=some o)->φ h2
def jY (H:Hp)(h:Heap):Prop:=∀a o,H a=some o->bZ P w H h a o
end
section
variable {P:Program}{w:World}{H H':Hp}{h h':Heap}{a:Addr}{o:HO}
def bZ.lt (x:bZ P w H h a o):a<h.objs.size:=by
 cases o with
 |lst xs=>obtain⟨_,_,_,_,e⟩:=x;exact ay e
 |tup xs=>obtain⟨_,_,_,p⟩:=x;exact p.is.lt
 |dK kvs=>obtain⟨_,_,_,_,o,_,_,e,_⟩:=x;exact ay e
 |dT kvs=>obtain⟨_,_,_,_,o,_,_,e,_⟩:=x;exact ay e
 |set S n=>obtain⟨o,_,_,_,e,_⟩:=x;exact ay e
 |ins C dx fs=>obtain⟨_,_,_,e,_⟩:=x;exact ay e
 |own y=>obtain⟨_,e⟩:=x;exact ay e
 |xd fs=>obtain⟨_,⟨_,_,_,e,_⟩,_⟩:=x;exact ay e
 |rng lo hi=>obtain⟨_,_,_,e⟩:=x;exact ay e
 |frz ob u=>obtain⟨e,_⟩:=x;exact ay e
 |tbl ps=>exact ay (show h.get? a=some _ from x)
 |met f y=>exact ay (show h.get? a=some _ from x)
 |ext φ=>obtain⟨_,⟨_,e⟩,_⟩:=x;exact ay e
def Paired.mapP:∀{l₁ l₂},Paired F l₁ l₂->(∀a b,F a b->G a b)->Paired G l₁ l₂
 |_,_,.nil,_=> .nil
 |_,_,.cons r t,f=> .cons (f _ _ r) (Paired.mapP t f)
def bZ.stay (x:bZ P w H h a o)(k:∀b u,(b=a\/H b=some (.own a))->h.get? b=some u->h'.get? b=some u)(ho:∀b,H b=some (.own a)->H' b=some (.own a))(ht:∀b xs,H b=some (.tup xs)->H' b=some (.tup xs)):bZ P w H' h' a o:=by
 induction o with
 |lst xs=>obtain⟨z,its,n,r,e⟩:=x;exact⟨z,its,n,r,k _ _ (.inl rfl) e⟩
 |tup xs=>obtain⟨z,its,r,ob,e,c⟩:=x;exact⟨z,its,r,ob,k _ _ (.inl rfl) e,c⟩
 |dK kvs=>obtain⟨z,y,vs,r,ob,es,ep,e,c⟩:=x;exact⟨z,y,vs,r,ob,es,ep,k _ _ (.inl rfl) e,c⟩
 |dT kvs =>
  obtain⟨z,y,xs,r,ob,es,ep,e,c⟩:=x
  exact⟨z,y,xs,Paired.mapP r fun p q z=>⟨z.1,ht _ _ z.2.1,z.2.2⟩,ob,es,ep,k _ _ (.inl rfl) e,c⟩
 |set S n=>obtain⟨ob,es,ep,t,e,c⟩:=x;exact⟨ob,es,ep,t,k _ _ (.inl rfl) e,c⟩
 |ins C dx fs =>
  obtain⟨d,z,ne,e,mA,⟨od,es,ep,e2,c⟩,r⟩:=x
  exact⟨ho _ d,z,ne,k _ _ (.inl rfl) e,mA,⟨od,es,ep,k _ _ (.inr d) e2,c⟩,r⟩
 |own y=>obtain⟨ob,e⟩:=x;exact⟨ob,k _ _ (.inl rfl) e⟩
 |xd fs=>obtain⟨mA,⟨od,es,ep,e,c⟩,r⟩:=x;exact⟨mA,⟨od,es,ep,k _ _ (.inl rfl) e,c⟩,r⟩
 |rng lo hi=>obtain⟨t,u,v,e⟩:=x;exact⟨t,u,v,k _ _ (.inl rfl) e⟩
 |frz ob u ih=>obtain⟨e,q⟩:=x;exact⟨k _ _ (.inl rfl) e,ih q⟩
 |tbl ps =>
  have e:h.get? a=some { cls:= .none,data:= .fields ps }:=x
  show h'.get? a=some { cls:= .none,data:= .fields ps }
  exact k a _ (.inl rfl) e
 |met f y =>
  have e:h.get? a=some (PySem.W.methodObj (.ref f) (.ref y)):=x
  show h'.get? a=some (PySem.W.methodObj (.ref f) (.ref y))
  exact k a _ (.inl rfl) e
 |ext φ=>obtain⟨p,⟨o,e⟩,st⟩:=x;exact⟨st _ _ p fun o q=>k _ _ (.inl rfl) q,⟨o,k _ _ (.inl rfl) e⟩,st⟩
def jY.lt (x:jY P w H h)(e:H a=some o):a<h.objs.size:=(x a o e).lt
def jY.fresh (x:jY P w H h)(e:h.objs.size<=a):H a=none:=by
 cases q:H a with
 |none=>rfl
 |some u=>exact absurd (bz (x.lt q) e) (fq _)
def jY.kept (x:jY P w H h)(k:∀b u,h.get? b=some u->h'.get? b=some u):jY P w H h':=fun a o e =>
 (x a o e).stay (fun b u _ q=>k b u q) (fun _ q=>q) fun _ _ q=>q
def jY.laid (x:jY P w H h)(k:∀b u,h.get? b=some u->h'.get? b=some u)(hp:h.objs.size<=a)(new:bZ P w (aN H a o) h' a o):jY P w (aN H a o) h':=fun b u e=>by
 have hn:=x.fresh hp
 by_cases hb:b=a
 ·subst hb;rw[aC] at e;cases e;exact new
 ·rw[aH hb] at e
  exact(x b u e).stay (fun c v _ q=>k c v q) (fun c q=>by rw[aH (aK q hn)];exact q) fun c xs q=>by rw[aH (aK q hn)];exact q
end
def Rd (H:Hp)(a:Addr)(u:HO):Prop:=H a=some u\/∃o,H a=some (.frz o u)
def Rd.ok (r:Rd H a u)(x:jY P w H h):bZ P w H h a u:=by
 rcases r with r|⟨o,r⟩
 ·exact x a u r
 ·obtain⟨_,q⟩:=x a _ r
  exact q
def Mut:Option HO->Prop
 |some (.lst _)=>True
 |some (.dK _)=>True
 |some (.dT _)=>True
 |some (.set _ _)=>True
 |some (.ins _ _ _)=>True
 |some (.ext _)=>True
 |_=>False
section
variable {P:Program}{w:World}{H:Hp}{h h':Heap}{x e:Addr}{o':HO}
def jY.write (ok:jY P w H h)(mu:Mut (H x))(he:e=x\/H e=some (.own x))(k:∀b u,b≠e->h.get? b=some u->h'.get? b=some u)(heo:∃u,h'.get? e=some u)(new:bZ P w (aN H x o') h' x o'):jY P w (aN H x o') h':=fun b u q=>by
 have nown:∀c y,H c=some (.own y)->c≠x:=fun c y r z=>by subst z;rw[r] at mu;exact mu
 have ntup:∀c xs,H c=some (.tup xs)->c≠x:=fun c xs r z=>by subst z;rw[r] at mu;exact mu
 by_cases hb:b=x
 ·subst hb;rw[aC] at q;cases q;exact new
 ·rw[aH hb] at q
  by_cases hbe:b=e
  ·have q':H b=some (.own x):=by
    rcases he with z|z
    ·exact absurd (hbe.trans z) hb
    ·rw[hbe];exact z
   rw[q] at q';cases q'
   obtain⟨v,hv⟩:=heo
   exact⟨v,by rw[hbe];exact hv⟩
  ·refine(ok b u q).stay (fun c v hc r=>k c v ?_ r) (fun c r=>by rw[aH (nown c b r)];exact r) fun c xs r=>by rw[aH (ntup c xs r)];exact r
   rcases hc with rfl|hc
   ·exact hbe
   ·rintro rfl
    rcases he with z|z
    ·exact nown c b hc z
    ·rw[hc] at z;cases z;exact hb rfl
end
structure Un(fs ex:List Addr)(H H':Hp)(h h':Heap):Prop where
 keep:∀b o,h.get? b=some o->H b=none->b∉fs->b∉ex->h'.get? b=some o
 slot:∀b o,h.get? b=some o->H b=none->b∈fs->b∉ex->∃sl,h'.get? b=some { o with slots:=sl }
 free:∀b o,h.get? b=some o->H b=none->b∉ex->H' b=none
 there:∀b o,h.get? b=some o->b∉ex->∃o',h'.get? b=some o'
 tups:∀b xs,H b=some (.tup xs)->H' b=some (.tup xs)
 frzs:∀b o u,H b=some (.frz o u)->H' b=some (.frz o u)
 tbls:∀b ps,H b=some (.tbl ps)->∃more,H' b=some (.tbl (ps++more))
section
variable {fs fs' ex ex':List Addr}{H H1 H2:Hp}{h h1 h2 h':Heap}{a x e:Addr}{o:HO}
def Un.any (u:Un fs ex H H1 h h1)(q:h.get? b=some ob)(n:H b=none)(hx:b∉ex):∃sl,h1.get? b=some { ob with slots:=sl }:=by
 by_cases hb:b∈fs
 ·exact u.slot b ob q n hb hx
 ·exact⟨ob.slots,u.keep b ob q n hb hx⟩
def Un.kept (k:∀b u,h.get? b=some u->h'.get? b=some u):Un fs ex H H h h':=
 ⟨fun b ob q _ _ _=>k b ob q,fun b ob q _ _ _=>⟨ob.slots,k b ob q⟩,fun _ _ _ n _=>n,fun b ob q _=>⟨ob,k b ob q⟩,fun _ _ q=>q,fun _ _ _ q=>q,fun _ ps q=>⟨#[],by rw[q];simp⟩⟩
def Un.refl:Un fs ex H H h h:=Un.kept fun _ _ q=>q
def Un.laid(k:∀b u,h.get? b=some u->h'.get? b=some u)(hp:h.objs.size<=a)(hn:H a=none):Un fs ex H (aN H a o) h h' where
 keep:=fun b u q _ _ _=>k b u q
 slot:=fun b u q _ _ _=>⟨u.slots,k b u q⟩
 free:=fun b u q n _=>by rw[aH (bw (bz (ay q) hp))];exact n
 there:=fun b u q _=>⟨u,k b u q⟩
 tups:=fun b xs q=>by rw[aH (aK q hn)];exact q
 frzs:=fun b u xs q=>by rw[aH (aK q hn)];exact q
 tbls:=fun b ps q=>⟨#[],by rw[aH (aK q hn),q];simp⟩
def Un.write (mu:Mut (H x))(he:e=x\/H e=some (.own x))(k:∀b u,b≠e->h.get? b=some u->h'.get? b=some u)(heo:∃u,h'.get? e=some u):Un fs ex H (aN H x o) h h':=by
 have hx:∀b,H b=none->b≠x:=fun b n z=>by subst z;rw[n] at mu;exact mu
 have hb:∀b,H b=none->b≠e:=fun b n z=>by
  subst z
  rcases he with r|r
  ·exact hx b n r
  ·rw[n] at r;cases r
 have hm:∀b u,H b=some u->¬Mut (some u)->b≠x:=fun b u q nm z=>by subst z;rw[q] at mu;exact nm mu
 refine⟨fun b u q n _ _=>k b u (hb b n) q,fun b u q n _ _=>⟨u.slots,k b u (hb b n) q⟩,fun b u q n _=>by rw[aH (hx b n)];exact n,fun b u q _=>?_,
  fun b xs q=>by rw[aH (hm b _ q fun z=>z)];exact q,fun b u xs q=>by rw[aH (hm b _ q fun z=>z)];exact q,fun b ps q=>⟨#[],by rw[aH (hm b _ q fun z=>z),q];simp⟩⟩
 by_cases hbe:b=e
 ·subst hbe;exact heo
 ·exact⟨u,k b u hbe q⟩
end
def trk (h:Heap)(H:Hp):List Addr:=(List.range h.objs.size).filter fun a=>(H a).isSome
def tV (h:Heap)(H:Hp):Heap:=PySem.W.hideAll h (trk h H)
def aI6 (h)(H):(tV h H).objs.size=h.objs.size:=PySem.W.hideAll_size _ _
def aU9 (e:h.get? b=some o)(n:H b=none):(tV h H).get? b=some o:=
 PySem.W.hideAll_get _ e fun hm=>by
  have q:(H b).isSome=true:=(dk.mp hm).2
  rw[n] at q;simp at q
def bJ5 (e:(tV h H).get? b=some o):h.get? b=some o/\H b=none:=by
 have e':h.get? b=some o:=PySem.W.of_hideAll (trk h H) e
 refine⟨e',?_⟩
 cases q:H b with
 |none=>rfl
 |some x =>
  have hm:b∈trk h H:=dk.mpr ⟨jg.mpr (ay e'),by simp[q]⟩
  have z:(tV h H).get? b=none:=PySem.W.hideAll_none (trk h H) hm
  rw[z] at e;cases e
def bI5 (g h:Heap)(L:Addr):List (Addr×Obj):=(List.range h.objs.size).filterMap fun a=>if a=L\/(g.get? a).isSome=true then none else (h.get? a).map fun o=>(a,o)
def bS (g h:Heap)(L d:Addr):List (Addr×Obj):=(bI5 g h L).filter fun p=>decide (p.1≠d)
structure Mod(K:PySem.W.Frag)(mg:Str->Option Value)(base:Heap):Prop where
 kin:K.In base
 glob:base.Ns mainGlobals mg
 blt:∃mb,base.Ns builtinsNs mb/\∀x:Str,x≠"__name__"->mb x=bootBuiltins x
 nolimit:base.NoLimit
structure Cx where
 prog:Program
 w:World
 K:PySem.W.Frag
 mg:Str->Option Value
 base:Heap
 A:Around
 N:List Str
 s₀:Shared
 H₀:Hp
 env:Env
 outer:List Env
 stack:List Env
 ex:List Addr
 fn:Str->Bool
 calm:Bool
 pn:List (Addr×Obj)
 xe:Value->Shared->Prop
def jM (l:List Env):List Addr:=l.filterMap (·.frame)
abbrev Cx.fs(X:Cx):List Addr:=jM X.outer
def Vis (sc:Scope)(x:Str):Prop:=sc.names.lookup x=some .local\/sc.names.lookup x=some .cell\/sc.names.lookup x=some .free
def Loc (sc:Scope)(x:Str):Prop:=sc.names.lookup x=some .local\/sc.names.lookup x=some .cell
def bY4 (env:Env)(h:Heap)(m:Str->Option Value)(x:Str)(u:Value):Prop:=
 (env.kindOf x=some .local/\m x=some u)\/((env.kindOf x=some .cell\/env.kindOf x=some .free)/\∃c,env.cells.lookup x=some c/\h.IsCell c (some u))
structure Cx.Ok(X:Cx):Prop where
 mod:Mod X.K X.mg X.base
 kind:X.env.scope.kind= .function
 glob:X.env.globals=mainGlobals
 blt:X.env.builtins=builtinsNs
 above:X.s₀.heap.objs.size<=X.env.locals
 inj:∀x y c,X.env.cells.lookup x=some c->X.env.cells.lookup y=some c->x=y
 has:∀x,(X.env.kindOf x=some .cell\/X.env.kindOf x=some .free)->∃c,X.env.cells.lookup x=some c
 cab:∀x c,X.fn x=true->X.env.cells.lookup x=some c->X.s₀.heap.objs.size<=c
 hd:X.calm=true->X.A.handled=none
 frames:X.A.frames=some X.stack
 stk:X.stack=X.outer\/(X.stack=X.env::X.outer/\X.env.frame=some X.env.locals)
 exf:∀b∈X.ex,b≠X.env.locals/\∀x c,X.env.cells.lookup x=some c->c≠b
 bs:∀b o,X.base.get? b=some o->X.s₀.heap.get? b=some o/\X.H₀ b=none
 bsz:X.base.objs.size<=X.s₀.heap.objs.size
 noex:∀b o,X.base.get? b=some o->b∉X.ex
 exfs:∀b∈X.ex,b∉X.fs
 funs:X.s₀.heap.FunFrames X.base X.outer
 frf:∀b∈X.fs,X.H₀ b=none
structure aX(X:Cx)(pins:List (Addr×Obj))(σ:List (Option V))(H:Hp)(s:Shared):Prop where
 ok:X.Ok
 os:s.os=X.s₀.os
 bare:AllBare s.gens
 base:Un X.fs X.ex X.H₀ H X.s₀.heap s.heap
 loc:∃m,s.heap.Ns X.env.locals m/\∀(i:Nat) (x:Str) (v:V),X.N[i]?=some x->σ[i]?=some (some v)->Vis X.env.scope x->∃u,bL v u/\bY4 X.env s.heap m x u
 cell:∀x c,X.env.cells.lookup x=some c->∃v,s.heap.IsCell c v
 free:H X.env.locals=none
 freeC:∀x c,X.env.cells.lookup x=some c->H c=none
 pin:∀p∈X.pn++pins,s.heap.get? p.1=some p.2/\H p.1=none/\p.1≠X.env.locals/\p.1∉X.fs/\∀v,p.2.data≠ .cell v
 hok:jY X.prog X.w H s.heap
 len:σ.length=X.N.length
section
variable {X:Cx}{pins:List (Addr×Obj)}{σ:List (Option V)}{H H':Hp}{s:Shared}{h':Heap}
def Cx.Ok.nofr (ok:X.Ok)(e:X.base.get? b=some o):b∉X.fs:=fun hb=>by
 have:=(ok.funs.mem hb).1
 rw[e] at this;cases this
def aX.bs (I:aX X pins σ H s):∀b o,X.base.get? b=some o->s.heap.get? b=some o/\H b=none:=fun b o e =>
 ⟨I.base.keep b o (I.ok.bs b o e).1 (I.ok.bs b o e).2 (I.ok.nofr e) (I.ok.noex b o e),I.base.free b o (I.ok.bs b o e).1 (I.ok.bs b o e).2 (I.ok.noex b o e)⟩
def aX.bk (I:aX X pins σ H s):∀b o,X.base.get? b=some o->s.heap.get? b=some o:=fun b o e=>(I.bs b o e).1
def aX.mod (I:aX X pins σ H s):Mod X.K X.mg X.base:=I.ok.mod
def aX.kIn (I:aX X pins σ H s):X.K.In s.heap:=I.ok.mod.kin.keeps I.bk
def aX.lt (I:aX X pins σ H s):X.env.locals<s.heap.objs.size:=by obtain⟨_,hn,_⟩:=I.loc;exact hn.lt
def aX.sz (I:aX X pins σ H s):X.s₀.heap.objs.size<=s.heap.objs.size:=cm I.ok.above (bp I.lt)
def aX.nofs (I:aX X pins σ H s){a:Addr}(h:s.heap.objs.size<=a):a∉X.fs:=fun hb=>by
 obtain⟨_,o,ho,_⟩:=I.ok.funs.mem hb
 exact absurd (bz (ay ho) (cm I.sz h)) (fq _)
def aX.cne (I:aX X pins σ H s):∀x c,X.env.cells.lookup x=some c->c≠X.env.locals:=fun x c e z=>by
 obtain⟨v,o,ho,hd⟩:=I.cell x c e
 obtain⟨m,⟨o',es,ep,ho',hd',_⟩,_⟩:=I.loc
 rw[z,ho'] at ho;cases ho;rw[hd'] at hd;cases hd
def aX.funs (I:aX X pins σ H s):s.heap.FunFrames X.base X.outer:=by
 have all:∀(l:List Env),(∀b∈jM l,b∈X.fs)->X.s₀.heap.FunFrames X.base l->s.heap.FunFrames X.base l:=by
  intro l
  induction l with
  |nil=>intro _ _;trivial
  |cons env r ih =>
   intro hs hl
   obtain⟨hk,⟨L,o,hf,hn,ho,hd⟩,hr⟩:=hl
   have hL:L∈X.fs:=hs L (by unfold jM;rw[nj,hf];exact ao)
   obtain⟨sl,e⟩:=I.base.slot L o ho (I.ok.frf L hL) hL fun z=>I.ok.exfs L z hL
   exact⟨hk,⟨L,_,hf,hn,e,hd⟩,ih (fun b hb=>hs b (by unfold jM;rw[nj,hf];exact aq _ hb)) hr⟩
 exact all X.outer (fun _ hb=>hb) I.ok.funs
def aX.stack (I:aX X pins σ H s):s.heap.FunFrames X.base X.stack:=by
 rcases I.ok.stk with e|⟨e,hf⟩
 ·rw[e];exact I.funs
 ·rw[e]
  obtain⟨m,hn,_⟩:=I.loc
  refine .cons (by rw[I.ok.kind];decide) hf hn ?_ I.funs
  exact wu (cm I.ok.bsz I.ok.above)
def aX.stkSub (I:aX X pins σ H s):∀b∈jM X.stack,b∈X.env.locals::X.fs:=fun b hb=>by
 rcases I.ok.stk with e|⟨e,hf⟩
 ·rw[e] at hb;exact aq _ hb
 ·rw[e] at hb
  unfold jM at hb
  rw[nj,hf] at hb
  exact hb
def aX.stkFree (I:aX X pins σ H s):∀b∈jM X.stack,H b=none:=fun b hb=>by
 rcases bv.mp (I.stkSub b hb) with e|hb
 ·rw[e];exact I.free
 ·obtain⟨_,o,ho,_⟩:=I.ok.funs.mem hb
  exact I.base.free b o ho (I.ok.frf b hb) fun z=>I.ok.exfs b z hb
def aX.step {ch:List Addr}(I:aX X pins σ H s)(hch:∀b∈ch,(b∈X.ex\/X.s₀.heap.objs.size<=b)/\b≠X.env.locals/\(∀x c,X.env.cells.lookup x=some c->c≠b)/\∀p∈X.pn++pins,p.1≠b)(keep:∀b o,b≠X.env.locals->b∉X.fs->b∉ch->s.heap.get? b=some o->H b=none->h'.get? b=some o)(slot:∀b o,b≠X.env.locals->b∈X.fs->b∉ch->s.heap.get? b=some o->H b=none->∃sl,h'.get? b=some { o with slots:=sl })(free:∀b o,b∉ch->s.heap.get? b=some o->H b=none->H' b=none)(there:∀b o,b∉ch->s.heap.get? b=some o->∃o',h'.get? b=some o')(tups:∀b xs,H b=some (.tup xs)->H' b=some (.tup xs))(frzs:∀b o u,H b=some (.frz o u)->H' b=some (.frz o u))(tbls:∀b ps,H b=some (.tbl ps)->∃more,H' b=some (.tbl (ps++more)))(ns:∀m,s.heap.Ns X.env.locals m->h'.Ns X.env.locals m)(hok:jY X.prog X.w H' h')(hg:AllBare g'):
  aX X pins σ H' { s with heap:=h',gens:=g',drawn:=d',toks:=t' }:=by
 have neL:∀b o,X.s₀.heap.get? b=some o->b≠X.env.locals:=fun b o e=>bw (bz (ay e) I.ok.above)
 have neC:∀b o,X.s₀.heap.get? b=some o->b∉X.ex->b∉ch:=fun b o e hx hb=>by
  rcases(hch b hb).1 with z|z
  ·exact hx z
  ·exact absurd (bz (ay e) z) (fq _)
 have cellK:∀x c,X.env.cells.lookup x=some c->∀v,s.heap.IsCell c v->h'.IsCell c v:=fun x c e v ⟨o,ho,hd⟩=>by
  have nch:c∉ch:=fun z=>(hch c z).2.2.1 x c e rfl
  by_cases hc:c∈X.fs
  ·obtain⟨sl,q⟩:=slot c o (I.cne x c e) hc nch ho (I.freeC x c e)
   exact⟨_,q,hd⟩
  ·exact⟨o,keep c o (I.cne x c e) hc nch ho (I.freeC x c e),hd⟩
 refine⟨I.ok,I.os,hg,⟨fun b o e n hb hx=>?_,fun b o e n hb hx=>?_,fun b o e n hx=>?_,fun b o e hx=>?_,fun b xs e=>tups b xs (I.base.tups b xs e),fun b o xs e=>frzs b o xs (I.base.frzs b o xs e),fun b ps e=>?_⟩,?_,fun x c e=>?_,?_,fun x c e=>?_,fun p hp=>?_,hok,I.len⟩
 ·exact keep b o (neL b o e) hb (neC b o e hx) (I.base.keep b o e n hb hx) (I.base.free b o e n hx)
 ·obtain⟨sl,e1⟩:=I.base.slot b o e n hb hx
  obtain⟨sl',e2⟩:=slot b _ (neL b o e) hb (neC b o e hx) e1 (I.base.free b o e n hx)
  exact⟨sl',e2⟩
 ·obtain⟨o',e1⟩:=I.base.there b o e hx
  exact free b o' (neC b o e hx) e1 (I.base.free b o e n hx)
 ·obtain⟨o',e1⟩:=I.base.there b o e hx
  exact there b o' (neC b o e hx) e1
 ·obtain⟨m1,e1⟩:=I.base.tbls b ps e
  obtain⟨m2,e2⟩:=tbls b _ e1
  exact⟨m1++m2,by rw[e2,Array.append_assoc]⟩
 ·obtain⟨m,hn,hl⟩:=I.loc
  refine⟨m,ns m hn,fun i x v e1 e2 e3=>?_⟩
  obtain⟨u,r,l⟩:=hl i x v e1 e2 e3
  refine⟨u,r,?_⟩
  rcases l with l|⟨k,c,e,z⟩
  ·exact .inl l
  ·exact .inr ⟨k,c,e,cellK x c e _ z⟩
 ·obtain⟨v,z⟩:=I.cell x c e
  exact⟨v,cellK x c e v z⟩
 ·obtain⟨m,⟨o,_,_,ho,_⟩,_⟩:=I.loc
  exact free _ o (fun z=>(hch _ z).2.1 rfl) ho I.free
 ·obtain⟨v,o,ho,hd⟩:=I.cell x c e
  exact free c o (fun z=>(hch c z).2.2.1 x c e rfl) ho (I.freeC x c e)
 ·obtain⟨e,n,ne,nf,d⟩:=I.pin p hp
  have nch:p.1∉ch:=fun z=>(hch p.1 z).2.2.2 p hp rfl
  exact⟨keep p.1 p.2 ne nf nch e n,free p.1 p.2 nch e n,ne,nf,d⟩
def aX.un (I:aX X pins σ H s)(u:Un X.fs [] H H' s.heap h')(hok:jY X.prog X.w H' h'):aX X pins σ H' { s with heap:=h',toks:=t' }:=by
 obtain⟨m,⟨o,es,ep,ho,r⟩,_⟩:=id I.loc
 obtain⟨sl,hL⟩:=u.any ho I.free (by simp)
 exact I.step (g':=s.gens) (d':=s.drawn) (ch:=[]) (fun _ z=>nomatch z) (fun b o _ hb _ e n=>u.keep b o e n hb (by simp)) (fun b o _ hb _ e n=>u.slot b o e n hb (by simp)) (fun b o _ e n=>u.free b o e n (by simp)) (fun b o _ e=>u.there b o e (by simp)) u.tups u.frzs u.tbls (fun m' hm=>by
  obtain⟨o',es',ep',ho',r'⟩:=hm
  rw[ho] at ho';cases ho'
  exact⟨_,es',ep',hL,r'⟩) hok I.bare
def aX.call (I:aX X pins σ H s)(u:Un (jM X.stack) ch H H' s.heap h')(hok:jY X.prog X.w H' h')(hg:AllBare g')(hch:∀b∈ch,(b∈X.ex\/X.s₀.heap.objs.size<=b)/\b≠X.env.locals/\(∀x c,X.env.cells.lookup x=some c->c≠b)/\∀p∈X.pn++pins,p.1≠b):
  aX X pins σ H' { s with heap:=h',gens:=g',drawn:=d',toks:=t' }:=by
 obtain⟨m,⟨o,es,ep,ho,r⟩,_⟩:=id I.loc
 obtain⟨sl,hL⟩:=u.any ho I.free fun z=>(hch _ z).2.1 rfl
 exact I.step (ch:=ch) hch (fun b o hL hb hc e n=>u.keep b o e n (fun z=>(bv.mp (I.stkSub b z)).elim hL hb) hc) (fun b o _ _ hc e n=>u.any e n hc) (fun b o hc e n=>u.free b o e n hc) (fun b o hc e=>u.there b o e hc) u.tups u.frzs u.tbls (fun m' hm=>by
  obtain⟨o',es',ep',ho',r'⟩:=hm
  rw[ho] at ho';cases ho'
  exact⟨_,es',ep',hL,r'⟩) hok hg
def aX.turned (I:aX X pins σ H s)(k:∀b o,b≠it->s.heap.get? b=some o->h'.get? b=some o)(hn:H it=none)(hL:it≠X.env.locals)(h1:it∈X.ex\/X.s₀.heap.objs.size<=it)(h2:∀x c,X.env.cells.lookup x=some c->c≠it)(h3:∀p∈X.pn++pins,p.1≠it):aX X pins σ H { s with heap:=h',toks:=t' }:=by
 have nit:∀b u,H b=some u->b≠it:=fun b u e z=>by rw[z,hn] at e;cases e
 refine I.step (g':=s.gens) (d':=s.drawn) (ch:=[it]) (fun b hb=>?_) (fun b o _ _ hc e _=>k b o (fun z=>hc (by simp[z])) e) (fun b o _ _ hc e _=>⟨o.slots,k b o (fun z=>hc (by simp[z])) e⟩) (fun _ _ _ _ n=>n)
  (fun b o hc e=>⟨o,k b o (fun z=>hc (by simp[z])) e⟩) (fun _ _ e=>e) (fun _ _ _ e=>e) (fun b ps e=>⟨#[],by rw[e];simp⟩) (fun m hm=>?_) (fun b u e=>?_) I.bare
 ·have e:b=it:=by simpa using hb
  subst e
  exact⟨h1,hL,h2,h3⟩
 ·obtain⟨o,es,ep,ho,r⟩:=hm
  exact⟨o,es,ep,k _ o (Ne.symm hL) ho,r⟩
 ·refine(I.hok b u e).stay (fun c v hc q=>k c v ?_ q) (fun _ q=>q) fun _ _ q=>q
  rcases hc with z|z
  ·rw[z];exact nit b u e
  ·exact nit c _ z
def aX.tok (I:aX X pins σ H s)(t):aX X pins σ H { s with toks:=t }:=I.un (h':=s.heap) (t':=t) Un.refl I.hok
def aX.kept (I:aX X pins σ H s)(k:∀b u,s.heap.get? b=some u->h'.get? b=some u):aX X pins σ H { s with heap:=h',toks:=t' }:=I.un (Un.kept k) (I.hok.kept k)
def aX.laid {a:Addr}(I:aX X pins σ H s)(k:∀b u,s.heap.get? b=some u->h'.get? b=some u)(hp:s.heap.objs.size<=a)(new:bZ X.prog X.w (aN H a o) h' a o):
  aX X pins σ (aN H a o) { s with heap:=h',toks:=t' }:=I.un (Un.laid k hp (I.hok.fresh hp)) (I.hok.laid k hp new)
def aX.write (I:aX X pins σ H s)(mu:Mut (H x))(he:e=x\/H e=some (.own x))(k:∀b u,b≠e->s.heap.get? b=some u->h'.get? b=some u)(heo:∃u,h'.get? e=some u)(new:bZ X.prog X.w (aN H x o) h' x o):aX X pins σ (aN H x o) { s with heap:=h',toks:=t' }:=I.un (Un.write mu he k heo) (I.hok.write mu he k heo new)
def aX.pins_of (I:aX X pins σ H s)(h:∀p∈pins',s.heap.get? p.1=some p.2/\H p.1=none/\p.1≠X.env.locals/\p.1∉X.fs/\∀v,p.2.data≠ .cell v):aX X pins' σ H s:=
 ⟨I.ok,I.os,I.bare,I.base,I.loc,I.cell,I.free,I.freeC,fun p hp=>(bq.mp hp).elim (fun z=>I.pin p (cj _ z)) (h p),I.hok,I.len⟩
def xK {N:List Str}(hN:N.Nodup){i j:Nat}(a:N[i]?=some x)(b:N[j]?=some x):i=j:=by
 obtain⟨h1,e1⟩:=bf.mp a
 obtain⟨h2,e2⟩:=bf.mp b
 exact(ui hN).mp (e1.trans e2.symm)
def vF (I:aX X pins σ H s)(hN:X.N.Nodup)(hi:X.N[i]?=some x)(hx:Loc X.env.scope x)(r:bL v u)(h:∀s',aX X pins (σ.set i (some v)) H s'->(∃a,Heap.SameBut a s.heap s'.heap/\(a=X.env.locals\/X.env.cells.lookup x=some a))->Q () s')(hf:autoParam (X.fn x=true\/X.env.scope.names.lookup x=some .local) Rq3._auto_1):wpAny M A (storeName X.env x u) Q E s:=by
 obtain⟨m,hn,hl⟩:=id I.loc
 have hcls:(X.env.scope.kind == .class || (X.env.scope.kind == .module&&X.env.locals != X.env.globals))=false:=by rw[I.ok.kind];rfl
 have hiσ:i<σ.length:=by rw[I.len];exact(bf.mp hi).1
 have cne:=I.cne
 have tracked:∀{a:Addr}{h':Heap},(∃o,s.heap.get? a=some o/\H a=none)->Heap.SameBut a s.heap h'->jY X.prog X.w H h':=fun {a h'} ha hs b ob e=>by
  obtain⟨_,_,hfree⟩:=ha
  refine(I.hok b ob e).stay (fun c w' hc q=>(hs.2 c ?_).trans q) (fun _ q=>q) fun _ _ q=>q
  rintro rfl
  rcases hc with rfl|hc
  ·rw[hfree] at e;cases e
  ·rw[hfree] at hc;cases hc
 rcases hx with hk|hk
 ·refine wpAny_storeName_local hk hn (fun h' hn' hs=>?_) hcls
  obtain⟨oL,_,_,hoL,_⟩:=id hn
  refine h _ ⟨I.ok,I.os,I.bare,⟨fun b o e n hb hx=>?_,fun b o e n hb hx=>?_,I.base.free,fun b o e hx=>?_,I.base.tups,I.base.frzs,I.base.tbls⟩,⟨_,hn',fun j y v' e1 e2 e3=>?_⟩,fun y c e=>?_,I.free,I.freeC,fun p hp=>?_,tracked ⟨oL,hoL,I.free⟩ hs,by simpa using I.len⟩ ⟨_,hs,.inl rfl⟩
  ·exact(hs.2 b (bw (bz (ay e) I.ok.above))).trans (I.base.keep b o e n hb hx)
  ·obtain⟨sl,e1⟩:=I.base.slot b o e n hb hx
   exact⟨sl,(hs.2 b (bw (bz (ay e) I.ok.above))).trans e1⟩
  ·obtain⟨o',e1⟩:=I.base.there b o e hx
   exact⟨o',(hs.2 b (bw (bz (ay e) I.ok.above))).trans e1⟩
  ·by_cases hj:j=i
   ·subst hj
    rw[hi] at e1;cases e1
    rw[pf hiσ] at e2
    cases e2
    exact⟨u,r,.inl ⟨hk,by simp⟩⟩
   ·rw[qf (Ne.symm hj)] at e2
    obtain⟨u',r',q⟩:=hl j y v' e1 e2 e3
    refine⟨u',r',?_⟩
    rcases q with⟨k,e⟩|⟨k,c,e,z⟩
    ·refine .inl ⟨k,?_⟩
     have:y≠x:=fun e=>hj (xK hN e1 (e ▸ hi))
     simp[this,e]
    ·exact .inr ⟨k,c,e,z.sameBut hs (cne y c e)⟩
  ·obtain⟨w',z⟩:=I.cell y c e
   exact⟨w',z.sameBut hs (cne y c e)⟩
  ·obtain⟨e,n,ne,nf,d⟩:=I.pin p hp
   exact⟨(hs.2 p.1 ne).trans e,n,ne,nf,d⟩
 ·have hfn:X.fn x=true:=by
   rcases hf with z|z
   ·exact z
   ·rw[z] at hk;cases hk
  obtain⟨c,hc⟩:=I.ok.has x (.inl hk)
  obtain⟨w',z⟩:=I.cell x c hc
  refine wpAny_storeName_cell I.ok.kind hk hc z (fun h' hc' hs=>?_)
  obtain⟨oc,hoc,hocd⟩:=id z
  refine h { s with heap:=h' } ⟨I.ok,I.os,I.bare,⟨fun b o e n hb hx=>?_,fun b o e n hb hx=>?_,I.base.free,fun b o e hx=>?_,I.base.tups,I.base.frzs,I.base.tbls⟩,⟨m,hn.sameBut hs (Ne.symm (cne x c hc)),fun j y v' e1 e2 e3=>?_⟩,fun y c' e=>?_,I.free,I.freeC,fun p hp=>?_,tracked ⟨oc,hoc,I.freeC x c hc⟩ hs,by simpa using I.len⟩ ⟨c,hs,.inr hc⟩
  ·exact(hs.2 b (bw (bz (ay e) (I.ok.cab x c hfn hc)))).trans (I.base.keep b o e n hb hx)
  ·obtain⟨sl,e1⟩:=I.base.slot b o e n hb hx
   exact⟨sl,(hs.2 b (bw (bz (ay e) (I.ok.cab x c hfn hc)))).trans e1⟩
  ·obtain⟨o',e1⟩:=I.base.there b o e hx
   exact⟨o',(hs.2 b (bw (bz (ay e) (I.ok.cab x c hfn hc)))).trans e1⟩
  ·by_cases hj:j=i
   ·subst hj
    rw[hi] at e1;cases e1
    rw[pf hiσ] at e2
    cases e2
    exact⟨u,r,.inr ⟨.inl hk,c,hc,hc'⟩⟩
   ·rw[qf (Ne.symm hj)] at e2
    obtain⟨u',r',q⟩:=hl j y v' e1 e2 e3
    refine⟨u',r',?_⟩
    rcases q with q|⟨k,c',e,z'⟩
    ·exact .inl q
    ·refine .inr ⟨k,c',e,z'.sameBut hs ?_⟩
     rintro rfl
     exact hj (xK hN e1 (I.ok.inj _ _ _ e hc ▸ hi))
  ·by_cases hcc:c'=c
   ·subst hcc;exact⟨_,hc'⟩
   ·obtain⟨w2,z2⟩:=I.cell y c' e
    exact⟨w2,z2.sameBut hs hcc⟩
  ·obtain⟨e,n,ne,nf,d⟩:=I.pin p hp
   refine⟨(hs.2 p.1 ?_).trans e,n,ne,nf,d⟩
   intro q
   rw[q,hoc] at e
   have q':oc=p.2:=cu e
   exact d w' (by rw[<-q'];exact hocd)
def iW (I:aX X pins σ H s)(hN:X.N.Nodup)(hi:X.N[i]?=some x)(hx:Loc X.env.scope x)(r:bL v u)(h:∀s',aX X pins (σ.set i (some v)) H s'->Q () s')(hf:autoParam (X.fn x=true\/X.env.scope.names.lookup x=some .local) Rq3._auto_1):wpAny M A (storeName X.env x u) Q E s:=
 vF I hN hi hx r (fun s' I' _=>h s' I') hf
def aX.call' (I:aX X pins σ H s)(ho:s'.os=s.os)(u:Un (jM X.stack) ch H H' s.heap s'.heap)(hok:jY X.prog X.w H' s'.heap)(hg:AllBare s'.gens)(hch:∀b∈ch,(b∈X.ex\/X.s₀.heap.objs.size<=b)/\b≠X.env.locals/\(∀x c,X.env.cells.lookup x=some c->c≠b)/\∀p∈X.pn++pins,p.1≠b):aX X pins σ H' s':=by
 obtain⟨h',g',d',t',o'⟩:=s'
 have e:o'=s.os:=ho
 subst e
 exact I.call (g':=g') (t':=t') (d':=d') u hok hg hch
end
abbrev XK:=Value->Option Addr->Hp->Prop
abbrev St:=List (Option V)
abbrev VK:=V->Hp->Prop
abbrev TE:=St->Hp->VK->Prop
abbrev TT:=St->Hp->(Bool->Hp->Prop)->Prop
abbrev TA:=St->Hp->(List V->Hp->Prop)->Prop
structure kF where
 nx:St->Hp->Prop
 rt:VK
 bk:St->Hp->Prop:=fun _ _=>False
 ct:St->Hp->Prop:=fun _ _=>False
abbrev TS:=kF->St->Hp->Prop
def EP (X:Cx)(pins:List (Addr×Obj))(σ:St)(Q:VK)(u:Value)(s':Shared):Prop:=∃v H',aX X pins σ H' s'/\bL v u/\Q v H'
def TP (X:Cx)(pins:List (Addr×Obj))(σ:St)(Q:Bool->Hp->Prop)(b:Bool)(s':Shared):Prop:=∃H',aX X pins σ H' s'/\Q b H'
def AP (X:Cx)(pins:List (Addr×Obj))(σ:St)(Q:List V->Hp->Prop)(us:List Value)(s':Shared):Prop:=∃vs H',aX X pins σ H' s'/\bM vs us/\Q vs H'
def SP (X:Cx)(pins:List (Addr×Obj))(D:kF)(f:Flow)(s':Shared):Prop:=
 match f with
 |.next=>∃σ' H',aX X pins σ' H' s'/\D.nx σ' H'
 |.brk=>∃σ' H',aX X pins σ' H' s'/\D.bk σ' H'
 |.cont=>∃σ' H',aX X pins σ' H' s'/\D.ct σ' H'
 |.ret u=>∃v σ' H',aX X pins σ' H' s'/\bL v u/\D.rt v H'
def PE (X:Cx)(e:Expr)(t:TE):Prop:=
 ∀(pins:List (Addr×Obj)) (s:Shared) (σ:St) (H:Hp) (Q:VK),aX X pins σ H s->t σ H Q->wpAny (model X.prog X.w) X.A (eval e X.env) (EP X pins σ Q) X.xe s
def PT (X:Cx)(e:Expr)(t:TT):Prop:=
 ∀(pins:List (Addr×Obj)) (s:Shared) (σ:St) (H:Hp) (Q:Bool->Hp->Prop),aX X pins σ H s->t σ H Q->wpAny (model X.prog X.w) X.A (isTrue e X.env (eval e X.env)) (TP X pins σ Q) X.xe s
def PW (X:Cx)(e:Expr)(t:TT):Prop:=
 ∀(whole:Sem Value) (pins:List (Addr×Obj)) (s:Shared) (σ:St) (H:Hp) (Q:Bool->Hp->Prop),aX X pins σ H s->t σ H Q->wpAny (model X.prog X.w) X.A (isTrue e X.env whole) (TP X pins σ Q) X.xe s
def PW.pt (h:PW X e t):PT X e t:=h _
def PA (X:Cx)(es:List Expr)(t:TA):Prop:=
 ∀(pos:Pos) (pins:List (Addr×Obj)) (s:Shared) (σ:St) (H:Hp) (Q:List V->Hp->Prop),aX X pins σ H s->t σ H Q->wpAny (model X.prog X.w) X.A (spliced (backTo pos (starEach es X.env))) (AP X pins σ Q) X.xe s
def PS (X:Cx)(st:Stmt)(t:TS):Prop:=
 ∀(pins:List (Addr×Obj)) (s:Shared) (σ:St) (H:Hp) (D:kF),aX X pins σ H s->t D σ H->wpAny (model X.prog X.w) X.A (exec st X.env) (SP X pins D) X.xe s
def oS (X:Cx)(st:List Stmt)(t:TS):Prop:=
 ∀(pins:List (Addr×Obj)) (s:Shared) (σ:St) (H:Hp) (D:kF),aX X pins σ H s->t D σ H->wpAny (model X.prog X.w) X.A (execs st X.env) (SP X pins D) X.xe s
def cV (h:wpAny M A t Q E s)(hQ:∀a s,Q a s->Q' a s):wpAny M A t Q' E s:=dm h hQ fun _ _ x=>x
section
variable {X:Cx}
inductive mC(i:Nat)(σ:St)(H:Hp)(Q:VK):Prop
 |mk:∀v,σ[i]?=some (some v)->Q v H->mC i σ H Q
def tC (v:V):TE:=fun _ H Q=>Q v H
def aP0 (hN:X.N[i]?=some x)(hv:Vis X.env.scope x)(hd:autoParam ((x==("__debug__": Str))=false) Rq1._auto_1)(hcd:autoParam ((x==("__classdict__": Str))=false) Rq1._auto_1):PE X (.Name x pos) (mC i):=by
 intro pins s σ H Q I h
 obtain⟨v,e,h⟩:=h
 obtain⟨m,hn,hl⟩:=I.loc
 obtain⟨u,r,l⟩:=hl i x v hN e hv
 have fin:EP X pins σ Q u s:=⟨v,H,I,r,h⟩
 rcases l with⟨hk,hm⟩|⟨hk,c,hc,hcell⟩
 ·exact zw (wv I.ok.kind hk hn hm fin) hd
 ·rcases hk with hk|hk
  ·exact zw (xo I.ok.kind hk hc hcell fin) hd
  ·exact zw (wpAny_loadName_free I.ok.kind hk hc hcell fin hcd) hd
def aD:PE X (.Constant (.int i) j pos) (tC (.int i)):=fun _ _ _ H _ I h=>wpAny_Constant_int ⟨.int i,H,I.tok _,⟨_,rfl⟩,h⟩
def gZ:PE X (.Constant (.bool b) j pos) (tC (.bl b)):=fun _ _ _ H _ I h=>Constant_bool ⟨.bl b,H,I,rfl,h⟩
def aG:PE X (.Constant (.str x) j pos) (tC (.str x)):=fun _ _ _ H _ I h=>Calls.Constant_str ⟨.str x,H,I.tok _,⟨_,rfl⟩,h⟩
def Gl (X:Cx)(x:Str):Prop:=X.env.kindOf x=some .globalImplicit
def nU {σ:St}(I:aX X pins σ H s)(hg:Gl X x)(hm:X.mg x=some u)(h:Q u s)(hd:autoParam ((x==("__debug__": Str))=false) Rq1._auto_1):wpAny (model X.prog X.w) X.A (eval (.Name x pos) X.env) Q E s:=
 si I.ok.kind hg (Calls.loadGlobal_global (by rw[I.ok.glob];exact I.mod.glob.keeps I.bk) hm h) hd
def kR {σ:St}(I:aX X pins σ H s)(hg:Gl X x)(hm:X.mg x=none)(hv:bootBuiltins x=some u)(h:Q u s)(hn:autoParam (x≠"__name__") Rq1._auto_1)(hd:autoParam ((x==("__debug__": Str))=false) Rq1._auto_1):wpAny (model X.prog X.w) X.A (eval (.Name x pos) X.env) Q E s:=by
 obtain⟨mb,h1,h2⟩:=I.mod.blt
 exact si I.ok.kind hg (Calls.loadGlobal_builtin (by rw[I.ok.glob];exact I.mod.glob.keeps I.bk) hm (by rw[I.ok.blt];exact h1.keeps I.bk) ((h2 x hn).trans hv) h) hd
def dR (hg:Gl X x)(hm:X.mg x=some u)(r:bL v u)(hd:autoParam ((x==("__debug__": Str))=false) Rq1._auto_1):PE X (.Name x pos) (tC v):=
 fun _ _ _ H _ I h=>nU I hg hm ⟨v,H,I,r,h⟩ hd
def lX (hg:Gl X x)(hm:X.mg x=none)(hv:bootBuiltins x=some u)(r:bL v u)(hn:autoParam (x≠"__name__") Rq1._auto_1)(hd:autoParam ((x==("__debug__": Str))=false) Rq1._auto_1):PE X (.Name x pos) (tC v):=
 fun _ _ _ H _ I h=>kR I hg hm hv ⟨v,H,I,r,h⟩ hn hd
variable {a b:Expr}{ta tb:TE}{pos:Pos}
def PC (X:Cx)(op:CmpOp)(a b:Expr)(t:TE):Prop:=
 ∀(pins:List (Addr×Obj)) (s:Shared) (σ:St) (H:Hp) (Q:VK),aX X pins σ H s->t σ H Q ->
  wpAny (model X.prog X.w) X.A (eval a X.env) (fun v s₁=>wpAny (model X.prog X.w) X.A (eval b X.env) (fun u s₂=>wpAny (model X.prog X.w) X.A (compareOp op v u) (EP X pins σ Q) X.xe s₂) X.xe s₁) X.xe s
def yX (b)(h:op≠ .In)(h2:op≠ .NotIn):behindInMarks op b=false:=by
 have e1:(op==CmpOp.In)=false:=by cases op<;>first|rfl|exact absurd rfl h
 have e2:(op==CmpOp.NotIn)=false:=by cases op<;>first|rfl|exact absurd rfl h2
 cases b<;>simp[behindInMarks,e1,e2]
inductive BlK(x:V)(k:Bool->Prop):Prop
 |mk:∀c,x= .bl c->k c->BlK x k
def tB (t:TE):TT:=fun σ H Q=>t σ H fun x H1=>BlK x fun c=>Q c H1
def bT4 (h:PC X op a b t)(h1:autoParam (behindInMarks op b=false) Rq11._auto_1):PE X (.Compare a [op] [b] pos) t:=fun pins s σ H Q I hw=>wpAny_Compare1 (h pins s σ H Q I hw) h1
def aD9 (h:PC X op a b t)(h1:autoParam (behindInMarks op b=false) Rq11._auto_1):PT X (.Compare a [op] [b] pos) (tB t):=by
 intro pins s σ H Q I hw
 refine wc (cV (h pins s σ H _ I hw) fun v s1 h1=>cV h1 fun u s2 h2=>cV h2 fun c s3 ⟨x,H1,I1,r1,q1⟩=>?_) h1
 obtain⟨d,rfl,q⟩:=q1
 cases r1
 exact fc ⟨H1,I1,q⟩
def fJ (h:PE X e t)(he:autoParam (∀whole,isTrue e X.env whole=(do let v <-whole;standAt e.pos;holding [v] (truthy v))) Rq4._auto_1):PT X e (tB t):=by
 intro pins s σ H Q I hw
 refine isTrue_plain (cV (h pins s σ H _ I hw) ?_) (he _);rintro v s1 ⟨x,H1,I1,r1,q1⟩
 obtain⟨d,rfl,q⟩:=q1
 cases r1
 exact fc ⟨H1,I1,q⟩
variable {tA tB':TT}{bS:List Expr}
def cH4 (t u:TT):TT:=fun σ H Q=>t σ H fun c H1=>if c=true then u σ H1 Q else Q false H1
def tOr (t u:TT):TT:=fun σ H Q=>t σ H fun c H1=>if c=true then Q true H1 else u σ H1 Q
def cJ1 (t:TT):TT:=fun σ H Q=>t σ H fun c H1=>Q (!c) H1
def kE (ha:PT X a tA):PW X (.BoolOp .And [a] pos) tA:=by
 intro wh pins s σ H Q I h
 refine isTrue_and (cV (ha pins s σ H Q I h) fun c s1 e=>?_)
 cases c with
 |true=>exact isTrue_and_nil e
 |false=>exact e
def jF (ha:PT X a tA):PW X (.BoolOp .Or [a] pos) tA:=by
 intro wh pins s σ H Q I h
 refine isTrue_or (cV (ha pins s σ H Q I h) fun c s1 e=>?_)
 cases c with
 |false=>exact isTrue_or_nil e
 |true=>exact e
def jZ (ha:PT X a tA)(hb:PW X (.BoolOp .And (b::bS) pos) tB'):PW X (.BoolOp .And (a::b::bS) pos) (cH4 tA tB'):=by
 intro wh pins s σ H Q I h
 refine isTrue_and (cV (ha pins s σ H _ I h) ?_);rintro c s1 ⟨H1,I1,q1⟩
 cases c with
 |true=>exact hb wh pins s1 σ H1 Q I1 q1
 |false=>exact⟨H1,I1,q1⟩
def jG (ha:PT X a tA)(hb:PW X (.BoolOp .Or (b::bS) pos) tB'):PW X (.BoolOp .Or (a::b::bS) pos) (tOr tA tB'):=by
 intro wh pins s σ H Q I h
 refine isTrue_or (cV (ha pins s σ H _ I h) ?_);rintro c s1 ⟨H1,I1,q1⟩
 cases c with
 |true=>exact⟨H1,I1,q1⟩
 |false=>exact hb wh pins s1 σ H1 Q I1 q1
def gW (ha:PT X a tA):PT X (.UnaryOp .Not a pos) (cJ1 tA):=by
 intro pins s σ H Q I h
 exact isTrue_not (ha pins s σ H (fun c H1=>Q (!c) H1) I h)
def bM2 (ta tb:TE):TE:=fun σ H Q=>ta σ H fun x H1=>BlK x fun c=>if c=true then tb σ H1 Q else Q (.bl false) H1
def cG5 (ta tb:TE):TE:=fun σ H Q=>ta σ H fun x H1=>BlK x fun c=>if c=true then Q (.bl true) H1 else tb σ H1 Q
def cA9 (ta:TE):TE:=fun σ H Q=>ta σ H fun x H1=>BlK x fun c=>Q (.bl (!c)) H1
def eG (h:PE X a t):PE X (.BoolOp op [a] pos) t:=fun pins s σ H Q I hw=>BoolOp_one (h pins s σ H Q I hw)
def eX (ha:PE X a ta)(hb:PE X (.BoolOp .And (b::bS) pos) tb):PE X (.BoolOp .And (a::b::bS) pos) (bM2 ta tb):=by
 intro pins s σ H Q I h
 refine BoolOp_and (cV (ha pins s σ H _ I h) ?_);rintro v s1 ⟨x,H1,I1,r1,q1⟩
 obtain⟨c,rfl,q1⟩:=q1
 cases r1
 refine fc ?_
 cases c with
 |true=>exact hb pins s1 σ H1 Q I1 q1
 |false=>exact⟨.bl false,H1,I1,rfl,q1⟩
def aG4 (ha:PE X a ta)(hb:PE X (.BoolOp .Or (b::bS) pos) tb):PE X (.BoolOp .Or (a::b::bS) pos) (cG5 ta tb):=by
 intro pins s σ H Q I h
 refine BoolOp_or (cV (ha pins s σ H _ I h) ?_);rintro v s1 ⟨x,H1,I1,r1,q1⟩
 obtain⟨c,rfl,q1⟩:=q1
 cases r1
 refine fc ?_
 cases c with
 |false=>exact hb pins s1 σ H1 Q I1 q1
 |true=>exact⟨.bl true,H1,I1,rfl,q1⟩
def aO1 (ha:PE X a ta):PE X (.UnaryOp .Not a pos) (cA9 ta):=by
 intro pins s σ H Q I h
 refine UnaryOp_ (cV (ha pins s σ H _ I h) ?_);rintro v s1 ⟨x,H1,I1,r1,q1⟩
 obtain⟨c,rfl,q1⟩:=q1
 cases r1
 exact not_of (fc ⟨.bl (!c),H1,I1,rfl,q1⟩)
def tIf (t:TT)(ta tb:TE):TE:=fun σ H Q=>t σ H fun c H1=>if c=true then ta σ H1 Q else tb σ H1 Q
def aV6 (hc:PT X c tA)(ha:PE X a ta)(hb:PE X b tb):PE X (.IfExp c a b pos) (tIf tA ta tb):=by
 intro pins s σ H Q I h
 refine wpAny_IfExp (cV (hc pins s σ H _ I h) ?_);rintro d s1 ⟨H1,I1,q1⟩
 cases d with
 |true=>exact ha pins s1 σ H1 Q I1 q1
 |false=>exact hb pins s1 σ H1 Q I1 q1
end
def bJ (K:PySem.W.Frag)(H:Hp)(a:Addr)(xs:List V):Prop:=
 Rd H a (.lst xs) \/
  ∃(o:Obj) (its:Array Value) (n:Nat),K.lookup a=some o/\o.cls= .type "list"/\o.dict=none/\o.data= .seq its n/\its.size<=sizeLine/\bM xs its.toList
def aQ (K:PySem.W.Frag)(H:Hp)(a:Addr)(xs:List V):Prop:=
 Rd H a (.tup xs) \/
  ∃(o:Obj) (its:Array Value) (n:Nat),K.lookup a=some o/\o.cls= .type "tuple"/\o.data= .seq its n/\its.size<=sizeLine/\bM xs its.toList
def cJ4:Value->Option V
 |.none=>some .non
 |.bool b=>some (.bl b)
 |.int i _=>some (.int i)
 |.str x _=>some (.str x)
 |.bytes b _=>some (.byt b)
 |.float b _=>some (.flt b)
 |.ref a=>some (.ref a)
 |.type n=>some (.ty n)
 |_=>none
def bL.abs (r:bL x u):cJ4 u=some x:=by
 cases x with
 |non=>cases r;rfl
 |bl _=>cases r;rfl
 |int _=>obtain⟨t,rfl⟩:=r;rfl
 |str _=>obtain⟨t,rfl⟩:=r;rfl
 |byt _=>obtain⟨t,rfl⟩:=r;rfl
 |flt _=>obtain⟨t,rfl⟩:=r;rfl
 |ref _=>cases r;rfl
 |ty _=>cases r;rfl
def bL.inj (r:bL x u)(q:bL y u):x=y:=cu (r.abs.symm.trans q.abs)
def bM.inj:∀{xs ys us},bM xs us->bM ys us->xs=ys
 |_,_,_,.nil,.nil=>rfl
 |_,_,_,.cons r t,.cons r' t'=>by rw[r.inj r',bM.inj t t']
section
variable {X:Cx}{pins:List (Addr×Obj)}{σ:St}{H:Hp}{s:Shared}{a:Addr}{xs ys:List V}
def bJ.of {K}(h:H a=some (.lst xs)):bJ K H a xs:= .inl (.inl h)
def aQ.of {K}(h:H a=some (.tup xs)):aQ K H a xs:= .inl (.inl h)
def aX.list (I:aX X pins σ H s)(h:bJ X.K H a xs):∃its:List Value,bM xs its/\PlainL s.heap a its.toArray/\xs.length<=sizeLine:=by
 rcases h with h|⟨o,its,n,hk,hc,hd,hs,hz,r⟩
 ·obtain⟨z,its,n,r,e⟩:=h.ok I.hok
  exact⟨its,r,⟨_,n,e,rfl,rfl,rfl⟩,z⟩
 ·refine⟨its.toList,r,⟨o,n,I.kIn a o hk,hc,hd,by simpa using hs⟩,?_⟩
  have e:=r.length
  simp only[Array.length_toList] at e
  lia
def aX.tuple (I:aX X pins σ H s)(h:aQ X.K H a xs):∃its:List Value,bM xs its/\IsTup s.heap a its.toArray/\xs.length<=sizeLine:=by
 rcases h with h|⟨o,its,n,hk,hc,hs,hz,r⟩
 ·obtain⟨z,its,r,p⟩:=h.ok I.hok
  exact⟨its,r,p.is,z⟩
 ·refine⟨its.toList,r,⟨o,I.kIn a o hk,hc,n,by simpa using hs⟩,?_⟩
  have e:=r.length
  simp only[Array.length_toList] at e
  lia
def aX.list_inj (I:aX X pins σ H s)(h:bJ X.K H a xs)(h':bJ X.K H a ys):xs=ys:=by
 obtain⟨its,r,⟨o,n,e,_,_,d⟩,_⟩:=I.list h
 obtain⟨its',r',⟨o',n',e',_,_,d'⟩,_⟩:=I.list h'
 rw[e] at e';cases e'
 rw[d] at d'
 injection d' with d1 _
 have:its=its':=by simpa using ej Array.toList d1
 subst this
 exact r.inj r'
def aX.tuple_inj (I:aX X pins σ H s)(h:aQ X.K H a xs)(h':aQ X.K H a ys):xs=ys:=by
 obtain⟨its,r,⟨o,e,_,n,d⟩,_⟩:=I.tuple h
 obtain⟨its',r',⟨o',e',_,n',d'⟩,_⟩:=I.tuple h'
 rw[e] at e';cases e'
 rw[d] at d'
 injection d' with d1 _
 have:its=its':=by simpa using ej Array.toList d1
 subst this
 exact r.inj r'
end
abbrev Cx.wish(X:Cx)(E:Value->Shared->Prop):Cx:={ X with xe:=E }
abbrev Cx.nox(X:Cx):Cx:=X.wish fun _ _=>False
def Cx.Ok.wish {X:Cx}(ok:X.Ok)(E):(X.wish E).Ok:=
 ⟨ok.mod,ok.kind,ok.glob,ok.blt,ok.above,ok.inj,ok.has,ok.cab,ok.hd,ok.frames,ok.stk,ok.exf,ok.bs,ok.bsz,ok.noex,ok.exfs,ok.funs,ok.frf⟩
def Cx.Ok.unwish {X:Cx}(ok:(X.wish E).Ok):X.Ok:=
 ⟨ok.mod,ok.kind,ok.glob,ok.blt,ok.above,ok.inj,ok.has,ok.cab,ok.hd,ok.frames,ok.stk,ok.exf,ok.bs,ok.bsz,ok.noex,ok.exfs,ok.funs,ok.frf⟩
section
variable {X:Cx}{pins:List (Addr×Obj)}{σ:St}{H:Hp}{s:Shared}{E:Value->Shared->Prop}
def aX.wish (I:aX X pins σ H s)(E):aX (X.wish E) pins σ H s:=⟨I.ok.wish E,I.os,I.bare,I.base,I.loc,I.cell,I.free,I.freeC,I.pin,I.hok,I.len⟩
def aX.unwish (I:aX (X.wish E) pins σ H s):aX X pins σ H s:=⟨I.ok.unwish,I.os,I.bare,I.base,I.loc,I.cell,I.free,I.freeC,I.pin,I.hok,I.len⟩
def SP.unwish (h:SP (X.wish E) pins D f s'):SP X pins D f s':=by
 cases f with
 |next=>obtain⟨σ',H',I,q⟩:=h;exact⟨σ',H',I.unwish,q⟩
 |brk=>obtain⟨σ',H',I,q⟩:=h;exact⟨σ',H',I.unwish,q⟩
 |cont=>obtain⟨σ',H',I,q⟩:=h;exact⟨σ',H',I.unwish,q⟩
 |ret u=>obtain⟨v,σ',H',I,r,q⟩:=h;exact⟨v,σ',H',I.unwish,r,q⟩
def oS.nox {st}(h:oS X.nox st t):oS X st t:=fun pins s σ H D I hw =>
 dm (h pins s σ H D (I.wish _) hw) (fun _ _ q=>q.unwish) fun _ _ z=>False.elim z
end
section
variable {X:Cx}{st:Stmt}{bS:List Stmt}{t u:TS}{e:Expr}{te:TE}{pos:Pos}
def tNext:TS:=fun D σ H=>D.nx σ H
def bW1 (t u:TS):TS:=fun D σ H=>t { D with nx:=u D } σ H
def aU:oS X [] tNext:=fun _ _ σ H _ I h=>nv ⟨σ,H,I,h⟩
def aF (h1:PS X st t)(h2:oS X bS u):oS X (st::bS) (bW1 t u):=by
 intro pins s σ H D I h
 refine uj (cV (h1 pins s σ H { D with nx:=u D } I h) fun f s1 q=>?_)
 cases f with
 |next =>
  obtain⟨σ',H',I',q⟩:=q
  exact h2 pins s1 σ' H' D I' q
 |ret v=>exact q
 |brk=>exact q
 |cont=>exact q
def aE (h1:PS X st t):oS X [st] t:=by
 intro pins s σ H D I h
 refine uj (cV (h1 pins s σ H D I h) fun f s1 q=>?_)
 cases f with
 |next=>exact nv q
 |ret v=>exact q
 |brk=>exact q
 |cont=>exact q
def aX.quiet {σ:St}(I:aX X pins σ H s):interactive X.env=false:=by simp[interactive,I.ok.kind]
def bY0 (te:TE):TS:=fun D σ H=>te σ H fun _ H1=>D.nx σ H1
def cO (he:PE X e te)(hs:autoParam (swapsWith e none pos.line X.env=pure false) Rq0._auto_1):PS X (.Expr e pos) (bY0 te):=by
 intro pins s σ H D I h
 refine wpAny_Expr_any (cV (he pins s σ H _ I h) ?_) I.quiet hs;rintro v s1 ⟨x,H1,I1,r1,q1⟩;exact⟨σ,H1,I1,q1⟩
def cI7 (te:TE):TS:=fun D σ H=>te σ H D.rt
def aO (he:PE X e te):PS X (.Return (some e) pos) (cI7 te):=by
 intro pins s σ H D I h
 refine wpAny_Return_some (cV (he pins s σ H _ I h) ?_);rintro v s1 ⟨x,H1,I1,r1,q1⟩;exact⟨x,σ,H1,I1,r1,q1⟩
def cH9 (c:TT)(t u:TS):TS:=fun D σ H=>c σ H fun b H1=>if b=true then t D σ H1 else u D σ H1
def bD (hc:PT X c tc)(ha:oS X a t)(hb:oS X b u):PS X (.If c a b pos) (cH9 tc t u):=by
 intro pins s σ H D I h
 refine wpAny_If (cV (hc pins s σ H _ I h) ?_);rintro d s1 ⟨H1,I1,q1⟩
 cases d with
 |true=>exact ha pins s1 σ H1 D I1 q1
 |false=>exact hb pins s1 σ H1 D I1 q1
def tNever:TS:=fun _ _ _=>False
def fU:oS X sts tNever:=fun _ _ _ _ _ _ h=>h.elim
end
abbrev TG:=V->St->Hp->(St->Hp->Prop)->Prop
abbrev TGs:=List V->St->Hp->(St->Hp->Prop)->Prop
def PG (X:Cx)(target:Expr)(t:TG):Prop:=
 ∀(pins:List (Addr×Obj)) (s:Shared) (σ:St) (H:Hp) (v:V) (u:Value) (Q:St->Hp->Prop),aX X pins σ H s->bL v u->t v σ H Q ->
  wpAny (model X.prog X.w) X.A (assign target X.env u) (fun _ s'=>∃σ' H',aX X pins σ' H' s'/\Q σ' H') X.xe s
def PGs (X:Cx)(ts:List Expr)(t:TGs):Prop:=
 ∀(pins:List (Addr×Obj)) (s:Shared) (σ:St) (H:Hp) (vs:List V) (us:List Value) (Q:St->Hp->Prop),aX X pins σ H s->bM vs us->t vs σ H Q ->
  wpAny (model X.prog X.w) X.A (assignInOrder ((assignEach ts X.env).map (·.2)) us) (fun _ s'=>∃σ' H',aX X pins σ' H' s'/\Q σ' H') X.xe s
abbrev TSet:=V->V->V->Hp->(Hp->Prop)->Prop
def bH3 (X:Cx)(t:TSet):Prop:=
 ∀(pins:List (Addr×Obj)) (s:Shared) (σ:St) (H:Hp) (o i v:V) (ov iv u:Value) (Q:Hp->Prop),aX X pins σ H s->bL o ov->bL i iv->bL v u->t o i v H Q ->
  wpAny (model X.prog X.w) X.A (setItem ov iv u) (fun _ s'=>∃H',aX X pins σ H' s'/\Q H') X.xe s
abbrev TIp:=V->V->Hp->VK->Prop
def PIp (X:Cx)(op:Operator)(t:TIp):Prop:=
 ∀(pins:List (Addr×Obj)) (s:Shared) (σ:St) (H:Hp) (x y:V) (v u:Value) (Q:VK),aX X pins σ H s->bL x v->bL y u->t x y H Q ->
  wpAny (model X.prog X.w) X.A (inplaceOp op v u) (EP X pins σ Q) X.xe s
section
variable {X:Cx}{pos:Pos}
def rP (i:Nat):TG:=fun v σ H Q=>Q (σ.set i (some v)) H
def qL (hN:X.N.Nodup)(hi:X.N[i]?=some x)(hx:Loc X.env.scope x)(hf:autoParam (X.fn x=true\/X.env.scope.names.lookup x=some .local) Rq3._auto_1):PG X (.Name x pos) (rP i):=by
 intro pins s σ H v u Q I r h
 exact yq (iW I hN hi hx r (fun s' I'=>⟨_,H,I',h⟩) hf)
def gNil:TGs:=fun vs σ H Q=>vs=[]/\Q σ H
inductive bL3(t:TG)(u:TGs)(vs:List V)(σ:St)(H:Hp)(Q:St->Hp->Prop):Prop
 |mk:∀v r,(vs=v::r)->(t v σ H fun σ' H'=>u r σ' H' Q)->bL3 t u vs σ H Q
def fO:PGs X [] gNil:=by
 intro pins s σ H vs us Q I r h
 obtain⟨e,h⟩:=h
 subst e
 cases r
 exact yr ⟨σ,H,I,h⟩
def bG (h1:PG X e t)(h2:PGs X es u)(hs:autoParam ((assignEach (e::es) X.env).map (·.2)=assign e X.env::(assignEach es X.env).map (·.2)) Rq0._auto_1):PGs X (e::es) (bL3 t u):=by
 intro pins s σ H vs us Q I r h
 obtain⟨v,vr,e1,h⟩:=h
 subst e1
 cases r with
 |cons r rr =>
  rw[hs]
  refine rn (cV (h1 pins s σ H _ _ _ I r h) ?_);rintro _ s1 ⟨σ1,H1,I1,q1⟩
  exact h2 pins s1 σ1 H1 _ _ Q I1 rr q1
inductive bO9(K:PySem.W.Frag)(n:Nat)(t:TGs)(v:V)(σ:St)(H:Hp)(Q:St->Hp->Prop):Prop
 |mk:∀a xs,v= .ref a->aQ K H a xs->xs.length=n->t xs σ H Q->bO9 K n t v σ H Q
def jE (hc:X.calm=true)(h:PGs X es t)(hn:autoParam ((assignEach es X.env).length=n) Rq0._auto_1)(hst:autoParam ((assignEach es X.env).findIdx? (·.1)=none) Rq0._auto_1):PG X (.Tuple es k pos) (bO9 X.K n t):=by
 intro pins s σ H v u Q I r hw
 obtain⟨a,xs,e1,hq,hl,hw⟩:=hw
 subst e1
 cases r
 obtain⟨its,rv,ht,hz⟩:=I.tuple hq
 refine assign_Tuple_tuple (I.ok.hd hc) ht (by simp[hn, <-hl,rv.length]) hst fun h' hx=>?_
 have I1:aX X pins σ H { s with heap:=h' }:=I.kept (t':=s.toks) fun b o e=>hx b o (bw (ay e)) e
 exact h pins _ σ H xs _ Q I1 (by simpa using rv) hw
def cG2 (to ti:TE)(t:TSet):TG:=fun v σ H Q=>to σ H fun o H1=>ti σ H1 fun i H2=>t o i v H2 fun H3=>Q σ H3
def aP9 (ho:PE X o to)(hi:PE X i ti)(hs:bH3 X t)(ha:autoParam (∀v,assign (.Subscript o i pos) X.env v=(do
   let ov <-holding [v] (eval o X.env)
   let iv <-holding [v,ov] (eval i X.env)
   standAt pos
   holding [v,ov,iv] (setItem ov iv v)
   release [v,ov,iv] [])) Rq4._auto_1):PG X (.Subscript o i pos) (cG2 to ti t):=by
 intro pins s σ H v u Q I r h
 rw[ha]
 refine aa (dz (cV (ho pins s σ H _ I h) ?_));rintro ov s1 ⟨x,H1,I1,r1,q1⟩
 refine aa (dz (cV (hi pins s1 σ H1 _ I1 q1) ?_));rintro iv s2 ⟨y,H2,I2,r2,q2⟩
 refine aa (sj (aa (dz (cV (hs pins s2 σ H2 x y v ov iv u _ I2 r1 r2 r q2) ?_))));rintro _ s3 ⟨H3,I3,q3⟩
 exact wpAny_release ⟨σ,H3,I3,q3⟩
def aX6 (te:TE)(g:TG):TS:=fun D σ H=>te σ H fun x H1=>g x σ H1 D.nx
def lJ (he:PE X e te)(hg:PG X tg g)(hs:autoParam (swapsWithSole [tg] e pos.line X.env=pure false) Rq0._auto_1)(hw:autoParam (swappedStores [tg] e X.env=pure none) Rq0._auto_1)(h1:autoParam ((assignEach [tg] X.env).map (·.2)=[assign tg X.env]) Rq0._auto_1):PS X (.Assign [tg] e pos) (aX6 te g):=by
 intro pins s σ H D I h
 refine wpAny_Assign_stores (cV (he pins s σ H _ I h) ?_) hs hw;rintro v s1 ⟨x,H1,I1,r1,q1⟩
 rw[h1]
 exact cV (hg pins s1 σ H1 x v _ I1 r1 q1) fun _ s2 q=>q
def gJ {i x e te pos'}(hN:X.N.Nodup)(hi:X.N[i]?=some x)(hx:Loc X.env.scope x)(he:PE X e te)(hs:autoParam (swapsWith e (some (.Name x pos')) pos.line X.env=pure false) Rq0._auto_1)(hf:autoParam (X.fn x=true\/X.env.scope.names.lookup x=some .local) Rq3._auto_1):
  PS X (.Assign [.Name x pos'] e pos) (aX6 te (rP i)):=by
 intro pins s σ H D I h
 refine wpAny_Assign_Name (cV (he pins s σ H _ I h) ?_) hs;rintro v s1 ⟨y,H1,I1,r1,q1⟩
 exact iW I1 hN hi hx r1 (fun s2 I2=>⟨_,H1,I2,q1⟩) hf
def cJ0 (i j:Nat)(ta:TA):TS:=fun D σ H=>ta σ H fun vs H1=>∃v w,vs=[v,w]/\D.nx ((σ.set i (some v)).set j (some w)) H1
def aR8 (hc:X.calm=true)(hN:X.N.Nodup)(hi:X.N[i]?=some x)(hj:X.N[j]?=some y)(hij:i≠j)(hx:X.env.scope.names.lookup x=some .local)(hy:X.env.scope.names.lookup y=some .local)(ha:PA X [a,b] ta)(hw:swappedStores [.Tuple [.Name x px,.Name y py] kt pt] (.Tuple [a,b] k2 pt2) X.env=pure (some [x,y]))(hs:autoParam (swapsWithSole [.Tuple [.Name x px,.Name y py] kt pt] (.Tuple [a,b] k2 pt2) pos.line X.env=pure false) Rq0._auto_1):
  PS X (.Assign [.Tuple [.Name x px,.Name y py] kt pt] (.Tuple [a,b] k2 pt2) pos) (cJ0 i j ta):=by
 intro pins s σ H D I h
 rw[exec_Assign_arm]
 refine aa (sj ?_)
 rw[hs]
 refine aa (ak ?_)
 rw[au (by decide)]
 refine aa (Tuple_ (cV (ha _ pins s σ H _ I h) ?_));rintro us s1 ⟨vs,H1,I1,r1,q1⟩
 obtain⟨v,w,e1,q1⟩:=q1
 subst e1
 obtain⟨u1,u2,rfl,rv,rw'⟩:∃u1 u2,us=[u1,u2]/\bL v u1/\bL w u2:=by
  cases r1 with
  |cons p q =>
   cases q with
   |cons p' q' =>
    cases q'
    exact⟨_,_,rfl,p,p'⟩
 refine fe ?_ (by show 2<=sizeLine;decide)
 have I2:aX X pins σ H1 { s1 with heap:=s1.heap.push { cls:= .type "tuple",data:= .seq [u1,u2].toArray } }:=I1.kept (t':=s1.toks) fun b o e=>af _ e
 rw[hw]
 refine aa (ak ?_)
 show wpAny (model X.prog X.w) X.A (do rule "assign.swapped-stores";let items <-unpackItems (.ref s1.heap.objs.size) 2 none;assignInOrder [fun v=>bindName X.env y v,fun v=>bindName X.env x v] items.reverse;pure Flow.next) _ _ _
 refine aa (oq (aa (unpackItems_tuple (items:= #[u1,u2]) (I.ok.hd hc) (IsTup.new s1.heap _) fun h' hx'=>?_)))
 have I3:=I2.kept (h':=h') (t':=s1.toks) fun b o e=>hx' b o (bw (ay e)) e
 show wpAny _ _ (assignInOrder [fun v=>bindName X.env y v,fun v=>bindName X.env x v] [u2,u1]>>=fun _=>pure Flow.next) _ _ _
 refine aa (rn (we (iW I3 hN hj (.inl hy) rw' (fun s2 I4=>?_) (.inr hy))))
 refine rn (we (iW I4 hN hi (.inl hx) rv (fun s3 I5=>yr (ak ?_)) (.inr hx)))
 rw[List.set_comm _ _ (Ne.symm hij)] at I5
 exact⟨_,H1,I5,q1⟩
inductive cE0(i:Nat)(te:TE)(ti:TIp)(D:kF)(σ:St)(H:Hp):Prop
 |mk:∀x,σ[i]?=some (some x)->(te σ H fun y H1=>ti x y H1 fun z H2=>D.nx (σ.set i (some z)) H2)->cE0 i te ti D σ H
def aD4 (hN:X.N.Nodup)(hi:X.N[i]?=some x)(hx:Loc X.env.scope x)(he:PE X e te)(ho:PIp X op ti)(hf:autoParam (X.fn x=true\/X.env.scope.names.lookup x=some .local) Rq3._auto_1):
  PS X (.AugAssign (.Name x pos') op e pos) (cE0 i te ti):=by
 intro pins s σ H D I h
 obtain⟨v,e1,h⟩:=h
 obtain⟨m,hn,hl⟩:=I.loc
 have vis:Vis X.env.scope x:=by rcases hx with k|k;exact .inl k;exact .inr (.inl k)
 obtain⟨u,r,l⟩:=hl i x v hi e1 vis
 refine wpAny_AugAssign_Name ?_
 have go:wpAny (model X.prog X.w) X.A (eval e X.env) (fun w s₂=>wpAny (model X.prog X.w) X.A (inplaceOp op u w) (fun r s₃=>wpAny (model X.prog X.w) X.A (storeName X.env x r) (fun _=>SP X pins D .next) X.xe s₃) X.xe s₂) X.xe s:=by
  refine cV (he pins s σ H _ I h) ?_;rintro w s1 ⟨y,H1,I1,r1,q1⟩
  refine cV (ho pins s1 σ H1 v y u w _ I1 r r1 q1) ?_;rintro z s2 ⟨zv,H2,I2,r2,q2⟩
  exact iW I2 hN hi hx r2 (fun s3 I3=>⟨_,H2,I3,q2⟩) hf
 rcases l with⟨hk,hm⟩|⟨hk,c,hc,hcell⟩
 ·exact wv I.ok.kind hk hn hm go
 ·rcases hk with hk|hk
  ·exact xo I.ok.kind hk hc hcell go
  ·rcases hx with k|k
   ·have:X.env.scope.names.lookup x=some .free:=hk
    rw[k] at this;cases this
   ·have:X.env.scope.names.lookup x=some .free:=hk
    rw[k] at this;cases this
def cC0 (to ti te:TE)(tget:V->V->Hp->VK->Prop)(tip:TIp)(tset:TSet):TS:=fun D σ H=>to σ H fun o H1=>ti σ H1 fun i H2=>tget o i H2 fun x H3=>te σ H3 fun y H4=>tip x y H4 fun z H5=>tset o i z H5 fun H6=>D.nx σ H6
def bY3 (X:Cx)(t:V->V->Hp->VK->Prop):Prop:=
 ∀(pins:List (Addr×Obj)) (s:Shared) (σ:St) (H:Hp) (o i:V) (ov iv:Value) (Q:VK),aX X pins σ H s->bL o ov->bL i iv->t o i H Q ->
  wpAny (model X.prog X.w) X.A (getItem ov iv) (EP X pins σ Q) X.xe s
def vX (ho:PE X o to)(hi:PE X i ti)(hg:bY3 X tget)(he:PE X e te)(hp:PIp X op tip)(hs:bH3 X tset)(ha:autoParam (∀ov iv new,augStore i ov iv new=(do holding [new,ov,iv] (setItem ov iv new);release [new,ov,iv] [];pure .next)) Rq2._auto_1):PS X (.AugAssign (.Subscript o i tpos) op e pos) (cC0 to ti te tget tip tset):=by
 intro pins s σ H D I h
 refine wpAny_AugAssign_SubscriptAny (cV (ho pins s σ H _ I h) ?_) ha;rintro ov s1 ⟨x1,H1,I1,r1,q1⟩
 refine cV (hi pins s1 σ H1 _ I1 q1) ?_;rintro iv s2 ⟨x2,H2,I2,r2,q2⟩
 refine cV (hg pins s2 σ H2 x1 x2 ov iv _ I2 r1 r2 q2) ?_;rintro old s3 ⟨x3,H3,I3,r3,q3⟩
 refine cV (he pins s3 σ H3 _ I3 q3) ?_;rintro v s4 ⟨x4,H4,I4,r4,q4⟩
 refine cV (hp pins s4 σ H4 x3 x4 old v _ I4 r3 r4 q4) ?_;rintro new s5 ⟨x5,H5,I5,r5,q5⟩
 refine cV (hs pins s5 σ H5 x1 x2 x5 ov iv new _ I5 r1 r2 r5 q5) ?_;rintro _ s6 ⟨H6,I6,q6⟩;exact⟨σ,H6,I6,q6⟩
inductive ipI(f:Int->Int->Int)(x y:V)(H:Hp)(Q:VK):Prop
 |mk:∀i j,x= .int i->y= .int j->Q (.int (f i j)) H->ipI f x y H Q
def pB:PIp X .Add (ipI fun i j=>i+j):=by
 intro pins s σ H x y v u Q I r1 r2 h
 obtain⟨i,j,e1,e2,q⟩:=h
 subst e1;subst e2
 obtain⟨t,rfl⟩:=r1
 obtain⟨t',rfl⟩:=r2
 exact iadd_int ⟨.int _,H,I.tok _,⟨_,rfl⟩,q⟩
inductive aM9(c:TT)(tb:TS)(D:kF)(σ:St)(H:Hp):Prop
 |mk:∀W:Nat->St->Hp->Prop,((∃m,W m σ H))->(∀m σ H,W m σ H->c σ H fun b H1=>if b=true then ∃N:St->Hp->Prop,(∀σ' H',N σ' H'->∃m',m'<m/\W m' σ' H')/\tb { D with nx:=N,ct:=N,bk:=D.nx } σ H1 else D.nx σ H1)->aM9 c tb D σ H
def jP (hp:PassesOwn (model X.prog X.w) X.A X.env X.xe)(hc:PT X c tc)(hb:oS X body tb):PS X (.While c body [] pos) (aM9 tc tb):=by
 intro pins s σ H D I h
 obtain⟨W,⟨m0,w0⟩,turn⟩:=h
 refine wpAny_While (codeAny_whileLoop (fun n s'=>∃σ' H',aX X pins σ' H' s'/\W n σ' H') ?_ m0 ⟨σ,H,I,w0⟩)
 rintro n s1 ⟨σ1,H1,I1,w1⟩
 refine jt hp (cV (hc pins s1 σ1 H1 _ I1 (turn n σ1 H1 w1)) ?_);rintro b s2 ⟨H2,I2,q2⟩
 cases b with
 |true =>
  obtain⟨N,hN,q2⟩:=q2
  rw[bb rfl]
  refine jt hp (cV (hb pins s2 σ1 H2 _ I2 q2) fun f s3 q3=>?_)
  cases f with
  |next =>
   obtain⟨σ3,H3,I3,n3⟩:=q3
   obtain⟨m',hm,w3⟩:=hN σ3 H3 n3
   exact⟨m',hm,σ3,H3,I3,w3⟩
  |cont =>
   obtain⟨σ3,H3,I3,n3⟩:=q3
   obtain⟨m',hm,w3⟩:=hN σ3 H3 n3
   exact⟨m',hm,σ3,H3,I3,w3⟩
  |brk=>exact q3
  |ret v=>exact q3
 |false =>
  rw[au bh]
  exact nv ⟨σ1,H2,I2,q2⟩
end
structure It where
 go:Nat->Hp->Prop
 yld:Nat->Hp->V->Hp->Prop
 stop:Nat->Hp->Prop
def mB (X:Cx)(pins:List (Addr×Obj))(H:Hp)(b:Addr):Prop:=
 H b=none/\b≠X.env.locals/\b∉X.fs/\(b∈X.ex\/X.s₀.heap.objs.size<=b)/\(∀x c,X.env.cells.lookup x=some c->c≠b)/\∀p∈X.pn++pins,p.1≠b
def aX.fpOk {σ:St}{b:Addr}(I:aX X pins σ H s)(hb:s.heap.objs.size<=b)(hn:H' b=none):mB X pins H' b:=by
 refine⟨hn,js (bz I.lt hb),I.nofs hb,.inr (cm I.sz hb),fun x c e z=>?_,fun p hp z=>?_⟩
 ·obtain⟨v,q⟩:=I.cell x c e
  exact absurd (bz q.lt (by rw[z];exact hb)) (fq _)
 ·exact absurd (bz (ay (I.pin p hp).1) (by rw[z];exact hb)) (fq _)
structure wN(P:Program)(w:World)(K:PySem.W.Frag)(tg:Expr)(J:It)(fp:List Addr)(it:Addr)(tn:Nat->Heap->Prop):Prop where
 mem:it∈fp
 obj:∀i h,tn i h->∀b∈fp,∃o,h.get? b=some o/\∀v,o.data≠ .cell v
 keep:∀i h h',tn i h->(∀b∈fp,∀o,h.get? b=some o->h'.get? b=some o)->tn i h'
 item:∀(X:Cx),X.prog=P->X.w=w->X.K=K->X.calm=true->∀(i:Nat) (pins:List (Addr×Obj)) (s:Shared) (σ:St) (H:Hp) (E:Value->Shared->Prop),aX X pins σ H s->(∀b∈fp,mB X pins H b)->tn i s.heap->J.go i H ->
  wpAny (model P w) X.A (pyNext (.ref it)) (fun r s1=>∃u,r=some u /\
   wpAny (model P w) X.A (letOwnedTupleGo tg (.ref it) u) (fun _ s2=>∃x H',aX X pins σ H' s2/\bL x u/\J.yld i H x H'/\tn (i+1) s2.heap/\∀b∈fp,H' b=none) E s1) E s
 done:∀(X:Cx),X.prog=P->X.w=w->X.K=K->X.calm=true->∀(i:Nat) (pins:List (Addr×Obj)) (s:Shared) (σ:St) (H:Hp) (E:Value->Shared->Prop),aX X pins σ H s->(∀b∈fp,mB X pins H b)->tn i s.heap->J.stop i H ->
  wpAny (model P w) X.A (pyNext (.ref it)) (fun r s1=>r=none/\aX X pins σ H s1) E s
 self:∀(A:Around) (i:Nat) (s:Shared) (Q:Value->Shared->Prop) (E:Value->Shared->Prop),tn i s.heap->Q (.ref it) s->wpAny (model P w) A (pyIter (.ref it)) Q E s
abbrev TI:=St->Hp->(It->Hp->Prop)->Prop
def PIE (X:Cx)(pins:List (Addr×Obj))(σ:St)(tg:Expr)(R:It->Hp->Prop)(itv:Value)(s2:Shared):Prop:=
 ∃(it:Addr) (fp:List Addr) (tn:Nat->Heap->Prop) (J:It) (H':Hp),itv= .ref it/\aX X pins σ H' s2/\wN X.prog X.w X.K tg J fp it tn/\tn 0 s2.heap/\(∀b∈fp,mB X pins H' b)/\R J H'
def PI (X:Cx)(tg iter:Expr)(wi:TI):Prop:=
 ∀(pins:List (Addr×Obj)) (s:Shared) (σ:St) (H:Hp) (R:It->Hp->Prop),aX X pins σ H s->wi σ H R ->
  wpAny (model X.prog X.w) X.A (eval iter X.env) (fun v s1=>wpAny (model X.prog X.w) X.A (pyIter v) (PIE X pins σ tg R) X.xe s1) X.xe s
def go_of (ho : s.heap.get? it = some o)(hc : o.cls = .type n)(hd : o.data = .fields vs)(hn : ["enumerate", "zip", "dict_itemiterator", "dict_reverseitemiterator", "odict_iterator", "itertools.zip_longest", "itertools.pairwise"].contains n = false)(hQ : Q () s): wpAny M A (letOwnedTupleGo tg (.ref it) u) Q E s:= by
  unfold letOwnedTupleGo
  cases tg<;>first
    | exact ak hQ
    | (cases u<;>first
        | exact ak hQ
        | (refine aa (wpAny_load ho ?_)
           rw[hc,hd]
           show wpAny M A (if (["enumerate", "zip", "dict_itemiterator", "dict_reverseitemiterator", "odict_iterator", "itertools.zip_longest", "itertools.pairwise"].contains n&&vs[0]? == some (rawInt _)) = true then _ else _) Q E s
           rw[au (by intro h; rw[hn,Bool.false_and] at h; cases h)]
           exact ak hQ))
def Itl (K:PySem.W.Frag)(a:Addr):It:=
 ⟨fun i H=>∃xs x,bJ K H a xs/\xs[i]?=some x,fun i H x H'=>H'=H/\∀xs,bJ K H a xs->xs[i]?=some x,fun i H=>∃xs,bJ K H a xs/\xs.length<=i⟩
def Itt (K:PySem.W.Frag)(a:Addr):It:=
 ⟨fun i H=>∃xs x,aQ K H a xs/\xs[i]?=some x,fun i H x H'=>H'=H/\∀xs,aQ K H a xs->xs[i]?=some x,fun i H=>∃xs,aQ K H a xs/\xs.length<=i⟩
def Itr (lo:Int)(n:Nat):It:=⟨fun i _=>i<n,fun i H x H'=>H'=H/\x= .int (lo+i),fun i _=>n<=i⟩
def aI4{P:Program}{w:World}{K:PySem.W.Frag}{tg:Expr}(a it:Addr):wN P w K tg (Itl K a) [it] it (fun i h=>h.IsListIter it a i) where
 mem:=by simp
 obj:=fun i h st b hb=>by
  have e:b=it:=by simpa using hb
  subst e
  obtain⟨o,e,c,d⟩:=st
  exact⟨o,e,fun v z=>by rw[d] at z;cases z⟩
 keep:=fun i h h' st k=>st.at fun o e=>k it (by simp) o e
 item:=by
  intro X hP hw hK hc i pins s σ H E I hf st hg
  subst hP hw hK
  obtain⟨xs,x,hq,hx⟩:=hg
  obtain⟨its,rv,p,hz⟩:=I.list hq
  obtain⟨u,hu,ru⟩:=rv.get hx
  obtain⟨f0,f1,f2,f3,f4,f5⟩:=hf it (by simp)
  refine vv st p.isList (x:=u) (by simpa using hu) fun h' st' sb=>?_
  have I1:aX X pins σ H { s with heap:=h' }:=I.turned (t':=s.toks) (fun b o hb e=>(sb.2 b hb).trans e) f0 f1 f3 f4 f5
  obtain⟨o,e,c,d⟩:=id st'
  exact⟨u,rfl,go_of (s:={ s with heap:=h' }) e c d (by decide) ⟨x,H,I1,ru,⟨rfl,fun ys hy=>by rw[I.list_inj hy hq];exact hx⟩,st',fun b hb=>(hf b hb).1⟩⟩
 done:=by
  intro X hP hw hK hc i pins s σ H E I hf st hg
  subst hP hw hK
  obtain⟨xs,hq,hx⟩:=hg
  obtain⟨its,rv,p,hz⟩:=I.list hq
  obtain⟨f0,f1,f2,f3,f4,f5⟩:=hf it (by simp)
  have hl:=rv.length
  exact wj (I.ok.hd hc) st p.isList (by simp;lia) fun h' eb=>⟨rfl,I.turned (t':=s.toks) (fun b o hb e=>eb b o hb e) f0 f1 f3 f4 f5⟩
 self:=fun _ _ _ _ _ st h=>wpAny_pyIter_listiter st h
def aA3{P:Program}{w:World}{K:PySem.W.Frag}{tg:Expr}(a it:Addr):wN P w K tg (Itt K a) [it] it (fun i h=>h.IsTupleIter it a i) where
 mem:=by simp
 obj:=fun i h st b hb=>by
  have e:b=it:=by simpa using hb
  subst e
  obtain⟨o,e,c,d⟩:=st
  exact⟨o,e,fun v z=>by rw[d] at z;cases z⟩
 keep:=fun i h h' st k=>st.at fun o e=>k it (by simp) o e
 item:=by
  intro X hP hw hK hc i pins s σ H E I hf st hg
  subst hP hw hK
  obtain⟨xs,x,hq,hx⟩:=hg
  obtain⟨its,rv,p,hz⟩:=I.tuple hq
  obtain⟨u,hu,ru⟩:=rv.get hx
  obtain⟨f0,f1,f2,f3,f4,f5⟩:=hf it (by simp)
  refine wpAny_pyNext_tuple_item st (show s.heap.IsTuple a its.toArray from p) (x:=u) (by simpa using hu) fun h' st' sb=>?_
  have I1:aX X pins σ H { s with heap:=h' }:=I.turned (t':=s.toks) (fun b o hb e=>(sb.2 b hb).trans e) f0 f1 f3 f4 f5
  obtain⟨o,e,c,d⟩:=id st'
  exact⟨u,rfl,go_of (s:={ s with heap:=h' }) e c d (by decide) ⟨x,H,I1,ru,⟨rfl,fun ys hy=>by rw[I.tuple_inj hy hq];exact hx⟩,st',fun b hb=>(hf b hb).1⟩⟩
 done:=by
  intro X hP hw hK hc i pins s σ H E I hf st hg
  subst hP hw hK
  obtain⟨xs,hq,hx⟩:=hg
  obtain⟨its,rv,p,hz⟩:=I.tuple hq
  obtain⟨f0,f1,f2,f3,f4,f5⟩:=hf it (by simp)
  have hl:=rv.length
  exact wpAny_pyNext_tuple_end (I.ok.hd hc) st (show s.heap.IsTuple a its.toArray from p) (by simp;lia) fun h' eb=>⟨rfl,I.turned (t':=s.toks) (fun b o hb e=>eb b o hb e) f0 f1 f3 f4 f5⟩
 self:=fun _ _ _ _ _ st h=>wpAny_pyIter_tupleiter st h
def aC6{P:Program}{w:World}{K:PySem.W.Frag}{tg:Expr}(it:Addr)(lo:Int)(n:Nat):wN P w K tg (Itr lo n) [it] it (fun i h=>IsRangeIter h it (lo+(i:Nat)*1) ((n:Int)-(i:Nat)) 1) where
 mem:=by simp
 obj:=fun i h st b hb=>by
  have e:b=it:=by simpa using hb
  subst e
  exact⟨_,st,fun v z=>by
   have z':Data.fields _=Data.cell v:=z
   cases z'⟩
 keep:=fun i h h' st k=>k it (by simp) _ st
 item:=by
  intro X hP hw hK hc i pins s σ H E I hf st hg
  subst hP hw hK
  obtain⟨f0,f1,f2,f3,f4,f5⟩:=hf it (by simp)
  have W:=Walks.range (prog:=X.prog) (w:=X.w) (I.ok.hd hc) it lo 1 n
  refine W.item i s _ _ hg st fun v h' tk hv st' kk=>?_
  obtain⟨t,rfl⟩:=hv
  have I1:aX X pins σ H { s with heap:=h',toks:=tk }:=I.turned (fun b o hb e=>kk b o (by simpa using hb) e) f0 f1 f3 f4 f5
  refine⟨_,rfl,go_of (s:={ s with heap:=h',toks:=tk }) (n:="range_iterator") st' rfl rfl (by decide) ⟨.int (lo+i),H,I1,⟨t,?_⟩,⟨rfl,rfl⟩,st',fun b hb=>(hf b hb).1⟩⟩
  rw[Int.mul_one]
 done:=by
  intro X hP hw hK hc i pins s σ H E I hf st hg
  subst hP hw hK
  obtain⟨f0,f1,f2,f3,f4,f5⟩:=hf it (by simp)
  exact wpAny_pyNext_range_end (I.ok.hd hc) st (by have:n<=i:=hg;lia) fun h' eb=>⟨rfl,I.turned (t':=s.toks) (fun b o hb e=>eb b o hb e) f0 f1 f3 f4 f5⟩
 self:=fun _ _ _ _ _ st h=>wpAny_pyIter_rangeiter st h
section
variable {X:Cx}{tg:Expr}
def bX1 (K:PySem.W.Frag)(tl:TE):TI:=fun σ H R=>tl σ H fun x H1=>∃a,x= .ref a/\(∃xs,bJ K H1 a xs)/\R (Itl K a) H1
def cI0 (K:PySem.W.Frag)(tl:TE):TI:=fun σ H R=>tl σ H fun x H1=>∃a,x= .ref a/\(∃xs,aQ K H1 a xs)/\R (Itt K a) H1
def dE (hl:PE X l tl):PI X tg l (bX1 X.K tl):=by
 intro pins s σ H R I h
 refine cV (hl pins s σ H _ I h) ?_;rintro v s1 ⟨x,H1,I1,r1,q1⟩
 obtain⟨a,e,⟨xs,hq⟩,q⟩:=q1
 subst e
 cases r1
 obtain⟨its,rv,p,hz⟩:=I1.list hq
 refine ly p.isList ?_
 refine⟨s1.heap.objs.size,[s1.heap.objs.size],_,_,H1,rfl,I1.kept (t':=s1.toks) fun b o e=>af _ e,aI4 a _,⟨_,bc _ rfl,rfl,rfl⟩,fun b hb=>?_,q⟩
 have e:b=s1.heap.objs.size:=by simpa using hb
 subst e
 exact I1.fpOk (aj _) (I1.hok.fresh (aj _))
def pA (hl:PE X l tl):PI X tg l (cI0 X.K tl):=by
 intro pins s σ H R I h
 refine cV (hl pins s σ H _ I h) ?_;rintro v s1 ⟨x,H1,I1,r1,q1⟩
 obtain⟨a,e,⟨xs,hq⟩,q⟩:=q1
 subst e
 cases r1
 obtain⟨its,rv,p,hz⟩:=I1.tuple hq
 refine oh (show s1.heap.IsTuple a its.toArray from p) ?_
 refine⟨s1.heap.objs.size,[s1.heap.objs.size],_,_,H1,rfl,I1.kept (t':=s1.toks) fun b o e=>af _ e,aA3 a _,⟨_,bc _ rfl,rfl,rfl⟩,fun b hb=>?_,q⟩
 have e:b=s1.heap.objs.size:=by simpa using hb
 subst e
 exact I1.fpOk (aj _) (I1.hok.fresh (aj _))
def aS1 {σ:St}{lo hi}(I:aX X pins σ H s)(h1: -(2^62)<=lo)(h2:lo<2^62)(h3: -(2^62)<=hi)(h4:hi<2^62)(q:R (Itr lo (hi-lo).toNat) H):wpAny (model X.prog X.w) X.A (pyIter (.ref s.heap.objs.size)) (PIE X pins σ tg R) E { s with heap:=s.heap.push { cls:= .type "range",data:= .fields #[.int lo t,.int hi u,.int 1 v] },toks:=tk }:=by
 refine wpAny_pyIter_range (IsRange.new ..) (small_one h1 h2 h3 h4) ?_
 have I1:aX X pins σ H { s with heap:=s.heap.push { cls:= .type "range",data:= .fields #[.int lo t,.int hi u,.int 1 v] },toks:=tk }:=I.kept fun b o e=>af _ e
 refine⟨(s.heap.push { cls:= .type "range",data:= .fields #[.int lo t,.int hi u,.int 1 v] }).objs.size,[(s.heap.push { cls:= .type "range",data:= .fields #[.int lo t,.int hi u,.int 1 v] }).objs.size],_,_,H,rfl,
  I1.kept (t':=tk) fun b o e=>af _ e,aC6 _ lo (hi-lo).toNat,?_,fun b hb=>?_,q⟩
 ·have e1:lo+((0:Nat):Int)*1=lo:=by simp
  have e2:(((hi-lo).toNat:Nat):Int)-((0:Nat):Int)=Builtin.Range.rangeSize lo hi 1:=by rw[rangeSize_one];split<;>lia
  show IsRangeIter _ _ (lo+((0:Nat):Int)*1) ((((hi-lo).toNat:Nat):Int)-((0:Nat):Int)) 1
  rw[e1,e2]
  exact bc _ rfl
 ·have e:b=(s.heap.push { cls:= .type "range",data:= .fields #[.int lo t,.int hi u,.int 1 v] }).objs.size:=by simpa using hb
  subst e
  exact I1.fpOk (aj _) (I1.hok.fresh (aj _))
def cE5 (ta:TA):TI:=fun σ H R=>ta σ H fun vs H1=>∃j:Int,vs=[.int j]/\ -(2^62)<=j/\j<2^62/\R (Itr 0 j.toNat) H1
def iE (hg:Gl X "range")(hm:X.mg "range"=none)(ha:PA X [a] ta)(hs:autoParam (starEach [a] X.env=[(false,eval a X.env)]) Rq0._auto_1):PI X tg (.Call (.Name "range" p) [a] [] pos) (cE5 ta):=by
 intro pins s σ H R I h
 refine Call_ (kR I hg hm boot_range (gq (cV (ha pos pins s σ H _ I h) ?_) hs rfl));rintro us s1 ⟨vs,H1,I1,r1,q1⟩
 obtain⟨j,e,q1,q2,q⟩:=q1
 subst e
 cases r1 with
 |cons r rr =>
  cases rr
  obtain⟨t,rfl⟩:=r
  exact call_range_1 (aS1 I1 (by lia) (by lia) q1 q2 (by simpa using q))
def bZ0 (wi:TI)(g:TG)(tb:TS):TS:=fun D σ H=>wi σ H fun J H1=>∃W:Nat->Nat->St->Hp->Prop,(∃m,W 0 m σ H1)/\∀i m σ H,W i m σ H ->
 (J.stop i H/\D.nx σ H)\/(J.go i H/\∃N:St->Hp->Prop,(∀σ' H',N σ' H'->∃m',m'<m/\W (i+1) m' σ' H')/\∀x H',J.yld i H x H'->g x σ H' fun σ2 H2=>tb { D with nx:=N,ct:=N,bk:=D.nx } σ2 H2)
def iJ (fp:List Addr)(h:Heap):List (Addr×Obj):=fp.filterMap fun b=>(h.get? b).map fun o=>(b,o)
def iO (hb:b∈fp)(e:h.get? b=some o):(b,o)∈iJ fp h:=jh.mpr ⟨b,hb,by rw[e];rfl⟩
def uM (hp:p∈iJ fp h):p.1∈fp/\h.get? p.1=some p.2:=by
 obtain⟨b,hb,e⟩:=jh.mp hp
 cases q:h.get? b with
 |none=>rw[q] at e;cases e
 |some o =>
  rw[q] at e
  have e':(b,o)=p:=cu e
  subst e'
  exact⟨hb,q⟩
def aX.pinned {σ:St}(I:aX X pins σ H s)(hf:∀b∈fp,mB X pins H b)(ho:∀b∈fp,∃o,s.heap.get? b=some o/\∀v,o.data≠ .cell v):aX X (pins++iJ fp s.heap) σ H s:=
 I.pins_of fun p hp=>(bq.mp hp).elim (fun z=>I.pin p (br _ z)) fun z=>by
  obtain⟨hb,e⟩:=uM z
  obtain⟨f0,f1,f2,_⟩:=hf p.1 hb
  obtain⟨o,e',d⟩:=ho p.1 hb
  rw[e] at e';cases e'
  exact⟨e,f0,f1,f2,d⟩
def aX.unpinned {σ:St}(I:aX X (pins++pl) σ H s):aX X pins σ H s:=I.pins_of fun p hp=>I.pin p (br _ (cj _ hp))
def aO6 (hp:PassesOwn (model X.prog X.w) X.A X.env X.xe)(hc:X.calm=true)(hi:PI X tg iter wi)(hg:PG X tg g)(hb:oS X body tb)(hs:autoParam (∀x,foldedSetIterable iter X.env x=pure x) Rq4._auto_1):PS X (.For tg iter body [] pos) (bZ0 wi g tb):=by
 intro pins s σ H D I h
 refine wpAny_For (cV (hi pins s σ H _ I h) fun v s1 h1=>cV h1 fun itv s2 h2=>?_) hs
 obtain⟨it,fp,tn,J,H2,e,I2,T,st2,f2,W,⟨m0,w0⟩,turn⟩:=h2
 subst e
 have stat:∀{H':Hp},(∀b∈fp,H' b=none)->∀b∈fp,mB X pins H' b:=fun hn b hb=>⟨hn b hb,(f2 b hb).2⟩
 refine codeAny_forLoop_any (fun n s'=>∃i σ' H',aX X pins σ' H' s'/\tn i s'.heap/\(∀b∈fp,H' b=none)/\W i n σ' H') ?_ m0 ⟨0,σ,H2,I2,st2,fun b hb=>(f2 b hb).1,w0⟩
 rintro n s3 ⟨i,σ3,H3,I3,st3,fr3,w3⟩
 rcases turn i n σ3 H3 w3 with⟨stop,qn⟩|⟨go,N,hN,step⟩
 ·refine jt hp (cV (T.done X rfl rfl rfl hc i pins s3 σ3 H3 X.xe I3 (stat fr3) st3 stop) ?_);rintro r s4 ⟨hr,I4⟩
  subst hr
  exact nv ⟨σ3,H3,I4,qn⟩
 ·refine jt hp (cV (T.item X rfl rfl rfl hc i pins s3 σ3 H3 X.xe I3 (stat fr3) st3 go) ?_);rintro r s4 ⟨u,hr,h4⟩
  subst hr
  refine jt hp (cV h4 ?_);rintro _ s5 ⟨x,H5,I5,r5,y5,st5,fr5⟩
  have I5':=I5.pinned (stat fr5) (T.obj _ _ st5)
  refine jt hp (cV (hg _ s5 σ3 H5 x u _ I5' r5 (step x H5 y5)) ?_);rintro _ s6 ⟨σ6,H6,I6,q6⟩
  refine jt hp (cV (hb _ s6 σ6 H6 _ I6 q6) fun f s7 q7=>?_)
  have again:∀{σ7:St}{H7:Hp},aX X (pins++iJ fp s5.heap) σ7 H7 s7->N σ7 H7->∃m,m<n/\∃i σ' H',aX X pins σ' H' s7/\tn i s7.heap/\(∀b∈fp,H' b=none)/\W i m σ' H':=fun {σ7 H7} I7 n7=>by
   obtain⟨m',hm,w7⟩:=hN σ7 H7 n7
   refine⟨m',hm,i+1,σ7,H7,I7.unpinned,T.keep _ _ _ st5 fun b hb o e=>(I7.pin (b,o) (br _ (br _ (iO hb e)))).1,fun b hb=>?_,w7⟩
   obtain⟨o,e,d⟩:=T.obj _ _ st5 b hb
   exact(I7.pin (b,o) (br _ (br _ (iO hb e)))).2.1
  cases f with
  |next=>obtain⟨σ7,H7,I7,n7⟩:=q7;exact again I7 n7
  |cont=>obtain⟨σ7,H7,I7,n7⟩:=q7;exact again I7 n7
  |brk=>obtain⟨σ7,H7,I7,q7⟩:=q7;exact⟨σ7,H7,I7.unpinned,q7⟩
  |ret v=>obtain⟨x7,σ7,H7,I7,r7,q7⟩:=q7;exact⟨x7,σ7,H7,I7.unpinned,r7,q7⟩
end
def yK {K}{g:TG}{tb:TS}{D:kF}(Pv:Nat->St->Hp->Prop)(h0:Pv 0 σ H)(hl:∀i σ H,i<=xs.length->Pv i σ H->bJ K H a xs)(hs:∀i x σ H,xs[i]?=some x->Pv i σ H->g x σ H fun σ2 H2=>tb { D with nx:=Pv (i+1),ct:=Pv (i+1),bk:=D.nx } σ2 H2)(hd:∀σ H,Pv xs.length σ H->D.nx σ H):
  ∃W:Nat->Nat->St->Hp->Prop,(∃m,W 0 m σ H)/\∀i m σ H,W i m σ H ->
   ((Itl K a).stop i H/\D.nx σ H)\/((Itl K a).go i H/\∃N:St->Hp->Prop,(∀σ' H',N σ' H'->∃m',m'<m/\W (i+1) m' σ' H')/\∀x H',(Itl K a).yld i H x H'->g x σ H' fun σ2 H2=>tb { D with nx:=N,ct:=N,bk:=D.nx } σ2 H2):=by
 refine⟨fun i m σ H=>m=xs.length-i/\i<=xs.length/\Pv i σ H,⟨xs.length,by simp,bu _,h0⟩,?_⟩
 rintro i m σ H ⟨rfl,hi,p⟩
 have q:=hl i σ H hi p
 by_cases hlt:i<xs.length
 ·refine .inr ⟨⟨xs,xs[i],q,by simp[hlt]⟩,Pv (i+1),fun σ' H' p'=>⟨xs.length-(i+1),fm hlt (ek i),rfl,hlt,p'⟩,fun x H' y=>?_⟩
  obtain⟨e,y⟩:=y
  subst e
  exact hs i x σ _ (y xs q) p
 ·have e:i=xs.length:=by lia
  subst e
  exact .inl ⟨⟨xs,q,aj _⟩,hd σ H p⟩
def bG4 {K}{g:TG}{tb:TS}{D:kF}(Pv:Nat->St->Hp->Prop)(h0:Pv 0 σ H)(hl:∀i σ H,i<=xs.length->Pv i σ H->aQ K H a xs)(hs:∀i x σ H,xs[i]?=some x->Pv i σ H->g x σ H fun σ2 H2=>tb { D with nx:=Pv (i+1),ct:=Pv (i+1),bk:=D.nx } σ2 H2)(hd:∀σ H,Pv xs.length σ H->D.nx σ H):
  ∃W:Nat->Nat->St->Hp->Prop,(∃m,W 0 m σ H)/\∀i m σ H,W i m σ H ->
   ((Itt K a).stop i H/\D.nx σ H)\/((Itt K a).go i H/\∃N:St->Hp->Prop,(∀σ' H',N σ' H'->∃m',m'<m/\W (i+1) m' σ' H')/\∀x H',(Itt K a).yld i H x H'->g x σ H' fun σ2 H2=>tb { D with nx:=N,ct:=N,bk:=D.nx } σ2 H2):=by
 refine⟨fun i m σ H=>m=xs.length-i/\i<=xs.length/\Pv i σ H,⟨xs.length,by simp,bu _,h0⟩,?_⟩
 rintro i m σ H ⟨rfl,hi,p⟩
 have q:=hl i σ H hi p
 by_cases hlt:i<xs.length
 ·refine .inr ⟨⟨xs,xs[i],q,by simp[hlt]⟩,Pv (i+1),fun σ' H' p'=>⟨xs.length-(i+1),fm hlt (ek i),rfl,hlt,p'⟩,fun x H' y=>?_⟩
  obtain⟨e,y⟩:=y
  subst e
  exact hs i x σ _ (y xs q) p
 ·have e:i=xs.length:=by lia
  subst e
  exact .inl ⟨⟨xs,q,aj _⟩,hd σ H p⟩
def oY {lo}{g:TG}{tb:TS}{D:kF}(Pv:Nat->St->Hp->Prop)(h0:Pv 0 σ H)(hs:∀i σ H,i<n->Pv i σ H->g (.int (lo+i)) σ H fun σ2 H2=>tb { D with nx:=Pv (i+1),ct:=Pv (i+1),bk:=D.nx } σ2 H2)(hd:∀σ H,Pv n σ H->D.nx σ H):
  ∃W:Nat->Nat->St->Hp->Prop,(∃m,W 0 m σ H)/\∀i m σ H,W i m σ H ->
   ((Itr lo n).stop i H/\D.nx σ H)\/((Itr lo n).go i H/\∃N:St->Hp->Prop,(∀σ' H',N σ' H'->∃m',m'<m/\W (i+1) m' σ' H')/\∀x H',(Itr lo n).yld i H x H'->g x σ H' fun σ2 H2=>tb { D with nx:=N,ct:=N,bk:=D.nx } σ2 H2):=by
 refine⟨fun i m σ H=>m=n-i/\i<=n/\Pv i σ H,⟨n,by simp,bu _,h0⟩,?_⟩
 rintro i m σ H ⟨rfl,hi,p⟩
 by_cases hlt:i<n
 ·refine .inr ⟨hlt,Pv (i+1),fun σ' H' p'=>⟨n-(i+1),fm hlt (ek i),rfl,hlt,p'⟩,fun x H' y=>?_⟩
  obtain⟨e,y⟩:=y
  subst e y
  exact hs i σ _ hlt p
 ·have e:i=n:=by lia
  subst e
  exact .inl ⟨aj _,hd σ H p⟩
abbrev R2:=V->V->Hp->VK->Prop
def jU (X:Cx)(f:Value->Value->Sem Value)(r:R2):Prop:=
 ∀(pins:List (Addr×Obj)) (s:Shared) (σ:St) (H:Hp) (x y:V) (v u:Value) (Q:VK),aX X pins σ H s->bL x v->bL y u->r x y H Q ->
  wpAny (model X.prog X.w) X.A (f v u) (EP X pins σ Q) X.xe s
def UnR (X:Cx)(f:Value->Sem Value)(r:V->Hp->VK->Prop):Prop:=
 ∀(pins:List (Addr×Obj)) (s:Shared) (σ:St) (H:Hp) (x:V) (v:Value) (Q:VK),aX X pins σ H s->bL x v->r x H Q ->
  wpAny (model X.prog X.w) X.A (f v) (EP X pins σ Q) X.xe s
def eL (X:Cx)(f:Value)(r:List V->Hp->VK->Prop):Prop:=
 ∀(pins:List (Addr×Obj)) (s:Shared) (σ:St) (H:Hp) (xs:List V) (us:List Value) (Q:VK),aX X pins σ H s->bM xs us->r xs H Q ->
  wpAny (model X.prog X.w) X.A (call f us) (EP X pins σ Q) X.xe s
def cI3 (X:Cx)(r:V->Hp->(Bool->Hp->Prop)->Prop):Prop:=
 ∀(pins:List (Addr×Obj)) (s:Shared) (σ:St) (H:Hp) (x:V) (v:Value) (Q:Bool->Hp->Prop),aX X pins σ H s->bL x v->r x H Q ->
  wpAny (model X.prog X.w) X.A (truthy v) (TP X pins σ Q) X.xe s
def tOp (r:R2)(ta tb:TE):TE:=fun σ H Q=>ta σ H fun x H1=>tb σ H1 fun y H2=>r x y H2 Q
def tUn (r:V->Hp->VK->Prop)(ta:TE):TE:=fun σ H Q=>ta σ H fun x H1=>r x H1 Q
inductive rI(C:Int->Int->Prop)(g:Int->Int->V)(x y:V)(H:Hp)(Q:VK):Prop
 |mk:∀i j,x= .int i->y= .int j->C i j->Q (g i j) H->rI C g x y H Q
inductive rI0(g:Int->Int->V)(x y:V)(H:Hp)(Q:VK):Prop
 |mk:∀i j,x= .int i->y= .int j->Q (g i j) H->rI0 g x y H Q
inductive rU(g:Int->V)(x:V)(H:Hp)(Q:VK):Prop
 |mk:∀i,x= .int i->Q (g i) H->rU g x H Q
section
variable {X:Cx}{a b c:Expr}{ta tb tc:TE}{pos:Pos}
def bW4 (ha:PE X a ta)(hb:PE X b tb){σ:St}{R:V->V->Hp->Prop}(I:aX X pins σ H s)(h:ta σ H fun x H1=>tb σ H1 fun y H2=>R x y H2){f:Value->Value->Sem Value}(hf:∀v u s2 x y H2,aX X pins σ H2 s2->bL x v->bL y u->R x y H2->wpAny (model X.prog X.w) X.A (f v u) Q X.xe s2):
  wpAny (model X.prog X.w) X.A (eval a X.env) (fun v s₁=>wpAny (model X.prog X.w) X.A (eval b X.env) (fun u s₂=>wpAny (model X.prog X.w) X.A (f v u) Q X.xe s₂) X.xe s₁) X.xe s:=by
 refine cV (ha pins s σ H _ I h) ?_;rintro v s1 ⟨x,H1,I1,r1,q1⟩
 refine cV (hb pins s1 σ H1 _ I1 q1) ?_;rintro u s2 ⟨y,H2,I2,r2,q2⟩
 exact hf v u s2 x y H2 I2 r1 r2 q2
def aP (ho:jU X (binaryOp op) r)(ha:PE X a ta)(hb:PE X b tb):PE X (.BinOp a op b pos) (tOp r ta tb):=by
 intro pins s σ H Q I h
 exact wpAny_BinOp (bW4 ha hb I h fun v u s2 x y H2 I2 rx ry q=>ho pins s2 σ H2 x y v u Q I2 rx ry q)
def aN0 (ho:UnR X (unaryOp op) r)(ha:PE X a ta):PE X (.UnaryOp op a pos) (tUn r ta):=by
 intro pins s σ H Q I h
 refine UnaryOp_ (cV (ha pins s σ H _ I h) ?_);rintro v s1 ⟨x,H1,I1,r1,q1⟩;exact ho pins s1 σ H1 x v Q I1 r1 q1
def opI {g:Int->Int->Int}(rule:∀i j (t u) (s) (Q) (E),C i j->Q (.int (g i j) s.toks) { s with toks:=s.toks+1 }->wpAny (model X.prog X.w) X.A (f (.int i t) (.int j u)) Q E s):
  jU X f (rI C fun i j=> .int (g i j)):=by
 intro pins s σ H x y v u Q I rx ry h
 obtain⟨i,j,rfl,rfl,hc,q⟩:=h
 obtain⟨t,rfl⟩:=rx
 obtain⟨t',rfl⟩:=ry
 exact rule i j t t' s _ _ hc ⟨.int (g i j),H,I.tok _,⟨_,rfl⟩,q⟩
def bX8 {g:Int->Int->Int}(rule:∀i j (t u) (s) (Q) (E),Q (.int (g i j) s.toks) { s with toks:=s.toks+1 }->wpAny (model X.prog X.w) X.A (f (.int i t) (.int j u)) Q E s):
  jU X f (rI0 fun i j=> .int (g i j)):=by
 intro pins s σ H x y v u Q I rx ry h
 obtain⟨i,j,rfl,rfl,q⟩:=h
 obtain⟨t,rfl⟩:=rx
 obtain⟨t',rfl⟩:=ry
 exact rule i j t t' s _ _ ⟨.int (g i j),H,I.tok _,⟨_,rfl⟩,q⟩
def bH2 {g:Int->Int->Bool}(rule:∀i j (t u) (s) (Q) (E),Q (.bool (g i j)) s->wpAny (model X.prog X.w) X.A (f (.int i t) (.int j u)) Q E s):
  jU X f (rI0 fun i j=> .bl (g i j)):=by
 intro pins s σ H x y v u Q I rx ry h
 obtain⟨i,j,rfl,rfl,q⟩:=h
 obtain⟨t,rfl⟩:=rx
 obtain⟨t',rfl⟩:=ry
 exact rule i j t t' s _ _ ⟨.bl (g i j),H,I,rfl,q⟩
def cH1 (i j:Int):Prop:=0<=j/\j<=1000000/\i.natAbs<2^64
def bP2 (i j:Int):Prop:=(-(2^64)<i/\i<2^64)\/(-(2^64)<j/\j<2^64)
def bP2.ok (h:bP2 i j):IntMulOk i j:=by
 rcases h with⟨h1,h2⟩|⟨h1,h2⟩
 ·exact .of_left (intBits_le_64 h1 h2)
 ·exact .of_right (intBits_le_64 h1 h2)
def dF:jU X (binaryOp .Add) (rI0 fun i j=> .int (i+j)):=bX8 fun _ _ _ _ _ _ _ q=>add_int q
def jW:jU X (binaryOp .Sub) (rI0 fun i j=> .int (i-j)):=bX8 fun _ _ _ _ _ _ _ q=>sub_int q
def iL:jU X (binaryOp .Mult) (rI bP2 fun i j=> .int (i*j)):=opI fun _ _ _ _ _ _ _ hc q=>mul_int q hc.ok
def iI:jU X (binaryOp .Mod) (rI (fun _ j=>0<j) fun i j=> .int (i % j)):=opI fun i j _ _ _ _ _ hc q=>by
 have h1:(0:Int)<j:=hc
 exact mod_int' (by lia) (by rw[Int.fmod_eq_emod_of_nonneg i (by lia)];exact q)
def bT3:jU X (binaryOp .Pow) (rI cH1 fun i j=> .int (i^j.toNat)):=opI fun _ _ _ _ _ _ _ hc q=>pow_int_small hc.1 hc.2.1 hc.2.2 q
def unI {g:Int->Int}(rule:∀i (t) (s) (Q) (E),Q (.int (g i) s.toks) { s with toks:=s.toks+1 }->wpAny (model X.prog X.w) X.A (f (.int i t)) Q E s):
  UnR X f (rU fun i=> .int (g i)):=by
 intro pins s σ H x v Q I rx h
 obtain⟨i,rfl,q⟩:=h
 obtain⟨t,rfl⟩:=rx
 exact rule i t s _ _ ⟨.int (g i),H,I.tok _,⟨_,rfl⟩,q⟩
def aA5:UnR X (unaryOp .USub) (rU fun i=> .int (-i)):=unI fun _ _ _ _ _ q=>neg_int q
end
def cE6:V->V->Bool
 |.non,.non=>true | .non,.int _=>true | .int _,.non=>true | .non,.bl _=>true | .bl _,.non=>true | .non,.str _=>true | .str _,.non=>true
 |.int _,.int _=>true | .bl _,.bl _=>true | .str _,.str _=>true | .byt _,.byt _=>true
 |.int _,.str _=>true | .str _,.int _=>true | .bl _,.str _=>true | .str _,.bl _=>true
 |_,_=>false
def rEq:R2:=fun x y H Q=>cE6 x y=true/\Q (.bl (decide (x=y))) H
def rNe:R2:=fun x y H Q=>cE6 x y=true/\Q (.bl (!decide (x=y))) H
def aG1:decide (V.int i=V.int j)=(i==j):=by
 rw[ig]
 simp
def aT9:decide (V.bl i=V.bl j)=(i==j):=by
 rw[ig]
 simp
def aI0:decide (V.str i=V.str j)=(i==j):=by
 rw[ig]
 simp
def aE7:decide (V.byt i=V.byt j)=(i.toList==j.toList):=by
 rw[ig]
 cases i
 cases j
 simp
section
variable {X:Cx}{a b c:Expr}{ta tb tc:TE}{pos:Pos}
def cD {σ:St}(I:aX X pins σ H s)(q:Q (.bl k) H)(e:k=k'):EP X pins σ Q (.bool k') s:=by
 subst e
 exact⟨.bl k,H,I,rfl,q⟩
def bO:jU X (compareOp .Eq) rEq:=by
 intro pins s σ H x y v u Q I rx ry h
 obtain⟨hs,q⟩:=h
 cases x with
 |non =>
  cases rx
  cases y with
  |non=>cases ry;exact PySem.EqNone.eq_none_none (cD I q (by simp))
  |bl j=>cases ry;exact PySem.EqNone.eq_none_bool (cD I q (by simp))
  |int j=>obtain⟨t',rfl⟩:=ry;exact PySem.EqNone.eq_none_int (cD I q (by simp))
  |str j=>obtain⟨t',rfl⟩:=ry;exact PySem.EqNone.eq_none_str (cD I q (by simp))
  |_=>exact absurd (show false=true from hs) bh
 |bl i =>
  cases rx
  cases y with
  |non=>cases ry;exact PySem.EqNone.eq_bool_none (cD I q (by simp))
  |bl j=>cases ry;exact eq_bool (cD I q aT9)
  |str j=>obtain⟨t',rfl⟩:=ry;exact PySem.EqMixed.eq_bool_str (cD I q (by simp))
  |_=>exact absurd (show false=true from hs) bh
 |int i =>
  obtain⟨t,rfl⟩:=rx
  cases y with
  |non=>cases ry;exact PySem.EqNone.eq_int_none (cD I q (by simp))
  |int j=>obtain⟨t',rfl⟩:=ry;exact eq_int (cD I q aG1)
  |str j=>obtain⟨t',rfl⟩:=ry;exact PySem.EqMixed.eq_int_str (cD I q (by simp))
  |_=>exact absurd (show false=true from hs) bh
 |str i =>
  obtain⟨t,rfl⟩:=rx
  cases y with
  |non=>cases ry;exact PySem.EqNone.eq_str_none (cD I q (by simp))
  |bl j=>cases ry;exact PySem.EqMixed.eq_str_bool (cD I q (by simp))
  |int j=>obtain⟨t',rfl⟩:=ry;exact PySem.EqMixed.eq_str_int (cD I q (by simp))
  |str j=>obtain⟨t',rfl⟩:=ry;exact eq_str (cD I q aI0)
  |_=>exact absurd (show false=true from hs) bh
 |byt i =>
  obtain⟨t,rfl⟩:=rx
  cases y with
  |byt j=>obtain⟨t',rfl⟩:=ry;exact PySem.W.eq_bytes (cD I q aE7)
  |_=>exact absurd (show false=true from hs) bh
 |_=>cases y<;>exact absurd (show false=true from hs) bh
def qU:jU X (compareOp .NotEq) rNe:=by
 intro pins s σ H x y v u Q I rx ry h
 obtain⟨hs,q⟩:=h
 cases x with
 |non =>
  cases rx
  cases y with
  |non=>cases ry;exact PySem.EqNone.ne_none_none (cD I q (by simp))
  |bl j=>cases ry;exact PySem.EqNone.ne_none_bool (cD I q (by simp))
  |int j=>obtain⟨t',rfl⟩:=ry;exact PySem.EqNone.ne_none_int (cD I q (by simp))
  |str j=>obtain⟨t',rfl⟩:=ry;exact PySem.EqNone.ne_none_str (cD I q (by simp))
  |_=>exact absurd (show false=true from hs) bh
 |bl i =>
  cases rx
  cases y with
  |non=>cases ry;exact PySem.EqNone.ne_bool_none (cD I q (by simp))
  |bl j=>cases ry;exact ne_bool (cD I q (ej not aT9))
  |str j=>obtain⟨t',rfl⟩:=ry;exact PySem.EqMixed.ne_bool_str (cD I q (by simp))
  |_=>exact absurd (show false=true from hs) bh
 |int i =>
  obtain⟨t,rfl⟩:=rx
  cases y with
  |non=>cases ry;exact PySem.EqNone.ne_int_none (cD I q (by simp))
  |int j=>obtain⟨t',rfl⟩:=ry;exact ne_int (cD I q (ej not aG1))
  |str j=>obtain⟨t',rfl⟩:=ry;exact PySem.EqMixed.ne_int_str (cD I q (by simp))
  |_=>exact absurd (show false=true from hs) bh
 |str i =>
  obtain⟨t,rfl⟩:=rx
  cases y with
  |non=>cases ry;exact PySem.EqNone.ne_str_none (cD I q (by simp))
  |bl j=>cases ry;exact PySem.EqMixed.ne_str_bool (cD I q (by simp))
  |int j=>obtain⟨t',rfl⟩:=ry;exact PySem.EqMixed.ne_str_int (cD I q (by simp))
  |str j=>obtain⟨t',rfl⟩:=ry;exact ne_str (cD I q (ej not aI0))
  |_=>exact absurd (show false=true from hs) bh
 |byt i =>
  obtain⟨t,rfl⟩:=rx
  cases y with
  |byt j=>obtain⟨t',rfl⟩:=ry;exact PySem.W.ne_bytes (cD I q (ej not aE7))
  |_=>exact absurd (show false=true from hs) bh
 |_=>cases y<;>exact absurd (show false=true from hs) bh
def kU:jU X (compareOp .Lt) (rI0 fun i j=> .bl (decide (i<j))):=bH2 fun _ _ _ _ _ _ _ q=>lt_int q
def rQ:jU X (compareOp .LtE) (rI0 fun i j=> .bl (decide (i<=j))):=bH2 fun _ _ _ _ _ _ _ q=>le_int q
def jB:jU X (compareOp .Gt) (rI0 fun i j=> .bl (decide (j<i))):=bH2 fun _ _ _ _ _ _ _ q=>gt_int q
def bA4:jU X (compareOp .GtE) (rI0 fun i j=> .bl (decide (j<=i))):=bH2 fun _ _ _ _ _ _ _ q=>ge_int q
def uY:jU X (compareOp .In) (fun x y H Q=>∃i j,x= .str i/\y= .str j/\Q (.bl (!(Builtin.Str.occurrences j i 0 j.length 1).isEmpty)) H):=by
 intro pins s σ H x y v u Q I rx ry h
 obtain⟨i,j,rfl,rfl,q⟩:=h
 obtain⟨t,rfl⟩:=rx
 obtain⟨t',rfl⟩:=ry
 exact in_str (cD I q rfl)
def pF (b)(h:autoParam (op≠ .In) Rq1._auto_1)(h2:autoParam (op≠ .NotIn) Rq1._auto_1):behindInMarks op b=false:=by
 have e1:(op==CmpOp.In)=false:=by cases op<;>first|rfl|exact absurd rfl h
 have e2:(op==CmpOp.NotIn)=false:=by cases op<;>first|rfl|exact absurd rfl h2
 cases b<;>simp[behindInMarks,e1,e2]
def bH1 (ho:jU X (compareOp op) r)(ha:PE X a ta)(hb:PE X b tb)(hm:behindInMarks op b=false):PE X (.Compare a [op] [b] pos) (tOp r ta tb):=by
 intro pins s σ H Q I h
 exact wpAny_Compare1 (bW4 ha hb I h fun v u s2 x y H2 I2 rx ry q=>ho pins s2 σ H2 x y v u Q I2 rx ry q) hm
def aM7 (t:TE):TT:=fun σ H Q=>t σ H fun x H'=>BlK x fun k=>Q k H'
def nK (ho:jU X (compareOp op) r)(ha:PE X a ta)(hb:PE X b tb)(hm:behindInMarks op b=false):PT X (.Compare a [op] [b] pos) (aM7 (tOp r ta tb)):=by
 intro pins s σ H Q I h
 refine wc (cV (ha pins s σ H _ I h) fun v s1 ⟨x,H1,I1,r1,q1⟩=>cV (hb pins s1 σ H1 _ I1 q1) fun u s2 ⟨y,H2,I2,r2,q2⟩ =>
  cV (ho pins s2 σ H2 x y v u _ I2 r1 r2 q2) fun c s3 ⟨z,H3,I3,r3,k,e,q3⟩=>?_) hm
 subst e
 cases r3
 exact fc ⟨H3,I3,q3⟩
def bB4 (r r':R2)(ta tb tc:TE):TE:=fun σ H Q=>ta σ H fun x H1=>tb σ H1 fun y H2=>r x y H2 fun z H3=>∃k,z= .bl k /\
 (if k=true then tc σ H3 fun w' H4=>r' y w' H4 Q else Q (.bl false) H3)
def aO4 (ho:jU X (compareOp op) r)(ho':jU X (compareOp op') r')(ha:PE X a ta)(hb:PE X b tb)(hc:PE X c tc)(hm:autoParam (lastMarks [op,op'] [b,c]=false) Rq10._auto_1):PE X (.Compare a [op,op'] [b,c] pos) (bB4 r r' ta tb tc):=by
 intro pins s σ H Q I h
 refine Compare_chain (cV (ha pins s σ H _ I h) fun v s1 ⟨x,H1,I1,r1,q1⟩=>chain_link (cV (hb pins s1 σ H1 _ I1 q1) fun u s2 ⟨y,H2,I2,r2,q2⟩ =>
  cV (ho pins s2 σ H2 x y v u _ I2 r1 r2 q2) fun d s3 ⟨z,H3,I3,r3,k,e,q3⟩=>?_)) hm
 subst e
 cases r3
 refine fc ?_
 cases k with
 |false=>exact ite_ff ⟨.bl false,H3,I3,rfl,q3⟩
 |true=>refine ite_tt (chain_last (cV (hc pins s3 σ H3 _ I3 q3) ?_));rintro w' s4 ⟨z',H4,I4,r4,q4⟩;exact ho' pins s4 σ H4 y z' u w' Q I4 r2 r4 q4
def rR (ho:jU X (compareOp op) r)(ho':jU X (compareOp op') r')(ha:PE X a ta)(hb:PE X b tb)(hc:PE X c tc)(hm:autoParam (lastMarks [op,op'] [b,c]=false) Rq10._auto_1):PT X (.Compare a [op,op'] [b,c] pos) (aM7 (bB4 r r' ta tb tc)):=by
 intro pins s σ H Q I h
 refine isTrue_chain (cV (ha pins s σ H _ I h) fun v s1 ⟨x,H1,I1,r1,q1⟩=>test_link (cV (hb pins s1 σ H1 _ I1 q1) fun u s2 ⟨y,H2,I2,r2,q2⟩ =>
  cV (ho pins s2 σ H2 x y v u _ I2 r1 r2 q2) fun d s3 ⟨z,H3,I3,r3,k,e,q3⟩=>?_)) hm
 subst e
 cases r3
 refine fc ?_
 cases k with
 |false =>
  obtain⟨k',e',q'⟩:=q3
  cases e'
  exact ite_ff ⟨H3,I3,q'⟩
 |true =>
  refine ite_tt (test_last (cV (hc pins s3 σ H3 _ I3 q3) ?_));rintro w' s4 ⟨z',H4,I4,r4,q4⟩;refine cV (ho' pins s4 σ H4 y z' u w' _ I4 r2 r4 q4) ?_;rintro d' s5 ⟨z2,H5,I5,r5,k2,e2,q5⟩
  subst e2
  cases r5
  exact fc ⟨H5,I5,q5⟩
def cB7 (K:PySem.W.Frag)(x:V)(H:Hp)(k:Bool):Prop:=
 match x with
 |.non=>k=false
 |.bl b=>k=b
 |.int i=>k=(i != 0)
 |.str y=>y.length<=sizeLine/\k=((y.length:Int) != 0)
 |.byt y=>y.size<=sizeLine/\k=((y.size:Int) != 0)
 |.ref p=>(∃xs,bJ K H p xs/\k= !xs.isEmpty)\/(∃xs,aQ K H p xs/\k= !xs.isEmpty)\/∃kvs,H p=some (.dK kvs)/\k= !kvs.isEmpty
 |_=>False
def aD2 (r:KV kvs vs):(!vs.isEmpty)= !kvs.isEmpty:=by
 cases r<;>rfl
def rJ (r:bM xs its):(!its.toArray.isEmpty)= !xs.isEmpty:=by
 cases r<;>simp
def lI:(sizeLine)<2^63:=by rw[lm];decide
def bO6:cI3 X (fun x H Q=>∃k,cB7 X.K x H k/\Q k H):=by
 intro pins s σ H x v Q I rx h
 obtain⟨k,e,q⟩:=h
 have hl:=lI
 have hs:sizeLine=16777216:=lm
 cases x with
 |non =>
  cases rx
  have e':k=false:=e
  subst e'
  exact truthy_none ⟨H,I,q⟩
 |bl b =>
  cases rx
  have e':k=b:=e
  subst e'
  exact fc ⟨H,I,q⟩
 |int i =>
  obtain⟨t,rfl⟩:=rx
  have e':k=(i != 0):=e
  subst e'
  exact PySem.P.truthy_int ⟨H,I,q⟩
 |str y =>
  obtain⟨t,rfl⟩:=rx
  obtain⟨hy,e'⟩:y.length<=sizeLine/\k=((y.length:Int) != 0):=e
  subst e'
  exact PySem.P.truthy_str (by lia) ⟨H,I.tok _,q⟩
 |byt y =>
  obtain⟨t,rfl⟩:=rx
  obtain⟨hy,e'⟩:y.size<=sizeLine/\k=((y.size:Int) != 0):=e
  subst e'
  exact PySem.W.truthy_bytes (by lia) ⟨H,I.tok _,q⟩
 |ref p =>
  cases rx
  have e':(∃xs,bJ X.K H p xs/\k= !xs.isEmpty)\/(∃xs,aQ X.K H p xs/\k= !xs.isEmpty)\/∃kvs,H p=some (.dK kvs)/\k= !kvs.isEmpty:=e
  rcases e' with⟨xs,hx,e'⟩|⟨xs,hx,e'⟩|⟨kvs,hx,e'⟩
  ·subst e'
   obtain⟨its,r,pl,hz⟩:=I.list hx
   have hlen:=r.length
   exact wpAny_truthy_list pl.isList (by simp only[List.size_toArray];lia) ⟨H,I.tok _,by rw[rJ r];exact q⟩
  ·subst e'
   obtain⟨its,r,pl,hz⟩:=I.tuple hx
   have hlen:=r.length
   exact truthy_tuple pl (by simp only[List.size_toArray];lia) ⟨H,I.tok _,by rw[rJ r];exact q⟩
  ·subst e'
   obtain⟨hz,hS,vs,r,m⟩:kvs.length<=sizeLine/\(p==sysModules)=false/\∃vs,KV kvs vs/\s.heap.DictOf (aZ X.prog X.w) p vs:=I.hok p _ hx
   have hlen:kvs.length=vs.length:=gg r
   exact wpAny_truthy_dict hS m (by lia) ⟨H,I.tok _,by rw[aD2 r];exact q⟩
 |_=>exact(show False from e).elim
def rZ (ha:PE X a ta)(he:∀whole,isTrue a X.env whole=(do let v <-whole;standAt a.pos;holding [v] (truthy v))):
  PT X a (fun σ H Q=>ta σ H fun x H'=>∃k,cB7 X.K x H' k/\Q k H'):=by
 intro pins s σ H Q I h
 refine isTrue_plain (cV (ha pins s σ H _ I h) ?_) (he _);rintro v s1 ⟨x,H1,I1,r1,q1⟩;exact bO6 pins s1 σ H1 x v Q I1 r1 q1
def kB:jU X (binaryOp .Add) (fun x y H Q=>∃i j,x= .str i/\y= .str j/\i.length+j.length<=sizeLine/\Q (.str (i++j)) H):=by
 intro pins s σ H x y v u Q I rx ry h
 obtain⟨i,j,rfl,rfl,hz,q⟩:=h
 obtain⟨t,rfl⟩:=rx
 obtain⟨t',rfl⟩:=ry
 exact add_str (fun t' tk=>⟨.str (i++j),H,I.tok _,⟨_,rfl⟩,q⟩) hz
def gP (r:bM [x] us):∃u,us=[u]/\bL x u:=by
 cases r with
 |cons r1 r2=>cases r2;exact⟨_,rfl,r1⟩
def tQ (r:bM [x,y] us):∃u w',us=[u,w']/\bL x u/\bL y w':=by
 cases r with
 |cons r1 r2 =>
  cases r2 with
  |cons r3 r4=>cases r4;exact⟨_,_,rfl,r1,r3⟩
def uQ (hc:X.calm=true):eL X (.builtin "max") (fun xs H Q=>∃i j,xs=[.int i,.int j]/\Q (.int (if j > i then j else i)) H):=by
 intro pins s σ H xs us Q I r h
 obtain⟨i,j,rfl,q⟩:=h
 obtain⟨u,w',rfl,⟨t,rfl⟩,⟨t',rfl⟩⟩:=tQ r
 refine max_two_ints (I.ok.hd hc) fun h' tk k=>⟨_,H,I.kept k,?_,q⟩
 by_cases hj:j > i
 ·rw[bb hj,bb hj];exact⟨_,rfl⟩
 ·rw[au hj,au hj];exact⟨_,rfl⟩
def lW:eL X (.type "int") (fun xs H Q=>(∃i,xs=[.int i]/\Q (.int i) H)\/∃k,xs=[.bl k]/\Q (.int (if k then 1 else 0)) H):=by
 intro pins s σ H xs us Q I r h
 rcases h with⟨i,rfl,q⟩|⟨k,rfl,q⟩
 ·obtain⟨u,rfl,t,rfl⟩:=gP r
  exact call_int_int ⟨.int i,H,I,⟨_,rfl⟩,q⟩
 ·obtain⟨u,rfl,r1⟩:=gP r
  cases r1
  exact call_int_bool ⟨.int (if k then 1 else 0),H,I.tok _,⟨_,rfl⟩,q⟩
end
structure bT0(h:Heap)(x dx C:Addr)(mA:Str->Option Value):Prop where
 obj:h.get? x=some (PySem.W.instObj C dx)
 ns:h.Ns1 dx mA
 ne:dx≠x
def uJ {h:Heap}(n:h.Ns1 dx mA):∃od,h.get? dx=some od/\∀name,PySem.W.lookIn name od=some (mA name):=by
 obtain⟨o,es,ep,ho,hd,hk,_,hm⟩:=n
 refine⟨o,ho,fun name=>?_⟩
 have e:=hm name
 unfold nsFind findBy at e
 rw[<-xz] at e
 unfold PySem.W.lookIn
 rw[hd]
 dsimp only
 split
 ·rename_i y q
  rw[q] at e
  exact ej some e
 ·rename_i q
  rw[q] at e
  have a:es.toList.any (·.refKey)=false:=by
   rw[List.any_eq_false]
   intro y hy
   obtain⟨z,t,hkey⟩:=hk y (Array.mem_toList_iff.mp hy)
   simp[DictEntry.refKey,hkey]
  have a':¬es.toList.any (·.refKey)=true:=by rw[a];exact bh
  rw[au a']
  exact ej some e
def bT0.look (I:bT0 h x dx C mA):∃od,PySem.W.InstAt h x (PySem.W.instObj C dx) C (some od)/\∀name,PySem.W.lookIn name od=some (mA name):=by
 obtain⟨od,ho,hl⟩:=uJ I.ns
 exact⟨od,⟨I.obj,rfl,rfl,ho⟩,hl⟩
section
variable {prog:Program}{w:World}{A:Around}{E:Value->Shared->Prop}{s:Shared}{K:PySem.W.Frag}{x dx C f:Addr}{mA:Str->Option Value}{name:Str}{v:Value}
end
def jN.some_of (r:jN (some v) o):∃u,o=some u/\bL v u:=by
 cases o with
 |none=>exact(show False from r).elim
 |some u=>exact⟨u,rfl,r⟩
def jN.none_of (r:jN none o):o=none:=by
 cases o with
 |none=>rfl
 |some u=>exact(show False from r).elim
section
variable {P:Program}{w:World}{H H':Hp}{h h':Heap}{a C dx:Addr}{fs fs':List (Str×V)}
def bG5 (hok:jY P w H h)(e:H a=some (.ins C dx fs)):∃mA,bT0 h a dx C mA/\(∀f,jN (fs.lookup f) (mA f))/\PySem.Within mA (fs.map (·.1))/\fs.length<=1000/\H dx=some (.own a):=by
 obtain⟨d,z,ne,ob,mA,n,r,q⟩:=(show bZ P w H h a (.ins C dx fs) from hok a _ e)
 exact⟨mA,⟨ob,n,ne⟩,r,q,z,d⟩
end
structure Cls(K:PySem.W.Frag)(C:Addr):Prop where
 pg:PySem.W.plainGet K C Str.empty=true
 hd:PySem.W.hasDictIn K C=true
 po:PySem.W.plainOver K C=true
 sa:PySem.W.findIn K (.ref C) "__setattr__"=some (some (.builtin "object.__setattr__"))
def Cls.get {K}(c:Cls K C)(f):PySem.W.plainGet K C f=true:=c.pg
section
variable {X:Cx}{pins:List (Addr×Obj)}{σ:St}{H:Hp}{s:Shared}{a C dx:Addr}{fs:List (Str×V)}{f:Str}{v:V}{A:Around}{E:Value->Shared->Prop}
end
section
variable {X:Cx}{o e value:Expr}{f:Str}{pos pos' tpos:Pos}{ta tv:TE}
end
section
variable {X:Cx}{pins:List (Addr×Obj)}{σ:St}{H:Hp}{s:Shared}{A:Around}{E Q:Value->Shared->Prop}{c:Value}{b:Bool}
inductive pE(K:PySem.W.Frag)(H:Hp):V->Value->Prop where
 |non:pE K H .non (.type "NoneType")
 |bl (x:Bool):pE K H (.bl x) (.type "bool")
 |int (i:Int):pE K H (.int i) (.type "int")
 |str (x:Str):pE K H (.str x) (.type "str")
 |flt (x:UInt64):pE K H (.flt x) (.type "float")
 |lst {a:Addr}{xs:List V}(e:H a=some (.lst xs)):pE K H (.ref a) (.type "list")
 |frz {a:Addr}{o:Obj}{xs:List V}(e:H a=some (.frz o (.lst xs))):pE K H (.ref a) (.type "list")
 |tup {a:Addr}{xs:List V}(e:H a=some (.tup xs)):pE K H (.ref a) (.type "tuple")
 |dK {a:Addr}{kvs:List (Key×V)}(e:H a=some (.dK kvs)):pE K H (.ref a) (.type "dict")
 |dT {a:Addr}{kvs:List (List Key×V)}(e:H a=some (.dT kvs)):pE K H (.ref a) (.type "dict")
 |ins {a C dx:Addr}{fs:List (Str×V)}(e:H a=some (.ins C dx fs)) (cl:Cls K C) (ha:PySem.W.findIn K (.ref C) "__class__"=some (some (.builtin "object.__class__")))
   (hn:PySem.W.specialIn K (.builtin "object.__class__") "__get__"=some (some (.builtin "getset_descriptor.__get__"))) (htk:PySem.W.takesIn K (.builtin "object.__class__")=some true)
   (hm:PySem.W.mroIn K C (.type "object")=some true):pE K H (.ref a) (.ref C)
def aM2 (I:aX X pins σ H s)(rx:bL x u)(ty:pE X.K H x t)(e:PySem.W.kitOne X.K t c=some b)(h:∀tk,Q (.bool b) { s with toks:=tk }):
  wpAny (model X.prog X.w) A (call (.builtin "isinstance") [u,c]) Q E s:=by
 cases ty with
 |non=>cases(show u=Value.none from rx);exact fk PySem.W.kitx_none I.kIn iy e (fun z=>nomatch z) h
 |bl y=>cases(show u=Value.bool y from rx);exact fk PySem.W.kitx_bool I.kIn iy e (fun z=>nomatch z) h
 |int i=>obtain⟨t,q⟩:=(show ∃t,u=Value.int i t from rx);cases q;exact fk PySem.W.kitx_int I.kIn iy e (fun z=>nomatch z) h
 |str y=>obtain⟨t,q⟩:=(show ∃t,u=Value.str y t from rx);cases q;exact fk PySem.W.kitx_str I.kIn iy e (fun z=>nomatch z) h
 |flt y=>obtain⟨t,q⟩:=(show ∃t,u=Value.float y t from rx);cases q;exact fk PySem.W.kitx_float I.kIn iy e (fun z=>nomatch z) h
 |@lst a xs ea =>
  cases(show u=Value.ref a from rx)
  obtain⟨_,_,n,_,h1⟩:=(show bZ X.prog X.w H s.heap a (.lst xs) from I.hok a _ ea)
  exact fk yt I.kIn ⟨_,h1,rfl⟩ e (fun z=>nomatch z) h
 |@frz a ob xs ea =>
  cases(show u=Value.ref a from rx)
  obtain⟨_,_,_,n,_,h1⟩:=(show bZ X.prog X.w H s.heap a (.frz ob (.lst xs)) from I.hok a _ ea)
  exact fk yt I.kIn ⟨_,h1,rfl⟩ e (fun z=>nomatch z) h
 |@tup a xs ea =>
  cases(show u=Value.ref a from rx)
  obtain⟨_,_,_,p⟩:=(show bZ X.prog X.w H s.heap a (.tup xs) from I.hok a _ ea)
  obtain⟨o,h1,h2,_⟩:=p
  exact fk PySem.W.kitx_tuple I.kIn ⟨o,h1,h2⟩ e (fun z=>nomatch z) h
 |@dK a kvs ea =>
  cases(show u=Value.ref a from rx)
  obtain⟨_,_,vs,_,p⟩:=(show bZ X.prog X.w H s.heap a (.dK kvs) from I.hok a _ ea)
  obtain⟨o,es,ep,h1,h2,_⟩:=p
  exact fk yu I.kIn ⟨o,h1,h2.1⟩ e (fun z=>nomatch z) h
 |@dT a kvs ea =>
  cases(show u=Value.ref a from rx)
  obtain⟨_,_,xs,_,o,es,ep,h1,h2,_⟩:=(show bZ X.prog X.w H s.heap a (.dT kvs) from I.hok a _ ea)
  exact fk yu I.kIn ⟨o,h1,h2.1⟩ e (fun z=>nomatch z) h
 |@ins a C dx fs ea cl ha hn htk hm =>
  cases(show u=Value.ref a from rx)
  obtain⟨mA,O,_⟩:=bG5 I.hok ea
  obtain⟨od,J,_⟩:=O.look
  exact fk (PySem.W.kitx_own (cl.get _) cl.hd ha hn htk hm) I.kIn J e (fun z=>nomatch z) h
end
structure dL(k:Nat)(A:Around):Prop where
 hd:A.handled=none
 dp:A.depth+3*k+5<recursionLimit
 un:A.units+16*k+200<cLine
 gd:A.guards=some []
def dL.mono (r:dL k A)(h:j<=k):dL j A:=⟨r.hd,by have:=r.dp;lia,by have:=r.un;lia,r.gd⟩
def dL.deeper (r:dL (k+1) A)(env):dL k (A.deeper env):=
 ⟨r.hd,by have:=r.dp;show A.depth+1+3*k+5<_;lia,by have:=r.un;show A.units+3+16*k+200<_;lia,r.gd⟩
def dL.depth (r:dL k A):A.depth<recursionLimit:=by have:=r.dp;lia
def dL.units (r:dL k A):A.units+64<cLine:=by have:=r.un;lia
def tNil:TA:=fun _ H Q=>Q [] H
def kG (ta:TE)(tr:TA):TA:=fun σ H Q=>ta σ H fun x H1=>tr σ H1 fun xs H2=>Q (x::xs) H2
section
variable {X:Cx}{e:Expr}{es:List Expr}{te:TE}{t:TA}{pos:Pos}
def cJ:PA X [] tNil:=fun _ _ _ _ H Q I h=>ki ⟨[],H,I,.nil,h⟩
def aA (ha:PE X e te)(hr:PA X es t)(hs:autoParam (starEach (e::es) X.env=(false,eval e X.env)::starEach es X.env) Rq0._auto_1):PA X (e::es) (kG te t):=by
 intro pos pins s σ H Q I h
 rw[hs]
 show wpAny _ _ (spliced ((false,eval e X.env)::backTo pos (starEach es X.env))) _ _ s
 refine io (cV (ha pins s σ H _ I h) ?_);rintro u s1 ⟨x,H1,I1,r1,q1⟩
 refine cV (hr pos pins s1 σ H1 _ I1 q1) ?_;rintro us s2 ⟨xs,H2,I2,r2,q2⟩;exact⟨x::xs,H2,I2,.cons r1 r2,q2⟩
def cB2 (t:TA):TE:=fun σ H Q=>t σ H fun xs H1=>xs.length<=sizeLine/\∀p,H1 p=none->Q (.ref p) (aN H1 p (.tup xs))
def bQ5 (t:TA):TE:=fun σ H Q=>t σ H fun xs H1=>xs.length<=sizeLine/\∀p,H1 p=none->Q (.ref p) (aN H1 p (.lst xs))
def aY {x1}(h:PA X es t):PE X (.Tuple es x1 pos) (cB2 t):=by
 intro pins s σ H Q I hq
 refine wpAny_Tuple_spliced (cV (h pos pins s σ H _ I hq) ?_);rintro us s1 ⟨xs,H1,I1,r,z,q⟩;refine⟨by rw[<-r.length];exact z,?_⟩
 have hf:H1 s1.heap.objs.size=none:=I1.hok.fresh (aj _)
 refine⟨.ref s1.heap.objs.size,aN H1 s1.heap.objs.size (.tup xs),I1.laid (t':=s1.toks) (fun b u e=>af _ e) (aj _) ?_,rfl,q _ hf⟩
 exact⟨z,us,r,⟨_,bc _ rfl,rfl,_,rfl,rfl⟩⟩
def cC (h:PA X es t):PE X (.List es pos) (bQ5 t):=by
 intro pins s σ H Q I hq
 refine wpAny_List_spliced (cV (h pos pins s σ H _ I hq) ?_);rintro us s1 ⟨xs,H1,I1,r,z,q⟩;refine⟨by rw[<-r.length];exact z,?_⟩
 have hf:H1 s1.heap.objs.size=none:=I1.hok.fresh (aj _)
 refine⟨.ref s1.heap.objs.size,aN H1 s1.heap.objs.size (.lst xs),I1.laid (t':=s1.toks) (fun b u e=>af _ e) (aj _) ?_,rfl,q _ hf⟩
 exact⟨z,us,0,r,bc _ rfl⟩
end
abbrev Sp:=List V->Hp->VK->XK->Prop
abbrev CXT:=List Env->Hp->Shared->XK->Value->Shared->Prop
structure yI(P:Program)(w:World)(K:PySem.W.Frag)(mg:Str->Option Value)(base:Heap)(A:Around)(outer:List Env)(s:Shared)(H:Hp):Prop where
 frames:A.frames=some outer
 mod:Mod K mg base
 bs:∀b o,base.get? b=some o->s.heap.get? b=some o/\H b=none
 bsz:base.objs.size<=s.heap.objs.size
 funs:s.heap.FunFrames base outer
 frf:∀b∈jM outer,H b=none
 hok:jY P w H s.heap
 bare:AllBare s.gens
def CE (outer:List Env)(P:Program)(w:World)(H:Hp)(s:Shared)(Q:VK)(u:Value)(s':Shared):Prop:=
 ∃v H',s'.os=s.os/\AllBare s'.gens/\Un (jM outer) [] H H' s.heap s'.heap/\jY P w H' s'.heap/\bL v u/\Q v H'
def CR (CX:CXT)(outer:List Env)(P:Program)(w:World)(H:Hp)(s:Shared)(Q:VK)(E:XK)(r:Result)(s':Shared):Prop:=
 match r with
 |.ok (.ret u)=>CE outer P w H s Q u s'
 |.ok _=>False
 |.error e=>CX outer H s E e s'
structure lG(P:Program)(w:World)(K:PySem.W.Frag)(mg:Str->Option Value)(base:Heap)(CX:CXT)(k:Nat)(f:Addr)(fd:FuncData)(ps:List Str)(sp:Sp):Prop where
 len:∀vs H Q E,sp vs H Q E->vs.length=ps.length
 run:∀(A:Around) (outer:List Env) (s:Shared) (H:Hp) (args:Args) (us:List Value) (vs:List V) (Q:VK) (E:XK),dL k A->yI P w K mg base A outer s H->BindsTo s fd args (ps.zip us)->bM vs us->sp vs H Q E ->
  codeAny (model P w) A (.call (.ref f) args) (CR CX outer P w H s Q E) s
section
variable {X:Cx}{pins:List (Addr×Obj)}{σ:St}{H:Hp}{s s':Shared}
def aX.env0 (I:aX X pins σ H s):yI X.prog X.w X.K X.mg X.base X.A X.stack s H:=
 ⟨I.ok.frames,I.ok.mod,I.bs,cm I.ok.bsz I.sz,I.stack,I.stkFree,I.hok,I.bare⟩
def aX.after (I:aX X pins σ H s)(h:CE X.stack X.prog X.w H s Q u s'):EP X pins σ Q u s':=by
 obtain⟨v,H',os,bare,un,hok,r,q⟩:=h
 obtain⟨hh,g,d,t,os'⟩:=s'
 obtain rfl:os'=s.os:=os
 exact⟨v,H',I.call (h':=hh) (g':=g) (d':=d) (t':=t) (ch:=[]) un hok bare (fun b z=>absurd z (by simp)),r,q⟩
end
def pP (sp:Sp)(dvs:List V)(E:XK)(t:TA):TE:=fun σ H Q=>t σ H fun vs H1=>sp (vs++dvs) H1 Q E
def gY (K:PySem.W.Frag)(fd:FuncData)(ps:List Str)(ds:List Value):Prop:=
 ∀(s:Shared) (us:List Value),K.In s.heap->(us++ds).length=ps.length->BindsTo s fd ⟨us,[]⟩ (ps.zip (us++ds))
def gY.all {K}(h:∀us:List Value,us.length=ps.length->bindArgs fd ⟨us,[]⟩=pure (ps.zip us)):gY K fd ps []:=fun s us _ hl=>by
 rw[gp] at hl ⊢
 exact .of_eq (h us hl)
def rL (CX:CXT)(X:Cx)(E:XK):Prop:=∀(pins:List (Addr×Obj)) (σ:St) (H:Hp) (s:Shared) (e:Value) (s':Shared),aX X pins σ H s->CX X.stack H s E e s'->X.xe e s'
section
variable {X:Cx}{CX:CXT}{k:Nat}{f C:Addr}{fd:FuncData}{ps:List Str}{sp:Sp}{dvs:List V}{ds:List Value}{E:XK}{x m:Str}{p pos apos:Pos}{e o:Expr}{es:List Expr}{ta:TE}{t:TA}
def bS2 {σ:St}(F:lG X.prog X.w X.K X.mg X.base CX k f fd ps sp)(hr:dL k X.A)(hb:gY X.K fd ps ds)(hd:bM dvs ds)(hx:rL CX X E)(I:aX X pins σ H s)(r:bM vs us)(h:sp (vs++dvs) H Q E):wpAny (model X.prog X.w) X.A (call (.ref f) us) (EP X pins σ Q) X.xe s:=by
 have r2:bM (vs++dvs) (us++ds):=r.append hd
 have hl:(us++ds).length=ps.length:=by rw[<-r2.length];exact F.len _ _ _ _ h
 refine ot (kr (F.run X.A X.stack s H ⟨us,[]⟩ (us++ds) (vs++dvs) Q E hr I.env0 (hb s us I.kIn hl) r2 h) fun r s' hq=>?_)
 cases r with
 |error e=>exact hx pins σ H s e s' I hq
 |ok fl =>
  cases fl with
  |ret u=>exact I.after hq
  |next=>exact False.elim hq
  |brk=>exact False.elim hq
  |cont=>exact False.elim hq
def aF4 (F:lG X.prog X.w X.K X.mg X.base CX k f fd ps sp)(hr:dL k X.A)(hg:Gl X x)(hm:X.mg x=some (.ref f))(hk:PySem.W.keepIn X.K (.ref f)=true)(hb:gY X.K fd ps ds)(hd:bM dvs ds)(hx:rL CX X E)(ha:PA X (e::es) t)(hdb:autoParam ((x==("__debug__": Str))=false) Rq1._auto_1)(he:autoParam (starEach (e::es) X.env=(false,eval e X.env)::starEach es X.env) Rq0._auto_1)(hpl:autoParam ((backTo pos (starEach es X.env)).any (·.1)=false) Rq0._auto_1):
  PE X (.Call (.Name x p) (e::es) [] pos) (pP sp dvs E t):=by
 intro pins s σ H Q I h
 refine fu (nU I hg hm ?_ hdb)
 refine PySem.W.callWith_K (h₀:=X.base) I.ok.mod.kin hk (cV (ha pos pins s σ H _ I h) ?_) he hpl;rintro us s1 ⟨vs,H1,I1,r,q⟩;refine⟨I1.kIn,?_⟩
 exact bS2 F hr hb hd hx I1 r q
end
section
variable {X:Cx}{CX:CXT}{k:Nat}{f C:Addr}{fd:FuncData}{ps ks:List Str}{sp:Sp}{E:XK}{x m:Str}{p pos apos kpos:Pos}{e o:Expr}{es:List Expr}{kws:List Keyword}{te ta:TE}{t tk:TA}{nm:Option Str}
variable {g:List Value->List Value->List Value}{gV:List V->List V->List V}
end
structure eO(N P:List Str)(sc:Scope):Prop where
 kind:sc.kind= .function
 co:sc.isCoroutine=false
 gen:sc.isGenerator=false
 nd:N.Nodup
 pre:N.take P.length=P
 par:∀x∈P,sc.names.lookup x=some .local\/sc.names.lookup x=some .cell
 nofree:∀y∈sc.names,y.2≠ .free
def vB {kindOf}:∀{binds m},(∀v,(x,v)∉binds)->bindL kindOf binds m x=m x
 |[],_,_=>rfl
 |(n,v)::r,m,h=>by
  unfold bindL
  rw[vB fun w hw=>h w (aq _ hw)]
  split
  ·have:x≠n:=by rintro rfl;exact h v ao
   simp[this]
  ·rfl
def vL {kindOf}:∀{binds m},(∀v,(x,v)∉binds)->bindC kindOf binds m x=m x
 |[],_,_=>rfl
 |(n,v)::r,m,h=>by
  unfold bindC
  rw[vL fun w hw=>h w (aq _ hw)]
  split
  ·rfl
  ·have:x≠n:=by rintro rfl;exact h v ao
   simp[this]
def uS {kindOf}:∀{P:List Str}{vs}{i:Nat}{m},P.Nodup->P[i]?=some x->vs[i]?=some v->kindOf x=some .local ->
  bindL kindOf (P.zip vs) m x=some v
 |[],_,_,_,_,h,_,_=>by simp at h
 |_::_,[],_,_,_,_,h,_=>by simp at h
 |p::P,w::vs,0,m,nd,h1,h2,hk=>by
  simp at h1 h2;subst h1;subst h2
  show bindL kindOf ((p,w)::P.zip vs) m p=_
  unfold bindL
  rw[vB fun v hv=>(de.mp nd).1 (ju hv).1,bb hk]
  simp
 |p::P,w::vs,i+1,m,nd,h1,h2,hk=>by
  show bindL kindOf ((p,w)::P.zip vs) m x=_
  unfold bindL
  exact uS (i:=i) (de.mp nd).2 (by simpa using h1) (by simpa using h2) hk
def vI {kindOf}:∀{P:List Str}{vs}{i:Nat}{m},P.Nodup->P[i]?=some x->vs[i]?=some v->kindOf x≠some .local ->
  bindC kindOf (P.zip vs) m x=some v
 |[],_,_,_,_,h,_,_=>by simp at h
 |_::_,[],_,_,_,_,h,_=>by simp at h
 |p::P,w::vs,0,m,nd,h1,h2,hk=>by
  simp at h1 h2;subst h1;subst h2
  show bindC kindOf ((p,w)::P.zip vs) m p=_
  unfold bindC
  rw[vL fun v hv=>(de.mp nd).1 (ju hv).1,au hk]
  simp
 |p::P,w::vs,i+1,m,nd,h1,h2,hk=>by
  show bindC kindOf ((p,w)::P.zip vs) m x=_
  unfold bindC
  exact vI (i:=i) (de.mp nd).2 (by simpa using h1) (by simpa using h2) hk
def fE (N:List Str)(vs:List V):St:=vs.map some++List.replicate (N.length-vs.length) none
def jH (CX:CXT)(P:Program)(w:World)(K:PySem.W.Frag)(mg:Str->Option Value)(base:Heap)(N:List Str)(qual:Str)(scope:Scope)(f:Addr)(cd:Value)(A:Around)(outer:List Env)(s:Shared)(H:Hp)(E:XK):Cx where
 prog:=P
 w:=w
 K:=K
 mg:=mg
 base:=base
 A:=A.deeper (envOfC qual scope s.heap.objs.size f cd)
 N:=N
 s₀:=s
 H₀:=H
 env:=envOfC qual scope s.heap.objs.size f cd
 outer:=outer
 stack:=envOfC qual scope s.heap.objs.size f cd::outer
 ex:=[]
 calm:=true
 fn:=fun _=>true
 pn:=[]
 xe:=fun e s'=>wpAny (model P w) (A.deeper (envOfC qual scope s.heap.objs.size f cd)) (leaving (envOfC qual scope s.heap.objs.size f cd) e) (fun _ s''=>CX outer H s E e s'') (fun e' s''=>CX outer H s E e' s'') s'
def xT {sc:Scope}(h:sc.names.lookup x=some .cell):∃c,(cellsFrom n sc.names []).lookup x=some c:=by
 have q:=vw sc.names n [] (.inl h)
 exact jj.mp q
def lP {K}(S:eO N ps scope)(hd:A.handled=none)(e0:yI P w K mg base A outer s H)(hl:vs.length=ps.length)(r:bM vs us)(x:InCallC s s.heap.objs.size (bindL (envOfC qual scope s.heap.objs.size f cd).kindOf (ps.zip us) fun _=>none) (cellsFrom (s.heap.objs.size+1) scope.names []) (bindC (envOfC qual scope s.heap.objs.size f cd).kindOf (ps.zip us) fun _=>none) s1):
  aX (jH CX P w K mg base N qual scope f cd A outer s H E) [] (fE N vs) H s1:=by
 have hpl:ps.length<=N.length:=by have:=ej List.length S.pre;rw[bx] at this;lia
 obtain⟨h1,tk,rfl,hk⟩:=x.done
 have noA:∀b:Addr,b∉(jH CX P w K mg base N qual scope f cd A outer s H E).ex:=fun b z=>absurd (show b∈([]:List Addr) from z) (by simp)
 refine⟨⟨e0.mod,S.kind,rfl,rfl,aj _,fun y z c h1 h2=>?_,fun y hy=>?_,fun y c _ h=>?_,fun _=>hd,qg e0.frames,.inr ⟨rfl,rfl⟩,fun b z=>absurd z (noA b),e0.bs,e0.bsz,fun b _ _=>noA b,fun b z=>absurd z (noA b),e0.funs,e0.frf⟩,
  rfl,e0.bare,Un.kept hk,⟨_,x.toInCall.ns,fun i y v h1 h2 h3=>?_⟩,fun y c h=>⟨_,x.cell y c h⟩,e0.hok.fresh (aj _),fun y c h=>?_,fun p hp=>absurd (show p∈([]:List (Addr×Obj)) from hp) (by simp),e0.hok.kept hk,?_⟩
 ·exact name_of_addr x.apart (ge h1) (ge h2)
 ·have hy:scope.names.lookup y=some .cell\/scope.names.lookup y=some .free:=hy
  rcases hy with hy|hy
  ·exact xT hy
  ·exact absurd rfl (S.nofree _ (ge hy))
 ·exact bp (x.above y c (ge h))
 ·have hi:i<vs.length:=by
   unfold fE at h2
   by_cases hi:i<vs.length
   ·exact hi
   ·rw[ke (by simpa using hi)] at h2
    rw[List.getElem?_replicate] at h2
    split at h2<;>cases h2
  have ha:vs[i]?=some v:=by
   unfold fE at h2
   rw[uh (by simpa using hi),df] at h2
   cases e:vs[i]? with
   |none=>rw[e] at h2;cases h2
   |some a=>rw[e] at h2;cases h2;rfl
  obtain⟨u,hu,rv⟩:=r.get ha
  have hp:ps[i]?=some y:=by
   rw[<-S.pre,um (by lia)];exact h1
  have ndP:ps.Nodup:=by rw[<-S.pre];exact S.nd.sublist (List.take_sublist _ _)
  refine⟨u,rv,?_⟩
  rcases S.par y (bg hp) with k|k
  ·exact .inl ⟨k,uS ndP hp hu k⟩
  ·obtain⟨c,e⟩:=xT (n:=s.heap.objs.size+1) k
   refine .inr ⟨.inl k,c,e,?_⟩
   have q:=x.cell y c e
   rw[vI ndP hp hu (by show scope.names.lookup y≠_;rw[k];decide)] at q
   exact q
 ·exact e0.hok.fresh (bp (x.above y c (ge h)))
 ·unfold fE
  show _=N.length
  rw[ah,ac,ma]
  lia
def aW2 {K dV kV doc pm cdv ct oc}(lk:K.lookup f=some ⟨oc,od,.func (PySem.W.fnOf name qual params body scope dV kV doc pm an cdv ct),osl⟩)(hcd:PySem.W.codeIn K cdv qual=true)(S:eO N ps scope)(len:∀vs H Q E,sp vs H Q E->vs.length=ps.length)(hbody:∀A (outer) (s) (H) (vs) (Q) (E),dL k (A.deeper (envOfC qual scope s.heap.objs.size f cdv))->sp vs H Q E ->
   ∃t,oS (jH CX P w K mg base N qual scope f cdv A outer s H E) body t/\t { nx:=fun _ H'=>Q .non H',rt:=Q } (fE N vs) H):
  lG P w K mg base CX (k+1) f (PySem.W.fnOf name qual params body scope dV kV doc pm an cdv ct) ps sp:=by
 refine⟨len,fun A outer s H args us vs Q E hr e0 hb r hsp=>?_⟩
 have hl:=len _ _ _ _ hsp
 have KX:K.In s.heap:=e0.mod.kin.keeps fun b o e=>(e0.bs b o e).1
 have lim:s.heap.NoLimit:=e0.mod.nolimit.keeps fun b o e=>(e0.bs b o e).1
 have hkind:∀y∈ps.zip us,scope.names.lookup y.1=some .local\/(scope.names.lookup y.1=some .cell/\((cellsFrom (s.heap.objs.size+1) scope.names []).lookup y.1).isSome=true):=fun⟨n,v⟩ hy=>by
  rcases S.par n (ju hy).1 with q|q
  ·exact .inl q
  ·exact .inr ⟨q,vw _ _ _ (.inl q)⟩
 refine md hr.depth (KX _ _ lk) rfl S.co S.gen rfl (PySem.W.codeRec_of KX hcd) (hb _ _ _ _ ?_)
 refine kg S.kind hkind fun env he s1 x=>?_
 subst he
 refine⟨lim.keeps x.toInCall.keep,uo ?_⟩
 obtain⟨t,ht,hq⟩:=hbody A outer s H vs Q E (hr.deeper _) hsp
 have I:aX (jH CX P w K mg base N qual scope f cdv A outer s H E) [] (fE N vs) H s1:=lP S hr.hd e0 hl r x
 refine dm (ht [] s1 (fE N vs) H _ I hq) (fun fl s' hs=>?_) fun e s' hs=>hs
 have fin:∀{σ':St}{H':Hp}{v:V}{u:Value},aX (jH CX P w K mg base N qual scope f cdv A outer s H E) [] σ' H' s'->bL v u->Q v H'->CE outer P w H s Q u s':=
  fun {σ' H' v u} J rv q=>⟨v,H',J.os,J.bare,J.base,J.hok,rv,q⟩
 cases fl with
 |ret u =>
  obtain⟨v,σ',H',J,rv,q⟩:=hs
  exact fin J rv q
 |next =>
  obtain⟨σ',H',J,q⟩:=hs
  exact fin (v:=V.non) (u:=Value.none) J rfl q
 |brk =>
  obtain⟨_,_,_,q⟩:=hs
  exact False.elim q
 |cont =>
  obtain⟨_,_,_,q⟩:=hs
  exact False.elim q
section
variable {X:Cx}{x:Str}{p pos:Pos}{e:Expr}{es:List Expr}{t:TA}{id T:String}{r:List V->Hp->VK->Prop}
def tCB (r:List V->Hp->VK->Prop)(t:TA):TE:=fun σ H Q=>t σ H fun vs H1=>r vs H1 Q
def iV (hc:eL X (.builtin id) r)(hg:Gl X x)(hm:X.mg x=none)(hv:bootBuiltins x=some (.builtin id))(ha:PA X (e::es) t)(hn:autoParam (x≠"__name__") Rq1._auto_1)(hdb:autoParam ((x==("__debug__": Str))=false) Rq1._auto_1)(he:autoParam (starEach (e::es) X.env=(false,eval e X.env)::starEach es X.env) Rq0._auto_1)(hpl:autoParam ((backTo pos (starEach es X.env)).any (·.1)=false) Rq0._auto_1):PE X (.Call (.Name x p) (e::es) [] pos) (tCB r t):=by
 intro pins s σ H Q I h
 refine fu (kR I hg hm hv ?_ hn hdb)
 refine PyProof.Rows.callWith_builtin1 (cV (ha pos pins s σ H _ I h) ?_) he hpl;rintro us s1 ⟨vs,H1,I1,r1,q1⟩;exact hc pins s1 σ H1 vs us Q I1 r1 q1
def aK8 (hc:eL X (.type T) r)(hg:Gl X x)(hm:X.mg x=none)(hv:bootBuiltins x=some (.type T))(ha:PA X (e::es) t)(hn:autoParam (x≠"__name__") Rq1._auto_1)(hdb:autoParam ((x==("__debug__": Str))=false) Rq1._auto_1)(he:autoParam (starEach (e::es) X.env=(false,eval e X.env)::starEach es X.env) Rq0._auto_1)(hpl:autoParam ((backTo pos (starEach es X.env)).any (·.1)=false) Rq0._auto_1):PE X (.Call (.Name x p) (e::es) [] pos) (tCB r t):=by
 intro pins s σ H Q I h
 refine fu (kR I hg hm hv ?_ hn hdb)
 refine gq (cV (ha pos pins s σ H _ I h) ?_) he hpl;rintro us s1 ⟨vs,H1,I1,r1,q1⟩;exact hc pins s1 σ H1 vs us Q I1 r1 q1
end
section
variable {κ:Type} [DecidableEq κ]
def dW (kvs:List (κ×V))(k:κ):Option V:=(kvs.find? fun kv=>decide (kv.1=k)).map (·.2)
def dP (kvs:List (κ×V))(k:κ)(v:V):List (κ×V):=
 if (kvs.any fun kv=>decide (kv.1=k))=true then kvs.map (fun kv=>if kv.1=k then (kv.1,v) else kv) else kvs++[(k,v)]
def nQ:dW ([]:List (κ×V)) k=none:=rfl
def dA {k:κ}(e:p.1=k):dW (p::r) k=some p.2:=by simp[dW,List.find?_cons,e]
def cE {k:κ}(e:¬p.1=k):dW (p::r) k=dW r k:=by simp[dW,List.find?_cons,e]
def gN (k):∀kvs:List (κ×V),(kvs.any fun kv=>decide (kv.1=k))=(dW kvs k).isSome
 |[]=>rfl
 |p::r=>by
  rw[mx]
  by_cases e:p.1=k
  ·simp only[dA e,decide_eq_true e,Bool.true_or,Option.isSome_some]
  ·rw[cE e,ba e,xh];exact gN k r
def xQ (k j)(y):∀kvs:List (κ×V),dW (kvs.map fun kv=>if kv.1=k then (kv.1,y) else kv) j=(dW kvs j).map fun x=>if j=k then y else x
 |[]=>rfl
 |p::r=>by
  have ih:=xQ k j y r
  rw[eo]
  by_cases h:p.1=k
  ·rw[bb h]
   by_cases e:p.1=j
   ·rw[dA (p:=(p.1,y)) e,dA e,qh,bb (e.symm.trans h)]
   ·rw[cE (p:=(p.1,y)) e,cE e,ih]
  ·rw[au h]
   by_cases e:p.1=j
   ·rw[dA (p:=p) e,dA e,qh,au (fun z=>h (e.trans z))]
   ·rw[cE (p:=p) e,cE e,ih]
def uN (k j)(y):∀kvs:List (κ×V),dW kvs k=none->dW (kvs++[(k,y)]) j=if j=k then some y else dW kvs j
 |[],_=>by
  by_cases e:k=j
  ·rw[bb e.symm];exact dA (p:=(k,y)) e
  ·rw[au (fun z=>e z.symm)];exact cE (p:=(k,y)) e
 |p::r,hn=>by
  rw[uq]
  have hk:¬p.1=k:=fun z=>by rw[dA z] at hn;cases hn
  rw[cE hk] at hn
  have ih:=uN k j y r hn
  by_cases e:p.1=j
  ·rw[dA e,dA e,au (fun z=>hk (e.trans z))]
  ·rw[cE e,cE e,ih]
def aT4 (kvs)(k j:κ)(y):dW (dP kvs k y) j=if j=k then some y else dW kvs j:=by
 unfold dP
 by_cases a:(kvs.any fun kv=>decide (kv.1=k))=true
 ·rw[bb a,xQ]
  rw[gN] at a
  by_cases e:j=k
  ·obtain⟨x,hx⟩:=jj.mp a
   rw[bb e,e,hx,qh,bb rfl]
  ·rw[au e]
   cases dW kvs j with
   |none=>rfl
   |some x=>rw[qh,au e]
 ·rw[au a]
  refine uN k j y kvs ?_
  rw[gN] at a
  cases q:dW kvs k with
  |none=>rfl
  |some x=>rw[q] at a;exact(a rfl).elim
def eU (kvs)(k:κ)(v):(dP kvs k v).length<=kvs.length+1:=by
 unfold dP
 split
 ·rw[ac];lia
 ·rw[ah,bt,qj];lia
def rG {k:κ}(v)(h:dW kvs k=none):dP kvs k v=kvs++[(k,v)]:=by
 unfold dP
 rw[gN,h]
 exact au (by decide)
def jN.isSome_eq (r:jN o u):o.isSome=u.isSome:=by
 cases o with
 |none=>cases u with
  |none=>rfl
  |some _=>exact(show False from r).elim
 |some _=>cases u with
  |none=>exact(show False from r).elim
  |some _=>rfl
def jN.getD (r:jN o u)(rd:bL d d'):bL (o.getD d) (u.getD d'):=by
 cases o with
 |none=>cases u with
  |none=>exact rd
  |some _=>exact(show False from r).elim
 |some _=>cases u with
  |none=>exact(show False from r).elim
  |some _=>exact r
def KV.val (r:KV kvs vs)(k:κ):jN (dW kvs k) (valueAt vs k):=by
 unfold KV at r
 induction r with
 |nil=>exact iy
 |@cons p q ps qs h t ih =>
  obtain⟨h1,h2⟩:=h
  by_cases e:p.1=k
  ·have e':q.1=k:=h1.symm.trans e
   have b:valueAt (q::qs) k=some q.2:=by simp[valueAt,List.find?_cons,e']
   rw[dA e,b];exact h2
  ·have e':¬q.1=k:=fun z=>e (h1.trans z)
   have b:valueAt (q::qs) k=valueAt qs k:=by simp[valueAt,List.find?_cons,e']
   rw[cE e,b];exact ih
def KV.any (r:KV kvs vs)(k:κ):(kvs.any fun kv=>decide (kv.1=k))=vs.any fun kv=>decide (kv.1=k):=by
 unfold KV at r
 induction r with
 |nil=>rfl
 |cons h t ih=>rw[mx,mx,ih,h.1]
def KV.repl (r:KV kvs vs)(k:κ)(ry:bL y u):
  KV (kvs.map fun kv=>if kv.1=k then (kv.1,y) else kv) (vs.map fun kv=>if kv.1=k then (kv.1,u) else kv):=by
 unfold KV at r ⊢
 induction r with
 |nil=>exact .nil
 |@cons p q ps qs h t ih =>
  rw[eo,eo]
  refine .cons ?_ ih
  obtain⟨h1,h2⟩:=h
  by_cases e:p.1=k
  ·rw[bb e,bb (h1.symm.trans e)];exact⟨h1,ry⟩
  ·rw[au e,au (fun z=>e (h1.trans z))];exact⟨h1,h2⟩
def KV.put (r:KV kvs vs)(k:κ)(ry:bL y u):KV (dP kvs k y) (stored vs k u):=by
 unfold dP stored
 rw[r.any k]
 by_cases e:(vs.any fun kv=>decide (kv.1=k))=true
 ·rw[bb e,bb e];exact r.repl k ry
 ·rw[au e,au e];exact Paired.snoc r ⟨rfl,ry⟩
def KV.length {vs:List (κ×Value)}(r:KV kvs vs):kvs.length=vs.length:=gg r
end
def pL (r:bL (kV k) u):(aZ P w).is k u=true:=by
 cases k with
 |inl i=>obtain⟨t,e⟩:=(show ∃t,u=Value.int i t from r);subst e;exact yM P w i t
 |inr x=>obtain⟨t,e⟩:=(show ∃t,u=Value.str x t from r);subst e;exact yQ P w x t
def vG:∀{ks us},bM (ks.map kV) us->ItemsAre (aZ P w) ks us
 |[],_,r=>by rw[ya] at r;cases r;exact .nil
 |k::ks,_,r=>by
  rw[eo] at r
  cases r with
  |cons h t=>exact .cons (pL h) (vG t)
abbrev KT(H:Hp):List (List Key×V)->List (List Key×Addr×Value)->Prop:=Paired fun p q=>p.1=q.1/\H q.2.1=some (.tup (p.1.map kV))/\bL p.2 q.2.2
def KT.val (r:KT H kvs xs)(k):jN (dW kvs k) ((atKey xs k).map (·.2)):=by
 induction r with
 |nil=>exact iy
 |@cons p q ps qs h t ih =>
  obtain⟨h1,_,h2⟩:=h
  by_cases e:p.1=k
  ·have e':q.1=k:=h1.symm.trans e
   have b:atKey (q::qs) k=some q.2:=by simp[atKey,List.find?_cons,e']
   rw[dA e,b];exact h2
  ·have e':¬q.1=k:=fun z=>e (h1.trans z)
   have b:atKey (q::qs) k=atKey qs k:=by simp[atKey,List.find?_cons,e']
   rw[cE e,b];exact ih
def KT.repl (r:KT H kvs xs)(k)(ry:bL y u):
  KT H (kvs.map fun kv=>if kv.1=k then (kv.1,y) else kv) (xs.map (putAt k u)):=by
 induction r with
 |nil=>exact .nil
 |@cons p q ps qs h t ih =>
  rw[eo,eo]
  refine .cons ?_ ih
  obtain⟨h1,h2,h3⟩:=h
  unfold putAt
  by_cases e:p.1=k
  ·rw[bb e,bb (h1.symm.trans e)];exact⟨h1,h2,ry⟩
  ·rw[au e,au (fun z=>e (h1.trans z))];exact⟨h1,h2,h3⟩
def KT.put (r:KT H kvs xs)(k)(hb:H b=some (.tup (k.map kV)))(ry:bL y u):
  KT H (dP kvs k y) (storedH xs k b u):=by
 have e:(kvs.any fun kv=>decide (kv.1=k))=(atKey xs k).isSome:=by
  rw[gN,(r.val k).isSome_eq,oy]
 unfold dP storedH
 rw[e]
 by_cases q:(atKey xs k).isSome=true
 ·rw[bb q,bb q];exact r.repl k ry
 ·rw[au q,au q];exact Paired.snoc r ⟨rfl,hb,ry⟩
def KT.keeps (r:KT H kvs xs)(ht:∀b ys,H b=some (.tup ys)->H' b=some (.tup ys)):KT H' kvs xs:=
 Paired.mapP r fun _ _ z=>⟨z.1,ht _ _ z.2.1,z.2.2⟩
section
variable {P:Program}{w:World}{H:Hp}{h:Heap}{a:Addr}
def bK6 (ok:jY P w H h)(e:Rd H a u):bZ P w H h a u:=e.ok ok
def uX (ok:jY P w H h)(e:Rd H a (.dK kvs)):kvs.length<=sizeLine/\(a==sysModules)=false/\∃vs,KV kvs vs/\h.DictOf (aZ P w) a vs:=
 show bZ P w H h a (.dK kvs) from bK6 ok e
def sN (ok:jY P w H h)(e:H a=some (.dK kvs)):kvs.length<=sizeLine/\(a==sysModules)=false/\∃vs,KV kvs vs/\h.DictOf (aZ P w) a vs:=uX ok (.inl e)
def oX (ok:jY P w H h)(e:H a=some (.tup (ks.map kV))):(tupleKind (aZ P w)).is h ks a:=by
 obtain⟨_,its,r,o,h1,h2,n,h3,_⟩:=(show bZ P w H h a (.tup (ks.map kV)) from ok a _ e)
 exact⟨o,its.toArray,n,h1,h2,h3,by simpa using vG r⟩
def vH (ok:jY P w H h)(e:Rd H a (.dT kvs)):kvs.length<=sizeLine/\(a==sysModules)=false /\
  ∃xs,KT H kvs xs/\h.DictOfH (tupleKind (aZ P w)) a xs:=by
 obtain⟨z,y,xs,r,o,es,ep,h1,h2,h3,h4,h5⟩:=(show bZ P w H h a (.dT kvs) from bK6 ok e)
 refine⟨z,y,xs,r,o,es,ep,h1,h2,h3,h4,fun x hx=>?_,h5⟩
 have all:∀{l:List (List Key×V)}{m:List (List Key×Addr×Value)},KT H l m->∀x∈m,(tupleKind (aZ P w)).is h x.1 x.2.1:=by
  intro l m q
  induction q with
  |nil=>intro x hx;exact nomatch hx
  |@cons p q ps qs hq t ih =>
   intro x hx
   rcases bv.mp hx with e|hx
   ·subst e
    exact oX ok (by rw[<-hq.1];exact hq.2.1)
   ·exact ih x hx
 exact all r x hx
def bL1 (ok:jY P w H h)(e:H a=some (.dT kvs)):kvs.length<=sizeLine/\(a==sysModules)=false /\
  ∃xs,KT H kvs xs/\h.DictOfH (tupleKind (aZ P w)) a xs:=vH ok (.inl e)
end
def fW (H:Hp)(a:Addr)(y:V)(r:Option V):Prop:=
 (∃kvs k,Rd H a (.dK kvs)/\y=kV k/\r=dW kvs k)\/∃kvs k b,Rd H a (.dT kvs)/\y= .ref b/\H b=some (.tup (k.map kV))/\r=dW kvs k
def hX (H:Hp)(a:Addr)(y v:V)(H':Hp):Prop:=
 (∃kvs k,H a=some (.dK kvs)/\y=kV k/\kvs.length<sizeLine/\H'=aN H a (.dK (dP kvs k v))) \/
 ∃kvs k b,H a=some (.dT kvs)/\y= .ref b/\H b=some (.tup (k.map kV))/\kvs.length<sizeLine/\H'=aN H a (.dT (dP kvs k v))
def fW.k {k}(e:H a=some (.dK kvs)):fW H a (kV k) (dW kvs k):= .inl ⟨kvs,k,.inl e,rfl,rfl⟩
def hX.k {k}(e:H a=some (.dK kvs))(hl:kvs.length<sizeLine):hX H a (kV k) v (aN H a (.dK (dP kvs k v))):= .inl ⟨kvs,k,e,rfl,hl,rfl⟩
section
variable {X:Cx}{pins:List (Addr×Obj)}{σ:St}{H:Hp}{s:Shared}{a:Addr}{y v:V}{u r:Value}{o:Option V}{A:Around}{E:Value->Shared->Prop}
def aX.big (I:aX X pins σ H s):sysModules<s.heap.objs.size:=by
 have h:mainGlobals<s.heap.objs.size:=(I.mod.glob.keeps I.bk).lt
 exact Nat.lt_trans (by decide) h
def aK0 (hu:A.units+1<cLine)(I:aX X pins σ H s)(g:fW H a y (some v))(ry:bL y u)(h:∀w' s',aX X pins σ H s'->bL v w'->Q w' s'):
  wpAny (model X.prog X.w) A (getItem (.ref a) u) Q E s:=by
 rcases g with⟨kvs,k,e,ey,l⟩|⟨kvs,k,b,e,ey,eb,l⟩
 ·subst ey
  obtain⟨z,hd,vs,rel,dd⟩:=uX I.hok e
  obtain⟨w',hw,rw'⟩:=jN.some_of (v:=v) (o:=valueAt vs k) (by rw[l];exact rel.val k)
  exact wpAny_getItem_of (pL ry) dd.mapOf hw (h w' _ (I.tok _) rw')
 ·subst ey
  cases(show u=Value.ref b from ry)
  obtain⟨z,hd,xs,rel,dd⟩:=vH I.hok e
  obtain⟨w',hw,rw'⟩:=jN.some_of (v:=v) (o:=(atKey xs k).map (·.2)) (by rw[l];exact rel.val k)
  obtain⟨p,hp,hp2⟩:=lq.mp hw
  refine wpAny_getItem_heap (oj hu) (oX I.hok eb) dd hp ?_
  rw[hp2]
  exact h w' _ (I.tok _) rw'
def cH0 (hu:A.units+1<cLine)(I:aX X pins σ H s)(g:fW H a y o)(ry:bL y u)(h:∀s',aX X pins σ H s'->Q (.bool o.isSome) s'):
  wpAny (model X.prog X.w) A (compareOp .In u (.ref a)) Q E s:=by
 rcases g with⟨kvs,k,e,ey,l⟩|⟨kvs,k,b,e,ey,eb,l⟩
 ·subst ey
  obtain⟨z,hd,vs,rel,dd⟩:=uX I.hok e
  refine wpAny_in_of (pL ry) hd dd.mapOf ?_
  rw[<-(rel.val k).isSome_eq, <-l]
  exact h _ (I.tok _)
 ·subst ey
  cases(show u=Value.ref b from ry)
  obtain⟨z,hd,xs,rel,dd⟩:=vH I.hok e
  refine wpAny_in_heap (oj hu) (oX I.hok eb) hd dd ?_
  have q:=(rel.val k).isSome_eq
  rw[oy] at q
  rw[<-q, <-l]
  exact h _ (I.tok _)
def lQ (I:aX X pins σ H s)(mu:Mut (H a))(hs:Heap.SameBut a s.heap h')(he:∃q,h'.get? a=some q)(new:bZ X.prog X.w (aN H a ob) h' a ob):
  aX X pins σ (aN H a ob) { s with heap:=h',toks:=t' }:=
 I.write (x:=a) (e:=a) mu (.inl rfl) (fun b q hb z=>(hs.2 b hb).trans z) he new
def rF (z:kvs.length<=sizeLine)(hd:(a==sysModules)=false)(rel:KV kvs vs)(dd:h'.DictOf (aZ P w) a vs):
  bZ P w H' h' a (.dK kvs):=⟨z,hd,vs,rel,dd⟩
def aL9 (hu:A.units+1<cLine)(I:aX X pins σ H s)(g:hX H a y v H')(ry:bL y u)(rv:bL v r)(h:∀s',aX X pins σ H' s'->Q () s'):
  wpAny (model X.prog X.w) A (setItem (.ref a) u r) Q E s:=by
 rcases g with⟨kvs,k,e,ey,l,eH⟩|⟨kvs,k,b,e,ey,eb,l,eH⟩
 ·subst ey eH
  obtain⟨z,hd,vs,rel,dd⟩:=sN I.hok e
  have hz:vs.length<=sizeLine:=by rw[<-rel.length];exact z
  have hl:(dP kvs k v).length<=sizeLine:=by have:=eU kvs k v;lia
  refine wpAny_setItem_pairs (hsz:=hz) (pL ry) dd fun h' dd' hs=>h _ ?_
  have he:∃q,h'.get? a=some q:=by obtain⟨q,_,_,hq,_⟩:=dd';exact⟨q,hq⟩
  exact lQ I (by rw[e];exact iy) hs he (rF hl hd (rel.put k rv) dd')
 ·subst ey eH
  cases(show u=Value.ref b from ry)
  obtain⟨z,hd,xs,rel,dd⟩:=bL1 I.hok e
  have hz:xs.length<=sizeLine:=by rw[<-gg rel];exact z
  have hl:(dP kvs k v).length<=sizeLine:=by have:=eU kvs k v;lia
  refine wpAny_setItem_heap (hsz:=hz) (oj hu) (oX I.hok eb) dd fun h' dd' hs=>h _ ?_
  obtain⟨q,es,ep,hq,h2,h3,h4,_,h5⟩:=dd'
  refine lQ I (by rw[e];exact iy) hs ⟨q,hq⟩ ⟨hl,hd,_,(rel.put k eb rv).keeps fun c ys ec=>?_,q,es,ep,hq,h2,h3,h4,h5⟩
  rw[aH (gX ec e (fun z=>nomatch z))]
  exact ec
end
section
variable {X:Cx}{pins:List (Addr×Obj)}{σ:St}{H:Hp}{s:Shared}{a:Addr}{kvs:List (Key×V)}{k:Key}{u:Value}{A:Around}{E:Value->Shared->Prop}
end
def bW2 (i:Expr):Prop:=∀ov iv,subscripted i false ov iv=operate [ov,iv] (getItem ov iv)
def bD7 {T id}(hl:typeLookup (.type T) "__getitem__"=pure (some (.builtin id)))(hs:bW2 slice)(h:wpAny (model prog w) A (eval value env) (fun o s₁=>wpAny (model prog w) A (eval slice env) (fun i s₂=>s₂.TypeIs o T/\wpAny (model prog w) A (getItem o i) Q E s₂) E s₁) E s):
  wpAny (model prog w) A (eval (.Subscript value slice pos) env) Q E s:=by
 refine zx (dm h (fun o s₁ h₁=>dm h₁ (fun i s₂ h₂=>?_) fun _ _ x=>x) fun _ _ x=>x)
 obtain⟨hT,h₂⟩:=h₂
 unfold subscriptTail
 refine aa ?_
 rw[getitemInPython_of_ne hT.not_modules]
 refine aa (vm hT hl ?_)
 have fin:wpAny (model prog w) A (subscripted slice false o i) (fun r s₃=>wpAny (model prog w) A (letTemporaryGo value o r>>=fun _=>pure r) Q E s₃) E s₂:=by
  rw[hs o i]
  exact wpAny_operating (dm h₂ (fun r s₃ h₃=>aa (wpAny_letTemporaryGo (ak h₃))) fun _ _ x=>x)
 first
  |exact ak (aa fin)
  |exact aa (ak (aa fin))
  |exact aa fin
def yV {σ:St}(I:aX X pins σ H s)(g:fW H a y o):s.TypeIs (.ref a) "dict":=by
 rcases g with⟨kvs,k,e,_,_⟩|⟨kvs,k,b,e,_,_,_⟩
 ·obtain⟨_,_,vs,_,dd⟩:=uX I.hok e
  exact dd.typeIs
 ·obtain⟨_,_,xs,_,dd⟩:=vH I.hok e
  exact dd.typeIs
def bK2 (td ty:TE):TE:=fun σ H Q=>td σ H fun x H1=>ty σ H1 fun y H2=>∃a v,x= .ref a/\fW H2 a y (some v)/\Q v H2
def cH3 (ty td:TE):TE:=fun σ H Q=>ty σ H fun y H1=>td σ H1 fun x H2=>∃a o,x= .ref a/\fW H2 a y o/\Q (.bl o.isSome) H2
def bL6 (td ty tv:TE):TS:=fun D σ H=>tv σ H fun v H1=>td σ H1 fun x H2=>ty σ H2 fun y H3=>∃a H4,x= .ref a/\hX H3 a y v H4/\D.nx σ H4
section
variable {X:Cx}{o i e value:Expr}{pos pos' tpos:Pos}{td ty tv:TE}
def jC (hu:X.A.units+1<cLine)(ho:PE X o td)(hi:PE X i ty)(hs:bW2 i):PE X (.Subscript o i pos) (bK2 td ty):=by
 intro pins s σ H Q I h
 refine bD7 PySem.F.slot_dict_getitem.lookup hs (cV (ho pins s σ H _ I h) ?_);rintro u s1 ⟨x,H1,I1,rx,q1⟩;refine cV (hi pins s1 σ H1 _ I1 q1) ?_;rintro iv s2 ⟨y,H2,I2,ry,a,v,ex,g,q2⟩
 subst ex
 obtain rfl:u=Value.ref a:=rx
 exact⟨yV I2 g,aK0 hu I2 g ry fun w' s3 I3 rw'=>⟨v,H2,I3,rw',q2⟩⟩
def wK (hu:X.A.units+1<cLine)(hi:PE X i ty)(ho:PE X o td):PC X .In i o (cH3 ty td):=by
 intro pins s σ H Q I h
 refine cV (hi pins s σ H _ I h) ?_;rintro iv s1 ⟨y,H1,I1,ry,q1⟩;refine cV (ho pins s1 σ H1 _ I1 q1) ?_;rintro u s2 ⟨x,H2,I2,rx,a,ov,ex,g,q2⟩
 subst ex
 obtain rfl:u=Value.ref a:=rx
 exact cH0 hu I2 g ry fun s3 I3=>⟨.bl ov.isSome,H2,I3,rfl,q2⟩
def qJ (hu:X.A.units+1<cLine)(ho:PE X o td)(hi:PE X i ty)(hv:PE X value tv)(hs:swapsWith value (some (.Subscript o i pos')) pos.line X.env=pure false):
  PS X (.Assign [.Subscript o i pos'] value pos) (bL6 td ty tv):=by
 intro pins s σ H D I h
 refine wpAny_Assign_Subscript (cV (hv pins s σ H _ I h) ?_) hs;rintro r s1 ⟨v,H1,I1,rv,q1⟩;refine cV (ho pins s1 σ H1 _ I1 q1) ?_;rintro u s2 ⟨x,H2,I2,rx,q2⟩;refine cV (hi pins s2 σ H2 _ I2 q2) ?_;rintro iv s3 ⟨y,H3,I3,ry,a,H4,ex,g,q3⟩
 subst ex
 obtain rfl:u=Value.ref a:=rx
 exact aL9 hu I3 g ry rv fun s4 I4=>⟨σ,H4,I4,q3⟩
end
def rE (h:Heap)(hb:sysModules<h.objs.size):bZ P w H (h.push { cls:= .type "dict",data:= .dict #[] }) h.objs.size (.dK []):=
 ⟨bu _,nh.mpr (Ne.symm (bw hb)),[],.nil,Heap.DictOf.new h⟩
def aW0 (h:Heap)(hb:sysModules<h.objs.size):bZ P w H (h.push { cls:= .type "dict",data:= .dict #[] }) h.objs.size (.dT []):=
 ⟨bu _,nh.mpr (Ne.symm (bw hb)),[],.nil,_, #[],0,bc _ rfl,⟨rfl,rfl,rfl⟩,rfl,rfl,ou⟩
def tDNewK:TE:=fun _ H Q=>∀p,H p=none->Q (.ref p) (aN H p (.dK []))
section
variable {X:Cx}{pos:Pos}
def lE:PE X (.Dict [] [] pos) tDNewK:=fun pins s σ H Q I h =>
 wpAny_Dict_empty ⟨.ref s.heap.objs.size,_,I.laid (a:=s.heap.objs.size) (o:= .dK []) (t':=s.toks) (fun _ _ q=>af _ q) (aj _) (rE s.heap I.big),rfl,h _ (I.hok.fresh (aj _))⟩
end
def aB8:List (TE×TE)->St->Hp->(List (V×V)->Hp->Prop)->Prop
 |[],_,H,Q=>Q [] H
 |(tk,tv)::r,σ,H,Q=>tk σ H fun x H1=>tv σ H1 fun y H2=>aB8 r σ H2 fun ps H3=>Q ((x,y)::ps) H3
abbrev VV:List (V×V)->List (Value×Value)->Prop:=Paired fun p q=>bL p.1 q.1/\bL p.2 q.2
def PPs (X:Cx)(pos:Pos)(keys:List (Option Expr))(values:List Expr)(trs:List (TE×TE)):Prop:=
 ∀(pins:List (Addr×Obj)) (s:Shared) (σ:St) (H:Hp) (Q:List (V×V)->Hp->Prop),aX X pins σ H s->aB8 trs σ H Q ->
  wpAny (model X.prog X.w) X.A (evalPairs (pairTrees keys values X.env pos)) (fun vs s'=>∃ps H',aX X pins σ H' s'/\VV ps vs/\Q ps H') X.xe s
def aF8:PPs X pos [] [] []:=fun pins s σ H Q I h=>pairTrees_nil_walk ⟨[],H,I,.nil,h⟩
def fX (hk:PE X k tk)(hv:PE X v tv)(hr:PPs X pos ks vs trs):
  PPs X pos (some k::ks) (v::vs) ((tk,tv)::trs):=fun pins s σ H Q I h =>
 pairTrees_cons_walk (cV (hk pins s σ H _ I h) fun u s1 ⟨x,H1,I1,rx,q1⟩=>cV (hv pins s1 σ H1 _ I1 q1) fun w2 s2 ⟨y,H2,I2,ry,q2⟩ =>
  cV (hr pins s2 σ H2 _ I2 q2) (by rintro ws s3 ⟨ps,H3,I3,rel,q3⟩;exact⟨(x,y)::ps,H3,I3,.cons ⟨rx,ry⟩ rel,q3⟩))
def iM (kvs more:List (Key×V)):List (Key×V):=more.foldl (fun acc kv=>dP acc kv.1 kv.2) kvs
def KV.merge:∀{more rs kvs vs},KV more rs->KV kvs vs->KV (iM kvs more) (merged vs rs):=by
 intro more rs kvs vs r
 unfold KV at r
 induction r generalizing kvs vs with
 |nil=>intro q;exact q
 |@cons p q ps qs h t ih =>
  intro r0
  have e:KV (dP kvs p.1 p.2) (stored vs q.1 q.2):=by
   have:=r0.put p.1 h.2
   rw[<-h.1];exact this
  exact ih e
def mO:∀more kvs,(iM kvs more).length<=kvs.length+more.length
 |[],kvs=>by show kvs.length<=kvs.length+0;lia
 |p::r,kvs=>by
  have h1:=mO r (dP kvs p.1 p.2)
  have h2:=eU kvs p.1 p.2
  show(iM (dP kvs p.1 p.2) r).length<=_
  rw[bt];lia
def sR:∀{kvs ws},VV (kvs.map fun kv=>(kV kv.1,kv.2)) ws->∃rs,Carries (aZ P w) ws rs/\KV kvs rs
 |[],_,r=>by rw[ya] at r;cases r;exact⟨[],iy,.nil⟩
 |p::kvs,_,r=>by
  rw[eo] at r
  cases r with
  |@cons a b as bs h t =>
   obtain⟨rs,c,q⟩:=sR (P:=P) (w:=w) t
   obtain⟨b1,b2⟩:=b
   exact⟨(p.1,b2)::rs,⟨pL h.1,rfl,c⟩,.cons ⟨rfl,h.2⟩ q⟩
def cA5 (trs:List (TE×TE)):TE:=fun σ H Q=>∀p,H p=none->aB8 trs σ (aN H p (.dK [])) fun ps H2=>H2 p=some (.dK [])/\∃kvs:List (Key×V),ps=kvs.map (fun kv=>(kV kv.1,kv.2))/\kvs.length<=15/\Q (.ref p) (aN H2 p (.dK (iM [] kvs)))
def aG5 (h:PPs X pos keys values trs)(hall:keys.all (·.isSome)=true)(hl:keys.length=values.length)(h0:keys≠[])(h15:keys.length<=15):PE X (.Dict keys values pos) (cA5 trs):=by
 intro pins s σ H Q I q
 have hn:=I.hok.fresh (aj s.heap.objs.size)
 have I1:=I.laid (a:=s.heap.objs.size) (o:= .dK []) (h':=s.heap.push { cls:= .type "dict",data:= .dict #[] }) (t':=s.toks) (fun _ _ q=>af _ q) (aj _) (rE s.heap I.big)
 refine wpAny_Dict_walk (knd:=aZ X.prog X.w) hall hl h0 h15 (cV (h pins _ σ _ _ I1 (q _ hn)) ?_);rintro ws s2 ⟨ps,H2,I2,rel,e,kvs,ep,lk,q2⟩
 subst ep
 obtain⟨rs,c,rk⟩:=sR (P:=X.prog) (w:=X.w) rel
 obtain⟨z,hd,vs0,r0,dd⟩:=sN I2.hok e
 cases r0
 refine⟨rs,c,dd,fun h' dd' hs=>⟨.ref s.heap.objs.size,_,?_,rfl,q2⟩⟩
 have hz:(iM [] kvs).length<=sizeLine:=by
  have h1:=mO kvs []
  rw[qj] at h1
  rw[lm];lia
 have he:∃q,h'.get? s.heap.objs.size=some q:=by obtain⟨q,_,_,hq,_⟩:=dd';exact⟨q,hq⟩
 exact lQ I2 (by rw[e];exact iy) hs he (rF hz hd (rk.merge .nil) dd')
structure M2(X:Cx)(o:Expr)(m:Str)(apos:Pos)(e f:Expr)(cpos:Pos):Prop where
 base:attributeBase o m X.env (eval o X.env)=eval o X.env
 few:((backTo cpos (starEach [e,f] X.env)).all (fun x=> !x.1)&&(backToKw cpos (keywordEach [] X.env)).all (fun x=>x.1.isSome)
  && decide (([e,f]:List Expr).length+([]:List Keyword).length+(if ([]:List Keyword).isEmpty then 0 else 1)<30))=true
 line:(apos.endLine==cpos.line)=true
 trees:backTo cpos (starEach [e,f] X.env)=[(false,eval e X.env),(false,eval f X.env)]
def IsD (H:Hp)(a:Addr):Prop:=(∃kvs,Rd H a (.dK kvs))\/∃kvs,Rd H a (.dT kvs)
def aN8 {σ:St}(I:aX X pins σ H s)(d:IsD H a):
  s.TypeIs (.ref a) "dict"/\(∀b,Value.ref a= .ref b->∃ob,s.heap.get? b=some ob/\ob.dict=none)/\(a==sysModules)=false:=by
 rcases d with⟨kvs,e⟩|⟨kvs,e⟩
 ·obtain⟨_,hd,vs,_,dd⟩:=uX I.hok e
  refine⟨dd.typeIs,fun b q=>?_,hd⟩
  cases q
  obtain⟨ob,_,_,h1,h2,_⟩:=dd
  exact⟨ob,h1,h2.2.1⟩
 ·obtain⟨_,hd,xs,_,dd⟩:=vH I.hok e
  refine⟨dd.typeIs,fun b q=>?_,hd⟩
  cases q
  obtain⟨ob,_,_,h1,h2,_⟩:=dd
  exact⟨ob,h1,h2.2.1⟩
section
variable {X:Cx}{pins:List (Addr×Obj)}{σ:St}{H:Hp}{s:Shared}{a:Addr}{y d:V}{u r:Value}{o:Option V}{A:Around}{E:Value->Shared->Prop}
def bO0 (hu:A.units+1<cLine)(I:aX X pins σ H s)(g:fW H a y o)(ry:bL y u)(rd:bL d r)(h:∀w' s',aX X pins σ H s'->bL (o.getD d) w'->Q w' s'):
  wpAny (model X.prog X.w) A (call (.builtin "dict.get") [.ref a,u,r]) Q E s:=by
 rcases g with⟨kvs,k,e,ey,l⟩|⟨kvs,k,b,e,ey,eb,l⟩
 ·subst ey
  obtain⟨z,hd,vs,rel,dd⟩:=uX I.hok e
  refine yb pz dd.typeIs vx (vi _ _ _) (meets_dict_get_default (aZ X.prog X.w) a (pL ry) hd r) ⟨_,dd.mapOf,h _ _ (I.tok _) ?_⟩
  rw[l]
  exact(rel.val k).getD rd
 ·subst ey
  cases(show u=Value.ref b from ry)
  obtain⟨z,hd,xs,rel,dd⟩:=vH I.hok e
  refine yb pz dd.typeIs vx (vi _ _ _) (meetsH_dict_get_default (tupleKind (aZ X.prog X.w)) a b hd r) ⟨oj hu,k,xs,oX I.hok eb,dd,h _ _ (I.tok _) ?_⟩
  rw[l]
  exact(rel.val k).getD rd
end
def bV3 (td ty tx:TE):TE:=fun σ H Q=>td σ H fun x H1=>∃a,x= .ref a/\IsD H1 a/\ty σ H1 fun y H2=>tx σ H2 fun z H3=>∃o,fW H3 a y o/\Q (o.getD z) H3
section
variable {X:Cx}{o e f:Expr}{apos cpos:Pos}{td ty tx:TE}
def qP (hu:X.A.units+1<cLine)(ho:PE X o td)(he:PE X e ty)(hf:PE X f tx)(m:M2 X o "get" apos e f cpos):PE X (.Call (.Attribute o "get" apos) [e,f] [] cpos) (bV3 td ty tx):=by
 intro pins s σ H Q I h
 refine yv m.base m.few m.line vj pz PySem.F.type_dict_get (cV (ho pins s σ H _ I h) ?_);rintro u s1 ⟨x,H1,I1,rx,a,ex,d,q1⟩
 subst ex
 obtain rfl:u=Value.ref a:=rx
 obtain⟨t1,t2,_⟩:=aN8 I1 d
 refine⟨t1,t2,?_⟩
 rw[m.trees]
 refine lu rfl (qm (io (cV (he pins s1 σ H1 _ I1 q1) fun iv s2 ⟨y,H2,I2,ry,q2⟩ =>
  io (cV (hf pins s2 σ H2 _ I2 q2) fun fv s3 ⟨z,H3,I3,rz,ov,g,q3⟩=>ki ?_))))
 exact bO0 hu I3 g ry rz fun w' s4 I4 rw'=>⟨_,H3,I4,rw',q3⟩
end
section
variable {X:Cx}{pins:List (Addr×Obj)}{σ:St}{H:Hp}{s:Shared}{a:Addr}{kvs:List (Key×V)}{A:Around}{E:Value->Shared->Prop}
end
section
variable {X:Cx}{pins:List (Addr×Obj)}{σ:St}{H:Hp}{s:Shared}{a:Addr}{y:V}{u:Value}{A:Around}{E:Value->Shared->Prop}
end
end L2
namespace HT
open PySem PyProof.Rows
section
open PySem.SeqAt
open PySem.AutoSeq1 (wpAny_loadPart')
open PySem.MeetsSeq PySem.MeetsSeq2 PySem.MeetsSeq3
end
section
variable {prog:Program}{w:World}{A:Around}{E:Value->Shared->Prop}{s:Shared}
def cat_tup (ht:IsTup s.heap t vs.toArray)(hb:IsTup s.heap b ws.toArray)(hv:vs≠[])(h1:ws=[]->Q (.ref t) s)(h2:ws≠[]->Q (.ref s.heap.objs.size) { s with heap:=s.heap.push { cls:= .type "tuple",data:= .seq (vs++ws).toArray } })(hsz:vs.length+ws.length<=sizeLine):wpAny (model prog w) A (binaryOp .Add (.ref t) (.ref b)) Q E s:=by
 obtain⟨⟨cls,dd,data,sl⟩,ho,hc,n,hd⟩:=id ht
 obtain⟨⟨cls2,dd2,data2,sl2⟩,ho2,hc2,n2,hd2⟩:=id hb
 simp only at hc hd hc2 hd2
 subst hc hd hc2 hd2
 have e:vs.toArray++ws.toArray=(vs++ws).toArray:=by simp
 by_cases hw:ws=[]
 ·exact concat_meets ⟨_,ho,rfl⟩ ⟨_,ho2,rfl⟩ noFill_tuple_add seq_tuple_add PySem.F.slot_tuple_add PySem.F.entry_tuple_add (PySem.F.args_tuple_add_2 _ _)
   (tuple_addW1 t b vs.toArray ws.toArray n n2 dd dd2 sl sl2 (by simpa using hv) (by simp[hw])) ⟨ho,ho2,h1 hw⟩
 ·refine concat_meets ⟨_,ho,rfl⟩ ⟨_,ho2,rfl⟩ noFill_tuple_add seq_tuple_add PySem.F.slot_tuple_add PySem.F.entry_tuple_add (PySem.F.args_tuple_add_2 _ _)
   (tuple_addW2 t b vs.toArray ws.toArray n n2 dd dd2 sl sl2 (by simpa using hv) (by simpa using hw) (by rw[List.size_toArray,List.size_toArray];exact hsz)) ⟨ho,ho2,?_⟩
  rw[e]
  exact h2 hw
def sIx (n d:Nat):Option Int->Nat
 |none=>d
 |some v=>if v<0 then (v+(n:Int)).toNat else min v.toNat n
def sIx_nat (n d k:Nat):sIx n d (some (k))=min k n:=by
 show(if (k:Int)<0 then ((k:Int)+(n:Int)).toNat else min (k:Int).toNat n)=min k n
 rw[if_neg (by lia),Int.toNat_natCast]
def bM7 (n d)(hd:d<=n)(o):sIx n d o<=n:=by
 cases o with
 |none=>exact hd
 |some v =>
  show(if v<0 then (v+(n:Int)).toNat else min v.toNat n)<=n
  by_cases hv:v<0
  ·rw[if_pos hv];lia
  ·rw[if_neg hv];exact Nat.min_le_right _ _
def aH5 (v)(n d:Nat):(if v<0 then max (v+(n:Int)) 0 else min v (n))=((sIx n d (some v):Nat):Int):=by
 show(if v<0 then max (v+(n:Int)) 0 else min v (n:Int))=(((if v<0 then (v+(n:Int)).toNat else min v.toNat n):Nat):Int)
 by_cases hv:v<0
 ·simp only[if_pos hv];lia
 ·simp only[if_neg hv];lia
def aD5 (lo hi)(n:Nat):Builtin.Slice.sliceAdjust lo hi 1 (n)=(((sIx n 0 lo):Int),((sIx n n hi):Int)):=by
 have h1:¬((1:Int)<0):=by lia
 unfold Builtin.Slice.sliceAdjust
 simp only[h1,if_false]
 refine Prod.ext ?_ ?_
 ·cases lo with
  |none=>rfl
  |some v=>exact aH5 v n 0
 ·cases hi with
  |none=>rfl
  |some v=>exact aH5 v n n
def zR (i j:Nat):Builtin.Slice.slicePlaces (i) (j) 1=j-i:=by
 unfold Builtin.Slice.slicePlaces
 have h1:(1:Int) > 0:=by lia
 simp only[h1,if_true,Int.ediv_one]
 split<;>lia
def qX (p:IsPart v o)(h:Q o s):wpAny (model prog w) A (Builtin.Slice.slicePartIndex v) Q E s:=by
 cases p with
 |none=>exact slicePart_none h
 |int i t=>exact slicePart_int h
def oU {lo hi}{Q:Int×Int×Nat->Shared->Prop}(hs:s.heap.IsSliceOf sl vl vu .none)(pl:IsPart vl lo)(pu:IsPart vu hi)(h:Q (((sIx n 0 lo):Int),1,sIx n n hi-sIx n 0 lo) s):wpAny (model prog w) A (Builtin.Slice.sliceApplied (.ref sl) (pure (n))) Q E s:=by
 obtain⟨os,hos,hcs,hds⟩:=id hs
 unfold Builtin.Slice.sliceApplied Builtin.Slice.sliceFields
 refine wpAny_bind (wpAny_bind (wpAny_field hos hds (x:=vl) rfl (wpAny_bind (wpAny_field hos hds (x:=vu) rfl (wpAny_bind (wpAny_field hos hds (x:= .none) rfl (wpAny_pure ?_)))))))
 refine wpAny_bind (slicePart_none ?_)
 show wpAny _ _ (if ((1:Int)==0)=true then _ else _) _ _ s
 rw[if_neg (by decide)]
 refine wpAny_bind (qX pl (wpAny_bind (qX pu (wpAny_bind (wpAny_pure ?_)))))
 show wpAny _ _ (match Builtin.Slice.sliceAdjust lo hi 1 (n:Int) with|(lo,hi)=>pure (lo,(1:Int),Builtin.Slice.slicePlaces lo hi 1)) _ _ s
 rw[aD5 lo hi n]
 show wpAny _ _ (pure (((sIx n 0 lo:Nat):Int),(1:Int),Builtin.Slice.slicePlaces ((sIx n 0 lo:Nat):Int) ((sIx n n hi:Nat):Int) 1)) _ _ s
 rw[zR]
 exact wpAny_pure h
def aY4 (xs:Array Value)(i k:Nat):((List.range k).filterMap fun(m:Nat)=>xs[((i:Int)+(m)*1).toNat]?).toArray=((xs.toList.drop i).take k).toArray:=by
 have e:(fun(m:Nat)=>xs[((i:Int)+(m:Int)*1).toNat]?)=fun m=>xs[i+m]?:=by
  funext m
  have:((i:Int)+(m:Int)*1).toNat=i+m:=by lia
  rw[this]
 rw[e]
 have:=pick_run xs i k
 rw[List.filterMap_map] at this
 have e2:((fun x=>xs[x]?) ∘ fun x=>i+x)=fun m=>xs[i+m]?:=rfl
 rw[e2] at this
 rw[this]
def getItem_tuple_cut {lo hi}(ht:IsTup s.heap t items)(hs:s.heap.IsSliceOf sl vl vu .none)(pl:IsPart vl lo)(pu:IsPart vu hi)(hw:¬(sIx items.size 0 lo=0/\sIx items.size items.size hi=items.size))(h:Q (.ref s.heap.objs.size) { s with heap:=s.heap.push { cls:= .type "tuple",data:= .seq ((items.toList.drop (sIx items.size 0 lo)).take (sIx items.size items.size hi-sIx items.size 0 lo)).toArray } })(hsz:items.size<=sizeLine):wpAny (model prog w) A (getItem (.ref t) (.ref sl)) Q E s:=by
 have htake:sizeOk (.seq ((items.toList.drop (sIx items.size 0 lo)).take (sIx items.size items.size hi-sIx items.size 0 lo)).toArray):=by
  show((items.toList.drop (sIx items.size 0 lo)).take (sIx items.size items.size hi-sIx items.size 0 lo)).toArray.size<=sizeLine
  rw[List.size_toArray,List.length_take,List.length_drop,Array.length_toList]
  lia
 have hj:sIx items.size items.size hi<=items.size:=bM7 _ _ (Nat.le_refl _) hi
 obtain⟨os,hos,hcs,hds⟩:=id hs
 have hTs:s.TypeIs (.ref sl) "slice":=⟨os,hos,hcs⟩
 unfold getItem
 try with_reducible refine wpAny_holding ?_
 first|refine wpAny_bind (wpAny_pure ?_)|skip
 refine wpAny_bind (wpAny_sequenceKey ht.typeIs (by decide) ?_)
 refine wpAny_bind (wpAny_callSpecial?_slot (name:=Str.ofString "__getitem__") ht.typeIs PyProof.Rows.slot_tuple_getitem
  (wpAny_call_entry PyProof.Rows.slot_tuple_getitem ht.typeIs entry_tuple_getitem ?_ (args_tuple_getitem _ _)))
 show wpAny _ _ (Builtin.Tuple.tupleItemsOf (.ref t)>>=_) _ _ s
 refine wpAny_bind (tupleItemsOf_ ht ?_)
 refine wpAny_bind (wpAny_typeOf hTs ?_)
 rw[if_pos (by decide)]
 refine wpAny_bind (oU hs pl pu ?_)
 have hno:¬((((sIx items.size 0 lo:Nat):Int)==0&&(1:Int)==1&&(sIx items.size items.size hi-sIx items.size 0 lo)==items.size)=true):=by
  intro q
  rw[Bool.and_eq_true,Bool.and_eq_true] at q
  have q1:((sIx items.size 0 lo:Nat):Int)=0:=eq_of_beq q.1.1
  have q2:sIx items.size items.size hi-sIx items.size 0 lo=items.size:=eq_of_beq q.2
  exact hw ⟨by lia,by lia⟩
 show wpAny _ _ (if (((sIx items.size 0 lo:Nat):Int)==0&&(1:Int)==1&&(sIx items.size items.size hi-sIx items.size 0 lo)==items.size)=true then _ else _) _ _ s
 rw[if_neg hno,aY4]
 first
  |exact wpAny_bind (m:=Builtin.Tuple.tupleExact _) (wpAny_newObj_type (wpAny_pure ⟨_,rfl,wpAny_pure h⟩) htake)
  |exact wpAny_bind (m:=Builtin.Tuple.tupleExact _) (wpAny_newObj_type (wpAny_bind (wpAny_pure (wpAny_pure ⟨_,rfl,wpAny_pure h⟩))) htake)
  |exact wpAny_bind (wpAny_bind (m:=Builtin.Tuple.tupleExact _) (wpAny_newObj_type (wpAny_pure (wpAny_pure ⟨_,rfl,wpAny_pure h⟩)) htake))
  |exact wpAny_bind (wpAny_bind (m:=Builtin.Tuple.tupleExact _) (wpAny_newObj_type (wpAny_pure ⟨_,rfl,wpAny_pure h⟩) htake))
end
end HT
namespace L2
open PySem PySem.Spec PyProof.Rows
abbrev TO:=St->Hp->(Option Int->Hp->Prop)->Prop
def PO (X:Cx)(e:Option Expr)(t:TO):Prop:=
 ∀(pins:List (Addr×Obj)) (s:Shared) (σ:St) (H:Hp) (Q:Option Int->Hp->Prop),aX X pins σ H s->t σ H Q ->
  wpAny (model X.prog X.w) X.A (evalPart e X.env) (fun u s'=>∃o H',aX X pins σ H' s'/\IsPart u o/\Q o H') X.xe s
def tNoPart:TO:=fun _ H Q=>Q none H
def aY8 (t:TE):TO:=fun σ H Q=>t σ H fun x H1=>∃i,x= .int i/\Q (some i) H1
section
variable {X:Cx}{e:Expr}{te:TE}{lo hi:Option Expr}{tl th:TO}{pos p2:Pos}
def bV:PO X none tNoPart:=by
 intro pins s σ H Q I h
 rw[evalPart_none]
 exact ak ⟨none,H,I,.none,h⟩
def bR (h:PE X e te):PO X (some e) (aY8 te):=by
 intro pins s σ H Q I hw
 rw[evalPart_some]
 refine cV (h pins s σ H _ I hw) ?_;rintro u s1 ⟨x,H1,I1,r1,q1⟩
 obtain⟨i,rfl,q⟩:=q1
 obtain⟨t,rfl⟩:=r1
 exact⟨some i,H1,I1,.int i t,q⟩
def SlR (X:Cx)(r:V->Option Int->Option Int->Hp->VK->Prop):Prop:=
 ∀(pins:List (Addr×Obj)) (s:Shared) (σ:St) (H:Hp) (x:V) (v vl vu:Value) (lo hi:Option Int) (sl:Addr) (Q:VK),aX X pins σ H s->bL x v->s.heap.IsSliceOf sl vl vu .none->IsPart vl lo->IsPart vu hi->r x lo hi H Q ->
  ∃T id,typeLookup (.type T) "__getitem__"=pure (some (.builtin id))/\s.TypeIs v T/\wpAny (model X.prog X.w) X.A (getItem v (.ref sl)) (EP X pins σ Q) X.xe s
def tSl (r:V->Option Int->Option Int->Hp->VK->Prop)(te:TE)(tl th:TO):TE:=fun σ H Q=>te σ H fun x H1=>tl σ H1 fun l H2=>th σ H2 fun u H3=>r x l u H3 Q
def bK (hr:SlR X r)(he:PE X e te)(hl:PO X lo tl)(hu:PO X hi th):PE X (.Subscript e (.Slice lo hi none p2) pos) (tSl r te tl th):=by
 intro pins s σ H Q I h
 refine zx (cV (he pins s σ H _ I h) ?_);rintro v s1 ⟨x,H1,I1,r1,q1⟩
 refine wpAny_Slice (cV (hl pins s1 σ H1 _ I1 q1) ?_);rintro vl s2 ⟨l,H2,I2,pl,q2⟩;refine cV (hu pins s2 σ H2 _ I2 q2) ?_;rintro vu s3 ⟨u,H3,I3,pu,q3⟩
 rw[evalPart_none]
 refine ak ?_
 have I4:aX X pins σ H3 { s3 with heap:=s3.heap.push { cls:= .type "slice",data:= .fields #[vl,vu,.none] } }:=I3.kept (t':=s3.toks) fun b ob q=>af _ q
 obtain⟨T,id,hT,ht,hg⟩:=hr pins { s3 with heap:=s3.heap.push { cls:= .type "slice",data:= .fields #[vl,vu,.none] } } σ H3 x v vl vu l u s3.heap.objs.size Q I4 r1 (Heap.IsSliceOf.new ..) pl pu q3
 show wpAny (model X.prog X.w) X.A (subscriptTail e (.Slice lo hi none p2) v (.ref s3.heap.objs.size)) (EP X pins σ Q) X.xe { s3 with heap:=s3.heap.push { cls:= .type "slice",data:= .fields #[vl,vu,.none] } }
 exact tail_any (ops:=[.ref s3.heap.objs.size,v]) ht hT hg (by with_unfolding_all rfl)
def iB (xs:List V)(lo hi:Option Int):List V:=(xs.drop (HT.sIx xs.length 0 lo)).take (HT.sIx xs.length xs.length hi-HT.sIx xs.length 0 lo)
def pN (xs)(lo hi):(iB xs lo hi).length<=xs.length:=by
 unfold iB
 rw[bx,ku]
 lia
inductive bF8(K:PySem.W.Frag)(x:V)(lo:Option Int)(hi:Option Int)(H:Hp)(Q:VK):Prop
 |mk:∀a xs,x= .ref a->aQ K H a xs->(¬(HT.sIx xs.length 0 lo=0/\HT.sIx xs.length xs.length hi=xs.length))->(∀p,H p=none->Q (.ref p) (aN H p (.tup (iB xs lo hi))))->bF8 K x lo hi H Q
def eJ:SlR X (bF8 X.K):=by
 intro pins s σ H x v vl vu lo hi sl Q I rx hs pl pu h
 obtain⟨a,xs,rfl,hx,hw,q⟩:=h
 cases rx
 obtain⟨its,r,ht,hz⟩:=I.tuple hx
 have hlen:its.toArray.size=xs.length:=by rw[bn];exact r.length.symm
 refine⟨"tuple",_,PyProof.Rows.slot_tuple_getitem.lookup,ht.typeIs,?_⟩
 refine HT.getItem_tuple_cut ht hs pl pu (by rw[hlen];exact hw) ?_ (by rw[hlen];exact hz)
 rw[hlen]
 refine⟨.ref s.heap.objs.size,_,I.laid (t':=s.toks) (o:= .tup (iB xs lo hi)) (fun b ob q=>af _ q) (aj _) ?_,rfl,q _ (I.hok.fresh (aj _))⟩
 exact⟨cm (pN xs lo hi) hz,_,(r.drop (HT.sIx xs.length 0 lo)).take (HT.sIx xs.length xs.length hi-HT.sIx xs.length 0 lo),jV.new _ _⟩
inductive bL9(K:PySem.W.Frag)(x y:V)(H:Hp)(Q:VK):Prop
 |mk:∀a b xs ys,x= .ref a->y= .ref b->aQ K H a xs->aQ K H b ys->xs≠[]->xs.length+ys.length<=sizeLine->((ys=[]->Q (.ref a) H))->((ys≠[]->∀p,H p=none->Q (.ref p) (aN H p (.tup (xs++ys)))))->bL9 K x y H Q
def bM.nil_iff (r:bM xs us):us=[]↔xs=[]:=by
 cases r with
 |nil=>simp
 |cons _ _=>simp
def bF7:jU X (binaryOp .Add) (bL9 X.K):=by
 intro pins s σ H x y v u Q I rx ry h
 obtain⟨a,b,xs,ys,rfl,rfl,ha,hb,hx,hz,q1,q2⟩:=h
 cases rx
 cases ry
 obtain⟨its,r1,p1,_⟩:=I.tuple ha
 obtain⟨its2,r2,p2,_⟩:=I.tuple hb
 refine HT.cat_tup p1 p2 (fun z=>hx (r1.nil_iff.mp z)) (fun z=>⟨.ref a,H,I,rfl,q1 (r2.nil_iff.mp z)⟩) (fun z=>?_) (by rw[<-r1.length, <-r2.length];exact hz)
 refine⟨.ref s.heap.objs.size,_,I.laid (t':=s.toks) (o:= .tup (xs++ys)) (fun b ob q=>af _ q) (aj _) ?_,rfl,q2 (fun w=>z (r2.nil_iff.mpr w)) _ (I.hok.fresh (aj _))⟩
 exact⟨by rw[ah];exact hz,_,r1.append r2,jV.new _ _⟩
end
def zK (n:Nat)(i:Int):Option Nat:=if 0<=i then (if i<n then some i.toNat else none) else if -(n:Int)<=i then some (i+n).toNat else none
def nE {α:Type}(xs:List α)(i:Int):Option α:=(zK xs.length i).bind fun j=>xs[j]?
def aG8 (h:zK n i=some j):seqIndex? i n=some j/\j<n/\ -(n)<=i/\i<n:=by
 unfold zK at h
 by_cases h0:0<=i
 ·rw[bb h0] at h
  by_cases h1:i<n
  ·rw[bb h1] at h
   have e:i.toNat=j:=cu h
   exact⟨by rw[zf h0 h1,e],by lia,by lia,h1⟩
  ·rw[au h1] at h;cases h
 ·rw[au h0] at h
  by_cases h1: -(n:Int)<=i
  ·rw[bb h1] at h
   have e:(i+n).toNat=j:=cu h
   exact⟨by rw[ye (by lia) h1,e],by lia,h1,by lia⟩
  ·rw[au h1] at h;cases h
def wF (h:nE xs i=some v):∃j,seqIndex? i xs.length=some j/\xs[j]?=some v/\j<xs.length/\ -(xs.length:Int)<=i/\i<xs.length:=by
 unfold nE at h
 cases e:zK xs.length i with
 |none=>rw[e] at h;cases h
 |some j =>
  rw[e] at h
  obtain⟨h1,h2,h3,h4⟩:=aG8 e
  exact⟨j,h1,h,h2,h3,h4⟩
def aE6 {j:Nat}(h:xs[j]?=some v):nE xs (j)=some v:=by
 have hj:j<xs.length:=(bf.mp h).1
 have e:zK xs.length (j:Int)=some j:=by
  unfold zK
  rw[bb (by lia),bb (by lia)];simp
 unfold nE;rw[e];exact h
def aE3 (b:Expr):Prop:=∀o i,subscripted b false o i=operate [o,i] (getItem o i)
def IxR (X:Cx)(r:R2):Prop:=
 ∀(value slice:Expr) (pins:List (Addr×Obj)) (s:Shared) (σ:St) (H:Hp) (x y:V) (v u:Value) (Q:VK),aX X pins σ H s->bL x v->bL y u->r x y H Q ->
  subscripted slice false v u=operate [v,u] (getItem v u)->wpAny (model X.prog X.w) X.A (subscriptTail value slice v u) (EP X pins σ Q) X.xe s
def MtR (X:Cx)(id:String)(r:V->List V->Hp->VK->Prop):Prop:=
 ∀(pins:List (Addr×Obj)) (s:Shared) (σ:St) (H:Hp) (x:V) (xs:List V) (v:Value) (us:List Value) (Q:VK),aX X pins σ H s->bL x v->bM xs us->r x xs H Q ->
  wpAny (model X.prog X.w) X.A (call (.builtin id) (v::us)) (EP X pins σ Q) X.xe s
section
variable {X:Cx}{a b:Expr}{ta tb:TE}{pos:Pos}
def cC6 (hr:IxR X r)(ha:PE X a ta)(hb:PE X b tb)(hs:aE3 b):PE X (.Subscript a b pos) (tOp r ta tb):=by
 intro pins s σ H Q I h
 exact zx (bW4 ha hb I h fun v u s2 x y H2 I2 rx ry q=>hr a b pins s2 σ H2 x y v u Q I2 rx ry q (hs _ _))
inductive cA0(K:PySem.W.Frag)(x y:V)(H:Hp)(Q:VK):Prop
 |mk:∀p xs i v,x= .ref p->y= .int i->bJ K H p xs->nE xs i=some v->Q v H->cA0 K x y H Q
inductive bU0(K:PySem.W.Frag)(x y:V)(H:Hp)(Q:VK):Prop
 |mk:∀p xs i v,x= .ref p->y= .int i->aQ K H p xs->nE xs i=some v->Q v H->bU0 K x y H Q
inductive rIxS(x y:V)(H:Hp)(Q:VK):Prop
 |mk:∀z i c,x= .str z->y= .int i->z.length<=sizeLine->nE z.cps.toList i=some c->Q (.str ⟨#[c]⟩) H->rIxS x y H Q
def fP:IxR X (cA0 X.K):=by
 intro value slice pins s σ H x y v u Q I rx ry h hs
 obtain⟨p,xs,i,z,rfl,rfl,hq,he,q⟩:=h
 cases rx
 obtain⟨t,rfl⟩:=ry
 obtain⟨its,r,pl,hz⟩:=I.list hq
 obtain⟨j,h1,h2,h3,h4,h5⟩:=wF he
 obtain⟨w,ew,rw'⟩:=r.get h2
 have hl:=r.length
 have hn:=lI
 have fin:EP X pins σ Q w s:=⟨z,H,I,rw',q⟩
 by_cases h0:0<=i
 ·have hj:i.toNat=j:=by
   rw[zf h0 h5] at h1
   exact cu h1
  exact item_listR pl.isList h0 (by lia) (by rw[hj];simpa using ew) fin hs
 ·have hj:(i+(its.toArray.size:Int)).toNat=j:=by
   rw[ye (by lia) h4] at h1
   rw[bn, <-hl]
   exact cu h1
  exact vy (x:=w) pl.isList.typeIs slot_list_getitem.lookup
   (vz (Q:=fun r s'=>r=w/\EP X pins σ Q r s') pl.isList (by lia) (by rw[bn]<;>lia) (by lia) (by rw[hj];simpa using ew) ⟨rfl,fin⟩) hs
def aI:IxR X (bU0 X.K):=by
 intro value slice pins s σ H x y v u Q I rx ry h hs
 obtain⟨p,xs,i,z,rfl,rfl,hq,he,q⟩:=h
 cases rx
 obtain⟨t,rfl⟩:=ry
 obtain⟨its,r,pl,hz⟩:=I.tuple hq
 obtain⟨j,h1,h2,h3,h4,h5⟩:=wF he
 obtain⟨w,ew,rw'⟩:=r.get h2
 have hl:=r.length
 have hn:=lI
 have fin:EP X pins σ Q w s:=⟨z,H,I,rw',q⟩
 exact vy (x:=w) pl.typeIs slot_tuple_getitem.lookup
  (getItem_tuple (j:=j) (Q:=fun r s'=>r=w/\EP X pins σ Q r s') pl (by lia) (by lia) (by rw[bn, <-hl];exact h1) (by simpa using ew) ⟨rfl,fin⟩) hs
def wV:IxR X rIxS:=by
 intro value slice pins s σ H x y v u Q I rx ry h hs
 obtain⟨z,i,c,rfl,rfl,hz,he,q⟩:=h
 obtain⟨t,rfl⟩:=rx
 obtain⟨t',rfl⟩:=ry
 obtain⟨j,h1,h2,h3,h4,h5⟩:=wF he
 have hl:z.cps.toList.length=z.length:=by simp[Str.length]
 rw[hl] at h1 h4 h5
 have hn:=lI
 exact tail_any (zy s z t) slot_str_getitem.lookup (getItem_str (c:=c) (by
  have e1:decide (i < -(2^63:Int))=false:=ba (by lia)
  have e2:decide (i ≥ 2^63)=false:=ba (by lia)
  rw[e1,e2,Bool.or_false]) (by rw[h1];simpa using h2) ⟨.str ⟨#[c]⟩,H,I.tok _,⟨_,rfl⟩,q⟩) hs
def zP (its:List Value)(n j)(u):Obj.mapSeq (·.setIfInBounds j u) { cls:= .type "list",data:= .seq its.toArray n }={ cls:= .type "list",data:= .seq (its.set j u).toArray n }:=by
 simp[Obj.mapSeq]
def aX.lst {σ:St}(I:aX X pins σ H s)(h:H p=some (.lst xs)):
  ∃(its:List Value) (n:Nat),bM xs its/\s.heap.get? p=some { cls:= .type "list",data:= .seq its.toArray n }/\xs.length<=sizeLine:=by
 obtain⟨z,its,n,r,e⟩:=I.hok p _ h
 exact⟨its,n,r,e,z⟩
def aX.lstUpd {σ:St}{its its':List Value}(I:aX X pins σ H s)(h:H p=some (.lst xs))(ho:s.heap.get? p=some { cls:= .type "list",data:= .seq its.toArray n })(hf:f { cls:= .type "list",data:= .seq its.toArray n }={ cls:= .type "list",data:= .seq its'.toArray n' })(r:bM ys its')(hz:ys.length<=sizeLine)(t):
  aX X pins σ (aN H p (.lst ys)) { s with heap:=s.heap.update p f,toks:=t }:=by
 have e:(s.heap.update p f).get? p=some { cls:= .type "list",data:= .seq its'.toArray n' }:=by
  rw[ik f ho (by rw[hf]<;>rfl),hf]
 refine I.write (x:=p) (e:=p) (by rw[h];trivial) (.inl rfl) (fun b u hb q=>(pi _ _ (Ne.symm hb)).trans q) ⟨_,e⟩ ?_
 exact⟨hz,its',n',r,e⟩
inductive rSetL(o:V)(i:V)(v:V)(H:Hp)(Q:(Hp->Prop)):Prop
 |mk:∀p xs k j,o= .ref p->i= .int k->H p=some (.lst xs)->zK xs.length k=some j->Q (aN H p (.lst (xs.set j v)))->rSetL o i v H Q
def sP:bH3 X rSetL:=by
 intro pins s σ H o i v ov iv u Q I ro ri rv h
 obtain⟨p,xs,k,j,rfl,rfl,hp,hj,q⟩:=h
 cases ro
 obtain⟨t,rfl⟩:=ri
 obtain⟨its,n,r,ho,hz⟩:=I.lst hp
 obtain⟨h1,h2,h3,h4⟩:=aG8 hj
 have hl:=r.length
 have hn:=lI
 have I':aX X pins σ (aN H p (.lst (xs.set j v))) { s with heap:=s.heap.update p (Obj.mapSeq (·.setIfInBounds j u)) }:=
  I.lstUpd hp ho (zP its n j u) (r.set rv j) (by rw[qo];exact hz) s.toks
 by_cases h0:0<=k
 ·have hk:k.toNat=j:=by
   rw[zf h0 h4] at h1
   exact cu h1
  exact PySem.W.ki_setAt ho h0 (by lia) (by rw[bn, <-hl];exact h4) (by rw[hk];exact⟨_,I',q⟩)
 ·have hk:(k+(its.toArray.size:Int)).toNat=j:=by
   rw[ye (by lia) h3] at h1
   rw[bn, <-hl]
   exact cu h1
  exact PySem.W.ki_setBack ho (by lia) (by rw[bn, <-hl];exact h3) (by lia) (by rw[hk];exact⟨_,I',q⟩)
def wE (lo hi)(n):(sliceBounds lo hi none n).1=((HT.sIx n 0 lo:Nat):Int)/\(sliceBounds lo hi none n).2.1=((HT.sIx n n hi:Nat):Int)/\(sliceBounds lo hi none n).2.2=1:=by
 refine⟨?_,?_,rfl⟩
 ·cases lo with
  |none=>simp[sliceBounds,HT.sIx]
  |some i =>
   simp only[sliceBounds,HT.sIx,Option.getD_none,show(1:Int) > 0 by decide,if_true]
   by_cases h:i<0
   ·simp only[h,if_true]<;>lia
   ·simp only[h,if_false]<;>lia
 ·cases hi with
  |none=>simp[sliceBounds,HT.sIx]
  |some i =>
   simp only[sliceBounds,HT.sIx,Option.getD_none,show(1:Int) > 0 by decide,if_true]
   by_cases h:i<0
   ·simp only[h,if_true]<;>lia
   ·simp only[h,if_false]<;>lia
def uC (its:List Value)(lo hi):slicePick its.toArray lo hi none=((its.drop (HT.sIx its.length 0 lo)).take (HT.sIx its.length its.length hi-HT.sIx its.length 0 lo)).toArray:=by
 obtain⟨h1,h2,h3⟩:=wE lo hi its.toArray.size
 unfold slicePick
 rw[h1,h2,h3]
 simp only[sliceRange_one,pick_run,List.size_toArray]<;>rfl
inductive cF8(K:PySem.W.Frag)(x:V)(lo:Option Int)(hi:Option Int)(H:Hp)(Q:VK):Prop
 |mk:∀a xs,x= .ref a->bJ K H a xs->(∀p,H p=none->Q (.ref p) (aN H p (.lst (iB xs lo hi))))->cF8 K x lo hi H Q
def jA:SlR X (cF8 X.K):=by
 intro pins s σ H x v vl vu lo hi sl Q I rx hs pl pu h
 obtain⟨a,xs,rfl,hx,q⟩:=h
 cases rx
 obtain⟨its,r,ht,hz⟩:=I.list hx
 have hlen:=r.length
 refine⟨"list",_,slot_list_getitem.lookup,ht.isList.typeIs,?_⟩
 refine wpAny_getItem_list_slice ht.isList hs pl pu .none (by simp) ?_ (by rw[List.size_toArray]<;>lia)
 rw[uC, <-hlen]
 refine⟨.ref s.heap.objs.size,_,I.laid (t':=s.toks) (o:= .lst (iB xs lo hi)) (fun b ob q=>af _ q) (aj _) ?_,rfl,q _ (I.hok.fresh (aj _))⟩
 exact⟨cm (pN xs lo hi) hz,_,0,(r.drop (HT.sIx xs.length 0 lo)).take (HT.sIx xs.length xs.length hi-HT.sIx xs.length 0 lo),bc _ rfl⟩
def mP:V->Bool
 |.non=>true
 |.bl _=>true
 |.int _=>true
 |.str _=>true
 |_=>false
def eqV:V->V->Bool
 |.non,.non=>true
 |.bl a,.bl b=>a==b
 |.bl a,.int b=>(if a then 1 else 0)==b
 |.int a,.bl b=>a==(if b then 1 else 0)
 |.int a,.int b=>a==b
 |.str a,.str b=>a==b
 |_,_=>false
def bW0 (ry:bL y u)(rx:bL x v)(fy:mP y=true)(fx:mP x=true):SeqAt.EqAt A s u v (eqV y x):=by
 cases y with
 |non =>
  cases ry
  cases x with
  |non=>cases rx;exact vn _
  |bl b=>cases rx;exact SeqAt.EqAt.none_bool b
  |int b=>obtain⟨t,rfl⟩:=rx;exact SeqAt.EqAt.none_int b t
  |str b=>obtain⟨t,rfl⟩:=rx;exact SeqAt.EqAt.none_str b t
  |_=>exact absurd (show false=true from fx) bh
 |bl a =>
  cases ry
  cases x with
  |non=>cases rx;exact SeqAt.EqAt.bool_none a
  |bl b=>cases rx;exact SeqAt.EqAt.bool_bool a b
  |int b=>obtain⟨t,rfl⟩:=rx;exact SeqAt.EqAt.bool_int a b t
  |str b=>obtain⟨t,rfl⟩:=rx;exact SeqAt.EqAt.bool_str a b t
  |_=>exact absurd (show false=true from fx) bh
 |int a =>
  obtain⟨t',rfl⟩:=ry
  cases x with
  |non=>cases rx;exact SeqAt.EqAt.int_none a t'
  |bl b=>cases rx;exact SeqAt.EqAt.int_bool a t' b
  |int b=>obtain⟨t,rfl⟩:=rx;exact SeqAt.EqAt.int_int a t' b t
  |str b=>obtain⟨t,rfl⟩:=rx;exact xx a t' b t
  |_=>exact absurd (show false=true from fx) bh
 |str a =>
  obtain⟨t',rfl⟩:=ry
  cases x with
  |non=>cases rx;exact SeqAt.EqAt.str_none a t'
  |bl b=>cases rx;exact SeqAt.EqAt.str_bool a t' b
  |int b=>obtain⟨t,rfl⟩:=rx;exact xy a t' b t
  |str b=>obtain⟨t,rfl⟩:=rx;exact SeqAt.EqAt.str_str a t' b t
  |_=>exact absurd (show false=true from fx) bh
 |_=>exact absurd (show false=true from fy) bh
def eqU (x:V)(u:Value):Bool:=match u with
 |.none=>eqV .non x
 |.bool b=>eqV (.bl b) x
 |.int i _=>eqV (.int i) x
 |.str z _=>eqV (.str z) x
 |_=>false
def aN7 (r:bL y u)(f:mP y=true):eqU x u=eqV y x:=by
 cases y with
 |non=>cases r;rfl
 |bl b=>cases r;rfl
 |int i=>obtain⟨t,rfl⟩:=r;rfl
 |str z=>obtain⟨t,rfl⟩:=r;rfl
 |_=>exact absurd (show false=true from f) bh
def nX:∀{xs us},bM xs us->xs.all mP=true->us.any (eqU x)=xs.any fun y=>eqV y x
 |_,_,.nil,_=>rfl
 |y::xs,u::us,.cons r t,f=>by
  rw[xj,mj] at f
  rw[mx,mx,aN7 r f.1,nX t f.2]
def lK (rx:bL x v)(fx:mP x=true):∀{xs us},bM xs us->xs.all mP=true->∀u∈us,SeqAt.EqAt A s u v (eqU x u)
 |_,_,.nil,_=>fun u hu=>by cases hu
 |y::xs,u::us,.cons r t,f=>fun u' hu=>by
  rw[xj,mj] at f
  rcases bv.mp hu with rfl|hu
  ·rw[aN7 r f.1];exact bW0 r rx f.1 fx
  ·exact lK rx fx t f.2 u' hu
def lV (x:V)(xs:List V):Bool:=xs.any fun y=>eqV y x
inductive rIn(K:PySem.W.Frag)(neg:Bool)(x y:V)(H:Hp)(Q:VK):Prop
 |mk:∀p xs,y= .ref p->((bJ K H p xs\/aQ K H p xs))->mP x=true->xs.all mP=true->(Q (.bl (if neg then !lV x xs else lV x xs)) H)->rIn K neg x y H Q
def dN:jU X (compareOp .In) (rIn X.K false):=by
 intro pins s σ H x y v u Q I rx ry h
 obtain⟨p,xs,rfl,hq,fx,fs,q⟩:=h
 cases ry
 rcases hq with hq|hq
 ·obtain⟨its,r,pl,hz⟩:=I.list hq
  refine SeqAt.in_listAt (eqU x) pl.isList (fun w hw=>lK rx fx r fs w (by simpa using hw)) ⟨.bl _,H,I,rfl,?_⟩
  rw[show its.toArray.any (eqU x)=its.any (eqU x) by simp,nX r fs]
  exact q
 ·obtain⟨its,r,pl,hz⟩:=I.tuple hq
  refine SeqAt.in_tupleAt (eqU x) pl (fun w hw=>lK rx fx r fs w (by simpa using hw)) ⟨.bl _,H,I,rfl,?_⟩
  rw[show its.toArray.any (eqU x)=its.any (eqU x) by simp,nX r fs]
  exact q
def hV:jU X (compareOp .NotIn) (rIn X.K true):=by
 intro pins s σ H x y v u Q I rx ry h
 obtain⟨p,xs,rfl,hq,fx,fs,q⟩:=h
 cases ry
 rcases hq with hq|hq
 ·obtain⟨its,r,pl,hz⟩:=I.list hq
  refine SeqAt.notIn_listAt (eqU x) pl.isList (fun w hw=>lK rx fx r fs w (by simpa using hw)) ⟨.bl _,H,I,rfl,?_⟩
  rw[show its.toArray.any (eqU x)=its.any (eqU x) by simp,nX r fs]
  exact q
 ·obtain⟨its,r,pl,hz⟩:=I.tuple hq
  refine SeqAt.notIn_tupleAt (eqU x) pl (fun w hw=>lK rx fx r fs w (by simpa using hw)) ⟨.bl _,H,I,rfl,?_⟩
  rw[show its.toArray.any (eqU x)=its.any (eqU x) by simp,nX r fs]
  exact q
def aV:eL X (.builtin "len") (fun xs H Q=>∃p ys,xs=[.ref p]/\(bJ X.K H p ys\/aQ X.K H p ys)/\Q (.int ys.length) H):=by
 intro pins s σ H xs us Q I r h
 obtain⟨p,ys,rfl,hq,q⟩:=h
 obtain⟨u,rfl,rx⟩:=gP r
 cases rx
 have hn:=lI
 rcases hq with hq|hq
 ·obtain⟨its,r',pl,hz⟩:=I.list hq
  have hlen:=r'.length
  exact Calls.call_len_list pl.isList (by simp only[List.size_toArray]<;>lia) ⟨.int ys.length,H,I.tok _,⟨s.toks+1,by rw[bn,hlen]⟩,q⟩
 ·obtain⟨its,r',pl,hz⟩:=I.tuple hq
  have hlen:=r'.length
  exact len_tuple pl (by simp only[List.size_toArray]<;>lia) ⟨.int ys.length,H,I.tok _,⟨s.toks+1,by rw[bn,hlen]⟩,q⟩
def gF:eL X (.builtin "len") (fun xs H Q=>∃z,xs=[.str z]/\z.length<=sizeLine/\Q (.int z.length) H):=by
 intro pins s σ H xs us Q I r h
 obtain⟨z,rfl,hz,q⟩:=h
 obtain⟨u,rfl,t,rfl⟩:=gP r
 have hn:=lI
 exact len_str (by lia) ⟨.int z.length,H,I.tok _,⟨_,rfl⟩,q⟩
def hZ:eL X (.type "list") (fun xs H Q=>∃p ys,xs=[.ref p]/\(bJ X.K H p ys\/aQ X.K H p ys)/\∀l,H l=none->Q (.ref l) (aN H l (.lst ys))):=by
 intro pins s σ H xs us Q I r h
 obtain⟨p,ys,rfl,hq,q⟩:=h
 obtain⟨u,rfl,rx⟩:=gP r
 cases rx
 have fin:∀(its:List Value),bM ys its->ys.length<=sizeLine->∀(h':Heap) (c':Nat),(∀b o',s.heap.get? b=some o'->h'.get? b=some o') ->
   h'.get? s.heap.objs.size=some { cls:= .type "list",dict:=none,data:= .seq its.toArray c',slots:= #[] }->EP X pins σ Q (.ref s.heap.objs.size) { s with heap:=h' }:=fun its r' hz h' c' kp e =>
  ⟨.ref s.heap.objs.size,_,I.laid (t':=s.toks) kp (aj _) (show bZ X.prog X.w _ h' _ (.lst ys) from⟨hz,its,c',r',e⟩),rfl,q _ (I.hok.fresh (aj _))⟩
 rcases hq with hq|hq
 ·obtain⟨its,r',pl,hz⟩:=I.list hq
  have hlen:=r'.length
  obtain⟨o,ho,hc,n,hd⟩:=pl.isList
  exact call_list_seq p (.inl rfl) ho hc hd (fun h' c' kp e=>fin its r' hz h' c' kp e) (by simp only[List.size_toArray]<;>lia)
 ·obtain⟨its,r',pl,hz⟩:=I.tuple hq
  have hlen:=r'.length
  obtain⟨o,ho,hc,n,hd⟩:=pl
  exact call_list_seq p (.inr rfl) ho hc hd (fun h' c' kp e=>fin its r' hz h' c' kp e) (by simp only[List.size_toArray]<;>lia)
def bT:eL X (.type "tuple") (fun xs H Q=>∃p ys,xs=[.ref p]/\((bJ X.K H p ys/\∀l,H l=none->Q (.ref l) (aN H l (.tup ys)))\/(aQ X.K H p ys/\Q (.ref p) H))):=by
 intro pins s σ H xs us Q I r h
 obtain⟨p,ys,rfl,h⟩:=h
 obtain⟨u,rfl,rx⟩:=gP r
 cases rx
 rcases h with⟨hq,q⟩|⟨hq,q⟩
 ·obtain⟨its,r',pl,hz⟩:=I.list hq
  have hlen:=r'.length
  refine call_tuple_list pl.isList (fun h' kp=>?_) (by simp only[List.size_toArray]<;>lia)
  have I1:aX X pins σ H { s with heap:=h' }:=I.kept (t':=s.toks) kp
  have I2:aX X pins σ (aN H h'.objs.size (.tup ys)) { s with heap:=h'.push { cls:= .type "tuple",data:= .seq its.toArray } }:=
   I1.laid (t':=s.toks) (fun b o e=>af _ e) (aj _) (show bZ X.prog X.w _ _ _ (.tup ys) from⟨hz,its,r',jV.new _ _⟩)
  exact⟨.ref h'.objs.size,_,I2,rfl,q _ (I1.hok.fresh (aj _))⟩
 ·obtain⟨its,r',pl,hz⟩:=I.tuple hq
  exact call_tuple_same pl ⟨.ref p,H,I,rfl,q⟩
def tyV (K:PySem.W.Frag)(T:String)(x:V)(H:Hp):Prop:=match x with
 |.str _=>T="str"
 |.int _=>T="int"
 |.ref p=>(T="list"/\∃xs,bJ K H p xs)\/(T="tuple"/\∃o,K.lookup p=some o/\o.cls= .type "tuple"/\o.dict=none) \/
   (T="dict"/\((∃kvs,H p=some (.dK kvs))\/∃kvs,H p=some (.dT kvs)))\/(T="set"/\∃S n,H p=some (.set S n))
 |_=>False
def bA3 {σ:St}(I:aX X pins σ H s)(r:bL x v)(ty:tyV X.K T x H):
  s.TypeIs v T/\∀a,v= .ref a->∃ob,s.heap.get? a=some ob/\ob.dict=none:=by
 cases x with
 |str z =>
  obtain⟨t,rfl⟩:=r
  cases(show T="str" from ty)
  exact⟨zy s z t,fun _ e=>nomatch e⟩
 |int i =>
  obtain⟨t,rfl⟩:=r
  cases(show T="int" from ty)
  exact⟨zz s i t,fun _ e=>nomatch e⟩
 |ref p =>
  cases r
  rcases ty with⟨rfl,xs,hq⟩|⟨rfl,o,hk,hc,hd⟩|⟨rfl,hk⟩|⟨rfl,S,n,hk⟩
  ·obtain⟨its,_,pl,_⟩:=I.list hq
   refine⟨pl.isList.typeIs,fun a e=>?_⟩
   cases e
   obtain⟨o,n,e,c,hd,_⟩:=pl
   exact⟨o,e,hd⟩
  ·refine⟨⟨o,I.kIn p o hk,hc⟩,fun a e=>?_⟩
   cases e
   exact⟨o,I.kIn _ o hk,hd⟩
  ·have z:∃o,s.heap.get? p=some o/\o.ExactDict:=by
    rcases hk with⟨kvs,hk⟩|⟨kvs,hk⟩
    ·obtain⟨_,_,_,_,o,_,_,e,ex,_⟩:=I.hok p _ hk
     exact⟨o,e,ex⟩
    ·obtain⟨_,_,_,_,o,_,_,e,ex,_⟩:=I.hok p _ hk
     exact⟨o,e,ex⟩
   obtain⟨o,e,ex⟩:=z
   refine⟨⟨o,e,ex.1⟩,fun a e2=>?_⟩
   cases e2
   exact⟨o,e,ex.2.1⟩
  ·obtain⟨o,_,_,_,e,ex,_⟩:=I.hok p _ hk
   refine⟨⟨o,e,ex.1⟩,fun a e2=>?_⟩
   cases e2
   exact⟨o,e,ex.2.1⟩
 |_=>exact False.elim ty
def cH5 (K:PySem.W.Frag)(T:String)(r:V->List V->Hp->VK->Prop)(to:TE):TE:=fun σ H Q=>to σ H fun x H1=>tyV K T x H1/\r x [] H1 Q
def tBM (K:PySem.W.Frag)(T:String)(r:V->List V->Hp->VK->Prop)(to:TE)(t:TA):TE:=fun σ H Q=>to σ H fun x H1=>tyV K T x H1/\t σ H1 fun xs H2=>r x xs H2 Q
variable {o e:Expr}{es:List Expr}{to:TE}{t:TA}{name:Str}{apos cpos:Pos}{T id:String}{r:V->List V->Hp->VK->Prop}
def lM (pa:PlainAttrs T)(slot:Slot T name id)(hty:typeOf (.builtin id)=pure (.type "method_descriptor"))(hm:MtR X id r)(ho:PE X o to)(hbase:autoParam (attributeBase o name X.env (eval o X.env)=eval o X.env) Rq0._auto_1)(hline:autoParam ((apos.endLine==cpos.line)=true) Rq0._auto_1):PE X (.Call (.Attribute o name apos) [] [] cpos) (cH5 X.K T r to):=by
 intro pins s σ H Q I h
 refine wpAny_Call_method0_late hbase hline (cV (ho pins s σ H _ I h) ?_);rintro v s1 ⟨x,H1,I1,r1,ty,q1⟩
 obtain⟨h1,h2⟩:=bA3 I1 r1 ty
 exact⟨T,id,pa,slot,hty,h1,h2,lu rfl (PySem.evalArgs_none (hm pins s1 σ H1 x [] v [] Q I1 r1 .nil q1))⟩
def fG (pa:PlainAttrs T)(slot:Slot T name id)(hty:typeOf (.builtin id)=pure (.type "method_descriptor"))(hm:MtR X id r)(ho:PE X o to)(ha:PA X (e::es) t)(hbase:autoParam (attributeBase o name X.env (eval o X.env)=eval o X.env) Rq0._auto_1)(hfew:autoParam (((backTo cpos (starEach (e::es) X.env)).all (fun x=> !x.1)&&(backToKw cpos (keywordEach [] X.env)).all (fun x=>x.1.isSome)
   && decide ((e::es).length+([]:List Keyword).length+(if ([]:List Keyword).isEmpty then 0 else 1)<30))=true) Rq0._auto_1)(hline:autoParam ((apos.endLine==cpos.line)=true) Rq0._auto_1)(hs:autoParam (starEach (e::es) X.env=(false,eval e X.env)::starEach es X.env) Rq0._auto_1)(hplain:autoParam ((backTo cpos (starEach es X.env)).any (·.1)=false) Rq0._auto_1):
  PE X (.Call (.Attribute o name apos) (e::es) [] cpos) (tBM X.K T r to t):=by
 intro pins s σ H Q I h
 refine wpAny_Call_method_late hbase hfew hline rfl (cV (ho pins s σ H _ I h) ?_);rintro v s1 ⟨x,H1,I1,r1,ty,q1⟩
 obtain⟨h1,h2⟩:=bA3 I1 r1 ty
 refine⟨T,id,pa,slot,hty,h1,h2,?_⟩
 have hA:=ha cpos pins s1 σ H1 _ I1 q1
 rw[hs] at hA ⊢
 refine lu (by show(false || (backTo cpos (starEach es X.env)).any (·.1))=false;rw[hplain]<;>rfl) (qm ?_)
 refine cV hA ?_;rintro us s2 ⟨vs,H2,I2,r2,q2⟩;exact hm pins s2 σ H2 x vs v us Q I2 r1 r2 q2
end
def MtM (X:Cx)(id:String)(r:V->List V->Hp->VK->Prop):Prop:=
 ∀(pins:List (Addr×Obj)) (s:Shared) (σ:St) (H:Hp) (x:V) (xs:List V) (v:Value) (us:List Value) (Q:VK),aX X pins σ H s->bL x v->bM xs us->r x xs H Q ->
  wpAny (model X.prog X.w) X.A (call (.builtin id) (v::us)) (EP X pins σ Q) X.xe s
def bM.one:∀{x us},bM [x] us->∃u,us=[u]/\bL x u
 |_,_,.cons r .nil=>⟨_,rfl,r⟩
def bM.zero:∀{us},bM [] us->us=[]
 |_,.nil=>rfl
def bM.dropLast (h:bM xs us):bM xs.dropLast us.dropLast:=by
 induction h with
 |nil=>exact .nil
 |cons r t ih =>
  cases t with
  |nil=>exact .nil
  |cons q t'=>exact .cons r ih
def bM.reverse (h:bM xs us):bM xs.reverse us.reverse:=by
 induction h with
 |nil=>exact .nil
 |cons r t ih=>rw[dg,dg];exact bM.append ih (.cons r .nil)
def zU {α:Type}(l:List α):l.eraseIdx (l.length-1)=l.dropLast:=by
 induction l with
 |nil=>rfl
 |cons a r ih =>
  cases r with
  |nil=>rfl
  |cons b r =>
   have e:(a::b::r).length-1=((b::r).length-1)+1:=by
    rfl
   rw[e,List.eraseIdx_cons_succ,ih]
   all_goals rfl
def uL (its):∀k (acc:List Value),
  List.foldl (fun x1 x2=>x1++x2) acc.toArray (List.replicate k its.toArray)=(acc++(List.replicate k its).flatten).toArray
 |0,acc=>by simp
 |k+1,acc=>by
  have e:acc.toArray++its.toArray=(acc++its).toArray:=by simp
  have e2:(acc++its)++(List.replicate k its).flatten=acc++(List.replicate (k+1) its).flatten:=by
   rw[nq,yw,kj]
  rw[<-e2, <-uL its k (acc++its), <-e,nq,jk]
section
variable {X:Cx}{pins:List (Addr×Obj)}{σ:St}{H:Hp}{s:Shared}{l b:Addr}{xs ys zs:List V}
def aX.lset {its its':List Value}(I:aX X pins σ H s)(hH:H l=some (.lst xs))(e:s.heap.get? l=some { cls:= .type "list",data:= .seq its.toArray n })(hf:f its.toArray=its'.toArray)(hv:bM ys its')(hz:ys.length<=sizeLine):
  aX X pins σ (aN H l (.lst ys)) { s with heap:=s.heap.update l (Obj.mapSeq f),toks:=t' }:=by
 have q:=PySem.IsL.update e f
 rw[hf] at q
 refine I.write (x:=l) (e:=l) (by rw[hH];exact trivial) (.inl rfl) (fun b' u hb hu=>(pi s.heap (Obj.mapSeq f) (Ne.symm hb)).trans hu) ⟨_,q⟩ ?_
 exact⟨hz,its',_,hv,q⟩
def aX.lnew (I:aX X pins σ H s)(hv:bM ys its)(hz:ys.length<=sizeLine):
  aX X pins σ (aN H s.heap.objs.size (.lst ys)) { s with heap:=s.heap.push { cls:= .type "list",data:= .seq its.toArray },toks:=t' }:=
 I.laid (fun _ _ q=>af _ q) (aj _) ⟨hz,its,0,hv,bc _ rfl⟩
def aX.fresh (I:aX X pins σ H s):H s.heap.objs.size=none:=I.hok.fresh (aj _)
def aX.lstM (I:aX X pins σ H s)(hH:H l=some (.lst xs)):xs.length<=sizeLine/\∃(its:List Value) (n:Nat),bM xs its/\xs.length=its.length/\s.heap.get? l=some { cls:= .type "list",data:= .seq its.toArray n }:=by
 obtain⟨z,its,n,r,e⟩:=I.hok l _ hH
 exact⟨z,its,n,r,r.length,e⟩
def aY2 (h:n<=sizeLine):Builtin.List.listTooLong n=false:=by
 unfold Builtin.List.listTooLong
 exact ba (by lia)
end
section
variable {X:Cx}
inductive rAppend(x:V)(vs:List V)(H:Hp)(Q:VK):Prop
 |mk:∀l xs y,x= .ref l->vs=[y]->H l=some (.lst xs)->xs.length<sizeLine->Q .non (aN H l (.lst (xs++[y])))->rAppend x vs H Q
def cU:MtM X "list.append" rAppend:=by
 intro pins s σ H x vs v us Q I rx rv h
 obtain⟨l,xs,y,rfl,rfl,hH,hz,q⟩:=h
 cases rx
 obtain⟨u,rfl,ru⟩:=rv.one
 obtain⟨z,its,n,r,hl,e⟩:=I.lstM hH
 refine mo F.slot_list_append ⟨_,e,rfl⟩ F.entry_list_append (F.args_list_append_2 _ _) (PySem.list_append l its.toArray n u (by rw[bn];lia)) ⟨e,?_⟩
 refine⟨.non,_,I.lset (its':=its++[u]) hH e (by simp) (r.append (.cons ru .nil)) ?_,rfl,q⟩
 rw[ah,jv]
 lia
inductive rExtend(x:V)(vs:List V)(H:Hp)(Q:VK):Prop
 |mk:∀l b xs zs,x= .ref l->vs=[.ref b]->H l=some (.lst xs)->H b=some (.lst zs)->xs.length+zs.length<=sizeLine->Q .non (aN H l (.lst (xs++zs)))->rExtend x vs H Q
def iG:MtM X "list.extend" rExtend:=by
 intro pins s σ H x vs v us Q I rx rv h
 obtain⟨l,b,xs,zs,rfl,rfl,hH,hB,hz,q⟩:=h
 cases rx
 obtain⟨u,rfl,ru⟩:=rv.one
 cases ru
 obtain⟨z,its,n,r,hl,e⟩:=I.lstM hH
 obtain⟨z2,its2,n2,r2,hl2,e2⟩:=I.lstM hB
 have hsz:its.toArray.size+its2.toArray.size<=sizeLine:=by rw[bn,bn];lia
 have hlong:¬(!its.toArray.isEmpty&&Builtin.List.listTooLong (its.toArray.size+its2.toArray.size))=true:=by
  rw[aY2 hsz,Bool.and_false]
  exact bh
 refine mo F.slot_list_extend ⟨_,e,rfl⟩ F.entry_list_extend (F.args_list_extend_2 _ _)
  (AutoSeq1.list_extend_list_list_0 l its.toArray n b its2.toArray n2 hlong (by rw[bn];lia) (by lia)) ⟨e,e2,?_⟩
 refine⟨.non,_,I.lset (its':=its++its2) hH e (by simp) (r.append r2) ?_,rfl,q⟩
 rw[ah]
 lia
inductive rPop(x:V)(vs:List V)(H:Hp)(Q:VK):Prop
 |mk:∀l xs y,x= .ref l->vs=[]->H l=some (.lst xs)->xs[xs.length-1]?=some y->Q y (aN H l (.lst xs.dropLast))->rPop x vs H Q
def kW:MtM X "list.pop" rPop:=by
 intro pins s σ H x vs v us Q I rx rv h
 obtain⟨l,xs,y,rfl,rfl,hH,hy,q⟩:=h
 cases rx
 have hus:=rv.zero
 subst hus
 obtain⟨z,its,n,r,hl,e⟩:=I.lstM hH
 obtain⟨u,hu,ru⟩:=r.get hy
 have hy':its.toArray[its.toArray.size-1]?=some u:=by
  show its.toArray[its.length-1]?=some u
  rw[<-im, <-hl]
  exact hu
 refine mo F.slot_list_pop ⟨_,e,rfl⟩ F.entry_list_pop (F.args_list_pop_1 _) (MeetsSeq.list_pop_last l its.toArray n u hy' (by rw[bn];lia)) ⟨e,?_⟩
 refine⟨y,_,I.lset (its':=its.dropLast) hH e ?_ r.dropLast ?_,ru,q⟩
 ·show its.toArray.eraseIdxIfInBounds (its.toArray.size-1)=its.dropLast.toArray
  rw[bn,List.eraseIdxIfInBounds_toArray,zU]
 ·rw[ww]
  lia
inductive rCat(x y:V)(H:Hp)(Q:VK):Prop
 |mk:∀l b xs zs,x= .ref l->y= .ref b->H l=some (.lst xs)->H b=some (.lst zs)->xs.length+zs.length<=sizeLine->(∀p,H p=none->Q (.ref p) (aN H p (.lst (xs++zs))))->rCat x y H Q
def fR:jU X (binaryOp .Add) rCat:=by
 intro pins s σ H x y v u Q I rx ry h
 obtain⟨l,b,xs,zs,rfl,rfl,hH,hB,hz,q⟩:=h
 cases rx
 cases ry
 obtain⟨z,its,n,r,hl,e⟩:=I.lstM hH
 obtain⟨z2,its2,n2,r2,hl2,e2⟩:=I.lstM hB
 refine PySem.P.add_list e e2 ?_ (by rw[bn,bn];lia)
 have ea:its.toArray++its2.toArray=(its++its2).toArray:=by simp
 rw[ea]
 exact⟨.ref _,_,I.lnew (t':=s.toks) (r.append r2) (by rw[ah];lia),rfl,q _ I.fresh⟩
end
section
variable {prog:Program}{w:World}{A:Around}{E:Value->Shared->Prop}{s:Shared}
end
section
variable {X:Cx}
end
end L2
namespace Att
open PySem PySem.W PySem.Calls PyProof.Rows
def pV:∀ns (vs),WellAll P h vs (ns.map WData.int)->IntsAre vs ns:=by
 intro ns
 induction ns with
 |nil =>
  intro vs w
  rw[List.map_nil] at w
  cases w
  exact .nil
 |cons n ns ih =>
  intro vs w
  rw[List.map_cons] at w
  cases w with
  |cons a b =>
   cases a
   exact .cons _ _ (ih _ b)
def aM0 {l:OpenLaw}(hn:l.most=some n)(hpre:l.row.toRowW.claim.pre args=true)(hwl:WellAll P h vals args):
  ∃a vs ns,vals=[Value.ref a]/\args=[WData.list (ns.map WData.int)]/\h.get? a=some { cls:= .type "list",data:= .seq vs.toArray }/\IntsAre vs ns/\ns.length<=n:=by
 have hsh:WShape.hasAll [] args [.list .int]=true:=(pre_splitW hpre).1
 have hc:l.pre.holds [] { args:=args }=true:=(pre_splitW hpre).2
 obtain⟨d,r,rfl,h1,h2⟩:=hasAllW_cons hsh
 obtain rfl:=hasAllW_nil h2
 obtain⟨xs,rfl,h3⟩:=hasW_list h1
 obtain⟨ns,rfl⟩:=items_int h3
 have hlen:ns.length<=n:=by
  unfold OpenLaw.pre at hc
  have h4:(WTm.not (.lt (.lit (.int (n:Int))) (.len (.arg 0)))).holds [] { args:=[.list (ns.map .int)] }=true:=by
   have h4:=(holds_andW hc).1
   rw[hn] at h4
   exact h4
  have h5:=condW_of h4 (w_not (w_lt w_lit (w_len_list (w_arg rfl))))
  rw[List.length_map] at h5
  refine Nat.le_of_not_lt fun q=>?_
  have q':(n:Int)<((ns.length:Nat):Int):=by lia
  first
   |(rw[decide_eq_true q'] at h5;exact absurd h5 (by decide))
   |(simp at h5;lia)
 cases hwl with
 |cons w1 w2 =>
  cases w2
  cases w1 with
  |list ho hall=>exact⟨_,_,ns,rfl,rfl,ho,pV ns _ hall,hlen⟩
def aJ5 (l:OpenLaw)(args):l.row.toRowW.claim.post args (.bool true) args=true:=
 postW_of (r:=l.row.toRowW) (X:=(true==true))
  (show WShape.has [] (.bool true) .bool=true by first|rfl|decide|simp[WShape.has,WShape.arms,WShape.armsAll])
  (show(WTm.eq .res (.lit (.bool true))).value [] { args:=args,res:=some (.bool true),after:=args }=some (.bool (true==true)) from w_eq_bool (w_res rfl) w_lit) rfl
def attach_call {l:OpenLaw}(hn:l.most=some n)(hdf:d.params.defaults=[])(call:∀w (s₀ s₁) (mg mb) (fa) (o) (pm cd doc) (a) (vs) (ns),
   Ground q loose [] XP w s₀ mg mb s₁.heap->YP w s₁.heap ->
   s₁.heap.get? fa=some o->o.data= .func (docDef d.name d.params d.body d.scope pm cd doc)->s₁.heap.CodeRec cd d.name->mg d.name=some (.ref fa) ->
   s₁.heap.get? a=some { cls:= .type "list",data:= .seq vs.toArray }->IntsAre vs ns->ns.length<=n->s₁.gens= #[] ->
   codeAny (model l.prog w) callerA (.call (.ref fa) ⟨[.ref a],[]⟩) (fun r s'=>r= .ok (.ret (.bool true))/\OldK s₁.heap s'.heap/\s'.os=s₁.os/\AllBare s'.gens) s₁):
  WalkO q loose XP YP l.row.toRowW d [] (fun f vs=>PySem.call f vs):=by
 intro w s₀ s₁ mg mb G Y fa o pm cd doc dV kV ho hd hcd hD hmg hg args vals as hpre hlay hrd hwl hlo
 obtain rfl:dV= .none:=Dflts.none hD hdf
 obtain rfl:kV= .none:=Dflts.noKw hD
 obtain⟨a,vs,ns,rfl,rfl,hobj,hints,hlen⟩:=aM0 hn hpre hwl
 refine enter_call (codeAny_mono (call w s₀ s₁ mg mb fa o pm cd doc a vs ns G Y ho (fd_plain hd) hcd hmg hobj hints hlen hg) fun r s' hq=>?_)
 obtain⟨rfl,h2,h3,h4⟩:=hq
 exact⟨.inl ⟨.bool true,.bool true,[],rfl,fun _=>rfl,.bool true,aJ5 l _,fun _=>⟨List.Pairwise.nil,fun _ hm=>(nomatch hm)⟩⟩,h2,h3,h4⟩
section
variable {prog:Program}{w:World}{A:Around}{E:Value->Shared->Prop}{s:Shared}{K:Frag}
def cI4 (h:Heap)(L d:Addr):List (Addr×Obj):=(List.range h.objs.size).filterMap fun a=>if a=L\/a=d then none else (h.get? a).map fun o=>(a,o)
end
end Att
namespace L2
open PySem PySem.Spec PyProof.Rows
def uZ:∀{vs ns},IntsAre vs ns->bM (ns.map V.int) vs
 |_,_,.nil=> .nil
 |_,_,.cons n t h=> .cons ⟨t,rfl⟩ (uZ h)
def bX (s:Stmt):Arguments:=match s with
 |.FunctionDef _ a _ _ _ _ _ _ _ _=>a
 |_=>{ posonlyargs:=[],args:=[],vararg:=none,kwonlyargs:=[],kw_defaults:=[],kwarg:=none,defaults:=[] }
def bI (s:Stmt):List Stmt:=match s with
 |.FunctionDef _ _ b _ _ _ _ _ _ _=>b
 |_=>[]
def aL (s:Stmt):Scope:=match s with
 |.FunctionDef _ _ _ _ _ _ sc _ _ _=>sc
 |_=>{ kind:= .function,names:=[],isGenerator:=false,isCoroutine:=false }
abbrev pO:CXT:=fun _ _ _ _ _ _=>False
abbrev E0:XK:=fun _ _ _=>False
def cC8:rL pO X E0:=fun _ _ _ _ _ _ _ h=>h.elim
structure nA(K:PySem.W.Frag)(x qual:Str)(st:Stmt)(f:Addr)(fd:FuncData):Prop where
 ex:∃(oc:Value) (od:Option Addr) (kV doc pm:Value) (an:Option Addr) (cdv ct:Value) (osl:Array (Option Value)),
  fd=PySem.W.fnOf x qual (bX st) (bI st) (aL st) .none kV doc pm an cdv ct/\K.lookup f=some ⟨oc,od,.func fd,osl⟩/\PySem.W.codeIn K cdv qual=true
 kp:PySem.W.keepIn K (.ref f)=true
section
variable {P:Program}{w:World}{K:PySem.W.Frag}{mg:Str->Option Value}{base:Heap}
def nA.ok {st}(F:nA K x qual st f fd)(S:eO N ps (aL st))(len:∀vs H Q E,sp vs H Q E->vs.length=ps.length)(hbody:∀cdv (A) (outer) (s) (H) (vs) (Q) (E),dL k (A.deeper (envOfC qual (aL st) s.heap.objs.size f cdv))->sp vs H Q E ->
   ∃t,oS (jH pO P w K mg base N qual (aL st) f cdv A outer s H E).nox (bI st) t/\t { nx:=fun _ H'=>Q .non H',rt:=Q } (fE N vs) H):lG P w K mg base pO (k+1) f fd ps sp:=by
 obtain⟨oc,od,kV,doc,pm,an,cdv,ct,osl,rfl,lk,hcd⟩:=F.ex
 refine aW2 lk hcd S len fun A outer s H vs Q E hr hsp=>?_
 obtain⟨t,h,q⟩:=hbody cdv A outer s H vs Q E hr hsp
 exact⟨t,h.nox,q⟩
def nA.binds {st}(F:nA K x qual st f fd)(h:∀kV doc pm (an) (cdv ct) (us),us.length=ps.length->bindArgs (PySem.W.fnOf x qual (bX st) (bI st) (aL st) .none kV doc pm an cdv ct) ⟨us,[]⟩=pure (ps.zip us)):gY K fd ps []:=by
 obtain⟨oc,od,kV,doc,pm,an,cdv,ct,osl,rfl,lk,hcd⟩:=F.ex
 exact .all (h kV doc pm an cdv ct)
def xD {st kV doc pm cdv ct}(l:K.lookup f=some ⟨oc,od,.func (PySem.W.fnOf x qual (bX st) (bI st) (aL st) .none kV doc pm an cdv ct),osl⟩)(c:PySem.W.codeIn K cdv qual=true)(k:PySem.W.keepIn K (.ref f)=true):nA K x qual st f (PySem.W.fnOf x qual (bX st) (bI st) (aL st) .none kV doc pm an cdv ct):=⟨⟨oc,od,kV,doc,pm,an,cdv,ct,osl,rfl,l,c⟩,k⟩
end
def gQ (hr:dL k A):A.units+1<cLine:=di (Nat.add_le_add_left (by decide:1<=64) _) hr.units
def aJ (h:n<=1000):n<sizeLine:=di h (by decide)
section
variable {X:Cx}
def pv (i)(hN:autoParam (X.N[i]?=some x) Rq0._auto_1)(hv:autoParam (Vis X.env.scope x) Rq7._auto_1)(hd:autoParam ((x==("__debug__": Str))=false) Rq1._auto_1)(hcd:autoParam ((x==("__classdict__": Str))=false) Rq1._auto_1):PE X (.Name x pos) (mC i):=aP0 hN hv hd hcd
end
def cI1 {A B:Prop}(h:B):if false=true then A else B:=by
 rw[au bh]
 exact h
def mF {c A B:Prop}[Decidable c](h1:c->A)(h2:¬c->B):if c then A else B:=by
 by_cases h:c
 ·rw[bb h]
  exact h1 h
 ·rw[au h]
  exact h2 h
def bA (H H':Hp):Prop:=∀b o,H b=some o->H' b=some o
def bA.refl (H):bA H H:=fun _ _ h=>h
def bA.trans (a:bA H H1)(b:bA H1 H2):bA H H2:=fun c o h=>b c o (a c o h)
def bA.free {H H'}(e:bA H H'){l}(h:H' l=Option.none):H l=Option.none:=by
 cases q:H l with
 |none=>rfl
 |some o =>
  rw[e l o q] at h
  cases h
def bA.seq {K}(e:bA H H')(h:bJ K H a xs):bJ K H' a xs:=by
 rcases h with(h|⟨o,h⟩)|h
 ·exact .inl (.inl (e _ _ h))
 ·exact .inl (.inr ⟨o,e _ _ h⟩)
 ·exact .inr h
section
variable {κ:Type} [DecidableEq κ]
end
end L2
set_option maxHeartbeats 4000000
namespace L2
open PySem PySem.Spec PyProof.Rows
def kK (env:Env)(names:List (Str×NameKind)):List (Str×Addr):=
 names.foldl (fun cs y=>if y.2==NameKind.free then (y.1,(env.cells.lookup y.1).getD 0)::cs else cs) []
def aT3:∀(names:List (Str×NameKind)) (cs),(∀y∈names,y.2= .free->∃c,env.cells.lookup y.1=some c) ->
  (forIn names cs fun(y) (r)=>(if y.2==NameKind.free then (do let a <-cellOf env y.1;pure (ForInStep.yield ((y.1,a)::r))) else pure (ForInStep.yield r):Sem (ForInStep (List (Str×Addr))))) =
   pure (names.foldl (fun cs y=>if y.2==NameKind.free then (y.1,(env.cells.lookup y.1).getD 0)::cs else cs) cs)
 |[],cs,_=>rfl
 |(n,k)::r,cs,h=>by
  have ih:=fun cs'=>aT3 (env:=env) r cs' fun y hy=>h y (aq _ hy)
  rw[vo,jk]
  by_cases hk:k= .free
  ·subst hk
   obtain⟨c,hc⟩:=h (n,.free) ao rfl
   have e:cellOf env n=pure c:=by unfold cellOf;rw[hc]
   simp only[beq_self_eq_true,if_true,e,pure_bind,hc,Option.getD_some]
   exact ih _
  ·have hb:(k==NameKind.free)=false:=by simpa using hk
   simp only[hb,Bool.false_eq_true,if_false,pure_bind]
   exact ih _
def mS (h:∀y∈scope.names,y.2= .free->∃c,env.cells.lookup y.1=some c):closureFor scope env=pure (kK env scope.names):=by
 unfold closureFor
 have e:=aT3 (env:=env) scope.names [] h
 simp only[] at e ⊢
 refine Eq.trans ?_ (ej (fun m:Sem (List (Str×Addr))=>m>>=fun cs=>pure cs) e)
 rfl
def aC1 {env:Env}:∀(names:List (Str×NameKind)) (cs),(∀y∈names,y.2= .free->∃c,env.cells.lookup y.1=some c) ->
  (names.foldl (fun cs y=>if y.2==NameKind.free then (y.1,(env.cells.lookup y.1).getD 0)::cs else cs) cs).lookup x=some c->cs.lookup x=some c\/env.cells.lookup x=some c
 |[],_,_,e=> .inl e
 |(n,k)::r,cs,h,e=>by
  rw[jk] at e
  have ih:=aC1 r _ (fun y hy=>h y (aq _ hy)) e
  rcases ih with q|q
  ·by_cases hk:k= .free
   ·subst hk
    obtain⟨c',hc⟩:=h (n,.free) ao rfl
    simp only[beq_self_eq_true,if_true,hc,Option.getD_some,List.lookup_cons] at q
    cases hx:x==n with
    |true =>
     rw[hx] at q
     have:x=n:=by simpa using hx
     subst this
     simp only[Option.some.injEq] at q
     subst q
     exact .inr hc
    |false =>
     rw[hx] at q
     exact .inl q
   ·have hb:(k==NameKind.free)=false:=by simpa using hk
    simp only[hb,Bool.false_eq_true,if_false] at q
    exact .inl q
  ·exact .inr q
def sU {env:Env}:∀(names:List (Str×NameKind)) (cs),((x,NameKind.free)∈names\/∃c,cs.lookup x=some c) ->
  ∃c,(names.foldl (fun cs y=>if y.2==NameKind.free then (y.1,(env.cells.lookup y.1).getD 0)::cs else cs) cs).lookup x=some c
 |[],_,e=>by rcases e with e|e;exact absurd e (by simp);exact e
 |(n,k)::r,cs,e=>by
  rw[jk]
  refine sU r _ ?_
  rcases e with e|⟨c,e⟩
  ·rcases bv.mp e with z|z
   ·cases z
    right
    simp only[beq_self_eq_true,if_true,List.lookup_cons]
    exact⟨_,rfl⟩
   ·exact .inl z
  ·right
   by_cases hk:k= .free
   ·subst hk
    simp only[beq_self_eq_true,if_true,List.lookup_cons]
    cases hx:x==n with
    |true=>exact⟨_,rfl⟩
    |false=>exact⟨c,e⟩
   ·have hb:(k==NameKind.free)=false:=by simpa using hk
    simp only[hb,Bool.false_eq_true,if_false]
    exact⟨c,e⟩
def oH {env:Env}{x}:∀{names:List (Str×NameKind)},(∀y∈names,y.2≠ .cell) ->
  ((names.map fun(n,k)=>if (k==NameKind.free&&env.scope.kind == .function&&env.kindOf n==some .cell) then (n,NameKind.cell) else (n,k)).lookup x=some .cell \/
   (names.map fun(n,k)=>if (k==NameKind.free&&env.scope.kind == .function&&env.kindOf n==some .cell) then (n,NameKind.cell) else (n,k)).lookup x=some .free)->(x,NameKind.free)∈names
 |[],_,h=>by simp at h
 |(n,k)::r,hc,h=>by
  have ih:= @oH env x r fun y hy=>hc y (aq _ hy)
  have hk:=hc (n,k) ao
  simp only[List.map_cons] at h
  by_cases cc:(k==NameKind.free&&env.scope.kind == .function&&env.kindOf n==some .cell)=true
  ·rw[bb cc] at h
   have kf:k= .free:=by
    simp only[Bool.and_eq_true,beq_iff_eq] at cc
    exact cc.1.1
   subst kf
   simp only[List.lookup_cons] at h
   cases hx:x==n with
   |true =>
    have:x=n:=by simpa using hx
    subst this
    exact ao
   |false=>rw[hx] at h;exact aq _ (ih h)
  ·rw[au cc] at h
   simp only[List.lookup_cons] at h
   cases hx:x==n with
   |true =>
    rw[hx] at h
    have:x=n:=by simpa using hx
    subst this
    rcases h with h|h
    ·simp only[Option.some.injEq] at h
     exact absurd h hk
    ·simp only[Option.some.injEq] at h
     subst h
     exact ao
   |false=>rw[hx] at h;exact aq _ (ih h)
abbrev bC7(ifs:List Expr)(env:Env):Sem Bool:=forIn ifs true fun c r =>
 if r=true then do
  let ok <-isTrue c env (eval c env)
  pure (ForInStep.yield ok)
 else pure (ForInStep.yield r)
def aP7 (X:Cx)(ifs:List Expr)(t:TT):Prop:=
 ∀(pins:List (Addr×Obj)) (s:Shared) (σ:St) (H:Hp) (Q:Bool->Hp->Prop),aX X pins σ H s->t σ H Q ->
  wpAny (model X.prog X.w) X.A (bC7 ifs X.env) (TP X pins σ Q) X.xe s
def tYes:TT:=fun _ H Q=>Q true H
def eE:aP7 X [] tYes:=fun _ _ _ H _ I h=>wpAny_tests_nil ⟨H,I,h⟩
def lN (h:PT X c t):aP7 X [c] t:=fun pins s σ H Q I q=>wpAny_tests_one (h pins s σ H Q I q)
abbrev aB9:Value->Shared->Prop:=fun _ _=>False
def aJ7 (W:Nat->Shared->Prop)(one:∀k t,W k t->wpAny (model prog w) A (pyNext it) (fun r t1=>match r with
   |none=>R (.ok .next) t1
   |some v=>wpAny (model prog w) A (letOwnedTupleGo target it v) (fun _ t2=>wpAny (model prog w) A (assign target env v) (fun _ t3=>wpAny (model prog w) A (bC7 ifs env) (fun ok t4 =>
     if ok=true then wpAny (model prog w) A (eval elt env) (fun x t5=>wpAny (model prog w) A (call (.builtin "list.append") [acc,x]) (fun _ t6=>∃j,j<k/\W j t6) aB9 t5) aB9 t4
     else ∃j,j<k/\W j t4) aB9 t3) aB9 t2) aB9 t1) aB9 t)(k0)(h0:W k0 s0):codeAny (model prog w) A (.compLoop (.ListComp elt [⟨target,iter,ifs,0⟩] scope pos) 0 it acc env) R s0:=by
 refine codeAny_loop rfl W (fun k t hW=>?_) k0 h0
 refine wpAny_noted (m:=compTurn (.ListComp elt [⟨target,iter,ifs,0⟩] scope pos) 0 it acc env) ?_
 have no:∀{P:Prop}{e:Value}{t:Shared},aB9 e t->P:=fun z=>z.elim
 rw[compTurn_list]
 refine aa (sj (aa (dm (one k t hW) (fun r t1 q1=>?_) fun _ _=>no)))
 match r with
 |none=>exact ak q1
 |some v =>
  refine aa (dm q1 (fun _ t2 q2=>aa (dm q2 (fun _ t3 q3=>aa (dm q3 (fun ok t4 q4=>?_) fun _ _=>no)) fun _ _=>no)) fun _ _=>no)
  match ok with
  |false=>exact ak ⟨rfl,q4⟩
  |true =>
   rw[bb rfl] at q4
   refine aa (aa (dm q4 (fun x t5 q5=>aa (dm q5 (fun _ t6 q6=>?_) fun _ _=>no)) fun _ _=>no))
   exact ak (ak ⟨rfl,q6⟩)
def yZ (ix:List (Option Nat))(σ:St):St:=ix.map fun o=>o.bind fun j=>σ[j]?.join
def aW1 {i:Nat}(h:(yZ ix σ)[i]?=some (some v)):∃j,ix[i]?=some (some j)/\σ[j]?=some (some v):=by
 unfold yZ at h
 rw[df] at h
 cases e:ix[i]? with
 |none=>rw[e] at h;cases h
 |some o =>
  rw[e] at h
  cases o with
  |none=>cases h
  |some j =>
   have h:some (σ[j]?.join)=some (some v):=h
   refine⟨j,rfl,?_⟩
   cases q:σ[j]? with
   |none=>rw[q] at h;cases h
   |some z=>rw[q] at h;cases h;rfl
def wI (N:List Str)(sc scope:Scope)(N':List Str)(ix:List (Option Nat)):Bool:=
 ix.length==N'.length&&(ix.zip N').all (fun p=>match p.1 with|none=>true|some j=>N[j]? == some p.2&&scope.names.lookup p.2==some NameKind.free) &&
 scope.names.all (fun y=>y.2 != NameKind.cell&&(y.2 != NameKind.free || sc.names.lookup y.1==some NameKind.cell || sc.names.lookup y.1==some NameKind.free)&&(y.2 != NameKind.local || scope.names.lookup y.1==some NameKind.local)) &&
 scope.kind==ScopeKind.function
structure iH(N:List Str)(sc scope:Scope)(N':List Str)(ix:List (Option Nat)):Prop where
 len:ix.length=N'.length
 at_:∀(i j:Nat) (x:Str),ix[i]?=some (some j)->N'[i]?=some x->N[j]?=some x/\scope.names.lookup x=some .free
 nocell:∀y∈scope.names,y.2≠ .cell
 free:∀y∈scope.names,y.2= .free->sc.names.lookup y.1=some .cell\/sc.names.lookup y.1=some .free
 loc:∀y∈scope.names,y.2= .local->scope.names.lookup y.1=some .local
 kind:scope.kind= .function
def iH.of (h:wI N sc scope N' ix=true):iH N sc scope N' ix:=by
 unfold wI at h
 simp only[Bool.and_eq_true,beq_iff_eq,List.all_eq_true] at h
 obtain⟨⟨⟨h1,h2⟩,h3⟩,h4⟩:=h
 refine⟨h1,fun i j x a b=>?_,fun y hy e=>?_,fun y hy e=>?_,fun y hy e=>?_,h4⟩
 ·have hm:(some j,x)∈ix.zip N':=bg (i:=i) (by rw[ny];exact⟨a,b⟩)
  have q:=h2 _ hm
  simp only[Bool.and_eq_true,beq_iff_eq] at q
  exact q
 ·have q:=h3 y hy
  simp only[Bool.and_eq_true,bne_iff_ne,ne_eq] at q
  exact q.1.1 e
 ·have q:=(h3 y hy).1.2
  rw[e] at q
  simpa using q
 ·have q:=(h3 y hy).2
  rw[e] at q
  simpa using q
def cS (X:Cx)(N':List Str)(scope:Scope)(C:Addr)(s₂:Shared)(H₂:Hp)(fp:List Addr):Cx where
 prog:=X.prog
 w:=X.w
 K:=X.K
 mg:=X.mg
 base:=X.base
 A:=X.A
 N:=N'
 s₀:=s₂
 H₀:=H₂
 env:=compEnvC scope (kK X.env scope.names) C X.env
 outer:=X.stack
 stack:=X.stack
 ex:=fp
 fn:=fun _=>false
 calm:=X.calm
 pn:=[]
 xe:=fun _ _=>False
section
variable {X:Cx}{N':List Str}{ix:List (Option Nat)}{scope:Scope}{pins:List (Addr×Obj)}{σ:St}{H₂:Hp}{s₂:Shared}{fp:List Addr}{C:Addr}
def iH.cells (S:iH X.N X.env.scope scope N' ix)(I:aX X pins σ H₂ s₂):∀y∈scope.names,y.2= .free->∃c,X.env.cells.lookup y.1=some c:=fun y hy e=>I.ok.has y.1 (S.free y hy e)
def iH.get (S:iH X.N X.env.scope scope N' ix)(I:aX X pins σ H₂ s₂)(h:(kK X.env scope.names).lookup x=some c):X.env.cells.lookup x=some c:=by
 rcases aC1 scope.names [] (S.cells I) h with q|q
 ·exact absurd q (by simp)
 ·exact q
def aL7(S:iH X.N X.env.scope scope N' ix)(I:aX X pins σ H₂ s₂)(hf:∀b∈fp,mB X pins H₂ b)(hC:s₂.heap.objs.size<=C)(hfC:∀b∈fp,b<s₂.heap.objs.size):(cS X N' scope C s₂ H₂ fp).Ok where
 mod:=I.ok.mod
 kind:=S.kind
 glob:=I.ok.glob
 blt:=I.ok.blt
 above:=hC
 inj:=fun x y c a b=>I.ok.inj x y c (S.get I a) (S.get I b)
 has:=fun x h=>sU scope.names [] (.inl (oH S.nocell h))
 cab:=fun x c h=>by cases h
 hd:=I.ok.hd
 frames:=I.ok.frames
 stk:= .inl rfl
 exf:=fun b hb=>⟨bw (bz (hfC b hb) hC),fun x c e=>(hf b hb).2.2.2.2.1 x c (S.get I e)⟩
 bs:=I.bs
 bsz:=cm I.ok.bsz I.sz
 noex:=fun b o e hb=>by
  rcases(hf b hb).2.2.2.1 with z|z
  ·exact I.ok.noex b o e z
  ·exact absurd (bz (ay e) (cm I.ok.bsz z)) (fq _)
 exfs:=fun b hb hm=>by
  rcases bv.mp (I.stkSub b hm) with z|z
  ·exact(hf b hb).2.1 z
  ·exact(hf b hb).2.2.1 z
 funs:=I.stack
 frf:=I.stkFree
def aB2 (S:iH X.N X.env.scope scope N' ix)(I:aX X pins σ H₂ s₂)(hf:∀b∈fp,mB X pins H₂ b)(hfC:∀b∈fp,b<s₂.heap.objs.size){D:Addr}(hC:s₂.heap.objs.size<=C)(hD:s₂.heap.objs.size<=D)(hDC:D≠C)(old:∀b o,s₂.heap.get? b=some o->h₁.get? b=some o)(hn:h₁.Ns C m)(hob:h₁.get? D=some ob)(hd:∀v,ob.data≠ .cell v):
  aX (cS X N' scope C s₂ H₂ fp) [(D,ob)] (yZ ix σ) H₂ { s₂ with heap:=h₁,toks:=tk }:=by
 have fr:∀a,s₂.heap.objs.size<=a->H₂ a=none:=fun a ha=>I.hok.fresh ha
 have cOf:∀x c,(kK X.env scope.names).lookup x=some c->X.env.cells.lookup x=some c:=fun x c e=>S.get I e
 refine⟨aL7 S I hf hC hfC,rfl,I.bare,Un.kept old,⟨m,hn,fun i x v e1 e2 e3=>?_⟩,fun x c e=>?_,fr C hC,fun x c e=>I.freeC x c (cOf x c e),fun p hp=>?_,I.hok.kept old,?_⟩
 ·obtain⟨j,q1,q2⟩:=aW1 e2
  obtain⟨n1,n2⟩:=S.at_ i j x q1 e1
  have hm:(x,NameKind.free)∈scope.names:=ge n2
  have hv:Vis X.env.scope x:=by
   rcases S.free _ hm rfl with z|z
   ·exact .inr (.inl z)
   ·exact .inr (.inr z)
  obtain⟨m0,_,hl⟩:=I.loc
  obtain⟨u,r,l⟩:=hl j x v n1 q2 hv
  refine⟨u,r,?_⟩
  have hne:¬X.env.kindOf x=some .local:=fun z=>by
   have z:X.env.scope.names.lookup x=some .local:=z
   rcases S.free _ hm rfl with y|y
   ·rw[y] at z;cases z
   ·rw[y] at z;cases z
  rcases l with⟨k,_⟩|⟨k,c,e,z⟩
  ·exact absurd k hne
  ·obtain⟨c',hc'⟩:=sU (env:=X.env) (x:=x) scope.names [] (.inl hm)
   have hc'':=cOf x c' hc'
   rw[e] at hc''
   cases hc''
   have kk:(cS X N' scope C s₂ H₂ fp).env.kindOf x=some .cell\/(cS X N' scope C s₂ H₂ fp).env.kindOf x=some .free:=by
    rcases e3 with y|y|y
    ·exfalso
     have:∀{names:List (Str×NameKind)},names.lookup x=some .free ->
      (names.map fun(n,k)=>if (k==NameKind.free&&X.env.scope.kind == .function&&X.env.kindOf n==some .cell) then (n,NameKind.cell) else (n,k)).lookup x=some .local->False:=by
      intro names
      induction names with
      |nil=>intro a;simp at a
      |cons p r ih =>
       obtain⟨n,k⟩:=p
       intro a b
       simp only[List.map_cons] at b
       simp only[List.lookup_cons] at a
       cases hx:x==n with
       |true =>
        rw[hx] at a
        simp only[Option.some.injEq] at a
        subst a
        split at b
        ·simp[List.lookup_cons,hx] at b
        ·simp[List.lookup_cons,hx] at b
       |false =>
        rw[hx] at a
        split at b
        ·simp only[List.lookup_cons,hx] at b;exact ih a b
        ·simp only[List.lookup_cons,hx] at b;exact ih a b
     exact this n2 y
    ·exact .inl y
    ·exact .inr y
   obtain⟨oc,ho,hod⟩:=z
   exact .inr ⟨kk,c,hc',oc,old _ _ ho,hod⟩
 ·obtain⟨v,o,ho,hod⟩:=I.cell x c (cOf x c e)
  exact⟨v,o,old _ _ ho,hod⟩
 ·have hp:p∈[(D,ob)]:=hp
  have e:p=(D,ob):=by simpa using hp
  subst e
  refine⟨hob,fr D hD,hDC,fun hb=>?_,hd⟩
  have hb:D∈jM X.stack:=hb
  rcases bv.mp (I.stkSub D hb) with z|z
  ·exact absurd I.lt (by rw[<-z];exact mq.mpr hD)
  ·exact I.nofs hD z
 ·show(yZ ix σ).length=N'.length
  unfold yZ
  rw[ac,S.len]
def aB6 (I:aX X pins σ H₂ s₂)(hf:∀b∈fp,mB X pins H₂ b){σ':St}{D:Addr}(hC:s₂.heap.objs.size<=C)(hD:s₂.heap.objs.size<=D)(J:aX (cS X N' scope C s₂ H₂ fp) pins' σ' H' s')(hn:H' D=none)(hl:s'.heap.PlainList D its.toArray)(r:bM ys its)(hz:ys.length<=sizeLine):aX X pins σ (aN H' D (.lst ys)) s':=by
 have sb:Un (jM X.stack) fp H₂ H' s₂.heap s'.heap:=J.base
 have nD:∀b u,H' b=some u->b≠D:=fun b u e=>aK e hn
 refine I.call' (ch:=fp) J.os ⟨sb.keep,sb.slot,fun b o e n hx=>?_,sb.there,fun b xs e=>?_,fun b o u e=>?_,fun b ps e=>?_⟩ (fun b u e=>?_) J.bare (fun b hb=>?_)
 ·rw[aH (bw (bz (ay e) hD))]
  exact sb.free b o e n hx
 ·have q:=sb.tups b xs e
  rw[aH (nD b _ q)];exact q
 ·have q:=sb.frzs b o u e
  rw[aH (nD b _ q)];exact q
 ·obtain⟨more,q⟩:=sb.tbls b ps e
  exact⟨more,by rw[aH (nD b _ q)];exact q⟩
 ·by_cases hb:b=D
  ·subst hb
   rw[aC] at e
   cases e
   obtain⟨n,hg⟩:=hl
   exact⟨hz,its,n,r,hg⟩
  ·rw[aH hb] at e
   exact(J.hok b u e).stay (fun c v _ q=>q) (fun c q=>by rw[aH (nD c _ q)];exact q) fun c xs q=>by rw[aH (nD c _ q)];exact q
 ·obtain⟨_,f1,_,f3,f4,f5⟩:=hf b hb
  exact⟨f3,f1,f4,f5⟩
end
def mM (J:It)(g:TG)(tc:TT)(te:TE)(Kf:List V->Hp->Prop)(σ0:St)(H1:Hp):Prop:=
 ∃W:Nat->Nat->List V->St->Hp->Prop,(∃m,W 0 m [] σ0 H1)/\∀i m ys σ' H',W i m ys σ' H'->ys.length<sizeLine /\
  ((J.stop i H'/\Kf ys H')\/(J.go i H'/\∃N:List V->St->Hp->Prop,(∀ys' σ2 H2,N ys' σ2 H2->∃m',m'<m/\W (i+1) m' ys' σ2 H2)/\∀x H'',J.yld i H' x H''->g x σ' H'' fun σ2 H2=>tc σ2 H2 fun b H3 =>
   if b=true then te σ2 H3 fun y H4=>N (ys++[y]) σ2 H4 else N ys σ2 H3))
def bM1 (wi:TI)(ix:List (Option Nat))(g:TG)(tc:TT)(te:TE):TE:=fun σ H Q =>
 wi σ H fun J H1=>mM J g tc te (fun ys H'=>∀l,H' l=none->Q (.ref l) (aN H' l (.lst ys))) (yZ ix σ) H1
section
variable {X:Cx}{tg elt iter:Expr}{ifs:List Expr}{scope:Scope}{pos:Pos}{N':List Str}{ix:List (Option Nat)}{wi:TI}{g:TG}{tc:TT}{te:TE}
def bD4 (X:Cx)(pins:List (Addr×Obj))(σ:St)(Kf:List V->Hp->Prop)(acc:Value)(C:Addr)(s':Shared):Prop:=
 ∃D H' ys,acc= .ref D/\H' D=none/\aX X pins σ (aN H' D (.lst ys)) s'/\(∃m,s'.heap.Ns C m)/\H' C=none/\D≠C/\C≠X.env.locals/\X.s₀.heap.objs.size<=C/\(∀x c,X.env.cells.lookup x=some c->c≠C)/\(∀p∈X.pn++pins,p.1≠C)/\Kf ys H'
def vD {σ:St}{RR:Value->Addr->Result->Shared->Prop}(S:iH X.N X.env.scope scope N' ix)(hc:X.calm=true)(hg:∀C s₂ H₂ fp,PG (cS X N' scope C s₂ H₂ fp) tg g)(ht:∀C s₂ H₂ fp,aP7 (cS X N' scope C s₂ H₂ fp) ifs tc)(he:∀C s₂ H₂ fp,PE (cS X N' scope C s₂ H₂ fp) elt te)(I2:aX X pins σ H₂ s₂)(T:wN X.prog X.w X.K tg J fp it tn)(st2:tn 0 s₂.heap)(f2:∀b∈fp,mB X pins H₂ b)(w:mM J g tc te Kf (yZ ix σ) H₂)(hR:∀acc C s',bD4 X pins σ Kf acc C s'->RR acc C (.ok .next) s'):
  wpAny (model X.prog X.w) X.A (newList []) (fun acc s₃=>wpAny (model X.prog X.w) X.A (newFunctionEnv scope X.env.globals (kK X.env scope.names) [] X.env.qual none .none (some X.env)) (fun cenv s₄ =>
   codeAny (model X.prog X.w) X.A (.compStart (.ListComp elt [⟨tg,iter,ifs,0⟩] scope pos) 0 (.ref it) acc { cenv with scope:=relabel scope X.env }) (RR acc cenv.locals) s₄) E s₃) E s₂:=by
 obtain⟨W,⟨m0,w0⟩,turn⟩:=w
 refine fe (wx S.nocell (by intro y hy;simp at hy) (fun h₁ nsN sbN=>?_) S.kind)
 dsimp only at nsN sbN ⊢
 generalize eH:s₂.heap.push { cls:= .type "list",dict:=none,data:= .seq ([]:List Value).toArray }=G2 at nsN sbN ⊢
 have sizeC:G2.objs.size=s₂.heap.objs.size+1:=by rw[<-eH,kq]
 have neDC:s₂.heap.objs.size≠G2.objs.size:=by rw[sizeC];exact bw (ek _)
 have leC:s₂.heap.objs.size<=G2.objs.size:=by rw[sizeC];exact fw _
 have older:∀b,b<s₂.heap.objs.size->b≠G2.objs.size/\b≠s₂.heap.objs.size:=fun b hb=>⟨by rw[sizeC];exact bw (km hb),bw hb⟩
 have keepOld:∀b o,s₂.heap.get? b=some o->h₁.get? b=some o:=fun b o e=>sbN.extBut b o (older b (ay e)).1 (af _ (eH ▸ af _ e))
 have accNew:h₁.PlainList s₂.heap.objs.size #[]:=⟨_,sbN.extBut _ _ neDC (af _ (eH ▸ bc _ rfl))⟩
 generalize eC:G2.objs.size=C at *
 generalize eD:s₂.heap.objs.size=D at *
 have hfC:∀b∈fp,b<s₂.heap.objs.size:=fun b hb=>by
  obtain⟨o,e,_⟩:=T.obj 0 _ st2 b hb
  exact ay e
 have hfD:∀b∈fp,b≠D:=fun b hb=>by have:=hfC b hb;rw[eD] at this;exact bw this
 have hfC':∀b∈fp,b≠C:=fun b hb=>by have:=hfC b hb;rw[eD] at this;exact bw (bz this leC)
 have geD:s₂.heap.objs.size<=D:=by rw[eD];exact aj _
 have geC:s₂.heap.objs.size<=C:=by rw[eD];exact leC
 obtain⟨nn,hob⟩:=id accNew
 have J1:aX (cS X N' scope C s₂ H₂ fp) [] (yZ ix σ) H₂ { s₂ with heap:=h₁,toks:=s₂.toks+([]:List (Str×Value)).length }:=
  (aB2 S I2 f2 hfC geC geD neDC keepOld nsN hob (fun v z=>by cases z)).pins_of (fun p hp=>absurd hp (by simp))
 have nfsD:D∉jM X.stack:=fun hb=>by
  rcases bv.mp (I2.stkSub D hb) with z|z
  ·exact absurd I2.lt (by rw[<-z];exact mq.mpr geD)
  ·exact I2.nofs geD z
 have cOf:∀x c,(kK X.env scope.names).lookup x=some c->c≠D/\c≠C:=fun x c e=>by
  obtain⟨v,z⟩:=I2.cell x c (S.get I2 e)
  have:=z.lt
  rw[eD] at this
  exact⟨bw this,bw (bz this leC)⟩
 have fpk:∀{pl:List (Addr×Obj)}{H':Hp},(∀b∈fp,H' b=none)->(∀p∈pl,p.1∉fp)->∀b∈fp,mB (cS X N' scope C s₂ H₂ fp) pl H' b:=fun {pl H'} hn hp b hb =>
  ⟨hn b hb,hfC' b hb,fun z=>by
    rcases bv.mp (I2.stkSub b z) with q|q
    ·exact(f2 b hb).2.1 q
    ·exact(f2 b hb).2.2.1 q,
   .inl hb,fun x c e=>(f2 b hb).2.2.2.2.1 x c (S.get I2 e),fun p hp' z=>hp p (by simpa [cS] using hp') (by rw[z];exact hb)⟩
 have dpk:∀{H':Hp},H' D=none->∀b∈[D],mB (cS X N' scope C s₂ H₂ fp) [] H' b:=fun {H'} hn b hb=>by
  have e:b=D:=by simpa using hb
  subst e
  exact⟨hn,neDC,nfsD,.inr geD,fun x c e=>(cOf x c e).1,fun p hp=>absurd hp (by simp[cS])⟩
 have loop:codeAny (model X.prog X.w) X.A (.compLoop (.ListComp elt [⟨tg,iter,ifs,0⟩] scope pos) 0 (.ref it) (.ref D) (compEnvC scope (kK X.env scope.names) C X.env)) (RR (.ref D) C) { s₂ with heap:=h₁,toks:=s₂.toks+([]:List (Str×Value)).length }:=by
  refine aJ7 (fun n s'=>∃i ys σ' H' its,aX (cS X N' scope C s₂ H₂ fp) [] σ' H' s'/\tn i s'.heap/\(∀b∈fp,H' b=none)/\H' D=none/\s'.heap.PlainList D its.toArray/\bM ys its/\W i n ys σ' H') ?_ m0
   ⟨0,[],_,H₂,[],J1,T.keep _ _ _ st2 fun b _ o e=>keepOld b o e,fun b hb=>(f2 b hb).1,I2.hok.fresh geD,accNew,.nil,w0⟩
  rintro n s3 ⟨i,ys,σ3,H3,its,I3,st3,fr3,dn3,pl3,rv3,w3⟩
  obtain⟨nn3,hob3⟩:=id pl3
  have oD:∀b∈[D],∃o,s3.heap.get? b=some o/\∀v,o.data≠ .cell v:=fun b hb=>by
   have e:b=D:=by simpa using hb
   subst e
   exact⟨_,hob3,fun v z=>by cases z⟩
  have I3':aX (cS X N' scope C s₂ H₂ fp) (iJ [D] s3.heap) σ3 H3 s3:=by
   have:=I3.pinned (dpk dn3) oD
   simpa using this
  have pD:(D,({ cls:= .type "list",data:= .seq its.toArray nn3 }:Obj))∈iJ [D] s3.heap:=iO (by simp) hob3
  have npD:∀p∈iJ [D] s3.heap,p.1∉fp:=fun p hp z=>by
   have e:p.1=D:=by simpa using (uM hp).1
   exact hfD _ z e
  obtain⟨hys,tt⟩:=turn i n ys σ3 H3 w3
  rcases tt with⟨stop,qn⟩|⟨go,N,hN,step⟩
  ·refine dm (T.done (cS X N' scope C s₂ H₂ fp) rfl rfl rfl hc i (iJ [D] s3.heap) s3 σ3 H3 (fun _ _=>False) I3' (fpk fr3 npD) st3 stop) (fun r s4 ⟨hr,I4⟩=>?_) fun _ _ z=>z
   subst hr
   have g4:=(I4.pin _ (br _ pD)).1
   refine hR _ _ _ ⟨D,H3,ys,rfl,dn3,aB6 I2 f2 geC geD I4 dn3 ⟨nn3,g4⟩ rv3 (bp hys),?_,?_,neDC,?_,?_,?_,?_,qn⟩
   ·obtain⟨m,hm,_⟩:=I4.loc
    exact⟨m,hm⟩
   ·exact I4.free
   ·exact js (bz I2.lt geC)
   ·exact cm I2.sz geC
   ·intro x c e z
    obtain⟨v,q⟩:=I2.cell x c e
    exact absurd (bz q.lt geC) (by rw[z];exact fq _)
   ·intro p hp z
    exact absurd (bz (ay (I2.pin p hp).1) geC) (by rw[z];exact fq _)
  ·refine dm (T.item (cS X N' scope C s₂ H₂ fp) rfl rfl rfl hc i (iJ [D] s3.heap) s3 σ3 H3 (fun _ _=>False) I3' (fpk fr3 npD) st3 go) (fun r s4 ⟨u,hr,h4⟩=>?_) fun _ _ z=>z
   subst hr
   refine dm h4 (?_) fun _ _ z=>z;rintro _ s5 ⟨x,H5,I5,r5,y5,st5,fr5⟩
   have I5':=I5.pinned (fpk fr5 npD) (T.obj _ _ st5)
   refine dm (hg C s₂ H₂ fp _ s5 σ3 H5 x u _ I5' r5 (step x H5 y5)) (?_) fun _ _ z=>z;rintro _ s6 ⟨σ6,H6,I6,q6⟩
   refine dm (ht C s₂ H₂ fp _ s6 σ6 H6 _ I6 q6) (?_) fun _ _ z=>z;rintro b s7 ⟨H7,I7,q7⟩
   have fin:∀{s8:Shared}{σ8:St}{H8:Hp},aX (cS X N' scope C s₂ H₂ fp) (iJ [D] s3.heap++iJ fp s5.heap) σ8 H8 s8->s8.heap.get? D=some { cls:= .type "list",data:= .seq its.toArray nn3 }/\H8 D=none /\
     tn (i+1) s8.heap/\∀b∈fp,H8 b=none:=fun {s8 σ8 H8} I8=>by
    have q:=I8.pin _ (br _ (cj _ pD))
    refine⟨q.1,q.2.1,T.keep _ _ _ st5 fun b hb o e=>(I8.pin (b,o) (br _ (br _ (iO hb e)))).1,fun b hb=>?_⟩
    obtain⟨o,e,d⟩:=T.obj _ _ st5 b hb
    exact(I8.pin (b,o) (br _ (br _ (iO hb e)))).2.1
   cases b with
   |false =>
    obtain⟨m',hm,w7⟩:=hN _ _ _ q7
    obtain⟨a1,a2,a3,a4⟩:=fin I7
    exact⟨m',hm,i+1,ys,σ6,H7,its,I7.pins_of fun p hp=>absurd hp (by simp),a3,a4,a2,⟨nn3,a1⟩,rv3,w7⟩
   |true =>
    refine dm (he C s₂ H₂ fp _ s7 σ6 H7 _ I7 q7) (?_) fun _ _ z=>z;rintro v s8 ⟨y,H8,I8,r8,n8⟩
    obtain⟨m',hm,w8⟩:=hN _ _ _ n8
    obtain⟨a1,a2,a3,a4⟩:=fin I8
    have hsz:its.toArray.size<=sizeLine:=by
     have:=rv3.length
     rw[bn]
     lia
    refine wpAny_list_append_plain (hsz:=hsz) ⟨nn3,a1⟩ fun h9 hl9 hs9=>?_
    have I9:aX (cS X N' scope C s₂ H₂ fp) [] σ6 H8 { s8 with heap:=h9 }:=
     (I8.pins_of (pins':=[]) fun p hp=>absurd hp (by simp)).turned (t':=s8.toks) (fun b o hb e=>(hs9.2 b hb).trans e) a2 neDC (.inr geD) (fun x c e=>(cOf x c e).1) fun p hp=>absurd hp (by simp[cS])
    refine⟨m',hm,i+1,ys++[y],σ6,H8,its++[v],I9,T.keep _ _ _ a3 fun b hb o e=>(hs9.2 b (hfD b hb)).trans e,a4,a2,?_,rv3.append (.cons r8 .nil),w8⟩
    have e:(its++[v]).toArray=its.toArray.push v:=by simp
    rw[e];exact hl9
 exact codeAny_compStart_list loop (T.self _ 0 _ _ _ (T.keep _ _ _ st2 fun b _ o e=>keepOld b o e) loop)
def cY (N')(ix)(hi:PI X tg iter wi)(hg:∀C s₂ H₂ fp,PG (cS X N' scope C s₂ H₂ fp) tg g)(ht:∀C s₂ H₂ fp,aP7 (cS X N' scope C s₂ H₂ fp) ifs tc)(he:∀C s₂ H₂ fp,PE (cS X N' scope C s₂ H₂ fp) elt te)(S:autoParam (wI X.N X.env.scope scope N' ix=true) Rq0._auto_1)(hc:autoParam (X.calm=true) Rq0._auto_1)(hs:autoParam (∀x,foldedSetIterable iter X.env x=pure x) Rq4._auto_1):
  PE X (.ListComp elt [⟨tg,iter,ifs,0⟩] scope pos) (bM1 wi ix g tc te):=by
 intro pins s σ H Q I h
 have S:=iH.of S
 rw[eval_ListComp]
 refine ux (use:=none) (cl:=kK X.env scope.names) rfl hs (mS fun y hy e=>I.ok.has y.1 (S.free y hy e)) S.kind S.loc (cV (hi pins s σ H _ I h) fun xv s₁ h₁=>cV h₁ fun itv s₂ h₂=>?_)
 obtain⟨it,fp,tn,J,H₂,rfl,I2,T,st2,f2,w⟩:=h₂
 refine vD (RR:=fun acc C=>compPost (model X.prog X.w) X.A X.xe none (EP X pins σ Q) acc C) S hc hg ht he I2 T st2 f2 w fun acc C s' ce=>?_
 obtain⟨D,H',ys,rfl,dn,J',hm,cn,dc,c1,c2,c3,c4,kf⟩:=ce
 obtain⟨m,hm⟩:=hm
 refine⟨m,hm,fun h' hs'=>⟨.ref D,_,J'.turned (t':=s'.toks) (fun b o hb e=>(hs'.2 b hb).trans e) (by rw[aH dc.symm];exact cn) c1 (.inr c2) c3 c4,rfl,kf D dn⟩⟩
def lZ (N')(ix)(hN:X.N.Nodup)(hxi:X.N[i]?=some x)(hx:Loc X.env.scope x)(hi:PI X tg iter wi)(hg:∀C s₂ H₂ fp,PG (cS X N' scope C s₂ H₂ fp) tg g)(ht:∀C s₂ H₂ fp,aP7 (cS X N' scope C s₂ H₂ fp) ifs tc)(he:∀C s₂ H₂ fp,PE (cS X N' scope C s₂ H₂ fp) elt te)(S:autoParam (wI X.N X.env.scope scope N' ix=true) Rq0._auto_1)(hc:autoParam (X.calm=true) Rq0._auto_1)(hs:autoParam (∀x,foldedSetIterable iter X.env x=pure x) Rq4._auto_1)(hsw:autoParam (swapsWith (.ListComp elt [⟨tg,iter,ifs,0⟩] scope pos) (some (.Name x pos')) spos.line X.env=pure true) Rq0._auto_1)(hf:autoParam (X.fn x=true\/X.env.scope.names.lookup x=some .local) Rq3._auto_1):
  PS X (.Assign [.Name x pos'] (.ListComp elt [⟨tg,iter,ifs,0⟩] scope pos) spos) (aX6 (bM1 wi ix g tc te) (rP i)):=by
 intro pins s σ H D I h
 have S:=iH.of S
 rw[exec_Assign_Name_used _ _ _ _ hsw]
 refine aa (sj (aa ?_))
 show wpAny _ X.A (do let _ <-comprehension (.ListComp elt [⟨tg,iter,ifs,0⟩] scope pos) scope X.env _ (newList []) false (eval iter X.env) (some (assign (.Name x pos') X.env))) _ _ s
 refine aa (dm (ux (use:=some (assign (.Name x pos') X.env)) (cl:=kK X.env scope.names) (Q:=fun _ s'=>SP X pins D .next s') rfl hs (mS fun y hy e=>I.ok.has y.1 (S.free y hy e)) S.kind S.loc
  (cV (hi pins s σ H _ I h) fun xv s₁ h₁=>cV h₁ fun itv s₂ h₂=>?_)) (fun _ s' hq=>ak (ak hq)) fun _ _ e=>e)
 obtain⟨it,fp,tn,J,H₂,rfl,I2,T,st2,f2,w⟩:=h₂
 refine vD (RR:=fun acc C=>compPost (model X.prog X.w) X.A X.xe (some (assign (.Name x pos') X.env)) (fun _ s'=>SP X pins D .next s') acc C) S hc hg ht he I2 T st2 f2 w fun acc C s' ce=>?_
 obtain⟨D',H',ys,rfl,dn,J',hm,cn,dc,c1,c2,c3,c4,kf⟩:=ce
 obtain⟨m,hm⟩:=hm
 show wpAny _ X.A (assign (.Name x pos') X.env (.ref D')) _ _ _
 refine yq (vF (v:= .ref D') J' hN hxi hx rfl (fun s2 J2 hsb=>?_) hf)
 obtain⟨a,hsb,ha⟩:=hsb
 have hCa:C≠a:=by
  rcases ha with z|z
  ·rw[z];exact c1
  ·exact(c3 x a z).symm
 refine⟨m,hm.sameBut hsb hCa,fun h' hs'=>?_⟩
 exact⟨_,_,J2.turned (t':=s2.toks) (fun b o hb e=>(hs'.2 b hb).trans e) (by rw[aH dc.symm];exact cn) c1 (.inr c2) c3 c4,kf D' dn⟩
def dJ {K}(Pv:Nat->List V->St->Hp->Prop)(hz:xs.length<sizeLine)(h0:Pv 0 [] σ0 H1)(hb:∀i ys σ H,Pv i ys σ H->ys.length<=i)(hl:∀i ys σ H,i<=xs.length->Pv i ys σ H->bJ K H a xs)(hs:∀i x ys σ H,xs[i]?=some x->Pv i ys σ H->g x σ H fun σ2 H2=>tc σ2 H2 fun b H3=>if b=true then te σ2 H3 fun y H4=>Pv (i+1) (ys++[y]) σ2 H4 else Pv (i+1) ys σ2 H3)(hd:∀ys σ H,Pv xs.length ys σ H->Kf ys H):mM (Itl K a) g tc te Kf σ0 H1:=by
 refine⟨fun i m ys σ H=>m=xs.length-i/\i<=xs.length/\Pv i ys σ H,⟨xs.length,by simp,bu _,h0⟩,?_⟩
 rintro i m ys σ H ⟨rfl,hi,p⟩
 have q:=hl i ys σ H hi p
 refine⟨di (hb _ _ _ _ p) (di hi hz),?_⟩
 by_cases hlt:i<xs.length
 ·refine .inr ⟨⟨xs,xs[i],q,by simp[hlt]⟩,Pv (i+1),fun ys' σ' H' p'=>⟨xs.length-(i+1),fm hlt (ek i),rfl,hlt,p'⟩,fun x H' y=>?_⟩
  obtain⟨e,y⟩:=y
  subst e
  exact hs i x ys σ _ (y xs q) p
 ·have e:i=xs.length:=by lia
  subst e
  exact .inl ⟨⟨xs,q,aj _⟩,hd ys σ H p⟩
def sO {K}(Pv:Nat->List V->St->Hp->Prop)(hz:xs.length<sizeLine)(h0:Pv 0 [] σ0 H1)(hb:∀i ys σ H,Pv i ys σ H->ys.length<=i)(hl:∀i ys σ H,i<=xs.length->Pv i ys σ H->aQ K H a xs)(hs:∀i x ys σ H,xs[i]?=some x->Pv i ys σ H->g x σ H fun σ2 H2=>tc σ2 H2 fun b H3=>if b=true then te σ2 H3 fun y H4=>Pv (i+1) (ys++[y]) σ2 H4 else Pv (i+1) ys σ2 H3)(hd:∀ys σ H,Pv xs.length ys σ H->Kf ys H):mM (Itt K a) g tc te Kf σ0 H1:=by
 refine⟨fun i m ys σ H=>m=xs.length-i/\i<=xs.length/\Pv i ys σ H,⟨xs.length,by simp,bu _,h0⟩,?_⟩
 rintro i m ys σ H ⟨rfl,hi,p⟩
 have q:=hl i ys σ H hi p
 refine⟨di (hb _ _ _ _ p) (di hi hz),?_⟩
 by_cases hlt:i<xs.length
 ·refine .inr ⟨⟨xs,xs[i],q,by simp[hlt]⟩,Pv (i+1),fun ys' σ' H' p'=>⟨xs.length-(i+1),fm hlt (ek i),rfl,hlt,p'⟩,fun x H' y=>?_⟩
  obtain⟨e,y⟩:=y
  subst e
  exact hs i x ys σ _ (y xs q) p
 ·have e:i=xs.length:=by lia
  subst e
  exact .inl ⟨⟨xs,q,aj _⟩,hd ys σ H p⟩
def mY {lo}(Pv:Nat->List V->St->Hp->Prop)(hz:n<sizeLine)(h0:Pv 0 [] σ0 H1)(hb:∀i ys σ H,Pv i ys σ H->ys.length<=i)(hs:∀i ys σ H,i<n->Pv i ys σ H->g (.int (lo+i)) σ H fun σ2 H2=>tc σ2 H2 fun b H3=>if b=true then te σ2 H3 fun y H4=>Pv (i+1) (ys++[y]) σ2 H4 else Pv (i+1) ys σ2 H3)(hd:∀ys σ H,Pv n ys σ H->Kf ys H):mM (Itr lo n) g tc te Kf σ0 H1:=by
 refine⟨fun i m ys σ H=>m=n-i/\i<=n/\Pv i ys σ H,⟨n,by simp,bu _,h0⟩,?_⟩
 rintro i m ys σ H ⟨rfl,hi,p⟩
 refine⟨di (hb _ _ _ _ p) (di hi hz),?_⟩
 by_cases hlt:i<n
 ·refine .inr ⟨hlt,Pv (i+1),fun ys' σ' H' p'=>⟨n-(i+1),fm hlt (ek i),rfl,hlt,p'⟩,fun x H' y=>?_⟩
  obtain⟨e,y⟩:=y
  subst e y
  exact hs i ys σ _ hlt p
 ·have e:i=n:=by lia
  subst e
  exact .inl ⟨aj _,hd ys σ H p⟩
end
def aM5:typeLookup (.type "list_reverseiterator") "__len__"=pure none:=by rw[vp,qc];kernel_rfl
def bF9:typeLookup (.type "list_reverseiterator") "__length_hint__"=pure (some (.builtin "list_reverseiterator.__length_hint__")):=by rw[vp,qc];kernel_rfl
abbrev newL:Obj:={ cls:= .type "list",data:= .seq #[] }
section
variable {prog:Program}{w:World}{A:Around}{E Q:Value->Shared->Prop}{s:Shared}{it p:Addr}{items:Array Value}
def zH (hh:A.handled=none)(ne:p≠it)(hi:s.heap.IsRevIter it p ((items.size:Int)-1))(hp:s.heap.IsList p items)(hz:items.size<=sizeLine)(k:∀t got c,(∀b o,b≠it->s.heap.get? b=some o->t.heap.get? b=some o)->t.gens=s.gens->t.os=s.os ->
   t.heap.get? s.heap.objs.size=some { cls:= .type "list",dict:=none,data:= .seq got c,slots:= #[] }->got.toList=items.toList.reverse->Q (.ref s.heap.objs.size) t):
  wpAny (model prog w) A (call (.type "list") [.ref it]) Q E s:=by
 let W:=(xk (prog:=prog) (w:=w) (A:=A.in1.in1) hh it p ne items).toS
 have st0:0<=items.size/\s.heap.IsRevIter it p ((items.size:Int)-1-((0:Nat):Int))/\s.heap.IsList p items:=⟨bu _,by simpa using hi,hp⟩
 have itLt:it<s.heap.objs.size:=by
  obtain⟨o,e,_⟩:=hi
  exact ay e
 have pLt:p<s.heap.objs.size:=by
  obtain⟨o,e,_⟩:=hp
  exact ay e
 have fresh:s.heap.objs.size∉[it,p]:=fun m=>by
  rcases bv.mp m with z|z
  ·exact fq _ (z ▸ itLt)
  ·exact fq _ ((cp.mp z) ▸ pLt)
 have neS:s.heap.objs.size≠it:=fun z=>fresh (by rw[z];exact ao)
 refine callType_codes (Q₁:=fun o t=>o= .ref s.heap.objs.size/\t={ s with heap:=s.heap.push newL }) F.called_list (F.typeCall_list_1 _) F.entry_list_init (code_list_new _ ⟨rfl,rfl⟩) ?_
 rintro _ _ ⟨rfl,rfl⟩
 have hS:(s.heap.push newL).get? s.heap.objs.size=some newL:=bc _ rfl
 refine⟨⟨_,hS,rfl⟩,F.args_list_init_2 _ _,?_⟩
 refine aa (m:=Builtin.List.listItems (.ref s.heap.objs.size)) (aa (ji hS rfl (ak ?_)))
 refine aa (m:=updateSeq s.heap.objs.size fun _=> #[]) (wpAny_updateSeq hS rfl (aa (zg ?_)))
 have hS2:=ik (Obj.mapSeq fun _=>(#[]:Array Value)) hS rfl
 have older:∀b o,s.heap.get? b=some o->((s.heap.push newL).update s.heap.objs.size (Obj.mapSeq fun _=>(#[]:Array Value))).get? b=some o:=fun b o e =>
  (pi _ _ (js (ay e))).trans (af _ e)
 have st1:=W.frame 0 s ((s.heap.push newL).update s.heap.objs.size (Obj.mapSeq fun _=>(#[]:Array Value))) s.toks st0 (aj _) fun b _ o e=>older b o e
 have ty:∀i t,(fun(i:Nat) (t:Shared)=>i<=items.size/\t.heap.IsRevIter it p ((items.size:Int)-1-(i:Int))/\t.heap.IsList p items) i t->t.TypeIs (.ref it) "list_reverseiterator":=fun i t z=>z.2.1.typeIs
 unfold Builtin.List.listExtendWith
 refine aa (uw (ty 0 _ st1) ?_)
 have same:Builtin.List.listSameRef (.ref s.heap.objs.size) (.ref it)=false:=by simp[Builtin.List.listSameRef,neS]
 rw[au (by rw[same];decide)]
 refine aa (W.self 0 _ _ _ st1 (aa (dz ?_)))
 unfold Builtin.List.listLengthHint
 refine aa (vm (ty 0 _ st1) aM5 ?_)
 refine aa (m:=specialOf (Value.ref it) (Str.ofString "__length_hint__")) (vm (ty 0 _ st1) bF9 ?_)
 generalize hid:("list_reverseiterator.__length_hint__": String)=id0
 wp_delta
 rw[show splitId id0=some ("list_reverseiterator","__length_hint__") from by subst hid;decide]
 subst hid
 refine aa (uy (b:=true) (ty 0 _ st1) (by rw[wk];kernel_rfl) (ak ?_))
 rw[au (by decide)]
 refine ak ⟨sk F.plain_extend_loop _,codeAny_extend_loopS W hz _ fresh _ items.size 0 _ _ _ rfl (bu _) st1 hS2 (ItemsOf.nil _) fun t got c mv at' its=>⟨rfl,?_⟩⟩
 refine k t got c (fun b o hb e=>mv.heap b o (fun m=>?_) (older b o e)) mv.gens mv.os at' ?_
 ·rcases bv.mp m with z|z
  ·exact absurd (ay e) (by rw[z];exact fq _)
  ·exact hb (cp.mp z)
 ·obtain⟨len,each⟩:=its
  refine List.ext_getElem? fun j=>?_
  by_cases hj:j<items.size
  ·have g:got[j]?=some got[j]:=nz (by lia)
   rw[wm (by simpa using hj),im,im,g, <-each j _ g]
   simp
  ·rw[wn (by simp;lia),wn (by simp;lia)]
end
def bB1 (K:PySem.W.Frag)(te:TE):TE:=fun σ H Q=>te σ H fun x H1=>∃a ys,x= .ref a/\bJ K H1 a ys/\∀l,H1 l=none->Q (.ref l) (aN H1 l (.lst ys.reverse))
def zS (he:PE X e te)(g1:Gl X "list")(m1:X.mg "list"=none)(g2:Gl X "reversed")(m2:X.mg "reversed"=none)(hc:autoParam (X.calm=true) Rq0._auto_1)(hs1:autoParam (starEach [.Call (.Name "reversed" p2) [e] [] pos2] X.env=[(false,eval (.Call (.Name "reversed" p2) [e] [] pos2) X.env)]) Rq0._auto_1)(hs2:autoParam (starEach [e] X.env=[(false,eval e X.env)]) Rq0._auto_1):
  PE X (.Call (.Name "list" p1) [.Call (.Name "reversed" p2) [e] [] pos2] [] pos1) (bB1 X.K te):=by
 intro pins s σ H Q I h
 refine fu (kR I g1 m1 ib ?_)
 refine gq ?_ hs1 rfl
 rw[hs1]
 refine io (fu (kR I g2 m2 sq ?_))
 refine gq ?_ hs2 rfl
 rw[hs2]
 refine io (cV (he pins s σ H _ I h) ?_);rintro u s1 ⟨x,H1,I1,r1,a,ys,ex,hq,q⟩;refine ki ?_
 subst ex
 cases r1
 obtain⟨its,rv,pl,hz⟩:=I1.list hq
 have il:=pl.isList
 refine yf il (ki ?_)
 have I2:aX X pins σ H1 { s1 with heap:=s1.heap.push (revObj a ((its.toArray.size:Int)-1)) }:=I1.kept (t':=s1.toks) fun b o e=>af _ e
 have aLt:a<s1.heap.objs.size:=by
  obtain⟨o,e,_⟩:=il
  exact ay e
 have len:=rv.length
 obtain⟨f0,f1,f2,f3,f4,f5⟩:mB X pins H1 s1.heap.objs.size:=I1.fpOk (aj _) (I1.hok.fresh (aj _))
 refine zH (p:=a) (items:=its.toArray) (I.ok.hd hc) (bw aLt) ⟨_,bc _ rfl,rfl,rfl⟩ (il.at fun o e=>af _ e) (by rw[bn];lia) ?_
 intro t got c keep gens os at' eg
 obtain⟨D,eD⟩:∃D,(s1.heap.push (revObj a ((its.toArray.size:Int)-1))).objs.size=D:=⟨_,rfl⟩
 have hD:(s1.heap.push (revObj a ((its.toArray.size:Int)-1))).objs.size<=D:=Nat.le_of_eq eD
 dsimp only at at' ⊢
 rw[eD] at at' ⊢
 have fD:H1 D=none:=I2.hok.fresh hD
 have neT:∀b u,H1 b=some u->b≠s1.heap.objs.size:=fun b u e z=>by rw[z,f0] at e;cases e
 refine⟨.ref D,aN H1 D (.lst ys.reverse),I2.call' (ch:=[s1.heap.objs.size]) os ⟨fun b o e n _ hx=>keep b o (fun z=>hx (by simp[z])) e,fun b o e n _ hx=>⟨o.slots,keep b o (fun z=>hx (by simp[z])) e⟩,fun b o e n _=>?_,fun b o e hx=>⟨o,keep b o (fun z=>hx (by simp[z])) e⟩,fun b xs e=>?_,fun b o u e=>?_,fun b ps e=>⟨#[],?_⟩⟩ (fun b u e=>?_) (by rw[gens];exact I2.bare) (fun b hb=>?_),rfl,q D fD⟩
 ·rw[aH (fun z=>absurd (ay e) (by rw[z];exact mq.mpr hD))];exact n
 ·rw[aH (aK e fD)];exact e
 ·rw[aH (aK e fD)];exact e
 ·rw[aH (aK e fD),e];simp
 ·by_cases hb:b=D
  ·subst hb
   rw[aC] at e
   cases e
   have at2:t.heap.get? b=some { cls:= .type "list",dict:=none,data:= .seq its.reverse.toArray c,slots:= #[] }:=by
    rw[at', <-qp (xs:=got),eg]
   exact⟨by rw[eh];exact hz,its.reverse,c,bM.reverse rv,at2⟩
  ·rw[aH hb] at e
   refine(I2.hok b u e).stay (fun c' v hc' q'=>keep c' v ?_ q') (fun c' q'=>by rw[aH (aK q' fD)];exact q') fun c' xs q'=>by rw[aH (aK q' fD)];exact q'
   rcases hc' with z|z
   ·rw[z];exact neT b u e
   ·exact neT c' _ z
 ·have z:b=s1.heap.objs.size:=by simpa using hb
  subst z
  exact⟨f3,f1,f4,f5⟩
def cC4 (i j:Int):Prop:=0<j/\j<2^250
def nN:jU X (binaryOp .FloorDiv) (rI cC4 fun i j=> .int (i / j)):=opI fun i j _ _ _ _ _ hc q=>by
 obtain⟨h0,h1⟩:=hc
 refine floordiv_int (by lia) ?_ (.inl (uz ?_))
 ·rw[sr i (by lia)];exact q
 ·have h2:j.natAbs<2^250:=by
   have e:((j.natAbs:Nat):Int)=j:=Int.natAbs_of_nonneg (by lia)
   have:((j.natAbs:Nat):Int)<((2^250:Nat):Int):=by rw[e];exact_mod_cast h1
   exact Int.ofNat_lt.mp this
  have h3:j.natAbs≠0:=by lia
  have h4:j.natAbs.log2<250:=(Nat.log2_lt h3).mpr h2
  exact bz h4 (by decide)
def eY (sd n:Int)(l:Addr):List (Key×V):=[(.inr "seed",.int sd),(.inr "number",.int n),(.inr "left",.ref l)]
def ksn:¬((Sum.inr ("seed": Str):Key)=Sum.inr ("number": Str)):=by decide
def ksl:¬((Sum.inr ("seed": Str):Key)=Sum.inr ("left": Str)):=by decide
def knl:¬((Sum.inr ("number": Str):Key)=Sum.inr ("left": Str)):=by decide
def kns:¬((Sum.inr ("number": Str):Key)=Sum.inr ("seed": Str)):=by decide
def kls:¬((Sum.inr ("left": Str):Key)=Sum.inr ("seed": Str)):=by decide
def kln:¬((Sum.inr ("left": Str):Key)=Sum.inr ("number": Str)):=by decide
def aM1 (sd n)(l):dW (eY sd n l) (Sum.inr "seed": Key)=some (.int sd):=by unfold eY;rw[dA rfl]
def yO (sd n)(l):dW (eY sd n l) (Sum.inr "number": Key)=some (.int n):=by unfold eY;rw[cE ksn,dA rfl]
def aL8 (sd n)(l):dW (eY sd n l) (Sum.inr "left": Key)=some (.ref l):=by unfold eY;rw[cE ksl,cE knl,dA rfl]
def aV7 (sd n v)(l):dP (eY sd n l) (Sum.inr "seed": Key) (.int v)=eY v n l:=by
 unfold dP eY
 simp
 exact⟨fun z=>absurd (ej Sum.inr z) kns,fun z=>absurd (ej Sum.inr z) kls⟩
def aB1 (sd n v)(l):dP (eY sd n l) (Sum.inr "number": Key) (.int v)=eY sd v l:=by
 unfold dP eY
 simp
 exact⟨fun z=>absurd (ej Sum.inr z) ksn,fun z=>absurd (ej Sum.inr z) kln⟩
structure cN(H:Hp)(d l:Addr)(sd n:Int)(ls:List Int):Prop where
 dc:H d=some (.dK (eY sd n l))
 lc:H l=some (.lst (ls.map V.int))
 s0:0<=sd
 s1:sd<2147483647
 n0:0<=n
 l0:∀x∈ls,0<=x
def dY (H:Hp)(d l:Addr):Prop:=∃sd n ls,cN H d l sd n ls
def cN.ne (D:cN H d l sd n ls):d≠l:=gX D.dc D.lc (by intro z;cases z)
def fL (d l:Addr)(H H':Hp):Prop:=∀b o,H b=some o->b≠d->b≠l->H' b=some o
def fL.refl (H):fL d l H H:=fun _ _ e _ _=>e
def fL.trans (a:fL d l H H1)(b:fL d l H1 H2):fL d l H H2:=fun c o e h1 h2=>b c o (a c o e h1 h2) h1 h2
def fL.of (s:bA H H'):fL d l H H':=fun c o e _ _=>s c o e
def fL.upd_d:fL d l H (aN H d o):=fun b u e h1 _=>by rw[aH h1];exact e
def fL.upd_l:fL d l H (aN H l o):=fun b u e _ h1=>by rw[aH h1];exact e
def aB (h:H p=none)(o):bA H (aN H p o):=fun b u q=>by rw[aH (aK q h)];exact q
def cN.seed (D:cN H d l sd n ls)(h0:0<=v)(h1:v<2147483647):cN (aN H d (.dK (eY v n l))) d l v n ls:=
 ⟨aC,by rw[aH D.ne.symm];exact D.lc,h0,h1,D.n0,D.l0⟩
def cN.number (D:cN H d l sd n ls)(h0:0<=v):cN (aN H d (.dK (eY sd v l))) d l sd v ls:=
 ⟨aC,by rw[aH D.ne.symm];exact D.lc,D.s0,D.s1,h0,D.l0⟩
def cN.left (D:cN H d l sd n ls)(h:∀x∈ls',0<=x):cN (aN H l (.lst (ls'.map V.int))) d l sd n ls':=
 ⟨by rw[aH D.ne];exact D.dc,aC,D.s0,D.s1,D.n0,h⟩
def cN.out (D:cN H d l sd n ls)(s:bA H H'):cN H' d l sd n ls:=⟨s _ _ D.dc,s _ _ D.lc,D.s0,D.s1,D.n0,D.l0⟩
def dY.same (D:dY H d l)(s:bA H H'):dY H' d l:=by obtain⟨sd,n,ls,q⟩:=D;exact⟨sd,n,ls,q.out s⟩
def cN.gs (D:cN H d l sd n ls):fW H d (.str "seed") (some (.int sd)):=by rw[<-aM1 sd n l];exact fW.k (k:=Sum.inr "seed") D.dc
def cN.gn (D:cN H d l sd n ls):fW H d (.str "number") (some (.int n)):=by rw[<-yO sd n l];exact fW.k (k:=Sum.inr "number") D.dc
def cN.gl (D:cN H d l sd n ls):fW H d (.str "left") (some (.ref l)):=by rw[<-aL8 sd n l];exact fW.k (k:=Sum.inr "left") D.dc
def cN.ps (D:cN H d l sd n ls)(v):hX H d (.str "seed") (.int v) (aN H d (.dK (eY v n l))):=by
 rw[<-aV7 sd n v l];exact hX.k (k:=Sum.inr "seed") D.dc (aJ (by show 3<=1000;decide))
def cN.pn (D:cN H d l sd n ls)(v):hX H d (.str "number") (.int v) (aN H d (.dK (eY sd v l))):=by
 rw[<-aB1 sd n v l];exact hX.k (k:=Sum.inr "number") D.dc (aJ (by show 3<=1000;decide))
inductive spDraw(vs:List V)(H:Hp)(Q:VK)(z1:XK):Prop
 |mk:∀(d l:Addr) (m:Int),vs=[.ref d,.int m]->dY H d l->0<m->m<2^64->(∀(r:Int) (H':Hp),0<=r->r<m->dY H' d l->fL d l H H'->Q (.int r) H')->spDraw vs H Q z1
inductive zZ(K:PySem.W.Frag)(vs:List V)(H:Hp)(Q:VK)(z1:XK):Prop
 |mk:∀(a:Addr) (ns:List Int) (b:Int),vs=[.ref a,.int b]->bJ K H a (ns.map V.int)->ns.length<=63->0<=b->b<=1000->(∀(d l:Addr) (H':Hp),H d=none->H l=none->dY H' d l->bA H H'->Q (.ref d) H')->zZ K vs H Q z1
def wL {ns:List Int}{i:Nat}(h:(ns.map V.int)[i]?=some y):∃z,y=V.int z/\ns[i]?=some z:=by
 rw[df] at h
 cases e:ns[i]? with
 |none=>rw[e] at h;cases h
 |some z=>rw[e] at h;exact⟨z,(cu h).symm,rfl⟩
mutual
def bI9(K:PySem.W.Frag)(H:Hp):PyData->V->Prop
 |.none,v=>v= .non
 |.bool b,v=>v= .bl b
 |.int i,v=>v= .int i
 |.str x,v=>v= .str x
 |.tuple ds,v=>∃a vs,v= .ref a/\aQ K H a vs/\yF K H ds vs
 |.list ds,v=>∃a vs,v= .ref a/\bJ K H a vs/\yF K H ds vs
 |.dict _,_=>False
def yF(K:PySem.W.Frag)(H:Hp):List PyData->List V->Prop
 |[],vs=>vs=[]
 |d::ds,vs=>∃v r,vs=v::r/\bI9 K H d v/\yF K H ds r
end
section
variable {X:Cx}{pins:List (Addr×Obj)}{σ:St}{H:Hp}{s:Shared}
mutual
def bI9.reads(I:aX X pins σ H s):∀(d:PyData) (v:V) (u:Value),bI9 X.K H d v->bL v u->∃as,Reads s.heap u d as
 |.none,v,u,h,r=>by
  have h:v= .non:=h
  subst h;cases r;exact⟨_,.none⟩
 |.bool b,v,u,h,r=>by
  have h:v= .bl b:=h
  subst h;cases r;exact⟨_,.bool b⟩
 |.int i,v,u,h,r=>by
  have h:v= .int i:=h
  subst h;obtain⟨t,rfl⟩:=r;exact⟨_,.int i t⟩
 |.str x,v,u,h,r=>by
  have h:v= .str x:=h
  subst h;obtain⟨t,rfl⟩:=r;exact⟨_,.str x t⟩
 |.tuple ds,v,u,h,r=>by
  obtain⟨a,vs,rfl,hs,hl⟩:=h
  cases r
  obtain⟨its,rv,⟨o,ho,hc,n,hd⟩,_⟩:=I.tuple hs
  obtain⟨as,ra⟩:=yF.reads I ds vs its hl rv
  exact⟨_,.tuple ho hc hd (by simpa using ra)⟩
 |.list ds,v,u,h,r=>by
  obtain⟨a,vs,rfl,hs,hl⟩:=h
  cases r
  obtain⟨its,rv,pl,_⟩:=I.list hs
  obtain⟨o,ho,hc,n,hd⟩:=pl.isList
  obtain⟨as,ra⟩:=yF.reads I ds vs its hl rv
  exact⟨_,.list ho hc hd (by simpa using ra)⟩
 |.dict _,v,u,h,r=>h.elim
def yF.reads(I:aX X pins σ H s):∀(ds:List PyData) (vs:List V) (us:List Value),yF X.K H ds vs->bM vs us->∃as,ReadsAll s.heap us ds as
 |[],vs,us,h,r=>by
  have h:vs=[]:=h
  subst h;cases r;exact⟨_,.nil⟩
 |d::ds,vs,us,h,r=>by
  obtain⟨v,t,rfl,hd,ht⟩:=h
  cases r with
  |cons r1 r2 =>
   obtain⟨as,ra⟩:=bI9.reads I d v _ hd r1
   obtain⟨bs,rb⟩:=yF.reads I ds t _ ht r2
   exact⟨_,.cons ra rb⟩
end
end
section
variable {X:Cx}
def gO:eL X (.builtin "isinstance") (fun xs H Q=>∃x n t b,xs=[x,.ty n]/\pE X.K H x t/\PySem.W.kitOne X.K t (.type n)=some b/\Q (.bl b) H):=by
 intro pins s σ H xs us Q I r h
 obtain⟨x,n,t,b,rfl,ty,e,q⟩:=h
 obtain⟨u,w',rfl,ru,rw'⟩:=tQ r
 cases rw'
 exact aM2 I ru ty e fun tk=>⟨.bl b,H,I.tok tk,rfl,q⟩
def nO (hc:autoParam (X.calm=true) Rq0._auto_1):eL X (.builtin "all") (fun xs H Q=>∃(p:Addr) (bs:List Bool),xs=[.ref p]/\bJ X.K H p (bs.map V.bl)/\Q (.bl (bs.all id)) H):=by
 intro pins s σ H xs us Q I r h
 obtain⟨p,bs,rfl,hq,q⟩:=h
 obtain⟨u,rfl,ru⟩:=gP r
 cases ru
 obtain⟨its,rv,pl,hz⟩:=I.list hq
 have lp:p<s.heap.objs.size:=by
  obtain⟨o,e,_⟩:=pl.isList
  exact ay e
 refine call_all_walk (ly pl.isList ⟨s.heap.objs.size,_,_,_,_,_,fun i=>bs.getD i true,rfl,Walks.list (A:=X.A.in1) (I.ok.hd hc) s.heap.objs.size p (bw lp) its.toArray,⟨⟨_,bc _ rfl,rfl,rfl⟩,pl.isList.at fun o e=>af _ e⟩,?_,?_⟩)
 ·intro i v s1 Q1 E1 hv hq1
  have hi:its[i]?=some v:=by simpa using hv
  have hl:=rv.length
  rw[ac] at hl
  have hb:i<bs.length:=by
   have:=(bf.mp hi).1
   lia
  obtain⟨u,hu,ru⟩:=rv.get (i:=i) (x:=V.bl bs[i]) (by rw[df,bo hb];rfl)
  rw[hi] at hu
  cases hu
  cases ru
  have e:bs.getD i true=bs[i]:=by simp[List.getD,hb]
  dsimp only at hq1
  rw[e] at hq1
  exact fc hq1
 ·intro h' tk hk
  have kept:∀b o,s.heap.get? b=some o->h'.get? b=some o:=fun b o e=>hk b o (by
   intro z
   have z:b=s.heap.objs.size:=by simpa using z
   exact absurd (ay e) (by rw[z];exact fq _)) (af _ e)
  refine⟨.bl (bs.all id),H,I.kept kept,?_,q⟩
  show Value.bool _=Value.bool _
  have hl:=rv.length
  rw[ac] at hl
  have e:((List.range its.toArray.size).all fun i=>bs.getD i true)=bs.all id:=by
   rw[bn, <-hl]
   clear q hq rv pl hk hz hl
   rw[ig,kw,kw]
   constructor
   ·intro h b hb
    obtain⟨i,hi,e⟩:=re hb
    have:=h i (jg.mpr hi)
    simp[List.getD,hi] at this
    rw[<-e];exact this
   ·intro h i hi
    have hi:=jg.mp hi
    simp[List.getD,hi]
    exact h _ (va hi)
  rw[e]
end
section
variable {X:Cx}(K:PySem.W.Frag)
def pT (hK:autoParam (X.K=K) Rq0._auto_1):IxR X (bU0 K):=by subst hK;exact aI
def inK (hK:autoParam (X.K=K) Rq0._auto_1):jU X (compareOp .In) (rIn K false):=by subst hK;exact dN
def cF6 (hK:autoParam (X.K=K) Rq0._auto_1):jU X (compareOp .NotIn) (rIn K true):=by subst hK;exact hV
end
def bH {c A B:Prop}[Decidable c](hc:c)(h:A):if c then A else B:=by rw[bb hc];exact h
def aS {c A B:Prop}[Decidable c](hc:¬c)(h:B):if c then A else B:=by rw[au hc];exact h
def iY (v)(r:List α):nE (v::r) 0=some v:=by
 have h:(0:Int)<((v::r).length:Int):=by simp
 unfold nE zK
 rw[bb (by decide),bb h]
 rfl
section
variable {X:Cx}
def aR6 (hc:autoParam (X.calm=true) Rq0._auto_1):eL X (.builtin "any") (fun xs H Q=>∃(p:Addr) (bs:List Bool),xs=[.ref p]/\bJ X.K H p (bs.map V.bl)/\Q (.bl (bs.any id)) H):=by
 intro pins s σ H xs us Q I r h
 obtain⟨p,bs,rfl,hq,q⟩:=h
 obtain⟨u,rfl,ru⟩:=gP r
 cases ru
 obtain⟨its,rv,pl,hz⟩:=I.list hq
 have lp:p<s.heap.objs.size:=by
  obtain⟨o,e,_⟩:=pl.isList
  exact ay e
 refine call_any_walk (ly pl.isList ⟨s.heap.objs.size,_,_,_,_,_,fun i=>bs.getD i false,rfl,Walks.list (A:=X.A.in1) (I.ok.hd hc) s.heap.objs.size p (bw lp) its.toArray,⟨⟨_,bc _ rfl,rfl,rfl⟩,pl.isList.at fun o e=>af _ e⟩,?_,?_⟩)
 ·intro i v s1 Q1 E1 hv hq1
  have hi:its[i]?=some v:=by simpa using hv
  have hl:=rv.length
  rw[ac] at hl
  have hb:i<bs.length:=by
   have:=(bf.mp hi).1
   lia
  obtain⟨u,hu,ru⟩:=rv.get (i:=i) (x:=V.bl bs[i]) (by rw[df,bo hb];rfl)
  rw[hi] at hu
  cases hu
  cases ru
  have e:bs.getD i false=bs[i]:=by simp[List.getD,hb]
  dsimp only at hq1
  rw[e] at hq1
  exact fc hq1
 ·intro h' tk hk
  have kept:∀b o,s.heap.get? b=some o->h'.get? b=some o:=fun b o e=>hk b o (by
   intro z
   have z:b=s.heap.objs.size:=by simpa using z
   exact absurd (ay e) (by rw[z];exact fq _)) (af _ e)
  refine⟨.bl (bs.any id),H,I.kept kept,?_,q⟩
  show Value.bool _=Value.bool _
  have hl:=rv.length
  rw[ac] at hl
  have e:((List.range its.toArray.size).any fun i=>bs.getD i false)=bs.any id:=by
   rw[bn, <-hl]
   clear q hq rv pl hk hz hl
   rw[ig,je,je]
   constructor
   ·rintro⟨i,hi,h⟩
    have hi:=jg.mp hi
    simp[List.getD,hi] at h
    exact⟨_,va hi,h⟩
   ·rintro⟨b,hb,h⟩
    obtain⟨i,hi,e⟩:=re hb
    refine⟨i,jg.mpr hi,?_⟩
    simp[List.getD,hi]
    rw[e];exact h
  rw[e]
def bU1 (K)(hc:X.calm=true)(h:PGs X es t)(hK:autoParam (X.K=K) Rq0._auto_1)(hn:autoParam ((assignEach es X.env).length=n) Rq0._auto_1)(hst:autoParam ((assignEach es X.env).findIdx? (·.1)=none) Rq0._auto_1):PG X (.Tuple es k pos) (bO9 K n t):=by subst hK;exact jE hc h hn hst
end
section
variable {X:Cx}{pins:List (Addr×Obj)}{σ:St}{H:Hp}{s:Shared}{h':Heap}
def aX.turnedNew {T:Addr}{rs:List Addr}(I:aX X pins σ H s)(hf:∀b∈rs,mB X pins H b)(k:∀b u,b∉rs->s.heap.get? b=some u->h'.get? b=some u)(hp:s.heap.objs.size<=T)(new:bZ X.prog X.w (aN H T o) h' T o):aX X pins σ (aN H T o) { s with heap:=h',toks:=t' }:=by
 have fT:H T=none:=I.hok.fresh hp
 have nT:∀b u,s.heap.get? b=some u->b≠T:=fun b u e z=>absurd (ay e) (by rw[z];exact mq.mpr hp)
 have nrs:∀b u,H b=some u->b∉rs:=fun b u e z=>by rw[(hf b z).1] at e;cases e
 refine I.step (g':=s.gens) (d':=s.drawn) (ch:=rs) (fun b hb=>⟨(hf b hb).2.2.2.1,(hf b hb).2.1,(hf b hb).2.2.2.2.1,(hf b hb).2.2.2.2.2⟩) (fun b u _ _ hc e _=>k b u hc e) (fun b u _ _ hc e _=>⟨u.slots,k b u hc e⟩)
  (fun b u _ e n=>by rw[aH (nT b u e)];exact n) (fun b u hc e=>⟨u,k b u hc e⟩) (fun b xs e=>by rw[aH (aK e fT)];exact e) (fun b u v e=>by rw[aH (aK e fT)];exact e)
  (fun b ps e=>⟨#[],by rw[aH (aK e fT),e];simp⟩) (fun m hm=>?_) (fun b u e=>?_) I.bare
 ·obtain⟨u,es,ep,hu,r⟩:=hm
  exact⟨u,es,ep,k _ u (fun z=>(hf _ z).2.1 rfl) hu,r⟩
 ·by_cases hb:b=T
  ·subst hb
   rw[aC] at e
   cases e
   exact new
  ·rw[aH hb] at e
   refine(I.hok b u e).stay (fun c v hc q=>k c v ?_ q) (fun c q=>by rw[aH (aK q fT)];exact q) fun c xs q=>by rw[aH (aK q fT)];exact q
   rcases hc with z|z
   ·rw[z];exact nrs b u e
   ·exact nrs c _ z
def aX.turnedL {rs:List Addr}(I:aX X pins σ H s)(hf:∀b∈rs,mB X pins H b)(k:∀b u,b∉rs->s.heap.get? b=some u->h'.get? b=some u):aX X pins σ H { s with heap:=h',toks:=t' }:=by
 have nrs:∀b u,H b=some u->b∉rs:=fun b u e z=>by rw[(hf b z).1] at e;cases e
 refine I.step (g':=s.gens) (d':=s.drawn) (ch:=rs) (fun b hb=>⟨(hf b hb).2.2.2.1,(hf b hb).2.1,(hf b hb).2.2.2.2.1,(hf b hb).2.2.2.2.2⟩) (fun b u _ _ hc e _=>k b u hc e) (fun b u _ _ hc e _=>⟨u.slots,k b u hc e⟩)
  (fun b u _ _ n=>n) (fun b u hc e=>⟨u,k b u hc e⟩) (fun b xs e=>e) (fun b u v e=>e) (fun b ps e=>⟨#[],by rw[e];simp⟩) (fun m hm=>?_) (fun b u e=>?_) I.bare
 ·obtain⟨u,es,ep,hu,r⟩:=hm
  exact⟨u,es,ep,k _ u (fun z=>(hf _ z).2.1 rfl) hu,r⟩
 ·refine(I.hok b u e).stay (fun c v hc q=>k c v ?_ q) (fun c q=>q) fun c xs q=>q
  rcases hc with z|z
  ·rw[z];exact nrs b u e
  ·exact nrs c _ z
end
section
variable {prog:Program}{w:World}{A:Around}{E:Value->Shared->Prop}{s:Shared}
def aZ2 (a1:s.heap.IsTupleIter J t i)(a2:s.heap.IsTuple t its)(a3:its[i]?=some v)(k:∀g,g.IsTupleIter J t (i+1)->Heap.SameBut J s.heap g->Q v { s with heap:=g }):wpAny (model prog w) A (Builtin.SmallTypes.nextOf (.ref J)) Q E s:=by
 obtain⟨oJ,e1,e2,e3⟩:=id a1
 obtain⟨oT,e4,_,m,e5⟩:=a2
 unfold Builtin.SmallTypes.nextOf
 refine aa (ia (name:=Str.ofString "__next__") a1.typeIs kh (ip kh a1.typeIs se ?_ (rg _)))
 show wpAny _ _ (field (.ref J) 0>>=_) _ _ s
 refine aa (fh e1 e3 (x:= .ref t) rfl ?_)
 refine(show wpAny _ _ (if (Value.ref t==Value.none)=true then _ else _) _ _ s from ?_)
 rw[au (show ¬((Value.ref t==Value.none)=true) by exact bh)]
 show wpAny _ _ (field (.ref J) 1>>=_) _ _ s
 refine aa (fh e1 e3 (x:= .int i 0) rfl ?_)
 refine(show wpAny _ _ (seqItems? (.ref t)>>=_) _ _ s from aa (ji e4 e5 ?_))
 simp only[Int.toNat_natCast,a3]
 refine aa (me e1 e3 (by simp) (ak ⟨v,rfl,ak (k _ ?_ (kx ..))⟩))
 exact⟨_,ik _ e1 (jw (gy e3 _)),(tu ..).trans e2,by rw[gy e3];simp[rawInt]⟩
def aC2 (hh:A.handled=none)(a1:s.heap.IsTupleIter J t i)(a2:s.heap.IsTuple t its)(a3:its[i]?=none)(k:∀g e,Heap.ExtBut J s.heap g->(∃o,g.get? e=some o/\o.cls= .type "StopIteration")->E (.ref e) { s with heap:=g }):wpAny (model prog w) A (Builtin.SmallTypes.nextOf (.ref J)) Q E s:=by
 obtain⟨oJ,e1,e2,e3⟩:=id a1
 obtain⟨oT,e4,_,m,e5⟩:=a2
 unfold Builtin.SmallTypes.nextOf
 refine aa (ia (name:=Str.ofString "__next__") a1.typeIs kh (ip kh a1.typeIs se ?_ (rg _)))
 show wpAny _ _ (field (.ref J) 0>>=_) _ _ s
 refine aa (fh e1 e3 (x:= .ref t) rfl ?_)
 refine(show wpAny _ _ (if (Value.ref t==Value.none)=true then _ else _) _ _ s from ?_)
 rw[au (show ¬((Value.ref t==Value.none)=true) by exact bh)]
 show wpAny _ _ (field (.ref J) 1>>=_) _ _ s
 refine aa (fh e1 e3 (x:= .int i 0) rfl ?_)
 refine(show wpAny _ _ (seqItems? (.ref t)>>=_) _ _ s from aa (ji e4 e5 ?_))
 simp only[Int.toNat_natCast,a3]
 refine aa (oq (aa (me e1 e3 (by simp) ?_)))
 refine(show wpAny _ _ (newExc (.type "StopIteration") []>>=_) _ _ _ from aa ?_)
 simp only[newExc,newTuple]
 refine aa (fe ?_ (by size_fits))
 refine aa (m:=firstArgMember _ _) (zh (a:=Value.none) (by first|exact rfl|(simp only[firstArgMember];rfl)) ?_)
 refine fe ?_ (by size_fits)
 simp only[raiseNew]
 refine aa (wpAny_handled ?_)
 first|rw[hh]|rw[show A.in1.handled=none from hh]
 refine aa (ak (wpAny_throw ?_))
 exact k _ _ (((kx ..).extBut.push _).push _) ⟨_,bc _ rfl,rfl⟩
structure aG3(g:Heap)(n l1 l2:Addr)(i:Nat):Prop where
 z:IsZip g (n+4) (n+2) (n+3) .none
 I:IsPair g (n+2) (.ref n) (.ref (n+1))
 O:∃a b,IsPair g (n+3) a b
 i1:g.IsTupleIter n l1 i
 i2:g.IsTupleIter (n+1) l2 i
def aO5 (o1:∀j,j<5->l1≠n+j)(o2:∀j,j<5->l2≠n+j)(Z:aG3 s.heap n l1 l2 i)(t1:s.heap.IsTuple l1 xs)(t2:s.heap.IsTuple l2 ys)(ex:xs[i]?=some x)(ey:ys[i]?=some y)(k:∀g,IsZip g (n+4) (n+2) (n+3) (rawInt s.heap.objs.size)->IsPair g (n+3) x y->g.IsTupleIter n l1 (i+1)->g.IsTupleIter (n+1) l2 (i+1)->IsPair g s.heap.objs.size x y ->
   (∀c o,c≠n+4->c≠n+3->c≠n->c≠n+1->s.heap.get? c=some o->g.get? c=some o)->Q (some (.ref s.heap.objs.size)) { s with heap:=g }):
  wpAny (model prog w) A (pyNext (.ref (n+4))) Q E s:=by
 obtain⟨hz,hI,⟨a,b,hO⟩,h1,h2⟩:=Z
 have d0:n≠n+4/\n+1≠n+4/\n+2≠n+4/\n+3≠n+4/\n+3≠n/\n+3≠n+1/\n+1≠n:=by refine⟨?_,?_,?_,?_,?_,?_,?_⟩<;>(intro z;exact absurd z (by simp))
 obtain⟨d1,d2,d3,d4,d5,d6,d7⟩:=d0
 have l10:=o1 0 (by decide);have l11:=o1 1 (by decide);have l13:=o1 3 (by decide);have l14:=o1 4 (by decide)
 have l20:=o2 0 (by decide);have l21:=o2 1 (by decide);have l23:=o2 3 (by decide);have l24:=o2 4 (by decide)
 have hT:s.TypeIs (.ref (n+4)) "zip":=⟨_,hz,rfl⟩
 unfold pyNext
 refine aa (mz (ia (name:=Str.ofString "__next__") hT qt (ip qt hT zj ?_ (yx _))))
 refine(show wpAny _ _ (field (.ref (n+4)) 2>>=_) _ _ _ from aa (fh hz rfl (x:= .bool false) rfl ?_))
 refine(show wpAny _ _ (field (.ref (n+4)) 3>>=_) _ _ _ from aa (fh hz rfl (x:= .ref (n+2)) rfl ?_))
 refine aa (ji hI rfl ?_)
 refine(show wpAny _ _ (Builtin.SmallTypes.ownedTupleIsFree (.ref (n+4))>>=_) _ _ _ from aa ?_)
 unfold Builtin.SmallTypes.ownedTupleIsFree
 refine aa (fh hz rfl (x:= .none) rfl (ak ?_))
 simp only[if_true]
 refine aa (oq (aa (fh hz rfl (x:= .ref (n+3)) rfl (aa (lh hz (by simp) fun g1 z1 s1=>?_)))))
 have z1:IsZip g1 (n+4) (n+2) (n+3) .ellipsis:=z1
 refine aa ?_
 simp only[List.zipIdx_cons,List.zipIdx_nil,List.forIn_cons,List.forIn_nil]
 refine aa (aa (su (show wpAny _ _ (Builtin.SmallTypes.nextOf (.ref n)>>=_) _ _ _ from aa (aZ2 (h1.at fun o e=>s1.extBut _ _ d1 e) (t1.at fun o e=>s1.extBut _ _ l14 e) ex fun g2 j2 s2=>ak ?_))))
 have O2:IsPair g2 (n+3) a b:=s2.extBut _ _ d5 (s1.extBut _ _ d4 hO)
 refine aa (ji O2 rfl (aa (wy O2 fun g3 O3 s3=>?_)))
 have O3:IsPair g3 (n+3) x b:=O3
 refine aa (zg (ak ?_))
 refine aa (aa (su (show wpAny _ _ (Builtin.SmallTypes.nextOf (.ref (n+1))>>=_) _ _ _ from aa (aZ2 (h2.at fun o e=>s3.extBut _ _ d6.symm (s2.extBut _ _ d7 (s1.extBut _ _ d2 e))) (t2.at fun o e=>s3.extBut _ _ l23 (s2.extBut _ _ l20 (s1.extBut _ _ l24 e))) ey fun g4 j4 s4=>ak ?_))))
 have O4:IsPair g4 (n+3) x b:=s4.extBut _ _ d6 O3
 refine aa (ji O4 rfl (aa (wy O4 fun g5 O5 s5=>?_)))
 have O5:IsPair g5 (n+3) x y:=O5
 refine aa (zg (ak (ak ?_)))
 refine aa (ji O5 rfl (aa (wpAny_newTuple ?_)))
 have sz:g5.objs.size=s.heap.objs.size:=by rw[s5.1,s4.1,s3.1,s2.1,s1.1]
 have z5:IsZip g5 (n+4) (n+2) (n+3) .ellipsis:=s5.extBut _ _ d4.symm (s4.extBut _ _ d2.symm (s3.extBut _ _ d4.symm (s2.extBut _ _ d1.symm z1)))
 have k5:∀c o,c≠n+4->c≠n+3->c≠n->c≠n+1->s.heap.get? c=some o->g5.get? c=some o:=fun c o c1 c2 c3 c4 e=>s5.extBut _ _ c2 (s4.extBut _ _ c4 (s3.extBut _ _ c2 (s2.extBut _ _ c3 (s1.extBut _ _ c1 e))))
 have j5:g5.IsTupleIter n l1 (i+1):=j2.at fun o e=>s5.extBut _ _ d5.symm (s4.extBut _ _ d7.symm (s3.extBut _ _ d5.symm e))
 have m5:g5.IsTupleIter (n+1) l2 (i+1):=j4.at fun o e=>s5.extBut _ _ d6.symm e
 have zlt:n+4<g5.objs.size:=ay z5
 refine(show wpAny _ _ (Builtin.SmallTypes.ownedTupleHandOut (.ref (n+4)) (.ref g5.objs.size)>>=_) _ _ _ from aa ?_)
 unfold Builtin.SmallTypes.ownedTupleHandOut
 have z6:IsZip (g5.push { cls:= .type "tuple",data:= .seq #[x,y] }) (n+4) (n+2) (n+3) .ellipsis:=af _ z5
 refine aa (lh z6 (by simp) fun g7 z7 s7=>?_)
 have z7:IsZip g7 (n+4) (n+2) (n+3) (rawInt g5.objs.size):=z7
 refine lh z7 (by simp) fun g8 z8 s8=>?_
 have z8:IsZip g8 (n+4) (n+2) (n+3) (rawInt g5.objs.size):=z8
 have up:∀c o,c≠n+4->g5.get? c=some o->g8.get? c=some o:=fun c o c1 e=>s8.extBut _ _ c1 (s7.extBut _ _ c1 (af _ e))
 have T8:IsPair g8 g5.objs.size x y:=s8.extBut _ _ (js zlt) (s7.extBut _ _ (js zlt) (bc _ rfl))
 rw[sz] at z8 T8
 refine ak ⟨_,rfl,ak ?_⟩
 refine(show Q (some (.ref g5.objs.size)) _ from ?_)
 rw[sz]
 exact k g8 z8 (up _ _ d4 O5) (j5.at fun o e=>up _ o d1 e) (m5.at fun o e=>up _ o d2 e) T8 fun c o c1 c2 c3 c4 e=>up c o c1 (k5 c o c1 c2 c3 c4 e)
def aV4 (hh:A.handled=none)(o1:∀j,j<5->l1≠n+j)(Z:aG3 s.heap n l1 l2 i)(t1:s.heap.IsTuple l1 xs)(ex:xs[i]?=none)(k:∀g,(∀c o,c≠n+4->c≠n->s.heap.get? c=some o->g.get? c=some o)->Q none { s with heap:=g }):wpAny (model prog w) A (pyNext (.ref (n+4))) Q E s:=by
 obtain⟨hz,hI,⟨a,b,hO⟩,h1,h2⟩:=Z
 have d1:n≠n+4:=by intro z;exact absurd z (by simp)
 have l14:=o1 4 (by decide)
 have hT:s.TypeIs (.ref (n+4)) "zip":=⟨_,hz,rfl⟩
 unfold pyNext
 refine aa (mz (ia (name:=Str.ofString "__next__") hT qt (ip qt hT zj ?_ (yx _))))
 refine(show wpAny _ _ (field (.ref (n+4)) 2>>=_) _ _ _ from aa (fh hz rfl (x:= .bool false) rfl ?_))
 refine(show wpAny _ _ (field (.ref (n+4)) 3>>=_) _ _ _ from aa (fh hz rfl (x:= .ref (n+2)) rfl ?_))
 refine aa (ji hI rfl ?_)
 refine(show wpAny _ _ (Builtin.SmallTypes.ownedTupleIsFree (.ref (n+4))>>=_) _ _ _ from aa ?_)
 unfold Builtin.SmallTypes.ownedTupleIsFree
 refine aa (fh hz rfl (x:= .none) rfl (ak ?_))
 simp only[if_true]
 refine aa (oq (aa (fh hz rfl (x:= .ref (n+3)) rfl (aa (lh hz (by simp) fun g1 z1 s1=>?_)))))
 have z1:IsZip g1 (n+4) (n+2) (n+3) .ellipsis:=z1
 refine aa ?_
 simp only[List.zipIdx_cons,List.zipIdx_nil,List.forIn_cons,List.forIn_nil]
 refine aa (aa (su (show wpAny _ _ (Builtin.SmallTypes.nextOf (.ref n)>>=_) _ _ _ from aa (aC2 hh (h1.at fun o e=>s1.extBut _ _ d1 e) (t1.at fun o e=>s1.extBut _ _ l14 e) ex fun g2 e s2 he=>?_))))
 obtain⟨oe,hoe,hce⟩:=he
 have z2:IsZip g2 (n+4) (n+2) (n+3) .ellipsis:=s2 _ _ d1.symm z1
 have ez:e≠n+4:=fun q=>by subst q;rw[z2] at hoe;cases hoe;simp at hce
 refine lh z2 (by simp) fun g3 _ s3=>?_
 refine aa (uy (T:="StopIteration") (b:=true) ⟨oe,s3.extBut _ _ ez hoe,hce⟩ isSubtype_stop ?_)
 exact ak (k _ fun c o c1 c2 q=>s3.extBut _ _ c1 (s2 _ _ c2 (s1.extBut _ _ c1 q)))
end
abbrev zA(g:Heap)(l1:Addr):Heap:=g.push { cls:= .type "tuple_iterator",data:= .fields #[.ref l1,.int 0 0] }
abbrev zB(g:Heap)(l1 l2:Addr):Heap:=(zA g l1).push { cls:= .type "tuple_iterator",data:= .fields #[.ref l2,.int 0 0] }
abbrev zC(g:Heap)(l1 l2:Addr):Heap:=(zB g l1 l2).push { cls:= .type "tuple",data:= .seq #[.ref g.objs.size,.ref (zA g l1).objs.size] }
abbrev zD(g:Heap)(l1 l2:Addr):Heap:=(zC g l1 l2).push { cls:= .type "tuple",data:= .seq #[.none,.none] }
abbrev zE(g:Heap)(l1 l2:Addr):Heap:=(zD g l1 l2).push { cls:= .type "zip",data:= .fields #[.none,.bool false,.bool false,.ref (zB g l1 l2).objs.size,.ref (zC g l1 l2).objs.size] }
def bI6 (l1 l2)(xs ys):Meets (Builtin.«zip.__new__» ⟨[.type "zip",.ref l1,.ref l2],[]⟩) (fun _ R s=>s.heap.IsTuple l1 xs/\s.heap.IsTuple l2 ys /\
   R (.ok (.ret (.ref (zD s.heap l1 l2).objs.size))) { s with heap:=zE s.heap l1 l2 }):=
 .of_wp fun prog w A R s h=>by
  obtain⟨q,g,d,tk,os⟩:=s;obtain⟨t1,t2,h⟩:=h
  have hS:=PySem.sub_zip
  have T1:Heap.IsTuple (Shared.heap ⟨q,g,d,tk,os⟩) l1 xs:=t1
  have T2:Heap.IsTuple (Shared.heap ⟨q.push { cls:= .type "tuple_iterator",data:= .fields #[.ref l1,.int 0 0] },g,d,tk,os⟩) l2 ys:=t2.at fun o e=>af _ e
  wp_walk using oh T1,oh T2
  exact⟨_,rfl,h⟩
section
variable {prog:Program}{w:World}{A:Around}{E:Value->Shared->Prop}{s:Shared}
def aJ8 (t1:s.heap.IsTuple l1 xs)(t2:s.heap.IsTuple l2 ys)(k:∀g,aG3 g s.heap.objs.size l1 l2 0->(∀c o,s.heap.get? c=some o->g.get? c=some o)->Q (.ref (s.heap.objs.size+4)) { s with heap:=g }):
  wpAny (model prog w) A (call (.type "zip") [.ref l1,.ref l2]) Q E s:=by
 refine callType_new F.called_zip (by decide) (F.typeCall_zip_2 _ _) (F.newCall_zip_2 _ _) (fun obj=>F.args_object_init_3 obj _ _) F.entry_zip_new (bI6 l1 l2 xs ys) ⟨t1,t2,?_⟩
 have n1:(zA s.heap l1).objs.size=s.heap.objs.size+1:=by rw[kq]
 have n2:(zB s.heap l1 l2).objs.size=s.heap.objs.size+2:=by rw[kq,n1]
 have n3:(zC s.heap l1 l2).objs.size=s.heap.objs.size+3:=by rw[kq,n2]
 have n4:(zD s.heap l1 l2).objs.size=s.heap.objs.size+4:=by rw[kq,n3]
 have b5:(zE s.heap l1 l2).get? (zD s.heap l1 l2).objs.size=some _:=bc _ rfl
 have b4:(zE s.heap l1 l2).get? (zC s.heap l1 l2).objs.size=some _:=af _ (bc _ rfl)
 have b3:(zE s.heap l1 l2).get? (zB s.heap l1 l2).objs.size=some _:=af _ (af _ (bc _ rfl))
 have b2:(zE s.heap l1 l2).get? (zA s.heap l1).objs.size=some _:=af _ (af _ (af _ (bc _ rfl)))
 have b1:(zE s.heap l1 l2).get? s.heap.objs.size=some _:=af _ (af _ (af _ (af _ (bc _ rfl))))
 show _/\_
 rw[n2,n3,n4] at b5
 rw[n1,n2] at b3
 rw[n3] at b4
 rw[n1] at b2
 rw[n4]
 exact⟨⟨_,b5,rfl⟩,k _ ⟨b5,b3,⟨_,_,b4⟩,⟨_,b1,rfl,rfl⟩,⟨_,b2,rfl,rfl⟩⟩ fun c o q=>af _ (af _ (af _ (af _ (af _ q))))⟩
end
def Itz (K : PySem.W.Frag)(a b : Addr): It:=
  ⟨fun i H => ∃xs ys,aQ K H a xs /\ aQ K H b ys /\ xs.length = ys.length /\ i<xs.length,
   fun i H x H' => ∃t,H t = none /\ x = .ref t /\ ∀xs ys,aQ K H a xs -> aQ K H b ys -> ∃u v,xs[i]? = some u /\ ys[i]? = some v /\ H' = aN H t (.tup [u,v]),
   fun i H => ∃xs,aQ K H a xs /\ xs.length <= i⟩
def aQ1{P:Program}{w:World}{K:PySem.W.Frag}{elts:List Expr}{x1:Nat}{pos:Pos}(a b n:Addr)(ha:a<n)(hb:b<n) :
  wN P w K (.Tuple elts x1 pos) (Itz K a b) [n,n+1,n+2,n+3,n+4] (n+4) (fun i h=>aG3 h n a b i) where
 mem:=by simp
 obj:=fun i h Z c hc=>by
  obtain⟨hz,hI,⟨u,v,hO⟩,⟨o1,e1,c1,d1⟩,⟨o2,e2,c2,d2⟩⟩:=Z
  simp only[List.mem_cons,List.not_mem_nil,or_false] at hc
  rcases hc with rfl|rfl|rfl|rfl|rfl
  ·exact⟨_,e1,fun v z=>by rw[d1] at z;cases z⟩
  ·exact⟨_,e2,fun v z=>by rw[d2] at z;cases z⟩
  ·exact⟨_,hI,fun v z=>by cases z⟩
  ·exact⟨_,hO,fun v z=>by cases z⟩
  ·exact⟨_,hz,fun v z=>by cases z⟩
 keep:=fun i h h' Z k=>⟨k _ (by simp) _ Z.z,k _ (by simp) _ Z.I,let⟨u,v,q⟩:=Z.O;⟨u,v,k _ (by simp) _ q⟩,Z.i1.at fun o e=>k _ (by simp) o e,Z.i2.at fun o e=>k _ (by simp) o e⟩
 item:=by
  intro X hP hw hK hc i pins s σ H E I hf Z hg
  subst hP hw hK
  obtain⟨xs,ys,q1,q2,hl,hi⟩:=hg
  obtain⟨is1,r1,p1,_⟩:=I.tuple q1
  obtain⟨is2,r2,p2,_⟩:=I.tuple q2
  obtain⟨u,hu,ru⟩:=r1.get (i:=i) (x:=xs[i]) (by simp[hi])
  obtain⟨v,hv,rv⟩:=r2.get (i:=i) (x:=ys[i]'(by lia)) (by simp[show i<ys.length by lia])
  refine aO5 (fun j _=>bw (bz ha (pw ..))) (fun j _=>bw (bz hb (pw ..))) Z (show s.heap.IsTuple a is1.toArray from p1) (show s.heap.IsTuple b is2.toArray from p2)
   (x:=u) (y:=v) (by simpa using hu) (by simpa using hv) fun g z1 O1 j1 m1 T1 k1=>⟨_,rfl,wpAny_letOwnedTupleGo_zip z1 fun g2 z2 sb=>?_⟩
  have nT:s.heap.objs.size≠n+4:=js (ay Z.z)
  have kk:∀c o,c∉[n,n+1,n+2,n+3,n+4]->s.heap.get? c=some o->g2.get? c=some o:=fun c o hc e=>by
   simp only[List.mem_cons,List.not_mem_nil,or_false,not_or] at hc
   exact(sb.2 c hc.2.2.2.2).trans (k1 c o hc.2.2.2.2 hc.2.2.2.1 hc.1 hc.2.1 e)
  have TT:IsPair g2 s.heap.objs.size u v:=(sb.2 _ nT).trans T1
  have d:∀j,j<4->n+j≠n+4:=fun j hj z=>absurd (Nat.add_left_cancel z) (bw hj)
  have I2:=I.turnedNew (T:=s.heap.objs.size) (o:= .tup [xs[i],ys[i]'(by lia)]) (rs:=[n,n+1,n+2,n+3,n+4]) (t':=s.toks) hf kk (aj _) ⟨by show 2<=sizeLine;decide,[u,v],.cons ru (.cons rv .nil),⟨_,TT,rfl,_,rfl,rfl⟩⟩
  refine⟨.ref s.heap.objs.size,_,I2,rfl,⟨_,I.fresh,rfl,fun xs' ys' w1 w2=>⟨xs[i],ys[i]'(by lia),?_,?_,rfl⟩⟩,⟨z2,(sb.2 _ (d 2 (by decide))).trans (k1 _ _ (d 2 (by decide)) (by simp) (by simp) (by simp) Z.I),⟨u,v,(sb.2 _ (d 3 (by decide))).trans O1⟩,j1.at fun o e=>(sb.2 _ (d 0 (by decide))).trans e,m1.at fun o e=>(sb.2 _ (d 1 (by decide))).trans e⟩,fun c hc=>?_⟩
  ·rw[I.tuple_inj w1 q1];simp[hi]
  ·rw[I.tuple_inj w2 q2];simp[show i<ys.length by lia]
  ·rw[aH (fun z=>?_)]
   ·exact(hf c hc).1
   ·obtain⟨o,e,_⟩:∃o,s.heap.get? c=some o/\True:=by
     obtain⟨hz,hI,⟨u',v',hO⟩,⟨o1,e1,c1,d1⟩,⟨o2,e2,c2,d2⟩⟩:=Z
     simp only[List.mem_cons,List.not_mem_nil,or_false] at hc
     rcases hc with rfl|rfl|rfl|rfl|rfl
     ·exact⟨_,e1,trivial⟩
     ·exact⟨_,e2,trivial⟩
     ·exact⟨_,hI,trivial⟩
     ·exact⟨_,hO,trivial⟩
     ·exact⟨_,hz,trivial⟩
    exact absurd (ay e) (by rw[z];exact fq _)
 done:=by
  intro X hP hw hK hc i pins s σ H E I hf Z hg
  subst hP hw hK
  obtain⟨xs,q1,hx⟩:=hg
  obtain⟨is1,r1,p1,_⟩:=I.tuple q1
  have hl:=r1.length
  refine aV4 (I.ok.hd hc) (fun j _=>bw (bz ha (pw ..))) Z (show s.heap.IsTuple a is1.toArray from p1) (by simp;lia) fun g k=>⟨rfl,I.turnedL (rs:=[n,n+1,n+2,n+3,n+4]) (t':=s.toks) hf fun c o hc e=>?_⟩
  simp only[List.mem_cons,List.not_mem_nil,or_false,not_or] at hc
  exact k c o hc.2.2.2.2 hc.1 e
 self:=fun _ _ _ _ _ Z h=>zk Z.z h
def cG3 (K:PySem.W.Frag)(ta:TA):TI:=fun σ H R=>ta σ H fun vs H1=>∃a b,vs=[.ref a,.ref b]/\(∃xs,aQ K H1 a xs)/\(∃ys,aQ K H1 b ys)/\R (Itz K a b) H1
def bO8 (hg:Gl X "zip")(hm:X.mg "zip"=none)(ha:PA X [a,b] ta)(hs:autoParam (starEach [a,b] X.env=[(false,eval a X.env),(false,eval b X.env)]) Rq0._auto_1)(hs2:autoParam (starEach [b] X.env=[(false,eval b X.env)]) Rq0._auto_1):
  PI X (.Tuple elts x1 tpos) (.Call (.Name "zip" p) [a,b] [] pos) (cG3 X.K ta):=by
 intro pins s σ H R I h
 refine fu (kR I hg hm PyProof.Rows.boot_zip (gq (cV (ha pos pins s σ H _ I h) fun us s1 ⟨vs,H1,I1,r1,q1⟩=>?_) (by rw[hs,hs2]) (by rw[hs2];rfl)))
 obtain⟨a',b',rfl,⟨xs,q1⟩,⟨ys,q2⟩,q⟩:=q1
 obtain⟨u,v,rfl,ru,rv⟩:=tQ r1
 cases ru
 cases rv
 obtain⟨is1,_,p1,_⟩:=I1.tuple q1
 obtain⟨is2,_,p2,_⟩:=I1.tuple q2
 have la:a'<s1.heap.objs.size:=by obtain⟨o,e,_⟩:=p1;exact ay e
 have lb:b'<s1.heap.objs.size:=by obtain⟨o,e,_⟩:=p2;exact ay e
 refine aJ8 (show s1.heap.IsTuple a' is1.toArray from p1) (show s1.heap.IsTuple b' is2.toArray from p2) fun g Z k=>zk Z.z ?_
 have I2:aX X pins σ H1 { s1 with heap:=g }:=I1.kept (t':=s1.toks) k
 refine⟨s1.heap.objs.size+4,_,_,Itz X.K a' b',H1,rfl,I2,aQ1 a' b' s1.heap.objs.size la lb,Z,fun c hc=>?_,q⟩
 have hge:s1.heap.objs.size<=c:=by
  simp only[List.mem_cons,List.not_mem_nil,or_false] at hc
  rcases hc with rfl|rfl|rfl|rfl|rfl
  ·exact aj _
  all_goals exact pw ..
 exact I1.fpOk hge (I1.hok.fresh hge)
section
variable {g:TG}{tc:TT}{te:TE}
def aT5 {K}(Pv:Nat->List V->St->Hp->Prop)(hz:xs.length<sizeLine)(hxy:xs.length=ys.length)(h0:Pv 0 [] σ0 H1)(hb:∀i zs σ H,Pv i zs σ H->zs.length<=i)(hl:∀i zs σ H,i<=xs.length->Pv i zs σ H->aQ K H a xs/\aQ K H b ys)(hs:∀i x y zs σ H t,xs[i]?=some x->ys[i]?=some y->Pv i zs σ H->H t=none->g (.ref t) σ (aN H t (.tup [x,y])) fun σ2 H2=>tc σ2 H2 fun b H3=>if b=true then te σ2 H3 fun v H4=>Pv (i+1) (zs++[v]) σ2 H4 else Pv (i+1) zs σ2 H3)(hd:∀zs σ H,Pv xs.length zs σ H->Kf zs H):mM (Itz K a b) g tc te Kf σ0 H1:=by
 refine⟨fun i m zs σ H=>m=xs.length-i/\i<=xs.length/\Pv i zs σ H,⟨xs.length,by simp,bu _,h0⟩,?_⟩
 rintro i m zs σ H ⟨rfl,hi,p⟩
 obtain⟨q1,q2⟩:=hl i zs σ H hi p
 refine⟨di (hb _ _ _ _ p) (di hi hz),?_⟩
 by_cases hlt:i<xs.length
 ·refine .inr ⟨⟨xs,ys,q1,q2,hxy,hlt⟩,Pv (i+1),fun zs' σ' H' p'=>⟨xs.length-(i+1),fm hlt (ek i),rfl,hlt,p'⟩,fun x H' y=>?_⟩
  obtain⟨t,ht,rfl,w⟩:=y
  obtain⟨u,v,e1,e2,rfl⟩:=w xs ys q1 q2
  exact hs i u v zs σ H t e1 e2 p ht
 ·have e:i=xs.length:=by lia
  subst e
  exact .inl ⟨⟨xs,q1,aj _⟩,hd zs σ H p⟩
end
def Its (x:Str):It:=⟨fun i _=>i<x.length,fun i H v H'=>H'=H/\∃c,x.cps[i]?=some c/\v= .str ⟨#[c]⟩,fun i _=>x.length<=i⟩
def bG6 (x:Str):x.length=x.cps.size:=rfl
def aO0 {K}(hty:ty="str_ascii_iterator"\/ty="str_iterator")(it)(x)(t):wN P w K tg (Its x) [it] it (fun i h=>i<=x.length/\h.IsStrIter it ty x t i):=by
 have W:∀A:Around,A.handled=none->Walks P w A it [it] [it] x.cps.size (SignAt x) (fun i h=>h.IsStrIter it ty x t i):=by
  intro A hA
  rcases hty with rfl|rfl
  ·exact Walks.strAscii hA it x t
  ·exact Walks.strWide hA it x t
 have hn:["enumerate","zip","dict_itemiterator","dict_reverseitemiterator","odict_iterator","itertools.zip_longest","itertools.pairwise"].contains ty=false:=by
  rcases hty with rfl|rfl<;>decide
 exact {
  mem:=by simp
  obj:=fun i h st b hb=>by
   have e:b=it:=by simpa using hb
   subst e
   obtain⟨o,e,c,d⟩:=st.2
   exact⟨o,e,fun v z=>by rw[d] at z;cases z⟩
  keep:=fun i h h' st k=>⟨st.1,by
   obtain⟨o,e,r⟩:=st.2
   exact⟨o,k it (by simp) o e,r⟩⟩
  item:=by
   intro X hP hw hK hc i pins s σ H E I hf st hg
   subst hP hw hK
   obtain⟨f0,f1,f2,f3,f4,f5⟩:=hf it (by simp)
   have hg:i<x.length:=hg
   refine(W X.A (I.ok.hd hc)).item i s _ _ hg st.2 fun v h' tk hv st' kk=>?_
   obtain⟨c,u,hcx,rfl⟩:=hv
   have I1:aX X pins σ H { s with heap:=h',toks:=tk }:=I.turned (fun b o hb e=>kk b o (by simpa using hb) e) f0 f1 f3 f4 f5
   obtain⟨o,e,c1,d⟩:=id st'
   exact⟨_,rfl,go_of (s:={ s with heap:=h',toks:=tk }) e c1 d hn ⟨.str ⟨#[c]⟩,H,I1,⟨u,rfl⟩,⟨rfl,c,hcx,rfl⟩,⟨hg,st'⟩,fun b hb=>(hf b hb).1⟩⟩
  done:=by
   intro X hP hw hK hc i pins s σ H E I hf st hg
   subst hP hw hK
   obtain⟨f0,f1,f2,f3,f4,f5⟩:=hf it (by simp)
   have hg:x.length<=i:=hg
   have e:i=x.cps.size:=by have:=st.1;rw[bG6] at this hg;lia
   subst e
   refine(W X.A (I.ok.hd hc)).done s _ _ st.2 fun h' tk kk=>⟨rfl,I.turned (fun b o hb e=>kk b o (by simpa using hb) e) f0 f1 f3 f4 f5⟩
  self:=fun A i s Q E st h=>by
   rcases hty with rfl|rfl
   ·exact wpAny_pyIter_striter_ascii st.2 h
   ·exact wpAny_pyIter_striter_wide st.2 h }
section
variable {X:Cx}{tg:Expr}
def cG8 (tl:TE):TI:=fun σ H R=>tl σ H fun x H1=>∃z,x= .str z/\R (Its z) H1
def aR4 (hl:PE X l tl):PI X tg l (cG8 tl):=by
 intro pins s σ H R I h
 refine cV (hl pins s σ H _ I h) ?_;rintro v s1 ⟨x,H1,I1,r1,z,e,q⟩
 subst e
 obtain⟨t,rfl⟩:=r1
 have fin:∀(o:Obj) (ty:String),(ty="str_ascii_iterator"\/ty="str_iterator")->(s1.heap.push o).IsStrIter s1.heap.objs.size ty z t 0->PIE X pins σ tg R (.ref s1.heap.objs.size) { s1 with heap:=s1.heap.push o }:=fun o ty hty hi =>
  ⟨s1.heap.objs.size,[s1.heap.objs.size],_,_,H1,rfl,I1.kept (t':=s1.toks) fun b o e=>af _ e,aO0 hty _ z t,⟨bu _,hi⟩,fun b hb=>by
   have e:b=s1.heap.objs.size:=by simpa using hb
   subst e
   exact I1.fpOk (aj _) (I1.hok.fresh (aj _)),q⟩
 cases ha:z.cps.all (· < 128)
 ·exact wpAny_pyIter_wide ha (fin _ _ (.inr rfl) ⟨_,bc _ rfl,rfl,rfl⟩)
 ·exact wpAny_pyIter_ascii ha (fin _ _ (.inl rfl) ⟨_,bc _ rfl,rfl,rfl⟩)
def yC (Pv:Nat->List V->St->Hp->Prop)(hz:x.length<sizeLine)(h0:Pv 0 [] σ0 H1)(hb:∀i ys σ H,Pv i ys σ H->ys.length<=i)(hs:∀i c ys σ H,x.cps[i]?=some c->Pv i ys σ H->g (.str ⟨#[c]⟩) σ H fun σ2 H2=>tc σ2 H2 fun b H3=>if b=true then te σ2 H3 fun y H4=>Pv (i+1) (ys++[y]) σ2 H4 else Pv (i+1) ys σ2 H3)(hd:∀ys σ H,Pv x.length ys σ H->Kf ys H):mM (Its x) g tc te Kf σ0 H1:=by
 refine⟨fun i m ys σ H=>m=x.length-i/\i<=x.length/\Pv i ys σ H,⟨x.length,by simp,bu _,h0⟩,?_⟩
 rintro i m ys σ H ⟨rfl,hi,p⟩
 refine⟨di (hb _ _ _ _ p) (di hi hz),?_⟩
 by_cases hlt:i<x.length
 ·refine .inr ⟨hlt,Pv (i+1),fun ys' σ' H' p'=>⟨x.length-(i+1),fm hlt (ek i),rfl,hlt,p'⟩,fun v H' y=>?_⟩
  obtain⟨e,c,hc,ev⟩:=y
  subst e ev
  exact hs i c ys σ _ hc p
 ·have e:i=x.length:=by lia
  subst e
  exact .inl ⟨aj _,hd ys σ H p⟩
inductive rSlS(x:V)(lo:Option Int)(hi:Option Int)(H:Hp)(Q:VK):Prop
 |mk:∀z,x= .str z->z.length<=sizeLine->Q (.str (Txt.slice z lo hi)) H->rSlS x lo hi H Q
def aA8:SlR X rSlS:=by
 intro pins s σ H x v vl vu lo hi sl Q I rx hs pl pu h
 obtain⟨z,rfl,hz,q⟩:=h
 obtain⟨t,rfl⟩:=rx
 refine⟨"str",_,F.slot_str_getitem.lookup,zy _ _ _,?_⟩
 have fin:∀{lo hi:Option Int},Q (.str (Txt.slice z lo hi)) H->∀t' k,EP X pins σ Q (.str (Txt.slice z lo hi) t') { s with toks:=k }:=fun q t' k=>⟨.str _,H,I.tok k,⟨_,rfl⟩,q⟩
 cases pl with
 |none =>
  cases pu with
  |none=>exact kz (l:=none) (u:=none) (st:=none) hs rfl (qu ⟨cm (oo z _ _) hz,fin q⟩)
  |int j u=>exact kz (l:=none) (u:=some (j,u)) (st:=none) hs rfl (qu ⟨cm (oo z _ _) hz,fin q⟩)
 |int i u' =>
  cases pu with
  |none=>exact kz (l:=some (i,u')) (u:=none) (st:=none) hs rfl (qu ⟨cm (oo z _ _) hz,fin q⟩)
  |int j u=>exact kz (l:=some (i,u')) (u:=some (j,u)) (st:=none) hs rfl (qu ⟨cm (oo z _ _) hz,fin q⟩)
def tO:∀{ys us},bM (ys.map V.str) us->StrsAre us ys
 |[],_,r=>by
  cases r
  exact .nil
 |y::ys,_,r=>by
  cases r with
  |cons r1 r2 =>
   obtain⟨t,rfl⟩:=r1
   exact .cons y t (tO r2)
inductive bL0(K:PySem.W.Frag)(x:V)(vs:List V)(H:Hp)(Q:VK):Prop
 |mk:∀(sep:Str) (p:Addr) (ys:List Str),x= .str sep->vs=[.ref p]->bJ K H p (ys.map V.str)->(ys.map (·.length)).sum+ys.length*sep.length<=16777216->Q (.str (Txt.join sep ys)) H->bL0 K x vs H Q
def bF0:MtR X "str.join" (bL0 X.K):=by
 intro pins s σ H x xs v us Q I rx rs h
 obtain⟨sep,p,ys,rfl,rfl,hq,hz,q⟩:=h
 obtain⟨t,rfl⟩:=rx
 obtain⟨u,rfl,ru⟩:=rs.one
 cases ru
 obtain⟨its,rv,pl,_⟩:=I.list hq
 exact join_list pl.isList (by simpa using tO rv) hz fun t' k=>⟨.str _,H,I.tok k,⟨_,rfl⟩,q⟩
end
section
variable {X:Cx}
def aC8:jU X (binaryOp .Mult) (fun x y H Q=>∃(z:Str) (n:Int),x= .str z/\y= .int n/\z.length=1/\(n=0\/n=1)/\Q (.str (if n=0 then Str.empty else z)) H):=by
 intro pins s σ H x y v u Q I rx ry h
 obtain⟨z,n,rfl,rfl,hz,hn,q⟩:=h
 obtain⟨t,rfl⟩:=rx
 obtain⟨t',rfl⟩:=ry
 rcases hn with rfl|rfl
 ·exact PySem.P.mul_str_none (by decide) (by decide) ⟨.str _,H,I.tok _,⟨_,rfl⟩,q⟩
 ·refine PySem.P.mul_str (by decide) (fun _ c=>absurd c (by simp)) (fun _ c=>absurd c (by simp)) ?_
  rw[au (by decide),bb (by simp)]
  exact⟨.str z,H,I,⟨_,rfl⟩,q⟩
end
def aX.freeze {σ:St}(I:aX X pins σ H s)(h:H d=some (.dK kvs))(ho:s.heap.get? d=some o):
  aX X pins σ (aN H d (.frz o (.dK kvs))) s:=by
 have nd:∀b u,H b=some u->(∀z,u≠ .dK z)->b≠d:=fun b u e hu z=>by
  rw[z,h] at e
  exact hu _ (cu e).symm
 refine I.step (g':=s.gens) (d':=s.drawn) (t':=s.toks) (h':=s.heap) (ch:=[]) (fun _ z=>nomatch z) (fun b u _ _ _ e _=>e) (fun b u _ _ _ e _=>⟨u.slots,e⟩) (fun b u _ e n=>by rw[aH (fun z=>by rw[z,h] at n;cases n)];exact n)
  (fun b u _ e=>⟨u,e⟩) (fun b xs e=>by rw[aH (nd b _ e (by intro z c;cases c))];exact e) (fun b u v e=>by rw[aH (nd b _ e (by intro z c;cases c))];exact e)
  (fun b ps e=>⟨#[],by rw[aH (nd b _ e (by intro z c;cases c)),e];simp⟩) (fun m hm=>hm) (fun b u e=>?_) I.bare
 by_cases hb:b=d
 ·subst hb
  rw[aC] at e
  cases e
  exact⟨ho,I.hok b _ h⟩
 ·rw[aH hb] at e
  exact(I.hok b u e).stay (fun c v _ q=>q) (fun c q=>by rw[aH (nd c _ q (by intro z w;cases w))];exact q) fun c xs q=>by rw[aH (nd c _ q (by intro z w;cases w))];exact q
def aT8:∀{kvs:List (κ×V)}{vs}{i:Nat}{k v},KV kvs vs->kvs[i]?=some (k,v)->∃u,vs[i]?=some (k,u)/\bL v u
 |_,_,_,_,_,.nil,e=>by simp at e
 |_,_,0,_,_,.cons r _,e=>by
  simp at e
  subst e
  obtain⟨r1,r2⟩:=r
  exact⟨_,by simp;exact Prod.ext r1.symm rfl,r2⟩
 |_,_,i+1,_,_,.cons _ r,e=>by
  obtain⟨u,e1,e2⟩:=aT8 (i:=i) r (by simpa using e)
  exact⟨u,by simpa using e1,e2⟩
def aG2 (h:jI k u=true):bL (kV k) u:=by
 rcases cZ h with⟨i,t,rfl,rfl⟩|⟨x,t,rfl,rfl⟩
 ·exact⟨t,rfl⟩
 ·exact⟨t,rfl⟩
def Itd (d:Addr)(o:Obj)(kvs:List (Key×V)):It:=
 ⟨fun i H=>i<kvs.length/\H d=some (.frz o (.dK kvs)),fun i H x H'=>H'=H/\∃k v,kvs[i]?=some (k,v)/\x=kV k,fun i H=>kvs.length<=i/\H d=some (.frz o (.dK kvs))⟩
def aY5 {σ:St}(I:aX X pins σ H s)(ho:o.data= .dict es ep)(h:H d=some (.frz o (.dK kvs))):
  ∃vs,KV kvs vs/\s.heap.DictAt (aZ X.prog X.w) d vs ep/\(d==sysModules)=false:=by
 obtain⟨e,z,ns,vs,rel,o',es',ep',h1,h2,h3,h4,h5,h6⟩:=(show bZ X.prog X.w H s.heap d (.frz o (.dK kvs)) from I.hok d _ h)
 rw[e] at h1
 cases h1
 rw[ho] at h3
 cases h3
 exact⟨vs,rel,⟨o,es,e,h2,ho,h4,h5,h6⟩,ns⟩
def vJ{P:Program}{w:World}{K:PySem.W.Frag}{tg:Expr}(d it:Addr)(o:Obj)(kvs:List (Key×V)){es:Array DictEntry}{ep:Nat}(ho:o.data= .dict es ep) :
  wN P w K tg (Itd d o kvs) [it] it (fun i h=>i<=kvs.length/\h.IsKeyIter it d i kvs.length ep) where
 mem:=by simp
 obj:=fun i h st b hb=>by
  have e:b=it:=by simpa using hb
  subst e
  obtain⟨o,e,c,q⟩:=st.2
  exact⟨o,e,fun v z=>by rw[q] at z;cases z⟩
 keep:=fun i h h' st k=>⟨st.1,st.2.at fun o e=>k it (by simp) o e⟩
 item:=by
  intro X hP hw hK hc i pins s σ H E I hf st hg
  subst hP hw hK
  obtain⟨hi,hd⟩:=hg
  obtain⟨f0,f1,f2,f3,f4,f5⟩:=hf it (by simp)
  obtain⟨vs,rel,da,ns⟩:=aY5 I ho hd
  have hl:kvs.length=vs.length:=gg rel
  obtain⟨u,hu,_⟩:=aT8 (i:=i) (k:=kvs[i].1) (v:=kvs[i].2) rel (by simp[hi])
  have st2:=st.2
  rw[hl] at st2
  refine wpAny_pyNext_dict_item st2 da hu fun key h' hk st' sb=>?_
  have I1:aX X pins σ H { s with heap:=h' }:=I.turned (t':=s.toks) (fun b o hb e=>(sb.2 b hb).trans e) f0 f1 f3 f4 f5
  obtain⟨o2,e2,c2,d2⟩:=id st'
  rw[<-hl] at st'
  exact⟨key,rfl,go_of (s:={ s with heap:=h' }) e2 c2 d2 (by decide) ⟨kV kvs[i].1,H,I1,aG2 hk,⟨rfl,kvs[i].1,kvs[i].2,by simp[hi],rfl⟩,⟨hi,st'⟩,fun b hb=>(hf b hb).1⟩⟩
 done:=by
  intro X hP hw hK hc i pins s σ H E I hf st hg
  subst hP hw hK
  obtain⟨hi,hd⟩:=hg
  obtain⟨f0,f1,f2,f3,f4,f5⟩:=hf it (by simp)
  obtain⟨vs,rel,da,ns⟩:=aY5 I ho hd
  have hl:kvs.length=vs.length:=gg rel
  have st2:=st.2
  rw[hl] at st2
  exact wpAny_pyNext_dict_end (I.ok.hd hc) st2 da (by simp;lia) fun h' eb=>⟨rfl,I.turned (t':=s.toks) (fun b o hb e=>eb b o hb e) f0 f1 f3 f4 f5⟩
 self:=fun _ _ _ _ _ st h=>xa st.2 h
def cD0 (tl:TE):TI:=fun σ H R=>tl σ H fun x H1=>∃d kvs,x= .ref d/\H1 d=some (.dK kvs)/\∀o,R (Itd d o kvs) (aN H1 d (.frz o (.dK kvs)))
def wA (hl:PE X l tl):PI X tg l (cD0 tl):=by
 intro pins s σ H R I h
 refine cV (hl pins s σ H _ I h) ?_;rintro v s1 ⟨x,H1,I1,r1,q1⟩
 obtain⟨d,kvs,e,hd,q⟩:=q1
 subst e
 cases r1
 obtain⟨z,ns,vs,rel,o,es,ep,h1,h2,h3,h4,h5,h6⟩:=sN I1.hok hd
 have hl:kvs.length=vs.length:=gg rel
 have I2:=I1.freeze hd h1
 refine yy (knd:=aZ X.prog X.w) ns ⟨o,es,h1,h2,h3,h4,h5,h6⟩ ?_
 have f:(aN H1 d (.frz o (.dK kvs))) s1.heap.objs.size=none:=I2.hok.fresh (aj _)
 refine⟨s1.heap.objs.size,[s1.heap.objs.size],_,_,_,rfl,I2.kept (t':=s1.toks) fun b o e=>af _ e,vJ d _ o kvs h3,⟨bu _,⟨_,bc _ rfl,rfl,by rw[hl];rfl⟩⟩,fun b hb=>?_,q o⟩
 have e:b=s1.heap.objs.size:=by simpa using hb
 subst e
 exact I2.fpOk (aj _) f
def uE (Pv:Nat->List V->St->Hp->Prop)(hz:kvs.length<sizeLine)(h0:Pv 0 [] σ0 H1)(hb:∀i zs σ H,Pv i zs σ H->zs.length<=i)(hl:∀i zs σ H,i<=kvs.length->Pv i zs σ H->H d=some (.frz o (.dK kvs)))(hs:∀i k v zs σ H,kvs[i]?=some (k,v)->Pv i zs σ H->g (kV k) σ H fun σ2 H2=>tc σ2 H2 fun b H3=>if b=true then te σ2 H3 fun y H4=>Pv (i+1) (zs++[y]) σ2 H4 else Pv (i+1) zs σ2 H3)(hd:∀zs σ H,Pv kvs.length zs σ H->Kf zs H):mM (Itd d o kvs) g tc te Kf σ0 H1:=by
 refine⟨fun i m zs σ H=>m=kvs.length-i/\i<=kvs.length/\Pv i zs σ H,⟨kvs.length,by simp,bu _,h0⟩,?_⟩
 rintro i m zs σ H ⟨rfl,hi,p⟩
 have q1:=hl i zs σ H hi p
 refine⟨di (hb _ _ _ _ p) (di hi hz),?_⟩
 by_cases hlt:i<kvs.length
 ·refine .inr ⟨⟨hlt,q1⟩,Pv (i+1),fun zs' σ' H' p'=>⟨kvs.length-(i+1),fm hlt (ek i),rfl,hlt,p'⟩,fun x H' y=>?_⟩
  obtain⟨rfl,k,v,e1,rfl⟩:=y
  exact hs i k v zs σ _ e1 p
 ·have e:i=kvs.length:=by lia
  subst e
  exact .inl ⟨⟨aj _,q1⟩,hd zs σ H p⟩
section
variable {X:Cx}
variable {g:TG}{tc:TT}{te:TE}
end
open PySem.AutoSeq1 (wpAny_loadPart')
section
variable {prog:Program}{w:World}{A:Around}{E:Value->Shared->Prop}{s:Shared}
end
def cB4 (i j:Int):Prop:=0<j/\j<2^200*2^200
def yW:jU X (binaryOp .FloorDiv) (rI cB4 fun i j=> .int (i / j)):=opI fun i j _ _ _ _ _ hc q=>by
 obtain⟨h0,h1⟩:=hc
 refine floordiv_int (by lia) ?_ (.inl (uz ?_))
 ·rw[sr i (by lia)];exact q
 ·have h2:j.natAbs<2^200*2^200:=by lia
  rw[<-Nat.pow_add] at h2
  have h3:j.natAbs≠0:=by lia
  have h4:j.natAbs.log2<200+200:=(Nat.log2_lt h3).mpr h2
  exact bz h4 (by decide)
open PySem PySem.Spec PyProof.Rows
section
variable {prog:Program}{w:World}{A:Around}{E:Value->Shared->Prop}{s:Shared}
end
section
variable {X:Cx}{pins:List (Addr×Obj)}{σ:St}{H:Hp}{s:Shared}{a:Addr}{y v:V}{u r:Value}{A:Around}{E:Value->Shared->Prop}
def aM4 (hu:A.units<cLine)(I:aX X pins σ H s)(g:hX H a y v H')(ry:bL y u)(rv:bL v r)(h:∀s',aX X pins σ H' s'->Heap.SameBut a s.heap s'.heap->Q () s'):
  wpAny (model X.prog X.w) A (dictSet a u r) Q E s:=by
 rcases g with⟨kvs,k,e,ey,l,eH⟩|⟨kvs,k,b,e,ey,eb,l,eH⟩
 ·subst ey eH
  obtain⟨z,hd,vs,rel,dd⟩:=sN I.hok e
  refine wpAny_dictSet_pairs (hsz:=by rw[<-rel.length];exact z) (pL ry) dd fun h' dd' hs=>h _ (lQ I (by rw[e];exact iy) hs (let⟨q,_,_,hq,_⟩:=dd';⟨q,hq⟩) (rF ?_ hd (rel.put k rv) dd')) hs
  have:=eU kvs k v
  lia
 ·subst ey eH
  cases(show u=Value.ref b from ry)
  obtain⟨z,hd,xs,rel,dd⟩:=bL1 I.hok e
  have hl:(dP kvs k v).length<=sizeLine:=by have:=eU kvs k v;lia
  refine wpAny_dictSet_heap (hsz:=by rw[<-gg rel];exact z) (show(tupleKind (aZ X.prog X.w)).room A from hu) (oX I.hok eb) dd fun h' dd' hs=>h _ ?_ hs
  obtain⟨q,es,ep,hq,h2,h3,h4,_,h5⟩:=dd'
  refine lQ I (by rw[e];exact iy) hs ⟨q,hq⟩ ⟨hl,hd,_,(rel.put k eb rv).keeps fun c ys ec=>?_,q,es,ep,hq,h2,h3,h4,h5⟩
  rw[aH (gX ec e (fun z=>nomatch z))]
  exact ec
end
def vO:entryFor table "dict.update.loop"=some Builtin.«dict.update.loop» :=vb (by kernel_rfl)
def aA4 (H:Hp)(d:Addr)(ys:List V)(o:Nat->HO):Prop:=∀i,i<ys.length->∃t k v,ys[i]?=some (.ref t)/\H t=some (.tup [k,v])/\hX (aN H d (o i)) d k v (aN H d (o (i+1)))
section
variable {X:Cx}{pins:List (Addr×Obj)}{σ:St}{H:Hp}{s:Shared}{A:Around}{E:Value->Shared->Prop}
end
open PySem PySem.Spec PyProof.Rows PySem.W
section
variable {n:Nat}(h0:0<n)
include h0
end
open PySem PySem.Spec PyProof.Rows PySem.W HT
section
variable {prog:Program}{w:World}{A:Around}{E:Value->Shared->Prop}{s:Shared}
end
open PySem PySem.Spec PyProof.Rows
section
variable {prog:Program}{w:World}{A:Around}{E:Value->Shared->Prop}{s:Shared}
end
section
variable {g:TG}{tc:TT}{te:TE}
end
section
variable {X:Cx}
end
def iD {K}{g:TG}{tb:TS}{D:kF}(Pv:Nat->St->Hp->Prop)(h0:Pv 0 σ H)(hl:∀i σ H,i<=xs.length->Pv i σ H->bJ K H a xs)(hs:∀(D':kF),∀i x σ H,xs[i]?=some x->Pv i σ H->g x σ H fun σ2 H2=>tb { D' with nx:=Pv (i+1),ct:=Pv (i+1),bk:=D'.nx } σ2 H2)(hd:∀σ H,Pv xs.length σ H->D.nx σ H):
  ∃W:Nat->Nat->St->Hp->Prop,(∃m,W 0 m σ H)/\∀i m σ H,W i m σ H ->
   ((Itl K a).stop i H/\D.nx σ H)\/((Itl K a).go i H/\∃N:St->Hp->Prop,(∀σ' H',N σ' H'->∃m',m'<m/\W (i+1) m' σ' H')/\∀x H',(Itl K a).yld i H x H'->g x σ H' fun σ2 H2=>tb { D with nx:=N,ct:=N,bk:=D.nx } σ2 H2):=yK Pv h0 hl (hs D) hd
def zI {K}{g:TG}{tb:TS}{D:kF}(Pv:Nat->St->Hp->Prop)(h0:Pv 0 σ H)(hl:∀i σ H,i<=xs.length->Pv i σ H->aQ K H a xs)(hs:∀(D':kF),∀i x σ H,xs[i]?=some x->Pv i σ H->g x σ H fun σ2 H2=>tb { D' with nx:=Pv (i+1),ct:=Pv (i+1),bk:=D'.nx } σ2 H2)(hd:∀σ H,Pv xs.length σ H->D.nx σ H):
  ∃W:Nat->Nat->St->Hp->Prop,(∃m,W 0 m σ H)/\∀i m σ H,W i m σ H ->
   ((Itt K a).stop i H/\D.nx σ H)\/((Itt K a).go i H/\∃N:St->Hp->Prop,(∀σ' H',N σ' H'->∃m',m'<m/\W (i+1) m' σ' H')/\∀x H',(Itt K a).yld i H x H'->g x σ H' fun σ2 H2=>tb { D with nx:=N,ct:=N,bk:=D.nx } σ2 H2):=bG4 Pv h0 hl (hs D) hd
section
variable {X:Cx}
end
section
variable {prog:Program}{w:World}{A:Around}{E:Value->Shared->Prop}{s:Shared}
end
section
variable {X:Cx}{pos:Pos}
end
def ItR (K:PySem.W.Frag)(a:Addr)(n:Nat):It:=
 ⟨fun i H=>∃xs,bJ K H a xs/\xs.length=n/\i<n,fun i H x H'=>H'=H/\∀ys,bJ K H a ys->ys.reverse[i]?=some x,fun i H=>∃xs,bJ K H a xs/\xs.length=n/\n<=i⟩
def aU1{P:Program}{w:World}{K:PySem.W.Frag}{tg:Expr}(a it:Addr)(n:Nat)(ne:a≠it):wN P w K tg (ItR K a n) [it] it (fun i h=>i<=n/\h.IsRevIter it a ((n:Int)-1-(i:Int))) where
 mem:=by simp
 obj:=fun i h st b hb=>by
  have e:b=it:=by simpa using hb
  subst e
  obtain⟨_,o,e,c,d⟩:=st
  exact⟨o,e,fun v z=>by rw[d] at z;cases z⟩
 keep:=fun i h h' st k=>⟨st.1,let⟨o,e,r⟩:=st.2;⟨o,k it (by simp) o e,r⟩⟩
 item:=by
  intro X hP hw hK hc i pins s σ H E I hf st hg
  subst hP hw hK
  obtain⟨xs,hq,hn,hi⟩:=hg
  obtain⟨its,rv,p,hz⟩:=I.list hq
  have hl:=rv.length
  have sz:its.toArray.size=n:=by rw[bn];lia
  obtain⟨f0,f1,f2,f3,f4,f5⟩:=hf it (by simp)
  have Wk:=xk (prog:=X.prog) (w:=X.w) (A:=X.A) (I.ok.hd hc) it a ne its.toArray
  refine Wk.item i s _ _ (by lia) ⟨by lia,by rw[sz];exact st.2,p.isList⟩ fun v h' tk pv st' kp=>?_
  have I1:aX X pins σ H { s with heap:=h',toks:=tk }:=I.turned (t':=tk) (fun b o hb e=>kp b o (by simpa using hb) e) f0 f1 f3 f4 f5
  have hx:i<xs.reverse.length:=by rw[eh];lia
  obtain⟨u,hu,ru⟩:=rv.get (show xs[xs.length-1-i]?=some (xs[xs.length-1-i]'(by lia)) from bo (by lia))
  obtain⟨o,e,c,d⟩:=id st'.2.1
  have ev:v=u:=by
   have:its.toArray[its.toArray.size-1-i]?=some v:=pv
   rw[sz, <-hn] at this
   have t2:its[xs.length-1-i]?=some v:=by simpa using this
   rw[hu] at t2
   exact(cu t2).symm
  subst ev
  refine⟨_,rfl,go_of (s:={ s with heap:=h',toks:=tk }) e c d (by decide) ⟨xs[xs.length-1-i]'(by lia),H,I1,ru,⟨rfl,fun ys hy=>?_⟩,⟨by lia,by have:=st'.2.1;rw[sz] at this;exact this⟩,fun b hb=>(hf b hb).1⟩⟩
  rw[I.list_inj hy hq,wm (by lia)]
  exact bo (by lia)
 done:=by
  intro X hP hw hK hc i pins s σ H E I hf st hg
  subst hP hw hK
  obtain⟨xs,hq,hn,hi⟩:=hg
  obtain⟨its,rv,p,hz⟩:=I.list hq
  have hl:=rv.length
  have sz:its.toArray.size=n:=by rw[bn];lia
  obtain⟨f0,f1,f2,f3,f4,f5⟩:=hf it (by simp)
  have Wk:=xk (prog:=X.prog) (w:=X.w) (A:=X.A) (I.ok.hd hc) it a ne its.toArray
  have ei:i=n:=by have:=st.1;lia
  refine Wk.done s _ _ ⟨aj _,by rw[sz, <-ei];have:=st.2;rw[<-ei] at this;exact this,p.isList⟩ fun h' tk kp=>⟨rfl,I.turned (t':=tk) (fun b o hb e=>kp b o (by simpa using hb) e) f0 f1 f3 f4 f5⟩
 self:=fun _ _ _ _ _ st h=>xb st.2 h
def cH6 (K:PySem.W.Frag)(te:TE):TI:=fun σ H R=>te σ H fun x H1=>∃a ys,x= .ref a/\bJ K H1 a ys/\R (ItR K a ys.length) H1
def aW3 (he:PE X e te)(g2:Gl X "reversed")(m2:X.mg "reversed"=none)(hs2:autoParam (starEach [e] X.env=[(false,eval e X.env)]) Rq0._auto_1):
  PI X tg (.Call (.Name "reversed" p2) [e] [] pos2) (cH6 X.K te):=by
 intro pins s σ H R I h
 refine fu (kR I g2 m2 sq (gq ?_ hs2 rfl))
 rw[hs2]
 refine io (cV (he pins s σ H _ I h) ?_);rintro u s1 ⟨x,H1,I1,r1,a,ys,ex,hq,q⟩;refine ki ?_
 subst ex
 cases r1
 obtain⟨its,rv,pl,hz⟩:=I1.list hq
 have il:=pl.isList
 have len:=rv.length
 have sz:its.toArray.size=ys.length:=by rw[bn];lia
 have aLt:a<s1.heap.objs.size:=by
  obtain⟨o,e,_⟩:=il
  exact ay e
 refine yf il ?_
 have st:(s1.heap.push (revObj a ((its.toArray.size:Int)-1))).IsRevIter s1.heap.objs.size a ((ys.length:Int)-1-((0:Nat):Int)):=by
  rw[sz,Int.natCast_zero,Int.sub_zero]
  exact⟨_,bc _ rfl,rfl,rfl⟩
 refine xb st ?_
 refine⟨s1.heap.objs.size,[s1.heap.objs.size],_,ItR X.K a ys.length,H1,rfl,I1.kept (t':=s1.toks) fun b o e=>af _ e,aU1 a _ ys.length (bw aLt),⟨bu _,st⟩,fun b hb=>?_,q⟩
 have e:b=s1.heap.objs.size:=by simpa using hb
 subst e
 exact I1.fpOk (aj _) (I1.hok.fresh (aj _))
def yR {K}(Pv:Nat->List V->St->Hp->Prop)(hz:xs.length<sizeLine)(h0:Pv 0 [] σ0 H1)(hb:∀i ys σ H,Pv i ys σ H->ys.length<=i)(hl:∀i ys σ H,i<=xs.length->Pv i ys σ H->bJ K H a xs)(hs:∀i x ys σ H,xs.reverse[i]?=some x->Pv i ys σ H->g x σ H fun σ2 H2=>tc σ2 H2 fun b H3=>if b=true then te σ2 H3 fun y H4=>Pv (i+1) (ys++[y]) σ2 H4 else Pv (i+1) ys σ2 H3)(hd:∀ys σ H,Pv xs.length ys σ H->Kf ys H):mM (ItR K a xs.length) g tc te Kf σ0 H1:=by
 refine⟨fun i m ys σ H=>m=xs.length-i/\i<=xs.length/\Pv i ys σ H,⟨xs.length,rfl,bu _,h0⟩,?_⟩
 rintro i m ys σ H ⟨rfl,le,p⟩
 have q:=hl i ys σ H le p
 refine⟨di (hb _ _ _ _ p) (di le hz),?_⟩
 by_cases c:i<xs.length
 ·exact .inr ⟨⟨xs,q,rfl,c⟩,Pv (i+1),fun ys' σ' H' p'=>⟨xs.length-(i+1),fm c (ek i),rfl,c,p'⟩,fun x H' ⟨e,y⟩=>by
   subst e
   exact hs i x ys σ _ (y xs q) p⟩
 ·obtain rfl:i=xs.length:=by lia
  exact .inl ⟨⟨xs,q,rfl,aj _⟩,hd ys σ H p⟩
section
variable {X:Cx}
def zQ:eL X (.type "dict") (fun xs H Q=>∃(p:Addr) (kvs:List (Key×V)),xs=[.ref p]/\H p=some (.dK kvs)/\∀d,H d=none->Q (.ref d) (aN H d (.dK kvs))):=by
 intro pins s σ H xs us Q I r h
 obtain⟨p,kvs,rfl,hp,q⟩:=h
 obtain⟨u,rfl,ru⟩:=gP r
 cases ru
 obtain⟨z,hd,vs,rel,dd⟩:=sN I.hok hp
 refine kt_call_dict hd dd (by rw[<-rel.length];exact z) fun h' hm hs=>?_
 refine⟨.ref s.heap.objs.size,_,I.laid (t':=s.toks) (o:= .dK kvs) (fun b o e=>(hs.2 b (bw (ay e))).trans (af _ e)) (aj _) ?_,rfl,q _ (I.hok.fresh (aj _))⟩
 exact rF z (nh.mpr (Ne.symm (bw I.big))) rel hm
def bG1 (H:Hp):List V->List (Int×Int)->Prop
 |[],[]=>True
 |v::vs,p::ps=>(∃a,v= .ref a/\H a=some (.tup [.int p.1,.int p.2]))/\bG1 H vs ps
 |_,_=>False
inductive rCatA(x y:V)(H:Hp)(Q:VK):Prop
 |mk:∀a b xs ys,x= .ref a->y= .ref b->H a=some (.tup xs)->H b=some (.tup ys)->xs.length+ys.length<=sizeLine->(∀r H',bA H H'->H' r=some (.tup (xs++ys))->Q (.ref r) H')->rCatA x y H Q
def bU:jU X (binaryOp .Add) rCatA:=by
 intro pins s σ H x y v u Q I rx ry h
 obtain⟨a,b,xs,ys,rfl,rfl,ha,hb,hz,q⟩:=h
 by_cases hx:xs=[]
 ·subst hx
  cases rx
  cases ry
  obtain⟨its,r1,p1,_⟩:=I.tuple (aQ.of ha)
  obtain⟨its2,r2,p2,_⟩:=I.tuple (aQ.of hb)
  cases r1
  obtain⟨⟨cls,dd,data,sl⟩,ho,hc,n,hd⟩:=id p1
  obtain⟨⟨cls2,dd2,data2,sl2⟩,ho2,hc2,n2,hd2⟩:=id p2
  simp only at hc hd hc2 hd2
  subst hc hd hc2 hd2
  exact yc ⟨_,ho,rfl⟩ ⟨_,ho2,rfl⟩ ut xi ph ow (om _ _)
   (tuple_addW0 a b _ its2.toArray n n2 dd dd2 sl sl2 (by simp)) ⟨ho,ho2,.ref b,H,I,rfl,q b H (bA.refl _) hb⟩
 ·refine bF7 pins s σ H _ _ v u Q I rx ry ⟨a,b,xs,ys,rfl,rfl,aQ.of ha,aQ.of hb,hx,hz,fun e=>?_,fun _ p hp=>q p _ (aB hp _) aC⟩
  subst e
  exact q a H (bA.refl _) (by rw[gp];exact ha)
end
def aU7:typeLookup (.type "list") "keys"=pure none:=by rw[vp,qc];kernel_rfl
section
variable {prog:Program}{w:World}{A:Around}{E:Value->Shared->Prop}{s:Shared}
def keys_missL (hx : s.heap.get? a = some { cls:= .type "list",dict:= none,data:= .seq xs k,slots:= sl })(hA : A.handled = none)(h : ∀h' tk,(∀b o,s.heap.get? b = some o -> h'.get? b = some o) -> Q none { s with heap:= h',toks:= tk }): wpAny (model prog w) A (getAttr? (.ref a) "keys") Q E s:= by
  obtain⟨hp,g,d,tk,os⟩:= s
  have hT : ∀tk',(⟨hp,g,d,tk',os⟩ : Shared).TypeIs (.ref a) "list" := fun _ => ⟨_,hx,rfl⟩
  have f1:= sub_AttributeError
  have f3:= F.slot_list_getattribute.lookup
  have f4:= F.slot_list_getattribute.bind (.ref a)
  have f5:= am_list_getattr_none
  unfold getAttr? getAttrBy? getAttrBy
  repeat (any_goals (first|assumption|exact hT _ |
    ((with_reducible show wpAny _ _ (call (Value.builtin "list.__getattribute__") _ _) _ _ _)
     refine mo F.slot_list_getattribute (hT _) am_entry_list_getattribute (F.args_list_getattribute_2 _ _) (meets_getattribute_miss_list a xs k sl "keys" _ aU7 (by decide)) ⟨hx,hA,fun h' tk' e ne => ?_⟩)|wp_step))
  obtain⟨t',u',he⟩:= ne.there
  show wpAny _ _ (getattributeRaised _ _ _ _ _ _ _) _ _ _
  unfold getattributeRaised
  repeat (any_goals (first|assumption|wp_step))
  exact h _ _ ne.keeps
end
section
variable {X:Cx}{pins:List (Addr×Obj)}{σ:St}{H:Hp}{s:Shared}{A:Around}{E:Value->Shared->Prop}
def zV (hu:A.in1.units<cLine)(hA:A.in1.handled=none)(hp:H p=some (.lst ys))(hd:H d=none)(hi0:H it=none)(hid:it≠d)(C:aA4 H d ys o)(q:∀s',aX X pins σ (aN H d (o ys.length)) s'->Q .none s'):∀n i (tk) (s),n+i=ys.length->aX X pins σ (aN H d (o i)) s->mB X pins (aN H d (o i)) it->s.heap.IsListIter it p i ->
  codeAny (model X.prog X.w) A (.builtin "dict.update.loop" ⟨[.ref d,.ref it,.int i tk,.none],[]⟩) (wants Q E) s:=by
 intro n
 induction n with
 |zero =>
  intro i tk s hn I hf st
  have e:i=ys.length:=by lia
  subst e
  have hp':aN H d (o ys.length) p=some (.lst ys):=by rw[aH (aK hp hd)];exact hp
  obtain⟨its,rv,tp,hz⟩:=I.list (bJ.of hp')
  obtain⟨f0,f1,f2,f3,f4,f5⟩:=hf
  have hl:=rv.length
  refine jm vO ?_
  unfold Builtin.«dict.update.loop»
  refine aa (wj hA st tp.isList (by simp;lia) fun h' eb=>?_)
  have I1:=I.turned (h':=h') (t':=s.toks) (fun b o hb e=>eb b o hb e) f0 f1 f3 f4 f5
  show wpAny _ _ (Builtin.Dict.addKeywords d []>>=fun _=>ret Value.none) _ _ _
  exact aa (ak (ak (q _ I1)))
 |succ n ih =>
  intro i tk s hn I hf st
  have hi:i<ys.length:=by lia
  obtain⟨t,k,v,ey,ht,g⟩:=C i hi
  have hp':aN H d (o i) p=some (.lst ys):=by rw[aH (aK hp hd)];exact hp
  have ht':aN H d (o i) t=some (.tup [k,v]):=by rw[aH (aK ht hd)];exact ht
  obtain⟨its,rv,tp,hz⟩:=I.list (bJ.of hp')
  obtain⟨u,hu',ru⟩:=rv.get ey
  cases ru
  obtain⟨f0,f1,f2,f3,f4,f5⟩:=id hf
  refine jm vO ?_
  unfold Builtin.«dict.update.loop»
  refine aa (vv st tp.isList (x:= .ref t) (by simpa using hu') fun h' st' sb=>?_)
  have I1:=I.turned (h':=h') (t':=s.toks) (fun b o hb e=>(sb.2 b hb).trans e) f0 f1 f3 f4 f5
  obtain⟨its2,rv2,⟨o2,e2,c2,m2,d2⟩,_⟩:=I1.tuple (aQ.of ht')
  obtain⟨uk,uv,rfl,rk,rV⟩:=tQ rv2
  refine aa (dz (aa (wpAny_tryCatch ?_)))
  refine(show wpAny _ _ (typeOf (.ref t)>>=_) _ _ _ from aa (uw (T:="tuple") ⟨o2,e2,c2⟩ ?_))
  refine(show wpAny _ _ (seqItems? (.ref t)>>=_) _ _ _ from aa (ji e2 d2 (ak ?_)))
  show wpAny _ _ (holding [uk,uv] (dictSet d uk uv)) _ _ _
  refine dz (aM4 hu I1 g rk rV fun s2 I2 sb2=>?_)
  refine(show wpAny _ _ (again _) _ _ _ from ak ⟨sf _ (by decide),?_⟩)
  have ni:aN H d (o (i+1)) it=none:=by rw[aH hid];exact hi0
  exact ih (i+1) _ s2 (by lia) I2 ⟨ni,f1,f2,f3,f4,f5⟩ (st'.at fun ob e=>(sb2.2 it hid).trans e)
def aB5 (hr:dL k X.A):eL X (.type "dict") (fun xs H Q=>∃(p:Addr) (ys:List V) (o:Nat->HO),xs=[.ref p]/\H p=some (.lst ys)/\(o 0= .dK []\/o 0= .dT [])/\∀d,H d=none->aA4 H d ys o/\Q (.ref d) (aN H d (o ys.length))):=by
 intro pins s σ H xs us Q I r h
 obtain⟨p,ys,o,rfl,hp,h0,h⟩:=h
 obtain⟨u,rfl,ru⟩:=gP r
 cases ru
 have hf:H s.heap.objs.size=none:=I.hok.fresh (aj _)
 obtain⟨C,q⟩:=h _ hf
 have hu:=hr.units
 have ty:(⟨s.heap.push { cls:= .type "dict",data:= .dict #[] },s.gens,s.drawn,s.toks,s.os⟩:Shared).TypeIs (.ref s.heap.objs.size) "dict":=⟨_,bc _ rfl,rfl⟩
 have I1:aX X pins σ (aN H s.heap.objs.size (o 0)) { s with heap:=s.heap.push { cls:= .type "dict",data:= .dict #[] } }:=by
  rcases h0 with e|e
  ·rw[e]
   exact I.laid (a:=s.heap.objs.size) (o:= .dK []) (t':=s.toks) (fun _ _ q=>af _ q) (aj _) (rE s.heap I.big)
  ·rw[e]
   exact I.laid (a:=s.heap.objs.size) (o:= .dT []) (t':=s.toks) (fun _ _ q=>af _ q) (aj _) (aW0 s.heap I.big)
 refine callType_codes (Q₁:=fun obj s₁=>obj= .ref s.heap.objs.size/\s₁={ s with heap:=s.heap.push { cls:= .type "dict",data:= .dict #[] } }) F.kt_called_dict (F.kt_typeCall_dict_1 _) F.entry_dict_init (kt_code_dict_new _ ⟨rfl,rfl⟩) ?_
 rintro obj s₁ ⟨rfl,rfl⟩
 refine⟨ty,F.args_dict_init_2 _ _,?_⟩
 unfold Builtin.«dict.__init__»
 refine aa ?_
 unfold Builtin.Dict.selfAndRest
 refine aa (wo ty ?_)
 show wpAny _ _ (pure (s.heap.objs.size,[Value.ref p])) _ _ _
 refine ak ?_
 show wpAny _ _ (Builtin.Dict.updateFrom "dict.__init__" s.heap.objs.size (.ref p) [] .none) _ _ _
 unfold Builtin.Dict.updateFrom
 generalize hd0:s.heap.objs.size=d at hf C q I1 ⊢
 have hp1:aN H d (o 0) p=some (.lst ys):=by rw[aH (aK hp hf)];exact hp
 obtain⟨_,its,n1,rv,e1⟩:=(show bZ X.prog X.w _ _ p (.lst ys) from I1.hok p _ hp1)
 refine aa (uw (T:="list") ⟨_,e1,rfl⟩ ?_)
 rw[bb (by decide)]
 refine aa (keys_missL e1 (show X.A.handled=none from hr.hd) fun h' tk kp=>?_)
 have I2:=I1.kept (h':=h') (t':=tk) kp
 rw[bb (by rfl)]
 refine aa (oq (aa (ly (items:=its.toArray) ⟨_,kp _ _ e1,rfl,_,rfl⟩ ?_)))
 have I3:=I2.kept (h':=h'.push { cls:= .type "list_iterator",data:= .fields #[.ref p,.int 0 0] }) (t':=tk) fun b o e=>af _ e
 have hit:aN H d (o 0) h'.objs.size=none:=I2.hok.fresh (aj _)
 have hid:h'.objs.size≠d:=fun z=>by rw[z,aC] at hit;cases hit
 have hi0:H h'.objs.size=none:=by rw[aH hid] at hit;exact hit
 refine ak ⟨sf _ (by decide),?_⟩
 refine zV (A:=X.A.in1) (Q:=fun r s₂=>r=Value.none/\EP X pins σ Q (.ref d) s₂) (H:=H) (p:=p) (ys:=ys) (o:=o) (by show X.A.units+1+1<cLine;lia) (show X.A.handled=none from hr.hd) hp hf hi0 hid C (fun s' I'=>⟨rfl,.ref d,_,I',rfl,q⟩) ys.length 0 _ _ (by lia) I3 ⟨hit,?_⟩ ⟨_,bc _ rfl,rfl,rfl⟩
 exact(I2.fpOk (H':=aN H d (o 0)) (aj _) hit).2
end
section
variable {prog:Program}{w:World}{K:Type} [DecidableEq K] {knd:KeyKind prog w K}{A:Around}{E:Value->Shared->Prop}{s:Shared}
end
section
variable {X:Cx}
end
def vK:PE X (.UnaryOp .USub (.Constant (.int 1) j p) p2) (tC (.int (-1))):=fun pins s σ H Q I h =>
 aN0 (X:=X) aA5 aD pins s σ H Q I ⟨1,rfl,h⟩
section
variable {X:Cx}
inductive bL5(t:TT)(σ:St)(H:Hp)(Q:(Bool->Hp->Prop)):Prop
 |mk:∀P:Bool->Hp->Prop,t σ H P->(∀b G,P b G->Q b G)->bL5 t σ H Q
def eM (h:PT X e t):PT X e (bL5 t):=by
 intro pins s σ H Q I ⟨P,h1,h2⟩
 refine cV (h pins s σ H P I h1) ?_;rintro b s' ⟨G,I',p⟩;exact⟨G,I',h2 b G p⟩
inductive bK0(t:TS)(D:kF)(σ:St)(H:Hp):Prop
 |mk:∀P:St->Hp->Prop,(t { D with nx:=P } σ H)->(∀σ' G,P σ' G->D.nx σ' G)->bK0 t D σ H
def gD {st}(h:PS X st t):PS X st (bK0 t):=by
 intro pins s σ H D I ⟨P,h1,h2⟩
 refine cV (h pins s σ H _ I h1) fun f s' q=>?_
 cases f with
 |next =>
  obtain⟨σ',G,I',p⟩:=q
  exact⟨σ',G,I',h2 σ' G p⟩
 |ret v=>exact q
 |brk=>exact q
 |cont=>exact q
end
section
variable {X:Cx}{o e:Expr}{es:List Expr}{to:TE}{t:TA}{name:Str}{apos cpos:Pos}{T id:String}{r:V->List V->Hp->VK->Prop}
end
def hJ (σ:List Key)(k:Key):Bool:=σ.any fun j=>decide (j=k)
def gR:hJ σ k=true↔k∈σ:=by
 unfold hJ
 rw[je]
 constructor
 ·rintro⟨j,m,e⟩
  rw[<-ae e];exact m
 ·exact fun m=>⟨k,m,ag rfl⟩
def tU (σ:List Key)(k:Key):List Key:=if hJ σ k=true then σ else σ++[k]
def dd (ks:List Key):List Key:=ks.foldl tU []
def wU (ks)(k):dd (ks++[k])=tU (dd ks) k:=by unfold dd;rw[yz];rfl
def wD:j∈tU σ k↔j∈σ\/j=k:=by
 unfold tU
 split
 ·rename_i h
  constructor
  ·exact .inl
  ·rintro(z|z)
   ·exact z
   ·rw[z];exact gR.mp h
 ·simp
def uV:∀(ks σ:List Key),(ks.foldl tU σ).length<=σ.length+ks.length
 |[],σ=>aj _
 |k::r,σ=>by
  have:=uV r (tU σ k)
  have h2:(tU σ k).length<=σ.length+1:=by unfold tU;split<;>simp
  rw[jk,bt]
  lia
def aQ6 (ks):(dd ks).length<=ks.length:=by have:=uV ks [];simpa [dd] using this
def vM:∀(ks σ:List Key) (j),j∈ks.foldl tU σ↔j∈σ\/j∈ks
 |[],σ,j=>by simp
 |k::r,σ,j=>by
  rw[jk,vM r,wD,bv]
  constructor
  ·rintro((h|h)|h)
   ·exact .inl h
   ·exact .inr (.inl h)
   ·exact .inr (.inr h)
  ·rintro(h|h|h)
   ·exact .inl (.inl h)
   ·exact .inl (.inr h)
   ·exact .inr h
def aZ4 (ks)(j):j∈dd ks↔j∈ks:=by unfold dd;rw[vM];simp
def pS:∀(ks σ:List Key),(σ++ks).Nodup->ks.foldl tU σ=σ++ks
 |[],σ,_=>by simp
 |k::r,σ,h=>by
  have hk:k∉σ:=fun m=>by
   rw[jp] at h
   exact h.2.2 k m k ao rfl
  rw[jk,show tU σ k=σ++[k] from au (fun z=>hk (gR.mp z)),pS r (σ++[k]) (by simpa using h)]
  simp
def rD (h:ks.Nodup):dd ks=ks:=by have:=pS ks [] (by simpa using h);simpa [dd] using this
def zG:∀(ks σ:List Key),σ.Nodup->(ks.foldl tU σ).Nodup
 |[],_,h=>h
 |k::r,σ,h=>by
  refine zG r _ ?_
  unfold tU
  split
  ·exact h
  ·rename_i hk
   rw[jp]
   exact⟨h,by simp,fun a ha b hb=>by rw[List.mem_singleton.mp hb];exact fun z=>hk (gR.mpr (z ▸ ha))⟩
def cE8 (ks):(dd ks).Nodup:=zG ks [] (by simp)
section
variable {prog:Program}{w:World}{A:Around}{R:Result->Shared->Prop}{I:Addr}{fp wr:List Addr}{G:Array GenState->Array GenState->Prop}{n:Nat}{P:Nat->Value->Prop}{St:Nat->Shared->Prop}
def aJ2 (W:WalksS prog w A.in1 I fp wr G n P St)(S)(hSf:S∉fp)(ks)(hn:ks.length=n)(hval:∀i v,P i v->∃k,ks[i]?=some k/\jI k v=true)(hb:n+1<scanBound):
  ∀k i (s),n-i=k->i<=n->St i s ->
   s.heap.SetOf (aZ prog w) S (hJ (dd (ks.take i))) (dd (ks.take i)).length ->
   (∀s',Moved (S::wr) G s s'->s'.heap.SetOf (aZ prog w) S (hJ (dd ks)) (dd ks).length->R (.ok (.ret .none)) s') ->
   codeAny (model prog w) A (.builtin "set.update.loop" ⟨[.ref S,.ref I],[]⟩) R s:=by
 have hSw:S∉wr:=fun h=>hSf (W.sub _ h)
 have hsub:∀b∈wr,b∈S::wr:=fun b hb=>aq _ hb
 intro k
 induction k with
 |zero =>
  intro i s hk hi hst hS hR
  have hin:i=n:=by lia
  subst hin
  refine jm lg ?_
  rw[ko ja _]
  show wpAny _ A.in1 (pyNext (.ref I)>>=_) _ _ s
  refine aa (W.done s _ _ hst fun s' hm=>?_)
  show wpAny _ A.in1 (ret Value.none) _ _ s'
  rw[<-hn,cg] at hS
  exact ak (hR s' (hm.mono hsub) (by
   obtain⟨o,es,ep,t,ho,bS⟩:=hS
   exact⟨o,es,ep,t,hm.heap S _ hSw ho,bS⟩))
 |succ k ih =>
  intro i s hk hi hst hS hR
  have hlt:i<n:=by lia
  refine jm lg ?_
  rw[ko ja _]
  show wpAny _ A.in1 (pyNext (.ref I)>>=_) _ _ s
  refine aa (W.item i s _ _ hlt hst fun v s' hP hst' hm=>?_)
  obtain⟨kk,hkk,his⟩:=hval i v hP
  have hS':s'.heap.SetOf (aZ prog w) S (hJ (dd (ks.take i))) (dd (ks.take i)).length:=by
   obtain⟨o,es,ep,tb,ho,bS⟩:=hS
   exact⟨o,es,ep,tb,hm.heap S _ hSw ho,bS⟩
  have hsc:v.scannable=true:=by rcases cZ his with⟨i,t,rfl,rfl⟩|⟨x,t,rfl,rfl⟩<;>rfl
  show wpAny _ A.in1 (holding [v] (setAdd S v)>>=_) _ _ s'
  refine aa (dz ?_)
  unfold setAdd
  refine dz ?_
  refine aa ((aZ prog w).pyHash (k:=kk) his ?_)
  have hroom:(dd (ks.take i)).length+1<scanBound:=by have:=aQ6 (ks.take i);rw[bx] at this;lia
  refine wpAny_setAddHashed_of (knd:=aZ prog w) (s:={ s' with toks:=s'.toks+1 }) his hsc hS' hroom fun h' hsb hS2=>?_
  have hSi:h'.SetOf (aZ prog w) S (hJ (dd (ks.take (i+1)))) (dd (ks.take (i+1))).length:=by
   have e:ks.take (i+1)=ks.take i++[kk]:=by rw[rh,hkk];rfl
   rw[e,wU]
   have e1:(fun k'=>hJ (dd (ks.take i)) k' || decide (k'=kk))=hJ (tU (dd (ks.take i)) kk):=funext fun k'=>by
    rw[ig,vq,fg,gR,gR]
    exact wD.symm
   have e2:(if hJ (dd (ks.take i)) kk=true then (dd (ks.take i)).length else (dd (ks.take i)).length+1)=(tU (dd (ks.take i)) kk).length:=by
    unfold tU
    by_cases c:hJ (dd (ks.take i)) kk=true
    ·rw[bb c,bb c]
    ·rw[au c,au c,ah,jv]
   rw[<-e1, <-e2]
   exact hS2
  refine ak ⟨sk ja _,ih (i+1) _ (by lia) hlt (W.frame _ s' _ _ hst' (fw _) fun b hb o e=>?_) hSi fun s'' hm'' hS''=>?_⟩
  ·rw[hsb.2 b (fun h:b=S=>hSf (by rw[<-h];exact hb))];exact e
  ·refine hR s'' (Moved.trans W.gtrans ((hm.mono hsub).then_heap (fw _) fun b o hb e=>?_) hm'') hS''
   rw[hsb.2 b (fun h:b=S=>hb (by rw[h];exact ao))];exact e
end
def pK (ft:TypeCalled T newId initId)(hct:checkTypeCall T ⟨args,[]⟩=pure ())(hn:codeAny (model prog w) A.in1 (.call (.builtin newId) ⟨.type T::args,[]⟩) (wants Q₁ E) s)(hi:∀obj t,Q₁ obj t->t.TypeIs obj T/\codeAny (model prog w) A.in1 (.call (.builtin initId) ⟨obj::args,[]⟩) (wants (fun r u=>r= .none/\Q obj u) E) t):
  wpAny (model prog w) A (call (.type T) args) Q E s:=by
 have z1:=ft.notType;have z2:=ft.canCreate;have z3:=ft.made;have z4:=ft.sub
 obtain⟨c,tl,z5⟩:=ft.mro
 refine ot (codeAny_of_tree (show wpAny _ _ (callAny (.type T) _) _ _ _ from ak ⟨sf _ (by decide),jm F.entry_type_call ?_⟩))
 rw[Around.under_plain (weight_type_call_type T args []) rfl]
 repeat (any_goals (first|assumption|wp_step))
 refine kr hn fun r t hr=>?_
 match r,hr with
 |.error e,hr=>exact hr
 |.ok .next,hr=>exact hr.elim
 |.ok .brk,hr=>exact hr.elim
 |.ok .cont,hr=>exact hr.elim
 |.ok (.ret obj),hr =>
  obtain⟨hT,hc⟩:=hi _ _ hr
  have y1:=ft.init.lookup;have y2:=ft.init.bind obj
  repeat (any_goals (first|assumption|wp_step))
  refine kr hc fun r2 t2 hr2=>?_
  match r2,hr2 with
  |.error e,hr2=>exact hr2
  |.ok .next,hr2=>exact hr2.elim
  |.ok .brk,hr2=>exact hr2.elim
  |.ok .cont,hr2=>exact hr2.elim
  |.ok (.ret r),hr2 =>
   obtain⟨rfl,hq⟩:=hr2
   repeat (any_goals (first|assumption|wp_step))
def bC6:isSubtype (.type "tuple") (.type "set")=pure false:=by rw[wk];kernel_rfl
def xP:isSubtype (.type "tuple") (.type "frozenset")=pure false:=by rw[wk];kernel_rfl
section
variable {prog:Program}{w:World}{A:Around}{E:Value->Shared->Prop}{s:Shared}
abbrev cK(led:Bool):Obj:={ cls:= .type "set",dict:=none,data:= .set #[] 0 (.fresh 0 0 led) }
def aL0 (hh:A.handled=none)(hl:s.heap.IsTuple l items)(hk:ks.length=items.size)(hi:∀(i:Nat) (v),items[i]?=some v->∃k,ks[i]?=some k/\jI k v=true)(hb:items.size+1<scanBound)(q:∀h' (tk),h'.SetOf (aZ prog w) s.heap.objs.size (hJ (dd ks)) (dd ks).length->(∀b o,s.heap.get? b=some o->h'.get? b=some o)->Q (.ref s.heap.objs.size) { s with heap:=h',toks:=tk }):
  wpAny (model prog w) A (call (.type "set") [.ref l]) Q E s:=by
 have lS:l<s.heap.objs.size:=by obtain⟨o,e,_⟩:=hl;exact ay e
 refine pK (Q₁:=fun obj t=>∃led,obj= .ref s.heap.objs.size/\t={ s with heap:=s.heap.push (cK led) }) F.called_set (zm _) (code_set_new_1 _ fun led=>⟨led,rfl,rfl⟩) ?_
 rintro _ _ ⟨led,rfl,rfl⟩
 have gS:(s.heap.push (cK led)).get? s.heap.objs.size=some (cK led):=bc _ rfl
 have tS:Shared.TypeIs { s with heap:=s.heap.push (cK led) } (.ref s.heap.objs.size) "set":=⟨_,gS,rfl⟩
 have tl:(s.heap.push (cK led)).IsTuple l items:=hl.at fun o e=>af _ e
 refine⟨tS,qv F.called_set.init.plain zn (zo tS ?_)⟩
 obtain⟨⟨oc,od,oda,osl⟩,ho,hc,n0,hd⟩:=id tl
 dsimp only at hc hd
 subst hc hd
 have f1:=bC6;have f2:=xP
 have f3:(Value.type "tuple" == Value.type "dict")=false:=by decide
 have T1:Heap.IsTuple (Shared.heap { s with heap:=s.heap.push (cK led) }) l items:=tl
 unfold Builtin.«set.__init__» noKeywords Builtin.Frozenset.updateFrom
 wp_walk using oh T1
 have z1:(s.heap.push (cK led)).objs.size=s.heap.objs.size+1:=kq ..
 have hne:l≠(s.heap.push (cK led)).objs.size:=by rw[z1];exact bw (km lS)
 have hSf:s.heap.objs.size∉[(s.heap.push (cK led)).objs.size,l]:=by
  rw[z1]
  simp only[List.mem_cons,List.not_mem_nil,or_false,not_or]
  exact⟨bw (ek _),js lS⟩
 have gS2:((s.heap.push (cK led)).push { cls:= .type "tuple_iterator",data:= .fields #[.ref l,.int 0 0] }).get? s.heap.objs.size=some (cK led):=af _ gS
 refine aJ2 (A:=A.in1.in1) ((Walks.tuple (show A.in1.in1.in1.handled=none from hh) _ l hne items).toS) s.heap.objs.size hSf ks hk hi hb (items.size-0) 0 _ rfl (bu _) ⟨⟨_,bc _ rfl,rfl,rfl⟩,tl.at fun o e=>af _ e⟩
  ⟨_,_,_,_,gS2,⟨rfl,rfl,rfl⟩,rfl,fun e he=>absurd he (by simp),fun k=>⟨fun z=>absurd z (by simp[dd,hJ]),(by rintro⟨e,he,_⟩;exact absurd he (by simp))⟩,by decide,rfl,rfl⟩ fun s' hm hS'=>?_
 obtain⟨h',g',d',tk',os'⟩:=s'
 obtain rfl:g'=s.gens:=hm.gens
 obtain rfl:d'=s.drawn:=hm.drawn
 obtain rfl:os'=s.os:=hm.os
 refine ak (ak ⟨rfl,q h' tk' hS' fun b o e=>hm.heap b o ?_ (af _ (af _ e))⟩)
 have bl:=ay e
 rw[z1]
 simp only[List.mem_cons,List.not_mem_nil,or_false,not_or]
 exact⟨bw bl,bw (km bl)⟩
end
section
variable {X:Cx}
def qZ (P:Program)(w:World)(a:Addr)(ks:List Key):HO:= .ext fun h=>h.SetOf (aZ P w) a (hJ (dd ks)) (dd ks).length
def uO:∀{ks:List Key}{us},bM (ks.map kV) us->∀(i:Nat) (v),us[i]?=some v->∃k,ks[i]?=some k/\jI k v=true
 |[],_,h,i,v,e=>by cases h;simp at e
 |k::r,_,h,i,v,e=>by
  rw[eo] at h
  cases h with
  |cons h1 h2 =>
   cases i with
   |zero =>
    simp only[List.getElem?_cons_zero,Option.some.injEq] at e
    subst e
    cases k with
    |inl n=>obtain⟨t,rfl⟩:=h1;exact⟨_,rfl,lY n t⟩
    |inr x=>obtain⟨t,rfl⟩:=h1;exact⟨_,rfl,gK x t⟩
   |succ i=>exact uO h2 i v (by simpa using e)
def oW (P)(w)(hr:dL k X.A)(hP:autoParam (X.prog=P) Rq0._auto_1)(hw:autoParam (X.w=w) Rq0._auto_1):eL X (.type "set") (fun xs H Q=>∃(p:Addr) (ks:List Key),xs=[.ref p]/\aQ X.K H p (ks.map kV)/\ks.length<=1000/\∀a,H a=none->Q (.ref a) (aN H a (qZ P w a ks))):=by
 subst hP hw
 intro pins s σ H xs us Q I r h
 obtain⟨p,ks,rfl,hp,hl,q⟩:=h
 obtain⟨u,rfl,ru⟩:=gP r
 cases ru
 obtain⟨its,rv,pl,_⟩:=I.tuple hp
 have ln:=rv.length
 rw[ac] at ln
 refine aL0 (items:=its.toArray) (ks:=ks) hr.hd pl (by rw[bn];exact ln) (fun i v e=>uO rv i v (by simpa using e)) (by rw[List.size_toArray, <-ln];unfold scanBound;lia) fun h' tk hS kp=>?_
 refine⟨.ref s.heap.objs.size,_,I.laid (t':=tk) (o:=qZ X.prog X.w s.heap.objs.size ks) kp (aj _) ?_,rfl,q _ (I.hok.fresh (aj _))⟩
 refine⟨hS,?_,(by rintro h1 h2 ⟨o,es,ep,t,ho,bS⟩ k2;exact⟨o,es,ep,t,k2 o ho,bS⟩)⟩
 obtain⟨o,_,_,_,ho,_⟩:=hS
 exact⟨o,ho⟩
def oZ (P)(w)(hP:autoParam (X.prog=P) Rq0._auto_1)(hw:autoParam (X.w=w) Rq0._auto_1):eL X (.builtin "len") (fun xs H Q=>∃(a:Addr) (ks:List Key),xs=[.ref a]/\H a=some (qZ P w a ks)/\Q (.int (dd ks).length) H):=by
 subst hP hw
 intro pins s σ H xs us Q I r h
 obtain⟨a,ks,rfl,ha,q⟩:=h
 obtain⟨u,rfl,ru⟩:=gP r
 cases ru
 obtain⟨⟨o,es,ep,t,ho,hex,hd,_,_,hb,hf,hn⟩,_,_⟩:=(show bZ X.prog X.w H s.heap a (qZ X.prog X.w a ks) from I.hok a _ ha)
 rw[<-hn] at q
 exact call_len_set ho hex hd hf (by unfold scanBound at hb;lia) ⟨.int es.size,H,I.tok _,⟨_,rfl⟩,q⟩
end
def vC {g:TG}{tb:TS}{D:kF}(Pv:Nat->St->Hp->Prop)(h0:Pv 0 σ H)(hl:∀i σ H,i<=kvs.length->Pv i σ H->H d=some (.frz o (.dK kvs)))(hs:∀(D':kF),∀i k v σ H,kvs[i]?=some (k,v)->Pv i σ H->g (kV k) σ H fun σ2 H2=>tb { D' with nx:=Pv (i+1),ct:=Pv (i+1),bk:=D'.nx } σ2 H2)(hd:∀σ H,Pv kvs.length σ H->D.nx σ H):
  ∃W:Nat->Nat->St->Hp->Prop,(∃m,W 0 m σ H)/\∀i m σ H,W i m σ H ->
   ((Itd d o kvs).stop i H/\D.nx σ H)\/((Itd d o kvs).go i H/\∃N:St->Hp->Prop,(∀σ' H',N σ' H'->∃m',m'<m/\W (i+1) m' σ' H')/\∀x H',(Itd d o kvs).yld i H x H'->g x σ H' fun σ2 H2=>tb { D with nx:=N,ct:=N,bk:=D.nx } σ2 H2):=by
 refine⟨fun i m σ H=>m=kvs.length-i/\i<=kvs.length/\Pv i σ H,⟨_,rfl,bu _,h0⟩,?_⟩
 rintro i m σ H ⟨rfl,hi,p⟩
 by_cases c:i<kvs.length
 ·right
  refine⟨⟨c,hl i σ H hi p⟩,Pv (i+1),fun σ' H' p'=>⟨kvs.length-(i+1),by lia,rfl,c,p'⟩,?_⟩
  rintro x H' ⟨rfl,k,v,e,rfl⟩
  exact hs D i k v σ _ e p
 ·left
  have e:i=kvs.length:=by lia
  exact⟨⟨by lia,hl i σ H hi p⟩,hd σ H (by rw[<-e];exact p)⟩
def bI1 (n):zK (n+1) (-1)=some n:=by
 unfold zK
 rw[au (by decide),bb (by lia)]
 exact ej some (by lia)
def sZ:bY3 X (fun o i H Q=>∃p xs v,o= .ref p/\i= .int (-1)/\bJ X.K H p (xs++[v])/\Q v H):=by
 intro pins s σ H o i ov iv Q I ro ri h
 obtain⟨p,xs,v,rfl,rfl,hq,q⟩:=h
 cases ro
 obtain⟨t,rfl⟩:=ri
 obtain⟨its,r,pl,hz⟩:=I.list hq
 obtain⟨w,ew,rw'⟩:=r.get (i:=xs.length) (x:=v) (by simp)
 have hl:=r.length
 rw[ah,bt,qj] at hl
 have hn:=lI
 have hj:(-1+(its.toArray.size:Int)).toNat=xs.length:=by rw[bn];lia
 exact vz pl.isList (by decide) (by rw[bn];lia) (by lia) (by rw[hj];simpa using ew) ⟨v,H,I,rw',q⟩
def rW:bH3 X (fun o i v H Q=>∃p xs y,o= .ref p/\i= .int (-1)/\H p=some (.lst (xs++[y]))/\Q (aN H p (.lst (xs++[v])))):=by
 intro pins s σ H o i v ov iv u Q I ro ri rv h
 obtain⟨p,xs,y,rfl,rfl,hp,q⟩:=h
 refine sP pins s σ H _ _ v ov iv u Q I ro ri rv ⟨p,_,-1,xs.length,rfl,rfl,hp,?_,?_⟩
 ·rw[ah]
  exact bI1 _
 ·rw[List.set_append_right _ _ (aj _),yh]
  exact q
def aK9 (t:SetTable)(j):(t.put j).1.led=t.led/\(t.put j).1.plain=t.plain:=by
 unfold SetTable.put
 split<;>exact⟨rfl,rfl⟩
def tY (t:SetTable)(n):(t.orStandIn n).led=t.led/\(t.plain=false->(t.orStandIn n).plain=false):=by
 unfold SetTable.orStandIn
 split
 ·exact⟨rfl,id⟩
 ·exact⟨rfl,fun _=>rfl⟩
def aJ9 (t)(es)(h)(x):(layNew t es h x).2.1.led=t.led/\(t.plain=false->(layNew t es h x).2.1.plain=false):=by
 unfold layNew
 split
 ·rename_i slot d e
  have p:=aK9 t slot
  cases q:t.put slot with
  |mk t' k =>
   rw[q] at p
   have p:t'.led=t.led/\t'.plain=t.plain:=p
   have z:=tY t' (SetTable.insertAt es k (h,x)).size
   show(t'.orStandIn _).led=_/\(_->(t'.orStandIn _).plain=false)
   rw[z.1,p.1]
   exact⟨rfl,fun e=>z.2 (by rw[p.2];exact e)⟩
 ·exact⟨rfl,fun _=>rfl⟩
def aC7 (h:SetTable.laid m f v l p hs=some (t,o)):t.led=l/\t.plain=p:=by
 unfold SetTable.laid at h
 cases q:SetTable.layClean m hs with
 |none=>rw[q] at h;cases h
 |some z =>
  rw[q] at h
  cases h
  exact⟨rfl,rfl⟩
def yB (t)(es)(n):(relayAll t es n).2.1.led=t.led/\(t.plain=false->(relayAll t es n).2.1.plain=false):=by
 unfold relayAll
 split
 ·rename_i t' o e
  obtain⟨a,b⟩:=aC7 e
  dsimp only
  split
  ·exact⟨a,fun z=>b.trans z⟩
  ·exact⟨rfl,fun _=>rfl⟩
 ·exact⟨rfl,fun _=>rfl⟩
def gH (prog:Program)(w:World)(h:Heap)(a:Addr)(S:Key->Bool)(n:Nat)(led:Bool):Prop:=
 ∃(o:Obj) (es:Array (Int×Value)) (ep:Nat) (t:SetTable),(h.get? a=some o/\o.ExactSet/\o.data= .set es ep t)/\(ElemsOf (aZ prog w) es.toList/\∀j,S j=true↔∃e∈es.toList,(aZ prog w).is j e.2=true)/\(es.size<scanBound/\t.fits es.size=true/\es.size=n)/\t.led=led/\(0<n->t.plain=false)
section
variable {prog:Program}{w:World}{A:Around}{E:Value->Shared->Prop}{s:Shared}{a:Addr}{S:Key->Bool}{n:Nat}{led:Bool}
def gH.of (x:gH prog w h a S n led):h.SetOf (aZ prog w) a S n:=by
 obtain⟨o,es,ep,t,⟨x1,x2,x3⟩,⟨x4,x5⟩,⟨x6,x7,x8⟩,_⟩:=x
 exact⟨o,es,ep,t,x1,x2,x3,x4,x5,x6,x7,x8⟩
def gH.keep (x:gH prog w h a S n led)(k:∀o,h.get? a=some o->h'.get? a=some o):gH prog w h' a S n led:=by
 obtain⟨o,es,ep,t,⟨x1,x2,x3⟩,r⟩:=x
 exact⟨o,es,ep,t,⟨k o x1,x2,x3⟩,r⟩
def gH.stored {h:Heap}(h1:h.get? a=some o)(h2:o.ExactSet)(h3:o.data= .set es ep t)(h4:ElemsOf (aZ prog w) es'.toList)(h5:∀j,S j=true↔∃e∈es'.toList,(aZ prog w).is j e.2=true)(h6:es'.size<scanBound)(h7:t'.fits es'.size=true)(h8:t'.led=led)(h9:t'.plain=false):
  (h.update a (Obj.putSet es' t')).get? a=some { o with data:= .set es' (ep+1) t' }/\gH prog w (h.update a (Obj.putSet es' t')) a S es'.size led:=by
 obtain⟨g,_⟩:=SetOf_store (knd:=aZ prog w) (S':=S) h1 h2 h3 h4 h5 h6 h7
 exact⟨g,_,es',ep+1,t',⟨g,h2,rfl⟩,⟨h4,h5⟩,⟨h6,h7,rfl⟩,h8,fun _=>h9⟩
def vR {g:Bool->Sem Unit}(hg:∀b (z) (R),R () z->wpAny (model prog w) A (g b) R E z)(h1:s.heap.get? a=some o)(h2:o.ExactSet)(h3:o.data= .set es ep t)(h4:ElemsOf (aZ prog w) es1.toList)(h5:∀j,S j=true↔∃e∈es1.toList,(aZ prog w).is j e.2=true)(h6:es1.size<scanBound)(h7:t2.fits es1.size=true)(h8:t2.led=led)(h9:t2.plain=false)(k:∀h',Heap.SameBut a s.heap h'->gH prog w h' a S es1.size led->R (some true) { s with heap:=h' }):
  wpAny (model prog w) A (do
   storeSet a es1 t2
   if (!d&&t2.tooFull)=true then
    (do g (relayAll t2 es1 (SetTable.grown es1.size)).2.2;storeSet a (relayAll t2 es1 (SetTable.grown es1.size)).1 (relayAll t2 es1 (SetTable.grown es1.size)).2.1;pure (some true))
   else pure (some true)) R E s:=by
 obtain⟨o1,S1⟩:=gH.stored (led:=led) h1 h2 h3 h4 h5 h6 h7 h8 h9
 have b1:=kx s.heap a (Obj.putSet es1 t2)
 refine aa (za h1 h3 ?_ (zb h6))
 by_cases c:(!d&&t2.tooFull)=true
 ·rw[bb c]
  have pm:=relayAll_perm t2 es1 (SetTable.grown es1.size)
  have ft:=relayAll_fits t2 es1 (SetTable.grown es1.size)
  have mk:=yB t2 es1 (SetTable.grown es1.size)
  revert pm ft mk
  cases relayAll t2 es1 (SetTable.grown es1.size) with
  |mk es2 z =>
  cases z with
  |mk t3 gv =>
  intro pm ft mk
  have sz:es2.size=es1.size:=by rw[<-ef, <-ef];exact pm.length_eq
  have b2:es2.size<scanBound:=by rw[sz];exact h6
  refine aa (hg _ _ _ (aa (za o1 rfl ?_ (zb b2))))
  obtain⟨_,S2⟩:=gH.stored (led:=led) (S:=S) (es':=es2) (t':=t3) o1 h2 rfl (h4.perm pm) (fun j=>(h5 j).trans ⟨(by rintro⟨e,m,q⟩;exact⟨e,pm.mem_iff.mpr m,q⟩),(by rintro⟨e,m,q⟩;exact⟨e,pm.mem_iff.mp m,q⟩)⟩) b2 ft (mk.1.trans h8) (mk.2 h9)
  rw[sz] at S2
  exact ak (k _ (b1.trans (kx _ a _)) S2)
 ·rw[au c]
  exact ak (k _ b1 S1)
def aU3 (hx:(aZ prog w).is (Sum.inr z) x=true)(sx:x.scannable=true)(px:plainKind x=false)(F:gH prog w s.heap a S n led)(room:n+1<scanBound)(k:∀h',Heap.SameBut a s.heap h'->gH prog w h' a (fun j=>S j || decide (j=Sum.inr z)) (if S (Sum.inr z) then n else n+1) led->Q (!S (Sum.inr z)) { s with heap:=h' }):
  wpAny (model prog w) A (setAddHashed a x ((aZ prog w).hash (Sum.inr z))) Q E s:=by
 obtain⟨o,es,ep,t,⟨x1,x2,x3⟩,⟨x4,x5⟩,⟨x6,x7,x8⟩,x9,x10⟩:=F
 unfold setAddHashed setAddHashedIn
 refine dz (aa (wpAny_setState_of x1 x3 x7 ?_))
 dsimp only
 rw[byScan_of sx x6 x4,bb rfl]
 unfold setAddByScan
 refine aa (aa (oq (aa (wpAny_setScan_of hx x1 x3 x7 x4 ?_))))
 cases f:List.findIdx? (fun e=>(aZ prog w).is (Sum.inr z) e.2) es.toList with
 |some j =>
  obtain⟨hj,pj,_⟩:=List.findIdx?_eq_some_iff_getElem.mp f
  have there:S (Sum.inr z)=true:=(x5 _).mpr ⟨es.toList[j],va hj,pj⟩
  refine ak (ak ?_)
  have q:=k s.heap (Heap.SameBut.refl a s.heap) ⟨o,es,ep,t,⟨x1,x2,x3⟩,⟨x4,fun i=>?_⟩,⟨x6,x7,by rw[bb there];exact x8⟩,x9,by rw[bb there];exact x10⟩
  ·rw[there] at q;exact q
  ·rw[<-x5 i,vq,fg]
   constructor
   ·rintro(q|q)
    ·exact q
    ·rw[q];exact there
   ·exact .inl
 |none =>
  have away:S (Sum.inr z)=false:=by
   cases q:S (Sum.inr z) with
   |false=>rfl
   |true =>
    obtain⟨e,m,y⟩:=(x5 _).mp q
    have u:=List.findIdx?_eq_none_iff.mp f e m
    rw[y] at u;cases u
  have gw:∀(b:Bool) (z:Shared) (R:Unit->Shared->Prop),R () z->wpAny (model prog w) A (match b with|true=>rule "set.scan.the-table-gave-way" | false=>pure ()) R E z:=fun b z R q=>by
   cases b
   ·exact ak q
   ·exact oq q
  have pm:=layNew_perm t es ((aZ prog w).hash (Sum.inr z)) x
  have ft:=layNew_fits t es ((aZ prog w).hash (Sum.inr z)) x
  have mk:=aJ9 t es ((aZ prog w).hash (Sum.inr z)) x
  dsimp only
  revert pm ft mk
  cases layNew t es ((aZ prog w).hash (Sum.inr z)) x with
  |mk es1 z1 =>
  cases z1 with
  |mk t1 z2 =>
  cases z2 with
  |mk wd gv =>
  intro pm ft mk
  dsimp only at pm ft mk ⊢
  rw[Array.toList_push] at pm
  have el1:ElemsOf (aZ prog w) es1.toList:=(x4.push hx sx).perm pm
  have mm:=mem_push_iff (knd:=aZ prog w) hx x5 pm
  have l1:es1.size=n+1:=by
   have e:=pm.length_eq
   rw[ah,ef,ef,x8] at e
   exact e
  have b1:es1.size<scanBound:=by rw[l1];exact room
  have fin:∀h',Heap.SameBut a s.heap h'->gH prog w h' a (fun j=>S j || decide (j=Sum.inr z)) es1.size led->Q true { s with heap:=h' }:=fun h' b F'=>by
   have q:=k h' b
   rw[away] at q
   rw[l1] at F'
   exact q F'
  refine aa (gw _ _ _ ?_)
  cases pl:t1.plain with
  |true =>
   rw[bb rfl]
   refine aa ?_
   rw[hashByValue_scannable 8 sx,px]
   refine ak ?_
   refine vR (S:=fun j=>S j || decide (j=Sum.inr z)) (led:=led) (t2:={ t1 with plain:=false }) gw x1 x2 x3 el1 mm b1 (SetTable.fits_plain_off ft) (mk.1.trans x9) rfl fun h' b F'=>?_
   exact ak (fin h' b F')
  |false =>
   rw[au (by decide)]
   refine aa (ak ?_)
   refine vR (S:=fun j=>S j || decide (j=Sum.inr z)) (led:=led) (t2:=t1) gw x1 x2 x3 el1 mm b1 ft (mk.1.trans x9) pl fun h' b F'=>?_
   exact ak (fin h' b F')
end
def bB2 (hl:us.length=vs.length)(h:∀(j:Nat) (u),us[j]?=some u->∃v,vs[j]?=some v/\bL v u):bM vs us:=by
 induction vs generalizing us with
 |nil=>cases us with
  |nil=>exact .nil
  |cons _ _=>simp at hl
 |cons v vs ih=>cases us with
  |nil=>simp at hl
  |cons u us =>
   obtain⟨v',e,r⟩:=h 0 u rfl
   cases e
   exact .cons r (ih (by simpa using hl) fun j w e=>h (j+1) w (by simpa using e))
abbrev byT(w:World):Bool:=w.params.followText "set-order"
section
variable {prog:Program}{w:World}{A:Around}{E:Value->Shared->Prop}{s:Shared}
end
section
variable {prog:Program}{w:World}{A:Around}{E:Value->Shared->Prop}{s:Shared}{a:Addr}{o:Obj}{es:Array (Int×Value)}{ep:Nat}{t:SetTable}
end
section
variable {prog:Program}{w:World}{A:Around}{E:Value->Shared->Prop}{s:Shared}{a it tp:Addr}{o:Obj}{es:Array (Int×Value)}{ep:Nat}{t:SetTable}
def aD0 (hh:A.handled=none)(k:∀e g,(∀c o,s.heap.get? c=some o->g.get? c=some o)->(∃oe,g.get? e=some oe/\oe.cls= .type "StopIteration")->E (.ref e) { s with heap:=g }):
  wpAny (model prog w) A (newExc (.type "StopIteration") []>>=fun e=>raiseNew (α:=α) e) R E s:=by
 refine aa ?_
 simp only[newExc,newTuple]
 refine aa (fe (aa (m:=firstArgMember _ _) (zh (a:=Value.none) (by first|rfl|(simp only[firstArgMember];rfl)) (fe ?_ (by size_fits)))) (by size_fits))
 unfold raiseNew
 refine aa (wpAny_handled ?_)
 rw[hh]
 refine aa (ak (wpAny_throw (k _ _ (fun c o e=>af _ (af _ e)) ⟨_,bc _ rfl,rfl⟩)))
end
def nH:entryFor table "dict_keyiterator.__next__"=some Builtin.«dict_keyiterator.__next__» :=vb (by kernel_rfl)
def vV:entryFor table "dict.__iter__"=some Builtin.«dict.__iter__» :=vb (by kernel_rfl)
section
variable {prog:Program}{w:World}{A:Around}{E:Value->Shared->Prop}{s:Shared}{d it:Addr}{o:Obj}{es:Array DictEntry}{ep i:Nat}
def aX5 (hit:s.heap.IsKeyIter it d i es.size ep)(h1:s.heap.get? d=some o)(h3:o.data= .dict es ep)(he:es[i]?=some e)(hQ:∀h',h'.IsKeyIter it d (i+1) es.size ep->Heap.SameBut it s.heap h'->Q (some e.key) { s with heap:=h' }):wpAny (model prog w) A (pyNext (.ref it)) Q E s:=by
 obtain⟨oi,ho,hc,hd⟩:=id hit
 unfold pyNext
 refine aa (mz (ia (name:=Str.ofString "__next__") hit.typeIs jr (ip jr hit.typeIs nH ?_ (qw _))))
 refine(show wpAny _ _ (Builtin.Dict_items.slot0 "__next__" ⟨[.ref it],[]⟩>>=_) _ _ _ from aa ?_)
 unfold Builtin.Dict_items.slot0 slotArgs
 simp only[List.isEmpty_nil,Bool.not_true,Bool.false_eq_true,if_false,bind_assoc,List.length_nil,bne_self_eq_false]
 refine aa (ak (ak (aa ?_)))
 refine(show wpAny _ _ ((typeNameOfWhole (.ref it)>>=fun _=>_)>>=fun _=>_) _ _ _ from aa (aa (jq hit.typeIs (ak ?_))))
 refine aa (wpAny_fieldsOf ho hd ?_)
 dsimp only
 refine(show wpAny _ _ (dictEntries d>>=fun _=>_) _ _ _ from aa (uc h1 h3 ?_))
 rw[au (by simp)]
 refine(show wpAny _ _ (dictEpoch d>>=fun _=>_) _ _ _ from aa (vt h1 h3 ?_))
 rw[au (by simp)]
 refine ak ?_
 refine(show wpAny _ _ (match if (i:Int)<0 then none else es[(i:Int).toNat]? with|some e=>_|none=>_) _ _ _ from ?_)
 rw[au (by lia),jc,he]
 dsimp only
 refine(show wpAny _ _ ((typeNameOfWhole (.ref it)>>=fun _=>_)>>=fun _=>_) _ _ _ from aa (aa (jq hit.typeIs (ak ?_))))
 refine aa (wp hit.typeIs ?_)
 refine aa (me ho hd (by show(1:Nat)<4;decide) ?_)
 have hit':(s.heap.update it (Obj.mapFields (·.setIfInBounds 1 (rawInt ((i:Int)+1))))).IsKeyIter it d (i+1) es.size ep:=
  ⟨_,ik _ ho (jw (gy hd _)),(tu ..).trans hc,by rw[gy hd];simp[rawInt]⟩
 refine aa (dz ?_)
 refine(show wpAny _ _ (Builtin.Dict_items.isOneOf (.ref it) _>>=fun _=>_) _ _ _ from aa (wp (s:={ s with heap:=s.heap.update it (Obj.mapFields (·.setIfInBounds 1 (rawInt ((i:Int)+1)))) }) hit'.typeIs ?_))
 refine(show wpAny _ _ (pure e.key) _ _ _ from ak ?_)
 exact ak ⟨_,rfl,ak (hQ _ hit' (kx ..))⟩
def bJ4 (hh:A.handled=none)(hit:s.heap.IsKeyIter it d i es.size ep)(h1:s.heap.get? d=some o)(h3:o.data= .dict es ep)(he:es[i]?=none)(hQ:∀h',(∀c u,c≠it->s.heap.get? c=some u->h'.get? c=some u)->Q none { s with heap:=h' }):wpAny (model prog w) A (pyNext (.ref it)) Q E s:=by
 obtain⟨oi,ho,hc,hd⟩:=id hit
 unfold pyNext
 refine aa (mz (ia (name:=Str.ofString "__next__") hit.typeIs jr (ip jr hit.typeIs nH ?_ (qw _))))
 refine(show wpAny _ _ (Builtin.Dict_items.slot0 "__next__" ⟨[.ref it],[]⟩>>=_) _ _ _ from aa ?_)
 unfold Builtin.Dict_items.slot0 slotArgs
 simp only[List.isEmpty_nil,Bool.not_true,Bool.false_eq_true,if_false,bind_assoc,List.length_nil,bne_self_eq_false]
 refine aa (ak (ak (aa ?_)))
 refine(show wpAny _ _ ((typeNameOfWhole (.ref it)>>=fun _=>_)>>=fun _=>_) _ _ _ from aa (aa (jq hit.typeIs (ak ?_))))
 refine aa (wpAny_fieldsOf ho hd ?_)
 dsimp only
 refine(show wpAny _ _ (dictEntries d>>=fun _=>_) _ _ _ from aa (uc h1 h3 ?_))
 rw[au (by simp)]
 refine(show wpAny _ _ (dictEpoch d>>=fun _=>_) _ _ _ from aa (vt h1 h3 ?_))
 rw[au (by simp)]
 refine ak ?_
 refine(show wpAny _ _ (match if (i:Int)<0 then none else es[(i:Int).toNat]? with|some e=>_|none=>_) _ _ _ from ?_)
 rw[au (by lia),jc,he]
 dsimp only
 refine(show wpAny _ _ ((typeNameOfWhole (.ref it)>>=fun _=>_)>>=fun _=>_) _ _ _ from aa (aa (jq hit.typeIs (ak ?_))))
 refine aa (me ho hd (by show(0:Nat)<4;decide) ?_)
 refine aD0 (show A.in1.handled=none from hh) fun e g kp ex=>?_
 obtain⟨oe,e1,e2⟩:=ex
 refine aa (uy (T:="StopIteration") (b:=true) ⟨oe,e1,e2⟩ isSubtype_stop ?_)
 exact ak (hQ _ fun c u hc e=>kp c u (by rw[dy _ _ _ _ hc];exact e))
def aV5 (ns:(d==sysModules)=false)(h1:s.heap.get? d=some o)(h2:o.ExactDict)(h3:o.data= .dict es ep)(h:Q (.ref s.heap.objs.size) { s with heap:=s.heap.push { cls:= .type "dict_keyiterator",data:= .fields #[.ref d,.int 0 0,.int (es.size:Nat) 0,.int (ep) 0] } }):wpAny (model prog w) A (pyIter (.ref d)) Q E s:=by
 have hT:s.TypeIs (.ref d) "dict":=⟨o,h1,h2.1⟩
 refine wpAny_pyIter_slot hT zp (ip zp hT vV ?_ (F.args_dict_iter_1 _))
 unfold Builtin.«dict.__iter__» Builtin.Dict.dictSlotNone
 simp only[bind_assoc]
 refine aa (wo hT ?_)
 unfold slotArgs
 simp only[List.isEmpty_nil,Bool.not_true,Bool.false_eq_true,if_false,bind_assoc,List.length_nil,bne_self_eq_false]
 refine aa (ak (aa (ak ?_)))
 refine(show wpAny _ _ (pure d>>=fun _=>_) _ _ _ from aa (ak ?_))
 unfold Builtin.Dict.showsAll
 rw[ns,au (by decide)]
 refine aa (ak ?_)
 refine aa (uc h1 h3 ?_)
 refine aa (vt h1 h3 ?_)
 refine aa ?_
 unfold newFields
 refine fe (ak ⟨_,rfl,"dict_keyiterator",_,⟨_,bc _ rfl,rfl⟩,F.slot_dict_keyiterator_next.lookup,h⟩)
end
section
variable {prog:Program}{w:World}{A:Around}{E:Value->Shared->Prop}{s:Shared}
end
section
variable {X:Cx}
end
open PySem PySem.Spec PyProof.Rows PySem.MeetsSeq
section
variable {prog:Program}{w:World}{A:Around}{E:Value->Shared->Prop}{s:Shared}
end
def lt2 (a b:Int×Int):Bool:=decide (a.1<b.1) || (decide (a.1=b.1)&&decide (a.2<b.2))
section
variable {prog:Program}{w:World}{A:Around}{E:Value->Shared->Prop}{s:Shared}
end
section
variable {prog:Program}{w:World}{A:Around}{R:Result->Shared->Prop}{I:Addr}{fp wr:List Addr}{n:Nat}{P:Nat->Value->Prop}{St:Nat->Heap->Prop}{B:Heap}
end
open PySem
def mZ (h:H l=none)(o):∃H2,aN H l o=H2/\bA H H2/\H2 l=some o:=⟨_,rfl,aB h o,aC⟩
def kL:1<=sizeLine:=by decide
def eW:2<=sizeLine:=by decide
end L2
namespace Mine
open PySem L2
def gI (a b:Int):Int:=(Nat.gcd a.toNat b.toNat:Nat)
def sJ (a b:Int):Int:=a / gI a b
def bC4 (a b:Int):Int:=b / gI a b
def bB0 (hb:1<=b):0<gI a b:=by
 have:0<Nat.gcd a.toNat b.toNat:=Nat.gcd_pos_of_pos_right _ (by lia);unfold gI;lia
def bJ9 (ha:0<=a):gI a b ∣ a:=by
 obtain⟨x,rfl⟩:=dv ha;unfold gI;rw[jc];exact vk.mpr (Nat.gcd_dvd_left _ _)
def bD1 (hb:0<=b):gI a b ∣ b:=by
 obtain⟨x,rfl⟩:=dv hb;unfold gI;rw[jc];exact vk.mpr (Nat.gcd_dvd_right _ _)
def aK4 (ha:0<=a)(hb:1<=b):sJ a b*b=a*bC4 a b:=by
 have h1:=xp (bJ9 (b:=b) ha);have h2:=xp (bD1 (a:=a) (b:=b) (by lia));unfold sJ bC4;generalize a / gI a b=x at h1 ⊢;generalize b / gI a b=y at h2 ⊢;rw[<-h1, <-h2];generalize gI (x*gI a b) (y*gI a b)=g
 grind
def aZ5 (hx:0<=x)(hy:0<y):gI y (x % y)=gI x y:=by
 obtain⟨m,rfl⟩:=dv hx;obtain⟨n,rfl⟩:=dv (yg hy);unfold gI;rw[<-Int.natCast_emod,jc,jc,jc,Nat.gcd_comm m n,Nat.gcd_rec n m,Nat.gcd_comm]
def bJ1 (hx:0<=x):gI x 0=x:=by
 unfold gI;simp;lia
def bX7 (hb:1<=b):gI a b<=b:=by
 have:Nat.gcd a.toNat b.toNat<=b.toNat:=Nat.gcd_le_right _ (by lia);unfold gI;lia
def cG6 (a b:Int):List V:=[.int (sJ a b),.int (bC4 a b)]
def bE1 (D:dY H d l)(o:fL d l H H')(h:H p=some (.tup xs)):H' p=some (.tup xs):=by
 obtain⟨sd,n,ls,D⟩:=D;exact o _ _ h (gX h D.dc (by intro z;cases z)) (gX h D.lc (by intro z;cases z))
inductive spLow(vs:List V)(H:Hp)(Q:VK)(z1:XK):Prop
 |mk:∀a b:Int,vs=[.int a,.int b]->0<=a->1<=b->b<2^200*2^200->(∀p,H p=none->Q (.ref p) (aN H p (.tup (cG6 a b))))->spLow vs H Q z1
def fM {α:Type}(R:V->α->Prop):List V->List α->Prop
 |[],[]=>True
 |v::vs,a::as=>R v a/\fM R vs as
 |_,_=>False
def fM.mono {R R'}(h:∀v a,R v a->R' v a):∀{vs}{as:List α},fM R vs as->fM R' vs as
 |[],[],_=>trivial
 |_::_,_::_,⟨e,r⟩=>⟨h _ _ e,fM.mono h r⟩
 |[],_::_,z=>z.elim
 |_::_,[],z=>z.elim
def fM.append:∀{vs ws as bs},fM R vs as->fM R ws bs->fM R (vs++ws) (as++bs)
 |[],_,[],_,_,r=>r
 |_::_,_,_::_,_,⟨e,r⟩,r2=>⟨e,fM.append r r2⟩
 |[],_,_::_,_,z,_=>z.elim
 |_::_,_,[],_,z,_=>z.elim
def fM.length:∀{vs as},fM R vs as->vs.length=as.length
 |[],[],_=>rfl
 |_::_,_::_,⟨_,r⟩=>by simp[fM.length r]
 |[],_::_,z=>z.elim
 |_::_,[],z=>z.elim
def TS (H H':Hp):Prop:=∀a xs,H a=some (.tup xs)->H' a=some (.tup xs)
def TS.of (s:bA H H'):TS H H':=fun _ _ e=>s _ _ e
def TS.trans (a:TS H H1)(b:TS H1 H2):TS H H2:=fun c o h=>b c o (a c o h)
def TS.lst (h:H l=some (.lst xs)):TS H (aN H l (.lst ys)):=fun a o e=>by
 rw[aH (gX e h (by intro z;cases z))];exact e
def TS.out (D:dY H d l)(o:fL d l H H'):TS H H':=fun p xs h=>bE1 D o h
def cH (s:bA H H1)(h:H l=none):bA H (aN H1 l (.lst ys)):=fun b o e=>by
 rw[aH (aK e h)];exact s b o e
def bE {α:Type}{l:List α}{x}(h:l[i]?=some x):l.take (i+1)=l.take i++[x]:=by
 rw[rh,h];rfl
def bN5 {z:Str}(h0:0<=r)(h1:r<(z.length:Int)):∃c,nE z.cps.toList r=some c:=by
 have hk:r.toNat<z.cps.toList.length:=by
  rw[ef];exact(Int.toNat_lt h0).mpr h1
 have e2:((r.toNat:Nat):Int)=r:=nt h0;have q:nE z.cps.toList ((r.toNat:Nat):Int)=some z.cps.toList[r.toNat]:=aE6 (bo hk);rw[e2] at q;exact⟨_,q⟩
def yT:∀{zs:List Str},(∀z∈zs,z.length=1)->(zs.map (·.length)).sum=zs.length
 |[],_=>rfl
 |z::r,h=>by
  have h1:=h z ao;have h2:=yT fun y hy=>h y (aq z hy)
  simp only[List.map_cons,List.sum_cons,List.length_cons,h1,h2];lia
def rO (sep:Str):∀(ys:List Str) (a),(ys.foldl (fun acc p=>acc++sep.cps++p.cps) a).size=a.size+(ys.map (·.length)).sum+ys.length*sep.length
 |[],a=>by simp
 |y::r,a=>by
  rw[jk,rO sep r];simp only[Array.size_append,List.map_cons,List.sum_cons,List.length_cons,Nat.add_mul,Nat.one_mul];have e1:sep.cps.size=sep.length:=rfl;have e2:y.cps.size=y.length:=rfl;lia
def aZ1 (sep)(ys):(Txt.join sep ys).length<=(ys.map (·.length)).sum+ys.length*sep.length:=by
 cases ys with
 |nil=>exact bu _
 |cons y r =>
  show(List.foldl (fun acc p=>acc++sep.cps++p.cps) y.cps r).size<=_;rw[rO];simp only[List.map_cons,List.sum_cons,List.length_cons,Nat.add_mul,Nat.one_mul];have e2:y.cps.size=y.length:=rfl;lia
def fV:List Str:=["kinds","ladder","flat","choose","first","let","tell","when","else","times","end","of"]
def pG:∀xs:List Str,(xs.map V.str).all mP=true
 |[]=>rfl
 |_::r=>pG r
structure nG(H:Hp)(d l ls:Addr)(ts:List V):Prop where
 deal:dY H d l
 ne:ls≠l
 lst:H ls=some (.lst ts)
def nG.new (D:dY H d l)(h:H ls=none):nG (aN H ls (.lst [])) d l ls []:=by
 obtain⟨sd,n,l',q⟩:=id D;exact⟨D.same (aB h _),(aK q.lc h).symm,aC⟩
def nG.app (S:nG H d l ls ts)(us):nG (aN H ls (.lst us)) d l ls us:=by
 refine⟨?_,S.ne,aC⟩;obtain⟨sd,n,l',q⟩:=S.deal;exact⟨sd,n,l',⟨by rw[aH (gX q.dc S.lst (by intro z;cases z))];exact q.dc,by rw[aH S.ne.symm];exact q.lc,q.s0,q.s1,q.n0,q.l0⟩⟩
inductive Tm where
 |num (p:Addr) (n:Int)
 |nam (p:Addr) (x:Str)
 |op (p:Addr) (s:Str) (a b:Tm)
def Tm.p:Tm->Addr
 |.num p _=>p
 |.nam p _=>p
 |.op p _ _ _=>p
def Tm.names:Tm->List Str
 |.num _ _=>[]
 |.nam _ x=>[x]
 |.op _ _ a b=>a.names++b.names
def Tm.size:Tm->Nat
 |.op _ _ a b=>1+a.size+b.size
 |_=>1
def cA6:List Str:=["+","-","*","<","="]
def Tm.ok:Tm->Prop
 |.num _ n=>0<=n/\n<1000
 |.nam _ _=>True
 |.op _ s a b=>s∈cA6/\a.ok/\b.ok
def Tm.fine (t:Tm):Prop:=t.ok/\t.size<=100
def mE (H:Hp):Tm->Prop
 |.num p n=>H p=some (.tup [.str "num",.int n])
 |.nam p x=>H p=some (.tup [.str "name",.str x])
 |.op p s a b=>H p=some (.tup [.str "op",.str s,.ref a.p,.ref b.p])/\mE H a/\mE H b
def mE.ts (t:TS H H'):∀{a},mE H a->mE H' a
 |.num _ _,h=>t _ _ h
 |.nam _ _,h=>t _ _ h
 |.op _ _ _ _,⟨h,ha,hb⟩=>⟨t _ _ h,mE.ts t ha,mE.ts t hb⟩
def Tm.w:Tm->Str
 |.num _ _=>"num"
 |.nam _ _=>"name"
 |.op _ _ _ _=>"op"
def Tm.rest:Tm->List V
 |.num _ n=>[.int n]
 |.nam _ x=>[.str x]
 |.op _ s a b=>[.str s,.ref a.p,.ref b.p]
def mE.at:∀{t},mE H t->H t.p=some (.tup (.str t.w::t.rest))
 |.num _ _,h=>h
 |.nam _ _,h=>h
 |.op _ _ _ _,h=>h.1
def Tm.size_pos:∀t:Tm,1<=t.size
 |.num _ _=>aj _
 |.nam _ _=>aj _
 |.op _ _ _ _=>by unfold Tm.size;lia
def Tm.pre:Tm->List Tm
 |.num p n=>[.num p n]
 |.nam p x=>[.nam p x]
 |.op p s a b=> .op p s a b::(a.pre++b.pre)
def Tm.pre_len:∀t:Tm,t.pre.length=t.size
 |.num _ _=>rfl
 |.nam _ _=>rfl
 |.op _ _ a b=>by simp only[Tm.pre,Tm.size,List.length_cons,List.length_append,Tm.pre_len a,Tm.pre_len b];lia
def mE.pre:∀{t},mE H t->∀u∈t.pre,mE H u
 |.num _ _,h,u,hu=>by rw[cp.mp hu];exact h
 |.nam _ _,h,u,hu=>by rw[cp.mp hu];exact h
 |.op _ _ _ _,h,u,hu=>by
  rcases bv.mp hu with e|e
  ·rw[e];exact h
  ·rcases bq.mp e with e|e
   ·exact mE.pre h.2.1 u e
   ·exact mE.pre h.2.2 u e
inductive Rw where
 |thr (p:Addr) (w x:Str) (vs:List V) (am:Bool)
 |lt (p:Addr) (x:Str) (t:Tm)
 |tell (p:Addr) (t:Tm)
 |when (p pa pb:Addr) (t:Tm) (a b:List Rw)
 |times (p pb:Addr) (n:Int) (b:List Rw)
def Rw.p:Rw->Addr
 |.thr p _ _ _ am=>p
 |.lt p _ _=>p
 |.tell p _=>p
 |.when p _ _ _ _ _=>p
 |.times p _ _ _=>p
def cX:List Str:=["ladder","flat","choose","first"]
def Sm (H:Hp)(v:V):Prop:=∃p us,v= .ref p/\H p=some (.tup us)/\us.length<=100
def Sms (H:Hp)(v:V):Prop:=∃p us,v= .ref p/\H p=some (.tup us)/\us.length<=100/\∀u∈us,Sm H u
def Sm.ts (t:TS H H')(h:Sm H v):Sm H' v:=by
 obtain⟨p,us,e,h,l⟩:=h;exact⟨p,us,e,t _ _ h,l⟩
def Sms.ts (t:TS H H')(h:Sms H v):Sms H' v:=by
 obtain⟨p,us,e,h,l,k⟩:=h;exact⟨p,us,e,t _ _ h,l,fun u hu=>(k u hu).ts t⟩
def kQ (H:Hp)(w:Str)(vs:List V)(am:Bool):Prop:=
 (w∈(["ladder","flat"]:List Str)/\∃a b lo hi,vs=[a,b,.int lo,.int hi]/\Sm H a/\am=decide (hi<lo)) \/
 (w="choose"/\∃a b lo hi,vs=[a,b,.int lo,.int hi]/\Sms H a/\am=decide (hi<lo)) \/
 (w="first"/\∃mark a q c lo hi x y,vs=[.int mark,a,.ref q,c,.int lo,.int hi]/\H q=some (.tup [.int x,.int y])/\Sms H c/\0<=x/\x<=100/\am=decide (hi<=lo\/¬(lo<=mark/\mark<=hi)\/y<2*x))
def kQ.ts (t:TS H H')(h:kQ H w vs am):kQ H' w vs am:=by
 rcases h with⟨e,a,b,lo,hi,h1,h2,h3⟩|⟨e,a,b,lo,hi,h1,h2,h3⟩|⟨e,mark,a,q,c,lo,hi,x,y,h1,h2,h3,h4⟩
 ·exact .inl ⟨e,a,b,lo,hi,h1,h2.ts t,h3⟩
 ·exact .inr (.inl ⟨e,a,b,lo,hi,h1,h2.ts t,h3⟩)
 ·exact .inr (.inr ⟨e,mark,a,q,c,lo,hi,x,y,h1,t _ _ h2,h3.ts t,h4⟩)
def kQ.w {w}(h:kQ H w vs am):w∈cX:=by
 rcases h with⟨h,_⟩|⟨h,_⟩|⟨h,_⟩
 ·simp only[List.mem_cons,List.not_mem_nil,or_false] at h;rcases h with h|h<;>simp[cX,h]
 ·simp[cX,h]
 ·simp[cX,h]
mutual
def eB(H:Hp):Rw->Prop
 |.thr p w x vs am=>H p=some (.tup (.str w :: .str x::vs))/\kQ H w vs am
 |.lt p x t=>H p=some (.tup [.str "let",.str x,.ref t.p])/\mE H t/\t.fine
 |.tell p t=>H p=some (.tup [.str "tell",.ref t.p])/\mE H t/\t.fine
 |.when p pa pb t a b=>H p=some (.tup [.str "when",.ref t.p,.ref pa,.ref pb])/\mE H t/\t.fine/\H pa=some (.tup (a.map fun r=>V.ref r.p))/\H pb=some (.tup (b.map fun r=>V.ref r.p))/\aW H a/\aW H b
 |.times p pb n b=>H p=some (.tup [.str "times",.int n,.ref pb])/\H pb=some (.tup (b.map fun r=>V.ref r.p))/\aW H b
def aW(H:Hp):List Rw->Prop
 |[]=>True
 |r::rs=>eB H r/\aW H rs
end
mutual
def eB.ts{H H':Hp}(t:TS H H'):∀(r:Rw),eB H r->eB H' r
 |.thr _ _ _ _ _,⟨h,k⟩=>⟨t _ _ h,k.ts t⟩
 |.lt _ _ _,⟨h,h2,h3⟩=>⟨t _ _ h,h2.ts t,h3⟩
 |.tell _ _,⟨h,h2,h3⟩=>⟨t _ _ h,h2.ts t,h3⟩
 |.when _ _ _ _ a b,⟨h,h2,h3,h4,h5,h6,h7⟩=>⟨t _ _ h,h2.ts t,h3,t _ _ h4,t _ _ h5,aW.ts t a h6,aW.ts t b h7⟩
 |.times _ _ _ b,⟨h,h2,h3⟩=>⟨t _ _ h,t _ _ h2,aW.ts t b h3⟩
def aW.ts{H H':Hp}(t:TS H H'):∀(rs:List Rw),aW H rs->aW H' rs
 |[],_=>trivial
 |r::rs,⟨h,k⟩=>⟨eB.ts t r h,aW.ts t rs k⟩
end
def aW.app:∀{rs qs},aW H rs->aW H qs->aW H (rs++qs)
 |[],_,_,h=>h
 |_::_,_,⟨h,k⟩,h2=>⟨h,aW.app k h2⟩
def aW.mem:∀{rs},aW H rs->∀r∈rs,eB H r
 |[],_,_,h=>absurd h dq
 |r::rs,⟨h,k⟩,x,hx=>by
  rcases bv.mp hx with e|e
  ·rw[e];exact h
  ·exact aW.mem k x e
def Rw.w:Rw->Str
 |.thr _ w _ _ am=>w
 |.lt _ _ _=>"let"
 |.tell _ _=>"tell"
 |.when _ _ _ _ _ _=>"when"
 |.times _ _ _ _=>"times"
def Rw.rest:Rw->List V
 |.thr _ _ x vs am=> .str x::vs
 |.lt _ x t=>[.str x,.ref t.p]
 |.tell _ t=>[.ref t.p]
 |.when _ pa pb t _ _=>[.ref t.p,.ref pa,.ref pb]
 |.times _ pb n _=>[.int n,.ref pb]
def eB.at:∀{r},eB H r->H r.p=some (.tup (.str r.w::r.rest))
 |.thr _ _ _ _ _,h=>h.1
 |.lt _ _ _,h=>h.1
 |.tell _ _,h=>h.1
 |.when _ _ _ _ _ _,h=>h.1
 |.times _ _ _ _,h=>h.1
mutual
def Rw.cnt:Rw->Nat
 |.when _ _ _ _ a b=>1+(bP a+bP b)
 |.times _ _ _ b=>1+bP b
 |.thr _ _ _ _ _=>1
 |.lt _ _ _=>1
 |.tell _ _=>1
def bP:List Rw->Nat
 |[]=>0
 |r::rs=>r.cnt+bP rs
end
def jO:∀rs qs,bP (rs++qs)=bP rs+bP qs
 |[],qs=>by simp[bP]
 |r::rs,qs=>by simp only[List.cons_append,bP,jO rs qs];lia
def Rw.cnt_pos:∀r:Rw,1<=r.cnt
 |.thr _ _ _ _ _=>aj _
 |.lt _ _ _=>aj _
 |.tell _ _=>aj _
 |.when _ _ _ _ _ _=>by unfold Rw.cnt;lia
 |.times _ _ _ _=>by unfold Rw.cnt;lia
def gE:∀rs:List Rw,rs.length<=bP rs
 |[]=>bu _
 |r::rs=>by have:=gE rs;have:=r.cnt_pos;simp only[List.length_cons,bP];lia
def Rw.kids:Rw->List Rw
 |.when _ _ _ _ a b=>a++b
 |.times _ _ _ b=>b
 |.thr _ _ _ _ _=>[]
 |.lt _ _ _=>[]
 |.tell _ _=>[]
def aQ3:∀r:Rw,r.cnt=1+bP r.kids
 |.when _ _ _ _ a b=>by simp only[Rw.cnt,Rw.kids,jO]
 |.times _ _ _ b=>by simp only[Rw.cnt,Rw.kids]
 |.thr _ _ _ _ _=>by simp only[Rw.cnt,Rw.kids,bP]
 |.lt _ _ _=>by simp only[Rw.cnt,Rw.kids,bP]
 |.tell _ _=>by simp only[Rw.cnt,Rw.kids,bP]
def eB.kids:∀{r},eB H r->aW H r.kids
 |.when _ _ _ _ _ _,h=>aW.app h.2.2.2.2.2.1 h.2.2.2.2.2.2
 |.times _ _ _ _,h=>h.2.2
 |.thr _ _ _ _ _,_=>trivial
 |.lt _ _ _,_=>trivial
 |.tell _ _,_=>trivial
abbrev Stp:=Str×Rw×Nat
mutual
def cI(k:Nat):Rw->List Stp
 |.when p pa pb t a b=>(("row": Str),Rw.when p pa pb t a b,k)::(bY (k+1) a++[(("else": Str),Rw.when p pa pb t a b,k)]++bY (k+1+bP a) b++[(("end": Str),Rw.when p pa pb t a b,k)])
 |.times p pb n b=>(("row": Str),Rw.times p pb n b,k)::(bY (k+1) b++[(("end": Str),Rw.times p pb n b,k)])
 |.thr p w x vs am=>[(("row": Str),.thr p w x vs am,k)]
 |.lt p x t=>[(("row": Str),.lt p x t,k)]
 |.tell p t=>[(("row": Str),.tell p t,k)]
def bY(k:Nat):List Rw->List Stp
 |[]=>[]
 |r::rs=>cI k r++bY (k+r.cnt) rs
end
def wG:¬(("else": Str)="row"):=by decide
def iP:¬(("end": Str)="row"):=by decide
mutual
def aS6:∀(r:Rw) (k:Nat),(cI k r).length<=3*r.cnt
 |.when _ _ _ _ a b,k=>by have:=dX a (k+1);have:=dX b (k+1+bP a);simp only[cI,Rw.cnt,List.length_cons,List.length_append,List.length_nil];lia
 |.times _ _ _ b,k=>by have:=dX b (k+1);simp only[cI,Rw.cnt,List.length_cons,List.length_append,List.length_nil];lia
 |.thr _ _ _ _ _,_=>by simp only[cI,Rw.cnt,List.length_cons,List.length_nil];lia
 |.lt _ _ _,_=>by simp only[cI,Rw.cnt,List.length_cons,List.length_nil];lia
 |.tell _ _,_=>by simp only[cI,Rw.cnt,List.length_cons,List.length_nil];lia
def dX:∀(rs:List Rw) (k:Nat),(bY k rs).length<=3*bP rs
 |[],_=>aj _
 |r::rs,k=>by have:=aS6 r k;have:=dX rs (k+r.cnt);simp only[bY,bP,List.length_append];lia
end
abbrev Ft:=Int×Int
mutual
def tel:Rw->Int
 |.thr _ _ _ _ _=>0
 |.lt _ _ _=>0
 |.tell _ _=>1
 |.when _ _ _ _ a _=>eS a
 |.times _ _ n b=>n*eS b
def eS:List Rw->Int
 |[]=>0
 |r::rs=>tel r+eS rs
end
mutual
def lk(kn:List Str):Rw->List Str
 |.thr _ _ x _ _=>kn++[x]
 |.lt _ x _=>kn++[x]
 |.tell _ _=>kn
 |.when _ _ _ _ a b=>(lkL kn b).filter fun x=>decide (x∈lkL kn a)
 |.times _ _ _ b=>lkL kn b
def lkL(kn:List Str):List Rw->List Str
 |[]=>kn
 |r::rs=>lkL (lk kn r) rs
end
def tT (k:Nat)(kn ns:List Str):List Ft:=if ∀y∈ns,y∈kn then [] else [((k:Int),1)]
def wB (k:Nat)(am:Bool):List Ft:=if am then [((k:Int),0)] else []
def tls (k:Nat)(a b:List Rw):List Ft:=if eS a=eS b then [] else [((k:Int),2)]
mutual
def lf(k:Nat)(kn:List Str):Rw->List Ft
 |.thr _ _ _ _ am=>wB k am
 |.lt _ _ t=>tT k kn t.names
 |.tell _ t=>tT k kn t.names
 |.when _ _ _ t a b=>tT k kn t.names++(tls k a b++(xS (k+1) kn a++xS (k+1+bP a) kn b))
 |.times _ _ _ b=>xS (k+1) kn b
def xS(k:Nat)(kn:List Str):List Rw->List Ft
 |[]=>[]
 |r::rs=>lf k kn r++xS (k+r.cnt) (lk kn r) rs
end
mutual
def rf(k:Nat):Rw->List Ft
 |.thr _ _ _ _ am=>wB k am
 |.lt _ _ _=>[]
 |.tell _ _=>[]
 |.when _ _ _ _ a b=>rfL (k+1) a++rfL (k+1+bP a) b
 |.times _ _ _ b=>rfL (k+1) b
def rfL(k:Nat):List Rw->List Ft
 |[]=>[]
 |r::rs=>rf k r++rfL (k+r.cnt) rs
end
mutual
def uf(k:Nat)(kn:List Str):Rw->List Ft
 |.thr _ _ _ _ _=>[]
 |.lt _ _ t=>tT k kn t.names
 |.tell _ t=>tT k kn t.names
 |.when _ _ _ t a b=>tT k kn t.names++(ufL (k+1) kn a++ufL (k+1+bP a) kn b)
 |.times _ _ _ b=>ufL (k+1) kn b
def ufL(k:Nat)(kn:List Str):List Rw->List Ft
 |[]=>[]
 |r::rs=>uf k kn r++ufL (k+r.cnt) (lk kn r) rs
end
mutual
def tf(k:Nat):Rw->List Ft
 |.thr _ _ _ _ _=>[]
 |.lt _ _ _=>[]
 |.tell _ _=>[]
 |.when _ _ _ _ a b=>tfL (k+1) a++(tfL (k+1+bP a) b++tls k a b)
 |.times _ _ _ b=>tfL (k+1) b
def tfL(k:Nat):List Rw->List Ft
 |[]=>[]
 |r::rs=>tf k r++tfL (k+r.cnt) rs
end
mutual
def bP7:∀(r:Rw) (k:Nat) (kn:List Str) (m:Ft),(lf k kn r).count m=(rf k r).count m+(uf k kn r).count m+(tf k r).count m
 |.thr _ _ _ _ am,k,kn,m=>by simp only[lf,rf,uf,tf,List.count_nil];lia
 |.lt _ _ t,k,kn,m=>by simp only[lf,rf,uf,tf,List.count_nil];lia
 |.tell _ t,k,kn,m=>by simp only[lf,rf,uf,tf,List.count_nil];lia
 |.when _ _ _ t a b,k,kn,m=>by
  have h1:=pZ a (k+1) kn m;have h2:=pZ b (k+1+bP a) kn m;simp only[lf,rf,uf,tf,List.count_append];lia
 |.times _ _ _ b,k,kn,m=>by
  simp only[lf,rf,uf,tf];exact pZ b (k+1) kn m
def pZ:∀(rs:List Rw) (k:Nat) (kn:List Str) (m:Ft),(xS k kn rs).count m=(rfL k rs).count m+(ufL k kn rs).count m+(tfL k rs).count m
 |[],k,kn,m=>by simp only[xS,rfL,ufL,tfL,List.count_nil]
 |r::rs,k,kn,m=>by
  have h1:=bP7 r k kn m;have h2:=pZ rs (k+r.cnt) (lk kn r) m;simp only[xS,rfL,ufL,tfL,List.count_append];lia
end
def qE (h:m∈tT k kn ns):m=((k:Int),1):=by
 unfold tT at h
 split at h
 ·cases h
 ·exact cp.mp h
def bG7 (h:m∈wB k am):m=((k:Int),0):=by
 unfold wB at h
 split at h
 ·exact cp.mp h
 ·cases h
def vU (h:m∈tls k a b):m=((k:Int),2):=by
 unfold tls at h
 split at h
 ·cases h
 ·exact cp.mp h
mutual
def bL2:∀(r:Rw) (k:Nat) (kn:List Str) (m:Ft),m∈lf k kn r->(k:Int)<=m.1/\m.1<((k+r.cnt:Nat):Int)
 |.thr _ _ _ _ am,k,kn,m,h=>by rw[bG7 (show m∈wB k am by simpa only[lf] using h)];simp only[Rw.cnt];lia
 |.lt _ _ t,k,kn,m,h=>by rw[qE (show m∈tT k kn t.names by simpa only[lf] using h)];simp only[Rw.cnt];lia
 |.tell _ t,k,kn,m,h=>by rw[qE (show m∈tT k kn t.names by simpa only[lf] using h)];simp only[Rw.cnt];lia
 |.when _ _ _ t a b,k,kn,m,h=>by
  simp only[lf,List.mem_append] at h;simp only[Rw.cnt];rcases h with h|h|h|h
  ·rw[qE h];simp only;lia
  ·rw[vU h];simp only;lia
  ·have:=kD a _ _ _ h;lia
  ·have:=kD b _ _ _ h;lia
 |.times _ _ _ b,k,kn,m,h=>by
  simp only[lf] at h;have:=kD b _ _ _ h;simp only[Rw.cnt];lia
def kD:∀(rs:List Rw) (k:Nat) (kn:List Str) (m:Ft),m∈xS k kn rs->(k:Int)<=m.1/\m.1<((k+bP rs:Nat):Int)
 |[],k,kn,m,h=>by simp only[xS] at h;cases h
 |r::rs,k,kn,m,h=>by
  simp only[xS,List.mem_append] at h;simp only[bP];rcases h with h|h
  ·have:=bL2 r _ _ _ h;lia
  ·have:=kD rs _ _ _ h;lia
end
def Asc (l:List Ft):Prop:=l.Pairwise fun a b=>lt2 a b=true
def wC (h:Asc l)(k:Asc m)(x:∀a∈l,∀b∈m,a.1<b.1):Asc (l++m):=
 xc.mpr ⟨h,k,fun a ha b hb=>by unfold lt2;simp[x a ha b hb]⟩
def wP (k)(kn ns):Asc (tT k kn ns):=by
 unfold tT Asc
 split<;>simp
def bF1 (k)(am):Asc (wB k am):=by
 unfold wB Asc
 split<;>simp
def bH6 (k)(a b):Asc (tls k a b):=by
 unfold tls Asc
 split<;>simp
mutual
def bP6:∀(r:Rw) (k:Nat) (kn:List Str),Asc (lf k kn r)
 |.thr _ _ _ _ am,k,kn=>by simp only[lf];exact bF1 k am
 |.lt _ _ t,k,kn=>by simp only[lf];exact wP k kn _
 |.tell _ t,k,kn=>by simp only[lf];exact wP k kn _
 |.when _ _ _ t a b,k,kn=>by
  have h1:=qC a (k+1) kn;have h2:=qC b (k+1+bP a) kn;have h3:Asc (xS (k+1) kn a++xS (k+1+bP a) kn b):=wC h1 h2 fun x hx y hy=>by
   have:=kD a _ _ _ hx;have:=kD b _ _ _ hy;lia
  have h4:∀y∈xS (k+1) kn a++xS (k+1+bP a) kn b,(k:Int)<y.1:=fun y hy=>by
   rcases bq.mp hy with h|h
   ·have:=kD a _ _ _ h;lia
   ·have:=kD b _ _ _ h;lia
  simp only[lf];refine xc.mpr ⟨wP k kn _,wC (bH6 k a b) h3 fun x hx y hy=>by rw[vU hx];exact h4 y hy,fun x hx y hy=>?_⟩;rw[qE hx];rcases bq.mp hy with h|h
  ·rw[vU h];unfold lt2;simp
  ·have:=h4 y h;unfold lt2;simp[this]
 |.times _ _ _ b,k,kn=>by simp only[lf];exact qC b (k+1) kn
def qC:∀(rs:List Rw) (k:Nat) (kn:List Str),Asc (xS k kn rs)
 |[],k,kn=>by simp only[xS];exact tm
 |r::rs,k,kn=>by
  simp only[xS];exact wC (bP6 r k kn) (qC rs _ _) fun x hx y hy=>by
   have:=bL2 r _ _ _ hx;have:=kD rs _ _ _ hy;lia
end
section
variable {α σ:Type}(f:α->σ->Option σ)
def dU:List α->σ->Option σ
 |[],st=>some st
 |a::r,st=>(f a st).bind (dU r)
def cQ:∀l l2 (st),dU f (l++l2) st=(dU f l st).bind (dU f l2)
 |[],_,_=>rfl
 |a::r,l2,st=>by
  show(f a st).bind (dU f (r++l2))=((f a st).bind (dU f r)).bind (dU f l2)
  cases f a st with
  |none=>rfl
  |some s=>exact cQ r l2 s
def vZ (h:dU f l s0=some e)(ha:l[i]?=some a)(hs:dU f (l.take i) s0=some st):∃st',f a st=some st'/\dU f (l.take (i+1)) s0=some st':=by
 obtain⟨hi,rfl⟩:=bf.mp ha;have e1:l=l.take i++(l[i]::l.drop (i+1)):=by rw[List.getElem_cons_drop,jx]
 rw[e1,cQ,hs] at h;have h:(f l[i] st).bind (dU f (l.drop (i+1)))=some e:=h
 cases q:f l[i] st with
 |none=>rw[q] at h;cases h
 |some st' =>
  refine⟨st',rfl,?_⟩;rw[rh,bo hi,cQ,hs];show(f l[i] st).bind (dU f [])=_;rw[q];rfl
end
def Rw.sets:Rw->Option Str
 |.thr _ _ x _ _=>some x
 |.lt _ x _=>some x
 |.tell _ _=>none
 |.when _ _ _ _ _ _=>none
 |.times _ _ _ _=>none
def Rw.asked:Rw->List Str
 |.thr _ _ _ _ _=>[]
 |.lt _ _ t=>t.names
 |.tell _ t=>t.names
 |.when _ _ _ t _ _=>t.names
 |.times _ _ _ _=>[]
def kH:Rw->Bool
 |.when _ _ _ _ _ _=>true
 |.thr _ _ _ _ _=>false
 |.lt _ _ _=>false
 |.tell _ _=>false
 |.times _ _ _ _=>false
abbrev USt:=List Ft×List Str×List (List Str)
def aF7 (st:USt):Option USt:=match st.2.2 with
 |a::r=>some (st.1,a,st.2.1::r)
 |[]=>none
def aP6 (st:USt):Option USt:=match st.2.2 with
 |a::r=>some (st.1,st.2.1.filter (fun x=>decide (x∈a)),r)
 |[]=>none
def uA (r:Rw)(k:Nat)(st:USt):USt:=(st.1++tT k st.2.1 r.asked,st.2.1++r.sets.toList,if kH r then (st.2.1++r.sets.toList)::st.2.2 else st.2.2)
def iK (s:Stp)(st:USt):Option USt:=
 if s.1="row" then some (uA s.2.1 s.2.2 st)
 else if s.1="else" then aF7 st
 else if kH s.2.1 then aP6 st else some st
def aR2:¬(("end": Str)="else"):=by decide
def xO:iK (("row": Str),r,k) st=some (uA r k st):=by unfold iK;rw[bb rfl]
def bN1:iK (("else": Str),r,k) st=aF7 st:=by unfold iK;rw[au wG,bb rfl]
def bK1:iK (("end": Str),r,k) st=if kH r then aP6 st else some st:=by unfold iK;rw[au iP,au aR2]
def oM {st st'}(h:f a st=some st'):dU f (a::l) st=dU f l st':=by
 show(f a st).bind _=_;rw[h];rfl
def aG6 (k)(kn):tT k kn []=[]:=by unfold tT;rw[bb (fun y hy=>absurd hy dq)]
mutual
def cF4:∀(r:Rw) (k:Nat) (F:List Ft) (kn:List Str) (kept:List (List Str)),dU iK (cI k r) (F,kn,kept)=some (F++uf k kn r,lk kn r,kept)
 |.thr p w x vs am,k,F,kn,kept=>by
  simp only[cI];rw[oM xO];simp only[dU,uA,Rw.asked,Rw.sets,kH,uf,lk,aG6,Option.toList];rfl
 |.lt p x t,k,F,kn,kept=>by
  simp only[cI];rw[oM xO];simp only[dU,uA,Rw.asked,Rw.sets,kH,uf,lk,Option.toList];rfl
 |.tell p t,k,F,kn,kept=>by
  simp only[cI];rw[oM xO];simp only[dU,uA,Rw.asked,Rw.sets,kH,uf,lk,Option.toList,List.append_nil];rfl
 |.when p pa pb t a b,k,F,kn,kept=>by
  simp only[cI];rw[oM xO];simp only[uA,Rw.asked,Rw.sets,kH,Option.toList,List.append_nil,if_true];rw[cQ,cQ,cQ,qR a];simp only[Option.bind_some];rw[oM (st':=(F++tT k kn t.names++ufL (k+1) kn a,kn,lkL kn a::kept)) bN1];simp only[dU,Option.bind_some];rw[qR b];simp only[Option.bind_some];rw[bK1,bb (by rfl)];simp only[uf,lk,aP6,Option.bind_some,List.append_assoc]
 |.times p pb n b,k,F,kn,kept=>by
  simp only[cI];rw[oM xO];simp only[uA,Rw.asked,Rw.sets,kH,Option.toList,List.append_nil,aG6];rw[cQ];simp only[Bool.false_eq_true,if_false];rw[qR b];simp only[Option.bind_some];rw[oM (bK1.trans (au (by simp only[kH];exact bh)))];simp only[dU,uf,lk]
def qR:∀(rs:List Rw) (k:Nat) (F:List Ft) (kn:List Str) (kept:List (List Str)),dU iK (bY k rs) (F,kn,kept)=some (F++ufL k kn rs,lkL kn rs,kept)
 |[],k,F,kn,kept=>by simp only[bY,dU,ufL,lkL,List.append_nil]
 |r::rs,k,F,kn,kept=>by
  simp only[bY];rw[cQ,cF4 r];simp only[Option.bind_some];rw[qR rs];simp only[ufL,lkL,List.append_assoc]
end
abbrev TSt:=List Ft×List Int
def wQ (s w:Str):Bool:=decide (s="else") || (decide (s="row")&&decide (w∈(["when","times"]:List Str)))
def fC (s:Stp):Bool:=wQ s.1 s.2.1.w
def bV5:wQ "row" "tell"=false:=by decide
def bS3:wQ "row" "let"=false:=by decide
def bV9:wQ "row" "when"=true:=by decide
def bR9:wQ "row" "times"=true:=by decide
def bW9 (w):wQ "else" w=true:=by
 unfold wQ;rw[ag rfl];rfl
def bF3 (w):wQ "end" w=false:=by
 unfold wQ;rw[ba aR2,ba iP];rfl
def bO7 (h:w∈cX):wQ "row" w=false:=by
 simp only[cX,List.mem_cons,List.not_mem_nil,or_false] at h;rcases h with rfl|rfl|rfl|rfl<;>decide
def yU (r:Rw)(k:Nat)(st:TSt):Option TSt:=match r with
 |.times _ _ n _=>match st.2 with
  |i::c::cs=>some (st.1,(c+n*i)::cs)
  |[_]=>none
  |[]=>none
 |.when _ _ _ _ _ _=>match st.2 with
  |o::i::c::cs=>some (st.1++(if i=o then [] else [((k:Int),2)]),(c+i)::cs)
  |[_,_]=>none
  |[_]=>none
  |[]=>none
 |.thr _ _ _ _ _=>none
 |.lt _ _ _=>none
 |.tell _ _=>none
def rY:Rw->Bool
 |.tell _ _=>true
 |.thr _ _ _ _ _=>false
 |.lt _ _ _=>false
 |.when _ _ _ _ _ _=>false
 |.times _ _ _ _=>false
def bH9 (st:TSt):Option TSt:=match st.2 with
 |c::cs=>some (st.1,(c+1)::cs)
 |[]=>none
def gU (s:Stp)(st:TSt):Option TSt:=
 if fC s then some (st.1,0::st.2)
 else if rY s.2.1 then bH9 st
 else if s.1="end" then yU s.2.1 s.2.2 st else some st
mutual
def WdR:Rw->Prop
 |.thr _ w _ _ _=>w∈cX
 |.lt _ _ _=>True
 |.tell _ _=>True
 |.when _ _ _ _ a b=>WdL a/\WdL b
 |.times _ _ _ b=>WdL b
def WdL:List Rw->Prop
 |[]=>True
 |r::rs=>WdR r/\WdL rs
end
def aD1 (h:wQ s r.w=true):gU (s,r,k) st=some (st.1,0::st.2):=by unfold gU;rw[bb (show fC (s,r,k)=true from h)]
def bX0:gU (("row": Str),Rw.tell p t,k) st=bH9 st:=by
 unfold gU;rw[au (by show ¬wQ "row" "tell"=true;rw[bV5];exact bh)];rfl
def bL7 (h:rY r=false):gU (("end": Str),r,k) st=yU r k st:=by
 unfold gU;have:fC (("end": Str),r,k)=false:=bF3 _;rw[au (by rw[this];exact bh),au (by show ¬rY r=true;rw[h];exact bh),bb rfl]
def bQ8:¬(("row": Str)="end"):=by decide
def aV1 (h1:wQ "row" r.w=false)(h2:rY r=false):gU (("row": Str),r,k) st=some st:=by
 unfold gU;rw[au (by show ¬wQ "row" r.w=true;rw[h1];exact bh),au (by show ¬rY r=true;rw[h2];exact bh),au bQ8]
mutual
def cF5:∀(r:Rw) (k:Nat) (F:List Ft) (c:Int) (cs:List Int),WdR r->dU gU (cI k r) (F,c::cs)=some (F++tf k r,(c+tel r)::cs)
 |.thr p w x vs am,k,F,c,cs,h=>by
  have h:w∈cX:=by simpa only[WdR] using h
  simp only[cI];rw[oM (aV1 (r:=Rw.thr p w x vs am) (bO7 h) rfl)];simp only[dU,tf,tel,List.append_nil,Int.add_zero]
 |.lt p x t,k,F,c,cs,h=>by
  simp only[cI];rw[oM (aV1 (r:=Rw.lt p x t) bS3 rfl)];simp only[dU,tf,tel,List.append_nil,Int.add_zero]
 |.tell p t,k,F,c,cs,h=>by
  simp only[cI];rw[oM (st':=(F,(c+1)::cs)) bX0];simp only[dU,tf,tel,List.append_nil]
 |.when p pa pb t a b,k,F,c,cs,h=>by
  simp only[WdR] at h;simp only[cI];rw[oM (aD1 (r:=Rw.when p pa pb t a b) bV9),cQ,cQ,cQ,rN a _ _ _ _ h.1];simp only[Option.bind_some];rw[oM (aD1 (r:=Rw.when p pa pb t a b) (bW9 _))];simp only[dU,Option.bind_some];rw[rN b _ _ _ _ h.2];simp only[Option.bind_some];rw[bL7 (by rfl)];simp only[yU,Option.bind_some,tf,tel,tls,Int.zero_add,List.append_assoc]
 |.times p pb n b,k,F,c,cs,h=>by
  simp only[WdR] at h;simp only[cI];rw[oM (aD1 (r:=Rw.times p pb n b) bR9),cQ,rN b _ _ _ _ h];simp only[Option.bind_some];rw[oM ((bL7 rfl).trans (show yU (Rw.times p pb n b) k _=some (F++tfL (k+1) b,(c+n*eS b)::cs) by simp only[yU,Int.zero_add]))];simp only[dU,tf,tel]
def rN:∀(rs:List Rw) (k:Nat) (F:List Ft) (c:Int) (cs:List Int),WdL rs->dU gU (bY k rs) (F,c::cs)=some (F++tfL k rs,(c+eS rs)::cs)
 |[],k,F,c,cs,h=>by simp only[bY,dU,tfL,eS,List.append_nil,Int.add_zero]
 |r::rs,k,F,c,cs,h=>by
  simp only[WdL] at h;simp only[bY];rw[cQ,cF5 r _ _ _ _ h.1];simp only[Option.bind_some];rw[rN rs _ _ _ _ h.2];simp only[tfL,eS,List.append_assoc,Int.add_assoc]
end
def aI3 (D2:dY H2 d l)(o:fL d l H H2)(h:H2 a=none):H a=none:=by
 cases q:H a with
 |none=>rfl
 |some u =>
  exfalso;obtain⟨sd,n,ls,z⟩:=D2
  by_cases h1:a=d
  ·rw[h1,z.dc] at h;cases h
  ·by_cases h2:a=l
   ·rw[h2,z.lc] at h;cases h
   ·rw[o a u q h1 h2] at h;cases h
def fN (D:dY H d l)(h:H r=none):r≠d/\r≠l:=by
 obtain⟨sd,n,ls,z⟩:=D;exact⟨(aK z.dc h).symm,(aK z.lc h).symm⟩
def rC (D:dY H d l)(h:H p=some (.lst xs))(n:p≠l):dY (aN H p (.lst ys)) d l:=by
 obtain⟨sd,k,ls,z⟩:=D;exact⟨sd,k,ls,⟨by rw[aH (gX z.dc h (by intro z;cases z))];exact z.dc,by rw[aH n.symm];exact z.lc,z.s0,z.s1,z.n0,z.l0⟩⟩
def aM (D:dY H d l)(h:H p=some (.lst xs))(n:p≠l)(o:fL d l H H'):H' p=some (.lst xs):=by
 obtain⟨sd,k,ls,z⟩:=D;exact o _ _ h (gX h z.dc (by intro z;cases z)) n
def aH2 {d l lf}(h:fL d l H H2)(hf:H lf=none):fL d l H (aN H2 lf o):=fun b u e h1 h2=>by
 rw[aH (aK e hf)];exact h b u e h1 h2
def eZ (S:List Addr)(H H':Hp):Prop:=∀b o,H b=some o->b∉S->H' b=some o
def eZ.refl (H):eZ S H H:=fun _ _ e _=>e
def eZ.trans (a:eZ S H H1)(b:eZ S H1 H2):eZ S H H2:=fun c o e h=>b c o (a c o e h) h
def eZ.of (s:bA H H'):eZ S H H':=fun c o e _=>s c o e
def eZ.out (o:fL d l H H'):eZ [d,l,sc] H H':=fun b u e n=>o b u e (fun z=>n (by rw[z];exact ao)) (fun z=>n (by rw[z];exact aq _ ao))
def eZ.new (a:eZ S H H1)(h:H p=none):eZ S H (aN H1 p o):=fun b u e n=>by
 rw[aH (aK e h)];exact a b u e n
def eZ.fresh (a:eZ S H H1)(hS:∀b∈S,∃o,H1 b=some o)(h:H1 p=none):H p=none:=by
 cases q:H p with
 |none=>rfl
 |some u =>
  exfalso
  by_cases m:p∈S
  ·obtain⟨o,e⟩:=hS p m;rw[e] at h;cases h
  ·rw[a p u q m] at h;cases h
section
variable {H H':Hp}{d l sc nl:Addr}{many:Int}{xs:List Str}
end
mutual
def tZ(ks:List Str):Rw->List Str->Prop
 |.thr _ _ x _ am,k2=>k2=ks++[x]/\am=false
 |.lt _ x t,k2=>k2=ks++[x]/\∀y∈t.names,y∈ks
 |.tell _ t,k2=>k2=ks/\∀y∈t.names,y∈ks
 |.when _ _ _ t a b,k2=>(∀y∈t.names,y∈ks)/\∃k3 k4,fZ ks a k3/\fZ ks b k4/\k2=k3.filter (fun x=>decide (x∈k4))
 |.times _ _ _ b,k2=>fZ ks b k2
def fZ(ks:List Str):List Rw->List Str->Prop
 |[],k2=>k2=ks
 |r::rs,k2=>∃k1,tZ ks r k1/\fZ k1 rs k2
end
def fZ.app {ks k1 k2:List Str}{r}:∀{rs ks},fZ ks rs k1->tZ k1 r k2->fZ ks (rs++[r]) k2
 |[],ks,h,h2=>by
  have h:k1=ks:=h;rw[h] at h2;exact⟨k2,h2,rfl⟩
 |q::rs,ks,⟨k3,h1,h2⟩,h3=>⟨k3,h1,fZ.app (ks:=ks) h2 h3⟩
mutual
def tZ.len:∀(r:Rw) {ks k2:List Str},tZ ks r k2->k2.length<=ks.length+r.cnt
 |.thr _ _ x _ am,ks,k2,h=>by rw[h.1];simp[Rw.cnt]
 |.lt _ x t,ks,k2,h=>by rw[h.1];simp[Rw.cnt]
 |.tell _ t,ks,k2,h=>by rw[h.1];simp[Rw.cnt]
 |.when _ _ _ t a b,ks,k2,⟨_,k3,k4,h1,h2,h3⟩=>by
  have:=fZ.len a h1;have:=jy (fun x=>decide (x∈k4)) k3;rw[h3];simp only[Rw.cnt];lia
 |.times _ _ _ b,ks,k2,h=>by
  have:=fZ.len b (show fZ ks b k2 from h);simp only[Rw.cnt];lia
def fZ.len : ∀(rs : List Rw) {ks k2 : List Str},fZ ks rs k2 -> k2.length <= ks.length + bP rs
  |[],ks,k2,h=>by rw[show k2=ks from h];simp[bP]
  | r::rs,ks,k2,⟨k1,h1,h2⟩ => by
    have:= tZ.len r h1;have:= fZ.len rs h2;simp only[bP];lia
end
mutual
def mI:Rw->Prop
 |.thr _ _ _ _ _=>True
 |.lt _ _ _=>True
 |.tell _ _=>True
 |.when _ _ _ _ a b=>eS a=eS b/\cL a/\cL b
 |.times _ _ n b=>(0<=n/\n<=9/\0<=eS b/\eS b<=100)/\cL b
def cL:List Rw->Prop
 |[]=>True
 |r::rs=>mI r/\cL rs
end
def nV:∀rs qs,eS (rs++qs)=eS rs+eS qs
 |[],qs=>by simp[eS]
 |r::rs,qs=>by simp only[List.cons_append,eS,nV rs qs];lia
def cL.app:∀{rs qs},cL rs->cL qs->cL (rs++qs)
 |[],_,_,h=>h
 |_::_,_,⟨h,k⟩,h2=>⟨h,cL.app k h2⟩
def tn:Nat->Nat
 |0=>2
 |1=>2
 |2=>4
 |_=>7
def cb:Nat->Nat
 |0=>6
 |1=>30
 |2=>248
 |_=>3483
def pb:Nat->Nat
 |0=>1
 |m+1=>1+2*cb m
mutual
def Rw.dp:Rw->Nat
 |.when _ _ _ _ a b=>1+max (jT a) (jT b)
 |.times _ _ _ b=>1+jT b
 |.thr _ _ _ _ _=>0
 |.lt _ _ _=>0
 |.tell _ _=>0
def jT:List Rw->Nat
 |[]=>0
 |r::rs=>max r.dp (jT rs)
end
def wR:∀{rs},jT rs<=m->r.dp<=m->jT (rs++[r])<=m
 |[],_,h=>by simp only[List.nil_append,jT];lia
 |q::rs,h,h2=>by
  simp only[jT] at h;have:=wR (rs:=rs) (m:=m) (r:=r) (by lia) h2;simp only[List.cons_append,jT];lia
def bN (rs:List Rw):List V:=rs.map fun r=>V.ref r.p
inductive spParts(vs:List V)(H:Hp)(Q:VK)(z1:XK):Prop
 |mk:∀t:Tm,vs=[.ref t.p]->mE H t->t.size<=900->(∀(r:Addr) (H':Hp),bA H H'->H r=none->H' r=some (.lst (t.pre.map fun u=>V.ref u.p))->Q (.ref r) H')->spParts vs H Q z1
abbrev Stq:=Str×Rw
def kN (H:Hp)(z:V)(s:Stq):Prop:=∃q,z= .ref q/\H q=some (.tup [.str s.1,.ref s.2.p])
def mX (H:Hp)(z:V)(s:Stp):Prop:=∃q,z= .ref q/\H q=some (.tup [.str s.1,.ref s.2.1.p,.int s.2.2])
def kN.ts (t:TS H H')(h:kN H z s):kN H' z s:=by obtain⟨q,e,k⟩:=h;exact⟨q,e,t _ _ k⟩
def mX.ts (t:TS H H')(h:mX H z s):mX H' z s:=by obtain⟨q,e,k⟩:=h;exact⟨q,e,t _ _ k⟩
def fB:Rw->List Stq
 |.when p pa pb t a b=>a.map (fun r=>(("row": Str),r))++[(("else": Str),Rw.when p pa pb t a b)]++b.map (fun r=>(("row": Str),r))++[(("end": Str),Rw.when p pa pb t a b)]
 |.times p pb n b=>b.map (fun r=>(("row": Str),r))++[(("end": Str),Rw.times p pb n b)]
 |.thr _ _ _ _ _=>[]
 |.lt _ _ _=>[]
 |.tell _ _=>[]
inductive spAsS(vs:List V)(H:Hp)(Q:VK)(z1:XK):Prop
 |mk:∀(p:Addr) (rs:List Rw),vs=[.ref p]->H p=some (.tup (bN rs))->rs.length<=4000->(∀(r:Addr) (zs:List V) (H':Hp),bA H H'->H' r=some (.lst zs)->fM (kN H') zs (rs.map fun r=>(("row": Str),r))->Q (.ref r) H')->spAsS vs H Q z1
inductive spInner(vs:List V)(H:Hp)(Q:VK)(z1:XK):Prop
 |mk:∀(r:Rw),vs=[.ref r.p]->eB H r->r.cnt<=4000->(∀(q:Addr) (zs:List V) (H':Hp),bA H H'->H' q=some (.lst zs)->fM (kN H') zs (fB r)->Q (.ref q) H')->spInner vs H Q z1
inductive spSteps(vs:List V)(H:Hp)(Q:VK)(z1:XK):Prop
 |mk:∀(p:Addr) (rs:List Rw),vs=[.ref p]->H p=some (.tup (bN rs))->aW H rs->bP rs<=4000->(∀(r:Addr) (zs:List V) (H':Hp),bA H H'->H r=none->H' r=some (.lst zs)->fM (mX H') zs (bY 0 rs)->Q (.ref r) H')->spSteps vs H Q z1
def Tm.nm:Tm->Option Str
 |.nam _ x=>some x
 |_=>none
def Tm.pre_names:∀t:Tm,t.pre.filterMap Tm.nm=t.names
 |.num _ _=>rfl
 |.nam _ _=>rfl
 |.op p s a b=>by
  show List.filterMap Tm.nm (Tm.op p s a b::(a.pre++b.pre))=a.names++b.names;rw[iq (by rfl),du,Tm.pre_names a,Tm.pre_names b]
inductive spNamesIn(vs:List V)(H:Hp)(Q:VK)(z1:XK):Prop
 |mk:∀t:Tm,vs=[.ref t.p]->mE H t->t.size<=900->(∀(r:Addr) (H':Hp),bA H H'->H' r=some (.lst (t.names.map V.str))->Q (.ref r) H')->spNamesIn vs H Q z1
inductive spSetsN(vs:List V)(H:Hp)(Q:VK)(z1:XK):Prop
 |mk:∀r:Rw,vs=[.ref r.p]->eB H r->Q (.bl r.sets.isSome) H->spSetsN vs H Q z1
inductive spAsked(vs:List V)(H:Hp)(Q:VK)(z1:XK):Prop
 |mk:∀r:Rw,vs=[.ref r.p]->eB H r->(∀(q:Addr) (H':Hp),bA H H'->H' q=some (.lst (r.asked.map V.str))->Q (.ref q) H')->spAsked vs H Q z1
inductive spBegins(vs:List V)(H:Hp)(Q:VK)(z1:XK):Prop
 |mk:∀s:Stp,vs=[.str s.1,.ref s.2.1.p]->eB H s.2.1->(∀H',bA H H'->Q (.bl (fC s)) H')->spBegins vs H Q z1
inductive spFirstA(vs:List V)(H:Hp)(Q:VK)(z1:XK):Prop
 |mk:∀(p:Addr) (x:Str) (us:List V) (am:Bool),vs=[.ref p]->(H p=some (.tup (.str "first" :: .str x::us)))->kQ H "first" us am->Q (.bl am) H->spFirstA vs H Q z1
def Rw.ams:Rw->Bool
 |.thr _ _ _ _ am=>am
 |.lt _ _ _=>false
 |.tell _ _=>false
 |.when _ _ _ _ _ _=>false
 |.times _ _ _ _=>false
inductive spRangeA(vs:List V)(H:Hp)(Q:VK)(z1:XK):Prop
 |mk:∀r:Rw,vs=[.ref r.p]->eB H r->Q (.bl r.ams) H->spRangeA vs H Q z1
def nB (H:Hp)(ls:Addr)(zs:List V)(rs:List Rw):Prop:=H ls=some (.lst zs)/\fM (mX H) zs (bY 0 rs)/\aW H rs/\bP rs<=4000
def nB.same (s:bA H H')(h:nB H ls zs rs):nB H' ls zs rs:=⟨s _ _ h.1,h.2.1.mono fun _ _ z=>mX.ts (.of s) z,aW.ts (.of s) rs h.2.2.1,h.2.2.2⟩
def ftW (c:Int):Str:=if c=0 then "range" else if c=1 then "unknown" else "tells"
def mG (H:Hp)(z:V)(m:Ft):Prop:=∃q,z= .ref q/\H q=some (.tup [.int m.1,.int m.2,.str (ftW m.2)])
def mG.ts (t:TS H H')(h:mG H z m):mG H' z m:=by obtain⟨q,e,k⟩:=h;exact⟨q,e,t _ _ k⟩
def bN2 (H:Hp)(Q:VK)(fs:List Ft):Prop:=∀(r:Addr) (us:List V) (H':Hp),bA H H'->H r=none->H' r=some (.lst us)->fM (mG H') us fs->Q (.ref r) H'
inductive spRangeF(vs:List V)(H:Hp)(Q:VK)(z1:XK):Prop
 |mk:∀(ls:Addr) (zs:List V) (rs:List Rw),vs=[.ref ls]->nB H ls zs rs->bN2 H Q (rfL 0 rs)->spRangeF vs H Q z1
inductive spUnkF(vs:List V)(H:Hp)(Q:VK)(z1:XK):Prop
 |mk:∀(ls:Addr) (zs:List V) (rs:List Rw),vs=[.ref ls]->nB H ls zs rs->bN2 H Q (ufL 0 [] rs)->spUnkF vs H Q z1
mutual
def aA7:Rw->Prop
 |.when _ _ _ _ a b=>yN a/\yN b
 |.times _ _ n b=>0<=n/\n<=9/\yN b
 |.thr _ _ _ _ _=>True
 |.lt _ _ _=>True
 |.tell _ _=>True
def yN:List Rw->Prop
 |[]=>True
 |r::rs=>aA7 r/\yN rs
end
inductive spTelF(vs:List V)(H:Hp)(Q:VK)(z1:XK):Prop
 |mk:∀(ls:Addr) (zs:List V) (rs:List Rw),vs=[.ref ls]->nB H ls zs rs->yN rs->jT rs<=6->bN2 H Q (tfL 0 rs)->spTelF vs H Q z1
structure Dk(H:Hp)(a:Addr)(ns:List Str)(n:Nat):Prop where
 ex:∃kvs:List (Key×V),H a=some (.dK kvs)/\(∀x:Str,(dW kvs (Sum.inr x:Key)).isSome=true↔x∈ns)/\(∀q∈kvs,∃x,q.1=(Sum.inr x:Key))/\kvs.length<=n
def Dk.at (D:Dk H a ns n)(h:∀o,H a=some o->H' a=some o):Dk H' a ns n:=⟨let⟨k,e,r⟩:=D.ex;⟨k,h _ e,r⟩⟩
def Dk.more (D:Dk H a ns n)(h:n<=m):Dk H a ns m:=⟨let⟨k,e,r1,r2,r3⟩:=D.ex;⟨k,e,r1,r2,by lia⟩⟩
inductive spBoth(vs:List V)(H:Hp)(Q:VK)(z1:XK):Prop
 |mk:∀(a b:Addr) (ka kb:List Str) (n m:Nat),vs=[.ref a,.ref b]->a≠b->Dk H a ka n->Dk H b kb m->n<=20000->(∀(d:Addr) (H':Hp),(∀c o,H c=some o->c≠a->H' c=some o)->H d=none->Dk H' d (ka.filter fun x=>decide (x∈kb)) n->Q (.ref d) H')->spBoth vs H Q z1
def hG (h:n<=9000000):n<sizeLine:=by rw[lm];lia
def aF9:∀l:List Tm,l.length<=(l.flatMap Tm.pre).length
 |[]=>aj _
 |t::r=>by have:=aF9 r;have:=t.size_pos;rw[bt,ud,ah,Tm.pre_len];lia
def cI8:¬(V.str "num"=V.str "op"):=by decide
def cE2:¬(V.str "name"=V.str "op"):=by decide
def wOM:¬(V.str "op"=V.str "name"):=by decide
def wTW:¬(V.str "times"=V.str "when"):=by decide
def wLW:¬(V.str "let"=V.str "when"):=by decide
def wLT:¬(V.str "let"=V.str "times"):=by decide
def wEW:¬(V.str "tell"=V.str "when"):=by decide
def wET:¬(V.str "tell"=V.str "times"):=by decide
def aP8 (h:w∈cX):¬(V.str w=V.str "when"):=fun z=>by
 have e:w="when":=by injection z
 rw[e] at h;exact absurd h (by decide)
def bT2 (h:w∈cX):¬(V.str w=V.str "times"):=fun z=>by
 have e:w="times":=by injection z
 rw[e] at h;exact absurd h (by decide)
def iY {r:List V}:nE (v::r) 0=some v:=by
 unfold nE zK;rw[bb (ng 0),bb (by rw[bt];lia)];rfl
def bB (rs):(bN rs).length=rs.length:=ac _
def bH7 {i:Nat}(h:(bN rs)[i]?=some v):∃r,v= .ref r.p/\rs[i]?=some r:=by
 unfold bN at h;rw[df] at h
 cases e:rs[i]? with
 |none=>rw[e] at h;cases h
 |some r=>rw[e] at h;exact⟨r,(cu h).symm,rfl⟩
def dO (rs qs):bN (rs++qs)=bN rs++bN qs:=av ..
def mL:∀{vs as}{i:Nat}{v},fM R vs as->vs[i]?=some v->∃a,as[i]?=some a/\R v a
 |[],[],i,v,_,h=>by cases h
 |v::vs,a::as,0,_,⟨e,_⟩,h=>by cases h;exact⟨a,rfl,e⟩
 |v::vs,a::as,i+1,x,⟨_,r⟩,h=>by
  obtain⟨b,h1,h2⟩:=mL (i:=i) (v:=x) r (by simpa using h);exact⟨b,by simpa using h1,h2⟩
 |[],_::_,_,_,z,_=>z.elim
 |_::_,[],_,_,z,_=>z.elim
def wJ:∀{vs as},fM R vs as->fM R vs.reverse as.reverse
 |[],[],_=>trivial
 |v::vs,a::as,⟨e,r⟩=>by
  rw[dg,dg];exact fM.append (wJ r) ⟨e,trivial⟩
 |[],_::_,z=>z.elim
 |_::_,[],z=>z.elim
def zF:∀{as vs a},fM R vs (as++[a])->∃us v,vs=us++[v]/\fM R us as/\R v a
 |[],[v],a,⟨e,_⟩=>⟨[],v,rfl,trivial,e⟩
 |[],_::_::_,_,⟨_,z⟩=>z.elim
 |[],[],_,z=>z.elim
 |b::bs,[],_,z=>z.elim
 |b::bs,v::vs,a,⟨e,r⟩=>by
  obtain⟨us,u,h1,h2,h3⟩:=zF (as:=bs) r;exact⟨v::us,u,by rw[h1];rfl,⟨e,h2⟩,h3⟩
def vY:∀{rs r},r∈rs->r.cnt<=bP rs
 |[],_,h=>absurd h dq
 |q::rs,r,h=>by
  simp only[bP];rcases bv.mp h with e|e
  ·rw[e];lia
  ·have:=vY e;lia
def aI5:∀{r s},s∈fB r->s.2=r\/s.2∈r.kids
 |.when p pa pb t a b,s,h=>by
  simp only[fB,List.mem_append,List.mem_map,List.mem_singleton] at h;rcases h with((⟨x,hx,e⟩|e)|⟨x,hx,e⟩)|e
  ·right;rw[<-e];exact cj _ hx
  ·left;rw[e]
  ·right;rw[<-e];exact br _ hx
  ·left;rw[e]
 |.times p pb n b,s,h=>by
  simp only[fB,List.mem_append,List.mem_map,List.mem_singleton] at h;rcases h with⟨x,hx,e⟩|e
  ·right;rw[<-e];exact hx
  ·left;rw[e]
 |.thr _ _ _ _ _,_,h=>absurd h dq
 |.lt _ _ _,_,h=>absurd h dq
 |.tell _ _,_,h=>absurd h dq
def bA2 (h:eB H r)(hc:r.cnt<=4000)(m:s∈fB r):eB H s.2/\s.2.cnt<=4000:=by
 rcases aI5 m with e|e
 ·rw[e];exact⟨h,hc⟩
 ·have:=vY e;have:=aQ3 r;exact⟨h.kids.mem _ e,by lia⟩
def dS (w)(xs:List Str):lV (.str w) (xs.map V.str)=decide (w∈xs):=by
 unfold lV;rw[List.any_map]
 induction xs with
 |nil=>rfl
 |cons x r ih =>
  rw[mx,ih];have e:(eqV (V.str x) (V.str w))=decide (x=w):=rfl;show(eqV (V.str x) (V.str w) || _)=_;rw[e]
  by_cases c:x=w
  ·simp[c]
  ·have c2:¬w=x:=fun z=>c z.symm
   simp[c,c2]
def cA (xs:List Str):(xs.map V.str).all mP=true:=pG xs
def iC {xs:List Str}{i:Nat}(h:(xs.map V.str)[i]?=some v):∃x,v= .str x/\xs[i]?=some x:=by
 rw[df] at h
 cases e:xs[i]? with
 |none=>rw[e] at h;cases h
 |some r=>rw[e] at h;exact⟨r,(cu h).symm,rfl⟩
def bO2 (h0:0<=r)(h1:r<5):∃c,nE ("+-*<=": Str).cps.toList r=some c/\(⟨#[c]⟩:Str)∈cA6:=by
 have:r=0\/r=1\/r=2\/r=3\/r=4:=by lia
 rcases this with rfl|rfl|rfl|rfl|rfl
 ·exact⟨43,rfl,by decide⟩
 ·exact⟨45,rfl,by decide⟩
 ·exact⟨42,rfl,by decide⟩
 ·exact⟨60,rfl,by decide⟩
 ·exact⟨61,rfl,by decide⟩
def aD7 (h0:0<=r)(h1:r<(xs.length:Int)):∃v,xs[r.toNat]?=some v/\nE xs r=some v:=by
 have hk:r.toNat<xs.length:=by lia
 refine⟨_,bo hk,?_⟩;have q:=aE6 (bo hk);rw[nt h0] at q;exact q
def bE2 (o:fL d l H H1)(n:H sc=none)(o2:eZ [d,l,sc] H1 H2):fL d l H H2:=fun b u e h1 h2=>by
 refine o2 b u (o b u e h1 h2) fun m=>?_
 simp only[List.mem_cons,List.not_mem_nil,or_false] at m;rcases m with m|m|m
 ·exact h1 m
 ·exact h2 m
 ·rw[m,n] at e;cases e
def eK:List Stp->Nat
 |[]=>0
 |s::r=>(if s.1="row" then s.2.1.cnt else 0)+eK r
def fH (k:Nat):List Stp->List Stp
 |[]=>[]
 |s::r=>if s.1="row" then cI k s.2.1++fH (k+s.2.1.cnt) r else s::fH k r
def qQ (k:Nat)(s:Stq):Stp:=(s.1,s.2,k)
def iS:∀l m (k),fH k (l++m)=fH k l++fH (k+eK l) m
 |[],m,k=>by simp only[List.nil_append,fH,eK,Nat.add_zero]
 |s::r,m,k=>by
  simp only[List.cons_append,fH,eK]
  by_cases c:s.1="row"
  ·rw[bb c,bb c,bb c,iS r m,kj,Nat.add_assoc]
  ·rw[au c,au c,au c,iS r m,Nat.zero_add,uq]
def jK:∀rs (k j),fH k (rs.map fun r=>qQ j (("row": Str),r))=bY k rs/\eK (rs.map fun r=>qQ j (("row": Str),r))=bP rs
 |[],k,j=>⟨by simp only[List.map_nil,fH,bY],by simp only[List.map_nil,eK,bP]⟩
 |r::rs,k,j=>by
  have h:=jK rs (k+r.cnt) j;simp only[List.map_cons,fH,eK,bY,bP,qQ,if_true];exact⟨ej _ h.1,ej _ h.2⟩
def yH {s:Stp}(h:s.1="row"):fH k (s::r)=cI k s.2.1++fH (k+s.2.1.cnt) r:=by rw[fH,bb h]
def kP {s:Stp}(h:¬s.1="row"):fH k (s::r)=s::fH k r:=by rw[fH,au h]
def gL:∀l m,eK (l++m)=eK l+eK m
 |[],m=>by simp only[List.nil_append,eK,Nat.zero_add]
 |s::r,m=>by simp only[List.cons_append,eK,gL r m,Nat.add_assoc]
def oQ {s:Stp}(h:¬s.1="row"):eK [s]=0:=by simp only[eK,if_neg h]
def sQ (k)(rs:List Rw):((rs.map fun r=>(("row": Str),r)).map (qQ k))=rs.map fun r=>qQ k (("row": Str),r):=by rw[jn];rfl
def xZ:∀r (k),cI k r=(("row": Str),r,k)::fH (k+1) ((fB r).map (qQ k))/\1+eK ((fB r).map (qQ k))=r.cnt
 |.when p pa pb t a b,k=>by
  obtain⟨h1,h2⟩:=jK a (k+1) k;obtain⟨h3,h4⟩:=jK b (k+1+bP a) k;simp only[fB,List.map_append,sQ,List.map_cons,List.map_nil];have e1:¬(qQ k (("else": Str),Rw.when p pa pb t a b)).1="row":=wG;have e2:¬(qQ k (("end": Str),Rw.when p pa pb t a b)).1="row":=iP;refine⟨?_,?_⟩
  ·rw[iS,iS,iS,gL,oQ e1,h2,h1];simp only[Nat.add_zero];rw[h3,kP e1,kP e2];simp only[fH,cI];rfl
  ·rw[gL,gL,gL,oQ e1,oQ e2,h2,h4];simp only[Rw.cnt];lia
 |.times p pb n b,k=>by
  obtain⟨h1,h2⟩:=jK b (k+1) k;simp only[fB,List.map_append,sQ,List.map_cons,List.map_nil];have e2:¬(qQ k (("end": Str),Rw.times p pb n b)).1="row":=iP;refine⟨?_,?_⟩
  ·rw[iS,h1,kP e2];simp only[fH,cI];rfl
  ·rw[gL,oQ e2,h2];simp only[Rw.cnt];lia
 |.thr p w x vs am,k=>⟨by simp only[cI,fB,List.map_nil,fH],by simp only[fB,List.map_nil,eK,Rw.cnt]⟩
 |.lt p x t,k=>⟨by simp only[cI,fB,List.map_nil,fH],by simp only[fB,List.map_nil,eK,Rw.cnt]⟩
 |.tell p t,k=>⟨by simp only[cI,fB,List.map_nil,fH],by simp only[fB,List.map_nil,eK,Rw.cnt]⟩
def aJ6 {s:Stp}(h:s.1="row"):fH k (s::r)=(("row": Str),s.2.1,k)::fH (k+1) ((fB s.2.1).map (qQ k)++r):=by
 obtain⟨h1,h2⟩:=xZ s.2.1 k;rw[yH h,h1,iS,uq, <-h2]
 congr 3
 lia
def bA9 (r)(k):1<=(cI k r).length:=by rw[(xZ r k).1];simp
def oO:∀l (k),l.length<=(fH k l).length
 |[],k=>aj _
 |s::r,k=>by
  by_cases c:s.1="row"
  ·have:=oO r (k+s.2.1.cnt);have:=bA9 s.2.1 k;rw[yH c,bt,ah];lia
  ·have:=oO r k;rw[kP c,bt,bt];lia
def kY (H:Hp)(z:V)(s:Stp):Prop:=∃q m,z= .ref q/\H q=some (.tup [.str s.1,.ref s.2.1.p,.int m])/\(¬s.1="row"->m=(s.2.2:Int))
def kY.ts (t:TS H H')(h:kY H z s):kY H' z s:=by
 obtain⟨q,m,e,k,l⟩:=h;exact⟨q,m,e,t _ _ k,l⟩
def p9 (n):(1:Int)<=9^n:=by
 induction n with
 |zero=>decide
 |succ n ih=>rw[yi];lia
def aX1 (h:n<=m):(9:Int)^n<=9^m:=by
 induction m with
 |zero=>rw[Nat.le_zero.mp h];exact ng _
 |succ m ih =>
  by_cases c:n=m+1
  ·rw[c];exact ng _
  ·have:=ih (by lia);have:=p9 m;rw[yi];lia
mutual
def bP8:∀r:Rw,aA7 r->0<=tel r/\tel r<=9^r.dp*(r.cnt:Int)
 |.thr _ _ _ _ _,_=>by simp only[tel,Rw.dp,Rw.cnt];decide
 |.lt _ _ _,_=>by simp only[tel,Rw.dp,Rw.cnt];decide
 |.tell _ _,_=>by simp only[tel,Rw.dp,Rw.cnt];decide
 |.when _ _ _ _ a b,h=>by
  have h1:=wM a h.1;simp only[tel,Rw.dp,Rw.cnt];refine⟨h1.1,Int.le_trans h1.2 ?_⟩;refine Int.mul_le_mul (aX1 (by lia)) (by lia) (by lia) (by have:=p9 (1+max (jT a) (jT b));lia)
 |.times _ _ n b,h=>by
  have h1:=wM b h.2.2;simp only[tel,Rw.dp,Rw.cnt];refine⟨Int.mul_nonneg h.1 h1.1,?_⟩;have h2:n*eS b<=9*(9^jT b*(bP b:Int)):=Int.mul_le_mul h.2.1 h1.2 h1.1 (by decide);have h3:(9:Int)*(9^jT b*(bP b:Int))=9^(1+jT b)*(bP b:Int):=by rw[Nat.add_comm,yi, <-Int.mul_assoc,Int.mul_comm 9]
  have h4:(9:Int)^(1+jT b)*(bP b:Int)<=9^(1+jT b)*((1+bP b:Nat):Int):=rc (by lia) (by have:=p9 (1+jT b);lia);lia
def wM:∀rs:List Rw,yN rs->0<=eS rs/\eS rs<=9^jT rs*(bP rs:Int)
 |[],_=>by simp only[eS,jT,bP];decide
 |r::rs,h=>by
  have h1:=bP8 r h.1;have h2:=wM rs h.2;simp only[eS,jT,bP];have h3:(9:Int)^r.dp*(r.cnt:Int)<=9^max r.dp (jT rs)*(r.cnt:Int):=qx (aX1 (by lia)) (by lia);have h4:(9:Int)^jT rs*(bP rs:Int)<=9^max r.dp (jT rs)*(bP rs:Int):=qx (aX1 (by lia)) (by lia);refine⟨by lia,?_⟩;rw[show((r.cnt+bP rs:Nat):Int)=(r.cnt:Int)+(bP rs:Int) by lia,Int.mul_add];lia
end
def aK7 (h:w∈cX):w≠"tell":=by
 simp only[cX,List.mem_cons,List.not_mem_nil,or_false] at h;rcases h with rfl|rfl|rfl|rfl<;>decide
mutual
def eB.wd{H:Hp}:∀(r:Rw),eB H r->WdR r
 |.thr _ _ _ _ _,h=>h.2.w
 |.lt _ _ _,_=>trivial
 |.tell _ _,_=>trivial
 |.when _ _ _ _ a b,h=>⟨aW.wd a h.2.2.2.2.2.1,aW.wd b h.2.2.2.2.2.2⟩
 |.times _ _ _ b,h=>aW.wd b h.2.2
def aW.wd{H:Hp}:∀(rs:List Rw),aW H rs->WdL rs
 |[],_=>trivial
 |r::rs,h=>⟨eB.wd r h.1,aW.wd rs h.2⟩
end
mutual
def aZ3:∀(r:Rw) {H:Hp}(k:Nat),eB H r->∀s∈cI k r,eB H s.2.1
 |.thr p w x vs am,H,k,h,s,hs=>by
  simp only[cI,List.mem_singleton] at hs;rw[hs];exact h
 |.lt p x t,H,k,h,s,hs=>by
  simp only[cI,List.mem_singleton] at hs;rw[hs];exact h
 |.tell p t,H,k,h,s,hs=>by
  simp only[cI,List.mem_singleton] at hs;rw[hs];exact h
 |.when p pa pb t a b,H,k,h,s,hs=>by
  simp only[cI,List.mem_cons,List.mem_append,List.mem_singleton,List.not_mem_nil,or_false] at hs;rcases hs with e|((e|e)|e)|e
  ·rw[e];exact h
  ·exact fA a _ h.2.2.2.2.2.1 s e
  ·rw[e];exact h
  ·exact fA b _ h.2.2.2.2.2.2 s e
  ·rw[e];exact h
 |.times p pb n b,H,k,h,s,hs=>by
  simp only[cI,List.mem_cons,List.mem_append,List.mem_singleton,List.not_mem_nil,or_false] at hs;rcases hs with e|e|e
  ·rw[e];exact h
  ·exact fA b _ h.2.2 s e
  ·rw[e];exact h
def fA:∀(rs:List Rw) {H:Hp}(k:Nat),aW H rs->∀s∈bY k rs,eB H s.2.1
 |[],H,k,h,s,hs=>by simp only[bY] at hs;cases hs
 |r::rs,H,k,h,s,hs=>by
  simp only[bY,List.mem_append] at hs;rcases hs with e|e
  ·exact aZ3 r k h.1 s e
  ·exact fA rs _ h.2 s e
end
def bF2 (a b:Str):(a++b).cps=a.cps++b.cps:=rfl
def bD0 {r:Nat}(h:r<26):nE ("abcdefghijklmnopqrstuvwxyz": Str).cps.toList (r)=some (97+r):=by
 have:r=0\/r=1\/r=2\/r=3\/r=4\/r=5\/r=6\/r=7\/r=8\/r=9\/r=10\/r=11\/r=12\/r=13\/r=14\/r=15\/r=16\/r=17\/r=18\/r=19\/r=20\/r=21\/r=22\/r=23\/r=24\/r=25:=by lia
 rcases this with rfl|rfl|rfl|rfl|rfl|rfl|rfl|rfl|rfl|rfl|rfl|rfl|rfl|rfl|rfl|rfl|rfl|rfl|rfl|rfl|rfl|rfl|rfl|rfl|rfl|rfl<;>decide
def bN8 (tn:Int)(k:Nat):Nat:=97+((tn+7*(k:Int)) % 26).toNat
def bJ8 (tn)(k:Nat):nE ("abcdefghijklmnopqrstuvwxyz": Str).cps.toList ((tn+7*(0+(k))) % 26)=some (bN8 tn k):=by
 have h0:0<=(tn+7*(k:Int)) % 26:=lj _ (by decide);have h1:(tn+7*(k:Int)) % 26<26:=ll _ (by decide);have e:((tn+7*(0+(k:Int))) % 26)=(((tn+7*(k:Int)) % 26).toNat:Int):=by rw[Int.zero_add,nt h0]
 rw[e,bD0 (by lia)];rfl
def wdK (a b:Str)(tn:Int)(k:Nat):Str:=a++(⟨#[bN8 tn k]⟩:Str)++b
def bJ2 (a b)(tn)(k):(wdK a b tn k).length=a.length+1+b.length:=by
 unfold wdK;rw[pp,pp];rfl
def bM0:("q": Str).length=1:=by decide
def qY {ks:List Str}(h:ks.Nodup):(ks.map (fun x=>(Sum.inr x:Key))).Nodup:=by
 rw[sv,zc];exact h.imp fun z q=>z (by injection q)
def cC1 (h:¬x=y):¬((Sum.inr x:Key)=Sum.inr y):=fun z=>h (by injection z)
def Dk.new (h:H a=some (.dK [])):Dk H a [] 0:=⟨[],h,fun x=>by rw[nQ];simp,fun q hq=>absurd hq dq,aj _⟩
def Dk.ext (D:Dk H a ns n)(h:∀x,x∈ns↔x∈ms):Dk H a ms n:=⟨let⟨k,e,r1,r2,r3⟩:=D.ex;⟨k,e,fun x=>(r1 x).trans (h x),r2,r3⟩⟩
def Dk.get (D:Dk H a ns n)(x):∃o:Option V,fW H a (.str x) o/\o.isSome=decide (x∈ns):=by
 obtain⟨kvs,e,r1,_⟩:=D.ex;refine⟨_,fW.k (k:=Sum.inr x) e,?_⟩
 by_cases c:x∈ns
 ·rw[ag c];exact(r1 x).mpr c
 ·rw[ba c]
  cases q:(dW kvs (Sum.inr x:Key)).isSome with
  |false=>rfl
  |true=>exact absurd ((r1 x).mp q) c
def aK3 {q:Key×V}(h:q∈dP m k v):q.1=k\/∃p∈m,q.1=p.1:=by
 unfold dP at h
 split at h
 ·obtain⟨p,hp,e⟩:=dj.mp h
  by_cases c:p.1=k
  ·rw[bb c] at e;rw[<-e];exact .inr ⟨p,hp,rfl⟩
  ·rw[au c] at e;rw[<-e];exact .inr ⟨p,hp,rfl⟩
 ·rcases bq.mp h with e|e
  ·exact .inr ⟨q,e,rfl⟩
  ·rw[cp.mp e];exact .inl rfl
def Dk.put (D:Dk H a ns n)(hn:n<=20000)(x)(v):∃o:HO,hX H a (.str x) v (aN H a o)/\Dk (aN H a o) a (ns++[x]) (n+1)/\∃q,o= .dK q:=by
 obtain⟨kvs,e,r1,r2,r3⟩:=D.ex;refine⟨_,hX.k (k:=Sum.inr x) e (hG (by lia)),⟨_,aC,fun y=>?_,fun q hq=>?_,?_⟩,_,rfl⟩
 ·rw[aT4]
  by_cases c:y=x
  ·rw[bb (by rw[c]),c];simp
  ·rw[au (cC1 c),r1 y];simp[c]
 ·rcases aK3 hq with z|⟨p,hp,z⟩
  ·exact⟨x,z⟩
  ·rw[z];exact r2 p hp
 ·have:=eU kvs (Sum.inr x:Key) v;lia
def qM (H:Hp)(n:Nat):List Addr->List (List Str)->Prop
 |[],[]=>True
 |a::r,k::q=>Dk H a k n/\qM H n r q
 |[],_::_=>False
 |_::_,[]=>False
def qM.at (hm:n<=m):∀{as ks},qM H n as ks->(∀a∈as,∀o,H a=some o->H' a=some o)->qM H' m as ks
 |[],[],_,_=>trivial
 |a::r,k::q,⟨h,h2⟩,e=>⟨(h.at (e a ao)).more hm,qM.at hm h2 fun b hb=>e b (aq _ hb)⟩
 |[],_::_,z,_=>z.elim
 |_::_,[],z,_=>z.elim
def qM.is:∀{as ks},qM H n as ks->∀a∈as,∃q,H a=some (.dK q)
 |[],[],_,_,h=>absurd h dq
 |a::r,k::q,⟨h,h2⟩,b,hb=>by
  rcases bv.mp hb with e|e
  ·rw[e];obtain⟨kvs,z,_⟩:=h.ex;exact⟨kvs,z⟩
  ·exact qM.is h2 b e
 |[],_::_,z,_,_=>z.elim
 |_::_,[],z,_,_=>z.elim
def qM.cons (h:qM H n as (k::ks)):∃a r,as=a::r/\Dk H a k n/\qM H n r ks:=by
 cases as with
 |nil=>exact h.elim
 |cons a r=>exact⟨a,r,rfl,h.1,h.2⟩
def qM.len:∀{as ks},qM H n as ks->as.length=ks.length
 |[],[],_=>rfl
 |a::r,k::q,⟨_,h2⟩=>by rw[bt,bt,qM.len h2]
 |[],_::_,z=>z.elim
 |_::_,[],z=>z.elim
def aL2 (kvs:List (Key×V)):List Str:=kvs.filterMap fun q=>q.1.elim (fun _=>none) some
def aP4:x∈aL2 kvs↔(dW kvs (Sum.inr x:Key)).isSome=true:=by
 unfold aL2;rw[jh]
 constructor
 ·rintro⟨⟨k,v⟩,m,e⟩
  cases k with
  |inl n=>cases e
  |inr y =>
   cases e
   unfold dW;rw[oy,pd];exact⟨_,m,ag rfl⟩
 ·intro h;unfold dW at h;rw[oy,pd] at h;obtain⟨q,m,e⟩:=h;refine⟨q,m,?_⟩;rw[ae e];rfl
def oN {f}(μ:σ->Nat)(h:∀a st st',f a st=some st'->μ st'<=μ st+1):∀(l:List α) (st e),dU f l st=some e->μ e<=μ st+l.length
 |[],st,e,z=>by cases z;exact aj _
 |a::r,st,e,z=>by
  have z:(f a st).bind (dU f r)=some e:=z
  cases q:f a st with
  |none=>rw[q] at z;cases z
  |some s1 =>
   rw[q] at z;have:=h a st s1 q;have:=oN μ h r s1 e z;rw[bt];lia
def cA2 (s)(st st')(h:iK s st=some st'):st'.2.2.length<=st.2.2.length+1:=by
 unfold iK at h
 split at h
 ·cases h
  unfold uA
  split<;>simp only[List.length_cons]<;>lia
 ·split at h
  ·unfold aF7 at h
   split at h
   ·rename_i x y e
    cases h
    rw[e];simp only[List.length_cons];lia
   ·cases h
  ·split at h
   ·unfold aP6 at h
    split at h
    ·rename_i x y e
     cases h
     rw[e];simp only[List.length_cons];lia
    ·cases h
   ·cases h;lia
def bX5 (s)(st st')(h:gU s st=some st'):st'.2.length<=st.2.length+1:=by
 unfold gU at h
 split at h
 ·cases h;simp only[List.length_cons];lia
 ·split at h
  ·unfold bH9 at h
   split at h
   ·rename_i x y e
    cases h
    rw[e];simp only[List.length_cons];lia
   ·cases h
  ·split at h
   ·unfold yU at h
    split at h
    ·split at h
     ·rename_i e
      cases h
      rw[e];simp only[List.length_cons];lia
     ·cases h
     ·cases h
    ·split at h
     ·rename_i e
      cases h
      rw[e];simp only[List.length_cons];lia
     ·cases h
     ·cases h
     ·cases h
    all_goals cases h
   ·cases h;lia
def aU8 (h:WdR r):(decide (r.w∈cX) || decide (r.w="let"))=r.sets.isSome:=by
 cases r with
 |thr p w x vs am =>
  have h:w∈cX:=h;show(decide (w∈cX) || _)=true;rw[ag h];rfl
 |lt p x t=>show(_ || decide (("let": Str)="let"))=true;simp
 |tell p t=>show(decide (("tell": Str)∈cX) || decide (("tell": Str)="let"))=false;decide
 |when p pa pb t a b=>show(decide (("when": Str)∈cX) || decide (("when": Str)="let"))=false;decide
 |times p pb n b=>show(decide (("times": Str)∈cX) || decide (("times": Str)="let"))=false;decide
def bK5 (h:WdR r):decide (V.str r.w=V.str "when")=kH r:=by
 cases r with
 |thr p w x vs am =>
  exact ba (aP8 (show w∈cX from h))
 |lt p x t=>exact ba wLW
 |tell p t=>exact ba wEW
 |when p pa pb t a b=>exact ag rfl
 |times p pb n b=>exact ba wTW
def at1 {r:List V}:nE (v::u::r) 1=some u:=by
 unfold nE zK;rw[bb (by decide),bb (by simp only[List.length_cons];lia)];rfl
def wMN:¬(V.str "num"=V.str "name"):=by decide
def wTL:¬(V.str "tell"=V.str "let"):=by decide
def wWL:¬(V.str "when"=V.str "let"):=by decide
def wML:¬(V.str "times"=V.str "let"):=by decide
def wWT:¬(V.str "when"=V.str "times"):=by decide
def aR9 (h:w∈cX):¬(V.str w=V.str "let"):=fun z=>by
 have e:w="let":=by injection z
 rw[e] at h;exact absurd h (by decide)
def bV4 (h:w∈cX):¬(lV (V.str w) [.str "tell",.str "when"]=true):=by
 rw[show([V.str "tell",V.str "when"]:List V)=(["tell","when"]:List Str).map V.str from rfl,dS];simp only[cX,List.mem_cons,List.not_mem_nil,or_false] at h;rcases h with rfl|rfl|rfl|rfl<;>decide
def Tm.names_len:∀t:Tm,t.names.length<=t.size
 |.num _ _=>bu _
 |.nam _ _=>aj _
 |.op _ _ a b=>by have:=a.names_len;have:=b.names_len;simp only[Tm.names,Tm.size,List.length_append];lia
def aL4:∀{r},eB H r->r.asked.length<=9000000
 |.thr _ _ _ _ _,_=>bu _
 |.lt _ _ t,h=>by have:=t.names_len;have:=h.2.2.2;show t.names.length<=_;lia
 |.tell _ t,h=>by have:=t.names_len;have:=h.2.2.2;show t.names.length<=_;lia
 |.when _ _ _ t _ _,h=>by have:=t.names_len;have:=h.2.2.1.2;show t.names.length<=_;lia
 |.times _ _ _ _,_=>bu _
def qI:∀{r x},eB H r->r.sets=some x->∃us,H r.p=some (.tup (.str r.w :: .str x::us))
 |.thr p w y vs am,x,h,e=>by cases e;exact⟨vs,h.1⟩
 |.lt p y t,x,h,e=>by cases e;exact⟨_,h.1⟩
 |.tell _ _,_,_,e=>by cases e
 |.when _ _ _ _ _ _,_,_,e=>by cases e
 |.times _ _ _ _,_,_,e=>by cases e
def rgF (s:Stp):Option Ft:=if s.1="row" then (if s.2.1.ams then some ((s.2.2:Int),0) else none) else none
def sM:rgF (("row": Str),r,k)=if r.ams then some ((k:Int),0) else none:=by unfold rgF;rw[bb rfl]
def wO {s:Stp}(h:¬s.1="row"):rgF s=none:=by unfold rgF;rw[au h]
def nS {α β:Type}{f:α->Option β}{a l}(h:f a=none):(a::l).filterMap f=l.filterMap f:=iq h
mutual
def bE0:∀(r:Rw) (k:Nat),(cI k r).filterMap rgF=rf k r
 |.thr p w x vs am,k=>by
  simp only[cI,rf,wB,List.filterMap_cons,List.filterMap_nil,sM,Rw.ams]
  cases am<;>rfl
 |.lt p x t,k=>by simp only[cI,rf,List.filterMap_cons,List.filterMap_nil,sM,Rw.ams];rfl
 |.tell p t,k=>by simp only[cI,rf,List.filterMap_cons,List.filterMap_nil,sM,Rw.ams];rfl
 |.when p pa pb t a b,k=>by
  simp only[cI];rw[nS (by rw[sM];rfl),du,du,du,lL a,lL b,nS (wO wG),nS (wO iP)];simp only[List.filterMap_nil,List.append_nil,rf]
 |.times p pb n b,k=>by
  simp only[cI];rw[nS (by rw[sM];rfl),du,lL b,nS (wO iP)];simp only[List.filterMap_nil,List.append_nil,rf]
def lL:∀(rs:List Rw) (k:Nat),(bY k rs).filterMap rgF=rfL k rs
 |[],k=>by simp only[bY,rfL,List.filterMap_nil]
 |r::rs,k=>by simp only[bY,rfL,List.filterMap_append,bE0 r,lL rs]
end
def bI0 {α β:Type}{f:α->Option β}{l:List α}{a}(h:l[i]?=some a):(l.take (i+1)).filterMap f=(l.take i).filterMap f++(f a).toList:=by
 rw[bE h,du]
 cases e:f a<;>simp[List.filterMap_cons,e]
def cH2:ftW 0="range":=by unfold ftW;rw[bb rfl]
def cG7:ftW 1="unknown":=by unfold ftW;rw[au (by decide),bb rfl]
def cH8:ftW 2="tells":=by unfold ftW;rw[au (by decide),au (by decide)]
def bQ6 (s)(st st')(h:iK s st=some st'):st'.1.length<=st.1.length+1:=by
 unfold iK at h
 split at h
 ·cases h
  unfold uA tT
  split<;>simp
 ·split at h
  ·unfold aF7 at h
   split at h
   ·cases h;simp
   ·cases h
  ·split at h
   ·unfold aP6 at h
    split at h
    ·cases h;simp
    ·cases h
   ·cases h;lia
def aG0 {ns kn:List Str}:(ns.map fun y=>decide (y∈kn)).all id=true↔∀y∈ns,y∈kn:=by simp
mutual
def bE3:∀(r:Rw) (k:Nat),aA7 r->∀s∈cI k r,aA7 s.2.1
 |.thr p w x vs am,k,h,s,hs=>by simp only[cI,List.mem_singleton] at hs;rw[hs];exact h
 |.lt p x t,k,h,s,hs=>by simp only[cI,List.mem_singleton] at hs;rw[hs];exact h
 |.tell p t,k,h,s,hs=>by simp only[cI,List.mem_singleton] at hs;rw[hs];exact h
 |.when p pa pb t a b,k,h,s,hs=>by
  simp only[cI,List.mem_cons,List.mem_append,List.mem_singleton,List.not_mem_nil,or_false] at hs;rcases hs with e|((e|e)|e)|e
  ·rw[e];exact h
  ·exact kO a _ h.1 s e
  ·rw[e];exact h
  ·exact kO b _ h.2 s e
  ·rw[e];exact h
 |.times p pb n b,k,h,s,hs=>by
  simp only[cI,List.mem_cons,List.mem_append,List.mem_singleton,List.not_mem_nil,or_false] at hs;rcases hs with e|e|e
  ·rw[e];exact h
  ·exact kO b _ h.2.2 s e
  ·rw[e];exact h
def kO:∀(rs:List Rw) (k:Nat),yN rs->∀s∈bY k rs,aA7 s.2.1
 |[],k,h,s,hs=>by simp only[bY] at hs;cases hs
 |r::rs,k,h,s,hs=>by
  simp only[bY,List.mem_append] at hs;rcases hs with e|e
  ·exact bE3 r k h.1 s e
  ·exact kO rs _ h.2 s e
end
def bI3 (h:w∈cX):¬(V.str w=V.str "tell"):=fun z=>aK7 h (by injection z)
def wWE:¬(V.str "when"=V.str "tell"):=by decide
def wTE:¬(V.str "times"=V.str "tell"):=by decide
def wLE:¬(V.str "let"=V.str "tell"):=by decide
def bZ6 (h:WdR r):decide (V.str r.w=V.str "tell")=rY r:=by
 cases r with
 |thr p w x vs am=>exact ba (bI3 (show w∈cX by simpa only[WdR] using h))
 |lt p x t=>exact ba wLE
 |tell p t=>exact ag rfl
 |when p pa pb t a b=>exact ba wWE
 |times p pb n b=>exact ba wTE
def bT7 (s)(st st')(h:gU s st=some st'):st'.1.length<=st.1.length+1:=by
 unfold gU at h
 split at h
 ·cases h;simp
 ·split at h
  ·unfold bH9 at h
   split at h
   ·cases h;simp
   ·cases h
  ·split at h
   ·unfold yU at h
    split at h
    ·split at h
     ·cases h;simp
     ·cases h
     ·cases h
    ·split at h
     ·cases h
      split<;>simp
     ·cases h
     ·cases h
     ·cases h
    all_goals cases h
   ·cases h;lia
def xF:∀{rs r},r∈rs->r.dp<=jT rs
 |[],_,h=>absurd h dq
 |q::rs,r,h=>by
  simp only[jT];rcases bv.mp h with e|e
  ·rw[e];lia
  ·have:=xF e;lia
end Mine
namespace L2
open PySem PySem.Spec PyProof.Rows
section
variable {prog:Program}{w:World}{A:Around}{E:Value->Shared->Prop}{s:Shared}{a it tp:Addr}{o:Obj}{es:Array (Int×Value)}{ep:Nat}{t:SetTable}
end
section
variable {prog:Program}{w:World}{A:Around}{E:Value->Shared->Prop}{s:Shared}{a tp:Addr}{o:Obj}{es:Array (Int×Value)}{ep:Nat}{t:SetTable}
end
def aX.draw {σ:St}(I:aX X pins σ H s)(d'):aX X pins σ H { s with drawn:=d' }:=
 ⟨I.ok,I.os,I.bare,I.base,I.loc,I.cell,I.free,I.freeC,I.pin,I.hok,I.len⟩
section
variable {prog:Program}{w:World}{A:Around}{E:Value->Shared->Prop}{s:Shared}{a:Addr}{o:Obj}{es:Array (Int×Value)}{ep:Nat}{t:SetTable}
end
abbrev tk(ts:List Str):List Key:=ts.map Sum.inr
section
variable {prog:Program}{w:World}{A:Around}{R:Result->Shared->Prop}{I:Addr}{fp wr:List Addr}{G:Array GenState->Array GenState->Prop}{n:Nat}{P:Nat->Value->Prop}{St:Nat->Shared->Prop}{led:Bool}
def aK1 (W:WalksS prog w A.in1 I fp wr G n P St)(S)(hSf:S∉fp)(ts)(hn:ts.length=n)(hval:∀i v,P i v->∃x t,ts[i]?=some x/\v= .str x t)(hb:∀ds:List Key,ds.Nodup->(∀j∈ds,j∈tk ts)->ds.length<=4000):
  ∀k i (s),n-i=k->i<=n->St i s->gH prog w s.heap S (hJ (dd (tk (ts.take i)))) (dd (tk (ts.take i))).length led ->
   (∀s',Moved (S::wr) G s s'->gH prog w s'.heap S (hJ (dd (tk ts))) (dd (tk ts)).length led->R (.ok (.ret .none)) s') ->
   codeAny (model prog w) A (.builtin "set.update.loop" ⟨[.ref S,.ref I],[]⟩) R s:=by
 have hSw:S∉wr:=fun h=>hSf (W.sub _ h)
 have hsub:∀b∈wr,b∈S::wr:=fun b hb=>aq _ hb
 intro k
 induction k with
 |zero =>
  intro i s hk hi hst hS hR;obtain rfl:i=n:=by lia
  refine jm lg ?_;rw[ko ja _];refine(show wpAny _ A.in1 (pyNext (.ref I)>>=_) _ _ s from aa (W.done s _ _ hst fun s' hm=>?_));rw[<-hn,cg] at hS;refine(show wpAny _ A.in1 (ret Value.none) _ _ s' from ak (hR s' (hm.mono hsub) (hS.keep fun o e=>hm.heap S _ hSw e)))
 |succ k ih =>
  intro i s hk hi hst hS hR;have hlt:i<n:=by lia
  refine jm lg ?_;rw[ko ja _];refine(show wpAny _ A.in1 (pyNext (.ref I)>>=_) _ _ s from aa (W.item i s _ _ hlt hst fun v s' hP hst' hm=>?_));obtain⟨x,t,hx,rfl⟩:=hval i v hP;have his:jI (Sum.inr x) (.str x t)=true:=gK x t;have hS':=hS.keep (h':=s'.heap) fun o e=>hm.heap S _ hSw e
  refine(show wpAny _ A.in1 (holding [Value.str x t] (setAdd S (.str x t))>>=_) _ _ s' from aa (dz ?_));unfold setAdd;refine dz (aa ((aZ prog w).pyHash (k:=Sum.inr x) his ?_));have hroom:(dd (tk (ts.take i))).length+1<scanBound:=by
   have:=hb (dd (tk (ts.take i))) (cE8 _) fun j hj=>by
    obtain⟨x,m,e⟩:=dj.mp ((aZ4 _ _).mp hj);exact dj.mpr ⟨x,qy m,e⟩
   unfold scanBound;lia
  refine aU3 (s:={ s' with toks:=s'.toks+1 }) his rfl rfl hS' hroom fun h' hsb hS2=>?_
  have hSi:gH prog w h' S (hJ (dd (tk (ts.take (i+1))))) (dd (tk (ts.take (i+1)))).length led:=by
   have e:tk (ts.take (i+1))=tk (ts.take i)++[Sum.inr x]:=by rw[rh,hx];simp[tk]
   rw[e,wU];have e1:(fun j=>hJ (dd (tk (ts.take i))) j || decide (j=Sum.inr x))=hJ (tU (dd (tk (ts.take i))) (Sum.inr x)):=funext fun j=>by
    rw[ig,vq,fg,gR,gR];exact wD.symm
   have e2:(if hJ (dd (tk (ts.take i))) (Sum.inr x)=true then (dd (tk (ts.take i))).length else (dd (tk (ts.take i))).length+1)=(tU (dd (tk (ts.take i))) (Sum.inr x)).length:=by
    unfold tU
    by_cases c:hJ (dd (tk (ts.take i))) (Sum.inr x)=true
    ·rw[bb c,bb c]
    ·rw[au c,au c,ah,jv]
   rw[<-e1, <-e2];exact hS2
  refine ak ⟨sk ja _,ih (i+1) _ (by lia) hlt (W.frame _ s' _ _ hst' (fw _) fun b hb o e=>?_) hSi fun s'' hm'' hS''=>?_⟩
  ·rw[hsb.2 b (fun h:b=S=>hSf (by rw[<-h];exact hb))];exact e
  ·refine hR s'' (Moved.trans W.gtrans ((hm.mono hsub).then_heap (fw _) fun b o hb e=>?_) hm'') hS'';rw[hsb.2 b (fun h:b=S=>hb (by rw[h];exact ao))];exact e
end
section
variable {prog:Program}{w:World}{A:Around}{E:Value->Shared->Prop}{s:Shared}
def bB3 (v)(h:R (.ref s.heap.objs.size) { s with heap:=s.heap.push (cK (!byT w)) }):
  codeAny (model prog w) A (.call (.builtin "set.__new__") ⟨[.type "set",v],[]⟩) (wants R E) s:=by
 refine codeAny_of_tree (show wpAny _ A.in1 (checkBuiltinCall "set.__new__" ⟨[.type "set",v],[]⟩>>=fun _=>again (.builtin "set.__new__" ⟨[.type "set",v],[]⟩)) _ _ s from aa (zh (F.newCall_set_1 v) (ak ⟨sk F.plain_set_new _,jm F.entry_set_new ?_⟩)));rw[ko F.plain_set_new _];have z:=sub_set_self;obtain⟨x1,x2,x3,x4,x5⟩:=s;unfold Builtin.«set.__new__» Builtin.Frozenset.newClass
 dsimp only
 wp_walk
 refine wpAny_askSetting (ak ?_);unfold newObj;exact aa (wpAny_alloc (ak (ak h)))
def aC4 (hh:A.handled=none)(hl:s.heap.IsList l items)(hk:ts.length=items.size)(hi:∀(i:Nat) (v),items[i]?=some v->∃x t,ts[i]?=some x/\v= .str x t)(hb:∀ds:List Key,ds.Nodup->(∀j∈ds,j∈tk ts)->ds.length<=4000)(q:∀h' (tk'),gH prog w h' s.heap.objs.size (hJ (dd (tk ts))) (dd (tk ts)).length (!byT w)->(∀b o,s.heap.get? b=some o->h'.get? b=some o)->Q (.ref s.heap.objs.size) { s with heap:=h',toks:=tk' }):
  wpAny (model prog w) A (call (.type "set") [.ref l]) Q E s:=by
 have lS:l<s.heap.objs.size:=by obtain⟨o,e,_⟩:=hl;exact ay e
 refine pK (Q₁:=fun obj t=>obj= .ref s.heap.objs.size/\t={ s with heap:=s.heap.push (cK (!byT w)) }) F.called_set (zm _) (bB3 _ ⟨rfl,rfl⟩) ?_;rintro _ _ ⟨rfl,rfl⟩;have gS:(s.heap.push (cK (!byT w))).get? s.heap.objs.size=some (cK (!byT w)):=bc _ rfl;have tS:Shared.TypeIs { s with heap:=s.heap.push (cK (!byT w)) } (.ref s.heap.objs.size) "set":=⟨_,gS,rfl⟩
 have tl:(s.heap.push (cK (!byT w))).IsList l items:=hl.at fun o e=>af _ e
 refine⟨tS,qv F.called_set.init.plain zn (zo tS ?_)⟩;obtain⟨⟨oc,od,oda,osl⟩,ho,hc,n0,hd⟩:=id tl
 dsimp only at hc hd
 subst hc hd;have f1:=F.sub_list_set;have f2:=F.sub_list_frozenset;have f3:(Value.type "list" == Value.type "dict")=false:=by decide
 have T1:Heap.IsList (Shared.heap { s with heap:=s.heap.push (cK (!byT w)) }) l items:=tl;unfold Builtin.«set.__init__» noKeywords Builtin.Frozenset.updateFrom
 wp_walk using ly T1
 have z1:(s.heap.push (cK (!byT w))).objs.size=s.heap.objs.size+1:=kq ..;have hne:l≠(s.heap.push (cK (!byT w))).objs.size:=by rw[z1];exact bw (km lS)
 have hSf:s.heap.objs.size∉[(s.heap.push (cK (!byT w))).objs.size,l]:=by
  rw[z1];simp only[List.mem_cons,List.not_mem_nil,or_false,not_or];exact⟨bw (ek _),js lS⟩
 have gS2:((s.heap.push (cK (!byT w))).push { cls:= .type "list_iterator",data:= .fields #[.ref l,.int 0 0] }).get? s.heap.objs.size=some (cK (!byT w)):=af _ gS;refine aK1 (led:= !byT w) (A:=A.in1.in1) ((Walks.list (show A.in1.in1.in1.handled=none from hh) _ l hne items).toS) s.heap.objs.size hSf ts hk hi hb (items.size-0) 0 _ rfl (bu _) ⟨⟨_,bc _ rfl,rfl,rfl⟩,tl.at fun o e=>af _ e⟩
  ⟨_,_,_,_,⟨gS2,⟨rfl,rfl,rfl⟩,rfl⟩,⟨fun e he=>absurd he (by simp),fun k=>⟨fun z=>absurd z (by simp[dd,hJ,tk]),(by rintro⟨e,he,_⟩;exact absurd he (by simp))⟩⟩,⟨by decide,rfl,rfl⟩,rfl,fun z=>absurd z (by simp[dd,tk])⟩ fun s' hm hS'=>?_
 obtain⟨h',g',d',tk',os'⟩:=s';obtain rfl:g'=s.gens:=hm.gens;obtain rfl:d'=s.drawn:=hm.drawn;obtain rfl:os'=s.os:=hm.os;refine ak (ak ⟨rfl,q h' tk' hS' fun b o e=>hm.heap b o ?_ (af _ (af _ e))⟩);have bl:=ay e;rw[z1];simp only[List.mem_cons,List.not_mem_nil,or_false,not_or];exact⟨bw bl,bw (km bl)⟩
end
def rS (P:Program)(w:World)(a:Addr)(ts:List Str):HO:= .ext fun h=>gH P w h a (hJ (dd (tk ts))) (dd (tk ts)).length (!byT w)
def jQ:∀{ts:List Str}{us},bM (ts.map V.str) us->∀(i:Nat) (v),us[i]?=some v->∃x t,ts[i]?=some x/\v= .str x t
 |[],_,h,i,v,e=>by cases h;simp at e
 |x::r,_,h,i,v,e=>by
  rw[eo] at h
  cases h with
  |cons h1 h2 =>
   cases i with
   |zero =>
    simp only[List.getElem?_cons_zero,Option.some.injEq] at e;subst e;obtain⟨t,rfl⟩:=h1;exact⟨x,t,rfl,rfl⟩
   |succ i=>exact jQ h2 i v (by simpa using e)
def aL1 (P)(w)(hr:dL k X.A)(hP:autoParam (X.prog=P) Rq0._auto_1)(hw:autoParam (X.w=w) Rq0._auto_1):eL X (.type "set") (fun xs H Q=>∃(p:Addr) (ts:List Str),xs=[.ref p]/\bJ X.K H p (ts.map V.str)/\(∀ds:List Key,ds.Nodup->(∀j∈ds,j∈tk ts)->ds.length<=4000)/\∀a,H a=none->Q (.ref a) (aN H a (rS P w a ts))):=by
 subst hP hw;intro pins s σ H xs us Q I r h;obtain⟨p,ts,rfl,hp,hl,q⟩:=h;obtain⟨u,rfl,ru⟩:=gP r
 cases ru
 obtain⟨its,rv,pl,_⟩:=I.list hp;have ln:=rv.length;rw[ac] at ln;refine aC4 (items:=its.toArray) (ts:=ts) hr.hd pl.isList (by rw[bn];exact ln) (fun i v e=>jQ rv i v (by simpa using e)) hl fun h' tk hS kp=>?_
 refine⟨.ref s.heap.objs.size,_,I.laid (t':=tk) (o:=rS X.prog X.w s.heap.objs.size ts) kp (aj _) ?_,rfl,q _ (I.hok.fresh (aj _))⟩;refine⟨hS,?_,fun h1 h2 F k2=>F.keep k2⟩;obtain⟨o,_,_,_,⟨ho,_⟩,_⟩:=hS;exact⟨o,ho⟩
def leS (a b:Str):Prop:=a.cps.toList<=b.cps.toList
def bU8 (h:ltCps b.cps.toList a.cps.toList=false):leS a b:=by
 rw[ltCps_eq] at h;exact List.not_lt.mp (of_decide_eq_false h)
def aJ0 (h:leS a b)(k:leS b c):leS a c:=List.le_trans h k
def xI (h:leS a b)(k:leS b a):a=b:=by
 have e:a.cps.toList=b.cps.toList:=List.le_antisymm h k
 cases a
 cases b
 exact ej Str.mk (zq.mp e)
def uH:∀p (l),risingS p l=true->(p::l).Pairwise leS
 |p,[],_=>by simp
 |p,x::r,h=>by
  have h:(!ltCps x.cps.toList p.cps.toList&&risingS x r)=true:=h;rw[mj] at h;have ih:=uH x r h.2;have px:leS p x:=bU8 (by simpa using h.1);refine yj.mpr ⟨fun y hy=>?_,ih⟩;rcases bv.mp hy with e|e
  ·rw[e];exact px
  ·exact aJ0 px ((yj.mp ih).1 y e)
def uR (h:sortedS l=true):l.Pairwise leS:=by
 cases l with
 |nil=>exact tm
 |cons p r=>exact uH p r h
def yG (nl:l.Nodup)(nm:m.Nodup)(h:∀x,x∈l↔x∈m)(sl:sortedS l=true)(sm:sortedS m=true):l=m:=
 List.Perm.eq_of_pairwise (le:=leS) (fun _ _ _ _ x y=>xI x y) (uR sl) (uR sm) ((List.perm_ext_iff_of_nodup nl nm).mpr fun x=>h x)
def nR:∀{vs ss},StrsAre vs ss->bM (ss.map V.str) vs
 |[],[],_=> .nil
 |v::vs,x::ss,h=>by
  have e:=h.all v ao;have q:=h.strs;rw[eo] at q;obtain⟨y,t,rfl⟩:=e;injection q with q1 q2
  cases q1
  refine .cons ⟨t,rfl⟩ (nR ?_);have:=strsAre_map vs fun v hv=>h.all v (aq _ hv)
  rw[q2] at this;exact this
 |[],_::_,h=>by have:=h.strs;simp at this
 |_::_,[],h=>by have:=h.strs;simp at this
section
variable {X:Cx}{k:Nat}
def aJ3 {σ:St}(I:aX X pins σ H s)(hS:StrsAre vs ss)(h64:vs.length<64)(keep:∀b o,s.heap.get? b=some o->h'.get? b=some o)(le:s.heap.objs.size<=h'.objs.size)(q:∀ts':List Str,ts'.Perm ss->sortedS ts'=true->∀l,H l=none->Q (.ref l) (aN H l (.lst (ts'.map V.str)))):
  wpAny (model X.prog X.w) X.A.in1 (newList vs>>=fun l=>holding [l] (call (.builtin "list.sort") [l] [])>>=fun _=>ret l) (fun fin s'=>∃v,fin= .done (.ret v)/\EP X pins σ Q v s') X.xe { s with heap:=h',drawn:=d',toks:=t }:=by
 refine aa (wpAny_newList ?_ (by rw[lm];lia));have hoL:(h'.push (seqObj "list" vs.toArray 0)).get? h'.objs.size=some (seqObj "list" vs.toArray 0):=bc _ rfl;refine aa (dz (ip slot_list_sort ⟨_,hoL,rfl⟩ entry_list_sort (list_sort_treeK strKind_oneLt hoL hS.keysOf (fun v₁ v₂ bS e=>keyKind_strs (by rw[<-e];exact hS)) h64 fun st' hp hs=>⟨_,rfl,?_⟩) (args_list_sort _)));obtain⟨ss',a1,a2,a3⟩:=sorted_out_str hS hp hs;refine ak ⟨_,rfl,?_⟩;obtain⟨e,he⟩:=sortedHeap_at (h:=h'.push (seqObj "list" vs.toArray 0)) (vs:=vs) (out:=(arrOf st').map (·.2)) hoL;refine⟨.ref h'.objs.size,_,(I.draw d').laid (t':=t) (o:= .lst (ss'.map V.str)) (fun b o z=>?_) le ?_,rfl,q ss' a2 a3 _ (I.hok.fresh le)⟩
 ·have z':=keep b o z;have hlt:=ay z';rw[sortedHeap_old (bw hlt) (by rw[size_push'];exact km hlt)];exact af _ z'
 ·refine⟨?_,((arrOf st').map (·.2)).toList,e,nR a1,by rw[qp];exact he⟩;rw[ac,a2.length_eq, <-hS.strs,ac];exact bp (aJ (by lia))
end
section
variable {prog:Program}{w:World}
variable {A:Around}{E:Value->Shared->Prop}{s:Shared}
end
def cE9 (td ty tx:TE):TE:=fun σ H Q=>td σ H fun x H1=>∃a,x= .ref a/\IsD H1 a/\ty σ H1 fun y H2=>tx σ H2 fun z H3=>∃kvs k,H3 a=some (.dK kvs)/\y=kV k/\kvs.length<sizeLine /\
 (∀v,dW kvs k=some v->Q v H3)/\(dW kvs k=none->Q z (aN H3 a (.dK (dP kvs k z))))
def aN1 {σ:St}(I:aX X pins σ H s)(e:H a=some (.dK kvs))(ry:bL (kV k) u)(rx:bL x r)(hz:kvs.length<sizeLine)(h1:∀v,dW kvs k=some v->Q v H)(h2:dW kvs k=none->Q x (aN H a (.dK (dP kvs k x)))):wpAny (model X.prog X.w) A (call (.builtin "dict.setdefault") [.ref a,u,r]) (EP X pins σ Q) E s:=by
 obtain⟨z,hd,vs,rel,dd⟩:=sN I.hok e;refine yb rj dd.typeIs PySem.F.entry_dict_setdefault (PySem.F.args_dict_setdefault_3 _ _ _) (kt_meets_setdefault (aZ X.prog X.w) a (pL ry) hd r) ⟨vs,dd,by rw[<-rel.length];exact z,fun v' hv=>?_,fun hn h' dd' hs=>?_⟩
 ·cases l:dW kvs k with
  |none =>
   have q:valueAt vs k=none:=jN.none_of (by rw[<-l];exact rel.val k);rw[q] at hv;cases hv
  |some v =>
   obtain⟨w',hw,rw'⟩:=jN.some_of (v:=v) (o:=valueAt vs k) (by rw[<-l];exact rel.val k);rw[hw] at hv
   cases hv
   exact⟨v,H,I.tok _,rw',h1 v l⟩
 ·cases l:dW kvs k with
  |some v =>
   obtain⟨w',hw,rw'⟩:=jN.some_of (v:=v) (o:=valueAt vs k) (by rw[<-l];exact rel.val k);rw[hn] at hw;cases hw
  |none =>
   have hl:(dP kvs k x).length<=sizeLine:=by have:=eU kvs k x;lia
   have he:∃q,h'.get? a=some q:=by obtain⟨q,_,_,hq,_⟩:=dd';exact⟨q,hq⟩
   exact⟨x,_,lQ I (by rw[e];exact iy) hs he (rF hl hd (rel.put k rx) dd'),rx,h2 l⟩
def bE8 (ho:PE X o td)(he:PE X e ty)(hf:PE X f tx)(m:M2 X o "setdefault" apos e f cpos):PE X (.Call (.Attribute o "setdefault" apos) [e,f] [] cpos) (cE9 td ty tx):=by
 intro pins s σ H Q I h;refine yv m.base m.few m.line vj rj PySem.F.type_dict_setdefault (cV (ho pins s σ H _ I h) ?_);rintro u s1 ⟨x,H1,I1,rx,a,ex,d,q1⟩;subst ex;obtain rfl:u=Value.ref a:=rx;obtain⟨t1,t2,_⟩:=aN8 I1 d;refine⟨t1,t2,?_⟩;rw[m.trees];refine lu rfl (qm (io (cV (he pins s1 σ H1 _ I1 q1) ?_)));rintro iv s2 ⟨y,H2,I2,ry,q2⟩;refine io (cV (hf pins s2 σ H2 _ I2 q2) ?_);rintro fv s3 ⟨z,H3,I3,rz,kvs,k,ea,ey,hz,q3,q4⟩;refine ki ?_;subst ey;exact aN1 I3 ea ry rz hz q3 q4
section
variable {P:Program}{w:World}{H:Hp}{h:Heap}{a:Addr}
end
section
variable {X:Cx}{pins:List (Addr×Obj)}{σ:St}{H:Hp}{s:Shared}{a:Addr}{y v:V}{u r:Value}{o:Option V}{A:Around}{E:Value->Shared->Prop}
end
section
variable {X:Cx}{o i e value:Expr}{pos pos' tpos:Pos}{td ty tv:TE}{k:Nat}
end
section
variable {X:Cx}
end
section
variable {prog:Program}{w:World}{A:Around}{E:Value->Shared->Prop}{s:Shared}{d it v:Addr}{o:Obj}{es:Array DictEntry}{ep i:Nat}
end
open PySem PySem.Spec PyProof.Rows PySem.MeetsSeq
section
variable {X:Cx}{pins:List (Addr×Obj)}{σ:St}{H:Hp}{s:Shared}
end
open PySem PySem.Spec PyProof.Rows
section
variable {prog:Program}{w:World}{A:Around}{d it v:Addr}{o:Obj}{es:Array DictEntry}{ep:Nat}
end
section
variable {X:Cx}{pins:List (Addr×Obj)}{σ:St}{H:Hp}{s:Shared}{d:Addr}{vs:List V}
end
section
variable {X:Cx}
end
section
variable {X:Cx}{pins:List (Addr×Obj)}{σ:St}{H:Hp}{s:Shared}{A:Around}{E:Value->Shared->Prop}
end
section
variable {X:Cx}{o i e value:Expr}{pos pos' tpos:Pos}{td ty tv:TE}{k:Nat}
end
section
variable {prog:Program}{w:World}{K:Type} [DecidableEq K] {knd:HeapKind prog w K}{A:Around}{E:Value->Shared->Prop}{s:Shared}{d a:Addr}{xs:List (K×Addr×Value)}{k:K}
end
section
variable {X:Cx}{pins:List (Addr×Obj)}{σ:St}{H:Hp}{s:Shared}{A:Around}{E:Value->Shared->Prop}
end
section
variable {X:Cx}{o e f:Expr}{apos cpos:Pos}{td ty tx:TE}
end
section
variable {prog:Program}{w:World}{A:Around}{E:Value->Shared->Prop}{s:Shared}{d:Addr}{o:Obj}{es:Array DictEntry}{ep:Nat}{hh:Int}{Q:Option Nat->Shared->Prop}
end
section
variable {prog:Program}{w:World}{K:Type} [DecidableEq K] {knd:HeapKind prog w K}{A:Around}{E:Value->Shared->Prop}{s:Shared}{d a:Addr}{xs:List (K×Addr×Value)}{k:K}
end
section
variable {X:Cx}{o e f:Expr}{apos cpos:Pos}{td ty tx:TE}{k:Nat}
end
section
variable {X:Cx}{pins:List (Addr×Obj)}{σ:St}{H:Hp}{s:Shared}{A:Around}{E:Value->Shared->Prop}
end
section
variable {prog:Program}{w:World}{A:Around}{d it:Addr}{o:Obj}{es:Array DictEntry}{ep:Nat}
def aN4(hh:A.handled=none)(hne:d≠it)(h3:o.data= .dict es ep) :
  Walks prog w A it [it,d] [it] es.size (fun i v=>∃e,es[i]?=some e/\v=e.key) (fun i h=>h.IsKeyIter it d i es.size ep/\h.get? d=some o) where
 sub:=fun b hb=>by simp at hb;simp[hb]
 frame:=fun _ _ _ st hk=>⟨let⟨oi,q1,q2⟩:=st.1;⟨oi,hk it (by simp) _ q1,q2⟩,hk d (by simp) _ st.2⟩
 item:=fun i s Q E hi st hQ=>aX5 st.1 st.2 h3 (nz hi) fun h' hit' sb=>hQ _ h' s.toks ⟨_,nz hi,rfl⟩ ⟨hit',(sb.2 d hne).trans st.2⟩ fun b o hb e=>(sb.2 b (fun z=>hb (by simp[z]))).trans e
 done:=fun s Q E st hQ=>bJ4 hh st.1 st.2 h3 (Array.getElem?_eq_none (aj _)) fun h' k=>hQ h' s.toks fun b o hb e=>k b o (fun z=>hb (by simp[z])) e
 self:=fun _ _ _ _ st hQ=>xa st.1 hQ
def bR7(lo:(d==sysModules)=false)(h2:o.ExactDict)(h3:o.data= .dict es ep):W.KdlSrc prog w "dict" d d es.size (fun i x=>∃e,es[i]?=some e/\x=e.key) (fun h=>h.get? d=some o) where
 type:=fun _ x=>⟨o,x,h2.1⟩
 there:=fun _ x=>⟨ay x,ay x⟩
 keep:=fun _ _ x k=>k d (.inl rfl) _ x
 notList:=by decide
 notTuple:=by decide
 hint:=fun _ _ _ _ x q=>W.kdl_hint_dict ⟨o,x,h2.1⟩ q
 iter:=fun _ _ hh x=>⟨_,_,(fun _ _ q=>aV5 lo x h2 h3 q),aN4 hh (bw (ay x)) h3,⟨⟨_,bc _ rfl,rfl,rfl⟩,af _ x⟩⟩
end
section
variable {X:Cx}
end
open PySem PySem.Spec PyProof.Rows PySem.MeetsSeq
def yJ (x y:V):Prop:=(∃i,x= .int i/\y= .int i)\/(∃z,x= .str z/\y= .str z)\/∃a,x= .ref a/\y= .ref a
def uP (H:Hp):Nat->V->V->Prop
 |0,x,y=>yJ x y
 |n+1,x,y=>yJ x y\/∃a b xs ys,x= .ref a/\y= .ref b/\H a=some (.tup xs)/\H b=some (.tup ys)/\Paired (uP H n) xs ys
def xC (n):(List.range n).all (fun _=>true)=true:=kw.mpr fun _ _=>rfl
def lU:∀{xs ys}{i:Nat}{a b},Paired F xs ys->xs[i]?=some a->ys[i]?=some b->F a b
 |_,_,i,_,_,.nil,h,_=>by simp at h
 |_,_,0,_,_,.cons r _,h1,h2=>by simp at h1 h2;subst h1 h2;exact r
 |_,_,i+1,_,_,.cons _ t,h1,h2=>lU (i:=i) t (by simpa using h1) (by simpa using h2)
section
variable {X:Cx}{pins:List (Addr×Obj)}{σ:St}{H:Hp}{s:Shared}
def aC3 (hx:jI k u=true)(hy:jI j v=true):SeqAt.EqAt A s u v (decide (k=j)):=fun prog w E Q q=>(aZ prog w).eqBool (a:=k) (b:=j) hx hy q
def aH8 (h:yJ x y)(rx:bL x u)(ry:bL y v):SeqAt.EqAt A s u v true:=by
 rcases h with⟨i,rfl,rfl⟩|⟨z,rfl,rfl⟩|⟨a,rfl,rfl⟩
 ·obtain⟨t1,rfl⟩:=rx;obtain⟨t2,rfl⟩:=ry;have:=aC3 (s:=s) (A:=A) (lY i t1) (lY i t2)
  rwa [ag rfl] at this
 ·obtain⟨t1,rfl⟩:=rx;obtain⟨t2,rfl⟩:=ry;have:=aC3 (s:=s) (A:=A) (gK z t1) (gK z t2)
  rwa [ag rfl] at this
 ·cases rx
  cases ry
  exact vn _
def zY (I:aX X pins σ H s):∀n (A) {x y u v},uP H n x y->bL x u->bL y v->A.units+n+1<cLine->SeqAt.EqAt A s u v true
 |0,A,_,_,_,_,h,rx,ry,_=>aH8 h rx ry
 |n+1,A,x,y,u,v,h,rx,ry,hu=>by
  rcases h with h|⟨a,b,xs,ys,rfl,rfl,ha,hb,p⟩
  ·exact aH8 h rx ry
  cases rx
  cases ry
  by_cases e:a=b
  ·subst e;exact vn _
  obtain⟨its,r1,p1,_⟩:=I.tuple (aQ.of ha);obtain⟨its2,r2,p2,_⟩:=I.tuple (aQ.of hb);have l1:=r1.length;have l2:=r2.length;have l3:=gg p;have g:=zd (A:=A) (s:=s) (e:=fun _=>true) p1 p2 (by lia) fun j h1 h2=>?_
  ·have ee:((List.range (min its.toArray.size its2.toArray.size)).all (fun _=>true)&&its.toArray.size==its2.toArray.size)=true:=by
    rw[xC,sw,bn,bn, <-l1, <-l2,l3];simp
   rw[ee] at g;exact SeqAt.EqAt.of_refs e g
  ·have hj:j<xs.length:=by rw[l1];simpa using h1
   have hj2:j<ys.length:=by rw[<-l3];exact hj
   obtain⟨w1,g1,q1⟩:=r1.get (bo hj);obtain⟨w2,g2,q2⟩:=r2.get (bo hj2);have e1:its.toArray[j]=w1:=by have:=(bf.mp g1).2;simpa using this
   have e2:its2.toArray[j]=w2:=by have:=(bf.mp g2).2;simpa using this
   rw[e1,e2];exact zY I n A.in1 (lU p (bo hj) (bo hj2)) q1 q2 (by show A.units+1+n+1<cLine;lia)
inductive bQ2(K:W.Frag)(b:Bool)(x y:V)(H:Hp)(Q:VK):Prop
 |mk:∀p q xs ys n,x= .ref p->y= .ref q->aQ K H p xs->aQ K H q ys->Paired (uP H n) xs ys->n<=40->Q (.bl b) H->bQ2 K b x y H Q
def pJ (hr:dL k X.A):jU X (compareOp .Eq) (bQ2 X.K true):=by
 intro pins s σ H x y v u Q I rx ry h;obtain⟨a,b,xs,ys,n,rfl,rfl,ha,hb,p,hn,q⟩:=h
 cases rx
 cases ry
 obtain⟨its,r1,p1,_⟩:=I.tuple ha;obtain⟨its2,r2,p2,_⟩:=I.tuple hb;have l1:=r1.length;have l2:=r2.length;have l3:=gg p;have hu:=hr.units;have g:=zd (A:=X.A) (s:=s) (e:=fun _=>true) p1 p2 (by lia) fun j h1 h2=>?_
 ·refine g _ _ _ _ ⟨.bl _,H,I,rfl,?_⟩;rw[show((List.range (min its.toArray.size its2.toArray.size)).all (fun _=>true)&&its.toArray.size==its2.toArray.size)=true by
   rw[xC,sw,bn,bn, <-l1, <-l2,l3];simp]
  exact q
 ·have hj:j<xs.length:=by rw[l1];simpa using h1
  have hj2:j<ys.length:=by rw[<-l3];exact hj
  obtain⟨w1,g1,q1⟩:=r1.get (bo hj);obtain⟨w2,g2,q2⟩:=r2.get (bo hj2);have e1:its.toArray[j]=w1:=by have:=(bf.mp g1).2;simpa using this
  have e2:its2.toArray[j]=w2:=by have:=(bf.mp g2).2;simpa using this
  rw[e1,e2];exact zY I n X.A.in1 (lU p (bo hj) (bo hj2)) q1 q2 (by show X.A.units+1+n+1<cLine;lia)
def aK5 (hr:dL k X.A):jU X (compareOp .NotEq) (bQ2 X.K false):=by
 intro pins s σ H x y v u Q I rx ry h;obtain⟨a,b,xs,ys,n,rfl,rfl,ha,hb,p,hn,q⟩:=h
 cases rx
 cases ry
 obtain⟨its,r1,p1,_⟩:=I.tuple ha;obtain⟨its2,r2,p2,_⟩:=I.tuple hb;have l1:=r1.length;have l2:=r2.length;have l3:=gg p;have hu:=hr.units;have g:=xq (A:=X.A) (s:=s) (e:=fun _=>true) p1 p2 (by lia) fun j h1 h2=>?_
 ·refine g _ _ _ _ ⟨.bl _,H,I,rfl,?_⟩;rw[show(!((List.range (min its.toArray.size its2.toArray.size)).all (fun _=>true)&&its.toArray.size==its2.toArray.size))=false by
   rw[xC,sw,bn,bn, <-l1, <-l2,l3];simp]
  exact q
 ·have hj:j<xs.length:=by rw[l1];simpa using h1
  have hj2:j<ys.length:=by rw[<-l3];exact hj
  obtain⟨w1,g1,q1⟩:=r1.get (bo hj);obtain⟨w2,g2,q2⟩:=r2.get (bo hj2);have e1:its.toArray[j]=w1:=by have:=(bf.mp g1).2;simpa using this
  have e2:its2.toArray[j]=w2:=by have:=(bf.mp g2).2;simpa using this
  rw[e1,e2];exact zY I n X.A.in1 (lU p (bo hj) (bo hj2)) q1 q2 (by show X.A.units+1+n+1<cLine;lia)
def aH7 {ts vs:List Str}(r1:bM (ts.map V.str) us)(r2:bM (vs.map V.str) ws)(j)(h1)(h2:j<ws.length):SeqAt.EqAt A s us[j] ws[j] (decide (ts.getD j Str.empty=vs.getD j Str.empty)):=by
 obtain⟨x,t1,e1,q1⟩:=jQ r1 j _ (bo h1);obtain⟨y,t2,e2,q2⟩:=jQ r2 j _ (bo h2);rw[q1,q2];have d1:ts.getD j Str.empty=x:=by rw[sy,e1];rfl
 have d2:vs.getD j Str.empty=y:=by rw[sy,e2];rfl
 rw[d1,d2];have:=aC3 (s:=s) (A:=A) (gK x t1) (gK y t2)
 rwa [show decide ((Sum.inr x:Key)=Sum.inr y)=decide (x=y) by simp] at this
def xM {ts vs:List Str}(h:ts.length=vs.length):(List.range ts.length).all (fun j=>decide (ts.getD j Str.empty=vs.getD j Str.empty))=decide (ts=vs):=by
 rw[ig,kw,fg]
 constructor
 ·intro k;refine zr h fun i h1 h2=>?_
  have:=ae (k i (jg.mpr h1))
  simpa [List.getD,h1,h2] using this
 ·rintro rfl i _;exact ag rfl
inductive aZ9(K:W.Frag)(x y:V)(H:Hp)(Q:VK):Prop
 |mk:∀(p q:Addr) (ts vs:List Str),x= .ref p->y= .ref q->(((bJ K H p (ts.map V.str)/\bJ K H q (vs.map V.str))\/(aQ K H p (ts.map V.str)/\aQ K H q (vs.map V.str))))->Q (.bl (!decide (ts=vs))) H->aZ9 K x y H Q
def aQ5 (hr:dL k X.A):jU X (compareOp .NotEq) (aZ9 X.K):=by
 intro pins s σ H x y v u Q I rx ry h;obtain⟨a,b,ts,vs,rfl,rfl,hab,q⟩:=h
 cases rx
 cases ry
 have hu:=hr.units;rcases hab with⟨ha,hb⟩|⟨ha,hb⟩
 ·obtain⟨its,r1,p1,_⟩:=I.list ha;obtain⟨its2,r2,p2,_⟩:=I.list hb;have l1:=r1.length;have l2:=r2.length;rw[ac] at l1 l2
  by_cases e:ts.length=vs.length
  ·have g:=SeqAt.RcNeAt.lists (A:=X.A) (s:=s) (e:=fun j=>decide (ts.getD j Str.empty=vs.getD j Str.empty)) p1.isList p2.isList (by simp;lia) (by lia) fun j h1 h2=>by
    have:=aH7 (s:=s) (A:=X.A.in1) r1 r2 j (by simpa using h1) (by simpa using h2)
    simpa using this
   refine g _ _ _ _ ⟨.bl _,H,I,rfl,?_⟩;rw[bn, <-l1,xM e];exact q
  ·have g:=SeqAt.RcNeAt.lists_lengths (A:=X.A) (s:=s) p1.isList p2.isList (by simp;lia) (by lia);refine g _ _ _ _ ⟨.bl _,H,I,rfl,?_⟩;rw[ba (fun z=>e (by rw[z]))] at q;exact q
 ·obtain⟨its,r1,p1,_⟩:=I.tuple ha;obtain⟨its2,r2,p2,_⟩:=I.tuple hb;have l1:=r1.length;have l2:=r2.length;rw[ac] at l1 l2;have g:=xq (A:=X.A) (s:=s) (e:=fun j=>decide (ts.getD j Str.empty=vs.getD j Str.empty)) p1 p2 (by lia) fun j h1 h2=>by
   have:=aH7 (s:=s) (A:=X.A.in1) r1 r2 j (by simpa using h1) (by simpa using h2)
   simpa using this
  refine g _ _ _ _ ⟨.bl _,H,I,rfl,?_⟩;rw[bn,bn, <-l1, <-l2]
  by_cases e:ts.length=vs.length
  ·rw[show min ts.length vs.length=ts.length by lia,xM e];rw[show(ts.length==vs.length)=true by simpa using e,Bool.and_true];exact q
  ·rw[show(ts.length==vs.length)=false by simpa using e,Bool.and_false];rw[ba (fun z=>e (by rw[z]))] at q;exact q
def xW (hr:dL k X.A):eL X (.builtin "sorted") (fun xs H Q=>∃(p:Addr) (ts:List Str),xs=[.ref p]/\bJ X.K H p (ts.map V.str)/\ts.length<64 /\
  ∀ts':List Str,ts'.Perm ts->sortedS ts'=true->∀l,H l=none->Q (.ref l) (aN H l (.lst (ts'.map V.str)))):=by
 intro pins s σ H xs us Q I r h;obtain⟨p,ts,rfl,hp,hz,q⟩:=h;obtain⟨u,rfl,ru⟩:=gP r
 cases ru
 obtain⟨its,rv,pl,_⟩:=I.list hp;have ln:=rv.length;rw[ac] at ln;have hS:StrsAre its ts:=by
  have a1:=strsAre_map its fun v hv=>by
   obtain⟨i,hi,rfl⟩:=re hv;obtain⟨x,t,_,q⟩:=jQ rv i _ (bo hi);exact⟨x,t,q⟩
  have a2:its.map strOf=ts:=by
   refine zr (by rw[ac];exact ln.symm) fun i p q'=>?_
   have hi:i<its.length:=by simpa using p
   obtain⟨x,t,e,q⟩:=jQ rv i _ (bo hi);rw[List.getElem_map,q];exact((bf.mp e).2).symm
  rw[a2] at a1;exact a1
 refine Calls.call_function_entry kind_sorted plain_sorted entry_sorted (args_sorted1 _) ?_;unfold Builtin.«sorted»;refine aa (m:=checkCount "sorted" 1 1 _) (ak ?_);refine aa (collect_list pl.isList ?_);have:=aJ3 (h':=(s.heap.push (seqObj "list" #[] 0)).update s.heap.objs.size (Obj.mapSeq (· ++its.toArray))) (d':=s.drawn) (t:=s.toks) I hS (by lia) (fun b o e=>by
  rw[dy _ _ _ _ (bw (ay e))];exact af _ e) (by rw[Heap.size_update,size_push'];exact fw _) q
 exact this
def aM3 (P)(w)(hP:autoParam (X.prog=P) Rq0._auto_1)(hw:autoParam (X.w=w) Rq0._auto_1):eL X (.builtin "len") (fun xs H Q=>∃(a:Addr) (ts:List Str),xs=[.ref a]/\H a=some (rS P w a ts)/\Q (.int (dd (tk ts)).length) H):=by
 subst hP hw;intro pins s σ H xs us Q I r h;obtain⟨a,ts,rfl,ha,q⟩:=h;obtain⟨u,rfl,ru⟩:=gP r
 cases ru
 obtain⟨hS,_,_⟩:=(show bZ X.prog X.w H s.heap a (rS X.prog X.w a ts) from I.hok a _ ha)
 obtain⟨o,es,ep,t,ho,hex,hd,_,_,hb,hf,hn⟩:=hS.of;rw[<-hn] at q;exact call_len_set ho hex hd hf (by unfold scanBound at hb;lia) ⟨.int es.size,H,I.tok _,⟨_,rfl⟩,q⟩
end
end L2
namespace Mine
open PySem L2
def dH (ν:Str->Str):Tm->Tm->Prop
 |.num _ n,t=>∃p,t= .num p n
 |.nam _ x,t=>∃p,t= .nam p (ν x)
 |.op _ s a b,t=>∃p a' b',t= .op p s a' b'/\dH ν a a'/\dH ν b b'
abbrev UR:=Str->List V->List V->Prop
mutual
def dI(U:UR)(ν:Str->Str):Rw->Rw->Prop
 |.thr _ w x us am,r=>∃p us',r= .thr p w (ν x) us' am/\U w us us'
 |.lt _ x t,r=>∃p t',r= .lt p (ν x) t'/\dH ν t t'
 |.tell _ t,r=>∃p t',r= .tell p t'/\dH ν t t'
 |.when _ _ _ t a b,r=>∃p pa pb t' a' b',r= .when p pa pb t' a' b'/\dH ν t t'/\bF U ν a a'/\bF U ν b b'
 |.times _ _ n b,r=>∃p pb b',r= .times p pb n b'/\bF U ν b b'
def bF(U:UR)(ν:Str->Str):List Rw->List Rw->Prop
 |[],qs=>qs=[]
 |r::rs,qs=>∃q qs',qs=q::qs'/\dI U ν r q/\bF U ν rs qs'
end
def dH.size:∀{t u},dH ν t u->u.size=t.size
 |.num _ _,_,⟨_,e⟩=>by rw[e];rfl
 |.nam _ _,_,⟨_,e⟩=>by rw[e];rfl
 |.op _ _ a b,_,⟨_,a',b',e,h,k⟩=>by rw[e];simp only[Tm.size,dH.size h,dH.size k]
def dH.ok:∀{t u},dH ν t u->t.ok->u.ok
 |.num _ _,_,⟨_,e⟩,h=>by rw[e];exact h
 |.nam _ _,_,⟨_,e⟩,_=>by rw[e];trivial
 |.op _ _ a b,_,⟨_,a',b',e,h,k⟩,o=>by rw[e];exact⟨o.1,dH.ok h o.2.1,dH.ok k o.2.2⟩
def dH.names:∀{t u},dH ν t u->u.names=t.names.map ν
 |.num _ _,_,⟨_,e⟩=>by rw[e];rfl
 |.nam _ _,_,⟨_,e⟩=>by rw[e];rfl
 |.op _ _ a b,_,⟨_,a',b',e,h,k⟩=>by rw[e];simp only[Tm.names,dH.names h,dH.names k,List.map_append]
def dH.fine (h:dH ν t u)(f:t.fine):u.fine:=⟨h.ok f.1,by rw[h.size];exact f.2⟩
mutual
def dI.cnt{U:UR}{ν:Str->Str}:∀{r q:Rw},dI U ν r q->q.cnt=r.cnt
 |.thr _ _ _ _ _,_,⟨_,_,e,_⟩=>by rw[e];rfl
 |.lt _ _ _,_,⟨_,_,e,_⟩=>by rw[e];rfl
 |.tell _ _,_,⟨_,_,e,_⟩=>by rw[e];rfl
 |.when _ _ _ _ a b,_,⟨_,_,_,_,_,_,e,_,h,k⟩=>by rw[e];simp only[Rw.cnt,bF.cnt h,bF.cnt k]
 |.times _ _ _ b,_,⟨_,_,_,e,h⟩=>by rw[e];simp only[Rw.cnt,bF.cnt h]
def bF.cnt{U:UR}{ν:Str->Str}:∀{rs qs:List Rw},bF U ν rs qs->bP qs=bP rs
 |[],_,e=>by rw[show _=[] from e]
 |r::rs,_,⟨_,_,e,h,k⟩=>by rw[e];simp only[bP,dI.cnt h,bF.cnt k]
end
mutual
def dI.tel{U:UR}{ν:Str->Str}:∀{r q:Rw},dI U ν r q->tel q=tel r
 |.thr _ _ _ _ _,_,⟨_,_,e,_⟩=>by rw[e];rfl
 |.lt _ _ _,_,⟨_,_,e,_⟩=>by rw[e];rfl
 |.tell _ _,_,⟨_,_,e,_⟩=>by rw[e];rfl
 |.when _ _ _ _ a b,_,⟨_,_,_,_,_,_,e,_,h,k⟩=>by rw[e];simp only[Mine.tel,bF.tel h]
 |.times _ _ _ b,_,⟨_,_,_,e,h⟩=>by rw[e];simp only[Mine.tel,bF.tel h]
def bF.tel{U:UR}{ν:Str->Str}:∀{rs qs:List Rw},bF U ν rs qs->eS qs=eS rs
 |[],_,e=>by rw[show _=[] from e]
 |r::rs,_,⟨_,_,e,h,k⟩=>by rw[e];simp only[eS,dI.tel h,bF.tel k]
end
mutual
def dI.telOk{U:UR}{ν:Str->Str}:∀{r q:Rw},dI U ν r q->mI r->mI q
 |.thr _ _ _ _ _,_,⟨_,_,e,_⟩,_=>by rw[e];trivial
 |.lt _ _ _,_,⟨_,_,e,_⟩,_=>by rw[e];trivial
 |.tell _ _,_,⟨_,_,e,_⟩,_=>by rw[e];trivial
 |.when _ _ _ _ a b,_,⟨_,_,_,_,_,_,e,_,h,k⟩,o=>by rw[e];exact⟨by rw[bF.tel h,bF.tel k];exact o.1,bF.telOk h o.2.1,bF.telOk k o.2.2⟩
 |.times _ _ _ b,_,⟨_,_,_,e,h⟩,o=>by rw[e];exact⟨by rw[bF.tel h];exact o.1,bF.telOk h o.2⟩
def bF.telOk{U:UR}{ν:Str->Str}:∀{rs qs:List Rw},bF U ν rs qs->cL rs->cL qs
 |[],_,e,_=>by rw[show _=[] from e];trivial
 |r::rs,_,⟨_,_,e,h,k⟩,o=>by rw[e];exact⟨dI.telOk h o.1,bF.telOk k o.2⟩
end
mutual
def dI.dp{U:UR}{ν:Str->Str}:∀{r q:Rw},dI U ν r q->q.dp=r.dp
 |.thr _ _ _ _ _,_,⟨_,_,e,_⟩=>by rw[e];rfl
 |.lt _ _ _,_,⟨_,_,e,_⟩=>by rw[e];rfl
 |.tell _ _,_,⟨_,_,e,_⟩=>by rw[e];rfl
 |.when _ _ _ _ a b,_,⟨_,_,_,_,_,_,e,_,h,k⟩=>by rw[e];simp only[Rw.dp,bF.dp h,bF.dp k]
 |.times _ _ _ b,_,⟨_,_,_,e,h⟩=>by rw[e];simp only[Rw.dp,bF.dp h]
def bF.dp{U:UR}{ν:Str->Str}:∀{rs qs:List Rw},bF U ν rs qs->jT qs=jT rs
 |[],_,e=>by rw[show _=[] from e]
 |r::rs,_,⟨_,_,e,h,k⟩=>by rw[e];simp only[jT,dI.dp h,bF.dp k]
end
mutual
def aD6:Rw->Prop
 |.thr _ _ _ _ _=>True
 |.lt _ _ t=>t.size<=7
 |.tell _ t=>t.size<=7
 |.when _ _ _ t a b=>t.size<=7/\iZ a/\iZ b
 |.times _ _ _ b=>iZ b
def iZ:List Rw->Prop
 |[]=>True
 |r::rs=>aD6 r/\iZ rs
end
def iZ.app:∀{rs qs},iZ rs->iZ qs->iZ (rs++qs)
 |[],_,_,h=>h
 |_::_,_,⟨h,k⟩,h2=>⟨h,iZ.app k h2⟩
mutual
def dI.tsz{U:UR}{ν:Str->Str}:∀{r q:Rw},dI U ν r q->aD6 r->aD6 q
 |.thr _ _ _ _ _,_,⟨_,_,e,_⟩,_=>by rw[e];trivial
 |.lt _ _ _,_,⟨_,_,e,h⟩,o=>by rw[e];show _<=7;rw[h.size];exact o
 |.tell _ _,_,⟨_,_,e,h⟩,o=>by rw[e];show _<=7;rw[h.size];exact o
 |.when _ _ _ _ a b,_,⟨_,_,_,_,_,_,e,t,h,k⟩,o=>by rw[e];exact⟨by rw[t.size];exact o.1,bF.tsz h o.2.1,bF.tsz k o.2.2⟩
 |.times _ _ _ b,_,⟨_,_,_,e,h⟩,o=>by rw[e];exact bF.tsz (rs:=b) h o
def bF.tsz{U:UR}{ν:Str->Str}:∀{rs qs:List Rw},bF U ν rs qs->iZ rs->iZ qs
 |[],_,e,_=>by rw[show _=[] from e];trivial
 |r::rs,_,⟨_,_,e,h,k⟩,o=>by rw[e];exact⟨dI.tsz h o.1,bF.tsz k o.2⟩
end
mutual
def dI.sc{U:UR}{ν:Str->Str}:∀{r q:Rw}{ks k2:List Str},dI U ν r q->tZ ks r k2->∀ks':List Str,(∀y∈ks,ν y∈ks')->∃k3,tZ ks' q k3/\∀y∈k2,ν y∈k3
 |.thr _ _ x _ _,_,ks,k2,⟨_,_,e,_⟩,h,ks',hk=>by
  rw[e];refine⟨ks'++[ν x],⟨rfl,h.2⟩,fun y hy=>?_⟩;rw[h.1] at hy;rcases bq.mp hy with z|z
  ·exact cj _ (hk y z)
  ·rw[cp.mp z];simp
 |.lt _ x _,_,ks,k2,⟨_,_,e,t⟩,h,ks',hk=>by
  rw[e];refine⟨ks'++[ν x],⟨rfl,fun y hy=>?_⟩,fun y hy=>?_⟩
  ·rw[t.names] at hy;obtain⟨z,hz,rfl⟩:=dj.mp hy;exact hk z (h.2 z hz)
  ·rw[h.1] at hy;rcases bq.mp hy with z|z
   ·exact cj _ (hk y z)
   ·rw[cp.mp z];simp
 |.tell _ _,_,ks,k2,⟨_,_,e,t⟩,h,ks',hk=>by
  rw[e];refine⟨ks',⟨rfl,fun y hy=>?_⟩,fun y hy=>?_⟩
  ·rw[t.names] at hy;obtain⟨z,hz,rfl⟩:=dj.mp hy;exact hk z (h.2 z hz)
  ·rw[h.1] at hy;exact hk y hy
 |.when _ _ _ _ a b,_,ks,k2,⟨_,_,_,_,_,_,e,t,ha,hb⟩,⟨hn,k3,k4,h3,h4,h5⟩,ks',hk=>by
  rw[e];obtain⟨m3,s3,e3⟩:=bF.sc ha h3 ks' hk;obtain⟨m4,s4,e4⟩:=bF.sc hb h4 ks' hk;refine⟨_,⟨fun y hy=>?_,m3,m4,s3,s4,rfl⟩,fun y hy=>?_⟩
  ·rw[t.names] at hy;obtain⟨z,hz,rfl⟩:=dj.mp hy;exact hk z (hn z hz)
  ·rw[h5,dk,fg] at hy;rw[dk,fg];exact⟨e3 y hy.1,e4 y hy.2⟩
 |.times _ _ _ b,_,ks,k2,⟨_,_,_,e,h⟩,o,ks',hk=>by
  rw[e];exact bF.sc (rs:=b) h o ks' hk
def bF.sc{U:UR}{ν:Str->Str}:∀{rs qs:List Rw}{ks k2:List Str},bF U ν rs qs->fZ ks rs k2->∀ks':List Str,(∀y∈ks,ν y∈ks')->∃k3,fZ ks' qs k3/\∀y∈k2,ν y∈k3
 |[],_,ks,k2,e,h,ks',hk=>by
  rw[show _=[] from e];exact⟨ks',rfl,by rw[show k2=ks from h];exact hk⟩
 |r::rs,_,ks,k2,⟨_,_,e,hr,hs⟩,⟨k1,h1,h2⟩,ks',hk=>by
  rw[e];obtain⟨m1,s1,e1⟩:=dI.sc hr h1 ks' hk;obtain⟨m2,s2,e2⟩:=bF.sc hs h2 m1 e1;exact⟨m2,⟨m1,s1,s2⟩,e2⟩
end
mutual
def tZ.wide:∀(r:Rw) {ks k2:List Str}(ks':List Str),tZ ks r k2->(∀y∈ks,y∈ks')->∃k3,tZ ks' r k3/\∀y∈k2,y∈k3
 |.thr _ _ x _ _,ks,k2,ks',h,hk=>⟨ks'++[x],⟨rfl,h.2⟩,fun y hy=>by
  rw[h.1] at hy;rcases bq.mp hy with z|z
  ·exact cj _ (hk y z)
  ·exact br _ z⟩
 |.lt _ x _,ks,k2,ks',h,hk=>⟨ks'++[x],⟨rfl,fun y hy=>hk y (h.2 y hy)⟩,fun y hy=>by
  rw[h.1] at hy;rcases bq.mp hy with z|z
  ·exact cj _ (hk y z)
  ·exact br _ z⟩
 |.tell _ _,ks,k2,ks',h,hk=>⟨ks',⟨rfl,fun y hy=>hk y (h.2 y hy)⟩,fun y hy=>by rw[h.1] at hy;exact hk y hy⟩
 |.when _ _ _ _ a b,ks,k2,ks',⟨hn,k3,k4,h3,h4,h5⟩,hk=>by
  obtain⟨m3,s3,e3⟩:=fZ.wide a ks' h3 hk;obtain⟨m4,s4,e4⟩:=fZ.wide b ks' h4 hk;refine⟨_,⟨fun y hy=>hk y (hn y hy),m3,m4,s3,s4,rfl⟩,fun y hy=>?_⟩;rw[h5,dk,fg] at hy;rw[dk,fg];exact⟨e3 y hy.1,e4 y hy.2⟩
 |.times _ _ _ b,ks,k2,ks',h,hk=>fZ.wide b ks' h hk
def fZ.wide:∀(rs:List Rw) {ks k2:List Str}(ks':List Str),fZ ks rs k2->(∀y∈ks,y∈ks')->∃k3,fZ ks' rs k3/\∀y∈k2,y∈k3
 |[],ks,k2,ks',h,hk=>⟨ks',rfl,by rw[show k2=ks from h];exact hk⟩
 |r::rs,ks,k2,ks',⟨k1,h1,h2⟩,hk=>by
  obtain⟨m1,s1,e1⟩:=tZ.wide r ks' h1 hk;obtain⟨m2,s2,e2⟩:=fZ.wide rs m1 h2 e1;exact⟨m2,⟨m1,s1,s2⟩,e2⟩
end
def fZ.cat:∀{rs qs ks k1 k2},fZ ks rs k1->fZ k1 qs k2->fZ ks (rs++qs) k2
 |[],_,ks,k1,k2,h,h2=>by rw[show k1=ks from h] at h2;exact h2
 |_::_,_,_,_,_,⟨k3,h1,h2⟩,h3=>⟨k3,h1,fZ.cat h2 h3⟩
mutual
def tZ.rf:∀{r:Rw}{ks k2:List Str}(k:Nat),tZ ks r k2->rf k r=[]
 |.thr _ _ _ _ _,_,_,k,h=>by simp only[rf,wB,h.2];rfl
 |.lt _ _ _,_,_,_,_=>rfl
 |.tell _ _,_,_,_,_=>rfl
 |.when _ _ _ _ a b,_,_,k,⟨_,_,_,h3,h4,_⟩=>by simp only[rf,fZ.rf _ h3,fZ.rf _ h4];rfl
 |.times _ _ _ b,ks,k2,k,h=>by simp only[Mine.rf];exact fZ.rf (rs:=b) _ h
def fZ.rf:∀{rs:List Rw}{ks k2:List Str}(k:Nat),fZ ks rs k2->rfL k rs=[]
 |[],_,_,_,_=>rfl
 |r::rs,_,_,k,⟨_,h1,h2⟩=>by simp only[rfL,tZ.rf _ h1,fZ.rf _ h2];rfl
end
mutual
def tZ.uf:∀{r:Rw}{ks k2:List Str}(k:Nat) (kn:List Str),tZ ks r k2->(∀y∈ks,y∈kn)->uf k kn r=[]/\∀y∈k2,y∈lk kn r
 |.thr _ _ x _ _,ks,k2,k,kn,h,hk=>⟨rfl,fun y hy=>by
  rw[h.1] at hy;rcases bq.mp hy with z|z
  ·exact cj _ (hk y z)
  ·exact br _ z⟩
 |.lt _ x _,ks,k2,k,kn,h,hk=>⟨bb fun y hy=>hk y (h.2 y hy),fun y hy=>by
  rw[h.1] at hy;rcases bq.mp hy with z|z
  ·exact cj _ (hk y z)
  ·exact br _ z⟩
 |.tell _ _,ks,k2,k,kn,h,hk=>⟨bb fun y hy=>hk y (h.2 y hy),fun y hy=>by rw[h.1] at hy;exact hk y hy⟩
 |.when _ _ _ t a b,ks,k2,k,kn,⟨hn,k3,k4,h3,h4,h5⟩,hk=>by
  obtain⟨u3,l3⟩:=fZ.uf (k+1) kn h3 hk;obtain⟨u4,l4⟩:=fZ.uf (k+1+bP a) kn h4 hk;refine⟨?_,fun y hy=>?_⟩
  ·simp only[Mine.uf,u3,u4];rw[show tT k kn t.names=[] from bb fun y hy=>hk y (hn y hy)];rfl
  ·rw[h5,dk,fg] at hy;simp only[lk];rw[dk,fg];exact⟨l4 y hy.2,l3 y hy.1⟩
 |.times _ _ _ b,ks,k2,k,kn,h,hk=>by
  have:=fZ.uf (rs:=b) (k+1) kn h hk;simp only[Mine.uf,lk];exact this
def fZ.uf:∀{rs:List Rw}{ks k2:List Str}(k:Nat) (kn:List Str),fZ ks rs k2->(∀y∈ks,y∈kn)->ufL k kn rs=[]/\∀y∈k2,y∈lkL kn rs
 |[],ks,k2,k,kn,h,hk=>⟨rfl,by rw[show k2=ks from h];exact hk⟩
 |r::rs,ks,k2,k,kn,⟨k1,h1,h2⟩,hk=>by
  obtain⟨u1,l1⟩:=tZ.uf k kn h1 hk;obtain⟨u2,l2⟩:=fZ.uf (k+r.cnt) (lk kn r) h2 l1;exact⟨by simp only[ufL,u1,u2];rfl,l2⟩
end
mutual
def mI.tf:∀{r:Rw}(k:Nat),mI r->tf k r=[]
 |.thr _ _ _ _ _,_,_=>rfl
 |.lt _ _ _,_,_=>rfl
 |.tell _ _,_,_=>rfl
 |.when _ _ _ _ a b,k,⟨e,h3,h4⟩=>by simp only[Mine.tf,cL.tf _ h3,cL.tf _ h4,tls,if_pos e];rfl
 |.times _ _ _ b,k,h=>by simp only[Mine.tf];exact cL.tf (rs:=b) _ h.2
def cL.tf:∀{rs:List Rw}(k:Nat),cL rs->tfL k rs=[]
 |[],_,_=>rfl
 |r::rs,k,⟨h1,h2⟩=>by simp only[tfL,mI.tf _ h1,cL.tf _ h2];rfl
end
mutual
def mI.tim:∀{r:Rw},mI r->aA7 r
 |.thr _ _ _ _ _,_=>trivial
 |.lt _ _ _,_=>trivial
 |.tell _ _,_=>trivial
 |.when _ _ _ _ a b,⟨_,h3,h4⟩=>⟨cL.tim h3,cL.tim h4⟩
 |.times _ _ _ b,⟨h,k⟩=>⟨h.1,h.2.1,cL.tim k⟩
def cL.tim:∀{rs:List Rw},cL rs->yN rs
 |[],_=>trivial
 |r::rs,⟨h1,h2⟩=>⟨mI.tim h1,cL.tim h2⟩
end
mutual
def iR:Rw->List Rw
 |.when p pa pb t a b=> .when p pa pb t a b::(dD a++dD b)
 |.times p pb n b=> .times p pb n b::dD b
 |.thr p w x vs am=>[.thr p w x vs am]
 |.lt p x t=>[.lt p x t]
 |.tell p t=>[.tell p t]
def dD:List Rw->List Rw
 |[]=>[]
 |r::rs=>iR r++dD rs
end
mutual
def aH4:∀(r:Rw),(iR r).length=r.cnt
 |.when _ _ _ _ a b=>by have:=eN a;have:=eN b;simp only[iR,Rw.cnt,List.length_cons,List.length_append];lia
 |.times _ _ _ b=>by have:=eN b;simp only[iR,Rw.cnt,List.length_cons];lia
 |.thr _ _ _ _ _=>by simp only[iR,Rw.cnt,List.length_cons,List.length_nil]
 |.lt _ _ _=>by simp only[iR,Rw.cnt,List.length_cons,List.length_nil]
 |.tell _ _=>by simp only[iR,Rw.cnt,List.length_cons,List.length_nil]
def eN:∀(rs:List Rw),(dD rs).length=bP rs
 |[]=>by simp only[dD,bP,List.length_nil]
 |r::rs=>by have:=aH4 r;have:=eN rs;simp only[dD,bP,List.length_append];lia
end
def gM:∀rs qs,dD (rs++qs)=dD rs++dD qs
 |[],qs=>by simp[dD]
 |r::rs,qs=>by simp only[List.cons_append,dD,gM rs qs,List.append_assoc]
def fF (s:Stp):Bool:=decide (s.1="row")
mutual
def aI7:∀(r:Rw) (k:Nat),((cI k r).filter fF).map (·.2.1)=iR r
 |.when p pa pb t a b,k=>by
  simp only[cI,iR];rw[dh (p:=fF) (by unfold fF;exact ag rfl),fj,fj,fj,dw (p:=fF) (by unfold fF;simp[wG]),dw (p:=fF) (by unfold fF;simp[iP])];simp only[List.filter_nil,List.append_nil,List.map_cons,List.map_append,fQ a,fQ b]
 |.times p pb n b,k=>by
  simp only[cI,iR];rw[dh (p:=fF) (by unfold fF;exact ag rfl),fj,dw (p:=fF) (by unfold fF;simp[iP])];simp only[List.filter_nil,List.append_nil,List.map_cons,fQ b]
 |.thr _ _ _ _ _,_=>by simp only[cI,iR];rw[dh (p:=fF) (by unfold fF;exact ag rfl)];rfl
 |.lt _ _ _,_=>by simp only[cI,iR];rw[dh (p:=fF) (by unfold fF;exact ag rfl)];rfl
 |.tell _ _,_=>by simp only[cI,iR];rw[dh (p:=fF) (by unfold fF;exact ag rfl)];rfl
def fQ:∀(rs:List Rw) (k:Nat),((bY k rs).filter fF).map (·.2.1)=dD rs
 |[],_=>rfl
 |r::rs,k=>by simp only[bY,dD,List.filter_append,List.map_append,aI7 r,fQ rs]
end
mutual
def bG0{H:Hp}:∀{r:Rw},eB H r->∀q∈iR r,eB H q
 |.when _ _ _ _ a b,h,q,hq=>by
  rcases bv.mp hq with e|e
  ·rw[e];exact h
  rcases bq.mp e with e|e
  ·exact kA h.2.2.2.2.2.1 q e
  ·exact kA h.2.2.2.2.2.2 q e
 |.times _ _ _ b,h,q,hq=>by
  rcases bv.mp hq with e|e
  ·rw[e];exact h
  ·exact kA h.2.2 q e
 |.thr _ _ _ _ _,h,q,hq=>by rw[cp.mp hq];exact h
 |.lt _ _ _,h,q,hq=>by rw[cp.mp hq];exact h
 |.tell _ _,h,q,hq=>by rw[cp.mp hq];exact h
def kA{H:Hp}:∀{rs:List Rw},aW H rs->∀q∈dD rs,eB H q
 |[],_,q,hq=>absurd hq dq
 |r::rs,h,q,hq=>by
  rcases bq.mp hq with e|e
  ·exact bG0 h.1 q e
  ·exact kA h.2 q e
end
def eF (rs:List Rw):List Str:=(dD rs).filterMap Rw.sets
def pU (r:Rw):List Str:=r.sets.toList++r.asked
def eI (rs:List Rw):List Str:=(dD rs).flatMap pU
def xH (rs qs):eF (rs++qs)=eF rs++eF qs:=by unfold eF;rw[gM,du]
def wH (rs qs):eI (rs++qs)=eI rs++eI qs:=by unfold eI;rw[gM,xt]
def bP1 (h:x∈eF rs):x∈eI rs:=by
 obtain⟨r,hr,e⟩:=jh.mp h;exact jf.mpr ⟨r,hr,cj _ (by rw[e];simp)⟩
def sF (r)(rs):eF (r::rs)=eF [r]++eF rs:=by rw[<-xH];rfl
def sW (r)(rs):eI (r::rs)=eI [r]++eI rs:=by rw[<-wH];rfl
def nJ {p pa pb}:eF [.when p pa pb t a b]=eF a++eF b:=by
 simp only[eF,dD,iR,List.append_nil,List.filterMap_cons,Rw.sets,List.filterMap_append]
def lT {p pb}:eF [.times p pb n b]=eF b:=by
 simp only[eF,dD,iR,List.append_nil,List.filterMap_cons,Rw.sets]
def oE {p pa pb}:eI [.when p pa pb t a b]=t.names++(eI a++eI b):=by
 simp only[eI,dD,iR,List.append_nil,List.flatMap_cons,List.flatMap_append,pU,Rw.sets,Rw.asked,Option.toList,List.nil_append]
def jJ {p pb}:eI [.times p pb n b]=eI b:=by
 simp only[eI,dD,iR,List.append_nil,List.flatMap_cons,pU,Rw.sets,Rw.asked,Option.toList,List.nil_append]
def Clo (ks:List Str)(rs:List Rw)(k2:List Str):Prop:=(∀y∈eI rs,y∈ks\/y∈eF rs)/\∀y∈k2,y∈ks\/y∈eF rs
mutual
def tZ.clo:∀{r:Rw}{ks k2:List Str},tZ ks r k2->Clo ks [r] k2
 |.thr _ _ x _ _,ks,k2,h=>by
  refine⟨fun y hy=> .inr hy,fun y hy=>?_⟩;rw[h.1] at hy;exact bq.mp hy
 |.lt p x t,ks,k2,h=>by
  refine⟨fun y hy=>?_,fun y hy=>?_⟩
  ·have e:eI [Rw.lt p x t]=[x]++t.names:=by simp[eI,dD,iR,pU,Rw.sets,Rw.asked]
   rw[e] at hy;rcases bq.mp hy with z|z
   ·exact .inr z
   ·exact .inl (h.2 y z)
  ·rw[h.1] at hy;exact bq.mp hy
 |.tell p t,ks,k2,h=>by
  refine⟨fun y hy=>?_,fun y hy=>by rw[h.1] at hy;exact .inl hy⟩;have e:eI [Rw.tell p t]=t.names:=by simp[eI,dD,iR,pU,Rw.sets,Rw.asked]
  rw[e] at hy;exact .inl (h.2 y hy)
 |.when p pa pb t a b,ks,k2,⟨hn,k3,k4,h3,h4,h5⟩=>by
  have c3:=fZ.clo h3;have c4:=fZ.clo h4;unfold Clo;rw[oE,nJ];refine⟨fun y hy=>?_,fun y hy=>?_⟩
  ·rcases bq.mp hy with z|z
   ·exact .inl (hn y z)
   rcases bq.mp z with z|z
   ·exact(c3.1 y z).imp_right fun q=>cj _ q
   ·exact(c4.1 y z).imp_right fun q=>br _ q
  ·rw[h5,dk] at hy;exact(c3.2 y hy.1).imp_right fun q=>cj _ q
 |.times p pb n b,ks,k2,h=>by
  have c:=fZ.clo (rs:=b) h;unfold Clo;rw[jJ,lT];exact c
def fZ.clo:∀{rs:List Rw}{ks k2:List Str},fZ ks rs k2->Clo ks rs k2
 |[],ks,k2,h=>⟨fun y hy=>absurd hy dq,fun y hy=>by rw[show k2=ks from h] at hy;exact .inl hy⟩
 |r::rs,ks,k2,⟨k1,h1,h2⟩=>by
  have c1:=tZ.clo h1;have c2:=fZ.clo h2;unfold Clo;rw[sW,sF];have up:∀y,y∈k1\/y∈eF rs->y∈ks\/y∈eF [r]++eF rs:=fun y hy=>by
   rcases hy with z|z
   ·exact(c1.2 y z).imp_right fun q=>cj _ q
   ·exact .inr (br _ z)
  refine⟨fun y hy=>?_,fun y hy=>up y (c2.2 y hy)⟩;rcases bq.mp hy with z|z
  ·exact(c1.1 y z).imp_right fun q=>cj _ q
  ·exact up y (c2.1 y z)
end
mutual
def dI.st{U:UR}{ν:Str->Str}:∀{r q:Rw},dI U ν r q->eF [q]=(eF [r]).map ν
 |.thr _ _ _ _ _,_,⟨_,_,e,_⟩=>by rw[e];rfl
 |.lt _ _ _,_,⟨_,_,e,_⟩=>by rw[e];rfl
 |.tell _ _,_,⟨_,_,e,_⟩=>by rw[e];rfl
 |.when _ _ _ _ a b,_,⟨_,_,_,_,_,_,e,_,h,k⟩=>by rw[e,nJ,nJ,bF.st h,bF.st k,av]
 |.times _ _ _ b,_,⟨_,_,_,e,h⟩=>by rw[e,lT,lT,bF.st h]
def bF.st{U:UR}{ν:Str->Str}:∀{rs qs:List Rw},bF U ν rs qs->eF qs=(eF rs).map ν
 |[],_,e=>by rw[show _=[] from e];rfl
 |r::rs,_,⟨q,qs,e,h,k⟩=>by rw[e,sF,sF r,dI.st h,bF.st k,av]
end
mutual
def dI.nm{U:UR}{ν:Str->Str}:∀{r q:Rw},dI U ν r q->eI [q]=(eI [r]).map ν
 |.thr _ _ _ _ _,_,⟨_,_,e,_⟩=>by rw[e];rfl
 |.lt _ _ _,_,⟨_,_,e,t⟩=>by rw[e];simp[eI,dD,iR,pU,Rw.sets,Rw.asked,t.names]
 |.tell _ _,_,⟨_,_,e,t⟩=>by rw[e];simp[eI,dD,iR,pU,Rw.sets,Rw.asked,t.names]
 |.when _ _ _ _ a b,_,⟨_,_,_,_,_,_,e,t,h,k⟩=>by rw[e,oE,oE,bF.nm h,bF.nm k,av,av,t.names]
 |.times _ _ _ b,_,⟨_,_,_,e,h⟩=>by rw[e,jJ,jJ,bF.nm h]
def bF.nm{U:UR}{ν:Str->Str}:∀{rs qs:List Rw},bF U ν rs qs->eI qs=(eI rs).map ν
 |[],_,e=>by rw[show _=[] from e];rfl
 |r::rs,_,⟨q,qs,e,h,k⟩=>by rw[e,sW,sW r,dI.nm h,bF.nm k,av]
end
abbrev UEq:UR:=fun _ a b=>a=b
def dH.idn:∀t:Tm,dH id t t
 |.num p n=>⟨p,rfl⟩
 |.nam p x=>⟨p,rfl⟩
 |.op p s a b=>⟨p,a,b,rfl,dH.idn a,dH.idn b⟩
def dH.comp:∀{t u v},dH id t u->dH ν u v->dH ν t v
 |.num _ _,_,_,⟨_,e⟩,h=>by subst e;exact h
 |.nam _ _,_,_,⟨_,e⟩,h=>by subst e;exact h
 |.op _ _ a b,_,_,⟨_,a',b',e,h1,h2⟩,h=>by
  subst e;obtain⟨p,c,d,e,k1,k2⟩:=h;exact⟨p,c,d,e,dH.comp h1 k1,dH.comp h2 k2⟩
def dH.told:∀{t u v},dH id t u->dH ν t v->dH ν u v
 |.num _ _,_,_,⟨_,e⟩,h=>by subst e;exact h
 |.nam _ _,_,_,⟨_,e⟩,h=>by subst e;exact h
 |.op _ _ a b,_,_,⟨_,a',b',e,h1,h2⟩,h=>by
  subst e;obtain⟨p,c,d,e,k1,k2⟩:=h;exact⟨p,c,d,e,dH.told h1 k1,dH.told h2 k2⟩
section
variable {U U' D:UR}{ν:Str->Str}
mutual
def dI.mono(hU:∀w a b,U w a b->U' w a b):∀{r q:Rw},dI U ν r q->dI U' ν r q
 |.thr _ _ _ _ _,_,⟨p,us,e,u⟩=>⟨p,us,e,hU _ _ _ u⟩
 |.lt _ _ _,_,h=>h
 |.tell _ _,_,h=>h
 |.when _ _ _ _ a b,_,⟨p,pa,pb,t,a',b',e,ht,h,k⟩=>⟨p,pa,pb,t,a',b',e,ht,bF.mono hU h,bF.mono hU k⟩
 |.times _ _ _ b,_,⟨p,pb,b',e,h⟩=>⟨p,pb,b',e,bF.mono hU h⟩
def bF.mono(hU:∀w a b,U w a b->U' w a b):∀{rs qs:List Rw},bF U ν rs qs->bF U' ν rs qs
 |[],_,e=>e
 |r::rs,_,⟨q,qs,e,h,k⟩=>⟨q,qs,e,dI.mono hU h,bF.mono hU k⟩
end
mutual
def dI.comp:∀{r q s:Rw},dI U id r q->dI UEq ν q s->dI U ν r s
 |.thr _ _ _ _ _,_,_,⟨_,us,e,u⟩,h=>by
  subst e;obtain⟨p,us',e,rfl⟩:=h;exact⟨p,us,e,u⟩
 |.lt _ _ t,_,_,⟨_,t',e,ht⟩,h=>by
  subst e;obtain⟨p,t2,e,k⟩:=h;exact⟨p,t2,e,ht.comp k⟩
 |.tell _ t,_,_,⟨_,t',e,ht⟩,h=>by
  subst e;obtain⟨p,t2,e,k⟩:=h;exact⟨p,t2,e,ht.comp k⟩
 |.when _ _ _ _ a b,_,_,⟨_,_,_,t',a',b',e,ht,ha,hb⟩,h=>by
  subst e;obtain⟨p,pa,pb,t2,a2,b2,e,k,ka,kb⟩:=h;exact⟨p,pa,pb,t2,a2,b2,e,ht.comp k,bF.comp ha ka,bF.comp hb kb⟩
 |.times _ _ _ b,_,_,⟨_,_,b',e,hb⟩,h=>by
  subst e;obtain⟨p,pb,b2,e,kb⟩:=h;exact⟨p,pb,b2,e,bF.comp hb kb⟩
def bF.comp:∀{rs qs ss:List Rw},bF U id rs qs->bF UEq ν qs ss->bF U ν rs ss
 |[],_,_,e,h=>by rw[show _=[] from e] at h;exact h
 |r::rs,_,_,⟨_,_,e,h1,h2⟩,h=>by
  subst e;obtain⟨s,ss,e,k1,k2⟩:=h;exact⟨s,ss,e,dI.comp h1 k1,bF.comp h2 k2⟩
end
mutual
def dI.told(hU:∀w us a b,U w us a->U w us b->D w a b):∀{r q s:Rw},dI U id r q->dI U ν r s->dI D ν q s
 |.thr _ _ _ _ _,_,_,⟨_,us,e,u⟩,⟨p,us',e',u'⟩=>by
  subst e;exact⟨p,us',e',hU _ _ _ _ u u'⟩
 |.lt _ _ t,_,_,⟨_,t',e,ht⟩,⟨p,t2,e',k⟩=>by
  subst e;exact⟨p,t2,e',ht.told k⟩
 |.tell _ t,_,_,⟨_,t',e,ht⟩,⟨p,t2,e',k⟩=>by
  subst e;exact⟨p,t2,e',ht.told k⟩
 |.when _ _ _ _ a b,_,_,⟨_,_,_,t',a',b',e,ht,ha,hb⟩,⟨p,pa,pb,t2,a2,b2,e',k,ka,kb⟩=>by
  subst e;exact⟨p,pa,pb,t2,a2,b2,e',ht.told k,bF.told hU ha ka,bF.told hU hb kb⟩
 |.times _ _ _ b,_,_,⟨_,_,b',e,hb⟩,⟨p,pb,b2,e',kb⟩=>by
  subst e;exact⟨p,pb,b2,e',bF.told hU hb kb⟩
def bF.told(hU:∀w us a b,U w us a->U w us b->D w a b):∀{rs qs ss:List Rw},bF U id rs qs->bF U ν rs ss->bF D ν qs ss
 |[],_,_,e,h=>by rw[show _=[] from e,show _=[] from h];rfl
 |r::rs,_,_,⟨_,_,e,h1,h2⟩,⟨s,ss,e',k1,k2⟩=>by
  subst e;exact⟨s,ss,e',dI.told hU h1 k1,bF.told hU h2 k2⟩
end
end
def sp (n:Nat):Str:=if n<26 then ⟨#[97+n]⟩ else ⟨#[97+(n / 26-1),97+n % 26]⟩
def kI (z:Str):Bool:=decide (1<=z.length/\z.length<=8)&&(!decide (z∈fV)&&decide (∀c∈z.cps.toList,97<=c/\c<=122))
def aF6 {a b:Str}(h:a=b):a.cps.toList=b.cps.toList:=by rw[h]
def sH (n):(sp n).cps.toList=if n<26 then [97+n] else [97+(n / 26-1),97+n % 26]:=by
 unfold sp
 split<;>rfl
def aP1 (hn:n<200)(hm:m<200)(h:sp n=sp m):n=m:=by
 have e:=aF6 h;rw[sH,sH] at e
 split at e<;>split at e
 ·simp at e;exact e
 ·simp at e
 ·simp at e
 ·simp only[List.cons.injEq,and_true] at e;lia
def zL (n):(sp n).length=if n<26 then 1 else 2:=by
 show(sp n).cps.size=_;rw[<-ef,sH]
 split<;>rfl
def bH0 (hn:n<200):sp n∉fV:=by
 intro h;have l:=zL n;have l2:(sp n).length<=2:=by rw[l];split<;>lia
 simp only[fV,List.mem_cons,List.not_mem_nil,or_false] at h;rcases h with h|h|h|h|h|h|h|h|h|h|h|h
 all_goals first
  |(rw[h] at l2;exact absurd l2 (by decide))
  |skip
 have e:=aF6 h;rw[sH] at e;have of:("of": Str).cps.toList=[111,102]:=by decide
 rw[of] at e
 split at e
 ·simp at e
 ·simp only[List.cons.injEq,and_true] at e;lia
def bK8 (hn:n<200):kI (sp n)=true:=by
 unfold kI;rw[ag,ba (bH0 hn),ag]
 ·rfl
 ·intro c hc;rw[sH] at hc
  split at hc
  ·simp only[List.mem_cons,List.not_mem_nil,or_false] at hc;lia
  ·simp only[List.mem_cons,List.not_mem_nil,or_false] at hc;lia
 ·rw[zL];split<;>lia
def uU {α:Type}(p):∀L:List α,L.length=(L.filter p).length+(L.filter fun x=> !p x).length
 |[]=>rfl
 |a::L=>by
  have:=uU p L
  cases c:p a with
  |true=>rw[dh c,dw (by simp[c])];simp only[List.length_cons];lia
  |false=>rw[dw (by simp[c]),dh (by simp[c])];simp only[List.length_cons];lia
def aN2:∀{L T:List Str},L.Nodup->(∀x∈L,x∈T)->L.length<=T.length
 |[],_,_,_=>bu _
 |a::L,T,nd,h=>by
  have nd:=de.mp nd;have ha:=h a ao;have:=aN2 (T:=T.erase a) nd.2 fun x hx=>(List.mem_erase_of_ne fun e=>nd.1 (by rw[<-e];exact hx)).mpr (h x (aq _ hx))
  rw[List.length_erase_of_mem ha] at this;have:0<T.length:=List.length_pos_of_mem ha;simp only[List.length_cons];lia
def jX (T:List Str)(n:Nat):Bool:= !decide (sp n∈T)
def fr (T:List Str):List Nat:=(List.range 200).filter (jX T)
def pR (m:Nat)(T:List Str):Prop:=∃D:List Str,D.length<=m/\∀x∈T,x∈D
def pR.le {T L:List Str}(h:pR m T)(nd:L.Nodup)(hL:∀x∈L,x∈T):L.length<=m:=by obtain⟨_,l,k⟩:=h;exact cm (aN2 nd fun x hx=>k x (hL x hx)) l
def pR.sub (h:pR m T)(k:∀x∈S,x∈T):pR m S:=by obtain⟨D,l,q⟩:=h;exact⟨D,l,fun x hx=>q x (k x hx)⟩
def pR.app (h:pR m T)(k:pR n S):pR (m+n) (T++S):=by
 obtain⟨D,l,q⟩:=h;obtain⟨E,l2,q2⟩:=k;refine⟨D++E,by rw[ah];lia,fun x hx=>?_⟩;rcases bq.mp hx with z|z
 ·exact cj _ (q x z)
 ·exact br _ (q2 x z)
def pR.len (h:T.length<=m):pR m T:=⟨T,h,fun _ z=>z⟩
def pR.mono (h:pR m T)(k:m<=n):pR n T:=by obtain⟨D,l,q⟩:=h;exact⟨D,cm l k,q⟩
def pR.map (h:pR m T)(f):pR m (T.map f):=by
 obtain⟨D,l,q⟩:=h;refine⟨D.map f,by rw[ac];exact l,fun x hx=>?_⟩;obtain⟨y,hy,rfl⟩:=dj.mp hx;exact jd (q y hy)
def aD8 (h:pR 100 T):100<=(fr T).length:=by
 have e:=uU (jX T) (List.range 200);have k:=h.le (L:=((List.range 200).filter fun n=> !jX T n).map sp) ?_ fun x hx=>?_
 ·rw[ac] at k;rw[List.length_range] at e;unfold fr;lia
 ·refine List.Pairwise.map sp (S:=fun a b=>a≠b) (R:=fun a b=>a≠b/\a<200/\b<200) (by rintro a b ⟨z,y,w⟩ q;exact z (aP1 y w q)) ?_;have nd:(List.range 200).Nodup:=List.nodup_range;refine List.Pairwise.imp_of_mem ?_ (nd.filter fun n=> !jX T n);intro a b ha hb z;exact⟨z,jg.mp (dk.mp ha).1,jg.mp (dk.mp hb).1⟩
 ·obtain⟨n,hn,rfl⟩:=dj.mp hx;have:=(dk.mp hn).2
  simpa [jX] using this
def tP (a):List.range (a+1)=List.range a++[a]:=List.range_succ
def aP2 (T)(h:a<=200):fr T=(List.range a).filter (jX T)++((List.range' a (200-a)).filter (jX T)):=by
 unfold fr;rw[<-fj]
 congr 1
 rw[xf,xf];have:=List.range'_append_1 (s:=0) (m:=a) (n:=200-a);rw[Nat.zero_add,show a+(200-a)=200 by lia] at this;exact this.symm
def cD6 (ha:a<200)(hg:jX T a=true)(hj:((List.range a).filter (jX T)).length=j):(fr T)[j]?=some a/\((List.range (a+1)).filter (jX T)).length=j+1:=by
 refine⟨?_,?_⟩
 ·rw[aP2 T (bp ha),ke (by lia),hj,yh];rw[show 200-a=(200-a-1)+1 by lia,List.range'_succ,dh hg];rfl
 ·rw[tP,fj,ah,hj,dh hg];rfl
def bX4 (hg:jX T a=false)(hj:((List.range a).filter (jX T)).length=j):((List.range (a+1)).filter (jX T)).length=j:=by
 rw[tP,fj,ah,hj,dw (by rw[hg];exact bh)];rfl
def cD7 (ha:a<=200)(hj:((List.range a).filter (jX T)).length=j)(h:j<(fr T).length):a<200:=by
 rcases Nat.lt_or_ge a 200 with z|z
 ·exact z
 ·have:a=200:=by lia
  subst this;unfold fr at h;lia
def aA0 (h:n∈fr T):n<200/\sp n∉T:=by
 obtain⟨a,b⟩:=dk.mp h;exact⟨jg.mp a,by simpa [jX] using b⟩
def cD4 (T):(fr T).Nodup:=List.nodup_range.filter _
def ass (T bs:List Str):List (Str×Str):=(bs.zip (fr T)).map fun p=>(p.1,sp p.2)
def uB (T bs:List Str)(x:Str):Str:=((ass T bs).lookup x).getD x
def rH {bs:List Str}:∀{y},((bs.zip ns).map fun p=>(p.1,sp p.2)).lookup x=some y->x∈bs/\∃n∈ns,y=sp n:=by
 induction bs generalizing ns with
 |nil=>intro y h;simp at h
 |cons b bs ih =>
  intro y h
  cases ns with
  |nil=>simp at h
  |cons n ns =>
   simp only[List.zip_cons_cons,List.map_cons,List.lookup_cons] at h
   cases c:x==b with
   |true =>
    rw[c] at h;simp only[Option.some.injEq] at h;exact⟨by rw[yd c];exact ao,n,ao,h.symm⟩
   |false =>
    rw[c] at h;obtain⟨p,m,q,r⟩:=ih h;exact⟨aq _ p,m,aq _ q,r⟩
def pC {bs:List Str}:∀{ns},x∈bs->bs.length<=ns.length->∃y,((bs.zip ns).map fun p=>(p.1,sp p.2)).lookup x=some y:=by
 induction bs with
 |nil=>intro ns h;exact absurd h dq
 |cons b bs ih =>
  intro ns h hl
  cases ns with
  |nil=>simp at hl
  |cons n ns =>
   simp only[List.zip_cons_cons,List.map_cons,List.lookup_cons]
   cases c:x==b with
   |true=>exact⟨_,rfl⟩
   |false =>
    rcases bv.mp h with z|z
    ·rw[z] at c;simp at c
    ·exact ih z (by simpa using hl)
def sI (h:x∉bs):uB T bs x=x:=by
 unfold uB
 cases e:(ass T bs).lookup x with
 |none=>rfl
 |some y=>exact absurd (rH e).1 h
def cF3 (h:x∈bs)(hl:bs.length<=(fr T).length):∃n∈fr T,uB T bs x=sp n:=by
 obtain⟨y,e⟩:=pC h hl;obtain⟨_,n,hn,q⟩:=rH e;refine⟨n,hn,?_⟩;unfold uB ass;rw[e];exact q
def tK (h:x∈bs)(hl:bs.length<=(fr T).length):uB T bs x∉T/\kI (uB T bs x)=true:=by
 obtain⟨n,hn,e⟩:=cF3 h hl;obtain⟨a,b⟩:=aA0 hn;rw[e];exact⟨b,bK8 a⟩
def vP {bs:List Str}:∀{ns y},((bs.zip ns).map fun p=>(p.1,sp p.2)).lookup x=some y->∃(i n:Nat),bs[i]?=some x/\ns[i]?=some n/\y=sp n:=by
 induction bs with
 |nil=>intro ns y h;simp at h
 |cons b bs ih =>
  intro ns y h
  cases ns with
  |nil=>simp at h
  |cons n ns =>
   simp only[List.zip_cons_cons,List.map_cons,List.lookup_cons] at h
   cases c:x==b with
   |true =>
    rw[c] at h;simp only[Option.some.injEq] at h;exact⟨0,n,by rw[yd c];rfl,rfl,h.symm⟩
   |false =>
    rw[c] at h;obtain⟨i,m,p,q,r⟩:=ih h;exact⟨i+1,m,by simpa using p,by simpa using q,r⟩
def bW7 (hl:bs.length<=(fr T).length)(hx:x∈bs)(hy:y∈bs)(h:uB T bs x=uB T bs y):x=y:=by
 obtain⟨u,e⟩:=pC hx hl;obtain⟨v,f⟩:=pC hy hl;obtain⟨i,n,i1,i2,i3⟩:=vP e;obtain⟨j,m,j1,j2,j3⟩:=vP f;unfold uB ass at h;rw[e,f] at h;have h:u=v:=h;rw[i3,j3] at h;have a:=(aA0 (bg i2)).1;have b:=(aA0 (bg j2)).1;have nm:=aP1 a b h;subst nm;have ij:i=j:=by
  have nd:=cD4 T;obtain⟨p1,p2⟩:=bf.mp i2;obtain⟨q1,q2⟩:=bf.mp j2;exact(ui (h₀:=p1) (h₁:=q1) nd).mp (by rw[p2,q2])
 subst ij;rw[i1] at j1;exact cu j1
def nY (ν:Str->Str)(K1 K2 N1 N2:List Str):Prop:=∃bs:List Str,bs.Nodup/\PyProof.Rows.sortedS bs=true/\(∀x,x∈bs↔x∈N2/\x∈N1)/\bs.length<=60/\pR 100 (K1++K2++N1++N2)/\ν=uB (K1++K2++N1++N2) bs
section
variable {ν:Str->Str}{K1 K2 N1 N2:List Str}
def nY.one (h:nY ν K1 K2 N1 N2)(k:nY μ K1 K2 N1 N2):ν=μ:=by
 obtain⟨bs,a1,a2,a3,_,_,rfl⟩:=h;obtain⟨cs,b1,b2,b3,_,_,rfl⟩:=k;rw[yG a1 b1 (fun x=>(a3 x).trans (b3 x).symm) a2 b2]
def nY.old (h:nY ν K1 K2 N1 N2)(hx:¬(x∈N2/\x∈N1)):ν x=x:=by
 obtain⟨bs,a1,a2,a3,_,_,rfl⟩:=h;exact sI fun z=>hx ((a3 x).mp z)
def nY.new (h:nY ν K1 K2 N1 N2)(h2:x∈N2)(h1:x∈N1):ν x∉K1++K2++N1++N2/\kI (ν x)=true:=by
 obtain⟨bs,a1,a2,a3,a4,a5,rfl⟩:=h;exact tK ((a3 x).mpr ⟨h2,h1⟩) (by have:=aD8 a5;lia)
def nY.inj (h:nY ν K1 K2 N1 N2)(hx:x∈N2)(hy:y∈N2)(e:ν x=ν y):x=y:=by
 obtain⟨bs,a1,a2,a3,a4,a5,rfl⟩:=id h;have hl:bs.length<=(fr (K1++K2++N1++N2)).length:=by have:=aD8 a5;lia
 by_cases c:x∈bs<;>by_cases d:y∈bs
 ·exact bW7 hl c d e
 ·have:=(tK c hl).1;rw[e,sI d] at this;exact absurd (br _ hy) this
 ·have:=(tK d hl).1;rw[<-e,sI c] at this;exact absurd (br _ hx) this
 ·rwa [sI c,sI d] at e
end
def vS (v:V):Prop:=yJ v v
def iU (h:yJ x y):∀n,uP H n x y
 |0=>h
 |_+1=> .inl h
def oI (x):yJ (.str x) (.str x):= .inr (.inl ⟨x,rfl,rfl⟩)
def rA (x):yJ (.int x) (.int x):= .inl ⟨x,rfl,rfl⟩
def bJ7 (x):yJ (.ref x) (.ref x):= .inr (.inr ⟨x,rfl,rfl⟩)
def kS:∀{t t1 t2}(n),dH ν t t1->dH ν t t2->mE H t1->mE H t2->t.size<=n->uP H n (.ref t1.p) (.ref t2.p)
 |.num _ m,_,_,n,⟨p,e⟩,⟨q,f⟩,h1,h2,hn=>by
  subst e f
  cases n with
  |zero=>exact absurd hn (by simp[Tm.size])
  |succ n=>exact .inr ⟨p,q,_,_,rfl,rfl,h1,h2,.cons (iU (oI _) n) (.cons (iU (rA _) n) .nil)⟩
 |.nam _ x,_,_,n,⟨p,e⟩,⟨q,f⟩,h1,h2,hn=>by
  subst e f
  cases n with
  |zero=>exact absurd hn (by simp[Tm.size])
  |succ n=>exact .inr ⟨p,q,_,_,rfl,rfl,h1,h2,.cons (iU (oI _) n) (.cons (iU (oI _) n) .nil)⟩
 |.op _ s a b,_,_,n,⟨p,a1,b1,e,ea,eb⟩,⟨q,a2,b2,f,fa,fb⟩,h1,h2,hn=>by
  subst e f;simp only[Tm.size] at hn
  cases n with
  |zero=>exact absurd hn (by lia)
  |succ n=>exact .inr ⟨p,q,_,_,rfl,rfl,h1.1,h2.1,.cons (iU (oI _) n) (.cons (iU (oI _) n) (.cons (kS n ea fa h1.2.1 h2.2.1 (by lia)) (.cons (kS n eb fb h1.2.2 h2.2.2 (by lia)) .nil)))⟩
def qO (d:Nat):Nat:=2*d+9
mutual
def bB5{H:Hp}{U:UR}{ν:Str->Str}(hU:∀(n:Nat) w us a b,2<=n->U w us a->U w us b->Paired (uP H n) a b):∀{r r1 r2:Rw}(n:Nat),dI U ν r r1->dI U ν r r2->eB H r1->eB H r2->aD6 r->qO r.dp<=n->uP H n (.ref r1.p) (.ref r2.p)
 |.thr _ w x us am,_,_,n+1,⟨p,u1,e,k1⟩,⟨q,u2,f,k2⟩,h1,h2,z,hn=>by
  subst e f;simp only[qO,Rw.dp] at hn;exact .inr ⟨p,q,_,_,rfl,rfl,h1.1,h2.1,.cons (iU (oI _) n) (.cons (iU (oI _) n) (hU n _ _ _ _ (by lia) k1 k2))⟩
 |.lt _ x t,_,_,n+1,⟨p,t1,e,a⟩,⟨q,t2,f,b⟩,h1,h2,z,hn=>by
  subst e f;have z:t.size<=7:=z;simp only[qO,Rw.dp] at hn;exact .inr ⟨p,q,_,_,rfl,rfl,h1.1,h2.1,.cons (iU (oI _) n) (.cons (iU (oI _) n) (.cons (kS n a b h1.2.1 h2.2.1 (by lia)) .nil))⟩
 |.tell _ t,_,_,n+1,⟨p,t1,e,a⟩,⟨q,t2,f,b⟩,h1,h2,z,hn=>by
  subst e f;have z:t.size<=7:=z;simp only[qO,Rw.dp] at hn;exact .inr ⟨p,q,_,_,rfl,rfl,h1.1,h2.1,.cons (iU (oI _) n) (.cons (kS n a b h1.2.1 h2.2.1 (by lia)) .nil)⟩
 |.when _ _ _ t a b,_,_,n+2,⟨p,pa,pb,t1,a1,b1,e,et,ea,eb⟩,⟨q,qa,qb,t2,a2,b2,f,ft,fa,fb⟩,h1,h2,z,hn=>by
  subst e f;have z1:t.size<=7:=z.1;simp only[qO,Rw.dp] at hn;obtain⟨g1,g2,_,g4,g5,g6,g7⟩:=h1;obtain⟨k1,k2,_,k4,k5,k6,k7⟩:=h2;refine .inr ⟨p,q,_,_,rfl,rfl,g1,k1,.cons (iU (oI _) _) (.cons (kS _ et ft g2 k2 (by lia)) (.cons (.inr ⟨pa,qa,_,_,rfl,rfl,g4,k4,?_⟩) (.cons (.inr ⟨pb,qb,_,_,rfl,rfl,g5,k5,?_⟩) .nil)))⟩
  ·exact iN hU n ea fa g6 k6 z.2.1 (by simp only[qO];lia)
  ·exact iN hU n eb fb g7 k7 z.2.2 (by simp only[qO];lia)
 |.times _ _ m b,_,_,n+2,⟨p,pb,b1,e,eb⟩,⟨q,qb,b2,f,fb⟩,h1,h2,z,hn=>by
  subst e f;simp only[qO,Rw.dp] at hn;obtain⟨g1,g2,g3⟩:=h1;obtain⟨k1,k2,k3⟩:=h2;refine .inr ⟨p,q,_,_,rfl,rfl,g1,k1,.cons (iU (oI _) _) (.cons (iU (rA _) _) (.cons (.inr ⟨pb,qb,_,_,rfl,rfl,g2,k2,?_⟩) .nil))⟩;exact iN hU (rs:=b) n eb fb g3 k3 z (by simp only[qO];lia)
 |.thr _ _ _ _ _,_,_,0,_,_,_,_,_,hn=>absurd hn (by simp[qO])
 |.lt _ _ _,_,_,0,_,_,_,_,_,hn=>absurd hn (by simp[qO])
 |.tell _ _,_,_,0,_,_,_,_,_,hn=>absurd hn (by simp[qO])
 |.when _ _ _ _ _ _,_,_,0,_,_,_,_,_,hn=>absurd hn (by simp[qO])
 |.when _ _ _ _ _ _,_,_,1,_,_,_,_,_,hn=>absurd hn (by simp only[qO];lia)
 |.times _ _ _ _,_,_,0,_,_,_,_,_,hn=>absurd hn (by simp[qO])
 |.times _ _ _ _,_,_,1,_,_,_,_,_,hn=>absurd hn (by simp only[qO];lia)
def iN{H:Hp}{U:UR}{ν:Str->Str}(hU:∀(n:Nat) w us a b,2<=n->U w us a->U w us b->Paired (uP H n) a b):∀{rs r1 r2:List Rw}(n:Nat),bF U ν rs r1->bF U ν rs r2->aW H r1->aW H r2->iZ rs->qO (jT rs)<=n->PySem.Paired (uP H n) (r1.map fun r=>V.ref r.p) (r2.map fun r=>V.ref r.p)
 |[],_,_,n,e,f,_,_,_,_=>by rw[show _=[] from e,show _=[] from f];exact .nil
 |r::rs,_,_,n,⟨q1,s1,e,a1,b1⟩,⟨q2,s2,f,a2,b2⟩,h1,h2,z,hn=>by
  subst e f;simp only[qO,jT] at hn;exact .cons (bB5 hU n a1 a2 h1.1 h2.1 z.1 (by simp only[qO];lia)) (iN hU n b1 b2 h1.2 h2.2 z.2 (by simp only[qO];lia))
end
def uP.ts (t:TS H H'):∀n {x y},uP H n x y->uP H' n x y
 |0,_,_,h=>h
 |_+1,_,_,.inl h=> .inl h
 |n+1,_,_,.inr ⟨a,b,xs,ys,e1,e2,h1,h2,p⟩=> .inr ⟨a,b,xs,ys,e1,e2,t _ _ h1,t _ _ h2,by
  clear h1 h2
  induction p with
  |nil=>exact .nil
  |cons r _ ih=>exact .cons (uP.ts t n r) ih⟩
def iQ:∀{us},(∀u∈us,vS u)->Paired (uP H n) us us
 |[],_=> .nil
 |u::us,h=> .cons (iU (h u ao) n) (iQ fun v hv=>h v (aq _ hv))
def mU:∀{as bs cs ds:List V},Paired R as bs->Paired R cs ds->Paired R (as++cs) (bs++ds)
 |[],_,_,_,.nil,k=>k
 |_::_,_,_,_,.cons h t,k=> .cons h (mU t k)
def plc (w:Str):Nat:=if w="first" then 5 else 2
def kM (w:Str):Bool:=lV (V.str w) [V.str "ladder",V.str "flat"]
def okS (H:Hp)(s:Addr):Prop:=∃ws,H s=some (.tup ws)/\ws.length<=3/\∀u∈ws,vS u
def OkS (H:Hp)(v:V):Prop:=∃a,v= .ref a/\okS H a
def okS.ts (t:TS H H')(h:okS H s):okS H' s:=by obtain⟨ws,e,k⟩:=h;exact⟨ws,t _ _ e,k⟩
def OkS.ts (t:TS H H')(h:OkS H v):OkS H' v:=by obtain⟨a,e,k⟩:=h;exact⟨a,e,k.ts t⟩
def OkS.sm (h:OkS H v):Sm H v:=by obtain⟨a,e,ws,k,l,_⟩:=h;exact⟨a,ws,e,k,by lia⟩
def tE (H:Hp)(o:Bool)(s:Addr):Prop:=match o with
 |true=>okS H s
 |false=>∃ss,H s=some (.tup ss)/\ss.length<=3/\∀u∈ss,OkS H u
def UsH (H:Hp)(w:Str)(us:List V):Prop:=∃pre s post,us=pre++ .ref s::post/\pre.length+2=plc w/\(∀u∈pre,vS u)/\(∀u∈post,vS u)/\tE H (kM w) s
def tE.ts (t:TS H H')(h:tE H o s):tE H' o s:=by
 cases o with
 |true=>exact okS.ts t h
 |false=>obtain⟨ss,e,l,k⟩:=h;exact⟨ss,t _ _ e,l,fun u hu=>(k u hu).ts t⟩
def UsH.ts (t:TS H H')(h:UsH H w us):UsH H' w us:=by obtain⟨pre,s,post,e,l,k1,k2,k3⟩:=h;exact⟨pre,s,post,e,l,k1,k2,k3.ts t⟩
def UsH.two (hp:plc w=2)(hs:tE H (kM w) s)(hy:vS y):UsH H w [.ref s,y,.int lo,.int hi]:=⟨[],s,_,rfl,hp.symm,(fun _ z=>nomatch z),(fun u h=>by
 simp only[List.mem_cons,List.not_mem_nil,or_false] at h;rcases h with rfl|rfl|rfl
 ·exact hy
 ·exact rA _
 ·exact rA _),hs⟩
def UsH.six (hs:tE H false s):UsH H "first" [.int mk,.ref a,.ref b,.ref s,.int lo,.int hi]:=⟨[.int mk,.ref a,.ref b],s,_,rfl,(show 3+2=plc "first" by decide),(fun u h=>by
 simp only[List.mem_cons,List.not_mem_nil,or_false] at h;rcases h with rfl|rfl|rfl
 ·exact rA _
 ·exact bJ7 _
 ·exact bJ7 _),(fun u h=>by
 simp only[List.mem_cons,List.not_mem_nil,or_false] at h;rcases h with rfl|rfl
 ·exact rA _
 ·exact rA _),by rw[show kM "first"=false by decide];exact hs⟩
def UsR (H:Hp):Rw->Prop
 |.thr _ w _ us _=>UsH H w us
 |.lt _ _ _=>True
 |.tell _ _=>True
 |.when _ _ _ _ _ _=>True
 |.times _ _ _ _=>True
def UsR.ts (t:TS H H'):∀{r},UsR H r->UsR H' r
 |.thr _ _ _ _ _,h=>UsH.ts t h
 |.lt _ _ _,_=>trivial
 |.tell _ _,_=>trivial
 |.when _ _ _ _ _ _,_=>trivial
 |.times _ _ _ _,_=>trivial
def lO (H:Hp)(L:List Rw):Prop:=∀q∈L,UsR H q
def lO.ts (h:lO H L)(t:TS H H'):lO H' L:=fun q hq=>(h q hq).ts t
def nM (H:Hp)(A B:List V)(s s':Addr):Prop:=∃ws,H s=some (.tup ws)/\H s'=some (.tup (A++ws++B))/\ws.length<=3/\∀u∈ws,vS u
def kX (H:Hp)(A B:List V)(v u:V):Prop:=∃a b,u= .ref a/\v= .ref b/\nM H A B a b
def yS (H:Hp)(A B:List V)(o:Bool)(s s':Addr):Prop:=match o with
 |true=>nM H A B s s'
 |false=>∃ss ss',H s=some (.tup ss)/\H s'=some (.tup ss')/\ss.length<=3/\fM (kX H A B) ss' ss
def dG (H:Hp)(A B:List V):UR:=fun w us us'=>∃pre s s' post,us=pre++ .ref s::post/\us'=pre++ .ref s'::post/\pre.length+2=plc w/\(∀u∈pre,vS u)/\(∀u∈post,vS u)/\yS H A B (kM w) s s'
def nM.ts (t:TS H H')(h:nM H A B s s'):nM H' A B s s':=by obtain⟨ws,e,f,k⟩:=h;exact⟨ws,t _ _ e,t _ _ f,k⟩
def kX.ts (t:TS H H')(h:kX H A B v u):kX H' A B v u:=by obtain⟨a,b,e,f,k⟩:=h;exact⟨a,b,e,f,k.ts t⟩
def yS.ts (t:TS H H')(h:yS H A B o s s'):yS H' A B o s s':=by
 cases o with
 |true=>exact nM.ts t h
 |false=>obtain⟨ss,ss',e,f,l,k⟩:=h;exact⟨ss,ss',t _ _ e,t _ _ f,l,k.mono fun _ _ z=>z.ts t⟩
def dG.ts (t:TS H H')(w)(a b)(h:dG H A B w a b):dG H' A B w a b:=by obtain⟨pre,s,s',post,e,f,l,k1,k2,k3⟩:=h;exact⟨pre,s,s',post,e,f,l,k1,k2,k3.ts t⟩
def nM.deq (hA:∀u∈A,vS u)(hB:∀u∈B,vS u)(n)(h:nM H A B s a)(k:nM H A B s b):uP H (n+1) (.ref a) (.ref b):=by
 obtain⟨ws,e1,e2,_,ok⟩:=h;obtain⟨ws',f1,f2,_⟩:=k;rw[e1] at f1
 cases f1
 exact .inr ⟨a,b,_,_,rfl,rfl,e2,f2,iQ fun u hu=>by
  rcases bq.mp hu with z|z
  ·rcases bq.mp z with z|z
   ·exact hA u z
   ·exact ok u z
  ·exact hB u z⟩
def kX.deq (hA:∀u∈A,vS u)(hB:∀u∈B,vS u)(n):∀{ss xs ys},fM (kX H A B) xs ss->fM (kX H A B) ys ss->Paired (uP H (n+1)) xs ys
 |[],[],[],_,_=> .nil
 |_::_,_::_,_::_,⟨⟨a,b,e,f,h⟩,t⟩,⟨⟨a',b',e',f',h'⟩,t'⟩=>by
  subst e f f'
  cases e'
  exact .cons (nM.deq hA hB n h h') (kX.deq hA hB n t t')
 |[],_::_,_,h,_=>h.elim
 |[],[],_::_,_,h=>h.elim
 |_::_,[],_,h,_=>h.elim
 |_::_,_::_,[],_,h=>h.elim
def dG.deq (hA:∀u∈A,vS u)(hB:∀u∈B,vS u)(n)(w)(us a b)(hn:2<=n)(h:dG H A B w us a)(k:dG H A B w us b):Paired (uP H n) a b:=by
 obtain⟨pre,s,s1,post,e,rfl,l,k1,k2,k3⟩:=h;obtain⟨pre',s',s2,post',e',rfl,l',_,_,k3'⟩:=k;rw[e] at e';obtain⟨ea,eb⟩:=List.append_inj e' (by lia);injection eb with ec ed
 injection ec with ec
 subst ea ec ed;refine mU (iQ k1) (.cons ?_ (iQ k2));obtain⟨m,rfl⟩:∃m,n=m+1+1:=⟨n-2,by lia⟩
 cases o:kM w with
 |true =>
  rw[o] at k3 k3';exact nM.deq hA hB _ k3 k3'
 |false =>
  rw[o] at k3 k3';obtain⟨ss,x1,f1,f2,_,tw⟩:=k3;obtain⟨ss',x2,g1,g2,_,tw'⟩:=k3';rw[f1] at g1
  cases g1
  exact .inr ⟨s1,s2,_,_,rfl,rfl,f2,g2,kX.deq hA hB m tw tw'⟩
def nM.sm (hA:A.length<=3)(hB:B.length<=3)(h:nM H A B s s'):Sm H (.ref s'):=by
 obtain⟨ws,_,e,l,_⟩:=h;exact⟨s',_,rfl,e,by rw[ah,ah];lia⟩
def kX.sms (hA:A.length<=3)(hB:B.length<=3):∀{ss xs},fM (kX H A B) xs ss->∀u∈xs,Sm H u
 |[],[],_,u,h=>absurd h dq
 |_::_,_::_,⟨⟨a,b,e,f,h⟩,t⟩,u,hu=>by
  subst e f;rcases bv.mp hu with rfl|z
  ·exact h.sm hA hB
  ·exact kX.sms hA hB t u z
 |[],_::_,h,_,_=>h.elim
 |_::_,[],h,_,_=>h.elim
def dG.thr (hA:A.length<=3)(hB:B.length<=3)(ok:kQ H w us am)(h:dG H A B w us us'):kQ H w us' am:=by
 obtain⟨pre,s,s',post,e,rfl,l,_,_,k⟩:=h;rcases ok with⟨hw,a,b,lo,hi,e2,_,h3⟩|⟨rfl,a,b,lo,hi,e2,_,h3⟩|⟨rfl,mark,a,q,c,lo,hi,x,y,e2,h2,_,h4⟩
 ·have p2:plc w=2/\kM w=true:=by
   simp only[List.mem_cons,List.not_mem_nil,or_false] at hw;rcases hw with rfl|rfl<;>decide
  rw[p2.1] at l;rw[p2.2] at k;obtain rfl:pre=[]:=lv (by lia);rw[e] at e2
  cases e2
  exact .inl ⟨hw,_,_,_,_,rfl,nM.sm hA hB k,h3⟩
 ·rw[show plc "choose"=2 by decide] at l;rw[show kM "choose"=false by decide] at k;obtain rfl:pre=[]:=lv (by lia);rw[e] at e2
  cases e2
  obtain⟨ss,ss',g1,g2,g3,tw⟩:=k;exact .inr (.inl ⟨rfl,_,_,_,_,rfl,⟨s',ss',rfl,g2,by rw[tw.length];lia,kX.sms hA hB tw⟩,h3⟩)
 ·rw[show plc "first"=5 by decide] at l;rw[show kM "first"=false by decide] at k;rw[e] at e2
  match pre,l,e2 with
  |[p1,p2,p3],_,e2 =>
   cases e2
   obtain⟨ss,ss',g1,g2,g3,tw⟩:=k;exact .inr (.inr ⟨rfl,_,_,_,_,_,_,_,_,rfl,h2,⟨s',ss',rfl,g2,by rw[tw.length];lia,kX.sms hA hB tw⟩,h4⟩)
end Mine
namespace L2
open PySem PySem.Spec PyProof.Rows
def dM {α:Type}{us:List α}(h:us.length=n+1):∃u r,us=u::r/\r.length=n:=by
 cases us with
 |nil=>cases h
 |cons u r=>exact⟨u,r,rfl,Nat.succ.inj h⟩
section
variable {K:W.Frag}{x qual:Str}{st:Stmt}{f:Addr}{fd:FuncData}{p1 p2 p3 p4 p5:Str}
def nA.b1 (F:nA K x qual st f fd)(h:∀kV doc pm (an) (cdv ct u1),bindArgs (W.fnOf x qual (bX st) (bI st) (aL st) .none kV doc pm an cdv ct) ⟨[u1],[]⟩=pure [(p1,u1)]):gY K fd [p1] []:=by
 refine F.binds fun kV doc pm an cdv ct us h0=>?_
 obtain⟨u1,r1,rfl,h1⟩:=dM (n:=0) h0
 cases jb.mp h1
 exact h kV doc pm an cdv ct u1
def nA.b2 (F:nA K x qual st f fd)(h:∀kV doc pm (an) (cdv ct u1 u2),bindArgs (W.fnOf x qual (bX st) (bI st) (aL st) .none kV doc pm an cdv ct) ⟨[u1,u2],[]⟩=pure [(p1,u1),(p2,u2)]):gY K fd [p1,p2] []:=by
 refine F.binds fun kV doc pm an cdv ct us h0=>?_
 obtain⟨u1,r1,rfl,h1⟩:=dM (n:=1) h0;obtain⟨u2,r2,rfl,h2⟩:=dM (n:=0) h1
 cases jb.mp h2
 exact h kV doc pm an cdv ct u1 u2
def nA.b3 (F:nA K x qual st f fd)(h:∀kV doc pm (an) (cdv ct u1 u2 u3),bindArgs (W.fnOf x qual (bX st) (bI st) (aL st) .none kV doc pm an cdv ct) ⟨[u1,u2,u3],[]⟩=pure [(p1,u1),(p2,u2),(p3,u3)]):gY K fd [p1,p2,p3] []:=by
 refine F.binds fun kV doc pm an cdv ct us h0=>?_
 obtain⟨u1,r1,rfl,h1⟩:=dM (n:=2) h0;obtain⟨u2,r2,rfl,h2⟩:=dM (n:=1) h1;obtain⟨u3,r3,rfl,h3⟩:=dM (n:=0) h2
 cases jb.mp h3
 exact h kV doc pm an cdv ct u1 u2 u3
def nA.b4 (F:nA K x qual st f fd)(h:∀kV doc pm (an) (cdv ct u1 u2 u3 u4),bindArgs (W.fnOf x qual (bX st) (bI st) (aL st) .none kV doc pm an cdv ct) ⟨[u1,u2,u3,u4],[]⟩=pure [(p1,u1),(p2,u2),(p3,u3),(p4,u4)]):gY K fd [p1,p2,p3,p4] []:=by
 refine F.binds fun kV doc pm an cdv ct us h0=>?_
 obtain⟨u1,r1,rfl,h1⟩:=dM (n:=3) h0;obtain⟨u2,r2,rfl,h2⟩:=dM (n:=2) h1;obtain⟨u3,r3,rfl,h3⟩:=dM (n:=1) h2;obtain⟨u4,r4,rfl,h4⟩:=dM (n:=0) h3
 cases jb.mp h4
 exact h kV doc pm an cdv ct u1 u2 u3 u4
def nA.b5 (F:nA K x qual st f fd)(h:∀kV doc pm (an) (cdv ct u1 u2 u3 u4 u5),bindArgs (W.fnOf x qual (bX st) (bI st) (aL st) .none kV doc pm an cdv ct) ⟨[u1,u2,u3,u4,u5],[]⟩=pure [(p1,u1),(p2,u2),(p3,u3),(p4,u4),(p5,u5)]):gY K fd [p1,p2,p3,p4,p5] []:=by
 refine F.binds fun kV doc pm an cdv ct us h0=>?_
 obtain⟨u1,r1,rfl,h1⟩:=dM (n:=4) h0;obtain⟨u2,r2,rfl,h2⟩:=dM (n:=3) h1;obtain⟨u3,r3,rfl,h3⟩:=dM (n:=2) h2;obtain⟨u4,r4,rfl,h4⟩:=dM (n:=1) h3;obtain⟨u5,r5,rfl,h5⟩:=dM (n:=0) h4
 cases jb.mp h5
 exact h kV doc pm an cdv ct u1 u2 u3 u4 u5
end
section
variable {K:W.Frag}{x qual:Str}{st:Stmt}{f:Addr}{fd:FuncData}{p1 p2 p3 p4 p5 p6:Str}
end
section
variable {P:Program}{w:World}{K:W.Frag}{mg:Str->Option Value}{base:Heap}
def Cl (P:Program)(w:World)(K:W.Frag)(mg:Str->Option Value)(base:Heap)(n:Nat)(sp:Sp)(x:Str):Prop:=∃f d ps,lG P w K mg base pO n f d ps sp/\gY K d ps []/\W.keepIn K (.ref f)=true/\mg x=some (.ref f)
def gG (P:Program)(w:World)(K:W.Frag)(mg:Str->Option Value)(base:Heap)(x q:Str)(st:Stmt)(n:Nat)(ps:List Str)(sp:Sp):Prop:=∀{f:Addr}{d:FuncData},nA K x q st f d->lG P w K mg base pO n f d ps sp
def iT {st}(N)(hb:∀{f cdv A outer s vs E}(H) (Q),N.Nodup->dL k (A.deeper (envOfC q (aL st) s.heap.objs.size f cdv))->sp vs H Q E ->
   ∃t,oS (jH pO P w K mg base N q (aL st) f cdv A outer s H E).nox (bI st) t/\t { nx:=fun _ H'=>Q .non H',rt:=Q } (fE N vs) H)(len:∀vs H Q E,sp vs H Q E->vs.length=ps.length:=by intro _ _ _ _ h;first|(cases h;subst_vars;rfl)|((repeat obtain⟨_,h⟩:=h);subst_vars;rfl))(S:autoParam (eO N ps (aL st)) Rq6._auto_1):gG P w K mg base x q st (k+1) ps sp:=
 fun F=>F.ok S len fun _ _ _ _ H _ Q _ hr h=>hb H Q S.nd hr h
def xV (K:W.Frag)(x q:Str)(st:Stmt)(f:Addr):Prop:=∃(oc:Value) (od:Option Addr) (kV dc pm:Value) (an:Option Addr) (cd ct:Value) (sl:Array (Option Value)),K.lookup f=some ⟨oc,od,.func (W.fnOf x q (bX st) (bI st) (aL st) .none kV dc pm an cd ct),sl⟩/\W.codeIn K cd q=true/\W.keepIn K (.ref f)=true
def TopAt (K:W.Frag)(x:Str)(st:Stmt):Prop:=∃f,W.nsIn K mainGlobals x=some (some (.ref f))/\xV K x x st f
def xV.of {st kV dc pm}(l:K.lookup f=some ⟨oc,od,.func (W.fnOf x q (bX st) (bI st) (aL st) .none kV dc pm an cd ct),sl⟩)(c:W.codeIn K cd q=true)(k:W.keepIn K (.ref f)=true):xV K x q st f:=⟨_,_,_,_,_,_,_,_,_,l,c,k⟩
def TopAt.of {st kV dc pm}(a:W.nsIn K mainGlobals x=some (some (.ref f)))(l:K.lookup f=some ⟨oc,od,.func (W.fnOf x x (bX st) (bI st) (aL st) .none kV dc pm an cd ct),sl⟩)(c:W.codeIn K cd x=true)(k:W.keepIn K (.ref f)=true):TopAt K x st:=⟨_,a,.of l c k⟩
def xV.fn {st}:xV K x q st f->∃d,nA K x q st f d
 |⟨_,_,_,_,_,_,_,_,_,l,c,k⟩=>⟨_,xD l c k⟩
structure Zx(P:Program)(w:World)(K:W.Frag)(mg:Str->Option Value)(base:Heap):Prop where
 ns:∀x u,W.nsIn K mainGlobals x=some (some u)->mg x=some u
 no:∀x,W.nsIn K mainGlobals x=some none->mg x=none
def Zx.of (X:K.In h)(G:h.Ns mainGlobals mg):Zx P w K mg base:=⟨fun _ _ e=>W.mg_of X G e,fun _ e=>W.mg_none_of X G e⟩
variable {x p1 p2 p3 p4 p5 p6:Str}{st:Stmt}{n:Nat}{sp:Sp}
def Zx.cl (Z:Zx P w K mg base)(t:TopAt K x st)(ok:gG P w K mg base x x st n ps sp)(b:∀{f d},nA K x x st f d->gY K d ps []):Cl P w K mg base n sp x:=by
 obtain⟨_,a,t⟩:=t;obtain⟨_,F⟩:=t.fn;exact⟨_,_,_,ok F,b F,F.kp,Z.ns _ _ a⟩
def Zx.c1 (Z:Zx P w K mg base)(t:TopAt K x st)(ok:gG P w K mg base x x st n [p1] sp)(h:autoParam (∀kV doc pm (an) (cdv ct u1),bindArgs (W.fnOf x x (bX st) (bI st) (aL st) .none kV doc pm an cdv ct) ⟨[u1],[]⟩=pure [(p1,u1)]) Rq2._auto_1):Cl P w K mg base n sp x:=Z.cl t ok fun F=>F.b1 h
def Zx.c2 (Z:Zx P w K mg base)(t:TopAt K x st)(ok:gG P w K mg base x x st n [p1,p2] sp)(h:autoParam (∀kV doc pm (an) (cdv ct u1 u2),bindArgs (W.fnOf x x (bX st) (bI st) (aL st) .none kV doc pm an cdv ct) ⟨[u1,u2],[]⟩=pure [(p1,u1),(p2,u2)]) Rq2._auto_1):Cl P w K mg base n sp x:=Z.cl t ok fun F=>F.b2 h
def Zx.c3 (Z:Zx P w K mg base)(t:TopAt K x st)(ok:gG P w K mg base x x st n [p1,p2,p3] sp)(h:autoParam (∀kV doc pm (an) (cdv ct u1 u2 u3),bindArgs (W.fnOf x x (bX st) (bI st) (aL st) .none kV doc pm an cdv ct) ⟨[u1,u2,u3],[]⟩=pure [(p1,u1),(p2,u2),(p3,u3)]) Rq2._auto_1):Cl P w K mg base n sp x:=Z.cl t ok fun F=>F.b3 h
def Zx.c4 (Z:Zx P w K mg base)(t:TopAt K x st)(ok:gG P w K mg base x x st n [p1,p2,p3,p4] sp)(h:autoParam (∀kV doc pm (an) (cdv ct u1 u2 u3 u4),bindArgs (W.fnOf x x (bX st) (bI st) (aL st) .none kV doc pm an cdv ct) ⟨[u1,u2,u3,u4],[]⟩=pure [(p1,u1),(p2,u2),(p3,u3),(p4,u4)]) Rq2._auto_1):Cl P w K mg base n sp x:=Z.cl t ok fun F=>F.b4 h
def Zx.c5 (Z:Zx P w K mg base)(t:TopAt K x st)(ok:gG P w K mg base x x st n [p1,p2,p3,p4,p5] sp)(h:autoParam (∀kV doc pm (an) (cdv ct u1 u2 u3 u4 u5),bindArgs (W.fnOf x x (bX st) (bI st) (aL st) .none kV doc pm an cdv ct) ⟨[u1,u2,u3,u4,u5],[]⟩=pure [(p1,u1),(p2,u2),(p3,u3),(p4,u4),(p5,u5)]) Rq2._auto_1):Cl P w K mg base n sp x:=Z.cl t ok fun F=>F.b5 h
def okn:gG P w K mg base x q st k ps (fun _ _ _ _=>False):=fun _=>⟨fun _ _ _ _ h=>h.elim,fun _ _ _ _ _ _ _ _ _ _ _ _ _ h=>h.elim⟩
end
section
variable {X:Cx}{x:Str}{p pos pos':Pos}{e:Expr}{es:List Expr}{t:TA}{te:TE}
def bW (C:Cl X.prog X.w X.K X.mg X.base k sp x)(hr:dL n X.A)(ha:PA X (e::es) t)(hn:autoParam (k<=n) Rq5._auto_1)(hg:autoParam (Gl X x) Rq0._auto_1)(hdb:autoParam ((x==("__debug__": Str))=false) Rq1._auto_1)(he:autoParam (starEach (e::es) X.env=(false,eval e X.env)::starEach es X.env) Rq0._auto_1)(hpl:autoParam ((backTo pos (starEach es X.env)).any (·.1)=false) Rq0._auto_1):PE X (.Call (.Name x p) (e::es) [] pos) (pP sp [] E0 t):=by obtain⟨_,_,_,g,b,k,m⟩:=C;exact aF4 g (hr.mono hn) hg m k b .nil cC8 ha hdb he hpl
def eQ (i){bS}(hN:X.N.Nodup)(he:PE X e te)(h2:oS X bS u)(hi:autoParam (X.N[i]?=some x) Rq0._auto_1)(hx:autoParam (Loc X.env.scope x) Rq8._auto_1)(hs:autoParam (swapsWith e (some (.Name x pos')) pos.line X.env=pure false) Rq0._auto_1)(hf:autoParam (X.fn x=true\/X.env.scope.names.lookup x=some .local) Rq3._auto_1):oS X (.Assign [.Name x pos'] e pos::bS) (bW1 (aX6 te (rP i)) u):=aF (gJ hN hi hx he hs hf) h2
def pW (i)(hN:X.N.Nodup)(he:PE X e te)(hi:autoParam (X.N[i]?=some x) Rq0._auto_1)(hx:autoParam (Loc X.env.scope x) Rq8._auto_1)(hs:autoParam (swapsWith e (some (.Name x pos')) pos.line X.env=pure false) Rq0._auto_1)(hf:autoParam (X.fn x=true\/X.env.scope.names.lookup x=some .local) Rq3._auto_1):PS X (.Assign [.Name x pos'] e pos) (aX6 te (rP i)):=gJ hN hi hx he hs hf
def fK (i)(hN:X.N.Nodup:=by dsimp only[cS];decide)(hi:autoParam (X.N[i]?=some x) Rq0._auto_1)(hx:autoParam (Loc X.env.scope x) Rq8._auto_1)(hf:autoParam (X.fn x=true\/X.env.scope.names.lookup x=some .local) Rq3._auto_1):PG X (.Name x pos) (rP i):=qL hN hi hx hf
def pfr (hi:PI X tg iter wi)(hg:PG X tg g)(hb:oS X body tb)(hp:PassesOwn (model X.prog X.w) X.A X.env X.xe:=by exact jo)(hc:autoParam (X.calm=true) Rq0._auto_1)(hs:autoParam (∀x,foldedSetIterable iter X.env x=pure x) Rq4._auto_1):PS X (.For tg iter body [] pos) (bZ0 wi g tb):=aO6 hp hc hi hg hb hs
variable {id T:String}{r:List V->Hp->VK->Prop}
def iF (hc:eL X (.builtin id) r)(hm:X.mg x=none)(hv:bootBuiltins x=some (.builtin id))(ha:PA X (e::es) t)(hg:autoParam (Gl X x) Rq0._auto_1)(hn:autoParam (x≠"__name__") Rq1._auto_1)(hdb:autoParam ((x==("__debug__": Str))=false) Rq1._auto_1)(he:autoParam (starEach (e::es) X.env=(false,eval e X.env)::starEach es X.env) Rq0._auto_1)(hpl:autoParam ((backTo pos (starEach es X.env)).any (·.1)=false) Rq0._auto_1):PE X (.Call (.Name x p) (e::es) [] pos) (tCB r t):=iV hc hg hm hv ha hn hdb he hpl
def oR (hc:eL X (.type T) r)(hm:X.mg x=none)(hv:bootBuiltins x=some (.type T))(ha:PA X (e::es) t)(hg:autoParam (Gl X x) Rq0._auto_1)(hn:autoParam (x≠"__name__") Rq1._auto_1)(hdb:autoParam ((x==("__debug__": Str))=false) Rq1._auto_1)(he:autoParam (starEach (e::es) X.env=(false,eval e X.env)::starEach es X.env) Rq0._auto_1)(hpl:autoParam ((backTo pos (starEach es X.env)).any (·.1)=false) Rq0._auto_1):PE X (.Call (.Name x p) (e::es) [] pos) (tCB r t):=aK8 hc hg hm hv ha hn hdb he hpl
variable {a b:Expr}{ta tb:TE}
def bQ {r}(hr:IxR X r)(ha:PE X a ta)(hb:PE X b tb)(hs:autoParam (aE3 b) Rq9._auto_1):PE X (.Subscript a b pos) (tOp r ta tb):=cC6 hr ha hb hs
def dZ {r}(ho:jU X (compareOp op) r)(ha:PE X a ta)(hb:PE X b tb)(hm:autoParam (behindInMarks op b=false) Rq12._auto_1):PT X (.Compare a [op] [b] pos) (aM7 (tOp r ta tb)):=nK ho ha hb hm
def oK {r}(ho:jU X (compareOp op) r)(ha:PE X a ta)(hb:PE X b tb)(hm:autoParam (behindInMarks op b=false) Rq12._auto_1):PE X (.Compare a [op] [b] pos) (tOp r ta tb):=bH1 ho ha hb hm
def xJ (hu:X.A.units+1<cLine)(ho:PE X a ta)(hi:PE X b tb)(hs:autoParam (bW2 b) Rq9._auto_1):PE X (.Subscript a b pos) (bK2 ta tb):=jC hu ho hi hs
def pdp (hu:X.A.units+1<cLine)(ho:PE X a ta)(hi:PE X b tb)(hv:PE X e tv)(hs:autoParam (swapsWith e (some (.Subscript a b pos')) pos.line X.env=pure false) Rq0._auto_1):PS X (.Assign [.Subscript a b pos'] e pos) (bL6 ta tb tv):=qJ hu ho hi hv hs
def aR (ha:PE X a ta)(h:autoParam (starEach [a] X.env=[(false,eval a X.env)]) Rq0._auto_1):PA X [a] (kG ta tNil):=aA ha cJ h
def pgl (hm:X.mg x=some (.ref v))(hg:autoParam (Gl X x) Rq0._auto_1)(hd:autoParam ((x==("__debug__": Str))=false) Rq1._auto_1):PE X (.Name x pos) (tC (.ref v)):=dR hg hm rfl hd
end
open PySem PySem.Spec PyProof.Rows PySem.W
def Fz (a:Addr)(o:Obj):HO:= .frz o (.ext fun h=>h.get? a=some o)
def cB8 (e:h.get? a=some o):bZ P w H h a (Fz a o):=⟨e,e,⟨_,e⟩,fun _ _ p k=>k _ p⟩
structure yP(H:Hp)(f:Addr)(ar:Arguments)(body:Expr)(sc:Scope)(cl:List (Str×Addr))(qual:Str)(c:Addr):Prop where
 ex:∃(pm ctv:Value) (oc:Obj) (vs:Array Value) (t:Tok),H f=some (Fz f (kla_obj "<lambda>" qual ar body sc cl pm c ctv))/\H c=some (Fz c oc)/\oc.data= .fields vs/\vs[1]?=some (.str qual t)
def yP.un {fs ex}(L:yP H f ar body sc cl qual c)(u:Un fs ex H H' h h'):yP H' f ar body sc cl qual c:=by
 obtain⟨pm,ctv,oc,vs,t,e1,e2,r⟩:=L.ex;exact⟨pm,ctv,oc,vs,t,u.frzs _ _ _ e1,u.frzs _ _ _ e2,r⟩
structure aB0(s:Shared)(fs:List Addr)(H:Hp)(sc:Scope)(cl:List (Str×Addr))(cv:List (Str×V)):Prop where
 inj:∀x y d,cl.lookup x=some d->cl.lookup y=some d->x=y
 at_:∀x d,cl.lookup x=some d->H d=none/\d∉fs/\∃v,s.heap.IsCell d v
 val:∀x v,(x,v)∈cv->∃d u,cl.lookup x=some d/\s.heap.IsCell d (some u)/\bL v u
 has:∀x,sc.names.lookup x=some .free->∃d,cl.lookup x=some d
structure tR(p1 p2:Str)(cn:List Str)(sc:Scope):Prop where
 kind:sc.kind= .function
 co:sc.isCoroutine=false
 gen:sc.isGenerator=false
 ne:p1≠p2
 l1:sc.names.lookup p1=some .local
 l2:sc.names.lookup p2=some .local
 cap:∀x∈cn,sc.names.lookup x=some .free
 nocell:∀y∈sc.names,y.2≠ .cell
def xN (P:Program)(w:World)(K:W.Frag)(mg:Str->Option Value)(base:Heap)(N:List Str)(qual:Str)(scope:Scope)(f c:Addr)(cl:List (Str×Addr))(A:Around)(outer:List Env)(s:Shared)(H:Hp):Cx where
 prog:=P
 w:=w
 K:=K
 mg:=mg
 base:=base
 A:=A.deeper (envX qual scope s.heap.objs.size f (.ref c) cl)
 N:=N
 s₀:=s
 H₀:=H
 env:=envX qual scope s.heap.objs.size f (.ref c) cl
 outer:=outer
 stack:=envX qual scope s.heap.objs.size f (.ref c) cl::outer
 ex:=[]
 calm:=true
 fn:=fun _=>false
 pn:=[]
 xe:=fun _ _=>False
def bD8 {K}(hr:dL (k+1) A)(e0:yI P w K mg base A outer s H)(L:yP H f ar body sc cl qual c)(C:aB0 s (jM outer) H sc cl cv)(S:tR p1 p2 (cv.map (·.1)) sc)(r:bM [a,b] us)(hbi:∀pm ctv u v,bindArgs (kla_fn "<lambda>" qual ar body sc cl pm (.ref c) ctv) ⟨[u,v],[]⟩=pure [(p1,u),(p2,v)])(h:PE (xN P w K mg base (p1::p2::cv.map (·.1)) qual sc f c cl A outer s H) body te)(q:te (some a::some b::cv.map (fun p=>some p.2)) H Q):
  codeAny (model P w) A (.call (.ref f) ⟨us,[]⟩) (CR pO outer P w H s Q E0) s:=by
 obtain⟨u1,u2,rfl,r1,r2⟩:=tQ r;obtain⟨pm,ctv,oc,vs,t,hf,hc,hd,hv⟩:=L.ex;have of:=(e0.hok _ _ hf).1;have occ:=(e0.hok _ _ hc).1;have lim:s.heap.NoLimit:=e0.mod.nolimit.keeps fun b o e=>(e0.bs b o e).1
 refine kla_callFunE hr.depth of rfl S.co S.gen rfl ⟨c,oc,vs,t,rfl,occ,hd,hv⟩ ?_;rw[hbi];refine ak (wx S.nocell (fun y hy=>?_) (fun h₁ hns hsb=>?_) S.kind)
 ·simp only[List.mem_cons,List.not_mem_nil,or_false] at hy;rcases hy with rfl|rfl
  ·exact S.l1
  ·exact S.l2
 have hk₁:∀b o,s.heap.get? b=some o->h₁.get? b=some o:=fun b o e=>hsb.extBut b o (bw (ay e)) (af _ e)
 refine⟨lim.keeps hk₁,?_⟩;show codeAny _ _ (.expr body (envX qual sc s.heap.objs.size f (.ref c) cl)) _ _;refine kla_codeExpr (dm (h [] _ _ H Q ?_ q) (by rintro v s' ⟨x,H',J,rv,z⟩;exact⟨x,H',J.os,J.bare,J.base,J.hok,rv,z⟩) fun _ _ z=>z.elim);have noA:∀b:Addr,b∉(xN P w K mg base (p1::p2::cv.map (·.1)) qual sc f c cl A outer s H).ex:=fun b z=>absurd (show b∈([]:List Addr) from z) (by simp)
 have free:∀y,sc.names.lookup y=some .free->∃d,cl.lookup y=some d:=C.has;refine⟨⟨e0.mod,S.kind,rfl,rfl,aj _,C.inj,fun y hy=>?_,fun y d z _=>(by cases z),fun _=>hr.hd,qg e0.frames,.inr ⟨rfl,rfl⟩,fun b z=>absurd z (noA b),e0.bs,e0.bsz,fun b _ _=>noA b,fun b z=>absurd z (noA b),e0.funs,e0.frf⟩,
  rfl,e0.bare,Un.kept hk₁,⟨_,hns,fun i x v e1 e2 e3=>?_⟩,fun y d e=>?_,e0.hok.fresh (aj _),fun y d e=>(C.at_ y d e).1,fun p hp=>absurd (show p∈([]:List (Addr×Obj)) from hp) (by simp),e0.hok.kept hk₁,?_⟩
 ·have hy:sc.names.lookup y=some .cell\/sc.names.lookup y=some .free:=hy;rcases hy with hy|hy
  ·exact absurd rfl (S.nocell _ (ge hy))
  ·exact free y hy
 ·match i with
  |0 =>
   cases e1
   cases e2
   refine⟨u1,r1,.inl ⟨S.l1,?_⟩⟩;have n:(p1==p2)=false:=by simpa using S.ne
   simp[List.lookup_cons,n]
  |1 =>
   cases e1
   cases e2
   refine⟨u2,r2,.inl ⟨S.l2,?_⟩⟩;simp[List.lookup_cons]
  |i+2 =>
   have e1:(cv.map (·.1))[i]?=some x:=e1;have e2:(cv.map (fun p=>some p.2))[i]?=some (some v):=e2;rw[df] at e1 e2
   cases g:cv[i]? with
   |none=>rw[g] at e1;cases e1
   |some p =>
    rw[g] at e1 e2
    cases e1
    cases e2
    obtain⟨d,u,l,ic,rv⟩:=C.val p.1 p.2 (bg g);exact⟨u,rv,.inr ⟨.inr (S.cap _ (jd (bg g))),d,l,ic.keeps hk₁⟩⟩
 ·obtain⟨v,ic⟩:=(C.at_ y d e).2.2;exact⟨v,ic.keeps hk₁⟩
 ·simp[xN]
section
variable {X:Cx}{i k:Nat}{x:Str}{f c:Addr}{ar:Arguments}{body:Expr}{sc:Scope}{cl:List (Str×Addr)}{cv:List (Str×V)}{qual p1 p2:Str}{p pos:Pos}{e:Expr}{es:List Expr}{t:TA}{te:TE}
def aB0.on {σ:St}(C:aB0 X.s₀ X.fs X.H₀ sc cl cv)(hx:X.ex=[])(I:aX X pins σ H s):aB0 s (jM X.stack) H sc cl cv:=by
 have kp:∀d o,X.s₀.heap.get? d=some o->X.H₀ d=none->d∉X.fs->s.heap.get? d=some o:=fun d o e n z=>I.base.keep d o e n z (by rw[hx];simp)
 have ic:∀d v,X.H₀ d=none->d∉X.fs->X.s₀.heap.IsCell d v->s.heap.IsCell d v:=fun d v n z ⟨o,e,q⟩=>⟨o,kp d o e n z,q⟩
 refine⟨C.inj,fun y d e=>?_,fun y v hm=>?_,C.has⟩
 ·obtain⟨n,z,v,hc⟩:=C.at_ y d e;have hc':=hc;obtain⟨o,g,q⟩:=hc';refine⟨I.base.free d o g n (by rw[hx];simp),fun m=>?_,v,ic d v n z hc⟩;rcases bv.mp (I.stkSub d m) with w|w
  ·have:=ay g;rw[w] at this;exact absurd this (mq.mpr I.ok.above)
  ·exact z w
 ·obtain⟨d,u,l,hc,rv⟩:=C.val y v hm;obtain⟨n,z,_⟩:=C.at_ y d l;exact⟨d,u,l,ic d _ n z hc,rv⟩
def bC3 (i:Nat)(f:Addr)(cv:List (Str×V))(te:TE)(t:TA):TE:=fun σ H Q=>σ[i]?=some (some (.ref f))/\t σ H fun vs H1=>∃a b,vs=[a,b]/\te (some a::some b::cv.map (fun p=>some p.2)) H1 Q
def bJ3 {f}(hd:o.data= .func fd)(h)(e:h.get? f=some o):∃k,(k=Keeper.frame\/k=Keeper.machine\/k=Keeper.boundFrame)/\Looks M h (keeperOf (.ref f)) k:=by
 obtain⟨a,b,d,sl⟩:=o
 cases hd
 exact⟨.frame,.inl rfl,(Looks.ld (part:=none) e).andThen .now⟩
def aZ7 (L:yP X.H₀ f ar body sc cl qual c)(C:aB0 X.s₀ X.fs X.H₀ sc cl cv)(S:tR p1 p2 (cv.map (·.1)) sc)(hr:dL (k+1) X.A)(hbi:∀pm ctv u v,bindArgs (kla_fn "<lambda>" qual ar body sc cl pm (.ref c) ctv) ⟨[u,v],[]⟩=pure [(p1,u),(p2,v)])(h:∀s H,PE (xN X.prog X.w X.K X.mg X.base (p1::p2::cv.map (·.1)) qual sc f c cl X.A X.stack s H) body te)(ha:PA X (e::es) t)(hi:autoParam (X.N[i]?=some x) Rq0._auto_1)(hl:autoParam (Vis X.env.scope x) Rq7._auto_1)(hx:autoParam (X.ex=[]) Rq0._auto_1)(hdb:autoParam ((x==("__debug__": Str))=false) Rq1._auto_1)(hcd:autoParam ((x==("__classdict__": Str))=false) Rq1._auto_1)(he:autoParam (starEach (e::es) X.env=(false,eval e X.env)::starEach es X.env) Rq0._auto_1)(hpl:autoParam ((backTo pos (starEach es X.env)).any (·.1)=false) Rq0._auto_1):
  PE X (.Call (.Name x p) (e::es) [] pos) (bC3 i f cv te t):=by
 intro pins s σ H Q I ⟨hf,q⟩;refine fu ?_;refine dm (aP0 (pos:=p) hi hl hdb hcd pins s σ H (fun v H'=>v= .ref f/\H'=H) I ⟨_,hf,rfl,rfl⟩) (fun uf s1 ⟨v,H1,I1,rv,e1,e2⟩=>?_) fun _ _ z=>z
 subst e1;subst e2;obtain rfl:uf=Value.ref f:=rv;obtain⟨pm,ctv,oc,vs',tq,hf0,r0⟩:=L.ex;have hh:wpAny (model X.prog X.w) X.A (spliced (backTo pos (starEach (e::es) X.env))) (fun us s2=>s2.heap.get? f=some (kla_obj "<lambda>" qual ar body sc cl pm c ctv)/\wpAny (model X.prog X.w) X.A (call (.ref f) ([]++us)) (EP X pins σ Q) X.xe s2) X.xe s1:=by
  refine cV (ha pos pins s1 σ _ _ I1 q) ?_;rintro us s2 ⟨vs,H2,I2,r,a,b,ev,z⟩
  subst ev;have L2:=L.un I2.base;have g2:H2 f=some (Fz f (kla_obj "<lambda>" qual ar body sc cl pm c ctv)):=I2.base.frzs _ _ _ hf0;refine⟨(I2.hok _ _ g2).1,?_⟩;refine ot (kr (bD8 hr I2.env0 L2 (C.on hx I2) S r hbi (h s2 H2) z) fun r s' hq=>?_)
  cases r with
  |error e=>exact hq.elim
  |ok fl =>
   cases fl with
   |ret u=>exact I2.after hq
   |next=>exact False.elim hq
   |brk=>exact False.elim hq
   |cont=>exact False.elim hq
 rw[he] at hh ⊢;exact callWith_of (P:=fun h=>h.get? f=some (kla_obj "<lambda>" qual ar body sc cl pm c ctv)) (by show((false || (backTo pos (starEach es X.env)).any (·.1)) || false)=false;rw[hpl];rfl) (fun h g=>bJ3 rfl h g) (PySem.Calls.evalArgs_plain hh)
end
structure tX(base:Heap)(mg:Str->Option Value)(c P:Addr):Prop where
 hd:CodeHd base c P
 bi:∃bm o,mg "__builtins__"=some (.ref bm)/\bm≠builtinsNs/\base.get? bm=some o/\o.cls= .type "module"/\o.dict=some builtinsNs/\o.data= .plain
def eA (H:Hp)(P:Addr)(pos:Pos)(q:Str):Prop:=H P=some (.tbl #[])\/∃(c:Addr) (oc:Obj) (vs:Array Value) (t:Tok),H P=some (.tbl #[rawInt pos.line,rawInt pos.col,.ref c])/\H c=some (Fz c oc)/\oc.data= .fields vs/\vs[1]?=some (.str q t)
def kJ (P:Addr)(H H':Hp):Prop:=∀a o,H a=some o->a≠P->H' a=some o
def kJ.trans (a:kJ P H H1)(b:kJ P H1 H2):kJ P H H2:=fun c o e n=>b c o (a c o e n) n
def kJ.of (s:bA H H'):kJ P H H':=fun a o e _=>s a o e
def eA.is (h:eA H P pos q):∃ps,H P=some (.tbl ps):=by
 rcases h with h|⟨_,_,_,_,h,_⟩<;>exact⟨_,h⟩
def eA.same (h:eA H P pos q)(s:bA H H'):eA H' P pos q:=by
 rcases h with h|⟨c,oc,vs,t,h1,h2,r⟩
 ·exact .inl (s _ _ h)
 ·exact .inr ⟨c,oc,vs,t,s _ _ h1,s _ _ h2,r⟩
def kJ.ts (h:kJ P H H')(e:H P=some (.tbl ps)):∀p (xs),H p=some (.tup xs)->H' p=some (.tup xs):=fun p xs z=>h p _ z (fun y=>by rw[y,e] at z;cases z)
def cJ2 (P:Addr)(pos:Pos)(ar:Arguments)(body:Expr)(sc:Scope)(cl:List (Str×Addr))(q:Str):TE:=fun _ H Q=>eA H P pos q /\
 ∀f c H',eA H' P pos q->kJ P H H'->H f=none->yP H' f ar body sc cl q c->Q (.ref f) H'
section
variable {X:Cx}{c P:Addr}{ar:Arguments}{body:Expr}{sc:Scope}{pos:Pos}
def aU2 {σ:St}{news:List (Addr×Obj)}{tk:Tok}(I:aX X pins σ H s)(hP:H P=some (.tbl ps))(hx:Heap.ExtBut P s.heap h')(hps:h'.get? P=some (tabObj (ps++ps')))(hn:∀p∈news,s.heap.objs.size<=p.1/\h'.get? p.1=some p.2):
  ∃H',aX X pins σ H' { s with heap:=h',toks:=tk }/\kJ P H H'/\H' P=some (.tbl (ps++ps'))/\∀p∈news,H' p.1=some (Fz p.1 p.2):=by
 have nP:∀b,H b=none->b≠P:=fun b n z=>by rw[z,hP] at n;cases n
 have fr:∀b o,H b=some o->∀p∈news,b≠p.1:=fun b o e p hp z=>by rw[z,I.hok.fresh (hn p hp).1] at e;cases e
 have ltf:∀b o,s.heap.get? b=some o->∀p∈news,b≠p.1:=fun b o e p hp z=>by
  have:=ay e;rw[z] at this;exact absurd this (mq.mpr (hn p hp).1)
 let H':Hp:=fun b=>if b=P then some (.tbl (ps++ps')) else if (news.find? (fun p=>p.1==b)).isSome then (news.find? (fun p=>p.1==b)).map (fun p=>Fz p.1 p.2) else H b
 have hP':H' P=some (.tbl (ps++ps')):=bb rfl;have old:∀b,b≠P->(∀p∈news,b≠p.1)->H' b=H b:=fun b n k=>by
  show(if b=P then _ else _)=_;rw[au n,au];rw[pd];rintro⟨p,hp,z⟩;exact k p hp (by simpa using Eq.symm (by simpa using z))
 have newP:∀p∈news,p.1≠P:=fun p hp z=>by
  have:=I.hok.lt hP;rw[<-z] at this;exact absurd this (mq.mpr (hn p hp).1)
 have new':∀p∈news,∃o,h'.get? p.1=some o/\H' p.1=some (Fz p.1 o)/\o=p.2:=fun p hp=>by
  have hs:(news.find? (fun q=>q.1==p.1)).isSome=true:=by
   rw[pd];exact⟨p,hp,by simp⟩
  obtain⟨q,hq⟩:=jj.mp hs;have hq1:q.1=p.1:=by simpa using List.find?_some hq
  have hq2:=List.mem_of_find?_eq_some hq;have g1:=(hn p hp).2;have g2:=(hn q hq2).2;rw[hq1,g1] at g2;have z:=cu g2;refine⟨p.2,g1,?_,rfl⟩;show(if p.1=P then _ else _)=_;rw[au (newP p hp),bb hs,hq];show some (Fz q.1 q.2)=_;rw[hq1,z]
 have off:kJ P H H':=fun b o e n=>by rw[old b n (fr b o e)];exact e
 have kp:∀b o,b≠P->s.heap.get? b=some o->h'.get? b=some o:=fun b o n e=>hx b o n e
 refine⟨H',I.un ⟨fun b o e n _ _=>kp b o (nP b n) e,fun b o e n _ _=>⟨o.slots,kp b o (nP b n) e⟩,fun b o e n _=>by rw[old b (nP b n) (ltf b o e)];exact n,fun b o e _=>?_,fun b xs e=>off b _ e (fun z=>by rw[z,hP] at e;cases e),fun b o u e=>off b _ e (fun z=>by rw[z,hP] at e;cases e),fun b qs e=>?_⟩ (fun b u e=>?_),off,hP',fun p hp=>?_⟩
 ·by_cases z:b=P
  ·rw[z];exact⟨_,hps⟩
  ·exact⟨o,kp b o z e⟩
 ·by_cases z:b=P
  ·subst z;rw[hP] at e
   cases e
   exact⟨ps',hP'⟩
  ·exact⟨#[],by rw[off b _ e z];simp⟩
 ·by_cases z:b=P
  ·subst z;rw[hP'] at e
   cases e
   exact hps
  ·by_cases hm:∃p∈news,b=p.1
   ·obtain⟨p,hp,rfl⟩:=hm;obtain⟨o,g,hh,_⟩:=new' p hp;rw[hh] at e
    cases e
    exact cB8 g
   ·have e':H b=some u:=by rw[<-old b z (fun p hp w=>hm ⟨p,hp,w⟩)];exact e
    refine(I.hok b u e').stay (fun b' u' w g=>kp b' u' (fun y=>?_) g) (fun b' w=>off b' _ w (fun y=>by rw[y,hP] at w;cases w)) fun b' xs w=>off b' _ w (fun y=>by rw[y,hP] at w;cases w)
    rcases w with rfl|w
    ·exact z y
    ·rw[y,hP] at w;cases w
 ·obtain⟨o,g,hh,rfl⟩:=new' p hp;exact hh
def aY6 (B:tX X.base X.mg c P)(hc:X.env.code= .ref c)(hfr:∀y∈sc.names,y.2= .free->X.env.kindOf y.1=some .cell\/X.env.kindOf y.1=some .free)(hdf:autoParam (defaultsOf ar X.env=([],[])) Rq0._auto_1):
  PE X (.Lambda ar body sc pos) (cJ2 P pos ar body sc (kK X.env sc.names) (X.env.qual++"<lambda>")):=by
 intro pins s σ H Q I ⟨hT,q⟩;have hge:=I.ok.glob;have hg:s.heap.Ns mainGlobals X.mg:=I.mod.glob.keeps I.bk;have C:CodeHd s.heap c P:=B.hd.keeps I.bk;obtain⟨ps,hP⟩:=hT.is;have oP:s.heap.get? P=some (tabObj ps):=I.hok P _ hP;have nb:∀b o,X.base.get? b=some o->b≠P:=fun b o e z=>by
  have:=(I.bs b o e).2;rw[z,hP] at this
  cases this
 obtain⟨bm,ob,b1,b2,b3,b4,b5,b6⟩:=B.bi;obtain⟨og,eg,epg,g1,g2,_⟩:=I.mod.glob;have hgP:mainGlobals≠P:=nb _ _ g1;have hbG:bm≠mainGlobals:=fun z=>by
  rw[z,g1] at b3
  cases b3
  rw[g2] at b6
  cases b6
 have HB:s.heap.BuiltinsAt X.mg P:=⟨bm,ob,b1,b2,hbG,nb _ _ b3,I.bk _ _ b3,b4,b5,b6⟩
 have hcl:closureFor sc X.env=pure (kK X.env sc.names):=mS fun y hy e=>I.ok.has y.1 (hfr y hy e)
 refine kla_eval hdf ?_;rcases hT with h0|⟨c',oc,vs,t,h0,h1,h2,h3⟩
 ·rw[h0] at hP
  cases hP
  refine kla_makeFunction (mg:=X.mg) hcl hge hg hc C oP trivial rfl hgP HB fun c' ctv h' tk hx hge' hlt hrec htb=>?_
  obtain⟨c₂,oc,vs,t,e2,hoc,hd,hv⟩:=hrec
  cases e2
  have hx2:Heap.ExtBut P s.heap (h'.push (kla_obj "<lambda>" (X.env.qual++"<lambda>") ar body sc (kK X.env sc.names) ((X.mg "__name__").getD .none) c' ctv)):=fun b o n e=>af _ (hx b o n e)
  obtain⟨H',I',off,hP',nw⟩:=aU2 (ps':= #[rawInt pos.line,rawInt pos.col,.ref c']) (news:=[(h'.objs.size,kla_obj "<lambda>" (X.env.qual++"<lambda>") ar body sc (kK X.env sc.names) ((X.mg "__name__").getD .none) c' ctv),(c',oc)]) (tk:=tk) I h0 hx2 (af _ htb) (fun p hp=>by
   simp only[List.mem_cons,List.not_mem_nil,or_false] at hp;rcases hp with rfl|rfl
   ·exact⟨cm hge' (bp hlt),bc _ rfl⟩
   ·exact⟨hge',af _ hoc⟩)
  have n1:=nw _ ao;have n2:=nw _ (aq _ ao);refine⟨.ref h'.objs.size,H',I',rfl,q _ c' H' (.inr ⟨c',oc,vs,t,?_,n2,hd,hv⟩) off (I.hok.fresh (cm hge' (bp hlt))) ⟨_,ctv,oc,vs,t,n1,n2,hd,hv⟩⟩;rw[hP'];simp
 ·rw[h0] at hP
  cases hP
  refine kla_makeFunctionHit (mg:=X.mg) hcl hge hg hc C oP trivial (cv:= .ref c') ?_ HB fun ctv h' tk hk hsz=>?_
  ·simp[codeAmong,rawInt]
  have hx2:Heap.ExtBut P s.heap (h'.push (kla_obj "<lambda>" (X.env.qual++"<lambda>") ar body sc (kK X.env sc.names) ((X.mg "__name__").getD .none) c' ctv)):=fun b o n e=>af _ (hk b o e)
  obtain⟨H',I',off,hP',nw⟩:=aU2 (ps':= #[]) (news:=[(h'.objs.size,kla_obj "<lambda>" (X.env.qual++"<lambda>") ar body sc (kK X.env sc.names) ((X.mg "__name__").getD .none) c' ctv)]) (tk:=tk) I h0 hx2 (af _ (by rw[yk];exact hk _ _ oP)) (fun p hp=>by
   simp only[List.mem_cons,List.not_mem_nil,or_false] at hp
   cases hp
   exact⟨hsz,bc _ rfl⟩)
  have n1:=nw _ ao;have nc:c'≠P:=fun z=>by rw[z,h0] at h1;cases h1
  have n2:=off _ _ h1 nc;refine⟨.ref h'.objs.size,H',I',rfl,q _ c' H' (.inr ⟨c',oc,vs,t,?_,n2,h2,h3⟩) off (I.hok.fresh hsz) ⟨_,ctv,oc,vs,t,n1,n2,h2,h3⟩⟩;rw[hP',yk]
end
section
variable {P:Program}{w:World}{K:W.Frag}{mg:Str->Option Value}{base:Heap}
structure wT(P:Program)(w:World)(K:W.Frag)(mg:Str->Option Value)(base:Heap)(k:Nat) where
 ar:Arguments
 body:Expr
 sc:Scope
 p1:Str
 p2:Str
 cn:List Str
 te:TE
 S:tR p1 p2 cn sc
 hb:∀(qual:Str) (cl:List (Str×Addr)) (pm ctv:Value) (c:Addr) (u v:Value),bindArgs (kla_fn "<lambda>" qual ar body sc cl pm (.ref c) ctv) ⟨[u,v],[]⟩=pure [(p1,u),(p2,v)]
 h:∀(qual:Str) (f c:Addr) (cl:List (Str×Addr)) (A:Around) (outer:List Env) (s:Shared) (H:Hp),dL k (A.deeper (envX qual sc s.heap.objs.size f (.ref c) cl))->PE (xN P w K mg base (p1::p2::cn) qual sc f c cl A outer s H) body te
def aH0 (Λ:wT P w K mg base k)(cv:List V)(s:Shared)(fs:List Addr)(H:Hp)(f:Addr):Prop:=
 ∃(cl:List (Str×Addr)) (qual:Str) (c:Addr) (cw:List (Str×V)),yP H f Λ.ar Λ.body Λ.sc cl qual c/\aB0 s fs H Λ.sc cl cw/\cw.map (·.1)=Λ.cn/\cw.map (·.2)=cv
structure bK7(P:Program)(w:World)(K:W.Frag)(mg:Str->Option Value)(base:Heap)(k:Nat)(f:Addr)(fd:FuncData)(ps:List Str)(Z:Shared->List Addr->Hp->Addr->Prop)(sp:Sp):Prop where
 len:∀vs H Q E,sp vs H Q E->vs.length=ps.length
 run:∀(A:Around) (outer:List Env) (s:Shared) (H:Hp) (args:Args) (us:List Value) (vs:List V) (g:Addr) (Q:VK) (E:XK),dL k A->yI P w K mg base A outer s H->BindsTo s fd args (ps.zip us)->bM vs us->vs[1]?=some (.ref g)->Z s (jM outer) H g->sp vs H Q E ->
  codeAny (model P w) A (.call (.ref f) args) (CR pO outer P w H s Q E) s
def bS0 (P:Program)(w:World)(K:W.Frag)(mg:Str->Option Value)(base:Heap)(x q:Str)(st:Stmt)(n k:Nat)(ps:List Str)(sp:TE->List V->Sp):Prop:=
 ∀{f:Addr}{d:FuncData},nA K x q st f d->∀(Λ:wT P w K mg base k) (cv:List V),bK7 P w K mg base n f d ps (aH0 Λ cv) (sp Λ.te cv)
def cI9 {st}(N)(hb:∀{f cdv A outer s vs g E}(Λ:wT P w K mg base j) (cv) (H) (Q),N.Nodup->dL k (A.deeper (envOfC q (aL st) s.heap.objs.size f cdv))->vs[1]?=some (.ref g)->aH0 Λ cv s (jM outer) H g->sp Λ.te cv vs H Q E ->
   ∃t,oS (jH pO P w K mg base N q (aL st) f cdv A outer s H E).nox (bI st) t/\t { nx:=fun _ H'=>Q .non H',rt:=Q } (fE N vs) H)(len:∀te cv vs H Q E,sp te cv vs H Q E->vs.length=ps.length)(S:autoParam (eO N ps (aL st)) Rq6._auto_1):bS0 P w K mg base x q st (k+1) j ps sp:=by
 intro f d F Λ cv;obtain⟨oc,od,kV,doc,pm,an,cdv,ct,osl,rfl,lk,hcd⟩:=F.ex;refine⟨len _ _,fun A outer s H args us vs g Q E hr e0 hb' r hg hz hsp=>?_⟩;have hl:=len _ _ _ _ _ _ hsp;have KX:K.In s.heap:=e0.mod.kin.keeps fun b o e=>(e0.bs b o e).1
 have lim:s.heap.NoLimit:=e0.mod.nolimit.keeps fun b o e=>(e0.bs b o e).1
 have hkind:∀y∈ps.zip us,(aL st).names.lookup y.1=some .local\/((aL st).names.lookup y.1=some .cell/\((cellsFrom (s.heap.objs.size+1) (aL st).names []).lookup y.1).isSome=true):=fun⟨n,v⟩ hy=>by
  rcases S.par n (ju hy).1 with q|q
  ·exact .inl q
  ·exact .inr ⟨q,vc _ _ _ (.inl q)⟩
 refine md hr.depth (KX _ _ lk) rfl S.co S.gen rfl (ym KX hcd) (hb' _ _ _ _ ?_);refine kg S.kind hkind fun env he s1 x=>?_
 subst he;refine⟨lim.keeps x.toInCall.keep,uo ?_⟩;obtain⟨t,ht,hq⟩:=hb Λ cv H Q S.nd (hr.deeper _) hg hz hsp;have I:aX (jH pO P w K mg base N q (aL st) f cdv A outer s H E) [] (fE N vs) H s1:=lP S hr.hd e0 hl r x;refine dm (ht.nox [] s1 (fE N vs) H _ I hq) (fun fl s' hs=>?_) fun e s' hs=>hs
 have fin:∀{σ':St}{H':Hp}{v:V}{u:Value},aX (jH pO P w K mg base N q (aL st) f cdv A outer s H E) [] σ' H' s'->bL v u->Q v H'->CE outer P w H s Q u s':=
  fun {σ' H' v u} J rv q=>⟨v,H',J.os,J.bare,J.base,J.hok,rv,q⟩
 cases fl with
 |ret u =>
  obtain⟨v,σ',H',J,rv,q⟩:=hs;exact fin J rv q
 |next =>
  obtain⟨σ',H',J,q⟩:=hs;exact fin (v:=V.non) (u:=Value.none) J rfl q
 |brk =>
  obtain⟨_,_,_,q⟩:=hs;exact False.elim q
 |cont =>
  obtain⟨_,_,_,q⟩:=hs;exact False.elim q
def ClZ (P:Program)(w:World)(K:W.Frag)(mg:Str->Option Value)(base:Heap)(n k:Nat)(sp:TE->List V->Sp)(x:Str):Prop:=∃f d ps,(∀(Λ:wT P w K mg base k) (cv:List V),bK7 P w K mg base n f d ps (aH0 Λ cv) (sp Λ.te cv))/\gY K d ps []/\W.keepIn K (.ref f)=true/\mg x=some (.ref f)
def Zx.z2 {st}(Z:Zx P w K mg base)(t:TopAt K x st)(ok:bS0 P w K mg base x x st n k [p1,p2] sp)(h:autoParam (∀kV doc pm (an) (cdv ct u1 u2),bindArgs (W.fnOf x x (bX st) (bI st) (aL st) .none kV doc pm an cdv ct) ⟨[u1,u2],[]⟩=pure [(p1,u1),(p2,u2)]) Rq2._auto_1):ClZ P w K mg base n k sp x:=by
 obtain⟨_,a,t⟩:=t;obtain⟨_,F⟩:=t.fn;exact⟨_,_,_,ok F,F.b2 h,F.kp,Z.ns _ _ a⟩
def aN9 (P:Program)(w:World)(K:W.Frag)(mg:Str->Option Value)(base:Heap)(x q:Str)(st:Stmt)(n:Nat)(ps:List Str)(c:Addr)(sp:Sp):Prop:=∀{f:Addr}{d:FuncData},nA K x q st f d->d.code= .ref c->lG P w K mg base pO n f d ps sp
def cC2 {st}(N)(hb:∀{f A outer s vs E}(H) (Q),N.Nodup->dL k (A.deeper (envOfC q (aL st) s.heap.objs.size f (.ref c)))->sp vs H Q E ->
   ∃t,oS (jH pO P w K mg base N q (aL st) f (.ref c) A outer s H E).nox (bI st) t/\t { nx:=fun _ H'=>Q .non H',rt:=Q } (fE N vs) H)(len:∀vs H Q E,sp vs H Q E->vs.length=ps.length)(S:autoParam (eO N ps (aL st)) Rq6._auto_1):aN9 P w K mg base x q st (k+1) ps c sp:=by
 intro f d F hc;obtain⟨oc,od,kV,doc,pm,an,cdv,ct,osl,rfl,lk,hcd⟩:=F.ex;have hc:cdv= .ref c:=hc;subst hc;refine aW2 lk hcd S len fun A outer s H vs Q E hr hsp=>?_
 obtain⟨t,h,q⟩:=hb H Q S.nd hr hsp;exact⟨t,h.nox,q⟩
def TopAtT (K:W.Frag)(x:Str)(st:Stmt)(c:Addr):Prop:=∃f oc od kV dc pm an ct sl,W.nsIn K mainGlobals x=some (some (.ref f))/\K.lookup f=some ⟨oc,od,.func (W.fnOf x x (bX st) (bI st) (aL st) .none kV dc pm an (.ref c) ct),sl⟩/\W.codeIn K (.ref c) x=true/\W.keepIn K (.ref f)=true
def TopAtT.of {st kV dc pm}(a:W.nsIn K mainGlobals x=some (some (.ref f)))(l:K.lookup f=some ⟨oc,od,.func (W.fnOf x x (bX st) (bI st) (aL st) .none kV dc pm an (.ref c) ct),sl⟩)(c':W.codeIn K (.ref c) x=true)(k:W.keepIn K (.ref f)=true):TopAtT K x st c:=⟨f,oc,od,kV,dc,pm,an,ct,sl,a,l,c',k⟩
def Zx.t2 {st}(Z:Zx P w K mg base)(t:TopAtT K x st c)(ok:aN9 P w K mg base x x st n [p1,p2] c sp)(h:autoParam (∀kV doc pm (an) (cdv ct u1 u2),bindArgs (W.fnOf x x (bX st) (bI st) (aL st) .none kV doc pm an cdv ct) ⟨[u1,u2],[]⟩=pure [(p1,u1),(p2,u2)]) Rq2._auto_1):Cl P w K mg base n sp x:=by
 obtain⟨f,oc,od,kV,dc,pm,an,ct,sl,a,l,c',k⟩:=t;have F:=xD l c' k;exact⟨_,_,_,ok F rfl,F.b2 h,F.kp,Z.ns _ _ a⟩
def Zx.t3 {st}(Z:Zx P w K mg base)(t:TopAtT K x st c)(ok:aN9 P w K mg base x x st n [p1,p2,p3] c sp)(h:autoParam (∀kV doc pm (an) (cdv ct u1 u2 u3),bindArgs (W.fnOf x x (bX st) (bI st) (aL st) .none kV doc pm an cdv ct) ⟨[u1,u2,u3],[]⟩=pure [(p1,u1),(p2,u2),(p3,u3)]) Rq2._auto_1):Cl P w K mg base n sp x:=by
 obtain⟨f,oc,od,kV,dc,pm,an,ct,sl,a,l,c',k⟩:=t;have F:=xD l c' k;exact⟨_,_,_,ok F rfl,F.b3 h,F.kp,Z.ns _ _ a⟩
end
section
variable {X:Cx}{x:Str}{p pos:Pos}{e:Expr}{es:List Expr}{t:TA}
def aX.lamC {σ:St}(I:aX X pins σ H s)(hfn:X.fn=fun _=>true)(hfr:∀y∈sc.names,y.2= .free->X.env.kindOf y.1=some .cell)(hcap:∀y∈cw,sc.names.lookup y.1=some .free)(hv:∀y∈cw,∃j:Nat,X.N[j]?=some y.1/\σ[j]?=some (some y.2)):aB0 s (jM X.stack) H sc (kK X.env sc.names) cw:=by
 have hs:∀y∈sc.names,y.2= .free->∃c,X.env.cells.lookup y.1=some c:=fun y hy e=>I.ok.has y.1 (.inl (hfr y hy e))
 have g:∀z d,(kK X.env sc.names).lookup z=some d->X.env.cells.lookup z=some d:=fun z d h=>by
  rcases aC1 sc.names [] hs h with q|q
  ·exact absurd q (by simp)
  ·exact q
 refine⟨fun a b d h1 h2=>I.ok.inj a b d (g _ _ h1) (g _ _ h2),fun a d h=>⟨I.freeC a d (g _ _ h),fun m=>?_,I.cell a d (g _ _ h)⟩,fun a v hm=>?_,fun a h=>sU sc.names [] (.inl (ge h))⟩
 ·rcases bv.mp (I.stkSub d m) with z|z
  ·exact I.cne a d (g _ _ h) z
  ·obtain⟨_,o,ho,_⟩:=I.ok.funs.mem z;exact absurd (ay ho) (mq.mpr (I.ok.cab a d (by rw[hfn]) (g _ _ h)))
 ·have hf:=hcap _ hm;obtain⟨j,h1,h2⟩:=hv _ hm;have hm':=ge hf;have hk:=hfr _ hm' rfl;obtain⟨m,_,hl⟩:=I.loc;obtain⟨u,r,l⟩:=hl j a v h1 h2 (.inr (.inl hk));obtain⟨d,hd⟩:=sU (env:=X.env) (x:=a) sc.names [] (.inl hm');have hd2:=g _ _ hd;rcases l with⟨k,_⟩|⟨_,c,e,ic⟩
  ·have:=hk.symm.trans k
   cases this
  ·rw[hd2] at e
   cases e
   exact⟨d,u,hd,ic,r⟩
def bU4 {K}(N:List Str)(cl:List (Str×Addr))(Λ:wT P w K mg base k)(sp:TE->List V->Sp)(t:TA):TE:=fun σ H Q=>t σ H fun vs H1=>∃(f c:Addr) (q:Str) (cw:List (Str×V)),vs[1]?=some (.ref f)/\yP H1 f Λ.ar Λ.body Λ.sc cl q c/\cw.map (·.1)=Λ.cn/\(∀y∈cw,∃j:Nat,N[j]?=some y.1/\σ[j]?=some (some y.2))/\sp Λ.te (cw.map (·.2)) vs H1 Q E0
def cB1 (C:ClZ X.prog X.w X.K X.mg X.base k j sp x)(Λ:wT X.prog X.w X.K X.mg X.base j)(hr:dL n X.A)(ha:PA X (e::es) t)(hfr:∀y∈Λ.sc.names,y.2= .free->X.env.kindOf y.1=some .cell)(hfn:autoParam (X.fn=(fun _=>true)) Rq0._auto_1)(hn:autoParam (k<=n) Rq5._auto_1)(hg:autoParam (Gl X x) Rq0._auto_1)(hdb:autoParam ((x==("__debug__": Str))=false) Rq1._auto_1)(he:autoParam (starEach (e::es) X.env=(false,eval e X.env)::starEach es X.env) Rq0._auto_1)(hpl:autoParam ((backTo pos (starEach es X.env)).any (·.1)=false) Rq0._auto_1):
  PE X (.Call (.Name x p) (e::es) [] pos) (bU4 X.N (kK X.env Λ.sc.names) Λ sp t):=by
 intro pins s σ H Q I h;obtain⟨f,d,ps,F,b,kp,m⟩:=C;refine fu (nU I hg m ?_ hdb);refine W.callWith_K (h₀:=X.base) I.ok.mod.kin kp (cV (ha pos pins s σ H _ I h) ?_) he hpl;rintro us s1 ⟨vs,H1,I1,r,g,c,q,cw,h1,h2,h3,h4,h5⟩;refine⟨I1.kIn,?_⟩;have hl:(us++[]).length=ps.length:=by rw[gp, <-r.length];exact(F Λ _).len _ _ _ _ h5
 have bd:=b s1 us I1.kIn hl;rw[gp] at bd;have hcap:∀y∈cw,Λ.sc.names.lookup y.1=some .free:=fun y hy=>Λ.S.cap _ (by rw[<-h3];exact jd hy)
 refine ot (kr ((F Λ _).run X.A X.stack s1 H1 ⟨us,[]⟩ us vs g Q E0 (hr.mono hn) I1.env0 bd r h1 ⟨_,q,c,cw,h2,I1.lamC hfn hfr hcap h4,h3,rfl⟩ h5) fun r s' hq=>?_)
 cases r with
 |error e=>exact hq.elim
 |ok fl =>
  cases fl with
  |ret u=>exact I1.after hq
  |next=>exact False.elim hq
  |brk=>exact False.elim hq
  |cont=>exact False.elim hq
def bY6 {i:Nat}(Λ:wT X.prog X.w X.K X.mg X.base j)(L:aH0 Λ cv X.s₀ X.fs X.H₀ f)(hr:dL (k+1) X.A)(ha:PA X (e::es) t)(hj:autoParam (j<=k) Rq5._auto_1)(hi:autoParam (X.N[i]?=some x) Rq0._auto_1)(hl:autoParam (Vis X.env.scope x) Rq7._auto_1)(hx:autoParam (X.ex=[]) Rq0._auto_1)(hdb:autoParam ((x==("__debug__": Str))=false) Rq1._auto_1)(hcd:autoParam ((x==("__classdict__": Str))=false) Rq1._auto_1)(he:autoParam (starEach (e::es) X.env=(false,eval e X.env)::starEach es X.env) Rq0._auto_1)(hpl:autoParam ((backTo pos (starEach es X.env)).any (·.1)=false) Rq0._auto_1):
  PE X (.Call (.Name x p) (e::es) [] pos) (fun σ H Q=>σ[i]?=some (some (.ref f))/\t σ H fun vs H1=>∃a b,vs=[a,b]/\Λ.te (some a::some b::cv.map some) H1 Q):=by
 obtain⟨cl,qual,c,cw,l1,l2,l3,l4⟩:=L;have hm:∀l:List (Str×V),l.map (fun p=>some p.2)=(l.map (·.2)).map some:=fun l=>by simp
 have:=aZ7 (p:=p) (pos:=pos) (te:=Λ.te) (t:=t) (i:=i) (x:=x) (e:=e) (es:=es) l1 l2 (by rw[l3];exact Λ.S) hr (fun pm ctv u v=>Λ.hb qual cl pm ctv c u v) (fun s H=>by rw[l3];exact Λ.h qual f c cl X.A X.stack s H ((hr.deeper _).mono hj)) ha hi hl hx hdb hcd he hpl;unfold bC3 at this;rw[hm,l4] at this;exact this
end
def bC5 (Ps:List Addr)(H:Hp):Prop:=(∀P∈Ps,H P=some (.tbl #[]))/\∀b,H b=none\/(∃o xs,H b=some (.frz o (.lst xs)))\/b∈Ps
def aK2 {K}{ts:List (Addr×Addr)}(KX:K.In s₁.heap)(hT:∀q∈ts,CodeHd s₁.heap q.1 q.2/\s₁.heap.get? q.2=some (tabObj #[]))(hK:noTabs K=true)(hns:s₁.heap.Ns mainGlobals mg)(hb:s₁.heap.Ns builtinsNs mb)(hbb:∀x:Str,x≠"__name__"->mb x=bootBuiltins x)(hlim:s₁.heap.NoLimit)(hbm:∃bm o,mg "__builtins__"=some (.ref bm)/\bm≠builtinsNs/\s₁.heap.get? bm=some o/\o.cls= .type "module"/\o.dict=some builtinsNs/\o.data= .plain)(hg:s₁.gens= #[])(ha:s₁.heap.get? a=some { cls:= .type "list",data:= .seq vs.toArray })(hi:IntsAre vs ns)(hl:ns.length<=sizeLine)(hr:dL k callerA)(F:∀base:Heap,K.In base->base.Ns mainGlobals mg->(∀q∈ts,tX base mg q.1 q.2)->lG P w K mg base CX k fa fd [x] sp)(hbind:∀s (u),BindsTo s fd ⟨[u],[]⟩ [(x,u)])(hsp:∀H:Hp,bC5 (ts.map (·.2)) H->bJ K H a (ns.map V.int)->sp [.ref a] H (fun v _=>v= .bl true) fun _ _ _=>False)(hCX:∀H e s',CX [] H s₁ (fun _ _ _=>False) e s'->False):
  codeAny (model P w) callerA (.call (.ref fa) ⟨[.ref a],[]⟩) (fun r s'=>r= .ok (.ret (.bool true))/\OldK s₁.heap s'.heap/\s'.os=s₁.os/\AllBare s'.gens) s₁:=by
 have rv:=uZ hi;have lenV:=hi.length;have aT:a∉ts.map (·.2):=fun hm=>by
  obtain⟨q,hq,e⟩:=dj.mp hm;have:=(hT q hq).2;rw[e,ha] at this
  cases this
 have core:∀H:Hp,bC5 (ts.map (·.2)) H->bJ K H a (ns.map V.int)->jY P w H s₁.heap->(∀b,H b≠none->b=a\/b∈ts.map (·.2))->(H a≠none->K.lookup a=none) ->
   codeAny (model P w) callerA (.call (.ref fa) ⟨[.ref a],[]⟩) (fun r s'=>r= .ok (.ret (.bool true))/\OldK s₁.heap s'.heap/\s'.os=s₁.os/\AllBare s'.gens) s₁:=by
  intro H hO hS hok hA hKa;have base_of:∀{b:Addr}{o:Obj},s₁.heap.get? b=some o->H b=none->(tV s₁.heap H).get? b=some o:=fun e n=>aU9 e n
  have noT:∀{b:Addr}{o:Obj},s₁.heap.get? b=some o->o≠tabObj #[]->b≠a->H b=none:=fun {b o} e d n=>by
   cases q:H b with
   |none=>rfl
   |some u =>
    rcases hA b (by rw[q];simp) with e'|e'
    ·exact absurd e' n
    ·obtain⟨q',hq',e2⟩:=dj.mp e';have:=(hT q' hq').2;rw[e2,e] at this
     cases this
     exact absurd rfl d
  have noA:∀{b:Addr}{o:Obj}{es:Array DictEntry}{ep:Nat},s₁.heap.get? b=some o->o.data= .dict es ep->H b=none:=fun {b o es ep} e d =>
   noT e (fun z=>by rw[z] at d;cases d) fun z=>by
    subst z;rw[ha] at e;cases e;have d':Data.seq vs.toArray _=Data.dict es ep:=d
    cases d'
  have nsK:∀{b:Addr}{m:Str->Option Value},s₁.heap.Ns b m->(tV s₁.heap H).Ns b m:=fun {b m} ⟨o,es,ep,e,d,r⟩=>⟨o,es,ep,base_of e (noA e d),d,r⟩
  have hKb:K.In (tV s₁.heap H):=fun b o e=>base_of (KX b o e) (by
   by_cases n:b=a
   ·subst n
    cases q:H b with
    |none=>rfl
    |some u=>rw[hKa (by rw[q];simp)] at e;cases e
   ·refine noT (KX b o e) (fun z=>?_) n;have h2:=kw.mp hK (b,o) (mem_of_lookupK e);subst z;exact absurd (show false=true from h2) bh)
  have hM:Mod K mg (tV s₁.heap H):=⟨hKb,nsK hns,⟨mb,nsK hb,hbb⟩,let⟨mc,h1,h2⟩:=hlim;⟨mc,nsK h1,h2⟩⟩
  have hB:∀q∈ts,tX (tV s₁.heap H) mg q.1 q.2:=fun q hq=>by
   obtain⟨o,vs',file,tf,flags,tg,inF,text,tt,e1,r1,r2,r3,r4,r5,r6,r7,r8,hne⟩:=(hT q hq).1;obtain⟨bm,ob,b1,b2,b3,b4,b5,b6⟩:=hbm;refine⟨⟨o,vs',file,tf,flags,tg,inF,text,tt,base_of e1 (noT e1 (fun z=>by rw[z] at r1;cases r1) fun z=>by rw[z,ha] at e1;cases e1;injection r1 with z;exact absurd z (by decide)),r1,r2,r3,r4,r5,r6,r7,r8,hne⟩,⟨bm,ob,b1,b2,base_of b3 (noT b3 (fun z=>by rw[z] at b4;cases b4) fun z=>by rw[z,ha] at b3;cases b3;injection b4 with z;exact absurd z (by decide)),b4,b5,b6⟩⟩
  have e0:yI P w K mg (tV s₁.heap H) callerA [] s₁ H:=⟨rfl,hM,fun b o e=>bJ5 e,Nat.le_of_eq (aI6 _ _),trivial,fun b hb=>absurd (show b∈([]:List Addr) from hb) (by simp),hok,.of_eq hg⟩
  refine kr ((F _ hKb (nsK hns) hB).run callerA [] s₁ H ⟨[.ref a],[]⟩ [.ref a] [.ref a] _ _ hr e0 (hbind s₁ (.ref a)) (.cons rfl .nil) (hsp H hO hS)) fun r s' h=>?_
  cases r with
  |error e=>exact(hCX H e s' h).elim
  |ok fl =>
   cases fl with
   |next=>exact False.elim h
   |brk=>exact False.elim h
   |cont=>exact False.elim h
   |ret u =>
    obtain⟨v,H',os,bare,un,hok',r',q⟩:=h;have q':v= .bl true:=q;subst q';obtain rfl:u=Value.bool true:=r';have keep:∀b o,b∉ts.map (·.2)->s₁.heap.get? b=some o->s'.heap.get? b=some o:=fun b o hb e=>by
     cases q:H b with
     |none=>exact un.keep b o e q (by intro z;exact absurd (show b∈([]:List Addr) from z) (by simp)) (by simp)
     |some u =>
      rcases hO.2 b with z|⟨ob,xs,z⟩|z
      ·rw[q] at z;cases z
      ·have z2:=un.frzs b ob _ z;obtain⟨e1,_⟩:=hok b _ z;obtain⟨e2,_⟩:=hok' b _ z2;rw[e] at e1;cases e1;exact e2
      ·exact absurd z hb
    have grown:∀b o,b∈ts.map (·.2)->s₁.heap.get? b=some o->isCodeTable s₁.heap b/\o=tabObj #[]/\∃ps,s'.heap.get? b=some (tabObj ps):=fun b o hb e=>by
     obtain⟨q,hq,rfl⟩:=dj.mp hb;have e2:=(hT q hq).2;rw[e] at e2;obtain⟨more,e3⟩:=un.tbls _ _ (hO.1 _ hb);exact⟨((hT q hq).1.tab (hT q hq).2).isCodeTable,cu e2,_,hok' _ _ e3⟩
    refine⟨rfl,⟨fun b o e=>?_,fun b o e=>?_⟩,os,bare⟩
    ·by_cases hb:b∈ts.map (·.2)
     ·obtain⟨ht,rfl,ps,hP⟩:=grown b o hb e;exact .inr (.inl ⟨ht,rfl, #[],ps,rfl,by rw[Array.empty_append];exact hP⟩)
     ·exact .inl (keep b o hb e)
    ·by_cases hb:b∈ts.map (·.2)
     ·obtain⟨_,_,ps,hP⟩:=grown b o hb e;exact⟨_,hP⟩
     ·exact⟨o,keep b o hb e⟩
 have tabOk:∀(H:Hp) b,b∈ts.map (·.2)->bZ P w H s₁.heap b (.tbl #[]):=fun H b hb=>by
  obtain⟨q,hq,rfl⟩:=dj.mp hb;exact(hT q hq).2
 cases hk:K.lookup a with
 |some o =>
  have e:=KX a o hk;rw[ha] at e
  cases e
  refine core (fun b=>if b∈ts.map (·.2) then some (.tbl #[]) else none) ⟨fun b hb=>bb hb,fun b=>?_⟩ (.inr ⟨_,vs.toArray,_,hk,rfl,rfl,rfl,by rw[bn,lenV];exact hl,by simpa using rv⟩) (fun b u z=>?_) (fun b z=>?_) fun z=>absurd (au aT) z
  ·by_cases hb:b∈ts.map (·.2)
   ·exact .inr (.inr hb)
   ·exact .inl (au hb)
  ·by_cases hb:b∈ts.map (·.2)
   ·have z':=(bb hb).symm.trans z
    cases z'
    exact tabOk _ b hb
   ·have z':=(au hb).symm.trans z
    cases z'
  ·by_cases hb:b∈ts.map (·.2)
   ·exact .inr hb
   ·exact absurd (au hb) z
 |none =>
  refine core (fun b=>if b∈ts.map (·.2) then some (.tbl #[]) else if b=a then some (.frz { cls:= .type "list",data:= .seq vs.toArray } (.lst (ns.map V.int))) else none) ⟨fun b hb=>bb hb,fun b=>?_⟩ (.inl (.inr ⟨{ cls:= .type "list",data:= .seq vs.toArray },(au aT).trans (bb rfl)⟩)) (fun b u z=>?_) (fun b z=>?_) fun _=>hk
  ·by_cases hb:b∈ts.map (·.2)
   ·exact .inr (.inr hb)
   ·by_cases hb2:b=a
    ·exact .inr (.inl ⟨_,_,(au hb).trans (bb hb2)⟩)
    ·exact .inl ((au hb).trans (au hb2))
  ·by_cases hb:b∈ts.map (·.2)
   ·have z':=(bb hb).symm.trans z
    cases z'
    exact tabOk _ b hb
   ·have z:=(au hb).symm.trans z
    by_cases hb2:b=a
    ·have z':=(bb hb2).symm.trans z
     cases z'
     subst hb2;exact⟨ha,by rw[ac];exact hl,vs,_,rv,ha⟩
    ·have z':=(au hb2).symm.trans z
     cases z'
  ·by_cases hb:b∈ts.map (·.2)
   ·exact .inr hb
   ·by_cases hb2:b=a
    ·exact .inl hb2
    ·exact absurd ((au hb).trans (au hb2)) z
def walkT_of {l:W.OpenLaw}{K:Params->W.Frag}{sp:World->Sp}{ts:List (Addr×Addr)}(hn:l.most=some n)(hn2:n<=sizeLine)(hdf:d.params.defaults=[])(hr:dL k callerA)(hY:∀w (h),YP w h->(K w.params).In h/\∀P∈ts.map (·.2),h.get? P=some (tabObj #[]))(hK:∀w:World,noTabs (K w.params)=true)(hH:∀(w:World) (q),q∈ts->codeHdIn (K w.params) q.1 q.2=true)(F:∀w (mg) (fa) (h),(K w.params).In h->h.Ns mainGlobals mg->mg d.name=some (.ref fa) ->
   ∃fd:FuncData,(∀s (u),BindsTo s fd ⟨[u],[]⟩ [(x,u)]) /\
    ∀base:Heap,(K w.params).In base->base.Ns mainGlobals mg->(∀q∈ts,tX base mg q.1 q.2)->lG l.prog w (K w.params) mg base pO k fa fd [x] (sp w))(hsp:∀w (H) (a) (ns:List Int),ns.length<=n->bC5 (ts.map (·.2)) H->bJ (K w.params) H a (ns.map V.int)->sp w [.ref a] H (fun v _=>v= .bl true) fun _ _ _=>False):
  W.WalkO q loose XP YP l.row.toRowW d [] (fun f vs=>PySem.call f vs):=by
 refine Att.attach_call hn hdf fun w s₀ s₁ mg mb fa o pm cd doc a vs ns G Y ho hd hcd hmg hobj hints hlen hg=>?_
 obtain⟨KX,Y2⟩:=hY w _ Y;obtain⟨fd,hb,hF⟩:=F w mg fa _ KX G.T.g hmg;obtain⟨bm,ob,a1,a2,a3,a4,a5,a6⟩:=G.T.bmain;exact aK2 KX (fun q hq=>⟨codeHd_of_K KX (hH w q hq),Y2 _ (jd hq)⟩) (hK w) G.T.g G.T.b G.T.builtins G.T.nolimit ⟨bm,ob,a1,a2,a3,a4,a5,a6⟩ hg hobj hints (cm hlen hn2) hr hF hb (fun H hO hS=>hsp w H a ns hlen hO hS) fun H e s' z=>z
end L2
namespace Mine
open PySem L2
section
variable (Chg:Nat->Rw->List Rw->Prop)
mutual
def Reb(k:Nat):Rw->List Rw->Prop
 |.when _ _ _ t a b,o=>∃p pa pb a' b',yY (k+1) a a'/\yY (k+1+bP a) b b'/\Chg k (.when p pa pb t a' b') o
 |.times _ _ n b,o=>∃p pb b',yY (k+1) b b'/\Chg k (.times p pb n b') o
 |.thr p w x us am,o=>Chg k (.thr p w x us am) o
 |.lt p x t,o=>Chg k (.lt p x t) o
 |.tell p t,o=>Chg k (.tell p t) o
def yY(k:Nat):List Rw->List Rw->Prop
 |[],o=>o=[]
 |r::rs,o=>∃o1 o2,Reb k r o1/\yY (k+r.cnt) rs o2/\o=o1++o2
end
abbrev BSt:=List (List Rw)
def bY9 (r:Rw)(k:Nat)(c d:BSt):Prop:=match r with
 |.when _ _ _ t _ _=>∃B2 B1 B st p pa pb o,c=B2::B1::B::st/\Chg k (.when p pa pb t B1 B2) o/\d=(B++o)::st
 |.times _ _ n _=>∃B1 B st p pb o,c=B1::B::st/\Chg k (.times p pb n B1) o/\d=(B++o)::st
 |.thr _ _ _ _ _=>False
 |.lt _ _ _=>False
 |.tell _ _=>False
def gT (s:Stp)(c d:BSt):Prop:=
 if fC s=true then d=[]::c
 else if s.1="row" then ∃B st o,c=B::st/\Chg s.2.2 s.2.1 o/\d=(B++o)::st
 else bY9 Chg s.2.1 s.2.2 c d
def iA:List Stp->BSt->BSt->Prop
 |[],c,d=>c=d
 |s::l,c,d=>∃e,gT Chg s c e/\iA l e d
variable {Chg}
def iA.app:∀{l m c d},iA Chg (l++m) c d->∃e,iA Chg l c e/\iA Chg m e d
 |[],_,c,_,h=>⟨c,rfl,h⟩
 |_::_,_,_,_,⟨e,h,k⟩=>let⟨g,a,b⟩:=iA.app k;⟨g,⟨e,h,a⟩,b⟩
def iA.snoc:∀{l c d},iA Chg l c d->gT Chg s d e->iA Chg (l++[s]) c e
 |[],c,d,h,k=>⟨e,by rw[show c=d from h];exact k,rfl⟩
 |_::_,_,_,⟨g,h,k⟩,j=>⟨g,h,iA.snoc k j⟩
def gT.mono (h:∀n r o,Chg n r o->Chg' n r o)(k:gT Chg s c d):gT Chg' s c d:=by
 unfold gT at k ⊢
 split at k
 ·rw[bb ‹_›];exact k
 ·rw[au ‹_›]
  split at k
  ·rw[bb ‹_›];obtain⟨B,st,o,e,q,f⟩:=k;exact⟨B,st,o,e,h _ _ _ q,f⟩
  ·rw[au ‹_›]
   cases hr:s.2.1 with
   |when p pa pb t a b =>
    rw[hr] at k;obtain⟨B2,B1,B,st,p',pa',pb',o,e,q,f⟩:=k;exact⟨B2,B1,B,st,p',pa',pb',o,e,h _ _ _ q,f⟩
   |times p pb n b =>
    rw[hr] at k;obtain⟨B1,B,st,p',pb',o,e,q,f⟩:=k;exact⟨B1,B,st,p',pb',o,e,h _ _ _ q,f⟩
   |thr p w x us am=>rw[hr] at k;exact k.elim
   |lt p x t=>rw[hr] at k;exact k.elim
   |tell p t=>rw[hr] at k;exact k.elim
def iA.mono (h:∀n r o,Chg n r o->Chg' n r o):∀{l c d},iA Chg l c d->iA Chg' l c d
 |[],_,_,k=>k
 |_::_,_,_,⟨e,a,b⟩=>⟨e,a.mono h,iA.mono h b⟩
def wY (h:gT Chg (w,r,k) c d)(o:wQ w r.w=true):d=[]::c:=by
 unfold gT at h;rw[bb (show fC (w,r,k)=true from o)] at h;exact h
def aB3 (h:gT Chg ("row",r,k) c d)(o:wQ "row" r.w=false):∃B st o,c=B::st/\Chg k r o/\d=(B++o)::st:=by
 unfold gT at h;rw[au (show ¬fC (("row": Str),r,k)=true by rw[show fC (("row": Str),r,k)=false from o];exact bh),bb rfl] at h;exact h
def aU6 (h:gT Chg ("end",r,k) c d):bY9 Chg r k c d:=by
 unfold gT at h;rw[au (show ¬fC (("end": Str),r,k)=true by rw[show fC (("end": Str),r,k)=false from bF3 _];exact bh),au iP] at h;exact h
mutual
def bG3:∀(r:Rw) (k:Nat) {B:List Rw}{st d:BSt},WdR r->iA Chg (cI k r) (B::st) d->∃o,Reb Chg k r o/\d=(B++o)::st
 |.thr p w x us am,k,B,st,d,hw,h=>by
  simp only[cI] at h;obtain⟨e,h,q⟩:=h;obtain⟨B',st',o,e1,e2,e3⟩:=aB3 h (bO7 hw)
  cases e1
  exact⟨o,e2,by rw[<-e3];exact(show e=d from q).symm⟩
 |.lt p x t,k,B,st,d,hw,h=>by
  simp only[cI] at h;obtain⟨e,h,q⟩:=h;obtain⟨B',st',o,e1,e2,e3⟩:=aB3 h bS3
  cases e1
  exact⟨o,e2,by rw[<-e3];exact(show e=d from q).symm⟩
 |.tell p t,k,B,st,d,hw,h=>by
  simp only[cI] at h;obtain⟨e,h,q⟩:=h;obtain⟨B',st',o,e1,e2,e3⟩:=aB3 h bV5
  cases e1
  exact⟨o,e2,by rw[<-e3];exact(show e=d from q).symm⟩
 |.when p pa pb t a b,k,B,st,d,hw,h=>by
  simp only[cI] at h;obtain⟨e0,h0,h⟩:=h;have z0:=wY h0 bV9;subst z0;obtain⟨e3,h,h3⟩:=iA.app h;obtain⟨e2,h,h2⟩:=iA.app h;obtain⟨e1,h1,h⟩:=iA.app h;obtain⟨oa,ra,rfl⟩:=jR a (k+1) hw.1 h1;obtain⟨e4,h4,q4⟩:=h;have z4:=wY h4 (bW9 _);subst z4;have q4:[]::([]++oa)::B::st=e2:=q4;subst q4;obtain⟨ob,rb,rfl⟩:=jR b (k+1+bP a) hw.2 h2;obtain⟨e5,h5,q5⟩:=h3;obtain⟨B2,B1,B',st',p',pa',pb',o,c1,c2,c3⟩:=aU6 h5
  cases c1
  exact⟨o,⟨p',pa',pb',_,_,ra,rb,c2⟩,by rw[<-c3];exact(show e5=d from q5).symm⟩
 |.times p pb n b,k,B,st,d,hw,h=>by
  simp only[cI] at h;obtain⟨e0,h0,h⟩:=h;have z0:=wY h0 bR9;subst z0;obtain⟨e1,h1,h3⟩:=iA.app h;obtain⟨ob,rb,rfl⟩:=jR b (k+1) hw h1;obtain⟨e5,h5,q5⟩:=h3;obtain⟨B1,B',st',p',pb',o,c1,c2,c3⟩:=aU6 h5
  cases c1
  exact⟨o,⟨p',pb',_,rb,c2⟩,by rw[<-c3];exact(show e5=d from q5).symm⟩
def jR:∀(rs:List Rw) (k:Nat) {B:List Rw}{st d:BSt},WdL rs->iA Chg (bY k rs) (B::st) d->∃o,yY Chg k rs o/\d=(B++o)::st
 |[],k,B,st,d,_,h=>⟨[],rfl,by rw[gp];exact(show B::st=d from h).symm⟩
 |r::rs,k,B,st,d,hw,h=>by
  simp only[bY] at h;obtain⟨e,h1,h2⟩:=iA.app h;obtain⟨o1,r1,rfl⟩:=bG3 r k hw.1 h1;obtain⟨o2,r2,rfl⟩:=jR rs (k+r.cnt) hw.2 h2;exact⟨o1++o2,⟨o1,o2,r1,r2,rfl⟩,by rw[kj]⟩
end
end
def cF9 (ν:Str->Str):Rw->Rw->Prop
 |.thr _ w x us am,q=>∃p,q= .thr p w (ν x) us am
 |.lt _ x t,q=>∃p t',q= .lt p (ν x) t'/\dH ν t t'
 |.tell _ t,q=>∃p t',q= .tell p t'/\dH ν t t'
 |.when _ pa pb t a b,q=>∃p t',q= .when p pa pb t' a b/\dH ν t t'
 |.times p pb n b,q=>q= .times p pb n b
def bW6 (ν:Str->Str)(_:Nat)(r:Rw)(o:List Rw):Prop:=∃q,o=[q]/\cF9 ν r q
mutual
def bF6{ν:Str->Str}:∀(r:Rw) (k:Nat) {o:List Rw},Reb (bW6 ν) k r o->∃q,o=[q]/\dI UEq ν r q
 |.thr _ w x us am,k,o,⟨q,e,p,f⟩=>⟨q,e,p,us,f,rfl⟩
 |.lt _ x t,k,o,⟨q,e,h⟩=>⟨q,e,h⟩
 |.tell _ t,k,o,⟨q,e,h⟩=>⟨q,e,h⟩
 |.when _ _ _ t a b,k,o,⟨p,pa,pb,a',b',ra,rb,q,e,p',t',f,ht⟩=>⟨q,e,p',pa,pb,t',a',b',f,ht,kT a _ ra,kT b _ rb⟩
 |.times _ _ n b,k,o,⟨p,pb,b',rb,q,e,f⟩=>⟨q,e,p,pb,b',f,kT b _ rb⟩
def kT{ν:Str->Str}:∀(rs:List Rw) (k:Nat) {o:List Rw},yY (bW6 ν) k rs o->bF UEq ν rs o
 |[],_,_,e=>e
 |r::rs,k,_,⟨o1,o2,h1,h2,e⟩=>by
  obtain⟨q,rfl,hq⟩:=bF6 r k h1;exact⟨q,o2,e,hq,kT rs _ h2⟩
end
def Wd1 (U:UR):Rw->Rw->Prop
 |.thr _ w x us am,q=>∃p us',q= .thr p w x us' am/\U w us us'
 |.lt p x t,q=>q= .lt p x t
 |.tell p t,q=>q= .tell p t
 |.when p pa pb t a b,q=>q= .when p pa pb t a b
 |.times p pb n b,q=>q= .times p pb n b
def aB7 (U:UR)(_:Nat)(r:Rw)(o:List Rw):Prop:=∃q,o=[q]/\Wd1 U r q
def aB7.mono (h:∀w a b,U w a b->U' w a b)(n):∀r (o),aB7 U n r o->aB7 U' n r o
 |.thr _ _ _ _ _,_,⟨q,e,p,us,f,k⟩=>⟨q,e,p,us,f,h _ _ _ k⟩
 |.lt _ _ _,_,k=>k
 |.tell _ _,_,k=>k
 |.when _ _ _ _ _ _,_,k=>k
 |.times _ _ _ _,_,k=>k
mutual
def bI2{U:UR}:∀(r:Rw) (k:Nat) {o:List Rw},Reb (aB7 U) k r o->∃q,o=[q]/\dI U id r q
 |.thr _ w x us am,k,o,⟨q,e,h⟩=>⟨q,e,h⟩
 |.lt p x t,k,o,⟨q,e,h⟩=>⟨q,e,p,t,h,dH.idn t⟩
 |.tell p t,k,o,⟨q,e,h⟩=>⟨q,e,p,t,h,dH.idn t⟩
 |.when _ _ _ t a b,k,o,⟨p,pa,pb,a',b',ra,rb,q,e,f⟩=>⟨q,e,p,pa,pb,t,a',b',f,dH.idn t,lC a _ ra,lC b _ rb⟩
 |.times _ _ n b,k,o,⟨p,pb,b',rb,q,e,f⟩=>⟨q,e,p,pb,b',f,lC b _ rb⟩
def lC{U:UR}:∀(rs:List Rw) (k:Nat) {o:List Rw},yY (aB7 U) k rs o->bF U id rs o
 |[],_,_,e=>e
 |r::rs,k,_,⟨o1,o2,h1,h2,e⟩=>by
  obtain⟨q,rfl,hq⟩:=bI2 r k h1;exact⟨q,o2,e,hq,lC rs _ h2⟩
end
inductive spRb(te:TE)(cv:List V)(vs:List V)(H:Hp)(Q:VK)(z1:XK):Prop
 |mk:∀(p f:Addr) (rs:List Rw) (Chg:Hp->Nat->Rw->List Rw->Prop) (Rq:Hp->Rw->Prop),vs=[.ref p,.ref f]->H p=some (.tup (bN rs))->aW H rs->bP rs<=4000->((∀G G' n r o,TS G G'->Chg G n r o->Chg G' n r o))->((∀q∈dD rs,∀G,TS H G->Rq G q))->((∀G p pa pb t a b,Rq G (.when p pa pb t a b)))->((∀G p pb n b,Rq G (.times p pb n b)))->((∀(r:Rw) (n:Nat) (G:Hp) (W:VK),bA H G->eB G r->Rq G r->(∀(l:Addr) (o:List Rw) (G':Hp),bA G G'->G' l=some (.lst (bN o))->aW G' o->Chg G' n r o->o.length<=1->W (.ref l) G')->te (some (.ref r.p)::some (.int n)::cv.map some) G W))->(∀(q:Addr) (o:List Rw) (H':Hp),bA H H'->H' q=some (.tup (bN o))->aW H' o->yY (Chg H') 0 rs o->Q (.ref q) H')->spRb te cv vs H Q z1
structure pH(H:Hp)(p:Addr)(ks:List Str)(rs:List Rw)(m:Nat):Prop where
 ex:∃pk pr,H p=some (.tup [.ref pk,.ref pr])/\H pk=some (.tup (ks.map V.str))/\H pr=some (.tup (bN rs))
 rows:aW H rs
 cnt:bP rs<=73*m
 sc:∃k2,fZ [] rs k2
 tk:cL rs
 t1:1<=eS rs
 k1:1<=ks.length
 k3:ks.length<=3
 dp:jT rs<=2
 tz:iZ rs
 few:pR (9*m) (eI rs)
 m4:m<=3
def pH.ts (t:TS H H')(P:pH H p ks rs m):pH H' p ks rs m:=
 ⟨let⟨pk,pr,a,b,c⟩:=P.ex;⟨pk,pr,t _ _ a,t _ _ b,t _ _ c⟩,aW.ts t rs P.rows,P.cnt,P.sc,P.tk,P.t1,P.k1,P.k3,P.dp,P.tz,P.few,P.m4⟩
inductive spRowsIn(vs:List V)(H:Hp)(Q:VK)(z1:XK):Prop
 |mk:∀(p:Addr) (ks:List Str) (rs:List Rw) (m:Nat),vs=[.ref p]->pH H p ks rs m->(∀(r:Addr) (H':Hp),bA H H'->H r=none->H' r=some (.lst (bN (dD rs)))->Q (.ref r) H')->spRowsIn vs H Q z1
inductive spKindsL(vs:List V)(H:Hp)(Q:VK)(z1:XK):Prop
 |mk:∀(p:Addr) (ks:List Str),vs=[.ref p]->H p=some (.tup (ks.map V.str))->1<=ks.length->ks.length<=3->ks.Nodup->(∀H',bA H H'->Q .non H')->spKindsL vs H Q z1
inductive spLookL(vs:List V)(H:Hp)(Q:VK)(z1:XK):Prop
 |mk:∀(p:Addr) (ks:List Str) (rs:List Rw) (m:Nat),vs=[.ref p]->pH H p ks rs m->ks.Nodup->(∀H',bA H H'->Q (.bl true) H')->spLookL vs H Q z1
inductive spIsNm(vs:List V)(H:Hp)(Q:VK)(z1:XK):Prop
 |mk:∀z:Str,vs=[.str z]->z.length<=1000->(∀H',bA H H'->Q (.bl (kI z)) H')->spIsNm vs H Q z1
inductive spNmV(vs:List V)(H:Hp)(Q:VK)(z1:XK):Prop
 |mk:∀(p:Addr) (ks:List Str) (rs:List Rw) (m:Nat),vs=[.ref p]->pH H p ks rs m->(∀(d:Addr) (kvs:List (Key×V)) (H':Hp),bA H H'->H d=none->H' d=some (.dK kvs)->(∃xs:List Str,kvs.map (·.1)=xs.map (fun x=>(Sum.inr x:Key))/\xs.Nodup/\∀x,x∈xs↔x∈eI rs)->Q (.ref d) H')->spNmV vs H Q z1
inductive spSpl(vs:List V)(H:Hp)(Q:VK)(z1:XK):Prop
 |mk:∀n:Nat,vs=[.int n]->n<700->Q (.str (sp n)) H->spSpl vs H Q z1
def NmD (H:Hp)(d:Addr)(as:List (Str×Str)):Prop:=H d=some (.dK (as.map fun p=>((Sum.inr p.1:Key),V.str p.2)))
def NmD.same (h:NmD H d as)(s:bA H H'):NmD H' d as:=s _ _ h
def aF3:∀{as:List (Str×Str)},dW (as.map fun p=>((Sum.inr p.1:Key),V.str p.2)) (Sum.inr x:Key)=(as.lookup x).map V.str
 |[]=>by simp[nQ]
 |(a,b)::as=>by
  rw[eo,List.lookup_cons]
  by_cases c:a=x
  ·subst c;rw[dA rfl];simp
  ·rw[cE (fun z=>c (by injection z)),aF3 (as:=as)];rw[show(x==a)=false by simpa using fun z:x=a=>c z.symm]
inductive spNewN(vs:List V)(H:Hp)(Q:VK)(z1:XK):Prop
 |mk:∀(p q:Addr) (K1 K2:List Str) (rs1 rs2:List Rw) (m1 m2:Nat),vs=[.ref p,.ref q]->pH H p K1 rs1 m1->pH H q K2 rs2 m2->m1+m2<=4->(∀(d:Addr) (as:List (Str×Str)) (H':Hp),bA H H'->H d=none->NmD H' d as->nY (fun x=>(as.lookup x).getD x) K1 K2 (eI rs1) (eI rs2)->Q (.ref d) H')->spNewN vs H Q z1
def nuA (as:List (Str×Str))(x:Str):Str:=(as.lookup x).getD x
inductive aV2(n:Nat)(vs:List V)(H:Hp)(Q:VK)(z1:XK):Prop
 |mk:∀(d:Addr) (t:Tm) (as:List (Str×Str)),vs=[.ref t.p,.ref d]->mE H t->t.size<=n->NmD H d as->(∀(u:Tm) (H':Hp),bA H H'->mE H' u->dH (nuA as) t u->Q (.ref u.p) H')->aV2 n vs H Q z1
def aI1:Nat->Sp
 |0=>fun _ _ _ _=>False
 |n+1=>aV2 (n+1)
inductive spRnR(vs:List V)(H:Hp)(Q:VK)(z1:XK):Prop
 |mk:∀(d:Addr) (r:Rw) (as:List (Str×Str)),vs=[.ref r.p,.ref d]->eB H r->NmD H d as->(∀(q:Rw) (H':Hp),bA H H'->eB H' q->cF9 (nuA as) r q->Q (.ref q.p) H')->spRnR vs H Q z1
structure mV where
 P:Addr
 pos:Pos
 q:Str
inductive aO3(L:mV)(vs:List V)(H:Hp)(Q:VK)(z1:XK):Prop
 |mk:∀(p d:Addr) (rs:List Rw) (as:List (Str×Str)),vs=[.ref p,.ref d]->eA H L.P L.pos L.q->H p=some (.tup (bN rs))->aW H rs->bP rs<=4000->NmD H d as->(∀(q:Addr) (o:List Rw) (H':Hp),kJ L.P H H'->eA H' L.P L.pos L.q->H' q=some (.tup (bN o))->aW H' o->bF UEq (nuA as) rs o->Q (.ref q) H')->aO3 L vs H Q z1
inductive spHs1(vs:List V)(H:Hp)(Q:VK)(z1:XK):Prop
 |mk:∀w:Str,vs=[.str w]->(∀H',bA H H'->Q (.bl (kM w)) H')->spHs1 vs H Q z1
inductive spPlc(vs:List V)(H:Hp)(Q:VK)(z1:XK):Prop
 |mk:∀w:Str,vs=[.str w]->Q (.int (plc w)) H->spPlc vs H Q z1
inductive spWdR(vs:List V)(H:Hp)(Q:VK)(z1:XK):Prop
 |mk:∀(r:Rw) (a b:Addr) (A B:List V),vs=[.ref r.p,.ref a,.ref b]->eB H r->UsR H r->H a=some (.tup A)->H b=some (.tup B)->A.length<=3->B.length<=3->(∀(q:Rw) (H':Hp),bA H H'->eB H' q->Wd1 (dG H' A B) r q->Q (.ref q.p) H')->spWdR vs H Q z1
inductive bC0(L:mV)(vs:List V)(H:Hp)(Q:VK)(z1:XK):Prop
 |mk:∀(p a b:Addr) (rs:List Rw) (A B:List V),vs=[.ref p,.ref a,.ref b]->eA H L.P L.pos L.q->H p=some (.tup (bN rs))->aW H rs->bP rs<=4000->lO H (dD rs)->H a=some (.tup A)->H b=some (.tup B)->A.length<=3->B.length<=3->(∀(q:Addr) (o:List Rw) (H':Hp),kJ L.P H H'->eA H' L.P L.pos L.q->H' q=some (.tup (bN o))->aW H' o->bF (dG H' A B) id rs o->Q (.ref q) H')->bC0 L vs H Q z1
def aW6:∀{ks:List Key}{vs:List V}{i},ks.Nodup->ks[i]?=some k->vs.length=ks.length->(ks.zip vs).map (fun kv=>if kv.1=k then (kv.1,w) else kv)=ks.zip (vs.set i w)
 |[],_,i,_,h,_=>by simp at h
 |a::ks,[],_,_,_,h=>by simp at h
 |a::ks,v::vs,0,nd,h,hl=>by
  have e:a=k:=by simpa using h
  subst e;have nd:=de.mp nd;have:(ks.zip vs).map (fun kv=>if kv.1=a then (kv.1,w) else kv)=ks.zip vs:=by
   refine(xu (g:=id) (l:=ks.zip vs) fun kv hkv=>?_).trans (List.map_id _);exact au fun e:kv.1=a=>nd.1 (by rw[<-e];exact(ju (a:=kv.1) (b:=kv.2) hkv).1)
  simp only[List.zip_cons_cons,List.map_cons,if_pos,List.set_cons_zero,this]
 |a::ks,v::vs,i+1,nd,h,hl=>by
  have nd:=de.mp nd;have h:ks[i]?=some k:=by simpa using h
  have ne:¬a=k:=fun e=>nd.1 (by rw[e];exact bg h)
  simp only[List.zip_cons_cons,List.map_cons,if_neg ne,List.set_cons_succ,aW6 (w:=w) nd.2 h (by simpa using hl)]
def sE:∀{ks:List Key}{vs}{i:Nat},ks.Nodup->ks[i]?=some k->vs.length=ks.length->dW (ks.zip vs) k=vs[i]?
 |[],_,i,_,h,_=>by simp at h
 |a::ks,[],_,_,_,h=>by simp at h
 |a::ks,v::vs,0,nd,h,hl=>by
  have e:a=k:=by simpa using h
  subst e;rw[yn,dA rfl];rfl
 |a::ks,v::vs,i+1,nd,h,hl=>by
  have nd:=de.mp nd;have h:ks[i]?=some k:=by simpa using h
  have ne:¬a=k:=fun e=>nd.1 (by rw[e];exact bg h)
  rw[yn,cE ne,sE nd.2 h (by simpa using hl)];rfl
def aX8 {ks:List Key}(nd:ks.Nodup)(h:ks[i]?=some k)(hl:vs.length=ks.length):dP (ks.zip vs) k w=ks.zip (vs.set i w):=by
 unfold dP;rw[bb,aW6 nd h hl];rw[gN,sE nd h hl];have:i<vs.length:=by rw[hl];exact(bf.mp h).1
 rw[bo this];rfl
def vE:∀{more acc},((acc++more).map (·.1)).Nodup->iM acc more=acc++more
 |[],acc,_=>by simp[iM]
 |(k,v)::more,acc,nd=>by
  have e:dP acc k v=acc++[(k,v)]:=rG _ (by
   cases q:dW acc k with
   |none=>rfl
   |some u =>
    exfalso;have a:=gN k acc;rw[q] at a;obtain⟨p,hp,hk⟩:=je.mp a;have hk:=ae hk;rw[av,eo,jp] at nd;exact nd.2.2 _ (jd hp) _ ao hk)
  show iM (dP acc k v) more=_;rw[e,vE (by rw[kj];exact nd),kj];rfl
def uF:List Key:=(["kinds","names","room","by","left","wide"]:List Str).map Sum.inr
def sS:uF.Nodup:=by decide
def jD (kd:Int)(nl:Addr)(room by_ left wd:Int):List (Key×V):=uF.zip [.int kd,.ref nl,.int room,.int by_,.int left,.int wd]
structure We(H:Hp)(d l sc nl:Addr)(kd wd:Int)(xs:List Str):Prop where
 deal:dY H d l
 scn:∃room by_ left,H sc=some (.dK (jD kd nl room by_ left wd))
 nms:H nl=some (.lst (xs.map V.str))
 ne1:sc≠d
 ne2:nl≠l
 x1:1<=xs.length
 x2:xs.length<=9
 m1:1<=kd
 m2:kd<=3
 w1:1<=wd
 w2:wd<=9
section
variable {H H':Hp}{d l sc nl:Addr}{kd wd:Int}{xs:List Str}
def We.sl (W:We H d l sc nl kd wd xs):sc≠l:=by
 obtain⟨_,_,_,e⟩:=W.scn;obtain⟨sd,k,ls,z⟩:=W.deal;exact gX e z.lc (by intro z;cases z)
def We.out (W:We H d l sc nl kd wd xs)(D:dY H' d l)(o:fL d l H H'):We H' d l sc nl kd wd xs:=
 ⟨D,let⟨a,b,c,e⟩:=W.scn;⟨a,b,c,o _ _ e W.ne1 W.sl⟩,aM W.deal W.nms W.ne2 o,W.ne1,W.ne2,W.x1,W.x2,W.m1,W.m2,W.w1,W.w2⟩
def We.same (W:We H d l sc nl kd wd xs)(s:bA H H'):We H' d l sc nl kd wd xs:=
 ⟨W.deal.same s,let⟨a,b,c,e⟩:=W.scn;⟨a,b,c,s _ _ e⟩,s _ _ W.nms,W.ne1,W.ne2,W.x1,W.x2,W.m1,W.m2,W.w1,W.w2⟩
def We.put (W:We H d l sc nl kd wd xs)(room by_ left):We (aN H sc (.dK (jD kd nl room by_ left wd))) d l sc nl kd wd xs:=by
 obtain⟨_,_,_,e⟩:=W.scn;obtain⟨sd,k,ls,z⟩:=id W.deal;have n1:=W.ne1;have n2:=W.sl;refine⟨⟨sd,k,ls,⟨by rw[aH n1.symm];exact z.dc,by rw[aH n2.symm];exact z.lc,z.s0,z.s1,z.n0,z.l0⟩⟩,⟨_,_,_,aC⟩,?_,n1,W.ne2,W.x1,W.x2,W.m1,W.m2,W.w1,W.w2⟩;rw[aH (gX W.nms e (by intro z;cases z))];exact W.nms
def jS (e:H sc=some (.dK (jD kd nl room by_ left wd)))(i:Nat)(h:uF[i]?=some (Sum.inr x))(hv:([.int kd,.ref nl,.int room,.int by_,.int left,.int wd]:List V)[i]?=some v):fW H sc (.str x) (some v):=by
 rw[<-hv, <-sE (k:=Sum.inr x) sS h rfl];exact fW.k (k:=Sum.inr x) e
def qS (e:H sc=some (.dK (jD kd nl room by_ left wd)))(i:Nat)(h:uF[i]?=some (Sum.inr x)):hX H sc (.str x) v (aN H sc (.dK (uF.zip (([.int kd,.ref nl,.int room,.int by_,.int left,.int wd]:List V).set i v)))):=by
 rw[<-aX8 (k:=Sum.inr x) sS h rfl];exact hX.k (k:=Sum.inr x) e (aJ (by show 6<=1000;decide))
def We.gKinds (W:We H d l sc nl kd wd xs):fW H sc (.str "kinds") (some (.int kd)):=by obtain⟨_,_,_,e⟩:=W.scn;exact jS e 0 rfl rfl
def We.gNames (W:We H d l sc nl kd wd xs):fW H sc (.str "names") (some (.ref nl)):=by obtain⟨_,_,_,e⟩:=W.scn;exact jS e 1 rfl rfl
def We.gRoom (W:We H d l sc nl kd wd xs):∃v,fW H sc (.str "room") (some (.int v)):=by obtain⟨_,_,_,e⟩:=W.scn;exact⟨_,jS e 2 rfl rfl⟩
def We.gBy (W:We H d l sc nl kd wd xs):∃v,fW H sc (.str "by") (some (.int v)):=by obtain⟨_,_,_,e⟩:=W.scn;exact⟨_,jS e 3 rfl rfl⟩
def We.gLeft (W:We H d l sc nl kd wd xs):∃v,fW H sc (.str "left") (some (.int v)):=by obtain⟨_,_,_,e⟩:=W.scn;exact⟨_,jS e 4 rfl rfl⟩
def We.gWide (W:We H d l sc nl kd wd xs):fW H sc (.str "wide") (some (.int wd)):=by obtain⟨_,_,_,e⟩:=W.scn;exact jS e 5 rfl rfl
def We.off (W:We H d l sc nl kd wd xs)(o):eZ [d,l,sc] H (aN H sc o):=fun b u e n=>by
 rw[aH fun z=>n (by rw[z];simp)];exact e
def We.pRoom (W:We H d l sc nl kd wd xs)(v):∃H',hX H sc (.str "room") (.int v) H'/\We H' d l sc nl kd wd xs/\eZ [d,l,sc] H H':=by obtain⟨_,_,_,e⟩:=W.scn;exact⟨_,qS e 2 rfl,W.put _ _ _,W.off _⟩
def We.pBy (W:We H d l sc nl kd wd xs)(v):∃H',hX H sc (.str "by") (.int v) H'/\We H' d l sc nl kd wd xs/\eZ [d,l,sc] H H':=by obtain⟨_,_,_,e⟩:=W.scn;exact⟨_,qS e 3 rfl,W.put _ _ _,W.off _⟩
def We.pLeft (W:We H d l sc nl kd wd xs)(v):∃H',hX H sc (.str "left") (.int v) H'/\We H' d l sc nl kd wd xs/\eZ [d,l,sc] H H':=by obtain⟨_,_,_,e⟩:=W.scn;exact⟨_,qS e 4 rfl,W.put _ _ _,W.off _⟩
def We.ts (W:We H d l sc nl kd wd xs)(o:eZ [d,l,sc] H H'):TS H H':=fun p ys h=>by
 obtain⟨_,_,_,e⟩:=W.scn;obtain⟨sd,k,ls,z⟩:=W.deal;refine o _ _ h fun m=>?_
 simp only[List.mem_cons,List.not_mem_nil,or_false] at m;rcases m with m|m|m
 ·rw[m,z.dc] at h;cases h
 ·rw[m,z.lc] at h;cases h
 ·rw[m,e] at h;cases h
def We.keep (W:We H d l sc nl kd wd xs)(h:H p=some (.lst ys))(n:p≠l)(o:eZ [d,l,sc] H H'):H' p=some (.lst ys):=by
 obtain⟨_,_,_,e⟩:=W.scn;obtain⟨sd,k,ls,z⟩:=W.deal;refine o _ _ h fun m=>?_
 simp only[List.mem_cons,List.not_mem_nil,or_false] at m;rcases m with m|m|m
 ·rw[m,z.dc] at h;cases h
 ·exact n m
 ·rw[m,e] at h;cases h
def We.lst (W:We H d l sc nl kd wd xs)(h:H p=some (.lst ys))(n:p≠l)(n2:p≠nl):We (aN H p (.lst zs)) d l sc nl kd wd xs:=by
 obtain⟨a,b,c,e⟩:=W.scn;exact⟨rC W.deal h n,⟨a,b,c,by rw[aH (gX e h (by intro z;cases z))];exact e⟩,by rw[aH n2.symm];exact W.nms,W.ne1,W.ne2,W.x1,W.x2,W.m1,W.m2,W.w1,W.w2⟩
def We.all (W:We H d l sc nl kd wd xs):∀b∈[d,l,sc],∃o,H b=some o:=by
 obtain⟨_,_,_,e⟩:=W.scn;obtain⟨sd,k,ls,z⟩:=W.deal;intro b m;simp only[List.mem_cons,List.not_mem_nil,or_false] at m;rcases m with m|m|m
 ·exact⟨_,by rw[m];exact z.dc⟩
 ·exact⟨_,by rw[m];exact z.lc⟩
 ·exact⟨_,by rw[m];exact e⟩
def We.new (W:We H d l sc nl kd wd xs)(h:H p=none):p≠d/\p≠l/\p≠sc/\p≠nl:=by
 obtain⟨_,_,_,e⟩:=W.scn;have:=fN W.deal h;exact⟨this.1,this.2,(fun z=>by rw[z,e] at h;cases h),(fun z=>by rw[z,W.nms] at h;cases h)⟩
end
def wW:∀{vs},fM R vs []->vs=[]
 |[],_=>rfl
 |_::_,h=>h.elim
def cG9 (ha:1<=a)(hb:1<=b):0<=sJ a b/\sJ a b<=a/\(2*a<=b->2*sJ a b<=bC4 a b):=by
 have g:=bB0 (a:=a) hb;have h0:0<=sJ a b:=Int.ediv_nonneg (by lia) (yg g);refine⟨h0,Int.ediv_le_self _ (by lia),fun h=>?_⟩;have r:=aK4 (a:=a) (b:=b) (by lia) hb;have:sJ a b*(2*a)<=a*bC4 a b:=by rw[<-r];exact rc h h0
 refine Int.le_of_mul_le_mul_left (a:=a) ?_ (by lia);rw[show a*(2*sJ a b)=sJ a b*(2*a) by rw[Int.mul_comm (sJ a b),Int.mul_assoc,Int.mul_left_comm]];exact this
inductive spSumE(vs:List V)(H:Hp)(Q:VK)(z1:XK):Prop
 |mk:∀(d l:Addr) (m:Int),vs=[.ref d,.int m]->dY H d l->0<=m->m<=3->(∀(p:Addr) (ws:List V) (H':Hp),dY H' d l->fL d l H H'->H' p=some (.tup ws)->ws.length<=3->(∀u∈ws,vS u)->Q (.ref p) H')->spSumE vs H Q z1
inductive spStpE(vs:List V)(H:Hp)(Q:VK)(z1:XK):Prop
 |mk:∀(d l:Addr) (m:Int),vs=[.ref d,.int m]->dY H d l->((m=1\/m=2))->(∀(p:Addr) (a b:Int) (H':Hp),dY H' d l->fL d l H H'->H' p=some (.tup [.int a,.int b])->0<=a->a<=100->(m=2->2*a<=b)->Q (.ref p) H')->spStpE vs H Q z1
inductive spThrE(vs:List V)(H:Hp)(Q:VK)(z1:XK):Prop
 |mk:∀(d l sc nl:Addr) (kd wd:Int) (xs:List Str) (x:Str),vs=[.ref d,.ref sc,.str x]->We H d l sc nl kd wd xs->(∀(p:Addr) (w:Str) (us:List V) (H':Hp),dY H' d l->fL d l H H'->H' p=some (.tup (.str w :: .str x::us))->kQ H' w us false->UsH H' w us->Q (.ref p) H')->spThrE vs H Q z1
def cap:Nat->Int
 |0=>2
 |n+1=>2*cap n+2
inductive bC2(n:Nat)(vs:List V)(H:Hp)(Q:VK)(z1:XK):Prop
 |mk:∀(d l kn:Addr) (ks:List Str) (room:Int),vs=[.ref d,.ref kn,.int room]->dY H d l->H kn=some (.lst (ks.map V.str))->kn≠l->ks.length<=1000->1<=room->room<=cap n->(∀(t:Tm) (H':Hp),dY H' d l->fL d l H H'->mE H' t->t.ok->(∀x∈t.names,x∈ks)->(t.size:Int)<=room->Q (.ref t.p) H')->bC2 n vs H Q z1
def qV:Nat->Sp
 |0=>fun _ _ _ _=>False
 |n+1=>bC2 n
def aL5 (H:Hp)(ks:List Str)(x:Str)(r:Rw):Prop:=(∃p w us,r= .thr p w x us false/\UsH H w us)\/∃p t,r= .lt p x t/\(∀y∈t.names,y∈ks)/\t.size<=7
inductive spSetE(vs:List V)(H:Hp)(Q:VK)(z1:XK):Prop
 |mk:∀(d l sc nl kn:Addr) (kd wd:Int) (xs ks:List Str),vs=[.ref d,.ref sc,.ref kn]->We H d l sc nl kd wd xs->H kn=some (.lst (ks.map V.str))->kn≠l->ks.length<=500->(∀(p kn':Addr) (r:Rw) (x:Str) (H':Hp),We H' d l sc nl kd wd xs->eZ [d,l,sc] H H'->H' p=some (.tup [.ref r.p,.int 0,.ref kn'])->eB H' r->aL5 H' ks x r->x∈xs->H kn'=none->H' kn'=some (.lst ((ks++[x]).map V.str))->Q (.ref p) H')->spSetE vs H Q z1
def mH:Nat->Nat
 |0=>1
 |1=>4
 |_=>12
def tbE:Nat->Nat
 |0=>1
 |1=>1
 |_=>6
structure RwE(H:Hp)(ks:List Str)(xs:List Str)(r:Rw)(k2:List Str)(tells:Int)(m:Nat):Prop where
 sc:tZ ks r k2
 tl:tel r=tells
 tk:mI r
 t0:0<=tells
 t1:tells<=tbE m
 ct:r.cnt<=mH m
 dp:r.dp<=m
 tz:aD6 r
 us:lO H (iR r)
 st:∀y∈eF [r],y∈xs
structure pX(H:Hp)(ks:List Str)(xs:List Str)(rs:List Rw)(k2:List Str)(tells:Int)(m n:Nat):Prop where
 sc:fZ ks rs k2
 tl:eS rs=tells
 tk:cL rs
 t0:0<=tells
 t1:tells<=(n*tbE m:Nat)
 ct:bP rs<=n*mH m
 dp:jT rs<=m
 tz:iZ rs
 us:lO H (dD rs)
 st:∀y∈eF rs,y∈xs
def aL5.ts (h:aL5 H ks x r)(t:TS H H'):aL5 H' ks x r:=by
 rcases h with⟨p,w,us,e,k⟩|h
 ·exact .inl ⟨p,w,us,e,k.ts t⟩
 ·exact .inr h
def RwE.ts (h:RwE H ks xs r k2 tells m)(t:TS H H'):RwE H' ks xs r k2 tells m:=⟨h.sc,h.tl,h.tk,h.t0,h.t1,h.ct,h.dp,h.tz,h.us.ts t,h.st⟩
def pX.ts (h:pX H ks xs rs k2 tells m n)(t:TS H H'):pX H' ks xs rs k2 tells m n:=⟨h.sc,h.tl,h.tk,h.t0,h.t1,h.ct,h.dp,h.tz,h.us.ts t,h.st⟩
inductive wS(m:Nat)(vs:List V)(H:Hp)(Q:VK)(z1:XK):Prop
 |mk:∀(d l sc nl kn:Addr) (kd wd:Int) (xs ks:List Str) (deep:Int),vs=[.ref d,.ref sc,.ref kn,.int deep]->We H d l sc nl kd wd xs->H kn=some (.lst (ks.map V.str))->kn≠l->ks.length+mH m<=200->m<=2->(deep=2-(m:Int))->(∀(p kn':Addr) (r:Rw) (k2:List Str) (tells:Int) (H':Hp),We H' d l sc nl kd wd xs->eZ [d,l,sc] H H'->H' p=some (.tup [.ref r.p,.int tells,.ref kn'])->eB H' r->RwE H' ks xs r k2 tells m->(kn'=kn\/H kn'=none)->H' kn'=some (.lst (k2.map V.str))->Q (.ref p) H')->wS m vs H Q z1
def aP5:Nat->Sp
 |0=>fun _ _ _ _=>False
 |m+1=>wS m
inductive pI(m:Nat)(vs:List V)(H:Hp)(Q:VK)(z1:XK):Prop
 |mk:∀(d l sc nl kn:Addr) (kd wd:Int) (xs ks:List Str) (deep:Int) (n:Nat),vs=[.ref d,.ref sc,.ref kn,.int deep,.int n]->We H d l sc nl kd wd xs->H kn=some (.lst (ks.map V.str))->kn≠l->ks.length+n*mH m<=200->m<=2->n<=6->(deep=2-(m:Int))->(∀(p pr kn':Addr) (rs:List Rw) (k2:List Str) (tells:Int) (H':Hp),We H' d l sc nl kd wd xs->eZ [d,l,sc] H H'->H' p=some (.tup [.ref pr,.int tells,.ref kn'])->H' pr=some (.tup (bN rs))->aW H' rs->pX H' ks xs rs k2 tells m n->(kn'=kn\/H kn'=none)->H' kn'=some (.lst (k2.map V.str))->Q (.ref p) H')->pI m vs H Q z1
def bM4:Nat->Sp
 |0=>fun _ _ _ _=>False
 |m+1=>pI m
def zN:Nat->Sp
 |0=>fun _ _ _ _=>False
 |m+1=>fun vs H Q _=>∃(d l sc nl kn:Addr) (kd wd:Int) (xs ks:List Str) (deep:Int),vs=[.ref d,.ref sc,.ref kn,.int deep]/\We H d l sc nl kd wd xs/\H kn=some (.lst (ks.map V.str))/\kn≠l/\ks.length+mH (m+1)<=200/\m<=1/\deep=1-(m:Int) /\
 ∀(p kn':Addr) (r:Rw) (k2:List Str) (tells:Int) (H':Hp),We H' d l sc nl kd wd xs->eZ [d,l,sc] H H'->H' p=some (.tup [.ref r.p,.int tells,.ref kn'])->eB H' r->RwE H' ks xs r k2 tells (m+1)->H kn'=none->H' kn'=some (.lst (k2.map V.str))->Q (.ref p) H'
inductive spPrgE(vs:List V)(H:Hp)(Q:VK)(z1:XK):Prop
 |mk:∀(d l kl nl:Addr) (ks xs:List Str) (room:Int),vs=[.ref d,.ref kl,.ref nl,.int room]->dY H d l->H kl=some (.lst (ks.map V.str))->kl≠l->1<=ks.length->ks.length<=3->H nl=some (.lst (xs.map V.str))->nl≠l->1<=xs.length->xs.length<=9->(∀(p:Addr) (rs:List Rw) (H':Hp),dY H' d l->fL d l H H'->pH H' p ks rs 1->lO H' (dD rs)->Q (.ref p) H')->spPrgE vs H Q z1
mutual
def bS4:∀(r:Rw),(∀q∈iR r,q.w≠"tell")->tel r=0
 |.thr _ _ _ _ _,_=>rfl
 |.lt _ _ _,_=>rfl
 |.tell p t,h=>absurd rfl (h (Rw.tell p t) ao)
 |.when _ _ _ _ a b,h=>pY a fun q hq=>h q (aq _ (cj _ hq))
 |.times _ _ n b,h=>by
  have e:=pY b fun q hq=>h q (aq _ hq)
  show n*eS b=0;rw[e,Int.mul_zero]
def pY:∀(rs:List Rw),(∀q∈dD rs,q.w≠"tell")->eS rs=0
 |[],_=>rfl
 |r::rs,h=>by
  show tel r+eS rs=0;rw[bS4 r fun q hq=>h q (cj _ hq),pY rs fun q hq=>h q (br _ hq)];rfl
end
def aL3 (h:1<=eS rs):∃s∈bY 0 rs,s.2.1.w="tell":=by
 by_cases c:∃q∈dD rs,q.w="tell"
 ·obtain⟨q,hq,e⟩:=c;rw[<-fQ rs 0] at hq;obtain⟨s,hs,rfl⟩:=dj.mp hq;exact⟨s,(dk.mp hs).1,e⟩
 ·have:=pY rs fun q hq z=>c ⟨q,hq,z⟩
  lia
def aA1 (a b:Str)(tn:Int)(ws:List Str):Prop:=∀k w,ws[k]?=some w->w=wdK a b tn k\/w=wdK a b tn k++"q"
def aJ1 {tn}(h:aA1 a b tn ws)(hl:ws.length=i)(hw:w=wdK a b tn i\/w=wdK a b tn i++"q"):aA1 a b tn (ws++[w]):=fun k v hv=>by
 by_cases c:k<ws.length
 ·rw[uh c] at hv;exact h k v hv
 ·rw[ke (by lia)] at hv;have:k-ws.length=0:=by
   have:=(bf.mp hv).1;simp only[List.length_cons,List.length_nil] at this;lia
  rw[this] at hv;have hv:w=v:=by simpa using hv
  rw[<-hv,show k=i from by lia];exact hw
def aC9 {x y:Str}(h:x.cps.toList=y.cps.toList):x=y:=by
 cases x;cases y
 exact ej Str.mk (zq.mp h)
def aR0 {tn}(hl:a.length+b.length<=6)(h:aA1 a b tn ws):∀w∈ws,w.length<=8:=fun w hw=>by
 obtain⟨k,e⟩:=wq.mp hw;have lk:=bJ2 a b tn k;rcases h k w e with rfl|rfl
 ·lia
 ·rw[pp,bM0];lia
def bA0 (x):x++Str.empty=x:=aC9 (by rw[bF2,Array.toList_append];exact gp _)
def mQ (z)(lo hi):(Txt.slice z lo hi).length<=(Builtin.Str.strSliceIndices lo hi 1 z.length).length:=by
 unfold Txt.slice
 split
 ·rename_i q
  have q:(Builtin.Str.strSliceIndices lo hi 1 z.length).length=z.length:=by simpa using q
  lia
 ·exact gi _ _
def bI8 (h:z.length<=6)(j0:0<=j)(j1:j<(z.length:Int)+1):(Txt.slice z none (some j)).length+(Txt.slice z (some j) none).length<=6:=by
 obtain⟨i,rfl⟩:=dv j0;have key:∀n:Nat,n<7->∀i:Nat,i<n+1->(Builtin.Str.strSliceIndices none (some (i:Int)) 1 n).length+(Builtin.Str.strSliceIndices (some (i:Int)) none 1 n).length<=6:=by decide
 have:=key z.length (by lia) i (by lia);have a:=mQ z none (some (i:Int));have b:=mQ z (some (i:Int)) none;lia
inductive spNamesE(vs:List V)(H:Hp)(Q:VK)(z1:XK):Prop
 |mk:∀(d l:Addr) (m:Int),vs=[.ref d,.int m]->dY H d l->0<=m->m<=9->(∀(p:Addr) (ws:List Str) (a b:Str) (tn:Int) (H':Hp),dY H' d l->fL d l H H'->H p=none->H' p=some (.lst (ws.map V.str))->ws.length=m.toNat->a.length+b.length<=6->aA1 a b tn ws->Q (.ref p) H')->spNamesE vs H Q z1
section
variable {H₀:Hp}{ks k1 k2 k3 k4 xs:List Str}{m n i:Nat}{a b rs:List Rw}{r:Rw}{x:Str}{t u:Int}
def aU4 {i j H}(h3:σ[i]?=some (some (.int deep)))(h0:σ[j]?=some (some (.ref d)))(D:dY H d l)(k:∀e (H2),dY H2 d l->fL d l H H2->(e=true->deep=0)->Q (.bl e) H2):bM2 (tOp rEq (mC i) (tC (.int 0))) (tOp rEq (pP spDraw [] E0 (kG (mC j) (kG (tC (.int 2)) tNil))) (tC (.int 1))) σ H Q:=by
 refine⟨_,h3,rfl,_,rfl,?_⟩
 by_cases c:deep=0
 ·subst c;exact bH (ag rfl) ⟨_,h0,d,l,2,rfl,D,by decide,by decide,fun x H2 _ _ D2 o2=>⟨rfl,k _ H2 D2 o2 fun _=>rfl⟩⟩
 ·have e:decide (V.int deep=V.int 0)=false:=ba fun z=>c (by injection z)
  rw[e];exact aS (by simp) (k false H D (fL.refl _) fun z=>nomatch z)
def nI (m):1<=mH m:=by
 rcases m with _|_|m<;>simp only[mH]<;>lia
def bH4 (m):1<=tbE m:=by
 rcases m with _|_|m<;>simp only[tbE]<;>lia
def aL5.row (h:aL5 H₀ ks x r)(hx:x∈xs):RwE H₀ ks xs r (ks++[x]) 0 m:=by
 have:=nI m;rcases h with⟨p,w,us,rfl,hu⟩|⟨p,t,rfl,nm,sz⟩
 ·refine⟨⟨rfl,rfl⟩,rfl,trivial,ng _,by lia,this,bu _,trivial,fun q hq=>?_,fun y hy=>?_⟩
  ·rw[cp.mp hq];exact hu
  ·have:y=x:=by simpa [eF,dD,iR,Rw.sets] using hy
   rw[this];exact hx
 ·refine⟨⟨rfl,nm⟩,rfl,trivial,ng _,by lia,this,bu _,sz,fun q hq=>?_,fun y hy=>?_⟩
  ·rw[cp.mp hq];trivial
  ·have:y=x:=by simpa [eF,dD,iR,Rw.sets] using hy
   rw[this];exact hx
def aR7 {t}(nm:∀y∈t.names,y∈ks)(sz:t.size<=7):RwE H₀ ks xs (.tell p t) ks 1 m:=by
 have:=nI m;have:=bH4 m;refine⟨⟨rfl,nm⟩,rfl,trivial,by decide,by lia,by assumption,bu _,sz,fun q hq=>?_,fun y hy=>?_⟩
 ·rw[cp.mp hq];trivial
 ·exact absurd hy (by simp[eF,dD,iR,Rw.sets])
def pX.nil:pX H₀ ks xs [] ks 0 m 0:=⟨rfl,rfl,trivial,ng _,by lia,bu _,bu _,trivial,(fun q hq=>by exact absurd hq (by simp[dD])),(fun y hy=>by exact absurd hy (by simp[eF,dD]))⟩
def pX.mono (h:pX H₀ ks xs rs k2 t m i)(hi:i<=n):pX H₀ ks xs rs k2 t m n:=
 ⟨h.sc,h.tl,h.tk,h.t0,Int.le_trans h.t1 (Int.ofNat_le.mpr (qz _ hi)),cm h.ct (qz _ hi),h.dp,h.tz,h.us,h.st⟩
def pX.snoc (h:pX H₀ ks xs rs k1 t m i)(g:RwE H₀ k1 xs r k2 u m):pX H₀ ks xs (rs++[r]) k2 (t+u) m (i+1):=by
 have e1:(i+1)*tbE m=i*tbE m+tbE m:=yo _ _;have e2:(i+1)*mH m=i*mH m+mH m:=yo _ _;have h1:=h.t0;have h2:=h.t1;have h3:=h.ct;have g1:=g.t0;have g2:=g.t1;have g3:=g.ct;refine⟨fZ.app (ks:=ks) h.sc g.sc,?_,cL.app h.tk ⟨g.tk,trivial⟩,by lia,by lia,?_,wR h.dp g.dp,iZ.app h.tz ⟨g.tz,trivial⟩,fun q hq=>?_,fun y hy=>?_⟩
 ·rw[nV,h.tl];simp only[eS];rw[g.tl];lia
 ·rw[jO];simp only[bP];lia
 ·rw[gM] at hq;rcases bq.mp hq with z|z
  ·exact h.us q z
  ·exact g.us q (by simpa [dD] using z)
 ·rw[xH] at hy;rcases bq.mp hy with z|z
  ·exact h.st y z
  ·exact g.st y z
def aV9 (hm:m<=1)(h1:n<=2)(h2:m=0->n<=1):n*mH m<=mH (m+1)/\n*tbE m<=2/\n*mH m+n*tbE m+2<=mH (m+1):=by
 have:m=0\/m=1:=by lia
 rcases this with rfl|rfl
 ·have:=h2 rfl;simp only[mH,tbE];lia
 ·simp only[mH,tbE];lia
def pX.when {p pa pb}(A:pX H₀ ks xs a k3 t m n)(B:pX H₀ ks xs b k4 t 0 nb)(hb:(nb)<=1+t)(hm:m<=1)(h1:n<=2)(h2:m=0->n<=1)(nm:∀y∈tt.names,y∈ks)(sz:tt.size<=7):RwE H₀ ks xs (.when p pa pb tt a b) (k3.filter fun x=>decide (x∈k4)) t (m+1):=by
 obtain⟨c1,c2,c3⟩:=aV9 hm h1 h2;have a1:=A.t1;have a2:=A.ct;have a3:=A.dp;have b2:=B.ct;have b3:=B.dp;have e:nb*mH 0=nb:=Nat.mul_one _;refine⟨⟨nm,k3,k4,A.sc,B.sc,rfl⟩,A.tl,⟨by rw[A.tl,B.tl],A.tk,B.tk⟩,A.t0,?_,?_,?_,⟨sz,A.tz,B.tz⟩,fun q hq=>?_,fun y hy=>?_⟩
 ·have:m=0\/m=1:=by lia
  rcases this with rfl|rfl
  ·have:=h2 rfl;simp only[tbE] at a1 ⊢;lia
  ·simp only[tbE] at a1 ⊢;lia
 ·simp only[Rw.cnt];lia
 ·simp only[Rw.dp];lia
 ·rcases bv.mp hq with z|z
  ·rw[z];trivial
  ·rcases bq.mp z with z|z
   ·exact A.us q z
   ·exact B.us q z
 ·rw[nJ] at hy;rcases bq.mp hy with z|z
  ·exact A.st y z
  ·exact B.st y z
def pX.times {p pb}(B:pX H₀ ks xs b k2 t 1 n)(h1:n<=2)(j1:1<=j)(j3:j<=3):RwE H₀ ks xs (.times p pb j b) k2 (j*t) 2:=by
 have b0:=B.t0;have b1:=B.t1;have b2:=B.ct;have b3:=B.dp;simp only[mH,tbE] at b1 b2;have hj:j=1\/j=2\/j=3:=by lia
 refine⟨B.sc,by show j*eS b=_;rw[B.tl],⟨⟨by lia,by lia,by rw[B.tl];exact b0,by rw[B.tl];lia⟩,B.tk⟩,?_,?_,?_,?_,B.tz,fun q hq=>?_,fun y hy=>?_⟩
 ·rcases hj with rfl|rfl|rfl<;>lia
 ·simp only[tbE];rcases hj with rfl|rfl|rfl<;>lia
 ·simp only[Rw.cnt,mH];lia
 ·simp only[Rw.dp];lia
 ·rcases bv.mp hq with z|z
  ·rw[z];trivial
  ·exact B.us q z
 ·rw[lT] at hy;exact B.st y hy
end
end Mine
namespace L2
open PySem PySem.Spec PyProof.Rows
def aN3 {i:Nat}:∀{es}{vs:List (Key×Value)}{e},Pairs knd es vs->es[i]?=some e->∃kv,vs[i]?=some kv/\knd.is kv.1 e.key=true:=by
 induction i with
 |zero =>
  intro es vs e h he
  cases h with
  |nil=>cases he
  |@cons e' kv _ _ a b c=>cases he;exact⟨kv,rfl,a⟩
 |succ i ih =>
  intro es vs e h he
  cases h with
  |nil=>cases he
  |@cons e' kv _ _ a b c=>exact ih c he
def cD5 {i:Nat}:∀{kvs:List (Key×V)}{vs kv},KV kvs vs->vs[i]?=some kv->∃p,kvs[i]?=some p/\p.1=kv.1:=by
 induction i with
 |zero =>
  intro kvs vs kv h he
  cases h with
  |nil=>cases he
  |cons a b=>cases he;exact⟨_,rfl,a.1⟩
 |succ i ih =>
  intro kvs vs kv h he
  cases h with
  |nil=>cases he
  |cons a b=>exact ih b he
section
variable {X:Cx}
def pM (hc:autoParam (X.calm=true) Rq0._auto_1):eL X (.type "list") (fun xs H Q=>∃(d:Addr) (kvs:List (Key×V)),xs=[.ref d]/\H d=some (.dK kvs)/\∀l,H l=none->Q (.ref l) (aN H l (.lst (kvs.map fun kv=>kV kv.1)))):=by
 intro pins s σ H xs us Q I r h;obtain⟨d,kvs,rfl,hd,q⟩:=h;obtain⟨u,rfl,ru⟩:=gP r
 cases ru
 obtain⟨z,hs,vs,rel,o,es,ep,g1,g2,g3,g4,g5,g6⟩:=sN I.hok hd;have sz:es.size=kvs.length:=by rw[gg rel, <-g5.length,ef]
 refine W.kdl_call (bR7 (o:=o) (es:=es) (ep:=ep) hs g2 g3) (I.ok.hd hc) g1 (by rw[sz];exact z) fun h' tk acc c kp hl ai=>?_
 have f:=I.hok.fresh (aj s.heap.objs.size);have al:acc.toList.length=(kvs.map fun kv=>kV kv.1).length:=by rw[ef,ai.1,sz,ac]
 refine⟨.ref s.heap.objs.size,_,I.laid (o:= .lst (kvs.map fun kv=>kV kv.1)) (t':=tk) kp (aj _) ⟨by rw[ac];exact z,acc.toList,c,?_,by rw[hl,qp]⟩,rfl,q _ f⟩;refine bB2 al fun i y hy=>?_
 obtain⟨e,he,ey⟩:=ai.2 i y (by rw[<-im];exact hy);rw[<-im] at he;obtain⟨kv,hkv,his⟩:=aN3 g5 he;obtain⟨p,hp,ep⟩:=cD5 rel hkv;refine⟨kV p.1,by rw[df,hp];rfl,?_⟩;rw[ey];exact aG2 (by rw[ep];exact his)
def bV0 (tl:TE):TI:=fun σ H R=>tl σ H fun x H1=>∃d o kvs,x= .ref d/\H1 d=some (.frz o (.dK kvs))/\R (Itd d o kvs) H1
def aU0 (hl:PE X l tl):PI X tg l (bV0 tl):=by
 intro pins s σ H R I h;refine cV (hl pins s σ H _ I h) ?_;rintro v s1 ⟨x,H1,I1,r1,q1⟩
 obtain⟨d,o,kvs,e,hd,q⟩:=q1;subst e
 cases r1
 obtain⟨e,z,ns,vs,rel,o',es,ep,h1,h2,h3,h4,h5,h6⟩:=(show bZ X.prog X.w H1 s1.heap d (.frz o (.dK kvs)) from I1.hok d _ hd)
 rw[e] at h1
 cases h1
 have hl:kvs.length=vs.length:=gg rel;refine yy (knd:=aZ X.prog X.w) ns ⟨o,es,e,h2,h3,h4,h5,h6⟩ ?_;have f:H1 s1.heap.objs.size=none:=I1.hok.fresh (aj _);refine⟨s1.heap.objs.size,[s1.heap.objs.size],_,_,_,rfl,I1.kept (t':=s1.toks) fun b o e=>af _ e,vJ d _ o kvs h3,⟨bu _,⟨_,bc _ rfl,rfl,by rw[hl];rfl⟩⟩,fun b hb=>?_,q⟩;have e:b=s1.heap.objs.size:=by simpa using hb
 subst e;exact I1.fpOk (aj _) f
end
end L2
namespace Mine
open PySem L2
def rM (h:NmD H d as)(x):∃o,fW H d (.str x) o/\o.getD (.str x)= .str (nuA as x):=by
 refine⟨_,fW.k (k:=Sum.inr x) h,?_⟩;rw[aF3];unfold nuA
 cases as.lookup x<;>rfl
def aA6 (h:NmD H d as):IsD H d:= .inl ⟨_,.inl h⟩
def aI9:iB (a::b::r) (some 2) none=r:=by
 show((a::b::r).drop (min 2 (r.length+1+1))).take (r.length+1+1-min 2 (r.length+1+1))=r;rw[jz (by lia)];simp
def aJ4 {r:List V}:¬(HT.sIx (a::b::r).length 0 (some 2)=0/\HT.sIx (a::b::r).length (a::b::r).length none=(a::b::r).length):=by
 show ¬(min 2 (r.length+1+1)=0/\_);rw[jz (by lia)];exact fun z=>absurd z.1 (by decide)
def alpha:Str:="abcdefghijklmnopqrstuvwxyz"
abbrev sL(z:Str):List Nat:=z.cps.toList
def uI (c):c∈sL alpha↔97<=c/\c<=122:=by
 refine⟨fun h=>?_,fun h=>?_⟩
 ·have:∀c∈sL alpha,97<=c/\c<=122:=by decide
  exact this c h
 ·have:∀n:Fin 26,97+n.val∈sL alpha:=by decide
  have:=this ⟨c-97,by lia⟩;rw[show 97+(c-97)=c from by lia] at this;exact this
def aX3 [DecidablePred p](l:List Nat):(l.map fun c=>decide (p c)).all id=decide (∀c∈l,p c):=by
 induction l with
 |nil=>simp
 |cons x r ih=>rw[eo,xj,ih];simp
def qG (h:kQ H w us am):us.length<=900:=by
 rcases h with⟨_,_,_,_,_,rfl,_⟩|⟨_,_,_,_,_,rfl,_⟩|⟨_,_,_,_,_,_,_,_,_,rfl,_⟩<;>show _<=900<;>simp
def iX (kvs:List (Key×V))(xs:List Str):Prop:=kvs.map (·.1)=xs.map (fun x=>(Sum.inr x:Key))/\xs.Nodup
def iX.nil:iX [] []:=⟨rfl,ou⟩
def iX.any (h:iX kvs xs)(x):(kvs.any fun kv=>decide (kv.1=(Sum.inr x:Key)))=decide (x∈xs):=by
 rw[ig,je,fg];refine⟨fun⟨kv,hkv,e⟩=>?_,fun c=>?_⟩
 ·have:kv.1∈xs.map (fun x=>(Sum.inr x:Key)):=by rw[<-h.1];exact jd hkv
  rw[ae e] at this;obtain⟨y,hy,e⟩:=dj.mp this;injection e with e
  rw[<-e];exact hy
 ·have:(Sum.inr x:Key)∈kvs.map (·.1):=by rw[h.1];exact dj.mpr ⟨x,c,rfl⟩
  obtain⟨kv,hkv,e⟩:=dj.mp this;exact⟨kv,hkv,ag e⟩
def iX.put (h:iX kvs xs)(x)(v):∃ys,iX (dP kvs (Sum.inr x) v) ys/\∀y,y∈ys↔y∈xs\/y=x:=by
 unfold dP;rw[h.any]
 by_cases c:x∈xs
 ·rw[ag c,bb rfl];refine⟨xs,⟨?_,h.2⟩,fun y=>⟨.inl,fun z=>z.elim id (fun e=>e ▸ c)⟩⟩;rw[jn, <-h.1];refine xu fun kv _=>?_
  show(if kv.1=_ then (kv.1,v) else kv).1=kv.1
  split<;>rfl
 ·rw[ba c,au (by decide)];refine⟨xs++[x],⟨by rw[av,h.1,av];rfl,?_⟩,fun y=>by simp⟩;rw[jp];exact⟨h.2,by simp,fun a ha b hb e=>c (by rw[List.mem_singleton.mp hb] at e;rw[<-e];exact ha)⟩
def iX.get (h:iX kvs xs)(x):(dW kvs (Sum.inr x:Key)).isSome=decide (x∈xs):=by rw[<-gN,h.any]
def iX.len (h:iX kvs xs):kvs.length=xs.length:=by
 have:=ej List.length h.1
 rwa [ac,ac] at this
def eV (d:Addr)(H G:Hp):Prop:=∀c u,H c=some u->c≠d->G c=some u
def eV.refl:eV d H H:=fun _ _ e _=>e
def eV.trans (a:eV d H G)(b:eV d G F):eV d H F:=fun c u e n=>b c u (a c u e n) n
def eV.of (s:bA H G):eV d H G:=fun c u e _=>s c u e
def eV.upd:eV d H (aN H d o):=fun c u e n=>(aH n).trans e
def eV.ts (a:eV d H G)(h:H d=some (.dK kvs)):TS H G:=fun p ys e=>a p _ e (fun z=>by rw[z,h] at e;cases e)
def eV.same (a:eV d H1 G)(s:bA H H1)(h:H d=none):bA H G:=fun c u e=>a c u (s c u e) (fun z=>by rw[z,h] at e;cases e)
def hX.names (h:H d=some (.dK kvs))(q:iX kvs xs)(hl:xs.length<=900)(x)(v):∃(kvs':List (Key×V)) (ys:List Str),hX H d (.str x) v (aN H d (.dK kvs'))/\iX kvs' ys/\∀y,y∈ys↔y∈xs\/y=x:=by
 obtain⟨ys,a,b⟩:=q.put x v;exact⟨_,ys,hX.k (k:=Sum.inr x) h (aJ (by rw[q.len];lia)),a,b⟩
def mR {i:Nat}(h:(bN rs)[i]?=some v):∃q,rs[i]?=some q/\v= .ref q.p:=by
 unfold bN at h;rw[df] at h
 cases e:rs[i]? with
 |none=>rw[e] at h;cases h
 |some q=>rw[e] at h;exact⟨q,rfl,(cu h).symm⟩
def yA (ts:List Str):List (Key×V):=ts.foldl (fun acc x=>dP acc (Sum.inr x) (.bl true)) []
def xY (ts)(x):yA (ts++[x])=dP (yA ts) (Sum.inr x) (.bl true):=by unfold yA;rw[yz];rfl
def aY7 (ts):∃ys,iX (yA ts) ys/\∀y,y∈ys↔y∈ts:=by
 have:∀n,∃ys,iX (yA (ts.take n)) ys/\∀y,y∈ys↔y∈ts.take n:=by
  intro n
  induction n with
  |zero=>exact⟨[],iX.nil,fun y=>by simp⟩
  |succ n ih =>
   obtain⟨ys,a,b⟩:=ih
   cases e:ts[n]? with
   |none =>
    have hl:ts.length<=n:=List.getElem?_eq_none_iff.mp e;rw[ie hl] at a b;rw[ie (by lia)];exact⟨ys,a,b⟩
   |some x =>
    rw[bE e,xY];obtain⟨zs,c,d⟩:=a.put x (.bl true);exact⟨zs,c,fun y=>by rw[d y,b y];simp⟩
 have:=this ts.length
 rwa [cg] at this
def bH5:∀ts:List Str,(yA ts).length<=ts.length:=fun ts=>by
 obtain⟨ys,a,b⟩:=aY7 ts;rw[a.len];exact aN2 a.2 fun y hy=>(b y).mp hy
def BlV (H:Hp)(v:V)(x:Str):Prop:=∃t,v= .ref t/\H t=some (.tup [.str x,.bl true])
def BlV.ts (t:TS H H')(h:BlV H v x):BlV H' v x:=by obtain⟨a,e,k⟩:=h;exact⟨a,e,t _ _ k⟩
def bC8 (tw:fM (BlV H) ys ts)(pl:ts.length<=900)(hd:H d=none):aA4 H d ys fun i=> .dK (yA (ts.take i)):=fun i hi=>by
 obtain⟨x,hx,t,e,ht⟩:=mL tw (bo hi);refine⟨t,.str x,.bl true,by rw[bo hi,e],ht,?_⟩;have ln:=bH5 (ts.take i);rw[bx] at ln;have:=hX.k (k:=(Sum.inr x:Key)) (v:=V.bl true) (H:=aN H d (.dK (yA (ts.take i)))) (a:=d) aC (aJ (by lia));rw[aH1] at this
 dsimp only
 rw[bE hx,xY];exact this
def bU7 {j a:Nat}(hb:bs[j]?=some b)(hf:(fr T)[j]?=some a):(ass T bs)[j]?=some (b,sp a):=by
 unfold ass;rw[df,(ny (z:=(b,a))).mpr ⟨hb,hf⟩];rfl
def bD9 (nd:bs.Nodup)(hb:bs[j]?=some b)(hf:(fr T)[j]?=some a):
  dP (((ass T bs).take j).map fun p=>((Sum.inr p.1:Key),V.str p.2)) (Sum.inr b) (.str (sp a))=((ass T bs).take (j+1)).map fun p=>((Sum.inr p.1:Key),V.str p.2):=by
 rw[bE (bU7 hb hf),av];unfold dP;rw[au]
 ·rfl
 ·intro h;obtain⟨kv,hkv,e⟩:=je.mp h;obtain⟨pr,hpr,rfl⟩:=dj.mp hkv;have e:pr.1=b:=by have e:=ae e;injection e
  obtain⟨i,hi⟩:=wq.mp hpr;have ij:i<j:=by
   have:=(bf.mp hi).1;rw[bx] at this;lia
  rw[um ij] at hi;unfold ass at hi;rw[df] at hi
  cases q:(bs.zip (fr T))[i]? with
  |none=>rw[q] at hi;cases hi
  |some z =>
   rw[q] at hi
   cases hi
   have hz:=(ny.mp q).1;have e:z.1=b:=e;rw[e] at hz;obtain⟨h1,e1⟩:=bf.mp hz;obtain⟨h2,e2⟩:=bf.mp hb;have:=(List.pairwise_iff_getElem.mp nd) i j h1 h2 ij;exact this (e1.trans e2.symm)
def yE {kvs:List (Key×V)}{xs:List Str}(h:kvs.map (·.1)=xs.map (fun x=>(Sum.inr x:Key))):(kvs.map fun kv=>kV kv.1)=xs.map V.str:=by
 have:(kvs.map fun kv=>kV kv.1)=(kvs.map (·.1)).map kV:=by rw[jn];rfl
 rw[this,h,jn];rfl
def nZ {a:α}(r:R v a):∀{vs as},fM R vs as->fM R (vs++[v]) (as++[a])
 |[],[],_=>⟨r,trivial⟩
 |[],_::_,h=>h.elim
 |_::_,[],h=>h.elim
 |_::_,_::_,⟨h,k⟩=>⟨h,nZ r k⟩
end Mine
namespace L2
open PySem
def bP5 (K)(hK:autoParam (X.K=K) Rq0._auto_1):eL X (.type "tuple") (fun xs H Q=>∃p ys,xs=[.ref p]/\((bJ K H p ys/\∀l,H l=none->Q (.ref l) (aN H l (.tup ys)))\/(aQ K H p ys/\Q (.ref p) H))):=by subst hK;exact bT
end L2
namespace Mine
open PySem L2
def bd (s:Stp)(n:Nat):Option Nat:=
 if fC s=true then some (n+1) else if s.1="row" then (if 1<=n then some n else none)
 else match s.2.1 with
  |.when _ _ _ _ _ _=>if 3<=n then some (n-2) else none
  |.times _ _ _ _=>if 2<=n then some (n-1) else none
  |.thr _ _ _ _ _=>none
  |.lt _ _ _=>none
  |.tell _ _=>none
def xA (o:wQ w r.w=true):bd (w,r,k) n=some (n+1):=by
 unfold bd;rw[bb (show fC (w,r,k)=true from o)]
def aB4 (o:wQ "row" r.w=false)(h:1<=n):bd (("row": Str),r,k) n=some n:=by
 unfold bd;rw[au (show ¬fC (("row": Str),r,k)=true by rw[show fC (("row": Str),r,k)=false from o];exact bh),bb rfl,bb h]
def oV (h:bd s n=some m):dU bd [s] n=some m:=by show(bd s n).bind some=_;rw[h];rfl
def bJ6 {p pa pb}(h:3<=n):bd (("end": Str),Rw.when p pa pb t a b,k) n=some (n-2):=by
 unfold bd;rw[au (show ¬fC (("end": Str),Rw.when p pa pb t a b,k)=true by rw[show fC (("end": Str),Rw.when p pa pb t a b,k)=false from bF3 _];exact bh),au iP];exact bb h
def aQ7 {p pb}(h:2<=n):bd (("end": Str),Rw.times p pb m b,k) n=some (n-1):=by
 unfold bd;rw[au (show ¬fC (("end": Str),Rw.times p pb m b,k)=true by rw[show fC (("end": Str),Rw.times p pb m b,k)=false from bF3 _];exact bh),au iP];exact bb h
mutual
def bG2:∀(r:Rw) (k n:Nat),WdR r->1<=n->dU bd (cI k r) n=some n
 |.thr p w x us am,k,n,hw,hn=>oV (aB4 (bO7 hw) hn)
 |.lt p x t,k,n,_,hn=>oV (aB4 bS3 hn)
 |.tell p t,k,n,_,hn=>oV (aB4 bV5 hn)
 |.when p pa pb t a b,k,n,hw,hn=>by
  simp only[cI];show(bd _ n).bind (dU bd _)=_;rw[xA bV9];show dU bd _ (n+1)=_;rw[cQ,cQ,cQ,kZ a (k+1) (n+1) hw.1 (by lia)];rw[ir,oV (xA (bW9 _)),ir,kZ b _ (n+1+1) hw.2 (by lia),ir];exact oV (bJ6 (by lia))
 |.times p pb m b,k,n,hw,hn=>by
  simp only[cI];show(bd _ n).bind (dU bd _)=_;rw[xA bR9];show dU bd _ (n+1)=_;rw[cQ,kZ b (k+1) (n+1) hw (by lia)];rw[ir];exact oV (aQ7 (by lia))
def kZ:∀(rs:List Rw) (k n:Nat),WdL rs->1<=n->dU bd (bY k rs) n=some n
 |[],k,n,_,_=>rfl
 |r::rs,k,n,hw,hn=>by
  simp only[bY];rw[cQ,bG2 r k n hw.1 hn];exact kZ rs _ n hw.2 hn
end
def nC (G:Hp)(n:Nat):List Addr->BSt->Prop
 |[],[]=>True
 |a::as,B::st=>(G a=some (.lst (bN B))/\aW G B/\B.length<=n)/\nC G n as st
 |[],_::_=>False
 |_::_,[]=>False
def nC.len:∀{as c},nC G n as c->as.length=c.length
 |[],[],_=>rfl
 |_::_,_::_,⟨_,h⟩=>by rw[bt,bt,nC.len h]
 |[],_::_,h=>h.elim
 |_::_,[],h=>h.elim
def nC.at (t:TS G G')(hm:n<=m):∀{as c},nC G n as c->(∀a∈as,∀o,G a=some o->G' a=some o)->nC G' m as c
 |[],[],_,_=>trivial
 |a::_,_::_,⟨⟨h1,h2,h3⟩,h⟩,k=>⟨⟨k a ao _ h1,aW.ts t _ h2,by lia⟩,nC.at t hm h fun b hb=>k b (aq _ hb)⟩
 |[],_::_,h,_=>h.elim
 |_::_,[],h,_=>h.elim
def nC.split:∀{C as},nC G n as (C++D)->∃xs ys,as=xs++ys/\nC G n xs C/\nC G n ys D
 |[],as,h=>⟨[],as,rfl,trivial,h⟩
 |_::C,a::as,⟨h,k⟩=>by
  obtain⟨xs,ys,e,p,q⟩:=nC.split (C:=C) k;exact⟨a::xs,ys,by rw[e];rfl,⟨h,p⟩,q⟩
 |_::_,[],h=>h.elim
def nC.app (q:nC G n ys D):∀{C xs},nC G n xs C->nC G n (xs++ys) (C++D)
 |[],[],_=>q
 |_::_,_::_,⟨h,k⟩=>⟨h,nC.app q k⟩
 |[],_::_,h=>h.elim
 |_::_,[],h=>h.elim
def nC.rev:∀{C xs},nC G n xs C->nC G n xs.reverse C.reverse
 |[],[],_=>trivial
 |B::C,a::xs,⟨h,k⟩=>by
  rw[dg,dg];exact nC.app (D:=[B]) (ys:=[a]) ⟨h,trivial⟩ (nC.rev k)
 |[],_::_,h=>h.elim
 |_::_,[],h=>h.elim
def nC.get:∀{C xs}{i:Nat},nC G n xs C->xs[i]?=some a->∃B,C[i]?=some B/\G a=some (.lst (bN B))/\aW G B/\B.length<=n
 |B::C,b::xs,0,⟨h,k⟩,e=>by cases e;exact⟨B,rfl,h⟩
 |B::C,b::xs,i+1,⟨h,k⟩,e=>nC.get (C:=C) (xs:=xs) (i:=i) k e
 |[],[],i,_,e=>by cases e
 |[],_::_,_,h,_=>h.elim
 |_::_,[],_,h,_=>h.elim
def aC0 (G:Hp)(v:V)(B:List Rw):Prop:=∃t,v= .ref t/\G t=some (.tup (bN B))/\aW G B
def aC0.ts (t:TS G G')(h:aC0 G v B):aC0 G' v B:=by obtain⟨a,e,k,r⟩:=h;exact⟨a,e,t _ _ k,aW.ts t _ r⟩
def bA1 {c:BSt}(hr:eB G s.2.1)(ho:¬fC s=true)(hn:¬s.1="row")(hb:bd s c.length=some m):
  ∃(Bs:List (List Rw)) (B:List Rw) (st:BSt) (x y:V) (us:List V),c=Bs.reverse++(B::st)/\Bs.length=us.length/\(us.length=1\/us.length=2)/\m=(B::st).length/\G s.2.1.p=some (.tup (x::y::us)) /\
   ∀q (ys) (G'),G' q=some (.tup (x::y::ys))->fM (aC0 G') ys Bs->TS G G'->∃r',r'.p=q/\eB G' r'/\(∀Rq:Rw->Prop,(∀p pa pb t a b,Rq (.when p pa pb t a b))->(∀p pb n b,Rq (.times p pb n b))->Rq r')/\∀(Chg) o,Chg s.2.2 r' o->gT Chg s c ((B++o)::st):=by
 obtain⟨w,r,k⟩:=s;unfold bd at hb;rw[au ho,au hn] at hb
 cases r with
 |thr p w x us am=>cases hb
 |lt p x t=>cases hb
 |tell p t=>cases hb
 |when p pa pb t a b =>
  have hb:(if 3<=c.length then some (c.length-2) else none)=some m:=hb
  by_cases c3:3<=c.length
  ·rw[bb c3] at hb;obtain⟨B2,B1,B,st,rfl⟩:∃B2 B1 B st,c=B2::B1::B::st:=by
    match c,c3 with
    |B2::B1::B::st,_=>exact⟨_,_,_,_,rfl⟩
   cases hb
   refine⟨[B1,B2],B,st,_,_,[.ref pa,.ref pb],rfl,rfl,.inr rfl,rfl,hr.1,fun q ys G' hq tw tt=>?_⟩
   match ys,tw with
   |[v1,v2],⟨⟨t1,e1,h1,r1⟩,⟨t2,e2,h2,r2⟩,_⟩ =>
    subst e1 e2;refine⟨.when q t1 t2 t B1 B2,rfl,⟨hq,hr.2.1.ts tt,hr.2.2.1,h1,h2,r1,r2⟩,fun Rq h1 _=>h1 _ _ _ _ _ _,fun Chg o ho'=>?_⟩;unfold gT;rw[au ho,au hn];exact⟨B2,B1,B,st,q,t1,t2,o,rfl,ho',rfl⟩
  ·rw[au c3] at hb;cases hb
 |times p pb j b =>
  have hb:(if 2<=c.length then some (c.length-1) else none)=some m:=hb
  by_cases c3:2<=c.length
  ·rw[bb c3] at hb;obtain⟨B1,B,st,rfl⟩:∃B1 B st,c=B1::B::st:=by
    match c,c3 with
    |B1::B::st,_=>exact⟨_,_,_,rfl⟩
   cases hb
   refine⟨[B1],B,st,_,_,[.ref pb],rfl,rfl,.inl rfl,rfl,hr.1,fun q ys G' hq tw tt=>?_⟩
   match ys,tw with
   |[v1],⟨⟨t1,e1,h1,r1⟩,_⟩ =>
    subst e1;refine⟨.times q t1 j B1,rfl,⟨hq,h1,r1⟩,fun Rq _ h2=>h2 _ _ _ _,fun Chg o ho'=>?_⟩;unfold gT;rw[au ho,au hn];exact⟨B1,B,st,q,t1,o,rfl,ho',rfl⟩
  ·rw[au c3] at hb;cases hb
def bG9 {m:Nat}(hm:zs.length=m)(h:1<=m):iB (ys++zs) (some (-(m))) none=zs:=by
 have e:HT.sIx (ys++zs).length 0 (some (-(m:Int)))=ys.length:=by
  show(if -(m:Int)<0 then (-(m:Int)+((ys++zs).length:Int)).toNat else _)=_;rw[bb (by lia),ah];lia
 unfold iB;rw[e,List.drop_left];show zs.take ((ys++zs).length-ys.length)=zs;rw[ah,Nat.add_sub_cancel_left,cg]
def aL6 {m:Nat}(hm:zs.length=m)(h:1<=m):iB (ys++zs) none (some (-(m)))=ys:=by
 have e:HT.sIx (ys++zs).length (ys++zs).length (some (-(m:Int)))=ys.length:=by
  show(if -(m:Int)<0 then (-(m:Int)+((ys++zs).length:Int)).toNat else _)=_;rw[bb (by lia),ah];lia
 unfold iB;rw[e];show((ys++zs).drop 0).take (ys.length-0)=ys;rw[List.drop_zero,Nat.sub_zero,List.take_left]
def aH3 (k:eZ S H G)(h:G b=none):b∈S\/H b=none:=by
 by_cases c:b∈S
 ·exact .inl c
 ·refine .inr ?_
  cases e:H b with
  |none=>rfl
  |some u=>rw[k b u e c] at h;cases h
def nC.mem:∀{as c},nC G n as c->∀a∈as,∃o,G a=some o
 |[],[],_,_,h=>absurd h dq
 |b::_,_::_,⟨h1,h⟩,a,m=>by
  rcases bv.mp m with rfl|m
  ·exact⟨_,h1.1⟩
  ·exact nC.mem h a m
 |[],_::_,h,_,_=>h.elim
 |_::_,[],h,_,_=>h.elim
def bU2:iB (a::b::c::r) none (some 2)=[a,b]:=by
 show((a::b::c::r).drop 0).take (min 2 (r.length+1+1+1)-0)=_;rw[jz (by lia)];rfl
def aQ0 {r:List V}:¬(HT.sIx (a::b::c::r).length 0 none=0/\HT.sIx (a::b::c::r).length (a::b::c::r).length (some 2)=(a::b::c::r).length):=by
 show ¬(0=0/\min 2 (r.length+1+1+1)=r.length+1+1+1);lia
def aI2 {x:V}:nE (ys++[x]) (-1)=some x:=by
 unfold nE zK;rw[au (by decide),bb (by rw[ah,jv];lia)];show(ys++[x])[(-1+((ys++[x]).length:Int)).toNat]?=some x;rw[show(-1+((ys++[x]).length:Int)).toNat=ys.length from by rw[ah,jv];lia,ke (aj _),yh];rfl
def wZ (k:eZ S H G)(h:b∈S\/H b=none):eZ S H (aN G b o):=fun c u e n=>by
 have:c≠b:=fun z=>by
  rcases h with h|h
  ·exact n (by rw[z];exact h)
  ·rw[z,h] at e;cases e
 exact(aH this).trans (k c u e n)
end Mine
namespace L2
open PySem PySem.Spec PyProof.Rows
section
variable {prog:Program}{w:World}{A:Around}{E:Value->Shared->Prop}{h:Heap}{g:Array GenState}{d:Drawn}{t:Nat}{os:OsState}
variable {nm q:Str}{C N fI:Addr}{bs bm bmB bmN:List Value}{hdct:Bool}{sn:List Str}{sub:List Value}{ab:Bool}{col:Option Bool}{dd:Option Addr}{k0 k1 k2 k3 k5:Option Value}{B Bn newId nid inN initId:String}
end
def fY (K:W.Frag)(N:Addr):Bool:=match K.lookup N with
 |some ⟨_,_,.dict es _,_⟩=>es.toList.all fun e=>match e.key with | .str _ _=>true|_=>false
 |_=>false
def tJ {K}(X:K.In h)(e:fY K N=true):∃m,h.Ns N m:=by
 unfold fY at e
 split at e
 ·rename_i c dd es ep sl ho
  refine⟨_,_,es,ep,X _ _ ho,rfl,fun x hx=>?_,fun _=>rfl⟩;have q:=kw.mp e x (by simpa using hx)
  cases hk:x.key with
  |str n t=>exact⟨n,t,rfl⟩
  |_=>rw[hk] at q;cases q
 ·cases e
def XN (a C:Addr):HO:= .ext fun h=>∃o,h.get? a=some o/\o.cls= .ref C/\W.notCls o=true/\o.dict=none
def XD (a C dx:Addr):HO:= .ext fun h=>∃o,h.get? a=some o/\o.cls= .ref C/\W.notCls o=true/\o.dict=some dx
def XM (a:Addr)(fs:List (Str×V)):HO:= .ext fun h=>∃mA,h.Ns1 a mA/\(∀f,jN (fs.lookup f) (mA f))/\PySem.Within mA (fs.map (·.1))
section
variable {P:Program}{w:World}{H:Hp}{h:Heap}{a C dx:Addr}{fs:List (Str×V)}
def cD1 (e:∃o,h.get? a=some o/\o.cls= .ref C/\W.notCls o=true/\o.dict=none):bZ P w H h a (XN a C):=
 ⟨e,let⟨o,q,_⟩:=e;⟨o,q⟩,(by rintro _ _ ⟨o,q,r⟩ k;exact⟨o,k o q,r⟩)⟩
end
abbrev aF5(C D:Addr):List Value:=[.ref C,.ref D,.type "ValueError",.type "Exception",.type "BaseException",.type "object"]
structure fS(K:W.Frag)(C D:Addr):Prop where
 at_:∃cd,W.clsIn K C=some cd/\cd.hasDict=true/\cd.mro=aF5 C D
 sa:W.findIn K (.ref C) "__setattr__"=some (some (.builtin "object.__setattr__"))
 ga:W.findIn K (.ref C) "__getattribute__"=some (some (.builtin "BaseException.__getattribute__"))
 gh:W.findIn K (.ref C) "__getattr__"=some none
section
variable {prog:Program}{w:World}{A:Around}{E:Value->Shared->Prop}{R:Result->Shared->Prop}{s:Shared}{K:W.Frag}{x C D:Addr}{ox:Obj}{od:Option Obj}{name:Str}{v:Value}{tk:Tok}
def fS.sub (W:fS K C D)(X:K.In h)(e:(aF5 C D).contains T=b):PySem.W.Looks M h (isSubtype (.ref C) T) b:=by
 obtain⟨cd,hc,_,hm⟩:=W.at_;refine PySem.W.looks_mroIn X ?_;unfold PySem.W.mroIn;rw[hc,ir,hm,au (by simp),e]
end
section
variable {prog:Program}{w:World}{A:Around}{E:Value->Shared->Prop}{R:Result->Shared->Prop}{s:Shared}{K:W.Frag}{x C D:Addr}{ox:Obj}{od:Option Obj}{name:Str}{v:Value}{tk:Tok}
def cH7 (X:K.In s.heap)(I:PySem.W.InstAt s.heap x ox C od)(W:fS K C D)(h:wpAny (model prog w) A.in1 (Builtin.«object.__getattribute__» ⟨[.ref x,.str name tk],[]⟩) (fun fin s'=>match fin with | .done f=>R (.ok f) s' | .again c'=>c'.quiet=true/\codeAny (model prog w) A c' R s') (fun e s'=>R (.error e) s') s):
  codeAny (model prog w) A (.call (.builtin "BaseException.__getattribute__") ⟨[.ref x,.str name tk],[]⟩) R s:=by
 have base:PySem.W.Looks (model prog w) s.heap (isInstance (.ref x) (.type "BaseException")) true:=I.type.andThen (W.sub X (by simp));exact qv PySem.F.excAttr_ValueError.ga.plain PySem.F.entry_bexc_ga
  (@PySem.W.check_slot (model prog w) _ _ s "BaseException.__getattribute__" "BaseException" "__getattribute__" (.ref x) [.str name tk] [] _ (by decide) (by decide) base (PySem.F.args_bexc_ga _ _) h)
def xby {fill expr}(X:K.In s.heap)(I:PySem.W.InstAt s.heap x ox C od)(W:fS K C D)(hh:PySem.W.handedIn v=true)(h:∀P:Value->Shared->Prop,P v s->wpAny (model prog w) A.in1 (Builtin.«object.__getattribute__» ⟨[.ref x,.str name tk],[]⟩) (fun fin s'=>match fin with | .done (.ret u)=>P u s'|_=>False) (fun _ _=>False) s)(q:Q v s):wpAny (model prog w) A (getAttrBy (.ref x) (.str name tk) fill expr) Q E s:=by
 obtain⟨hp,g,d,t,os⟩:=s;have L0:=I.type (M:=model prog w);have L1:=xg (M:=model prog w) X W.ga;have L2:=xg (M:=model prog w) X W.gh;unfold getAttrBy;refine dz (aa (L0.at (aa (L1.at ?_))));show wpAny _ _ (getAttrByItsOwn _ _ _ _ _ _) _ _ _;refine aa (L2.at (aa (mz (dz ?_))));have e0:callGetattribute (.ref x) (.str name tk) (.builtin "BaseException.__getattribute__") expr=boundAndCalled (.builtin "BaseException.__getattribute__") (.ref x) (.str name tk):=by cases expr<;>rfl
 rw[e0];unfold boundAndCalled;rw[PySem.F.excAttr_ValueError.ga.bind];refine aa (ak (ot (cH7 X I W (dm (h (fun u s'=>wpAny (model prog w) A (handedOut u) Q E s') ?_) (fun fin s' z=>?_) fun _ _ z=>z.elim))))
 ·rw[PySem.W.handedOut_of hh];exact ak q
 ·rcases fin with(_|_|_|_)|_<;>first|exact z|exact z.elim
end
structure XIs(K:W.Frag)(C:Addr):Prop where
 at_:W.findIn K (.ref C) "__class__"=some (some (.builtin "object.__class__"))
 get:W.specialIn K (.builtin "object.__class__") "__get__"=some (some (.builtin "getset_descriptor.__get__"))
 tk:W.takesIn K (.builtin "object.__class__")=some true
section
variable {prog:Program}{w:World}{A:Around}{E:Value->Shared->Prop}{R:Result->Shared->Prop}{s:Shared}{K:W.Frag}{x C D:Addr}{ox:Obj}{od:Option Obj}{name:Str}{v:Value}{tk:Tok}
def aZ6 (W:fS K C D)(Z:XIs K C):PySem.W.findObj K C od "__class__"=some (.bind (.builtin "getset_descriptor.__get__") (.builtin "object.__class__")):=by
 obtain⟨cd,hc,_⟩:=W.at_;unfold PySem.W.findObj;rw[hc,ir,Z.at_,ir];simp[Z.get,Z.tk]
def fS.obj (W:fS K C D):PySem.W.mroIn K C (.type "object")=some true:=by
 obtain⟨cd,hc,_,hm⟩:=W.at_;unfold PySem.W.mroIn;rw[hc,ir,hm,au (by simp)];simp
def cG0 (X:K.In s.heap)(I:PySem.W.InstAt s.heap x ox C od)(W:fS K C D)(Z:XIs K C)(h:Q (some (.ref C)) { s with toks:=s.toks+1 }):wpAny (model prog w) A (getAttr? (.ref x) "__class__") Q E s:=by
 obtain⟨hp,g,d,t,os⟩:=s;unfold getAttr? getAttrBy?;refine aa (wpAny_mkText (aa (mz (xby (s:=⟨hp,g,d,t+1,os⟩) (v:= .ref C) X I W rfl (fun P p=>?_) (ak h)))));have L0:=I.type (M:=model prog w);have L3:=PySem.W.looks_find (M:=model prog w) X I (aZ6 (od:=od) W Z);refine aa (ak (aa (ak (aa (L0.at (aa (L3.at ?_)))))));show wpAny _ _ (holding [.builtin "object.__class__"] (call (.builtin "getset_descriptor.__get__") [.builtin "object.__class__",.ref x,.ref C])>>=ret) _ _ _;exact aa (dz (ot (PySem.W.class_get (s:=⟨hp,g,d,t+1,os⟩) X I W.obj (ak p))))
def fS.isT (W:fS K C D)(X:K.In h):PySem.W.Looks M h (isType (.ref C)) true:=by
 obtain⟨cd,hc,_⟩:=W.at_;unfold PySem.W.clsIn at hc
 split at hc
 ·rename_i ho
  intro A' Q' E' s' k q;unfold isType loadHead;exact aa (wpAny_loadPart (k _ _ (X _ _ ho)) (ak q))
 ·cases hc
def zM(W:fS K C D)(Z:XIs K C):PySem.W.KitX K (.ref x) (.ref C) (fun h=>∃ox od,PySem.W.InstAt h x ox C od) where
 ty:=fun _ _ _ ⟨_,_,I⟩=>I.type
 it:=fun _ _ X _=>W.isT X
 ne:=fun h tp dd its n sl X htp=>by
  obtain⟨cd,hc,_⟩:=W.at_;refine ue.mpr fun q=>?_
  cases Value.ref.inj (beq_iff_eq.mp q)
  unfold PySem.W.clsIn at hc
  split at hc
  ·rename_i ho
   cases(X _ _ ho).symm.trans htp
  ·cases hc
 ca:=fun X ⟨_,_,I⟩ k=>cG0 X I W Z k
end
def XAt (H:Hp)(a C:Addr):Prop:=H a=some (XN a C)\/∃dx fs,H a=some (XD a C dx)/\H dx=some (XM dx fs)
section
variable {X:Cx}{pins:List (Addr×Obj)}{σ:St}{H:Hp}{s:Shared}{a C D dx:Addr}{fs:List (Str×V)}{f:Str}{v:V}{A:Around}{E:Value->Shared->Prop}
def bP3 (I:aX X pins σ H s)(e:H a=some (XN a C)):∃o,s.heap.get? a=some o/\o.cls= .ref C/\W.notCls o=true/\o.dict=none:=
 (show bZ X.prog X.w H s.heap a (XN a C) from I.hok a _ e).1
def bM8 (I:aX X pins σ H s)(e:H a=some (XD a C dx)):∃o,s.heap.get? a=some o/\o.cls= .ref C/\W.notCls o=true/\o.dict=some dx:=
 (show bZ X.prog X.w H s.heap a (XD a C dx) from I.hok a _ e).1
def cA7 (I:aX X pins σ H s)(e:H dx=some (XM dx fs)):∃mA,s.heap.Ns1 dx mA/\(∀f,jN (fs.lookup f) (mA f))/\PySem.Within mA (fs.map (·.1)):=
 (show bZ X.prog X.w H s.heap dx (XM dx fs) from I.hok dx _ e).1
def aD3 (I:aX X pins σ H s)(e:XAt H a C):∃ox od,W.InstAt s.heap a ox C od:=by
 rcases e with e|⟨dx,fs,e,e'⟩
 ·obtain⟨o,h1,h2,h3,h4⟩:=bP3 I e;exact⟨o,none,h1,h2,h3,by rw[h4];trivial⟩
 ·obtain⟨o,h1,h2,h3,h4⟩:=bM8 I e;obtain⟨mA,n,_⟩:=cA7 I e';obtain⟨od,ho,_⟩:=uJ n;exact⟨o,some od,h1,h2,h3,by rw[h4];exact ho⟩
def rT:eL X (.builtin "isinstance") (fun xs H Q=>∃a c C D b,xs=[.ref a,c]/\(∃C',c= .ref C'/\PySem.W.kitOne X.K (.ref C) (.ref C')=some b\/∃n,c= .ty n/\PySem.W.kitOne X.K (.ref C) (.type n)=some b)/\XAt H a C/\fS X.K C D/\XIs X.K C/\Q (.bl b) H):=by
 intro pins s σ H xs us Q I r h;obtain⟨a,c,C,D,b,rfl,e,x,W,Z,q⟩:=h;obtain⟨u,w',rfl,ru,rw'⟩:=tQ r
 cases ru
 have fin:∀tk,EP X pins σ Q (.bool b) { s with toks:=tk }:=fun tk=>⟨.bl b,H,I.tok tk,rfl,q⟩
 obtain⟨C',e⟩:=e;rcases e with⟨rfl,e⟩|⟨n,rfl,e⟩
 ·cases rw'
  exact fk (zM W Z) I.kIn (aD3 I x) e (fun z=>nomatch z) fin
 ·cases rw'
  exact fk (zM W Z) I.kIn (aD3 I x) e (fun z=>nomatch z) fin
end
def bK9 {K}(X:K.In h)(G:h.Ns a m)(e:W.nsIn K a n=some r):m n=r:=by
 obtain⟨o,es,ep,ho,hd,_,hf⟩:=G;rw[<-hf];unfold nsFind findBy;rw[<-xz];unfold W.nsIn at e
 split at e
 ·rename_i q
  have z:=(X _ _ q).symm.trans ho
  cases z
  cases hd
  split at e
  ·rename_i he
   cases e
   rw[he];rfl
  ·rename_i he
   split at e
   ·cases e
   ·cases e
    rw[he];rfl
 ·cases e
section
variable {prog:Program}{w:World}{A:Around}{E:Value->Shared->Prop}{h:Heap}{g:Array GenState}{d:Drawn}{t:Nat}{os:OsState}
variable {nm q:Str}{C N fI:Addr}{bs bm bmB bmN:List Value}{hdct:Bool}{sn:List Str}{sub:List Value}{ab:Bool}{col:Option Bool}{dd:Option Addr}{k0 k1 k2 k3 k5:Option Value}{B Bn newId nid inN initId:String}
end
abbrev veB:List Value:=[.type "ValueError",.type "Exception",.type "BaseException",.type "object"]
structure XMk(K:W.Frag)(C D:Addr)(i:Option Value):Prop where
 kp:W.keepIn K (.ref C)=true
 cls:∃(nm q:Str) (N:Addr) (bs:List Value) (hdct:Bool) (sn:List Str) (sub:List Value) (ab:Bool) (col:Option Bool) (dd:Option Addr) (k0 k1 k2 k3 k5:Option Value) (Bn newId inN:String) (bmN:List Value),ExcBaseFacts Bn newId inN bmN/\veB.contains (.type Bn)=true /\
  K.lookup C=some (excClassObj nm q C N bs (.ref D::veB) hdct sn sub ab col dd k0 k1 k2 k3 k5 newId)/\fY K N=true/\W.nsIn K N "__init__"=some i
 up:∃(c0:Value) (dd:Option Addr) (cd:ClassData) (sl:Array (Option Value)),K.lookup D=some ⟨c0,dd,.cls cd,sl⟩/\fY K cd.ns=true/\W.nsIn K cd.ns "__init__"=some none
def XMk.tail {K}(M:XMk K C D i)(X:K.In h):OwnTail h veB (.ref D::veB):=by
 obtain⟨c0,dd,cd,sl,l,tx,n⟩:=M.up;obtain⟨m,hm⟩:=tJ X tx;exact .own (X _ _ l) hm (bK9 X hm n) .base
section
variable {X:Cx}{CX:CXT}{k:Nat}{f C D:Addr}{fd:FuncData}{ps:List Str}{sp:Sp}{E:XK}{x:Str}{p pos:Pos}{e:Expr}{es:List Expr}{t:TA}
end
def fS.subIn {K}(W:fS K C D)(T):PySem.W.subIn K (.ref C) T=some ((aF5 C D).contains T):=by
 obtain⟨cd,hc,_,hm⟩:=W.at_;show PySem.W.mroIn K C T=_;unfold PySem.W.mroIn;rw[hc,ir,hm,au (by simp)]
def bE7:W.kitMeta "ValueError"=true:=by decide
def bD5 {K dd}(l:K.lookup C=some (excClassObj nm q C N bs (.ref D::veB) true sn sub ab col dd k0 k1 k2 k3 k5 newId))(sa:W.findIn K (.ref C) "__setattr__"=some (some (.builtin "object.__setattr__")))(ga:W.findIn K (.ref C) "__getattribute__"=some (some (.builtin "BaseException.__getattribute__")))(gh:W.findIn K (.ref C) "__getattr__"=some none):fS K C D:=
 ⟨⟨_,by unfold W.clsIn;rw[l],rfl,rfl⟩,sa,ga,gh⟩
def bY5 {K dd}(l:K.lookup C=some (excClassObj nm q C N bs (.ref D::veB) true sn sub ab col dd k0 k1 k2 k3 k5 "ValueError.__new__"))(kp:W.keepIn K (.ref C)=true)(tx:fY K N=true)(ni:W.nsIn K N "__init__"=some i)(lD:K.lookup D=some ⟨c0,dd',.cls cd,sl⟩)(tD:fY K cd.ns=true)(nD:W.nsIn K cd.ns "__init__"=some none):XMk K C D i:=
 ⟨kp,⟨nm,q,N,bs,true,sn,sub,ab,col,dd,k0,k1,k2,k3,k5,_,_,_,_,tj,by simp,l,tx,ni⟩,⟨c0,dd',cd,sl,lD,tD,nD⟩⟩
def aF0 {K}(l:K.lookup N=some ⟨oc,od,.dict es n,sl⟩)(h:(es.toList.all fun e=>match e.key with | .str _ _=>true|_=>false)=true):fY K N=true:=by
 unfold fY;rw[l];exact h
open PySem PySem.Spec PyProof.Rows PySem.W
def aF2 (h:Heap)(x C:Addr)(tb:Value):Prop:=∃o vs,h.get? x=some o/\o.cls= .ref C/\o.dict= .none/\o.data= .fields vs/\vs[1]?=some tb
def tI (h:Heap)(x T C:Addr)(fl:Value):Prop:=aF2 h x C (.ref T)/\T≠x/\∃o ts,h.get? T=some o/\o.data= .fields ts/\ts[3]?=some fl
structure Kp(fs ch:List Addr)(h h':Heap):Prop where
 k:∀b o,h.get? b=some o->b∉fs->b∉ch->h'.get? b=some o
 f:∀b o,h.get? b=some o->b∈fs->b∉ch->∃sl,h'.get? b=some { o with slots:=sl }
def Kp.any (a:Kp fs ch h h')(e:h.get? b=some o)(n:b∉ch):∃sl,h'.get? b=some { o with slots:=sl }:=by
 by_cases c:b∈fs
 ·exact a.f b o e c n
 ·exact⟨o.slots,a.k b o e c n⟩
def Kp.trans (a:Kp fs ch h h1)(b:Kp fs ch h1 h2):Kp fs ch h h2:=
 ⟨fun c o e n m=>b.k c o (a.k c o e n m) n m,fun c o e n m=>by
  obtain⟨sl,e1⟩:=a.f c o e n m;obtain⟨sl2,e2⟩:=b.f c _ e1 n m;exact⟨sl2,e2⟩⟩
def Kp.mono (a:Kp fs ch h h')(s:∀b∈ch,b∈ch'):Kp fs ch' h h':=⟨fun b o e n m=>a.k b o e n fun z=>m (s b z),fun b o e n m=>a.f b o e n fun z=>m (s b z)⟩
def Kp.kept (k:∀b o,h.get? b=some o->h'.get? b=some o):Kp fs [] h h':=⟨fun b o e _ _=>k b o e,fun b o e _ _=>⟨o.slots,k b o e⟩⟩
def Kp.drop (a:Kp fs ch h h')(n:∀b∈ch,h.get? b= .none):Kp fs [] h h':=by
 have q:∀b o,h.get? b=some o->b∉ch:=fun b o e z=>by rw[n b z] at e;cases e
 exact⟨fun b o e hn _=>a.k b o e hn (q b o e),fun b o e hn _=>a.f b o e hn (q b o e)⟩
def bC9:∀{l}{h h':Heap},h.FunFrames base l->(∀b∈jM l,∀o,h.get? b=some o->∃sl,h'.get? b=some { o with slots:=sl })->h'.FunFrames base l
 |[],_,_,_,_=>by rw[Heap.FunFrames.eq_1];trivial
 |env::l,h,h',ff,k=>by
  rw[Heap.FunFrames.eq_2] at ff ⊢;obtain⟨h1,⟨L,o,h2,h3,h4,h5⟩,h6⟩:=ff;obtain⟨sl,e⟩:=k L (jh.mpr ⟨env,ao,h2⟩) o h4;refine⟨h1,⟨L,_,h2,h3,e,h5⟩,bC9 h6 fun b hb=>k b ?_⟩;obtain⟨env',h7,h8⟩:=jh.mp hb;exact jh.mpr ⟨env',aq _ h7,h8⟩
section
variable {M:Model}{A:Around}{E:Value->Shared->Prop}{s:Shared}{base:Heap}{env:Env}{outer:List Env}{L x T C:Addr}{Q:Unit->Shared->Prop}
def lH (hT:T∉fs)(F:tI s.heap x T C fl)(q:∀h',Kp fs [T] s.heap h'->tI h' x T C .none->Q () { s with heap:=h' }):wpAny M A (setFlight (.ref x) .none) Q E s:=by
 obtain⟨⟨o,vs,e1,e2,e3,e4,e5⟩,ne,oT,ts,f1,f2,f3⟩:=F;have sz:3<ts.size:=(na.mp f3).1;refine wpAny_setFlight_none e1 e4 e5 f1 f2 sz (q _ ⟨fun b u e _ n=>?_,fun b u e hb n=>⟨u.slots,?_⟩⟩ ⟨⟨o,vs,?_,e2,e3,e4,e5⟩,ne,_,_,ik _ f1 (jw (gy f2 _)),gy f2 _,?_⟩)
 ·rw[dy _ _ _ _ (by simpa using n)];exact e
 ·rw[dy _ _ _ _ (by simpa using n)];exact e
 ·rw[dy _ _ _ _ ne.symm];exact e1
 ·simp[sz]
def aS2 (hA:A.frames=some (env::outer))(ff:s.heap.FunFrames base (env::outer))(hf:env.frame=some L)(ex:aF2 s.heap x C tb)(q:∀h' T,Kp (jM (env::outer)) [x] s.heap h'->s.heap.get? T= .none->T∉jM (env::outer)->tI h' x T C (rawInt L)->Q () { s with heap:=h' }):
  wpAny M A (do
   let a <-PySem.frameOf env
   let pl <-entryPlaceOf L hadNext
   let b <-EntryCells.newEntry head a Value.none (rawInt L) Value.none pl
   setField (Value.ref x) 1 b) Q E s:=by
 obtain⟨o,vs,e1,e2,e3,e4,e5⟩:=ex;have nx:x∉jM (env::outer):=fun z=>by
  obtain⟨_,u,hu,hd⟩:=ff.mem z;rw[e1] at hu
  cases hu
  exact hd _ e4
 have sz:1<vs.size:=(na.mp e5).1;refine aa (wpAny_frameOf_fun hA ff hf fun h1 so=>?_);obtain⟨z1,k1,sl1⟩:=so;refine aa (wpAny_entryPlaceOf fun pl hpl=>?_);refine aa (fe ?_ (hpl.sizeOk5 _ _ _ _ _));have ex1:(h1.push { cls:= .type "traceback",dict:= .none,data:= .fields ([head,Value.ref L,Value.none,rawInt L,Value.none]++if pl.isEmpty=true then List.replicate 6 Value.none else pl).toArray }).get? x=some o:=af _ ((k1 x nx).trans e1);refine me ex1 e4 sz ?_;have lt1:x<h1.objs.size:=ay ((k1 x nx).trans e1);have neT:h1.objs.size≠x:=js lt1;have fT:s.heap.get? h1.objs.size= .none:=by rw[z1];exact wu (aj _)
 refine q _ h1.objs.size ⟨fun b u e hn n=>?_,fun b u e hb n=>?_⟩ fT (fun z=>?_) ⟨⟨_,_,ik _ ex1 (jw (gy e4 _)),(tu ..).trans e2,?_,gy e4 _,by simp[sz]⟩,neT,{ cls:= .type "traceback",dict:= .none,data:= .fields ([head,Value.ref L,Value.none,rawInt L,Value.none]++if pl.isEmpty=true then List.replicate 6 Value.none else pl).toArray },_,?_,rfl,?_⟩
 ·rw[dy _ _ _ _ (by simpa using n)];exact af _ ((k1 b hn).trans e)
 ·obtain⟨sl,e'⟩:=sl1 b u e;refine⟨sl,?_⟩;rw[dy _ _ _ _ (by simpa using n)];exact af _ e'
 ·obtain⟨_,u,hu,_⟩:=ff.mem z;rw[fT] at hu
  cases hu
 ·obtain⟨c,d,da,sl⟩:=o
  dsimp only at e3 e4
  subst e3 e4;rfl
 ·rw[dy _ _ _ _ neT];exact bc _ rfl
 ·simp
def aZ8 (hA:A.frames=some (env::outer))(ff:s.heap.FunFrames base (env::outer))(hf:env.frame=some L)(ex:aF2 s.heap x C .none)(q:∀h' T,Kp (jM (env::outer)) [x] s.heap h'->s.heap.get? T= .none->T∉jM (env::outer)->tI h' x T C (rawInt L)->Q () { s with heap:=h' }):wpAny M A (noteFrame (.ref x) env) Q E s:=by
 obtain⟨o,vs,e1,e2,e3,e4,e5⟩:=id ex;unfold noteFrame;rw[hf];refine aa (fh e1 e4 e5 ?_);rw[au (by simp)];exact aS2 hA ff hf ex q
def bE5 (hA:A.frames=some (env::outer))(ff:s.heap.FunFrames base (env::outer))(hf:env.frame=some L)(hT:T∉jM (env::outer))(F:tI s.heap x T C .none)(q:∀h' T',Kp (jM (env::outer)) [x,T] s.heap h'->s.heap.get? T'= .none->T'∉jM (env::outer)->tI h' x T' C (rawInt L)->Q () { s with heap:=h' }):wpAny M A (noteFrame (.ref x) env) Q E s:=by
 obtain⟨⟨o,vs,e1,e2,e3,e4,e5⟩,ne,oT,ts,f1,f2,f3⟩:=id F;have sz:3<ts.size:=(na.mp f3).1;unfold noteFrame;rw[hf];refine aa (fh e1 e4 e5 ?_);rw[bb (by simp)];refine aa (fh f1 f2 f3 ?_);rw[au (by simp[rawInt])];refine aa (me f1 f2 sz ?_);have k1:Kp (jM (env::outer)) [T] s.heap (s.heap.update T (Obj.mapFields fun y=>y.setIfInBounds 3 Value.none)):=⟨fun b u e _ n=>by rw[dy _ _ _ _ (by simpa using n)];exact e,fun b u e hb n=>⟨u.slots,by rw[dy _ _ _ _ (by simpa using n)];exact e⟩⟩
 have x1:(s.heap.update T (Obj.mapFields fun y=>y.setIfInBounds 3 Value.none)).get? x=some o:=by rw[dy _ _ _ _ ne.symm];exact e1
 have n1:∀b,s.heap.get? b≠ .none->(s.heap.update T (Obj.mapFields fun y=>y.setIfInBounds 3 Value.none)).get? b≠ .none:=fun b hb=>by
  by_cases c:b=T
  ·subst c;rw[ik _ f1 (jw (gy f2 _))];simp
  ·rw[dy _ _ _ _ c];exact hb
 have ff1:(s.heap.update T (Obj.mapFields fun y=>y.setIfInBounds 3 Value.none)).FunFrames base (env::outer):=bC9 ff fun b hb u e=>k1.f b u e hb (by simpa using fun z:b=T=>hT (z ▸ hb))
 generalize s.heap.update T (Obj.mapFields fun y=>y.setIfInBounds 3 Value.none)=h1 at k1 x1 n1 ff1 ⊢;refine aS2 (s:={ s with heap:=h1 }) (tb:= .ref T) hA ff1 hf ⟨o,vs,x1,e2,e3,e4,e5⟩ fun h' T' k2 t1 t2 F2=>q h' T' ((k1.mono (by simp)).trans (k2.mono (by simp))) ?_ t2 F2
 cases z:s.heap.get? T' with
 |none=>rfl
 |some u=>exact absurd t1 (n1 T' (by rw[z];simp))
end
def bZ.got (x:bZ P w H h a o):∃ob,h.get? a=some ob:=by
 cases o with
 |lst xs=>obtain⟨_,_,_,_,e⟩:=x;exact⟨_,e⟩
 |tup xs=>obtain⟨_,_,_,o,e,_⟩:=x;exact⟨_,e⟩
 |dK kvs=>obtain⟨_,_,_,_,o,_,_,e,_⟩:=x;exact⟨_,e⟩
 |dT kvs=>obtain⟨_,_,_,_,o,_,_,e,_⟩:=x;exact⟨_,e⟩
 |set S n=>obtain⟨o,_,_,_,e,_⟩:=x;exact⟨_,e⟩
 |ins C dx fs=>obtain⟨_,_,_,e,_⟩:=x;exact⟨_,e⟩
 |own y=>obtain⟨_,e⟩:=x;exact⟨_,e⟩
 |xd fs=>obtain⟨_,⟨_,_,_,e,_⟩,_⟩:=x;exact⟨_,e⟩
 |rng lo hi=>obtain⟨_,_,_,e⟩:=x;exact⟨_,e⟩
 |frz ob u=>obtain⟨e,_⟩:=x;exact⟨_,e⟩
 |tbl ps=>exact⟨_,(show h.get? a=some _ from x)⟩
 |met f y=>exact⟨_,(show h.get? a=some _ from x)⟩
 |ext φ=>obtain⟨_,⟨_,e⟩,_⟩:=x;exact⟨_,e⟩
def jY.none (x:jY P w H h)(e:h.get? a= .none):H a= .none:=by
 cases q:H a with
 |none=>rfl
 |some u =>
  obtain⟨o,z⟩:=(x a u q).got;rw[e] at z
  cases z
section
variable {X:Cx}{pins:List (Addr×Obj)}{σ:St}{H:Hp}{s:Shared}
def jL (hs:X.stack=X.env::X.outer)(hf:X.env.frame=some X.env.locals):b∈jM X.stack↔b=X.env.locals\/b∈jM X.outer:=by
 rw[hs];unfold jM;rw[nj,hf];simp
def CX1 (P:Program)(w:World):CXT:=fun outer H s E e s'=>∃(x T C:Addr) (H':Hp),e= .ref x/\s'.os=s.os/\AllBare s'.gens/\Un (jM outer) [] H H' s.heap s'.heap/\jY P w H' s'.heap /\
 s.heap.get? x= .none/\s.heap.get? T= .none/\H' x= .none/\H' T= .none/\tI s'.heap x T C .none/\E (.ref C) .none H'
def aX.hokK (I:aX X pins σ H s)(k:Kp (jM X.stack) ch s.heap h')(n:∀b∈ch,H b= .none):jY X.prog X.w H h':=fun b u e=>by
 have nf:∀c v,H c=some v->c∉jM X.stack/\c∉ch:=fun c v e=>⟨fun z=>(by rw[I.stkFree c z] at e;cases e),fun z=>(by rw[n c z] at e;cases e)⟩
 refine(I.hok b u e).stay (fun c v hc q=>?_) (fun c q=>q) fun c xs q=>q
 rcases hc with z|z
 ·rw[z] at q ⊢;exact k.k _ _ q (nf b u e).1 (nf b u e).2
 ·exact k.k _ _ q (nf c _ z).1 (nf c _ z).2
def aC5 (I:aX X pins σ H s)(hs:X.stack=X.env::X.outer)(hf:X.env.frame=some X.env.locals)(hex:X.ex=[])(made:s.heap.MadeExcOf h1 x (.ref C) [])(hE:E (.ref C) .none H):
  wpAny (model X.prog X.w) X.A (leaving X.env (.ref x)) (fun _ s''=>CX1 X.prog X.w X.outer X.H₀ X.s₀ E (.ref x) s'') E' { s with heap:=h1 }:=by
 have ff0:=I.stack;have k0:Kp (jM X.stack) [] s.heap h1:=Kp.kept made.keeps;have ff:h1.FunFrames X.base (X.env::X.outer):=by
  rw[<-hs];exact bC9 ff0 fun b hb o e=>k0.f b o e hb (by simp)
 obtain⟨t,ex,_⟩:=made.there;unfold leaving;refine aa (aZ8 (s:={ s with heap:=h1 }) (by rw[I.ok.frames,hs]) ff hf ⟨_,_,ex,rfl,rfl,rfl,rfl⟩ fun h2 T k1 t1 t2 F=>?_);refine lH (s:={ s with heap:=h2 }) t2 F fun h3 k2 F3=>?_
 rw[<-hs] at k1 k2 t2;have sT:s.heap.get? T= .none:=by
  cases q:s.heap.get? T with
  |none=>rfl
  |some o=>rw[made.keeps _ _ q] at t1;cases t1
 have kk:Kp (jM X.stack) [] s.heap h3:=((k0.mono (ch':=[x,T]) (by simp)).trans ((k1.mono (by simp)).trans (k2.mono (by simp)))).drop (by
  intro b hb;rcases bv.mp hb with z|z
  ·rw[z];exact made.new
  ·have z:b=T:=by simpa using z
   rw[z];exact sT)
 have none0:∀b,s.heap.get? b= .none->X.s₀.heap.get? b= .none:=fun b e=>by
  cases q:X.s₀.heap.get? b with
  |none=>rfl
  |some o =>
   obtain⟨o',z⟩:=I.base.there b o q (by rw[hex];simp);rw[e] at z
   cases z
 have neL:∀b o,X.s₀.heap.get? b=some o->b≠X.env.locals:=fun b o e=>bw (bz (ay e) I.ok.above)
 refine⟨x,T,C,H,rfl,I.os,I.bare,⟨fun b o e hn nb _=>?_,fun b o e hn hb _=>?_,fun b o e hn hx=>I.base.free b o e hn (by rw[hex];simp),fun b o e _=>?_,I.base.tups,I.base.frzs,I.base.tbls⟩,I.hokK kk (by simp),none0 x made.new,none0 T sT,jY.none I.hok made.new,jY.none I.hok sT,F3,hE⟩
 ·have e1:=I.base.keep b o e hn nb (by rw[hex];simp);exact kk.k b o e1 (fun z=>by
   rcases(jL hs hf).mp z with z|z
   ·exact neL b o e z
   ·exact nb z) (by simp)
 ·obtain⟨sl,e1⟩:=I.base.slot b o e hn hb (by rw[hex];simp);obtain⟨sl',e2⟩:=kk.f b _ e1 ((jL hs hf).mpr (.inr hb)) (by simp);exact⟨sl',e2⟩
 ·obtain⟨o',e1⟩:=I.base.there b o e (by rw[hex];simp);obtain⟨sl,e2⟩:=kk.any e1 (by simp);exact⟨_,e2⟩
def aK6 {K s H}(hg:Gl (jH (CX1 P w) P w K mg base N qual scope f cd A outer s H E) nm)(hm:mg nm=some (.ref C))(M:XMk K C D .none)(hdb:autoParam ((nm==("__debug__": Str))=false) Rq1._auto_1):
  PS (jH (CX1 P w) P w K mg base N qual scope f cd A outer s H E) (.Raise (some (.Call (.Name nm np) [] [] cpos)) .none pos) (fun _ _ H1=>E (.ref C) .none H1):=by
 intro pins s1 σ H1 D' I h;obtain⟨nm',q,Nn,bs,hdct,sn,sub,ab,col,dd,k0,k1,k2,k3,k5,Bn,newId,inN,bmN,eb,hc,hl,tx,ni⟩:=M.cls;have hh:(A.deeper (envOfC qual scope s.heap.objs.size f cd)).handled= .none:=I.ok.hd rfl;have kin:=I.kIn;obtain⟨mN,hN⟩:=tJ kin tx;refine wpAny_Raise_call_subU (nm:=nm') (q:=q) (bs:=bs) (hdct:=hdct) (sn:=sn) (sub:=sub) (ab:=ab) (col:=col) (dd:=dd) (k0:=k0) (k1:=k1) (k2:=k2) (k3:=k3) (k5:=k5) (C:=C) (N:=Nn) (bm:= .ref D::veB) (bmB:=veB) (mN:=mN) eb hc tj (by rw[List.contains_cons,show veB.contains (Value.type "BaseException")=true by decide,Bool.or_true]) hh rfl (bK9 kin hN ni) ?_;refine cV (dR (v:= .ref C) hg hm rfl hdb pins s1 σ H1 (fun v H2=>v= .ref C/\H2=H1) I ⟨rfl,rfl⟩) ?_;rintro u s2 ⟨v,H2,I2,r,rfl,rfl⟩
 cases r
 refine⟨rfl,?_⟩;refine ak ⟨rfl,bu _,?_,?_,M.tail I2.kIn,fun h' x made=>?_⟩
 ·exact I2.kIn _ _ hl
 ·obtain⟨o',lk⟩:∃o',K.lookup Nn=some o':=by
   cases hk:K.lookup Nn with
   |none=>unfold fY at tx;rw[hk] at tx;cases tx
   |some o'=>exact⟨o',rfl⟩
  obtain⟨o,es,ep,ho,r⟩:=hN;have e1:s1.heap.get? Nn=some o':=kin _ _ lk;rw[e1] at ho
  cases ho
  exact⟨_,es,ep,I2.kIn _ _ lk,r⟩
 ·exact aC5 I2 rfl rfl rfl made h
end
structure bS6(X:Cx)(pins:List (Addr×Obj))(x:Addr):Prop where
 s0:X.s₀.heap.get? x= .none
 loc:x≠X.env.locals
 cel:∀y c,X.env.cells.lookup y=some c->c≠x
 pin:∀p∈X.pn++pins,p.1≠x
 fr:x∉jM X.stack
section
variable {X:Cx}{pins:List (Addr×Obj)}{σ:St}{H:Hp}{s:Shared}{x:Addr}
def aX.away(I:aX X pins σ H s)(hex:X.ex=[])(e:s.heap.get? x= .none):bS6 X pins x where
 s0:=by
  cases q:X.s₀.heap.get? x with
  |none=>rfl
  |some o =>
   obtain⟨o',z⟩:=I.base.there x o q (by rw[hex];simp);rw[e] at z;cases z
 loc:=fun z=>by
  obtain⟨m,⟨o,es,ep,ho,_⟩,_⟩:=I.loc;rw[<-z,e] at ho;cases ho
 cel:=fun y c hc z=>by
  obtain⟨v,o,ho,_⟩:=I.cell y c hc;rw[z,e] at ho;cases ho
 pin:=fun p hp z=>by
  have:=(I.pin p hp).1;rw[z,e] at this;cases this
 fr:=fun z=>by
  obtain⟨_,o,ho,_⟩:=I.stack.mem z;rw[e] at ho;cases ho
def aX.nopins (I:aX X pins σ H s):aX X [] σ H s:=⟨I.ok,I.os,I.bare,I.base,I.loc,I.cell,I.free,I.freeC,fun p hp=>I.pin p (by simp at hp ⊢;exact .inl hp),I.hok,I.len⟩
def aX.move (I:aX X pins σ H s)(hs:X.stack=X.env::X.outer)(hf:X.env.frame=some X.env.locals)(hex:X.ex=[])(aw:∀b∈ch,bS6 X pins b)(k:Kp (jM X.stack) ch s.heap h')(hn:∀b,b∉ch->H' b=H b)(hc:∀b∈ch,H b= .none)(hok:jY X.prog X.w H' h'):aX X pins σ H' { s with heap:=h' }:=by
 have ns0:∀b o,X.s₀.heap.get? b=some o->b∉ch:=fun b o e z=>by rw[(aw b z).s0] at e;cases e
 have neL:∀b o,X.s₀.heap.get? b=some o->b≠X.env.locals:=fun b o e=>bw (bz (ay e) I.ok.above)
 have nch:∀b u,H b=some u->b∉ch:=fun b u e z=>by rw[hc b z] at e;cases e
 have lnc:X.env.locals∉ch:=fun z=>(aw _ z).loc rfl
 have cell:∀y c v,X.env.cells.lookup y=some c->s.heap.IsCell c v->h'.IsCell c v:=fun y c v hy ⟨o,ho,hd⟩=>by
  obtain⟨sl,e⟩:=k.any ho (fun z=>(aw c z).cel y c hy rfl);exact⟨_,e,hd⟩
 refine⟨I.ok,I.os,I.bare,⟨fun b o e n nb nx=>?_,fun b o e n hb nx=>?_,fun b o e n nx=>?_,fun b o e nx=>?_,fun b xs e=>?_,fun b o u e=>?_,fun b ps e=>?_⟩,?_,fun y c hy=>?_,?_,fun y c hy=>?_,fun p hp=>?_,hok,I.len⟩
 ·exact k.k b o (I.base.keep b o e n nb nx) (fun z=>by
   rcases(jL hs hf).mp z with z|z
   ·exact neL b o e z
   ·exact nb z) (ns0 b o e)
 ·obtain⟨sl,e1⟩:=I.base.slot b o e n hb nx;obtain⟨sl',e2⟩:=k.f b _ e1 ((jL hs hf).mpr (.inr hb)) (ns0 b o e);exact⟨sl',e2⟩
 ·rw[hn b (ns0 b o e)];exact I.base.free b o e n nx
 ·obtain⟨o',e1⟩:=I.base.there b o e nx;obtain⟨sl,e2⟩:=k.any e1 (ns0 b o e);exact⟨_,e2⟩
 ·have q:=I.base.tups b xs e;rw[hn b (nch b _ q)];exact q
 ·have q:=I.base.frzs b o u e;rw[hn b (nch b _ q)];exact q
 ·obtain⟨more,q⟩:=I.base.tbls b ps e;exact⟨more,by rw[hn b (nch b _ q)];exact q⟩
 ·obtain⟨m,⟨o,es,ep,ho,r⟩,lk⟩:=I.loc;obtain⟨sl,e⟩:=k.any ho lnc;refine⟨m,⟨_,es,ep,e,r⟩,fun i y v h1 h2 h3=>?_⟩;obtain⟨u,ru,l⟩:=lk i y v h1 h2 h3;refine⟨u,ru,?_⟩;rcases l with l|⟨l1,c,l2,l3⟩
  ·exact .inl l
  ·exact .inr ⟨l1,c,l2,cell y c _ l2 l3⟩
 ·obtain⟨v,hv⟩:=I.cell y c hy;exact⟨v,cell y c v hy hv⟩
 ·rw[hn _ lnc];exact I.free
 ·rw[hn c fun z=>(aw c z).cel y c hy rfl];exact I.freeC y c hy
 ·obtain⟨p1,p2,p3,p4,p5⟩:=I.pin p hp;have pc:p.1∉ch:=fun z=>(aw _ z).pin p hp rfl
  refine⟨k.k _ _ p1 (fun z=>?_) pc,by rw[hn _ pc];exact p2,p3,p4,p5⟩;rcases(jL hs hf).mp z with z|z
  ·exact p3 z
  ·exact p4 z
def aX.unset (I:aX X pins σ H s)(hN:X.N.Nodup)(hi:X.N[i]?=some n)(hl:X.env.kindOf n=some .local)(lk:∀(i:Nat) (x) (v),X.N[i]?=some x->σ[i]?=some (some v)->Vis X.env.scope x->∃u,bL v u/\bY4 X.env s.heap m x u)(ns:h'.Ns X.env.locals (fun x=>if x=n then u else m x))(sb:Heap.SameBut X.env.locals s.heap h'):aX X pins (σ.set i .none) H { s with heap:=h' }:=by
 have kp:∀b o,b≠X.env.locals->s.heap.get? b=some o->h'.get? b=some o:=fun b o hb e=>(sb.2 b hb).trans e
 have neL:∀b o,X.s₀.heap.get? b=some o->b≠X.env.locals:=fun b o e=>bw (bz (ay e) I.ok.above)
 have cell:∀c v,s.heap.IsCell c v->h'.IsCell c v:=fun c v ⟨o,ho,hd⟩=>⟨o,kp c o (fun z=>by
  obtain⟨m',⟨o',es,ep,ho',hd',_⟩,_⟩:=I.loc;rw[z,ho'] at ho
  cases ho
  rw[hd'] at hd
  cases hd) ho,hd⟩
 refine⟨I.ok,I.os,I.bare,⟨fun b o e n nb nx=>kp b o (neL b o e) (I.base.keep b o e n nb nx),fun b o e n hb nx=>?_,I.base.free,fun b o e nx=>?_,I.base.tups,I.base.frzs,I.base.tbls⟩,⟨_,ns,fun j y v h1 h2 h3=>?_⟩,fun y c hy=>?_,I.free,I.freeC,fun p hp=>?_,fun b v e=>?_,by rw[qo];exact I.len⟩
 ·obtain⟨sl,e1⟩:=I.base.slot b o e n hb nx;exact⟨sl,kp b _ (neL b o e) e1⟩
 ·obtain⟨o',e1⟩:=I.base.there b o e nx;exact⟨o',kp b o' (neL b o e) e1⟩
 ·by_cases c:j=i
  ·subst c;rw[List.getElem?_set_self'] at h2
   cases hq:σ[j]? with
   |none=>rw[hq] at h2;cases h2
   |some z=>rw[hq] at h2;cases h2
  ·rw[qf (fun z=>c z.symm)] at h2;obtain⟨w',rw',l⟩:=lk j y v h1 h2 h3;refine⟨w',rw',?_⟩;rcases l with⟨l1,l2⟩|⟨l1,cc,l2,l3⟩
   ·refine .inl ⟨l1,?_⟩;show(if y=n then u else m y)=some w';rw[au (show ¬y=n from fun z=>c ?_)]
    ·exact l2
    ·rw[z] at h1;have a1:=(bf.mp h1)
     have a2:=(bf.mp hi)
     exact(ui hN).mp (a1.2.trans a2.2.symm)
   ·exact .inr ⟨l1,cc,l2,cell cc _ l3⟩
 ·obtain⟨v,hv⟩:=I.cell y c hy;exact⟨v,cell c v hv⟩
 ·obtain⟨p1,p2,p3,p4,p5⟩:=I.pin p hp;exact⟨kp _ _ p3 p1,p2,p3,p4,p5⟩
 ·refine(I.hok b v e).stay (fun c o hc q=>kp c o ?_ q) (fun c q=>q) fun c xs q=>q
  rcases hc with z|z
  ·rw[z];intro z2;rw[z2,I.free] at e;cases e
  ·intro z2;rw[z2,I.free] at z;cases z
abbrev Cx.hand(X:Cx)(x:Addr):Cx:={ X with A:=X.A.mark (some (.ref x)),calm:=false,xe:=fun _ _=>False }
def aX.hand (I:aX X pins σ H s)(x):aX (X.hand x) pins σ H s:=
 ⟨⟨I.ok.mod,I.ok.kind,I.ok.glob,I.ok.blt,I.ok.above,I.ok.inj,I.ok.has,I.ok.cab,(fun z=>nomatch z),I.ok.frames,I.ok.stk,I.ok.exf,I.ok.bs,I.ok.bsz,I.ok.noex,I.ok.exfs,I.ok.funs,I.ok.frf⟩,I.os,I.bare,I.base,I.loc,I.cell,I.free,I.freeC,I.pin,I.hok,I.len⟩
def aX.unhand {x}(ok:X.Ok)(I:aX (X.hand x) pins σ H s):aX X pins σ H s:=⟨ok,I.os,I.bare,I.base,I.loc,I.cell,I.free,I.freeC,I.pin,I.hok,I.len⟩
end
structure XUp(K:W.Frag)(D:Addr):Prop where
 ty:typeIn K (.ref D)=some (.type "type")
 cl:(clsIn K D).isSome=true
 be:subIn K (.ref D) (.type "BaseException")=some true
def zX {K}:subIn K (.type "type") (.type "tuple")=some false:=by
 show Option.map _ (fastBuiltinMro "type")=_
 decide
def bE4 {K}(c:(clsIn K D).isSome=true)(X:K.In h):Looks M h (isType (.ref D)) true:=by
 obtain⟨cd,hc⟩:=jj.mp c;unfold clsIn at hc
 split at hc
 ·rename_i ho
  intro A' Q' E' s' k q;unfold isType loadHead;exact aa (wpAny_loadPart (k _ _ (X _ _ ho)) (ak q))
 ·cases hc
def bR8 {K}(kin:K.In s.heap)(U:XUp K D)(W:fS K C D)(e:aF2 s.heap x C tb)(q:Q true s):wpAny M A (excMatches (.ref x) (.ref D)) Q E s:=by
 obtain⟨o,vs,e1,e2,e3,e4,e5⟩:=e;have J:InstAt s.heap x o C .none:=⟨e1,e2,by unfold notCls;rw[e4],by rw[e3];trivial⟩
 unfold excMatches;refine aa ?_;unfold isInstance;refine aa ((looks_typeIn kin U.ty).here ((looks_subIn kin zX).here ?_));rw[au (by simp)];refine aa (ak ?_);refine aa ?_;rw[vo];refine aa ?_;unfold isExcClass;refine aa (aa ((bE4 U.cl kin).here ?_));rw[bb rfl];refine(looks_subIn kin U.be).here ?_;rw[au (by simp)];refine ak ?_
 dsimp only
 rw[List.forIn_nil];refine ak (aa (J.type.here ?_));refine aa ?_;rw[vo];refine aa (aa ((looks_subIn kin (W.subIn (.ref D))).here ?_));rw[bb (by simp[aF5])];exact ak (ak (ak q))
section
variable {X:Cx}
def PS0 (X:Cx)(st:Stmt)(t:TS):Prop:=∀(s:Shared) (σ:St) (H:Hp) (D:kF),aX X [] σ H s->t D σ H->wpAny (model X.prog X.w) X.A (exec st X.env) (SP X [] D) X.xe s
def xR (X:Cx)(st:List Stmt)(t:TS):Prop:=∀(s:Shared) (σ:St) (H:Hp) (D:kF),aX X [] σ H s->t D σ H->wpAny (model X.prog X.w) X.A (execs st X.env) (SP X [] D) X.xe s
def PS.p0 {st}(h:PS X st t):PS0 X st t:=fun s σ H D I q=>h [] s σ H D I q
def oS.p0 {st}(h:oS X st t):xR X st t:=fun s σ H D I q=>h [] s σ H D I q
def aG7 {st bS}(h1:PS0 X st t)(h2:xR X bS u):xR X (st::bS) (bW1 t u):=by
 intro s σ H D I h;refine uj (cV (h1 s σ H { D with nx:=u D } I h) fun f s1 q=>?_)
 cases f with
 |next =>
  obtain⟨σ',H',I',q⟩:=q;exact h2 s1 σ' H' D I' q
 |ret v=>exact q
 |brk=>exact q
 |cont=>exact q
def xR.nox {st}(h:xR X.nox st t):xR X st t:=fun s σ H D I q =>
 dm (h s σ H D (I.wish _) q) (fun f s' z=>SP.unwish z) fun _ _ z=>z.elim
def cG1 (K:W.Frag)(D:Addr)(i l:Nat)(tb:XK->TS)(th:TS):TS:=fun Dn σ H =>
 tb (fun cls _ H'=>∃C,cls= .ref C/\fS K C D/\∀(σ':St) (x:Addr),σ'.length=l->H' x= .none ->
  th { nx:=fun σ2 H2=>Dn.nx (σ2.set i .none) H2,rt:=Dn.rt } (σ'.set i (some (.ref x))) (aN H' x (XN x C))) Dn σ H
def bF4 (hs:X.stack=X.env::X.outer)(hf:X.env.frame=some X.env.locals)(hex:X.ex=[])(hN:X.N.Nodup)(hi:X.N[i]?=some n)(hl:X.env.scope.names.lookup n=some .local)(hk:X.env.kindOf n=some .local)(hg:Gl X nmT)(hm:X.mg nmT=some (.ref D))(U:XUp X.K D)(hb:∀Ex (E1),rL (CX1 X.prog X.w) (X.wish Ex) E1->oS (X.wish Ex) body (tb E1))(hh:∀x,oS (X.hand x) (b0::suite) th)(hdb:autoParam ((nmT==("__debug__": Str))=false) Rq1._auto_1):
  PS0 X (.Try body [.ExceptHandler (some (.Name nmT np)) (some n) (b0::suite) hpos] [] [] pos) (cG1 X.K D i X.N.length tb th):=by
 intro s σ H Dn I h;have kf:=I.ok.kind;refine wpAny_Try_except ?_;refine dm (hb (fun e s₁=>wpAny (model X.prog X.w) X.A (noteFrame e X.env) (fun _ s₂=>wpAny (model X.prog X.w) X.A (setFlight e .none) (fun _ s₃=>wpAny (model X.prog X.w) X.A (handleBy e X.env [.ExceptHandler (some (.Name nmT np)) (some n) (b0::suite) hpos]) (SP X [] Dn) X.xe s₃) X.xe s₂) X.xe s₁) _ ?_ [] s σ H Dn (I.wish _) h) (fun f s1 q=>?_) fun _ _ z=>z
 ·intro pins' σ' H1 s1 e s2 I1 cx;obtain⟨x,T,C,H2,rfl,os,bare,un,hok,nx,nT,hx,hT,F,C',eC,W,q⟩:=cx
  cases eC
  have J1:aX X [] σ' H1 s1:=I1.unwish.nopins;have ax:=J1.away hex nx;have aT:=J1.away hex nT;have J2:aX X [] σ' H2 s2:=J1.call' os un hok bare fun b z=>absurd z (by simp)
  have fr2:=J2.stack;rw[hs] at fr2;have tf:=aT.fr;rw[hs] at tf;show wpAny _ _ (noteFrame (.ref x) X.env) _ _ s2;refine bE5 (s:=s2) (outer:=X.outer) (by rw[J2.ok.frames,hs]) fr2 hf tf F fun h3 T3 k3 t3 t3' F3=>?_
  refine lH (s:={ s2 with heap:=h3 }) t3' F3 fun h4 k4 F4=>?_
  have a3:=J2.away hex t3;rw[<-hs] at k3 k4;have k34:Kp (jM X.stack) [x,T,T3] s2.heap h4:=(k3.mono (by simp)).trans (k4.mono (by simp));have hT3:H2 T3= .none:=jY.none J2.hok t3;have cl:∀b∈[x,T,T3],H2 b= .none:=fun b hb=>by
   simp only[List.mem_cons,List.not_mem_nil,or_false] at hb;rcases hb with rfl|rfl|rfl
   ·exact hx
   ·exact hT
   ·exact hT3
  have aw:∀b∈[x,T,T3],bS6 X [] b:=fun b hb=>by
   simp only[List.mem_cons,List.not_mem_nil,or_false] at hb;rcases hb with rfl|rfl|rfl
   ·exact ax
   ·exact aT
   ·exact a3
  have J4:aX X [] σ' H2 { s2 with heap:=h4 }:=J2.move hs hf hex aw k34 (fun b _=>rfl) cl (J2.hokK k34 cl);refine wpAny_handleBy_cons ?_ (fun z=>nomatch z);refine codeAny_handlers_test (nU (X:=X.hand x) (J4.hand x) hg hm ?_ hdb);refine bR8 J4.kIn U W F4.1 ?_;refine codeAny_handlers_suite_as ?_;refine lH (s:={ s2 with heap:=h4 }) (fs:=jM X.stack) a3.fr F4 fun h5 k5 F5=>?_
  have J5:aX X [] σ' H2 { s2 with heap:=h5 }:=J4.move hs hf hex (ch:=[T3]) (fun b hb=>aw b (by simp at hb ⊢;exact .inr (.inr hb))) k5 (fun b _=>rfl) (fun b hb=>cl b (by simp at hb ⊢;exact .inr (.inr hb))) (J4.hokK k5 fun b hb=>cl b (by simp at hb ⊢;exact .inr (.inr hb)));obtain⟨⟨o,vs,e1,e2,e3,e4,e5⟩,_⟩:=F5;have xn:∃o,h5.get? x=some o/\o.cls= .ref C/\notCls o=true/\o.dict= .none:=⟨o,e1,e2,by unfold notCls;rw[e4],e3⟩
  have hok6:jY X.prog X.w (aN H2 x (XN x C)) h5:=fun b u eb=>by
   by_cases c:b=x
   ·subst c;rw[aC] at eb
    cases eb
    exact cD1 xn
   ·rw[aH c] at eb;refine(J5.hok b u eb).stay (fun _ _ _ q=>q) (fun cc q=>?_) fun cc xs q=>?_
    ·rw[aH (fun z=>by rw[z,hx] at q;cases q)];exact q
    ·rw[aH (fun z=>by rw[z,hx] at q;cases q)];exact q
  have J6:aX X [] σ' (aN H2 x (XN x C)) { s2 with heap:=h5 }:=J5.move hs hf hex (ch:=[x]) (fun b hb=>aw b (by simp at hb ⊢;exact .inl hb)) (Kp.mono (Kp.kept fun _ _ e=>e) (by simp)) (fun b hb=>aH (by simpa using hb)) (fun b hb=>cl b (by simp at hb ⊢;exact .inl hb)) hok6;refine iW (v:= .ref x) J6 hN hi (.inl hl) rfl (fun s7 J7=>?_) (.inr hl);refine dm (hh x [] s7 _ _ _ (J7.hand x) (q σ' x J6.len hx)) (fun f s8 q8=>?_) fun _ _ z=>z.elim
  have done:∀(σ2:St) (H8:Hp),aX X [] σ2 H8 s8->∀{Q:Unit->Shared->Prop}{E:Value->Shared->Prop},(∀s9,aX X [] (σ2.set i .none) H8 s9->Q () s9)->wpAny (model X.prog X.w) X.A (do bindName X.env n Value.none;unbindBehindTheSuite X.env n hpos) Q E s8:=fun σ2 H8 J8 Q E q9=>by
   refine aa (we (iW (v:= .non) J8 hN hi (.inl hl) rfl (fun s9 J9=>?_) (.inr hl)));unfold unbindBehindTheSuite;obtain⟨m,hm9,lk⟩:=J9.loc;have il:i<σ2.length:=by rw[J8.len];exact(bf.mp hi).1
   obtain⟨u,ru,lk1⟩:=lk i n .non hi (by rw[pf il]) (.inl hl);have mn:m n=some u:=by
    rcases lk1 with⟨_,z⟩|⟨z,_⟩
    ·exact z
    ·rw[hk] at z;rcases z with z|z<;>cases z
   refine su (wpAny_unbindName_local hk hm9 mn (by rw[kf];rfl) fun h9 u9 ns9 sb9=>?_);have:=J9.unset hN hi hk lk ns9 sb9;rw[List.set_set] at this;exact q9 _ this
  cases f with
  |next =>
   obtain⟨σ2,H8,J8,z⟩:=q8;exact done σ2 H8 (J8.unhand J6.ok) fun s9 J9=>⟨_,H8,J9,z⟩
  |ret v =>
   obtain⟨w',σ2,H8,J8,r,z⟩:=q8;exact done σ2 H8 (J8.unhand J6.ok) fun s9 J9=>⟨w',_,H8,J9,r,z⟩
  |brk =>
   obtain⟨_,_,_,z⟩:=q8;exact z.elim
  |cont =>
   obtain⟨_,_,_,z⟩:=q8;exact z.elim
 ·have q:=SP.unwish q
  cases f with
  |next=>exact nv q
  |ret v=>exact q
  |brk=>exact q
  |cont=>exact q
end
def vN {K}:∀{its},(∀c∈its,kitOne K t c=some false)->kitAny K t its=some false
 |[],_=>rfl
 |c::r,h=>by
  have h1:=h c ao;have h2:=vN fun x hx=>h x (aq _ hx)
  simp[kitAny,h1,h2]
def sV:∀{cs:List Addr}{us},bM (cs.map V.ref) us->us=cs.map Value.ref
 |[],_,.nil=>rfl
 |c::cs,_,.cons r t=>by
  have r:_=Value.ref c:=r;rw[sV t,r];rfl
def aR1:eL X (.builtin "isinstance") (fun xs H Q=>∃(a p C D:Addr) (cs:List Addr),xs=[.ref a,.ref p]/\aQ X.K H p (cs.map V.ref)/\XAt H a C/\fS X.K C D/\XIs X.K C/\(∀c∈cs,kitOne X.K (.ref C) (.ref c)=some false)/\Q (.bl false) H):=by
 intro pins s σ H xs us Q I r h;obtain⟨a,p,C,D,cs,rfl,hq,x,W,Z,no,q⟩:=h;obtain⟨u,w',rfl,ru,rw'⟩:=tQ r
 cases ru
 cases rw'
 obtain⟨its,rv,⟨⟨cls,dd,data,sl⟩,ho,hc,n,hd⟩,_⟩:=I.tuple hq;simp only at hc hd;subst hc hd;have e:=sV rv;subst e;refine kia_tup (zM W Z) I.kIn (aD3 I x) ho (vN fun c hc=>?_) (fun z=>nomatch z) fun tk=>⟨.bl false,H,I.tok tk,rfl,q⟩
 obtain⟨c',hc',rfl⟩:=dj.mp hc;exact no c' hc'
structure aE0(k:Nat)(A:Around):Prop where
 dp:A.depth+3*k+5<recursionLimit
 un:A.units+16*k+200<cLine
def dL.h (r:dL k A)(e):aE0 k (A.mark e):=⟨r.dp,r.un⟩
structure yL(P:Program)(w:World)(K:W.Frag)(mg:Str->Option Value)(base:Heap)(k:Nat)(f:Addr)(fd:FuncData)(ps:List Str)(sp:Sp):Prop where
 len:∀vs H Q E,sp vs H Q E->vs.length=ps.length
 run:∀(A:Around) (outer:List Env) (s:Shared) (H:Hp) (args:Args) (us:List Value) (vs:List V) (Q:VK) (E:XK),aE0 k A->yI P w K mg base A outer s H->BindsTo s fd args (ps.zip us)->bM vs us->sp vs H Q E ->
  codeAny (model P w) A (.call (.ref f) args) (CR pO outer P w H s Q E) s
abbrev cxH(P:Program)(w:World)(K:W.Frag)(mg:Str->Option Value)(base:Heap)(N:List Str)(qual:Str)(scope:Scope)(f:Addr)(cd:Value)(A:Around)(outer:List Env)(s:Shared)(H:Hp)(E:XK):Cx:=
 { jH pO P w K mg base N qual scope f cd A outer s H E with calm:=false,xe:=fun _ _=>False }
section
variable {P:Program}{w:World}{K:W.Frag}{mg:Str->Option Value}{base:Heap}
def nA.okH {st}(F:nA K x qual st f fd)(S:eO N ps (aL st))(len:∀vs H Q E,sp vs H Q E->vs.length=ps.length)(hbody:∀cdv (A) (outer) (s) (H) (vs) (Q) (E),sp vs H Q E ->
   ∃t,oS (cxH P w K mg base N qual (aL st) f cdv A outer s H E) (bI st) t/\t { nx:=fun _ H'=>Q .non H',rt:=Q } (fE N vs) H):yL P w K mg base (k+1) f fd ps sp:=by
 obtain⟨oc,od,kV,doc,pm,an,cdv,ct,osl,rfl,lk,hcd⟩:=F.ex;refine⟨len,fun A outer s H args us vs Q E hr e0 hb r hsp=>?_⟩;have hl:=len _ _ _ _ hsp;have KX:K.In s.heap:=e0.mod.kin.keeps fun b o e=>(e0.bs b o e).1
 have lim:s.heap.NoLimit:=e0.mod.nolimit.keeps fun b o e=>(e0.bs b o e).1
 have hkind:∀y∈ps.zip us,(aL st).names.lookup y.1=some .local\/((aL st).names.lookup y.1=some .cell/\((cellsFrom (s.heap.objs.size+1) (aL st).names []).lookup y.1).isSome=true):=fun⟨n,v⟩ hy=>by
  rcases S.par n (ju hy).1 with q|q
  ·exact .inl q
  ·exact .inr ⟨q,vc _ _ _ (.inl q)⟩
 refine md (by have:=hr.dp;lia) (KX _ _ lk) rfl S.co S.gen rfl (ym KX hcd) (hb _ _ _ _ ?_);refine kg S.kind hkind fun env he s1 x=>?_
 subst he;refine⟨lim.keeps x.toInCall.keep,uo ?_⟩;obtain⟨t,ht,hq⟩:=hbody cdv A outer s H vs Q E hsp;have J:=lP (CX:=pO) (E:=E) (A:={ A with handled:= .none }) S rfl (⟨e0.frames,e0.mod,e0.bs,e0.bsz,e0.funs,e0.frf,e0.hok,e0.bare⟩:yI P w K mg base { A with handled:= .none } outer s H) hl r x;have I:aX (cxH P w K mg base N qual (aL st) f cdv A outer s H E) [] (fE N vs) H s1:=
  ⟨⟨J.ok.mod,J.ok.kind,J.ok.glob,J.ok.blt,J.ok.above,J.ok.inj,J.ok.has,J.ok.cab,(fun z=>nomatch z),qg e0.frames,J.ok.stk,J.ok.exf,J.ok.bs,J.ok.bsz,J.ok.noex,J.ok.exfs,J.ok.funs,J.ok.frf⟩,J.os,J.bare,J.base,J.loc,J.cell,J.free,J.freeC,J.pin,J.hok,J.len⟩
 refine dm (ht [] s1 (fE N vs) H _ I hq) (fun fl s' hs=>?_) fun e s' hs=>hs.elim
 have fin:∀{σ':St}{H':Hp}{v:V}{u:Value},aX (cxH P w K mg base N qual (aL st) f cdv A outer s H E) [] σ' H' s'->bL v u->Q v H'->CE outer P w H s Q u s':=
  fun {σ' H' v u} J rv q=>⟨v,H',J.os,J.bare,J.base,J.hok,rv,q⟩
 cases fl with
 |ret u =>
  obtain⟨v,σ',H',J,rv,q⟩:=hs;exact fin J rv q
 |next =>
  obtain⟨σ',H',J,q⟩:=hs;exact fin (v:=V.non) (u:=Value.none) J rfl q
 |brk =>
  obtain⟨_,_,_,q⟩:=hs;exact False.elim q
 |cont =>
  obtain⟨_,_,_,q⟩:=hs;exact False.elim q
def nA.okX {st}(F:nA K x qual st f fd)(S:eO N ps (aL st))(len:∀vs H Q E,sp vs H Q E->vs.length=ps.length)(hbody:∀cdv (A) (outer) (s) (H) (vs) (Q) (E),dL k (A.deeper (envOfC qual (aL st) s.heap.objs.size f cdv))->sp vs H Q E ->
   ∃t,oS (jH (CX1 P w) P w K mg base N qual (aL st) f cdv A outer s H E) (bI st) t/\t { nx:=fun _ H'=>Q .non H',rt:=Q } (fE N vs) H):lG P w K mg base (CX1 P w) (k+1) f fd ps sp:=by
 obtain⟨oc,od,kV,doc,pm,an,cdv,ct,osl,rfl,lk,hcd⟩:=F.ex;exact aW2 lk hcd S len fun A outer s H vs Q E hr hsp=>hbody cdv A outer s H vs Q E hr hsp
def nA.ok0 {st}(F:nA K x qual st f fd)(S:eO N ps (aL st))(len:∀vs H Q E,sp vs H Q E->vs.length=ps.length)(hbody:∀cdv (A) (outer) (s) (H) (vs) (Q) (E),dL k (A.deeper (envOfC qual (aL st) s.heap.objs.size f cdv))->sp vs H Q E ->
   ∃t,xR (jH pO P w K mg base N qual (aL st) f cdv A outer s H E).nox (bI st) t/\t { nx:=fun _ H'=>Q .non H',rt:=Q } (fE N vs) H):lG P w K mg base pO (k+1) f fd ps sp:=by
 obtain⟨oc,od,kV,doc,pm,an,cdv,ct,osl,rfl,lk,hcd⟩:=F.ex;refine⟨len,fun A outer s H args us vs Q E hr e0 hb r hsp=>?_⟩;have hl:=len _ _ _ _ hsp;have KX:K.In s.heap:=e0.mod.kin.keeps fun b o e=>(e0.bs b o e).1
 have lim:s.heap.NoLimit:=e0.mod.nolimit.keeps fun b o e=>(e0.bs b o e).1
 have hkind:∀y∈ps.zip us,(aL st).names.lookup y.1=some .local\/((aL st).names.lookup y.1=some .cell/\((cellsFrom (s.heap.objs.size+1) (aL st).names []).lookup y.1).isSome=true):=fun⟨n,v⟩ hy=>by
  rcases S.par n (ju hy).1 with q|q
  ·exact .inl q
  ·exact .inr ⟨q,vc _ _ _ (.inl q)⟩
 refine md hr.depth (KX _ _ lk) rfl S.co S.gen rfl (ym KX hcd) (hb _ _ _ _ ?_);refine kg S.kind hkind fun env he s1 x=>?_
 subst he;refine⟨lim.keeps x.toInCall.keep,uo ?_⟩;obtain⟨t,ht,hq⟩:=hbody cdv A outer s H vs Q E (hr.deeper _) hsp;have I:aX (jH pO P w K mg base N qual (aL st) f cdv A outer s H E) [] (fE N vs) H s1:=lP S hr.hd e0 hl r x;refine dm (ht.nox s1 (fE N vs) H _ I hq) (fun fl s' hs=>?_) fun e s' hs=>hs
 have fin:∀{σ':St}{H':Hp}{v:V}{u:Value},aX (jH pO P w K mg base N qual (aL st) f cdv A outer s H E) [] σ' H' s'->bL v u->Q v H'->CE outer P w H s Q u s':=
  fun {σ' H' v u} J rv q=>⟨v,H',J.os,J.bare,J.base,J.hok,rv,q⟩
 cases fl with
 |ret u =>
  obtain⟨v,σ',H',J,rv,q⟩:=hs;exact fin J rv q
 |next =>
  obtain⟨σ',H',J,q⟩:=hs;exact fin (v:=V.non) (u:=Value.none) J rfl q
 |brk =>
  obtain⟨_,_,_,q⟩:=hs;exact False.elim q
 |cont =>
  obtain⟨_,_,_,q⟩:=hs;exact False.elim q
end
section
variable {X:Cx}{k:Nat}{f:Addr}{fd:FuncData}{ps:List Str}{sp:Sp}{x:Str}{p pos:Pos}{e:Expr}{es:List Expr}{t:TA}
def aS0 (F:yL X.prog X.w X.K X.mg X.base k f fd ps sp)(hr:aE0 k X.A)(hg:Gl X x)(hm:X.mg x=some (.ref f))(hk:W.keepIn X.K (.ref f)=true)(hb:gY X.K fd ps [])(ha:PA X (e::es) t)(hdb:autoParam ((x==("__debug__": Str))=false) Rq1._auto_1)(he:autoParam (starEach (e::es) X.env=(false,eval e X.env)::starEach es X.env) Rq0._auto_1)(hpl:autoParam ((backTo pos (starEach es X.env)).any (·.1)=false) Rq0._auto_1):
  PE X (.Call (.Name x p) (e::es) [] pos) (pP sp [] E0 t):=by
 intro pins s σ H Q I h;refine fu (nU I hg hm ?_ hdb);refine W.callWith_K (h₀:=X.base) I.ok.mod.kin hk (cV (ha pos pins s σ H _ I h) ?_) he hpl;rintro us s1 ⟨vs,H1,I1,r,q⟩;refine⟨I1.kIn,?_⟩;have r2:bM (vs++[]) (us++[]):=r.append .nil;have hl:(us++[]).length=ps.length:=by rw[<-r2.length];exact F.len _ _ _ _ q
 refine ot (kr (F.run X.A X.stack s1 H1 ⟨us,[]⟩ (us++[]) (vs++[]) Q E0 hr I1.env0 (hb s1 us I1.kIn hl) r2 q) fun r s' hq=>?_)
 cases r with
 |error e=>exact hq.elim
 |ok fl =>
  cases fl with
  |ret u=>exact I1.after hq
  |next=>exact False.elim hq
  |brk=>exact False.elim hq
  |cont=>exact False.elim hq
end
open PySem PySem.Spec PyProof.Rows
section
variable {P:Program}{w:World}{H:Hp}{h:Heap}{a C dx:Addr}
end
section
variable {X:Cx}{pins:List (Addr×Obj)}{σ:St}{H:Hp}{s:Shared}{a C dx:Addr}{f:Str}
end
section
variable {X:Cx}{CX:CXT}{k:Nat}{f C D:Addr}{fd:FuncData}{ps:List Str}{sp:Sp}{E:XK}{x:Str}{p pos:Pos}{e:Expr}{es:List Expr}{t:TA}
end
open PySem PySem.Spec PyProof.Rows PySem.W
section
variable {M:Model}{A:Around}{E:Value->Shared->Prop}{s:Shared}{base:Heap}{env:Env}{outer:List Env}{L x T C dx:Addr}{Q:Unit->Shared->Prop}
end
section
variable {X:Cx}{pins:List (Addr×Obj)}{σ:St}{H:Hp}{s:Shared}
end
section
variable {M:Model}{A:Around}{E:Value->Shared->Prop}{env:Env}
variable {nm q:Str}{C N:Addr}{bs bm:List Value}{hdct:Bool}{sn:List Str}{sub:List Value}{ab:Bool}{col:Option Bool}{dd:Option Addr}{k0 k1 k2 k3 k5:Option Value}{newId:String}
end
section
variable {X:Cx}
end
section
variable {X:Cx}{f:Str}
end
section
variable {P:Program}{w:World}{K:W.Frag}{mg:Str->Option Value}{base:Heap}{N:List Str}{qual:Str}{scope:Scope}{f:Addr}{cd:Value}{A:Around}{outer:List Env}{s0:Shared}{H0:Hp}{E:XK}
end
section
variable {P:Program}{w:World}{K:W.Frag}{mg:Str->Option Value}{base:Heap}
end
open PySem PySem.Spec PyProof.Rows
section
variable {P:Program}{w:World}{K:W.Frag}{mg:Str->Option Value}{base:Heap}
def cI6 {st}(N)(hb:∀{f cdv A outer s vs E}(H) (Q),N.Nodup->dL k (A.deeper (envOfC q (aL st) s.heap.objs.size f cdv))->sp vs H Q E ->
   ∃t,xR (jH pO P w K mg base N q (aL st) f cdv A outer s H E).nox (bI st) t/\t { nx:=fun _ H'=>Q .non H',rt:=Q } (fE N vs) H)(len:∀vs H Q E,sp vs H Q E->vs.length=ps.length:=by intro _ _ _ _ h;first|(cases h;subst_vars;rfl)|((repeat obtain⟨_,h⟩:=h);subst_vars;rfl))(S:autoParam (eO N ps (aL st)) Rq6._auto_1):gG P w K mg base x q st (k+1) ps sp:=
 fun F=>F.ok0 S len fun _ _ _ _ H _ Q _ hr h=>hb H Q S.nd hr h
variable {x p1 p2:Str}{st:Stmt}{n:Nat}{sp:Sp}
end
section
variable {X:Cx}{x:Str}{p pos:Pos}{e:Expr}{es:List Expr}{t:TA}
end
section
variable {P:Program}{w:World}{K:W.Frag}{mg:Str->Option Value}{base:Heap}{N:List Str}{qual:Str}{scope:Scope}{f:Addr}{cd:Value}{A:Around}{outer:List Env}{s:Shared}{H:Hp}{E:XK}
end
structure mJ(K:W.Frag)(R:Addr)(cs:List Addr)(D:Addr):Prop where
 over:fS K R D
 is:XIs K R
 ty:∀C∈cs,W.typeIn K (.ref C)=some (.type "type")
 cl:∀C∈cs,(W.clsIn K C).isSome=true
 nr:R∉cs
 nd:D∉cs
 dc:(W.clsIn K D).isSome=true
 dt:W.typeIn K (.ref D)=some (.type "type")
def mJ.kit {K}(F:mJ K R cs D)(h:C∈cs):W.kitOne K (.ref R) (.ref C)=some false:=by
 have e:¬R=C:=fun z=>F.nr (z ▸ h)
 have ne:C≠D:=fun z=>F.nd (z ▸ h)
 have b:(Value.ref R==Value.ref C)=false:=ue.mpr fun q=>e (Value.ref.inj (beq_iff_eq.mp q))
 obtain⟨cd,hc⟩:=jj.mp (F.cl C h);unfold W.kitOne;rw[b];unfold W.kitCls;simp[hc,F.ty C h,F.over.subIn,Ne.symm e,ne,e]
def mJ.self {K}(F:mJ K R cs D):W.kitOne K (.ref R) (.ref R)=some true:=by
 unfold W.kitOne;simp
def mJ.ve {K}(F:mJ K R cs D):W.kitOne K (.ref R) (.type "ValueError")=some true:=by
 unfold W.kitOne W.kitCls;simp[bE7,F.over.subIn]
def mJ.up {K}(F:mJ K R cs D):W.kitOne K (.ref R) (.ref D)=some true:=by
 unfold W.kitOne W.kitCls;simp[F.dc,F.dt,F.over.subIn]
def bI4:bootBuiltins "ValueError"=some (.type "ValueError"):=by decide
def aG9:jU X (compareOp .IsNot) (fun x y H Q=>∃a b,x= .bl a/\y= .bl b/\Q (.bl (a != b)) H):=by
 intro pins s σ H x y v u Q I rx ry h;obtain⟨a,b,rfl,rfl,q⟩:=h
 cases rx
 cases ry
 exact isnot_bool ⟨.bl (a != b),H,I,rfl,q⟩
section
variable {P:Program}{w:World}{K:W.Frag}{mg:Str->Option Value}{base:Heap}
def bU3 (K:W.Frag)(x:Str)(st:Stmt)(f:Addr)(i:Int):Prop:=∃(oc:Value) (od:Option Addr) (T:Addr) (kV dc pm:Value) (an:Option Addr) (cd ct:Value) (sl:Array (Option Value)) (o:Obj) (n:Nat) (t:Tok),K.lookup f=some ⟨oc,od,.func (W.fnOf x x (bX st) (bI st) (aL st) (.ref T) kV dc pm an cd ct),sl⟩/\W.codeIn K cd x=true/\W.keepIn K (.ref f)=true/\K.lookup T=some o/\o.data= .seq #[.int i t] n
def bU5 (K:W.Frag)(x:Str)(st:Stmt)(i:Int):Prop:=∃f,W.nsIn K mainGlobals x=some (some (.ref f))/\bU3 K x st f i
end
section
variable {X:Cx}{x:Str}{p pos:Pos}{e:Expr}{es:List Expr}{t:TA}
end
section
variable {P:Program}{w:World}{K:W.Frag}{mg:Str->Option Value}{base:Heap}
section
variable {x p1 p2 p3 p4:Str}{st:Stmt}{n:Nat}{sp:Sp}{i:Int}(Z:Zx P w K mg base) (t:bU5 K x st i)
include Z t
end
end
section
variable {X:Cx}{x:Str}{p pos:Pos}{e:Expr}{es:List Expr}{t:TA}
end
open PySem PySem.Spec PyProof.Rows PySem.W
section
variable {X:Cx}{pins:List (Addr×Obj)}{σ:St}{H:Hp}{s:Shared}
end
section
variable {X:Cx}{CX:CXT}{k:Nat}{f C:Addr}{fd:FuncData}{ps:List Str}{sp:Sp}{dvs:List V}{ds:List Value}{E:St->XK}{x m:Str}{p pos apos:Pos}{e o:Expr}{es:List Expr}{ta:TE}{t:TA}
end
def ClH (P:Program)(w:World)(K:W.Frag)(mg:Str->Option Value)(base:Heap)(n:Nat)(sp:Sp)(x:Str):Prop:=∃f d ps,yL P w K mg base n f d ps sp/\gY K d ps []/\W.keepIn K (.ref f)=true/\mg x=some (.ref f)
def Zx.h1 {K st}(Z:Zx P w K mg base)(t:TopAt K x st)(ok:∀{f d},nA K x x st f d->yL P w K mg base n f d [p1] sp)(h:autoParam (∀kV doc pm (an) (cdv ct u1),bindArgs (W.fnOf x x (bX st) (bI st) (aL st) .none kV doc pm an cdv ct) ⟨[u1],[]⟩=pure [(p1,u1)]) Rq2._auto_1):ClH P w K mg base n sp x:=by
 obtain⟨_,a,t⟩:=t;obtain⟨_,F⟩:=t.fn;exact⟨_,_,_,ok F,F.b1 h,F.kp,Z.ns _ _ a⟩
section
variable {X:Cx}{x:Str}{p pos:Pos}{e:Expr}{es:List Expr}{t:TA}
def cI2 (C:ClH X.prog X.w X.K X.mg X.base k sp x)(hr:aE0 n X.A)(ha:PA X (e::es) t)(hn:autoParam (k<=n) Rq5._auto_1)(hg:autoParam (Gl X x) Rq0._auto_1)(hdb:autoParam ((x==("__debug__": Str))=false) Rq1._auto_1)(he:autoParam (starEach (e::es) X.env=(false,eval e X.env)::starEach es X.env) Rq0._auto_1)(hpl:autoParam ((backTo pos (starEach es X.env)).any (·.1)=false) Rq0._auto_1):PE X (.Call (.Name x p) (e::es) [] pos) (pP sp [] E0 t):=by obtain⟨_,_,_,F,b,k,m⟩:=C;exact aS0 F ⟨by have:=hr.dp;lia,by have:=hr.un;lia⟩ hg m k b ha hdb he hpl
end
open PySem PySem.Spec PyProof.Rows
section
variable {P:Program}{w:World}{K:W.Frag}{mg:Str->Option Value}{base:Heap}
def ClX (P:Program)(w:World)(K:W.Frag)(mg:Str->Option Value)(base:Heap)(n:Nat)(sp:Sp)(x:Str):Prop:=∃f d ps,lG P w K mg base (CX1 P w) n f d ps sp/\gY K d ps []/\W.keepIn K (.ref f)=true/\mg x=some (.ref f)
def bT9 (P:Program)(w:World)(K:W.Frag)(mg:Str->Option Value)(base:Heap)(x q:Str)(st:Stmt)(n:Nat)(ps:List Str)(sp:Sp):Prop:=∀{f:Addr}{d:FuncData},nA K x q st f d->lG P w K mg base (CX1 P w) n f d ps sp
def cJ5 {st}(N)(hb:∀{f cdv A outer s vs E}(H) (Q),N.Nodup->dL k (A.deeper (envOfC q (aL st) s.heap.objs.size f cdv))->sp vs H Q E ->
   ∃t,oS (jH (CX1 P w) P w K mg base N q (aL st) f cdv A outer s H E) (bI st) t/\t { nx:=fun _ H'=>Q .non H',rt:=Q } (fE N vs) H)(len:∀vs H Q E,sp vs H Q E->vs.length=ps.length:=by intro _ _ _ _ h;first|(cases h;subst_vars;rfl)|((repeat obtain⟨_,h⟩:=h);subst_vars;rfl))(S:autoParam (eO N ps (aL st)) Rq6._auto_1):bT9 P w K mg base x q st (k+1) ps sp:=
 fun F=>F.okX S len fun _ _ _ _ H _ Q _ hr h=>hb H Q S.nd hr h
def Zx.x2 {st}(Z:Zx P w K mg base)(t:TopAt K x st)(ok:bT9 P w K mg base x x st n [p1,p2] sp)(h:autoParam (∀kV doc pm (an) (cdv ct u1 u2),bindArgs (W.fnOf x x (bX st) (bI st) (aL st) .none kV doc pm an cdv ct) ⟨[u1,u2],[]⟩=pure [(p1,u1),(p2,u2)]) Rq2._auto_1):ClX P w K mg base n sp x:=by
 obtain⟨_,a,t⟩:=t;obtain⟨_,F⟩:=t.fn;exact⟨_,_,_,ok F,F.b2 h,F.kp,Z.ns _ _ a⟩
end
section
variable {X:Cx}{x:Str}{p pos:Pos}{e:Expr}{es:List Expr}{t:TA}
def cG4 (C:ClX X.prog X.w X.K X.mg X.base k sp x)(hr:dL n X.A)(hx:rL (CX1 X.prog X.w) X E)(ha:PA X (e::es) t)(hn:autoParam (k<=n) Rq5._auto_1)(hg:autoParam (Gl X x) Rq0._auto_1)(hdb:autoParam ((x==("__debug__": Str))=false) Rq1._auto_1)(he:autoParam (starEach (e::es) X.env=(false,eval e X.env)::starEach es X.env) Rq0._auto_1)(hpl:autoParam ((backTo pos (starEach es X.env)).any (·.1)=false) Rq0._auto_1):PE X (.Call (.Name x p) (e::es) [] pos) (pP sp [] E t):=by obtain⟨_,_,_,g,b,k,m⟩:=C;exact aF4 g (hr.mono hn) hg m k b .nil hx ha hdb he hpl
end
end L2
namespace Mine
open PySem L2
def bZ1:Stmt->Pos
 |st=>match bI st with
  |[.Return (some (.Call _ [_,.Lambda _ _ _ pos] _ _)) _]=>pos
  |_=>⟨0,0,0,0⟩
def cB0:Stmt->Option Arguments
 |st=>match bI st with
  |[.Return (some (.Call _ [_,.Lambda ar _ _ _] _ _)) _]=>some ar
  |_=>none
def cF1:Stmt->Expr
 |st=>match bI st with
  |[.Return (some (.Call _ [_,.Lambda _ b _ _] _ _)) _]=>b
  |_=> .Constant .none 0 ⟨0,0,0,0⟩
def bH8:Stmt->Scope
 |st=>match bI st with
  |[.Return (some (.Call _ [_,.Lambda _ _ sc _] _ _)) _]=>sc
  |_=>aL st
def aS5:∀{rs qs},jT rs<=n->jT qs<=n->jT (rs++qs)<=n
 |[],_,_,h=>h
 |r::rs,qs,h,k=>by
  simp only[jT] at h;have:=aS5 (rs:=rs) (qs:=qs) (n:=n) (by lia) k;simp only[List.cons_append,jT];lia
def zs (n:Nat):List V:=List.replicate n (.int 0)
def xE (n):(zs n).length=n:=ma ..
def aE1 (n):∀u∈zs n,vS u:=fun u hu=>by rw[(List.mem_replicate.mp hu).2];exact rA _
def Fit (K1 K2:List Str):Prop:=(K1++K2).length<=3/\(K1++K2).Nodup
def pH.beside (P1:pH H p K1 rs1 1)(P2:pH H q K2 rs2 1)(F:Fit K1 K2)(R1:bF U1 id rs1 o1)(R:bF U2 ν rs2 o2)(hr:H r=some (.tup [.ref pk,.ref pr]))(hk:H pk=some (.tup ((K1++K2).map V.str)))(hp:H pr=some (.tup (bN (o1++o2))))(ho1:aW H o1)(ho:aW H o2):pH H r (K1++K2) (o1++o2) 2:=by
 obtain⟨k1,s1⟩:=P1.sc;obtain⟨k2,s2⟩:=P2.sc;obtain⟨k5,s5,_⟩:=R1.sc s1 [] (fun _ z=>nomatch z);obtain⟨k3,s3,_⟩:=R.sc s2 [] (fun _ z=>nomatch z);obtain⟨k4,s4,_⟩:=fZ.wide o2 k5 s3 (fun _ z=>nomatch z);have c1:=P1.cnt;have c2:=P2.cnt;have t1:=P1.t1;have t2:=P2.t1;refine⟨⟨pk,pr,hr,hk,hp⟩,aW.app ho1 ho,?_,⟨_,fZ.cat s5 s4⟩,cL.app (R1.telOk P1.tk) (R.telOk P2.tk),?_,?_,F.1,aS5 (by rw[R1.dp];exact P1.dp) (by rw[R.dp];exact P2.dp),iZ.app (R1.tsz P1.tz) (R.tsz P2.tz),?_,by decide⟩
 ·rw[jO,R1.cnt,R.cnt];lia
 ·rw[nV,R1.tel,R.tel];lia
 ·have:=P1.k1;rw[ah];lia
 ·rw[wH,R1.nm,R.nm];exact(P1.few.map id).app (P2.few.map ν)
abbrev xU(Lw L:mV)(H H':Hp):Prop:=eZ [Lw.P,L.P] H H'
def bB6 (h:kJ Lw.P H H'):xU Lw L H H':=fun a o e n=>h a o e fun z=>n (by rw[z];exact ao)
def bV7 (h:kJ L.P H H'):xU Lw L H H':=fun a o e n=>h a o e fun z=>n (by rw[z];exact aq _ ao)
def rK (h:eA H P pos q)(e:H a=some o)(n:∀ps,o≠ .tbl ps):a≠P:=fun z=>by
 obtain⟨ps,e2⟩:=h.is;rw[z,e2] at e;exact n ps (cu e).symm
def sX (h:eA H P pos q)(h2:eA H P2 pos2 q2)(ne:P≠P2)(o:kJ P2 H H'):eA H' P pos q:=by
 rcases h with h|⟨c,oc,vs,t,h1,hc,r⟩
 ·exact .inl (o _ _ h ne)
 ·exact .inr ⟨c,oc,vs,t,o _ _ h1 ne,o _ _ hc (rK h2 hc fun ps z=>by cases z),r⟩
def aE8 (h:xU Lw L H H')(a:eA H Lw.P Lw.pos Lw.q)(b:eA H L.P L.pos L.q):TS H H':=fun p xs e=>h p _ e fun m=>by
 simp only[List.mem_cons,List.not_mem_nil,or_false] at m;rcases m with m|m
 ·exact rK a e (fun ps z=>by cases z) m
 ·exact rK b e (fun ps z=>by cases z) m
inductive aS7(cF:Addr)(Lw L:mV)(vs:List V)(H:Hp)(Q:VK)(E:XK):Prop
 |mk:∀(p q:Addr) (K1 K2:List Str) (rs1 rs2:List Rw),vs=[.ref p,.ref q]->eA H Lw.P Lw.pos Lw.q->eA H L.P L.pos L.q->pH H p K1 rs1 1->pH H q K2 rs2 1->lO H (dD rs1)->lO H (dD rs2)->(((Fit K1 K2/\∀(r:Addr) (o1 o2:List Rw) (ν:Str->Str) (H':Hp),xU Lw L H H'->eA H' Lw.P Lw.pos Lw.q->eA H' L.P L.pos L.q->pH H' r (K1++K2) (o1++o2) 2->aW H' o1->aW H' o2->bF (dG H' [] (zs K2.length)) id rs1 o1->bF (dG H' (zs K1.length) []) ν rs2 o2->nY ν K1 K2 (eI rs1) (eI rs2)->Q (.ref r) H')\/(¬Fit K1 K2/\∀H',bA H H'->E (.ref cF) .none H')))->aS7 cF Lw L vs H Q E
def zJ (H:Hp)(d:Addr)(S:List Str)(ν:Str->Str):Prop:=H d=some (.dK (S.map fun x=>((Sum.inr x:Key),V.str (ν x))))/\S.Nodup
def qH {ν:Str->Str}:∀{S:List Str},dW (S.map fun x=>((Sum.inr x:Key),V.str (ν x))) (Sum.inr x:Key)=if x∈S then some (.str (ν x)) else none
 |[]=>rfl
 |y::S=>by
  rw[eo]
  by_cases c:y=x
  ·rw[dA (by rw[c]),c,bb ao]
  ·rw[cE (fun z=>c (by injection z)),qH (S:=S)]
   by_cases d:x∈S
   ·rw[bb d,bb (aq _ d)]
   ·rw[au d,au (fun z=>by
     rcases bv.mp z with z|z
     ·exact c z.symm
     ·exact d z)]
def bG8 {ν:Str->Str}(h:x∉S):dP (S.map fun x=>((Sum.inr x:Key),V.str (ν x))) (Sum.inr x) (.str (ν x))=(S++[x]).map fun x=>((Sum.inr x:Key),V.str (ν x)):=by
 unfold dP;rw[au,av]
 ·rfl
 ·intro z;obtain⟨kv,hkv,e⟩:=je.mp z;obtain⟨y,hy,rfl⟩:=dj.mp hkv;have e:=ae e;injection e with e
  exact h (e ▸ hy)
def zJ.bar (h:zJ H d S ν)(s:bA H H'):zJ H' d S ν:=⟨s _ _ h.1,h.2⟩
def zJ.ts (h:zJ H d S ν)(b:eV d H H'):TS H H':=b.ts h.1
inductive spNmT(vs:List V)(H:Hp)(Q:VK)(z1:XK):Prop
 |mk:∀(d:Addr) (S:List Str) (ν:Str->Str) (x:Str) (T:List Str),vs=[.str (ν x),.str x,.ref d]->zJ H d S ν->pR 900 T->x∈T->((∀y∈S,y∈T))->(∀(S':List Str) (H':Hp),eV d H H'->zJ H' d S' ν->(∀y,y∈S'↔y∈S\/y=x)->Q (.bl true) H')->spNmT vs H Q z1
inductive aW8(n:Nat)(vs:List V)(H:Hp)(Q:VK)(z1:XK):Prop
 |mk:∀(d:Addr) (S:List Str) (ν:Str->Str) (t u:Tm) (T:List Str),vs=[.ref u.p,.ref t.p,.ref d]->zJ H d S ν->mE H t->mE H u->dH ν t u->t.size<=n->pR 900 T->((∀y∈t.names,y∈T))->((∀y∈S,y∈T))->(∀(S':List Str) (H':Hp),eV d H H'->zJ H' d S' ν->(∀y,y∈S'↔y∈S\/y∈t.names)->Q (.bl true) H')->aW8 n vs H Q z1
def aH6:Nat->Sp
 |0=>fun _ _ _ _=>False
 |n+1=>aW8 n
def UDq (H:Hp)(U:UR):Prop:=∀w a b,U w a b->Paired (uP H 3) b a
def UDq.ts (h:UDq H U)(t:TS H H'):UDq H' U:=fun w a b u=>by
 have p:=h w a b u;clear u
 induction p with
 |nil=>exact .nil
 |cons r _ ih=>exact .cons (uP.ts t 3 r) ih
inductive aS3(m:Nat)(vs:List V)(H:Hp)(Q:VK)(z1:XK):Prop
 |mk:∀(d:Addr) (S:List Str) (U:UR) (ν:Str->Str) (r q:Rw) (T:List Str),vs=[.ref q.p,.ref r.p,.ref d]->zJ H d S ν->eB H r->eB H q->dI U ν r q->r.dp<=m->aD6 r->UDq H U->r.cnt<=900->pR 900 T->((∀y∈eI [r],y∈T))->((∀y∈S,y∈T))->(∀(S':List Str) (H':Hp),eV d H H'->zJ H' d S' ν->(∀y,y∈S'↔y∈S\/y∈eI [r])->Q (.bl true) H')->aS3 m vs H Q z1
def aR3:Nat->Sp
 |0=>fun _ _ _ _=>False
 |n+1=>aS3 n
inductive aO7(m:Nat)(vs:List V)(H:Hp)(Q:VK)(z1:XK):Prop
 |mk:∀(d:Addr) (S:List Str) (U:UR) (ν:Str->Str) (rs qs:List Rw) (p q:Addr) (T:List Str),vs=[.ref q,.ref p,.ref d]->zJ H d S ν->H p=some (.tup (bN rs))->H q=some (.tup (bN qs))->aW H rs->aW H qs->bF U ν rs qs->jT rs<=m->iZ rs->UDq H U->bP rs<=900->pR 900 T->((∀y∈eI rs,y∈T))->((∀y∈S,y∈T))->(∀(S':List Str) (H':Hp),eV d H H'->zJ H' d S' ν->(∀y,y∈S'↔y∈S\/y∈eI rs)->Q (.bl true) H')->aO7 m vs H Q z1
def aE2:Nat->Sp
 |0=>fun _ _ _ _=>False
 |n+1=>aO7 n
inductive aS4(n:Nat)(vs:List V)(H:Hp)(Q:VK)(z1:XK):Prop
 |mk:∀(p:Addr) (rs:List Rw),vs=[.ref p]->H p=some (.tup (bN rs))->aW H rs->jT rs<=n->bP rs<=900->(∀(l:Addr) (H':Hp),bA H H'->H' l=some (.lst (bN (dD rs)))->Q (.ref l) H')->aS4 n vs H Q z1
def aE4:Nat->Sp
 |0=>fun _ _ _ _=>False
 |n+1=>aS4 n
def dH.shape:∀{t u},dH ν t u->u.w=t.w/\u.rest.length=t.rest.length
 |.num _ _,_,⟨_,e⟩=>by rw[e];exact⟨rfl,rfl⟩
 |.nam _ _,_,⟨_,e⟩=>by rw[e];exact⟨rfl,rfl⟩
 |.op _ _ _ _,_,⟨_,_,_,e,_⟩=>by rw[e];exact⟨rfl,rfl⟩
def dI.shape (hU:∀w a b,U w a b->b.length=a.length):∀{r q},dI U ν r q->q.w=r.w/\q.rest.length=r.rest.length
 |.thr _ _ _ _ _,_,⟨_,_,e,u⟩=>by rw[e];exact⟨rfl,by simp[Rw.rest,hU _ _ _ u]⟩
 |.lt _ _ _,_,⟨_,_,e,_⟩=>by rw[e];exact⟨rfl,rfl⟩
 |.tell _ _,_,⟨_,_,e,_⟩=>by rw[e];exact⟨rfl,rfl⟩
 |.when _ _ _ _ _ _,_,⟨_,_,_,_,_,_,e,_⟩=>by rw[e];exact⟨rfl,rfl⟩
 |.times _ _ _ _,_,⟨_,_,_,e,_⟩=>by rw[e];exact⟨rfl,rfl⟩
def bF.at:∀{rs qs}{i:Nat}{r},bF U ν rs qs->rs[i]?=some r->∃q,qs[i]?=some q/\dI U ν r q
 |[],_,i,r,_,e=>by cases e
 |x::rs,_,0,r,⟨q,qs,e,h,k⟩,f=>by cases f;exact⟨q,by rw[e];rfl,h⟩
 |x::rs,_,i+1,r,⟨q,qs,e,h,k⟩,f=>by
  obtain⟨q',a,b⟩:=bF.at (rs:=rs) (i:=i) k f;exact⟨q',by rw[e];exact a,b⟩
def bF.length:∀{rs qs},bF U ν rs qs->qs.length=rs.length
 |[],_,e=>by rw[show _=[] from e]
 |_::_,_,⟨_,_,e,_,k⟩=>by rw[e,bt,bt,bF.length k]
def iZ.mem:∀{rs r},iZ rs->r∈rs->aD6 r
 |_::_,_,⟨h,k⟩,m=>by
  rcases bv.mp m with rfl|m
  ·exact h
  ·exact iZ.mem k m
def xG (h:r∈rs):∀q∈iR r,q∈dD rs:=by
 induction rs with
 |nil=>cases h
 |cons x rs ih =>
  intro q hq;rcases bv.mp h with rfl|m
  ·exact cj _ hq
  ·exact br _ (ih m q hq)
def bD6 (h:r∈rs):∀y∈eI [r],y∈eI rs:=fun y hy=>by
 unfold eI at hy ⊢;obtain⟨q,hq,hy⟩:=jf.mp hy;exact jf.mpr ⟨q,xG h q (by simpa [dD] using hq),hy⟩
def bM3 (h:eB H r):lV (V.str r.w) [V.str "tell",V.str "when",V.str "times"]= !r.sets.isSome:=by
 cases r with
 |thr p w x us am =>
  have hw:=h.2.w;have:w="ladder"\/w="flat"\/w="choose"\/w="first":=by simpa [cX] using hw
  rcases this with e|e|e|e<;>(show lV (V.str w) _=false;rw[e];decide)
 |lt p x t=>show lV (V.str "let") _=false;decide
 |tell p t=>show lV (V.str "tell") _=true;decide
 |when p pa pb t a b=>show lV (V.str "when") _=true;decide
 |times p pb n b=>show lV (V.str "times") _=true;decide
def aS9:∀{L T:List Key},L.Nodup->(∀x∈L,x∈T)->L.length<=T.length
 |[],_,_,_=>bu _
 |x::L,T,nd,h=>by
  obtain⟨h1,h2⟩:=de.mp nd;have hx:=h x ao;have a:=aS9 (L:=L) (T:=T.filter fun y=>decide (y≠x)) h2 fun y hy=>dk.mpr ⟨h y (aq _ hy),ag fun e=>h1 (by rw[<-e];exact hy)⟩
  have b:=(List.length_filter_lt_length_iff_exists (l:=T) (p:=fun y=>decide (y≠x))).mpr ⟨x,hx,by simp⟩;rw[bt];lia
def aY3 (ts):(tk ts).length=ts.length:=ac _
def cD8 (h:ts.Nodup):(dd (tk ts)).length=ts.length:=by
 rw[rD,aY3];unfold tk;rw[sv,zc];exact h.imp fun z q=>z (by injection q)
def pQ {ν:Str->Str}:∀{S:List Str},S.Nodup->(∀x∈S,∀y∈S,ν x=ν y->x=y)->(S.map ν).Nodup
 |[],_,_=>ou
 |x::S,nd,h=>by
  obtain⟨h1,h2⟩:=de.mp nd;rw[eo,de];refine⟨fun z=>?_,pQ h2 fun a ha b hb=>h a (aq _ ha) b (aq _ hb)⟩;obtain⟨y,hy,e⟩:=dj.mp z;exact h1 (h y (aq _ hy) x ao e ▸ hy)
def pH.stn (P:pH H p ks rs m)(x):x∈eF rs↔x∈eI rs:=by
 obtain⟨k2,h⟩:=P.sc;refine⟨bP1,fun z=>?_⟩;rcases h.clo.1 x z with e|e
 ·cases e
 ·exact e
def NmF (H:Hp)(d:Addr)(o:PySem.Obj)(S:List Str)(ν:Str->Str):Prop:=H d=some (.frz o (.dK (S.map fun x=>((Sum.inr x:Key),V.str (ν x)))))
def NmF.get (h:NmF H d o S ν)(hx:x∈S):fW H d (.str x) (some (.str (ν x))):= .inl ⟨_,Sum.inr x,.inr ⟨o,h⟩,rfl,by rw[qH,bb hx]⟩
def aT7 {S:List Str}{ν:Str->Str}{i:Nat}{k:Key}(h:(S.map fun x=>((Sum.inr x:Key),V.str (ν x)))[i]?=some (k,v)):∃x,S[i]?=some x/\k=Sum.inr x:=by
 rw[df] at h;obtain⟨x,hx,e⟩:=lq.mp h;injection e with e1 e2
 exact⟨x,hx,e1.symm⟩
inductive spNmR(vs:List V)(H:Hp)(Q:VK)(z1:XK):Prop
 |mk:∀(d p q:Addr) (S:List Str) (ν:Str->Str) (K1 K2:List Str) (rs1 rs2:List Rw) (m1 m2:Nat),vs=[.ref d,.ref p,.ref q]->zJ H d S ν->pH H p K1 rs1 m1->pH H q K2 rs2 m2->nY ν K1 K2 (eI rs1) (eI rs2)->((∀y,y∈S↔y∈eI rs2))->(∀H',eV d H H'->Q (.bl true) H')->spNmR vs H Q z1
inductive bA6(cR:Addr)(vs:List V)(H:Hp)(Q:VK)(z1:XK):Prop
 |mk:∀x,vs=[.ref x]->H x=some (XN x cR)->(∀H',bA H H'->Q (.bl true) H')->bA6 cR vs H Q z1
def cJ3 {σ:St}(h:σ.length=4):∃v0 v1 v2 v3,σ=[v0,v1,v2,v3]:=by
 match σ,h with
 |[a,b,c,d],_=>exact⟨a,b,c,d,rfl⟩
inductive aT0(Lw L:mV)(vs:List V)(H:Hp)(Q:VK)(z1:XK):Prop
 |mk:∀(p q:Addr) (K1 K2:List Str) (rs1 rs2:List Rw),vs=[.ref p,.ref q]->eA H Lw.P Lw.pos Lw.q->eA H L.P L.pos L.q->pH H p K1 rs1 1->pH H q K2 rs2 1->lO H (dD rs1)->lO H (dD rs2)->(((Fit K1 K2/\∀(r:Addr) (o1 o2:List Rw) (ν:Str->Str) (H':Hp),xU Lw L H H'->eA H' Lw.P Lw.pos Lw.q->eA H' L.P L.pos L.q->pH H' r (K1++K2) (o1++o2) 2->aW H' o1->aW H' o2->bF (dG H' [] (zs K2.length)) id rs1 o1->bF (dG H' (zs K1.length) []) ν rs2 o2->nY ν K1 K2 (eI rs1) (eI rs2)->Q (.ref r) H')\/(¬Fit K1 K2/\∀H',bA H H'->Q (.str "refused") H')))->aT0 Lw L vs H Q z1
inductive aX0(n:Nat)(vs:List V)(H:Hp)(Q:VK)(z1:XK):Prop
 |mk:∀(p a b:Addr) (rs:List Rw) (A B:List V),vs=[.ref p,.ref a,.ref b]->H p=some (.tup (bN rs))->aW H rs->jT rs<=n->bP rs<=900->lO H (dD rs)->H a=some (.tup A)->H b=some (.tup B)->A.length<=3->B.length<=3->(∀(q:Addr) (o:List Rw) (H':Hp),bA H H'->H' q=some (.tup (bN o))->aW H' o->bF (dG H' A B) id rs o->Q (.ref q) H')->aX0 n vs H Q z1
def aE9:Nat->Sp
 |0=>fun _ _ _ _=>False
 |n+1=>aX0 n
inductive spTwo(vs:List V)(H:Hp)(Q:VK)(z1:XK):Prop
 |mk:∀(d l kl ol:Addr) (ks os:List Str),vs=[.ref d,.ref kl,.ref ol,.int 3]->dY H d l->H kl=some (.lst (ks.map V.str))->kl≠l->1<=ks.length->ks.length<=3->H ol=some (.lst (os.map V.str))->ol≠l->1<=os.length->os.length<=3->(∀(r p q:Addr) (rs1 rs2:List Rw) (H':Hp),dY H' d l->fL d l H H'->H' r=some (.tup [.ref p,.ref q])->pH H' p ks rs1 1->pH H' q os rs2 1->lO H' (dD rs1)->lO H' (dD rs2)->Q (.ref r) H')->spTwo vs H Q z1
def eA.bar (h:eA H P pos q)(b:eV d H H')(e:H d=some (.dK kvs)):eA H' P pos q:=by
 have ne:∀{c:Addr}{u:HO},H c=some u->(∀k,u≠ .dK k)->H' c=some u:=fun {c u} hc n=>b _ _ hc fun z=>by
  rw[z,e] at hc;exact n kvs (cu hc).symm
 rcases h with h|⟨c,oc,vs,t,h1,h2,r⟩
 ·exact .inl (ne h fun k z=>by cases z)
 ·exact .inr ⟨c,oc,vs,t,ne h1 (fun k z=>by cases z),ne h2 (fun k z=>by cases z),r⟩
def qB (n:Nat):iB xs none (some (n))=xs.take n:=by
 show(xs.drop 0).take (HT.sIx xs.length xs.length (some (n:Int))-0)=_;rw[List.drop_zero,Nat.sub_zero,show HT.sIx xs.length xs.length (some (n:Int))=min n xs.length from HT.sIx_nat _ _ n]
 by_cases h:n<=xs.length
 ·rw[jz h]
 ·rw[zt (by lia),cg,ie (by lia)]
def xL (n:Nat):iB xs (some (n)) none=xs.drop n:=by
 show(xs.drop (HT.sIx xs.length 0 (some (n:Int)))).take (xs.length-HT.sIx xs.length 0 (some (n:Int)))=_;rw[show HT.sIx xs.length 0 (some (n:Int))=min n xs.length from HT.sIx_nat _ _ n]
 by_cases h:n<=xs.length
 ·rw[jz h,ie (by rw[ku];exact aj _)]
 ·rw[zt (by lia),List.drop_length,List.drop_of_length_le (by lia),List.take_nil]
def aF1 {ys zs}:iB (ys++zs) none (some (ys.length:Int))=ys:=by rw[qB,List.take_left]
def vQ {ys zs}:iB (ys++zs) (some (ys.length:Int)) none=zs:=by rw[xL,List.drop_left]
def bL4 {ys zs:List V}(h:1<=zs.length):¬(HT.sIx (ys++zs).length 0 none=0/\HT.sIx (ys++zs).length (ys++zs).length (some (ys.length:Int))=(ys++zs).length):=by
 rw[show HT.sIx (ys++zs).length (ys++zs).length (some (ys.length:Int))=min ys.length (ys++zs).length from HT.sIx_nat _ _ _,ah];lia
def aE5 {ys zs:List V}(h:1<=ys.length):¬(HT.sIx (ys++zs).length 0 (some (ys.length:Int))=0/\HT.sIx (ys++zs).length (ys++zs).length none=(ys++zs).length):=by
 rw[show HT.sIx (ys++zs).length 0 (some (ys.length:Int))=min ys.length (ys++zs).length from HT.sIx_nat _ _ _,ah];lia
def bD3 {ks:List Str}:∀u∈ks.map V.str,vS u:=fun u hu=>by
 obtain⟨x,_,rfl⟩:=dj.mp hu;exact oI _
def bA7 (h:1<=eS rs):1<=rs.length:=by
 cases rs with
 |nil=>exact absurd h (by decide)
 |cons r rs=>rw[bt];lia
def dQ (D:dY H d l)(e:H P=some (.tbl ps))(o:fL d l H H'):H' P=some (.tbl ps):=by
 obtain⟨sd,k,ls,z⟩:=D;exact o _ _ e (fun h=>by rw[h,z.dc] at e;cases e) (fun h=>by rw[h,z.lc] at e;cases e)
inductive nL(K:W.Frag)(Lw L:mV)(vs:List V)(H:Hp)(Q:VK)(z1:XK):Prop
 |mk:∀(a:Addr) (ns:List Int),vs=[.ref a]->bJ K H a (ns.map V.int)->ns.length<=63->H Lw.P=some (.tbl #[])->H L.P=some (.tbl #[])->(∀H',Q (.bl true) H')->nL K Lw L vs H Q z1
def bJ0:∀ks,¬ks.Nodup->(dd ks).length<ks.length:=by
 intro ks
 suffices h:∀(n:Nat) (ks:List Key),ks.length=n->¬ks.Nodup->(dd ks).length<ks.length from h _ ks rfl
 intro n
 induction n with
 |zero =>
  intro ks e h;rw[lv e] at h;exact absurd ou h
 |succ n ih =>
  intro ks e h;obtain⟨l,a,rfl⟩:∃l a,ks=l++[a]:=⟨ks.dropLast,ks.getLast (by intro z;rw[z] at e;cases e),(List.dropLast_concat_getLast _).symm⟩
  rw[ah] at e;have e:l.length=n:=by simpa using e
  rw[wU,ah];have dl:=aQ6 l
  by_cases c:l.Nodup
  ·have m:a∈l:=Classical.byContradiction fun m=>h (jp.mpr ⟨c,by simp,fun x hx y hy z=>m (by rw[List.mem_singleton.mp hy] at z;rw[<-z];exact hx)⟩)
   unfold tU;rw[bb (gR.mpr ((aZ4 l a).mpr m))];show(dd l).length<l.length+1;lia
  ·have:=ih l e c;unfold tU
   split
   ·show(dd l).length<l.length+1;lia
   ·rw[ah];show(dd l).length+1<l.length+1;lia
def tW {ks:List Str}(h:(ks.map (fun x=>(Sum.inr x:Key))).Nodup):ks.Nodup:=List.Pairwise.of_map (fun x=>(Sum.inr x:Key)) (fun a b z e=>z (by rw[e])) h
def xX (ks:List Str):decide (((dd (ks.map fun x=>(Sum.inr x:Key))).length:Int)<(ks.length:Int))= !decide ks.Nodup:=by
 by_cases h:ks.Nodup
 ·rw[rD (qY h),ac,ag h];simp
 ·have:=bJ0 (ks.map fun x=>(Sum.inr x:Key)) (fun z=>h (tW z));rw[ac] at this;rw[ba h,ag (by lia)];rfl
def sK:∀{as bs:List V},Paired R as bs->as.length=bs.length
 |_,_,.nil=>rfl
 |_,_,.cons _ t=>by rw[bt,bt,sK t]
def UDq.len (h:UDq H U)(w)(a b)(u:U w a b):b.length=a.length:=sK (h w a b u)
def Fit.comm (h:Fit K1 K2):Fit K2 K1:=⟨by have:=h.1;rw[ah] at this ⊢;lia,(List.perm_append_comm.nodup_iff).mp h.2⟩
def rX {v:V}(h:n=(A.length:Int)):nE (A++v::C) n=some v:=by
 subst h;unfold nE zK;rw[bb (by lia),bb (by rw[ah,bt];lia)];simp
def aH9 {v:V}(h:n=(A.length:Int)):¬(HT.sIx (A++v::C).length 0 none=0/\HT.sIx (A++v::C).length (A++v::C).length (some n)=(A++v::C).length):=by subst h;exact bL4 (by rw[bt];lia)
def aQ8 (h:n=(A.length:Int)):iB (A++v::C) none (some n)=A:=by subst h;exact aF1
def aW5 {v:V}:A++v::C=(A++[v])++C:=by simp
def uK {v:V}(h:n=(A.length:Int)+1):¬(HT.sIx (A++v::C).length 0 (some n)=0/\HT.sIx (A++v::C).length (A++v::C).length none=(A++v::C).length):=by
 rw[aW5,show n=((A++[v]).length:Int) from by rw[ah];exact h];exact aE5 (by rw[ah];exact Nat.le_add_left _ _)
def yD (h:n=(A.length:Int)+1):iB (A++v::C) (some n) none=C:=by
 rw[aW5,show n=((A++[v]).length:Int) from by rw[ah];exact h];exact vQ
def aX9 (h:w∈cX):(w="first"/\kM w=false/\plc w=5)\/(w="choose"/\kM w=false/\plc w=2)\/(kM w=true/\plc w=2):=by
 simp only[cX,List.mem_cons,List.not_mem_nil,or_false] at h;rcases h with rfl|rfl|rfl|rfl
 ·exact .inr (.inr (by decide))
 ·exact .inr (.inr (by decide))
 ·exact .inr (.inl (by decide))
 ·exact .inl (by decide)
def aX4:∀r,r∈iR r
 |.thr _ _ _ _ _=>ao
 |.lt _ _ _=>ao
 |.tell _ _=>ao
 |.when _ _ _ _ _ _=>ao
 |.times _ _ _ _=>ao
def uG (hA:H a=some (.tup A))(hB:H b=some (.tup B))(lA:A.length<=3)(lB:B.length<=3)(hs:H s=some (.tup ss))(ls:ss.length<=3)(oks:∀u∈ss,OkS H u)(k:∀ys G,bA H G->fM (kX G A B) ys ss->Kf ys G):mM (Itt K s) (rP 0) tYes (tOp rCatA (tOp rCatA (mC 2) (mC 0)) (mC 1)) Kf [none,some (.ref b),some (.ref a)] H:=by
 refine sO (K:=K) (a:=s) (xs:=ss) (fun i ys σ G=>bA H G/\(∃v,σ=[v,some (.ref b),some (.ref a)])/\fM (kX G A B) ys (ss.take i))
  (aJ (by lia)) ⟨bA.refl _,⟨_,rfl⟩,trivial⟩ (fun i ys σ G ⟨_,_,t⟩=>by rw[t.length,bx];lia) (by rintro i ys σ G _ ⟨sG,_⟩;exact aQ.of (sG _ _ hs)) ?_ ?_
 ·rintro i v ys σ G hv ⟨sG,⟨v',rfl⟩,tw⟩;obtain⟨u,rfl,ws,hu,lw,okw⟩:=oks v (bg hv);refine⟨_,rfl,_,rfl,a,u,_,_,rfl,rfl,sG _ _ hA,sG _ _ hu,bp (aJ (by lia)),fun c H2 s2 h2=>⟨_,rfl,c,b,_,_,rfl,rfl,h2,(sG.trans s2) _ _ hB,bp (aJ (by rw[ah];lia)),fun e H3 s3 h3=>?_⟩⟩;refine⟨sG.trans (s2.trans s3),⟨_,rfl⟩,?_⟩;rw[bE hv];exact nZ ⟨u,e,rfl,rfl,ws,(sG.trans (s2.trans s3)) _ _ hu,h3,lw,okw⟩ (tw.mono fun _ _ z=>z.ts (.of (s2.trans s3)))
 ·rintro ys σ G ⟨sG,_,tw⟩;rw[cg] at tw;exact k ys G sG tw
def wX (hi:σ[i]?=some (some (.ref p)))(hj:σ[j]?=some (some (.ref e)))(hp:H p=some (.tup (A++v::C)))(hn:n=(A.length:Int))(hm:m=(A.length:Int)+1)(hl:A.length+C.length<=990)(k:∀q G,bA H G->G q=some (.tup (A++ .ref e::C))->Q (.ref q) G):tOp rCatA (tOp rCatA (tSl (bF8 K) (mC i) tNoPart (aY8 (tC (.int n)))) (cB2 (kG (mC j) tNil))) (tSl (bF8 K) (mC i) (aY8 (tC (.int m))) tNoPart) σ H Q:=by
 refine⟨_,hi,_,rfl,p,_,rfl,aQ.of hp,aH9 hn,fun c hc=>?_⟩;rw[aQ8 hn];obtain⟨H4,e0,s4,h4⟩:=mZ hc (.tup A);rw[e0];clear e0;refine⟨_,hj,kL,fun t ht=>?_⟩;have s5:=aB ht (.tup [.ref e]);refine⟨c,t,_,_,rfl,rfl,s5 _ _ h4,aC,bp (aJ (by simp only[List.length_cons,List.length_nil];lia)),fun y H6 s6 h6=>?_⟩;have sB:=s4.trans (s5.trans s6);refine⟨_,hi,_,rfl,p,_,rfl,aQ.of (sB _ _ hp),uK hm,fun c7 hc7=>?_⟩;rw[yD hm];have s7:=aB hc7 (.tup C);refine⟨y,c7,_,_,rfl,rfl,s7 _ _ h6,aC,bp (aJ (by simp only[List.length_append,List.length_cons,List.length_nil];lia)),fun q H8 s8 h8=>?_⟩;exact k q H8 (sB.trans (s7.trans s8)) (by rw[h8];simp)
def aP3:∀{rs},r∈rs->r.cnt<=bP rs
 |q::rs,h=>by
  simp only[bP];rcases bv.mp h with rfl|h
  ·lia
  ·have:=aP3 h;lia
def bF.app:∀{rs qs rs2 qs2},bF U ν rs qs->bF U ν rs2 qs2->bF U ν (rs++rs2) (qs++qs2)
 |[],_,_,_,e,h=>by rw[show _=[] from e];exact h
 |r::rs,_,_,_,⟨q,qs,e,h,k⟩,h2=>⟨q,qs++_,by rw[e];rfl,h,k.app h2⟩
def bA8 {ws:List Str}(h1:a<=b)(h2:b<=ws.length):iB (ws.map V.str) (some (a)) (some (b))=((ws.drop a).take (b-a)).map V.str:=by
 show((ws.map V.str).drop (HT.sIx (ws.map V.str).length 0 (some (a:Int)))).take (HT.sIx (ws.map V.str).length (ws.map V.str).length (some (b:Int))-HT.sIx (ws.map V.str).length 0 (some (a:Int)))=_;rw[show HT.sIx (ws.map V.str).length 0 (some (a:Int))=min a (ws.map V.str).length from HT.sIx_nat _ _ a,show HT.sIx (ws.map V.str).length (ws.map V.str).length (some (b:Int))=min b (ws.map V.str).length from HT.sIx_nat _ _ b,ac,jz (by lia),jz (by lia),pq,xm]
def vA (h:xU Lw L H H')(a:eA H Lw.P Lw.pos Lw.q)(b:eA H L.P L.pos L.q)(e:H x=some (.lst xs)):H' x=some (.lst xs):=h x _ e fun m=>by
 simp only[List.mem_cons,List.not_mem_nil,or_false] at m;rcases m with m|m
 ·exact rK a e (fun ps z=>by cases z) m
 ·exact rK b e (fun ps z=>by cases z) m
def cF0 (z0:0<=z)(z1:z<4):∃w:Nat,nE [V.int 0,V.int 0,V.int 1,V.int 2] z=some (.int (w))/\w<=2:=by
 have:z=0\/z=1\/z=2\/z=3:=by lia
 rcases this with rfl|rfl|rfl|rfl
 ·exact⟨0,rfl,by decide⟩
 ·exact⟨0,rfl,by decide⟩
 ·exact⟨1,rfl,by decide⟩
 ·exact⟨2,rfl,by decide⟩
end Mine
namespace L2
open PySem PySem.Spec PyProof.Rows PySem.MeetsSeq
def aI8:fillsNumberSlot (.type "tuple") "mul"=pure false:=
 PySem.fillsNumberSlot_seq (id:="tuple.__mul__") (r:=some (.builtin "tuple.__rmul__")) PySem.F.slot_tuple_mul.lookup (by decide) PySem.F.slot_tuple_rmul.lookup (by decide)
def bI7:seqRepeat? (.type "tuple")=pure (some (.builtin "tuple.__mul__")):=by
 unfold seqRepeat?;rw[zu (T:="tuple") (name:="__mul__") (id:="tuple.__mul__") PySem.F.slot_tuple_mul.lookup (by decide)]
 try rw[zu (T:="tuple") (name:="__rmul__") (id:="tuple.__rmul__") PySem.F.slot_tuple_rmul.lookup (by decide)]
 rfl
def bB9 (a)(t)(l)(its)(n)(dd)(sl):
  Meets (Builtin.«int.__rmul__» ⟨[.int a t,.ref l],[]⟩) (fun _ R s=>s.heap.get? l=some { cls:= .type "tuple",dict:=dd,data:= .seq its n,slots:=sl }/\R (.ok (.ret Value.notImplemented)) s):=
 .of_wp fun prog w A R s h=>by
  obtain⟨hp,g,d,tk,os⟩:=s;obtain⟨hl,h⟩:=h
  wp_walk
  exact⟨_,rfl,h⟩
def aT1 (a)(t)(l)(v)(n)(dd)(sl)(h1:¬a < -(2^63))(h2:¬a ≥ 2^63)(h3:a=1):
  Meets (Builtin.«tuple.__mul__» ⟨[.ref l,.int a t],[]⟩) (fun _ R s=>s.heap.get? l=some { cls:= .type "tuple",dict:=dd,data:= .seq #[v] n,slots:=sl }/\R (.ok (.ret (.ref l))) s):=
 .of_wp fun prog w A R s h=>by
  obtain⟨hp,g,d,tk,os⟩:=s;obtain⟨hl,h⟩:=h;subst h3
  wp_walk using ii hl
  exact⟨_,rfl,h⟩
def aR5 (a)(t)(l)(v)(n)(dd)(sl)(h0:a<=0)(h1:¬a < -(2^63)):
  Meets (Builtin.«tuple.__mul__» ⟨[.ref l,.int a t],[]⟩) (fun _ R s=>s.heap.get? l=some { cls:= .type "tuple",dict:=dd,data:= .seq #[v] n,slots:=sl }/\R (.ok (.ret (.ref s.heap.objs.size))) { s with heap:=s.heap.push { cls:= .type "tuple",data:= .seq #[] } }):=
 .of_wp fun prog w A R s h=>by
  obtain⟨hp,g,d,tk,os⟩:=s;obtain⟨hl,h⟩:=h;have c1:¬(a < -(2^63) || a ≥ 2^63)=true:=by simp only[Bool.or_eq_true,decide_eq_true_eq];lia
  have c2:¬(#[v].isEmpty || a==1)=true:=by simp;lia
  have c3:(decide (a<=0) || #[v].isEmpty)=true:=by simp;lia
  wp_walk using ii hl
  rw[au c1]
  wp_walk using ii hl
  rw[au c2]
  wp_walk using ii hl
  exact⟨_,rfl,h⟩
def aO9 (a)(t)(l)(v)(n)(dd)(sl)(h0:2<=a)(h1:a<=1000):
  Meets (Builtin.«tuple.__mul__» ⟨[.ref l,.int a t],[]⟩) (fun _ R s=>s.heap.get? l=some { cls:= .type "tuple",dict:=dd,data:= .seq #[v] n,slots:=sl }/\R (.ok (.ret (.ref s.heap.objs.size))) { s with heap:=s.heap.push { cls:= .type "tuple",data:= .seq (List.replicate a.toNat v).toArray } }):=
 .of_wp fun prog w A R s h=>by
  obtain⟨hp,g,d,tk,os⟩:=s;obtain⟨hl,h⟩:=h;have c1:¬(a < -(2^63) || a ≥ 2^63)=true:=by simp only[Bool.or_eq_true,decide_eq_true_eq];lia
  have c2:¬(#[v].isEmpty || a==1)=true:=by simp;lia
  have c3:¬(decide (a<=0) || #[v].isEmpty)=true:=by simp;lia
  have c4:¬((#[v].size:Int)*a > (2^63-1) / 8):=by simp;lia
  have c5:¬Builtin.Tuple.tupleTooMany ((#[v].size:Int)*a)=true:=by
   unfold Builtin.Tuple.tupleTooMany;rw[lm];simp;lia
  have e0:List.foldl (fun x1 x2=>x1++x2) #[] (List.replicate a.toNat #[v])=(List.replicate a.toNat v).toArray:=by
   have:=uL [v] a.toNat [];rw[List.nil_append] at this;refine this.trans ?_
   congr 1
   generalize a.toNat=m
   induction m with
   |zero=>rfl
   |succ m ih=>rw[nq,nq,yw,ih];rfl
  have c6:¬((List.replicate a.toNat v).toArray.size > sizeLine):=by rw[lm];simp;lia
  wp_walk using ii hl
  rw[au c1]
  wp_walk using ii hl
  rw[au c2]
  wp_walk using ii hl
  rw[au c3]
  wp_walk using ii hl
  rw[au c4]
  wp_walk using ii hl
  rw[au c5]
  wp_walk using ii hl
  rw[e0,au c6]
  wp_walk
  exact⟨_,rfl,h⟩
def qF:jU X (binaryOp .Mult) (fun x y H Q=>∃(l:Addr) (k:Int) (u:V),x= .ref l/\y= .int k/\H l=some (.tup [u])/\ -1000<=k/\k<=1000/\∀p H',bA H H'->H' p=some (.tup (List.replicate k.toNat u))->Q (.ref p) H'):=by
 intro pins s σ H x y v u Q I rx ry h;obtain⟨l,k,w,rfl,rfl,hH,h1,h2,q⟩:=h
 cases rx
 obtain⟨t,rfl⟩:=ry;obtain⟨its,r,T,_⟩:=I.tuple (.inl (.inl hH));obtain⟨x1,rfl,r1⟩:=gP r;obtain⟨⟨cls,dd,data,sl⟩,ho,hc,n,hd⟩:=id T;simp only at hc hd;subst hc hd;have ty:s.TypeIs (.ref l) "tuple":=⟨_,ho,rfl⟩
 have new:∀m:Nat,m<=1000->k.toNat=m->EP X pins σ Q (.ref s.heap.objs.size) { s with heap:=s.heap.push { cls:= .type "tuple",data:= .seq (List.replicate m x1).toArray } }:=fun m hm e=>by
  have rr:bM (List.replicate m w) (List.replicate m x1):=by
   clear e hm
   induction m with
   |zero=>exact .nil
   |succ m ih=>exact .cons r1 ih
  refine⟨.ref _,_,I.laid (o:= .tup (List.replicate m w)) (t':=s.toks) (fun b o e=>af _ e) (aj _) (show bZ X.prog X.w _ _ _ (.tup (List.replicate m w)) from⟨by rw[ma,lm];lia,_,rr,jV.new _ _⟩),rfl,q _ _ (aB I.fresh _) ?_⟩;rw[e];exact aC
 refine wpAny_binaryOp_repeat_ref (T:="tuple") (U:="int") (by decide) ty (fun s'=>zz s' k t) aI8 F.fills_int_mul F.slot_int_rmul bI7 F.slot_int_index.lookup
  (mo F.slot_int_rmul (zz s k t) F.entry_int_rmul (F.args_int_rmul_2 _ _) (bB9 k t l #[x1] n dd sl) ⟨ho,rfl,ty,?_⟩)
 by_cases c1:k=1
 ·refine mo vd ty ug (sg _ _) (aT1 k t l x1 n dd sl (by lia) (by lia) c1) ⟨ho,⟨.ref l,H,I,rfl,q l H (bA.refl _) ?_⟩⟩;rw[c1];exact hH
 by_cases c2:k<=0
 ·exact mo vd ty ug (sg _ _) (aR5 k t l x1 n dd sl c2 (by lia)) ⟨ho,new 0 (by lia) (by lia)⟩
 ·exact mo vd ty ug (sg _ _) (aO9 k t l x1 n dd sl (by lia) h2) ⟨ho,new k.toNat (by lia) rfl⟩
end L2
namespace Mine
open PySem L2
def top (i:Nat):Stmt:=PySem.Challenge.pw_pairedthrows_k47_one_beside_another.main.body.getD i (.Pass ⟨0,0,0,0⟩)
abbrev cD2:Stmt:=top 11
abbrev cB6:Stmt:=top 12
abbrev bZ8:Stmt:=top 13
abbrev cE7:Stmt:=top 14
abbrev cD3:Stmt:=top 15
abbrev cA4:Stmt:=top 16
abbrev bZ9:Stmt:=top 17
abbrev cD9:Stmt:=top 18
abbrev bX6:Stmt:=top 19
abbrev bZ2:Stmt:=top 20
abbrev bY8:Stmt:=top 21
abbrev cE3:Stmt:=top 24
abbrev bZ3:Stmt:=top 25
abbrev cF2:Stmt:=top 26
abbrev bZ4:Stmt:=top 27
abbrev bX3:Stmt:=top 28
abbrev bY2:Stmt:=top 29
abbrev bY1:Stmt:=top 30
abbrev cA8:Stmt:=top 31
abbrev cB5:Stmt:=top 33
abbrev bZ5:Stmt:=top 38
abbrev cF7:Stmt:=top 40
abbrev bX9:Stmt:=top 41
abbrev cB3:Stmt:=top 42
abbrev cC7:Stmt:=top 43
abbrev bY7:Stmt:=top 44
abbrev aA9:Stmt:=top 45
abbrev bX2:Stmt:=top 46
abbrev zO:Stmt:=top 47
abbrev cC9:Stmt:=top 48
abbrev aW4:Stmt:=top 50
abbrev aQ9:Stmt:=top 51
abbrev bL8:Stmt:=top 52
abbrev aZ0:Stmt:=top 53
abbrev aX2:Stmt:=top 54
abbrev aW7:Stmt:=top 55
abbrev aS8:Stmt:=top 56
abbrev aW9:Stmt:=top 57
abbrev bK4:Stmt:=top 58
abbrev aU5:Stmt:=top 59
abbrev bC1:Stmt:=top 60
abbrev aM8:Stmt:=top 61
abbrev aQ4:Stmt:=top 62
abbrev aY0:Stmt:=top 63
abbrev cA1:Stmt:=top 64
abbrev cC5:Stmt:=top 65
abbrev cC3:Stmt:=top 66
abbrev cE4:Stmt:=top 67
abbrev cA3:Stmt:=top 68
abbrev cE1:Stmt:=top 69
abbrev aY1:Stmt:=top 70
abbrev bV1:Stmt:=top 71
abbrev bZ7:Stmt:=top 72
abbrev cB9:Stmt:=top 73
abbrev aN6:Stmt:=top 74
section
variable {P:Program}{w:World}{K:W.Frag}{mg:Str->Option Value}{base:Heap}
def xB:eO ["_law_deal_here","_law_many","_law_number","_law_one","_law_other"] ["_law_deal_here","_law_many"] (aL aQ9):=by refine⟨rfl,rfl,rfl,?_,rfl,?_,?_⟩<;>decide
def bE9 (F:nA K "_law_draw" "_law_draw" aQ9 f fd)(ml:mg "len"=none):lG P w K mg base pO 1 f fd ["_law_deal_here","_law_many"] spDraw:=by
 refine F.ok xB (fun vs H Q E h=>?_) (fun cdv A outer s H vs Q E hr h=>?_)
 ·obtain⟨d,l,m,rfl,_⟩:=h;rfl
 obtain⟨d,l,m,rfl,⟨sd,n,ls,D⟩,hm0,hm1,k⟩:=h;have hu:=gQ hr;refine⟨_,aF (jP jo (jZ (nK bO (jC hu (pv 0) aG (fun _ _=>rfl)) aD (pF _)) (kE (nK jB (iV aV (by rfl) ml ci (aA (jC hu (pv 0) aG (fun _ _=>rfl)) cJ)) aD (pF _)))).pt
   (aE (qJ hu (pv 0) aG (lM bj gj gm kW (jC hu (pv 0) aG (fun _ _=>rfl))) rfl)))
  (aF (gJ (i:=2) xB.nd rfl (fi rfl) (jC hu (pv 0) aG (fun _ _=>rfl)))
  (aF (bD (nK jB (pv 2) aD (pF _))
   (aF (qJ hu (pv 0) aG (aP nN (pv 2) (pv 1)) rfl) (aE (aO (aP iI (pv 2) (pv 1))))) aU)
  (aF (gJ (i:=3) xB.nd rfl (fi rfl) (aP iI (aP dF (aP iL (jC hu (pv 0) aG (fun _ _=>rfl)) aD) aD) aD))
  (aF (qJ hu (pv 0) aG (aP iI (aP dF (aP iL (pv 3) aD) aD) aD) rfl)
  (aF (gJ (i:=4) xB.nd rfl (fi rfl) (aP iI (aP iL (jC hu (pv 0) aG (fun _ _=>rfl)) (jC hu (pv 0) aG (fun _ _=>rfl))) aD))
  (aE (aO (aP iI (aP dF (aP iL (aP iI (aP iL (pv 3) (pv 3)) aD) aD) (pv 4)) (pv 1))))))))),?_⟩
 refine⟨fun j σ H1=>∃n' ls',σ=[some (.ref d),some (.int m),none,none,none]/\cN H1 d l sd n' ls'/\j=ls'.length/\fL d l H H1,⟨_,n,ls,rfl,D,rfl,fL.refl H⟩,?_⟩;rintro j σ H1 ⟨n',ls',rfl,D1,rfl,o1⟩;refine⟨_,rfl,d,_,rfl,D1.gn,rfl,_,rfl,?_⟩;refine mF (fun c=>?a) (fun c=>cI1 ?b)
 case' a=>refine⟨_,rfl,d,_,rfl,D1.gl,l,_,rfl,.inl (bJ.of D1.lc),_,_,rfl,rfl,_,rfl,?_⟩
 case' a=>refine mF (fun c2=>?loop) (fun c2=>?b2)
 case loop =>
   have hl:0<ls'.length:=by
    have:=ae c2
    simpa using this
   obtain⟨z,hz⟩:∃z,ls'[ls'.length-1]?=some z:=⟨ls'[ls'.length-1],by simp⟩
   have hz2:(ls'.map V.int)[(ls'.map V.int).length-1]?=some (.int z):=by rw[ac,df,hz];rfl
   have z0:0<=z:=D1.l0 z (bg hz);have D2:cN (aN H1 l (.lst (ls'.dropLast.map V.int))) d l sd n' ls'.dropLast:=D1.left fun x hx=>D1.l0 x (List.dropLast_subset _ hx)
   refine⟨fun σ' H'=>σ'=[some (.ref d),some (.int m),none,none,none]/\cN H' d l sd z ls'.dropLast/\fL d l H H',fun σ' H' q=>⟨_,by rw[ww];lia,z,ls'.dropLast,q.1,q.2.1,rfl,q.2.2⟩,?_⟩;refine⟨_,rfl,d,_,rfl,D1.gl,.inl ⟨rfl,_,bJ.of D1.lc⟩,l,_,_,rfl,rfl,D1.lc,hz2,?_⟩;have e:∀(o:List V),(ls'.map V.int).dropLast=o->aN H1 l (.lst (ls'.map V.int).dropLast)=aN H1 l (.lst o):=fun o e=>by rw[e]
   rw[e _ List.map_dropLast.symm];refine⟨_,rfl,d,_,rfl,D2.pn z,rfl,D2.number z0,o1.trans (fL.upd_l.trans fL.upd_d)⟩
 all_goals
  refine⟨_,rfl,d,_,rfl,D1.gn,?_⟩;refine⟨_,rfl,_,_,rfl,rfl,_,rfl,?_⟩;refine mF (fun c3=>?_) (fun c3=>?_)
  ·have hp:0<n':=ae c3;refine⟨_,rfl,_,rfl,_,_,rfl,rfl,⟨hm0,by lia⟩,_,rfl,d,_,rfl,D1.pn (n' / m),?_⟩;refine⟨_,rfl,_,rfl,_,_,rfl,rfl,hm0,?_⟩;exact k _ _ (lj _ (by lia)) (ll _ hm0) ⟨_,_,_,D1.number (Int.ediv_nonneg (by lia) (by lia))⟩ (o1.trans fL.upd_d)
  ·
   have q1:(0:Int)<2147483647:=by decide
   refine⟨_,rfl,d,_,rfl,D1.gs,_,_,rfl,rfl,.inr ⟨by decide,by decide⟩,_,_,rfl,rfl,_,_,rfl,rfl,q1,?_⟩;have q2:(0:Int)<2147483587:=by decide
   refine⟨_,rfl,_,_,rfl,rfl,.inr ⟨by decide,by decide⟩,_,_,rfl,rfl,_,_,rfl,rfl,q2,_,rfl,d,_,rfl,D1.ps _,?_⟩;have D2:=D1.seed (v:=((sd*48271+5003) % 2147483647*39373+60013) % 2147483587) (by lia) (by lia);have q3:(0:Int)<2147483549:=by decide
   have q4:(0:Int)<2147483563:=by decide
   refine⟨_,rfl,d,_,rfl,D2.gs,_,rfl,d,_,rfl,D2.gs,_,_,rfl,rfl,.inr ⟨by lia,by lia⟩,_,_,rfl,rfl,q3,?_⟩;refine⟨_,rfl,_,rfl,_,_,rfl,rfl,.inr ⟨by lia,by lia⟩,_,_,rfl,rfl,q4,_,_,rfl,rfl,.inr ⟨by decide,by decide⟩,_,rfl,_,_,rfl,rfl,_,rfl,_,_,rfl,rfl,hm0,?_⟩;exact k _ _ (lj _ (by lia)) (ll _ hm0) ⟨_,_,_,D2⟩ (o1.trans fL.upd_d)
end
def aA2 (x n)(l):iM [] (eY x n l)=eY x n l:=by
 unfold iM eY;simp only[List.foldl_cons,List.foldl_nil];have e1:dP ([]:List (Key×V)) (Sum.inr ("seed": Str)) (V.int x)=[(Sum.inr ("seed": Str),V.int x)]:=rfl;have e2:dP [(Sum.inr ("seed": Str),V.int x)] (Sum.inr ("number": Str):Key) (V.int n)=[(Sum.inr ("seed": Str),V.int x),(Sum.inr ("number": Str),V.int n)]:=rG _ (by rw[cE ksn,nQ]);have e3:dP [(Sum.inr ("seed": Str),V.int x),(Sum.inr ("number": Str),V.int n)] (Sum.inr ("left": Str):Key) (V.ref l)=[(Sum.inr ("seed": Str),V.int x),(Sum.inr ("number": Str),V.int n)]++[(Sum.inr ("left": Str),V.ref l)]:=rG _ (by rw[cE ksl,cE knl,nQ]);rw[e1,e2,e3];rfl
def aM6:(["_law_cell"]:List Str).Nodup:=by decide
def aT2 (ns:List Int)(lo hi):∃ms:List Int,iB (ns.map V.int) lo hi=ms.map V.int/\ms.length<=ns.length:=by
 refine⟨(ns.drop (HT.sIx ns.length 0 lo)).take (HT.sIx ns.length ns.length hi-HT.sIx ns.length 0 lo),?_,?_⟩
 ·unfold iB;rw[ac,pq,xm]
 ·rw[bx,ku];lia
section
variable {P:Program}{w:World}{K:W.Frag}{mg:Str->Option Value}{base:Heap}
def sY:eO ["_law_script","_law_base","_law_cells","_law_number","_law_cell"] ["_law_script","_law_base"] (aL aW4):=by refine⟨rfl,rfl,rfl,?_,rfl,?_,?_⟩<;>decide
def bF5 (F:nA K "_law_deal" "_law_deal" aW4 f fd)(mm:mg "max"=none)(mr:mg "reversed"=none)(ml:mg "list"=none):lG P w K mg base pO 1 f fd ["_law_script","_law_base"] (zZ K):=by
 refine F.ok sY (fun vs H Q E h=>?_) (fun cdv A outer s H vs Q E hr h=>?_)
 ·obtain⟨a,ns,b,rfl,_⟩:=h;rfl
 obtain⟨a,ns,b,rfl,hS,hlen,hb0,hb1,k⟩:=h;refine⟨_,aF (lZ ["_law_cell"] [none] (i:=2) sY.nd rfl (fi rfl) (dE (bK jA (pv 0) (bR (pv 1)) (bR aD)))
   (fun _ _ _ _=>qL (i:=0) aM6 rfl (fi rfl)) (fun _ _ _ _=>eE) (fun _ _ _ _=>iV (uQ rfl) (by rfl) mm wt (aA (pv 0) (aA (aP jW aD (pv 0)) cJ))))
  (aF (gJ (i:=3) sY.nd rfl (fi rfl) (aP dF aD (aP iL aD (pv 1))))
  (aF (aO6 jo rfl (dE (pv 2)) (qL (i:=4) sY.nd rfl (fi rfl))
   (aE (gJ (i:=3) sY.nd rfl (fi rfl) (aP iI (aP dF (aP dF (aP iL (pv 3) aD) (aP iI (pv 4) aD)) aD) aD))))
  (aE (aO (aG5 (fX aG (pv 3) (fX aG aD (fX aG (zS (cY ["_law_cell"] [none] (dE (pv 2))
   (fun _ _ _ _=>qL (i:=0) aM6 rfl (fi rfl)) (fun _ _ _ _=>lN (nK bA4 (pv 0) (aP bT3 aD aD) (pF _))) (fun _ _ _ _=>pv 0)) (by rfl) ml (by rfl) mr) aF8))) rfl rfl (by decide) (by decide)))))),?_⟩
 refine⟨_,rfl,_,rfl,_,rfl,_,rfl,a,_,rfl,hS,fun p1 np1=>?_⟩;obtain⟨ms,em,hms⟩:=aT2 ns (some b) (some 63);have g1:bA H (aN H p1 (.lst (iB (ns.map V.int) (some b) (some 63)))):=aB np1 _;have hp1:bJ K (aN H p1 (.lst (iB (ns.map V.int) (some b) (some 63)))) p1 (ms.map V.int):=by rw[em];exact bJ.of aC
 generalize aN H p1 (.lst (iB (ns.map V.int) (some b) (some 63)))=H1 at g1 hp1 ⊢;refine⟨p1,rfl,⟨_,hp1⟩,dJ (xs:=ms.map V.int) (fun i ys σ H2=>H2=H1/\(∃v,σ=[v])/\∃cs:List Int,ys=cs.map V.int/\cs.length=i/\∀x∈cs,0<=x)
  (by rw[ac];exact aJ (by lia)) ⟨rfl,⟨_,rfl⟩,[],rfl,rfl,fun _ z=>nomatch z⟩ (fun i ys σ H2 ⟨_,_,cs,e1,e2,_⟩=>by rw[e1,ac];lia) (fun i ys σ H2 _ ⟨e,_⟩=>by rw[e];exact hp1) ?_ ?_⟩
 ·rintro i x ys σ H2 hx ⟨rfl,⟨v,rfl⟩,cs,rfl,rfl,h0⟩;obtain⟨z,rfl,_⟩:=wL hx;refine⟨_,rfl,_,rfl,_,_,rfl,rfl,_,_,rfl,rfl,⟨_,rfl⟩,cs++[if 0-z > z then 0-z else z],by rw[av];rfl,by rw[ah];rfl,fun x hx=>?_⟩;rcases bq.mp hx with q|q
  ·exact h0 x q
  ·have e:x=if 0-z > z then 0-z else z:=by simpa using q
   rw[e];split<;>lia
 rintro ys σ H2 ⟨rfl,_,cs,rfl,hcs,h0⟩ p2 np2;have hm63:cs.length<=63:=by rw[ac] at hcs;lia
 have g2:bA H2 (aN H2 p2 (.lst (cs.map V.int))):=aB np2 _;have hp2:bJ K (aN H2 p2 (.lst (cs.map V.int))) p2 (cs.map V.int):=bJ.of aC;generalize aN H2 p2 (.lst (cs.map V.int))=H3 at g2 hp2 ⊢;refine⟨_,rfl,_,_,rfl,rfl,.inl ⟨by decide,by decide⟩,_,_,rfl,rfl,?_⟩;refine⟨_,rfl,p2,rfl,⟨_,hp2⟩,yK (K:=K) (a:=p2) (xs:=cs.map V.int) (fun i σ H4=>H4=H3/\∃(x:Int) (v:Option V),σ=[some (.ref a),some (.int b),some (.ref p2),some (.int x),v]/\0<=x/\x<2147483647)
  ⟨rfl,6271+11*b,none,rfl,by lia,by lia⟩ (fun i σ H4 _ ⟨e,_⟩=>by rw[e];exact hp2) ?_ ?_⟩
 ·rintro i y σ H4 hi ⟨rfl,x,v,rfl,x0,x1⟩;obtain⟨z,rfl,_⟩:=wL hi;have q1:(0:Int)<2147483579:=by decide
  have q2:(0:Int)<2147483647:=by decide
  refine⟨_,rfl,_,_,rfl,rfl,.inr ⟨by decide,by decide⟩,_,rfl,_,_,rfl,rfl,q1,_,_,rfl,rfl,_,_,rfl,rfl,_,_,rfl,rfl,q2,rfl,_,_,rfl,?_,?_⟩
  ·exact lj _ (by decide)
  ·exact ll _ q2
 rintro σ H4 ⟨rfl,x,v,rfl,x0,x1⟩;intro d nd;have g4:bA H4 (aN H4 d (.dK [])):=aB nd _;have hd4:aN H4 d (.dK []) d=some (.dK []):=aC;have hp4:=g4.seq hp2;refine⟨_,rfl,_,rfl,p2,rfl,⟨_,hp4⟩,?_⟩;generalize aN H4 d (.dK [])=H5 at g4 hd4 hp4 ⊢;refine dJ (xs:=cs.map V.int) (fun i ys σ H6=>H6=H5/\(∃v,σ=[v])/\∃ls:List Int,ys=ls.map V.int/\ls.length<=i/\∀x∈ls,0<=x)
  (by rw[ac];exact aJ (by lia)) ⟨rfl,⟨_,rfl⟩,[],rfl,aj _,fun _ z=>nomatch z⟩ (fun i ys σ H2 ⟨_,_,cs,e1,e2,_⟩=>by rw[e1,ac];lia) (fun i ys σ H2 _ ⟨e,_⟩=>by rw[e];exact hp4) ?_ ?_
 ·rintro i y ys σ H6 hy ⟨rfl,⟨v',rfl⟩,ls,rfl,hl,l0⟩;obtain⟨z,rfl,hz⟩:=wL hy;have z0:0<=z:=h0 z (bg hz);refine⟨_,rfl,_,_,rfl,rfl,⟨by decide,by decide,by decide⟩,_,_,rfl,rfl,_,rfl,?_⟩;refine mF (fun c=>?_) (fun c=>?_)
  ·refine⟨_,rfl,rfl,⟨_,rfl⟩,ls++[z],by rw[av];rfl,by rw[ah];show ls.length+1<=i+1;lia,fun x hx=>?_⟩;rcases bq.mp hx with q|q
   ·exact l0 x q
   ·have e:x=z:=by simpa using q
    rw[e];exact z0
  ·exact⟨rfl,⟨_,rfl⟩,ls,rfl,pe hl,l0⟩
 rintro ys σ H6 ⟨rfl,_,ls,rfl,hl,l0⟩ p3 np3;have g5:bA H6 (aN H6 p3 (.lst (ls.map V.int))):=aB np3 _;refine⟨p3,_,rfl,bJ.of aC,fun l nl=>?_⟩;generalize aN H6 p3 (.lst (ls.map V.int))=H7 at g5 nl ⊢;have g6:bA H7 (aN H7 l (.lst (ls.map V.int).reverse)):=aB nl _;have hd7:H7 d=some (.dK []):=g5 _ _ hd4;refine⟨g6 _ _ hd7,eY x 0 l,rfl,by show 3<=15;decide,?_⟩;have em:iM [] (eY x 0 l)=eY x 0 l:=aA2 _ _ _;have neld:l≠d:=fun z=>by rw[z] at nl;rw[nl] at hd7;cases hd7
 refine k d l _ ?_ ?_ ⟨x,0,ls.reverse,⟨by rw[em];exact aC,by rw[aH neld,aC,vf],x0,x1,ng 0,fun y hy=>l0 y (by simpa using hy)⟩⟩ ?_
 ·exact(g1.trans g2).free nd
 ·exact(g1.trans (g2.trans (g4.trans g5))).free nl
 ·intro c o e;rw[aH (aK e ((g1.trans g2).free nd))];exact(g1.trans (g2.trans (g4.trans (g5.trans g6)))) c o e
def bP4: gG P w K mg base "parts_of" "parts_of" bZ8 1 ["term"] spParts:=by
 refine iT ["term","parts","waiting","part"] fun H Q nd hr h=>?_
 obtain⟨t,rfl,ht,hz,k⟩:=h;have hu:=gQ hr;refine⟨_,(eQ 1 nd (cC cJ)
  (eQ 2 nd (cC (aR (pv 0)))
  (aF (jP jo (rZ (pv 2) (fun _=>rfl))
  (eQ 3 nd (lM bj gj gm kW (pv 2))
  (aF (cO (fG bj cy db cU (pv 1) (aR (pv 3))))
  (aE (bD (dZ bO (bQ aI (pv 3) aD) aG) (aE (cO (fG bj iu iw iG (pv 2) (aR (cC (aA (bQ aI (pv 3) aD) (aR (bQ aI (pv 3) aD)))))))) aU)))))
  (aE (aO (pv 1)))))),?_⟩
 refine⟨bu _,fun l1 hl1=>?_⟩;obtain⟨H1,e0,s1,h1⟩:=mZ hl1 (.lst []);rw[e0];clear e0;refine⟨_,rfl,kL,fun l2 hl2=>?_⟩;have n2:=s1.free hl2;have ne:l2≠l1:=(aK h1 hl2).symm;have s2:=s1.trans (aB hl2 (.lst [.ref t.p]));have h12:aN H1 l2 (.lst [.ref t.p]) l1=some (.lst []):=by rw[aH ne.symm];exact h1
 have h2:aN H1 l2 (.lst [.ref t.p]) l2=some (.lst [.ref t.p]):=aC;generalize aN H1 l2 (.lst [.ref t.p])=H2 at s2 h12 h2 ⊢;refine⟨fun m σ G=>∃(ps stk:List Tm) (v3:Option V),σ=[some (.ref t.p),some (.ref l1),some (.ref l2),v3]/\bA H G/\G l1=some (.lst (ps.map fun u=>V.ref u.p))/\G l2=some (.lst (stk.reverse.map fun u=>V.ref u.p))/\ps++stk.flatMap Tm.pre=t.pre/\(∀u∈stk,mE H u)/\m=(stk.flatMap Tm.pre).length,
  ⟨_,[],[t],none,rfl,s2,h12,h2,by simp,fun u hu=>by rw[List.mem_singleton.mp hu];exact ht,rfl⟩,?_⟩
 rintro m σ G ⟨ps,stk,v3,rfl,s3,g1,g2,eq,hs,rfl⟩;refine⟨_,rfl,_,.inl ⟨_,bJ.of g2,rfl⟩,?_⟩;have lt:=ej List.length eq;rw[ah,Tm.pre_len] at lt;have ls:stk.length<=(stk.flatMap Tm.pre).length:=aF9 stk
 cases stk with
 |nil =>
  refine aS (by simp) ?_;rw[List.flatMap_nil,gp] at eq;exact⟨_,rfl,k l1 G s3 hl1 (by rw[<-eq];exact g1)⟩
 |cons u bS =>
  refine bH (by simp) ?_;have hu:=hs u ao;have up:=u.size_pos;rw[ud,ah,Tm.pre_len] at lt;rw[bt,ud,ah,Tm.pre_len] at ls;refine⟨fun σ' G'=>∃(ps' stk':List Tm) (v3:Option V),σ'=[some (.ref t.p),some (.ref l1),some (.ref l2),v3]/\bA H G'/\G' l1=some (.lst (ps'.map fun u=>V.ref u.p))/\G' l2=some (.lst (stk'.reverse.map fun u=>V.ref u.p))/\ps'++stk'.flatMap Tm.pre=t.pre/\(∀u∈stk',mE H u)/\(stk'.flatMap Tm.pre).length+1=((u::bS).flatMap Tm.pre).length,
   (by rintro σ' G' ⟨ps',stk',v3',e1,e2,e3,e4,e5,e6,e7⟩;exact⟨_,by lia,ps',stk',v3',e1,e2,e3,e4,e5,e6,rfl⟩),?_⟩
  have er:(u::bS).reverse.map (fun u=>V.ref u.p)=bS.reverse.map (fun u=>V.ref u.p)++[V.ref u.p]:=by rw[dg,av];rfl
  rw[er] at g2;refine⟨_,rfl,.inl ⟨rfl,_,bJ.of g2⟩,l2,_,V.ref u.p,rfl,rfl,g2,by simp,?_⟩;rw[iz];have s4:=cH (ys:=bS.reverse.map fun u=>V.ref u.p) s3 n2;have g3:aN G l2 (.lst (bS.reverse.map fun u=>V.ref u.p)) l2=some (.lst (bS.reverse.map fun u=>V.ref u.p)):=aC;have g4:aN G l2 (.lst (bS.reverse.map fun u=>V.ref u.p)) l1=some (.lst (ps.map fun u=>V.ref u.p)):=by rw[aH ne.symm];exact g1
  generalize aN G l2 (.lst (bS.reverse.map fun u=>V.ref u.p))=G1 at s4 g3 g4 ⊢;refine⟨_,rfl,.inl ⟨rfl,_,bJ.of g4⟩,_,rfl,l1,_,_,rfl,rfl,g4,aJ (by rw[ac];lia),?_⟩;have s5:=cH (ys:=(ps++[u]).map fun u=>V.ref u.p) s4 hl1;have ea:(ps.map fun u=>V.ref u.p)++[V.ref u.p]=(ps++[u]).map fun u=>V.ref u.p:=by rw[av];rfl
  rw[ea];have g5:aN G1 l1 (.lst ((ps++[u]).map fun u=>V.ref u.p)) l1=some (.lst ((ps++[u]).map fun u=>V.ref u.p)):=aC;have g6:aN G1 l1 (.lst ((ps++[u]).map fun u=>V.ref u.p)) l2=some (.lst (bS.reverse.map fun u=>V.ref u.p)):=by rw[aH ne];exact g3
  generalize aN G1 l1 (.lst ((ps++[u]).map fun u=>V.ref u.p))=G2 at s5 g5 g6 ⊢;have hu5:=hu.ts (.of s5);refine⟨_,rfl,u.p,_,_,.str u.w,rfl,rfl,aQ.of hu5.at,iY,rfl,_,rfl,?_⟩
  cases u with
  |op p s a b =>
   refine bH (ag rfl) ?_;refine⟨_,rfl,.inl ⟨rfl,_,bJ.of g6⟩,_,rfl,p,_,_,.ref b.p,rfl,rfl,aQ.of hu5.1,rfl,_,rfl,p,_,_,.ref a.p,rfl,rfl,aQ.of hu5.1,rfl,eW,fun l3 hl3=>?_⟩;have s6:=s5.trans (aB hl3 (.lst [.ref b.p,.ref a.p]));have n31:l1≠l3:=aK g5 hl3;have n32:l2≠l3:=aK g6 hl3;have g7:aN G2 l3 (.lst [.ref b.p,.ref a.p]) l3=some (.lst [.ref b.p,.ref a.p]):=aC;have g8:aN G2 l3 (.lst [.ref b.p,.ref a.p]) l1=_:=(aH n31).trans g5;have g9:aN G2 l3 (.lst [.ref b.p,.ref a.p]) l2=_:=(aH n32).trans g6;generalize aN G2 l3 (.lst [.ref b.p,.ref a.p])=G3 at s6 g7 g8 g9 ⊢;refine⟨l2,l3,_,_,rfl,rfl,g9,g7,by rw[ac,eh];have:=aJ (n:=1000) (aj _);show bS.length+2<=_;lia,?_⟩;have ez:(bS.reverse.map fun u=>V.ref u.p)++[.ref b.p,.ref a.p]=(a::b::bS).reverse.map fun u=>V.ref u.p:=by simp
   rw[ez];refine⟨ps++[.op p s a b],a::b::bS,_,rfl,cH s6 n2,(aH ne.symm).trans g8,aC,?_,fun x hx=>?_,?_⟩
   ·rw[<-eq];simp[Tm.pre]
   ·rcases bv.mp hx with e|e
    ·rw[e];exact hu.2.1
    ·rcases bv.mp e with e|e
     ·rw[e];exact hu.2.2
     ·exact hs x (aq _ e)
   ·simp[Tm.pre]<;>lia
  |num p n =>
   refine aS (fun z=>cI8 (ae z)) ?_;refine⟨ps++[.num p n],bS,_,rfl,s5,g5,g6,?_,fun x hx=>hs x (aq _ hx),?_⟩
   ·rw[<-eq];simp[Tm.pre]
   ·simp[Tm.pre]<;>lia
  |nam p n =>
   refine aS (fun z=>cE2 (ae z)) ?_;refine⟨ps++[.nam p n],bS,_,rfl,s5,g5,g6,?_,fun x hx=>hs x (aq _ hx),?_⟩
   ·rw[<-eq];simp[Tm.pre]
   ·simp[Tm.pre]<;>lia
def bN0 (C_Prt:Cl P w K mg base 1 spParts "parts_of"):gG P w K mg base "names_in" "names_in" cE7 2 ["term"] spNamesIn:=by
 refine iT ["term"] fun H Q nd hr h=>?_
 obtain⟨t,rfl,ht,hz,k⟩:=h;have hu:=gQ hr;refine⟨_,(aE (aO (cY ["part"] [none] (dE (bW C_Prt hr (aR (pv 0)))) (fun _ _ _ _=>(fK 0)) (fun _ _ _ _=>(lN (dZ bO (bQ (pT K) (pv 0) aD) aG))) (fun _ _ _ _=>(bQ (pT K) (pv 0) aD))))),?_⟩;refine⟨_,rfl,t,rfl,ht,hz,fun r H1 s1 _ h1=>⟨r,rfl,⟨_,bJ.of h1⟩,?_⟩⟩;have pl:=Tm.pre_len t;refine dJ (K:=K) (a:=r) (xs:=t.pre.map fun u=>V.ref u.p) (fun i ys σ G=>G=H1/\(∃v,σ=[v])/\ys=((t.pre.take i).filterMap Tm.nm).map V.str)
  (hG (by rw[ac];lia)) ⟨rfl,⟨_,rfl⟩,rfl⟩ (fun i ys σ G ⟨_,_,e⟩=>by
   rw[e,ac];exact cm (gi _ _) (by rw[bx];lia)) (by rintro i ys σ G _ ⟨e,_⟩;rw[e];exact bJ.of h1) ?_ ?_
 ·rintro i v ys σ G hv ⟨rfl,⟨v',rfl⟩,rfl⟩;obtain⟨u,hu,rfl⟩:∃u,t.pre[i]?=some u/\v=V.ref u.p:=by
   rw[df] at hv
   cases e:t.pre[i]? with
   |none=>rw[e] at hv;cases hv
   |some u=>rw[e] at hv;exact⟨u,rfl,(cu hv).symm⟩
  have hU:=(mE.pre ht u (bg hu)).ts (.of s1);refine⟨_,rfl,u.p,_,_,.str u.w,rfl,rfl,aQ.of hU.at,iY,rfl,_,rfl,?_⟩;rw[bE hu,du,av]
  cases u with
  |nam p x=>exact bH (ag rfl) ⟨_,rfl,p,_,_,.str x,rfl,rfl,aQ.of hU,rfl,rfl,⟨_,rfl⟩,rfl⟩
  |num p n=>exact aS (fun z=>wMN (ae z)) ⟨rfl,⟨_,rfl⟩,by rw[iq (by rfl)];simp⟩
  |op p s a b=>exact aS (fun z=>wOM (ae z)) ⟨rfl,⟨_,rfl⟩,by rw[iq (by rfl)];simp⟩
 ·rintro ys σ G ⟨rfl,_,rfl⟩ l hl;rw[ac,cg,Tm.pre_names];exact k l _ (s1.trans (aB hl _)) aC
def bV6 (m_THROWS:mg "THROWS"=some (.ref cT))(hT:∀H,aQ K H cT (cX.map V.str)):gG P w K mg base "sets_name" "sets_name" cD3 1 ["row"] spSetsN:=by
 refine iT ["row"] fun H Q nd hr h=>?_
 obtain⟨r,rfl,hr0,k⟩:=h;refine⟨_,(aE (aO (aG4 (oK dN (bQ aI (pv 0) aD) (pgl m_THROWS)) (eG (oK bO (bQ aI (pv 0) aD) aG))))),?_⟩;rw[<-aU8 (eB.wd r hr0)] at k;refine⟨_,rfl,r.p,_,_,.str r.w,rfl,rfl,aQ.of hr0.at,iY,cT,_,rfl,.inr (hT _),rfl,cA _,_,rfl,?_⟩;have ei:lV (V.str r.w) (cX.map V.str)=decide (r.w∈cX):=dS _ _
 by_cases c:r.w∈cX
 ·refine bH (ei.trans (ag c)) ?_;rw[ag c] at k;exact k
 ·refine aS (fun z=>c (ae (ei.symm.trans z))) ?_;rw[ba c,xh] at k;refine⟨_,rfl,r.p,_,_,.str r.w,rfl,rfl,aQ.of hr0.at,iY,rfl,?_⟩;rw[show decide (V.str r.w=V.str "let")=decide (r.w="let") from by simp];exact k
def bR1 (C_NmI:Cl P w K mg base 2 spNamesIn "names_in"):gG P w K mg base "names_asked" "names_asked" cA4 3 ["row"] spAsked:=by
 refine iT ["row"] fun H Q nd hr h=>?_
 obtain⟨r,rfl,hr0,k⟩:=h;refine⟨_,(aF (bD (dZ bO (bQ aI (pv 0) aD) aG) (aE (aO (bW C_NmI hr (aR (bQ aI (pv 0) aD))))) aU)
  (aF (bD (dZ dN (bQ aI (pv 0) aD) (aY (aA aG (aR aG)))) (aE (aO (bW C_NmI hr (aR (bQ aI (pv 0) aD))))) aU)
  (aE (aO (cC cJ))))),?_⟩
 refine⟨_,rfl,r.p,_,_,.str r.w,rfl,rfl,aQ.of hr0.at,iY,rfl,_,rfl,?_⟩;generalize hP:r.p=P
 cases r with
 |lt p x t =>
  obtain rfl:p=P:=hP;refine bH (ag rfl) ?_;refine⟨_,rfl,p,_,_,.ref t.p,rfl,rfl,aQ.of hr0.1,rfl,t,rfl,hr0.2.1,by have:=hr0.2.2.2;lia,fun q H' s h=>k q H' s h⟩
 |tell p t =>
  obtain rfl:p=P:=hP;refine aS (fun z=>wTL (ae z)) ?_;refine⟨_,rfl,p,_,_,.str "tell",rfl,rfl,aQ.of hr0.1,rfl,eW,fun t2 ht2=>?_⟩;have s1:=aB ht2 (.tup [.str "tell",.str "when"]);refine⟨t2,[.str "tell",.str "when"],rfl,.inr (aQ.of aC),rfl,by decide,_,rfl,?_⟩;refine bH (by decide) ?_;exact⟨_,rfl,p,_,_,.ref t.p,rfl,rfl,aQ.of (s1 _ _ hr0.1),rfl,t,rfl,hr0.2.1.ts (.of s1),by have:=hr0.2.2.2;lia,fun q H' s h=>k q H' (s1.trans s) h⟩
 |when p pa pb t a b =>
  obtain rfl:p=P:=hP;refine aS (fun z=>wWL (ae z)) ?_;refine⟨_,rfl,p,_,_,.str "when",rfl,rfl,aQ.of hr0.1,rfl,eW,fun t2 ht2=>?_⟩;have s1:=aB ht2 (.tup [.str "tell",.str "when"]);refine⟨t2,[.str "tell",.str "when"],rfl,.inr (aQ.of aC),rfl,by decide,_,rfl,?_⟩;refine bH (by decide) ?_;exact⟨_,rfl,p,_,_,.ref t.p,rfl,rfl,aQ.of (s1 _ _ hr0.1),rfl,t,rfl,hr0.2.1.ts (.of s1),by have:=hr0.2.2.1.2;lia,fun q H' s h=>k q H' (s1.trans s) h⟩
 |times p pb n b =>
  obtain rfl:p=P:=hP;refine aS (fun z=>wML (ae z)) ?_;refine⟨_,rfl,p,_,_,.str "times",rfl,rfl,aQ.of hr0.1,rfl,eW,fun t2 ht2=>?_⟩;have s1:=aB ht2 (.tup [.str "tell",.str "when"]);refine⟨t2,[.str "tell",.str "when"],rfl,.inr (aQ.of aC),rfl,by decide,_,rfl,?_⟩;refine aS (by decide) ?_;exact⟨bu _,fun l hl=>k l _ (s1.trans (aB hl _)) aC⟩
 |thr p w x vs am =>
  obtain rfl:p=P:=hP;have hw:=hr0.2.w;refine aS (fun z=>aR9 hw (ae z)) ?_;refine⟨_,rfl,p,_,_,.str w,rfl,rfl,aQ.of hr0.1,iY,eW,fun t2 ht2=>?_⟩;have s1:=aB ht2 (.tup [.str "tell",.str "when"]);refine⟨t2,[.str "tell",.str "when"],rfl,.inr (aQ.of aC),rfl,by decide,_,rfl,?_⟩;refine aS (bV4 hw) ?_;exact⟨bu _,fun l hl=>k l _ (s1.trans (aB hl _)) aC⟩
def bW3: gG P w K mg base "as_steps" "as_steps" bZ9 1 ["rows"] spAsS:=by
 refine iT ["rows"] fun H Q nd hr h=>?_
 obtain⟨p,rs,rfl,hp,hl,k⟩:=h;refine⟨_,(aE (aO (cY ["row"] [none] (pA (pv 0)) (fun _ _ _ _=>(fK 0)) (fun _ _ _ _=>eE) (fun _ _ _ _=>(aY (aA aG (aR (pv 0)))))))),?_⟩;refine⟨_,rfl,p,rfl,⟨_,aQ.of hp⟩,sO (K:=K) (a:=p) (xs:=bN rs) (fun i zs σ G=>bA H G/\(∃v,σ=[v])/\fM (kN G) zs ((rs.take i).map fun r=>(("row": Str),r)))
  (by rw[bB];exact hG (by lia)) ⟨bA.refl _,⟨_,rfl⟩,trivial⟩ (by rintro i zs σ G ⟨_,_,e⟩;rw[e.length,ac,bx];lia) (by rintro i zs σ G _ ⟨e,_⟩;exact aQ.of (e _ _ hp)) ?_ ?_⟩
 ·rintro i v zs σ G hv ⟨s1,⟨v',rfl⟩,tw⟩;obtain⟨r,rfl,hr'⟩:=bH7 hv;refine⟨_,rfl,eW,fun t ht=>⟨s1.trans (aB ht _),⟨_,rfl⟩,?_⟩⟩;rw[bE hr',av];exact fM.append (tw.mono fun _ _ z=>kN.ts (.of (aB ht _)) z) ⟨⟨t,rfl,aC⟩,trivial⟩
 ·rintro zs σ G ⟨s1,_,tw⟩ l hl';rw[bB,cg] at tw;exact k l zs _ (s1.trans (aB hl' _)) aC (tw.mono fun _ _ z=>kN.ts (.of (aB hl' _)) z)
def bN9 (C_AsS:Cl P w K mg base 1 spAsS "as_steps"):gG P w K mg base "inner_steps" "inner_steps" cD9 2 ["row"] spInner:=by
 refine iT ["row"] fun H Q nd hr h=>?_
 obtain⟨r,rfl,hr0,hc,k⟩:=h;refine⟨_,(aF (bD (dZ bO (bQ aI (pv 0) aD) aG) (aE (aO (aP fR (aP fR (aP fR (bW C_AsS hr (aR (bQ aI (pv 0) aD))) (cC (aR (aY (aA aG (aR (pv 0))))))) (bW C_AsS hr (aR (bQ aI (pv 0) aD)))) (cC (aR (aY (aA aG (aR (pv 0))))))))) aU)
  (aF (bD (dZ bO (bQ aI (pv 0) aD) aG) (aE (aO (aP fR (bW C_AsS hr (aR (bQ aI (pv 0) aD))) (cC (aR (aY (aA aG (aR (pv 0))))))))) aU)
  (aE (aO (cC cJ))))),?_⟩
 refine⟨_,rfl,r.p,_,_,.str r.w,rfl,rfl,aQ.of hr0.at,iY,rfl,_,rfl,?_⟩;have ln:=gE r.kids;have ck:=aQ3 r;generalize hP:r.p=P
 cases r with
 |when p pa pb t a b =>
  obtain rfl:p=P:=hP;refine bH (ag rfl) ?_;have la:a.length+b.length<=4000:=by simp only[Rw.kids,List.length_append] at ln ck;lia
  obtain⟨hp,_,_,ha,hb,ra,rb⟩:=id hr0;refine⟨_,rfl,p,_,_,.ref pa,rfl,rfl,aQ.of hp,rfl,pa,a,rfl,ha,by lia,fun r1 z1 H1 s1 h1 t1=>?_⟩;refine⟨_,rfl,eW,fun t2 ht2=>⟨kL,fun l2 hl2=>?_⟩⟩;have s2:=(aB ht2 (.tup [.str "else",.ref p])).trans (aB hl2 (.lst [.ref t2]));have h2:aN (aN H1 t2 (.tup [.str "else",.ref p])) l2 (.lst [.ref t2]) l2=some (.lst [.ref t2]):=aC;have e2:kN (aN (aN H1 t2 (.tup [.str "else",.ref p])) l2 (.lst [.ref t2])) (.ref t2) (("else": Str),Rw.when p pa pb t a b):=⟨t2,rfl,(aB hl2 _) _ _ aC⟩
  generalize aN (aN H1 t2 (.tup [.str "else",.ref p])) l2 (.lst [.ref t2])=H2 at s2 h2 e2 ⊢;have l1:=t1.length;rw[ac] at l1;refine⟨r1,l2,_,_,rfl,rfl,s2 _ _ h1,h2,bp (hG (by rw[l1];show a.length+1<=9000000;lia)),fun l3 hl3=>?_⟩;have s3:=s2.trans (aB hl3 (.lst (z1++[.ref t2])));have h3:aN H2 l3 (.lst (z1++[.ref t2])) l3=some (.lst (z1++[.ref t2])):=aC;have t3:fM (kN (aN H2 l3 (.lst (z1++[.ref t2])))) (z1++[.ref t2]) (a.map (fun r=>(("row": Str),r))++[(("else": Str),Rw.when p pa pb t a b)]):=fM.append (t1.mono fun _ _ z=>kN.ts (.of s3) z) ⟨e2.ts (.of (aB hl3 _)),trivial⟩;generalize aN H2 l3 (.lst (z1++[.ref t2]))=H3 at s3 h3 t3 ⊢;have g3:=s1.trans s3;refine⟨_,rfl,p,_,_,.ref pb,rfl,rfl,aQ.of (g3 _ _ hp),rfl,pb,b,rfl,g3 _ _ hb,by lia,fun r4 z4 H4 s4 h4 t4=>?_⟩;have l4:=t4.length;rw[ac] at l4;refine⟨l3,r4,_,_,rfl,rfl,s4 _ _ h3,h4,bp (hG (by simp only[List.length_append,List.length_cons,List.length_nil,l1,l4];lia)),fun l5 hl5=>?_⟩
  have s5:=s4.trans (aB hl5 (.lst (z1++[.ref t2]++z4)));have h5:aN H4 l5 (.lst (z1++[.ref t2]++z4)) l5=some (.lst (z1++[.ref t2]++z4)):=aC;have t5:=fM.append (t3.mono fun _ _ z=>kN.ts (.of s5) z) (t4.mono fun _ _ z=>kN.ts (.of (aB hl5 (.lst (z1++[.ref t2]++z4)))) z);generalize aN H4 l5 (.lst (z1++[.ref t2]++z4))=H5 at s5 h5 t5 ⊢;refine⟨_,rfl,eW,fun t6 ht6=>⟨kL,fun l6 hl6=>?_⟩⟩;have s6:=(aB ht6 (.tup [.str "end",.ref p])).trans (aB hl6 (.lst [.ref t6]));have h6:aN (aN H5 t6 (.tup [.str "end",.ref p])) l6 (.lst [.ref t6]) l6=some (.lst [.ref t6]):=aC;have e6:kN (aN (aN H5 t6 (.tup [.str "end",.ref p])) l6 (.lst [.ref t6])) (.ref t6) (("end": Str),Rw.when p pa pb t a b):=⟨t6,rfl,(aB hl6 _) _ _ aC⟩
  generalize aN (aN H5 t6 (.tup [.str "end",.ref p])) l6 (.lst [.ref t6])=H6 at s6 h6 e6 ⊢;refine⟨l5,l6,_,_,rfl,rfl,s6 _ _ h5,h6,bp (hG (by simp only[List.length_append,List.length_cons,List.length_nil];lia)),fun l7 hl7=>?_⟩;refine k l7 _ _ (g3.trans (s5.trans (s6.trans (aB hl7 _)))) aC ?_;exact fM.append (t5.mono fun _ _ z=>kN.ts (.of (s6.trans (aB hl7 _))) z) ⟨e6.ts (.of (aB hl7 _)),trivial⟩
 |times p pb n b =>
  obtain rfl:p=P:=hP;refine aS (fun z=>wTW (ae z)) ?_;refine⟨_,rfl,p,_,_,.str "times",rfl,rfl,aQ.of hr0.at,iY,rfl,_,rfl,?_⟩;refine bH (ag rfl) ?_;have la:b.length<=4000:=by simp only[Rw.kids] at ln ck;lia
  obtain⟨hp,hb,rb⟩:=id hr0;refine⟨_,rfl,p,_,_,.ref pb,rfl,rfl,aQ.of hp,rfl,pb,b,rfl,hb,by lia,fun r1 z1 H1 s1 h1 t1=>?_⟩;refine⟨_,rfl,eW,fun t2 ht2=>⟨kL,fun l2 hl2=>?_⟩⟩;have s2:=(aB ht2 (.tup [.str "end",.ref p])).trans (aB hl2 (.lst [.ref t2]));have h2:aN (aN H1 t2 (.tup [.str "end",.ref p])) l2 (.lst [.ref t2]) l2=some (.lst [.ref t2]):=aC;have e2:kN (aN (aN H1 t2 (.tup [.str "end",.ref p])) l2 (.lst [.ref t2])) (.ref t2) (("end": Str),Rw.times p pb n b):=⟨t2,rfl,(aB hl2 _) _ _ aC⟩
  generalize aN (aN H1 t2 (.tup [.str "end",.ref p])) l2 (.lst [.ref t2])=H2 at s2 h2 e2 ⊢;have l1:=t1.length;rw[ac] at l1;refine⟨r1,l2,_,_,rfl,rfl,s2 _ _ h1,h2,bp (hG (by rw[l1];show b.length+1<=9000000;lia)),fun l3 hl3=>?_⟩;refine k l3 _ _ (s1.trans (s2.trans (aB hl3 _))) aC ?_;exact fM.append (t1.mono fun _ _ z=>kN.ts (.of (s2.trans (aB hl3 _))) z) ⟨e2.ts (.of (aB hl3 _)),trivial⟩
 |thr p w x vs am =>
  obtain rfl:p=P:=hP;have hw:=hr0.2.w;refine aS (fun z=>aP8 hw (ae z)) ?_;refine⟨_,rfl,p,_,_,.str w,rfl,rfl,aQ.of hr0.at,iY,rfl,_,rfl,?_⟩;refine aS (fun z=>bT2 hw (ae z)) ?_;exact⟨bu _,fun l hl=>k l [] _ (aB hl _) aC trivial⟩
 |lt p x t =>
  obtain rfl:p=P:=hP;refine aS (fun z=>wLW (ae z)) ?_;refine⟨_,rfl,p,_,_,.str "let",rfl,rfl,aQ.of hr0.at,iY,rfl,_,rfl,?_⟩;refine aS (fun z=>wLT (ae z)) ?_;exact⟨bu _,fun l hl=>k l [] _ (aB hl _) aC trivial⟩
 |tell p t =>
  obtain rfl:p=P:=hP;refine aS (fun z=>wEW (ae z)) ?_;refine⟨_,rfl,p,_,_,.str "tell",rfl,rfl,aQ.of hr0.at,iY,rfl,_,rfl,?_⟩;refine aS (fun z=>wET (ae z)) ?_;exact⟨bu _,fun l hl=>k l [] _ (aB hl _) aC trivial⟩
def bO4: gG P w K mg base "has_one_sum" "has_one_sum" cD2 1 ["sort"] spHs1:=by
 refine iT ["sort"] fun H Q nd hr h=>?_
 obtain⟨z,rfl,k⟩:=h;refine⟨_,(aE (aO (oK dN (pv 0) (aY (aA aG (aR aG)))))),?_⟩;refine⟨_,rfl,eW,fun t ht=>⟨t,[.str "ladder",.str "flat"],rfl,.inr (aQ.of aC),rfl,cA ["ladder","flat"],k _ (aB ht _)⟩⟩
def bN3: gG P w K mg base "place_of_sums" "place_of_sums" cB6 1 ["sort"] spPlc:=by
 refine iT ["sort"] fun H Q nd hr h=>?_
 obtain⟨z,rfl,k⟩:=h;refine⟨_,(aE (aO (aV6 (dZ bO (pv 0) aG) aD aD))),?_⟩;refine⟨_,rfl,rfl,_,rfl,?_⟩;unfold plc at k
 by_cases c:z="first"
 ·rw[bb c] at k;exact bH (by rw[c];exact ag rfl) k
 ·rw[au c] at k;exact aS (fun z=>c (by have z:=ae z;injection z)) k
def bO5 (m_THROWS:mg "THROWS"=some (.ref cT))(hT:∀H,aQ K H cT (cX.map V.str))(C_Plc:Cl P w K mg base 1 spPlc "place_of_sums")(C_Hs1:Cl P w K mg base 1 spHs1 "has_one_sum")(m_tuple:mg "tuple"=none):gG P w K mg base "widened_row" "widened_row" bX2 103 ["row","first_ones","last_ones"] spWdR:=by
 refine iT ["row","first_ones","last_ones","place","asked"] fun H Q nd hr h=>?_
 obtain⟨r,a,b,A,B,rfl,hr0,hu0,hA,hB,lA,lB,k⟩:=h;have hu:=gQ hr;refine⟨_,(aF (bD (dZ hV (bQ aI (pv 0) aD) (pgl m_THROWS)) (aE (aO (pv 0))) aU)
  (eQ 3 nd (bW C_Plc hr (aR (bQ aI (pv 0) aD)))
  (aF (gD (bD (fJ (bW C_Hs1 hr (aR (bQ aI (pv 0) aD)))) (aE (pW 4 nd (aP bU (aP bU (pv 1) (bQ aI (pv 0) (pv 3))) (pv 2)))) (aE (pW 4 nd (oR bT m_tuple cq (aR (cY ["weights","last_ones","first_ones"] [none,some 2,some 1] (pA (bQ aI (pv 0) (pv 3))) (fun _ _ _ _=>(fK 0)) (fun _ _ _ _=>eE) (fun _ _ _ _=>(aP bU (aP bU (pv 2) (pv 0)) (pv 1))))))))))
  (aE (aO (aP bU (aP bU (bK eJ (pv 0) bV (bR (pv 3))) (aY (aR (pv 4)))) (bK eJ (pv 0) (bR (aP dF (pv 3) aD)) bV))))))),?_⟩
 refine⟨_,rfl,r.p,_,_,.str r.w,rfl,rfl,aQ.of hr0.at,iY,cT,_,rfl,.inr (hT _),rfl,cA _,_,rfl,?_⟩;generalize hP:r.p=P0;have ei:∀w:Str,lV (V.str w) (cX.map V.str)=decide (w∈cX):=fun w=>dS _ _
 cases r with
 |lt p x t =>
  obtain rfl:p=P0:=hP;exact bH (by rw[show(Rw.lt p x t).w="let" from rfl,ei];decide) ⟨_,rfl,k (.lt p x t) H (bA.refl _) hr0 rfl⟩
 |tell p t =>
  obtain rfl:p=P0:=hP;exact bH (by rw[show(Rw.tell p t).w="tell" from rfl,ei];decide) ⟨_,rfl,k (.tell p t) H (bA.refl _) hr0 rfl⟩
 |when p pa pb t c d =>
  obtain rfl:p=P0:=hP;exact bH (by rw[show(Rw.when p pa pb t c d).w="when" from rfl,ei];decide) ⟨_,rfl,k (.when p pa pb t c d) H (bA.refl _) hr0 rfl⟩
 |times p pb n d =>
  obtain rfl:p=P0:=hP;exact bH (by rw[show(Rw.times p pb n d).w="times" from rfl,ei];decide) ⟨_,rfl,k (.times p pb n d) H (bA.refl _) hr0 rfl⟩
 |thr p w x us am =>
  obtain rfl:p=P0:=hP;have hw:=hr0.2.w;obtain⟨pre,s,post,eu,hl,ok1,ok2,hs⟩:=hu0;refine aS (by rw[show(Rw.thr p w x us am).w=w from rfl,ei,ag hw];decide) ?_;have hp0:H p=some (.tup ((.str w :: .str x::pre)++ .ref s::post)):=by rw[hr0.1,eu];rfl
  have en:((plc w:Nat):Int)=(((.str w :: .str x::pre):List V).length:Int):=by rw[<-hl];rfl
  refine⟨_,rfl,p,_,_,.str w,rfl,rfl,aQ.of hr0.1,iY,w,rfl,?_⟩;refine⟨fun σ' G=>∃e:Addr,σ'=[some (.ref p),some (.ref a),some (.ref b),some (.int (plc w)),some (.ref e)]/\bA H G/\yS G A B (kM w) s e,?_,?_⟩
  ·refine⟨_,rfl,p,_,_,.str w,rfl,rfl,aQ.of hr0.1,iY,w,rfl,fun H1 s1=>⟨_,rfl,?_⟩⟩;have hp1:=s1 _ _ hp0
   cases o:kM w with
   |true =>
    rw[o] at hs;obtain⟨ws,hs,lw,okw⟩:=hs;refine bH rfl ⟨_,rfl,_,rfl,_,rfl,p,_,_,.ref s,rfl,rfl,aQ.of hp1,rX en,a,s,_,_,rfl,rfl,s1 _ _ hA,s1 _ _ hs,bp (aJ (by lia)),fun c H2 s2 h2=>⟨_,rfl,c,b,_,_,rfl,rfl,h2,s2 _ _ (s1 _ _ hB),bp (aJ (by rw[ah];lia)),fun e H3 s3 h3=>?_⟩⟩;exact⟨e,rfl,s1.trans (s2.trans s3),ws,(s1.trans (s2.trans s3)) _ _ hs,h3,lw,okw⟩
   |false =>
    rw[o] at hs;obtain⟨ss,hs,ls,oks⟩:=hs;refine aS (by decide) ⟨_,rfl,_,rfl,p,_,_,.ref s,rfl,rfl,aQ.of hp1,rX en,s,rfl,⟨_,aQ.of (s1 _ _ hs)⟩,sO (K:=K) (a:=s) (xs:=ss) (fun i ys σ G=>bA H1 G/\(∃v,σ=[v,some (.ref b),some (.ref a)])/\fM (kX G A B) ys (ss.take i))
     (aJ (by lia)) ⟨bA.refl _,⟨_,rfl⟩,trivial⟩ (by rintro i ys σ G ⟨_,_,t⟩;rw[t.length,bx];lia) (by rintro i ys σ G _ ⟨sG,_⟩;exact aQ.of (sG _ _ (s1 _ _ hs))) ?_ ?_⟩
    ·rintro i v ys σ G hv ⟨sG,⟨v',rfl⟩,tw⟩;obtain⟨u,rfl,ws,hu,lw,okw⟩:=oks v (bg hv);have sA:=s1.trans sG;refine⟨_,rfl,_,rfl,a,u,_,_,rfl,rfl,sA _ _ hA,sA _ _ hu,bp (aJ (by lia)),fun c H2 s2 h2=>⟨_,rfl,c,b,_,_,rfl,rfl,h2,(sA.trans s2) _ _ hB,bp (aJ (by rw[ah];lia)),fun e H3 s3 h3=>?_⟩⟩;refine⟨sG.trans (s2.trans s3),⟨_,rfl⟩,?_⟩;rw[bE hv];exact nZ ⟨u,e,rfl,rfl,ws,(sA.trans (s2.trans s3)) _ _ hu,h3,lw,okw⟩ (tw.mono fun _ _ z=>z.ts (.of (s2.trans s3)))
    ·rintro ys σ G ⟨sG,_,tw⟩ lx hlx;rw[cg] at tw;refine⟨lx,ys,rfl,.inl ⟨bJ.of aC,fun e he=>?_⟩⟩;have s2:=(aB hlx (.lst ys)).trans (aB he (.tup ys));have sA:=s1.trans (sG.trans s2);exact⟨e,rfl,sA,ss,ys,sA _ _ hs,aC,ls,tw.mono fun _ _ z=>z.ts (.of s2)⟩
  rintro σ' G ⟨e,rfl,sG,wid⟩;have hpG:=sG _ _ hp0;refine⟨_,rfl,_,rfl,_,rfl,p,_,rfl,aQ.of hpG,aH9 en,fun c4 hc4=>?_⟩;rw[aQ8 en];obtain⟨H4,e0,s4,h4⟩:=mZ hc4 (.tup (.str w :: .str x::pre));rw[e0];clear e0;have hw2:dG H4 A B w us (pre++ .ref e::post):=⟨pre,s,e,post,eu,rfl,hl,ok1,ok2,wid.ts (.of s4)⟩
  have lr:=ej List.length eu;have l8:=qG hr0.2;rw[ah,bt] at lr;refine⟨_,rfl,kL,fun t5 ht5=>?_⟩;have s5:=aB ht5 (.tup [.ref e]);refine⟨c4,t5,_,_,rfl,rfl,s5 _ _ h4,aC,bp (aJ (by simp only[List.length_cons,List.length_nil];lia)),fun y6 H6 s6 h6=>?_⟩;have sB:=s5.trans s6;refine⟨_,rfl,_,rfl,_,_,rfl,rfl,_,rfl,p,_,rfl,aQ.of (sB _ _ (s4 _ _ hpG)),uK (by rw[en]),fun c7 hc7=>?_⟩;rw[yD (by rw[en])];have s7:=aB hc7 (.tup post);refine⟨y6,c7,_,_,rfl,rfl,s7 _ _ h6,aC,bp (aJ (by simp only[List.length_append,List.length_cons,List.length_nil];lia)),fun q H8 s8 h8=>?_⟩;have sC:=sB.trans (s7.trans s8);have hw3:=hw2.ts (.of sC);refine k (.thr q w x (pre++ .ref e::post) am) H8 (sG.trans (s4.trans sC)) ⟨by rw[h8];simp,dG.thr lA lB (hr0.2.ts (.of (sG.trans (s4.trans sC)))) hw3⟩ ⟨q,_,rfl,hw3⟩
def bB7 (Pw:Addr):mV:=⟨Pw,bZ1 zO,"widened.<locals>.<lambda>"⟩
def bM5 (C_WdR:Cl P w K mg base 103 spWdR "widened_row"):wT P w K mg base 103 where
 ar:=(cB0 zO).getD ⟨[],[],none,[],[],none,[]⟩
 body:=cF1 zO
 sc:=bH8 zO
 p1:="row"
 p2:="number"
 cn:=["first_ones","last_ones"]
 te:=bQ5 (kG (pP spWdR [] E0 (kG (mC 0) (kG (mC 2) (kG (mC 3) tNil)))) tNil)
 S:=⟨rfl,rfl,rfl,by decide,by decide,by decide,by decide,by decide⟩
 hb:=by intros;rfl
 h:=fun qual f c cl A outer s H hr=>cC (aR (bW C_WdR hr (aA (pv 0) (aA (pv 2) (aR (pv 3))))))
def bR0 (C_Rbl:ClZ P w K mg base 105 103 spRb "rebuilt")(C_WdR:Cl P w K mg base 103 spWdR "widened_row")(B:tX base mg c Pw):aN9 P w K mg base "widened" "widened" zO 106 ["rows","first_ones","last_ones"] c (bC0 (bB7 Pw)):=by
 refine cC2 ["rows","first_ones","last_ones"] (fun H Q nd hr h=>?_) (by intro _ _ _ _ h;first|(cases h;subst_vars;rfl)|((repeat obtain⟨_,h⟩:=h);subst_vars;rfl));obtain⟨p,a,b,rs,A,B',rfl,hT,hp,hR,hc,hU,hA,hB,lA,lB,k⟩:=h;have key:∀y∈(bH8 zO).names,y.2= .free->y.1="first_ones"\/y.1="last_ones":=by decide
 refine⟨_,(aE (aO (cB1 C_Rbl (bM5 C_WdR) hr (aA (pv 0) (aR (aY6 B rfl fun y hy hf=> .inl (by rcases key y hy hf with e|e<;>(rw[e];rfl))))) fun y hy hf=>by rcases key y hy hf with e|e<;>(rw[e];rfl)))),?_⟩;obtain⟨ps,eP⟩:=hT.is;have eP:H Pw=some (.tbl ps):=eP;refine⟨_,rfl,hT,fun f' c' H1 hT1 o1 hf hL=>?_⟩;have t1:TS H H1:=o1.ts eP;refine⟨f',c',_,[("first_ones",.ref a),("last_ones",.ref b)],rfl,hL,rfl,fun y hy=>?_,p,f',rs,fun G=>aB7 (dG G A B'),UsR,rfl,t1 _ _ hp,aW.ts t1 rs hR,hc,fun G G' n r o t h=>h.mono (fun w a b=>dG.ts t w a b),fun q hq G t=>(hU q hq).ts (t1.trans t),fun _ _ _ _ _ _ _=>trivial,fun _ _ _ _ _=>trivial,fun r n G W sG hrG hu next=>?_,fun q o H' s' hq ho ro=>?_⟩
 ·simp only[List.mem_cons,List.not_mem_nil,or_false] at hy;rcases hy with rfl|rfl
  ·exact⟨1,rfl,rfl⟩
  ·exact⟨2,rfl,rfl⟩
 ·refine⟨_,rfl,_,rfl,_,rfl,r,a,b,A,B',rfl,hrG,hu,sG _ _ (t1 _ _ hA),sG _ _ (t1 _ _ hB),lA,lB,fun q G1 s1 hq r1=>⟨kL,fun l hl=>?_⟩⟩;have s2:=aB hl (.lst [.ref q.p]);exact next l [q] _ (s1.trans s2) aC ⟨eB.ts (.of s2) _ hq,trivial⟩ (aB7.mono (fun w a b=>dG.ts (.of s2) w a b) n r [q] ⟨q,rfl,r1⟩) (aj _)
 ·exact k q o H' (o1.trans (kJ.of s')) (hT1.same s') hq ho (lC rs 0 ro)
def bQ9 (hne:Lw.P≠L.P)(m_MOST_KINDS:mg "MOST_KINDS"=some (.int 3 tM))(m_NoFit:mg "NoFit"=some (.ref cF))(M_NoFit:XMk K cF D none)(C_Wid:Cl P w K mg base 106 (bC0 Lw) "widened")(C_Ren:Cl P w K mg base 106 (aO3 L) "renamed")(C_NwN:Cl P w K mg base 6 spNewN "new_names")(m_len:mg "len"=none)(m_set:mg "set"=none):bT9 P w K mg base "beside" "beside" cC9 108 ["one","other"] (aS7 cF Lw L):=by
 refine cJ5 ["one","other","kinds","rows","other_rows"] (fun H Q nd hr h=>?_) (by rintro _ _ _ _ ⟨_,_,_,_,_,_,rfl,_⟩;rfl);obtain⟨p,q,K1,K2,rs1,rs2,rfl,hT,hT2,P1,P2,u1,u2,way⟩:=h;have hr1:dL 1 _:=hr.mono (by decide);refine⟨_,(eQ 2 nd (aP bU (bQ aI (pv 0) aD) (bQ aI (pv 1) aD))
  (aF (bD (eM (PW.pt (jG (dZ jB (iF aV m_len ci (aR (pv 2))) (dR (v:= .int 3) (by rfl) m_MOST_KINDS ⟨_,rfl⟩)) (jF (dZ kU (iF (oZ P w) m_len ci (aR (oR (oW P w hr1) m_set mf (aR (pv 2))))) (iF aV m_len ci (aR (pv 2)))))))) (aE (aK6 (by rfl) m_NoFit M_NoFit)) aU)
  (eQ 3 nd (bW C_Wid hr (aA (bQ aI (pv 0) aD) (aA (aY cJ) (aR (aP qF (aY (aR aD)) (iF aV m_len ci (aR (bQ aI (pv 1) aD))))))))
  (eQ 4 nd (bW C_Wid hr (aA (bQ aI (pv 1) aD) (aA (aP qF (aY (aR aD)) (iF aV m_len ci (aR (bQ aI (pv 0) aD)))) (aR (aY cJ)))))
  (aE (aO (aY (aA (pv 2) (aR (aP bU (pv 3) (bW C_Ren hr (aA (pv 4) (aR (bW C_NwN hr (aA (pv 0) (aR (pv 1))))))))))))))))),?_⟩
 obtain⟨pk,pr,hp,hpk,hpr⟩:=P1.ex;obtain⟨qk,qr,hq,hqk,hqr⟩:=P2.ex;have kk1:=P1.k3;have kk2:=P2.k3;have c1:=P1.cnt;have c2:=P2.cnt;refine⟨_,rfl,p,_,_,.ref pk,rfl,rfl,aQ.of hp,rfl,_,rfl,q,_,_,.ref qk,rfl,rfl,aQ.of hq,rfl,pk,qk,_,_,rfl,rfl,hpk,hqk,bp (aJ (by rw[ac,ac];lia)),fun kk H1 s1 h1=>?_⟩;rw[<-av] at h1;refine⟨fun b G=>(b=true↔¬Fit K1 K2)/\bA H1 G,?_,?_⟩
 ·refine⟨_,rfl,kk,_,rfl,.inr (aQ.of h1),_,_,rfl,rfl,_,rfl,?_⟩;rw[ac];refine mF (fun c=>⟨⟨fun _ z=>by have:=z.1;have:=ae c;lia,fun _=>rfl⟩,bA.refl _⟩) (fun c=>?_);have c:(K1++K2).length<=3:=by
   have:¬((K1++K2).length:Int) > 3:=fun z=>c (ag z)
   lia
  have em:(K1++K2).map V.str=((K1++K2).map fun x=>(Sum.inr x:Key)).map kV:=by rw[jn];rfl
  refine⟨_,rfl,kk,(K1++K2).map (fun x=>(Sum.inr x:Key)),rfl,by rw[<-em];exact aQ.of h1,by rw[ac];lia,fun a ha=>?_⟩;have s2:=aB ha (qZ P w a ((K1++K2).map fun x=>(Sum.inr x:Key)));refine⟨a,_,rfl,aC,_,rfl,kk,_,rfl,.inr (aQ.of (s2 _ _ h1)),_,_,rfl,rfl,_,rfl,?_⟩;show(_↔_)/\_;rw[ac,xX];refine⟨⟨fun z F=>?_,fun z=>?_⟩,s2⟩
  ·rw[ag F.2] at z;cases z
  ·rw[ba fun nd=>z ⟨c,nd⟩];rfl
 rintro b G ⟨hb,sG⟩;have s01:=s1.trans sG;have hkG:=sG _ _ h1;rcases way with⟨F,k⟩|⟨nF,k⟩
 rotate_left
 ·obtain rfl:=hb.mpr nF;exact bH rfl (k _ s01)
 obtain rfl:b=false:=by
  cases b with
  |true=>exact absurd F (hb.mp rfl)
  |false=>rfl
 refine aS (by decide) ?_;clear hb s1 sG h1;refine⟨_,rfl,p,_,_,.ref pr,rfl,rfl,aQ.of (s01 _ _ hp),rfl,by show 0<=sizeLine;decide,fun a ha=>⟨kL,fun z1 hz1=>?_⟩⟩;have sa:=aB ha (.tup []);have sz:=aB hz1 (.tup [.int 0]);have sA:=s01.trans (sa.trans sz);have ga:=sz _ _ (show aN G a (.tup []) a=some (.tup []) from aC);have gz:aN (aN G a (.tup [])) z1 (.tup [.int 0]) z1=some (.tup [.int 0]):=aC;have hkA:=(sa.trans sz) _ _ hkG;generalize aN (aN G a (.tup [])) z1 (.tup [.int 0])=H3 at sA ga gz hkA ⊢;refine⟨_,rfl,q,_,_,.ref qk,rfl,rfl,aQ.of (sA _ _ hq),rfl,qk,_,rfl,.inr (aQ.of (sA _ _ hqk)),z1,_,_,rfl,rfl,gz,by lia,by rw[ac];lia,fun b H4 s4 h4=>?_⟩;have h4:H4 b=some (.tup (zs K2.length)):=by rw[ac] at h4;exact h4
 have s04:=sA.trans s4;have hT4:=hT.same s04;have hT24:=hT2.same s04;refine⟨pr,a,b,rs1,[],zs K2.length,rfl,hT4,s04 _ _ hpr,aW.ts (.of s04) _ P1.rows,by lia,u1.ts (.of s04),s4 _ _ ga,h4,by decide,by rw[xE];lia,fun w1 o1 H5 o5 hT5 h5 r5 R1=>?_⟩;obtain⟨ps4,eP4⟩:=hT4.is;have t5:TS H H5:=(TS.of s04).trans (o5.ts eP4);have hT25:=sX hT24 hT4 hne.symm o5;have hk5:=(o5.ts eP4) _ _ (s4 _ _ hkA);have off5:xU Lw L H H5:=(eZ.of s04).trans (bB6 o5);clear hT4 hT24 s04 sA sa sz ga gz hkA h4 s4 o5 s01 hkG;refine⟨_,rfl,q,_,_,.ref qr,rfl,rfl,aQ.of (t5 _ _ hq),rfl,kL,fun z2 hz2=>?_⟩;obtain⟨H6,e0,sz,gz⟩:=mZ hz2 (.tup [.int 0]);rw[e0];clear e0;have t6:=t5.trans (.of sz);refine⟨_,rfl,p,_,_,.ref pk,rfl,rfl,aQ.of (t6 _ _ hp),rfl,pk,_,rfl,.inr (aQ.of (t6 _ _ hpk)),z2,_,_,rfl,rfl,gz,by lia,by rw[ac];lia,fun b2 H7 s7 h7=>⟨by show 0<=sizeLine;decide,fun a2 ha2=>?_⟩⟩;have h7:H7 b2=some (.tup (zs K1.length)):=by rw[ac] at h7;exact h7
 have sa:=aB ha2 (.tup []);have ga:aN H7 a2 (.tup []) a2=some (.tup []):=aC;have h8:=sa _ _ h7;generalize aN H7 a2 (.tup [])=H8 at sa ga h8 ⊢;have s58:=sz.trans (s7.trans sa);have t8:=t5.trans (.of s58);have hT8:=hT5.same s58;have hT28:=hT25.same s58;refine⟨qr,b2,a2,rs2,zs K1.length,[],rfl,hT8,t8 _ _ hqr,aW.ts t8 _ P2.rows,by lia,u2.ts t8,h8,ga,by rw[xE];lia,by decide,fun w2 o2 H9 o9 hT9 h9 r9 R2=>?_⟩;obtain⟨ps8,eP8⟩:=hT8.is;have t59:TS H5 H9:=(TS.of s58).trans (o9.ts eP8);have t9:=t5.trans t59;have hT29:=sX hT28 hT8 hne.symm o9;have off9:xU Lw L H H9:=(off5.trans (eZ.of s58)).trans (bB6 o9);clear hT8 hT28 s58 sz sa ga gz h7 h8 s7 o9;refine⟨_,rfl,_,rfl,_,rfl,_,rfl,_,rfl,p,q,K1,K2,rs1,rs2,1,1,rfl,P1.ts t9,P2.ts t9,by decide,fun d as H10 s10 f10 hD nu=>?_⟩;have cr2:=R2.cnt;have cr1:=R1.cnt;refine⟨w2,d,o2,as,rfl,hT29.same s10,s10 _ _ h9,aW.ts (.of s10) _ r9,by lia,hD,fun t o3 H11 o11 hT11 ht ho R=>?_⟩
 obtain⟨ps10,eP10⟩:=(hT29.same s10).is;have t911:TS H9 H11:=(TS.of s10).trans (o11.ts eP10);have cr3:=R.cnt;have l1:=gE o1;have l3:=gE o3;refine⟨w1,t,_,_,rfl,rfl,(t59.trans t911) _ _ h5,ht,by rw[bB,bB];exact bp (aJ (by lia)),fun u H12 s12 h12=>⟨eW,fun r hr'=>?_⟩⟩;rw[<-dO] at h12;have s13:=aB hr' (.tup [.ref kk,.ref u]);have sB:=s12.trans s13;have tC:TS H9 (aN H12 r (.tup [.ref kk,.ref u])):=t911.trans (.of sB);have tB:=t59.trans tC;have ho':=aW.ts (.of sB) _ ho;have r5':=aW.ts tB _ r5;have R1':=R1.mono (fun w a b=>dG.ts tB w a b);have R2':=(R2.mono (fun w a b=>dG.ts tC w a b)).comp R;have off10:=bV7 (Lw:=Lw) o11;exact k r o1 o3 _ _ (((off9.trans (eZ.of s10)).trans off10).trans (eZ.of sB)) ((sX (hT9.same s10) (hT29.same s10) hne o11).same sB) (hT11.same sB) (pH.beside ((P1.ts t9).ts tC) ((P2.ts t9).ts tC) F R1' R2' aC (tB _ _ hk5) (s13 _ _ h12) r5' ho') r5' ho' R1' R2' nu
def bQ1 (n)(C_Wde:Cl P w K mg base (n+1) (aE9 n) "_law_wide")(m_tuple:mg "tuple"=none):gG P w K mg base "_law_wide" "_law_wide" cB9 (n+1+1) ["_law_rows_here","_law_ahead","_law_later"] (aE9 (n+1)):=by
 refine iT ["_law_rows_here","_law_ahead","_law_later","_law_found","_law_row_here","_law_some"] fun H Q nd hr h=>?_
 obtain⟨p,a,b,rs,A,B,rfl,hp,hR,hd,hc,hU,hA,hB,lA,lB,k⟩:=h;refine⟨_,(eQ 3 nd (cC cJ)
  (aF (pfr (pA (pv 0)) (fK 4 nd)
  (aF (gD (bD (dZ dN (bQ aI (pv 4) aD) (aY (aA aG (aR aG)))) (eQ 5 nd (aP bU (aP bU (pv 1) (bQ aI (pv 4) aD)) (pv 2))
  (aE (pW 4 nd (aP bU (aP bU (bK eJ (pv 4) bV (bR aD)) (aY (aR (pv 5)))) (bK eJ (pv 4) (bR aD) bV))))) (aE (bD (dZ bO (bQ aI (pv 4) aD) aG) (eQ 5 nd (oR bT m_tuple cq (aR (cY ["_law_one","_law_later","_law_ahead"] [none,some 2,some 1] (pA (bQ aI (pv 4) aD)) (fun _ _ _ _=>(fK 0)) (fun _ _ _ _=>eE) (fun _ _ _ _=>(aP bU (aP bU (pv 2) (pv 0)) (pv 1))))))
  (aE (pW 4 nd (aP bU (aP bU (bK eJ (pv 4) bV (bR aD)) (aY (aR (pv 5)))) (bK eJ (pv 4) (bR aD) bV))))) (aE (bD (dZ bO (bQ aI (pv 4) aD) aG) (eQ 5 nd (oR bT m_tuple cq (aR (cY ["_law_one","_law_later","_law_ahead"] [none,some 2,some 1] (pA (bQ aI (pv 4) aD)) (fun _ _ _ _=>(fK 0)) (fun _ _ _ _=>eE) (fun _ _ _ _=>(aP bU (aP bU (pv 2) (pv 0)) (pv 1))))))
  (aE (pW 4 nd (aP bU (aP bU (bK eJ (pv 4) bV (bR aD)) (aY (aR (pv 5)))) (bK eJ (pv 4) (bR aD) bV))))) (aE (bD (dZ bO (bQ aI (pv 4) aD) aG) (eQ 5 nd (bW C_Wde hr (aA (bQ aI (pv 4) aD) (aA (pv 1) (aR (pv 2)))))
  (aE (pW 4 nd (aP bU (bK eJ (pv 4) bV (bR aD)) (aY (aA (pv 5) (aR (bW C_Wde hr (aA (bQ aI (pv 4) aD) (aA (pv 1) (aR (pv 2)))))))))))) (aE (bD (dZ bO (bQ aI (pv 4) aD) aG) (aE (pW 4 nd (aP bU (bK eJ (pv 4) bV (bR aD)) (aY (aR (bW C_Wde hr (aA (bQ aI (pv 4) aD) (aA (pv 1) (aR (pv 2)))))))))) aU))))))))))
  (aE (cO (fG bj cy db cU (pv 3) (aR (pv 4)))))))
  (aE (aO (oR bT m_tuple cq (aR (pv 3))))))),?_⟩
 refine⟨bu _,fun lo hlo=>?_⟩;obtain⟨H1,e0,s1,g1⟩:=mZ hlo (.lst []);rw[e0];clear e0;have t1:∀{G:Hp},eV lo H1 G->TS H G:=fun {G} b q ys e=>b q _ (s1 _ _ e) (fun z=>by rw[z,hlo] at e;cases e)
 refine⟨_,rfl,p,rfl,⟨_,aQ.of (s1 _ _ hp)⟩,zI (K:=K) (a:=p) (xs:=bN rs) (fun i σ G=>∃(o:List Rw) (v4 v5:Option V),σ=[some (.ref p),some (.ref a),some (.ref b),some (.ref lo),v4,v5]/\eV lo H1 G/\G lo=some (.lst (bN o))/\aW G o/\bF (dG G A B) id (rs.take i) o)
  ⟨[],_,_,rfl,eV.refl,g1,trivial,rfl⟩ (by rintro i σ G _ ⟨_,_,_,_,b,_⟩;exact aQ.of (t1 b _ _ hp)) ?_ ?_⟩
 ·rintro D' i v σ G hv ⟨o,v4,v5,rfl,b1,g2,ho,R⟩;obtain⟨r,hr0,rfl⟩:=mR hv;have hm:=bg hr0;have tH:=t1 b1;have hrr:=aW.mem (aW.ts tH rs hR) r hm;have hur:=(hU r (xG hm r (aX4 r))).ts tH;have hdr:r.dp<=n:=cm (xF hm) hd;have hcr:=aP3 hm;have hsub:=xG hm;refine⟨fun σ' G'=>∃(q:Rw) (v5:Option V),σ'=[some (.ref p),some (.ref a),some (.ref b),some (.ref lo),some (.ref q.p),v5]/\bA G G'/\eB G' q/\dI (dG G' A B) id r q,?_,?_⟩
  ·refine⟨_,rfl,r.p,_,_,.str r.w,rfl,rfl,aQ.of hrr.at,iY,eW,fun t2 ht2=>?_⟩;have s2:=aB ht2 (.tup [.str "ladder",.str "flat"]);refine⟨t2,[.str "ladder",.str "flat"],rfl,.inr (aQ.of aC),rfl,by decide,_,rfl,?_⟩;generalize aN G t2 (.tup [.str "ladder",.str "flat"])=G2 at s2 ⊢;have hrr:=eB.ts (.of s2) _ hrr;have hur:=hur.ts (.of s2);have hA2:=s2 _ _ (tH _ _ hA);have hB2:=s2 _ _ (tH _ _ hB);have tH2:=tH.trans (.of s2);generalize hP:r.p=Pp
   cases r with
   |lt p0 x t =>
    obtain rfl:p0=Pp:=hP;exact aS (show ¬(lV (V.str "let") [V.str "ladder",V.str "flat"])=true by decide) ⟨_,rfl,p0,_,_,.str "let",rfl,rfl,aQ.of hrr.1,rfl,rfl,_,rfl,aS (fun z=>(show ¬(V.str "let"=V.str "choose") by decide) (ae z)) ⟨_,rfl,p0,_,_,.str "let",rfl,rfl,aQ.of hrr.1,rfl,rfl,_,rfl,aS (fun z=>(show ¬(V.str "let"=V.str "first") by decide) (ae z)) ⟨_,rfl,p0,_,_,.str "let",rfl,rfl,aQ.of hrr.1,rfl,rfl,_,rfl,aS (fun z=>(show ¬(V.str "let"=V.str "when") by decide) (ae z)) ⟨_,rfl,p0,_,_,.str "let",rfl,rfl,aQ.of hrr.1,rfl,rfl,_,rfl,aS (fun z=>(show ¬(V.str "let"=V.str "times") by decide) (ae z)) ⟨.lt p0 x t,_,rfl,s2,hrr,p0,t,rfl,dH.idn t⟩⟩⟩⟩⟩
   |tell p0 t =>
    obtain rfl:p0=Pp:=hP;exact aS (show ¬(lV (V.str "tell") [V.str "ladder",V.str "flat"])=true by decide) ⟨_,rfl,p0,_,_,.str "tell",rfl,rfl,aQ.of hrr.1,rfl,rfl,_,rfl,aS (fun z=>(show ¬(V.str "tell"=V.str "choose") by decide) (ae z)) ⟨_,rfl,p0,_,_,.str "tell",rfl,rfl,aQ.of hrr.1,rfl,rfl,_,rfl,aS (fun z=>(show ¬(V.str "tell"=V.str "first") by decide) (ae z)) ⟨_,rfl,p0,_,_,.str "tell",rfl,rfl,aQ.of hrr.1,rfl,rfl,_,rfl,aS (fun z=>(show ¬(V.str "tell"=V.str "when") by decide) (ae z)) ⟨_,rfl,p0,_,_,.str "tell",rfl,rfl,aQ.of hrr.1,rfl,rfl,_,rfl,aS (fun z=>(show ¬(V.str "tell"=V.str "times") by decide) (ae z)) ⟨.tell p0 t,_,rfl,s2,hrr,p0,t,rfl,dH.idn t⟩⟩⟩⟩⟩
   |when p0 pa pb t c d =>
    obtain rfl:p0=Pp:=hP;simp only[Rw.dp] at hdr;simp only[Rw.cnt] at hcr
    cases n with
    |zero=>exact absurd hdr (by lia)
    |succ n =>
    refine aS (show ¬(lV (V.str "when") [V.str "ladder",V.str "flat"])=true by decide) ⟨_,rfl,p0,_,_,.str "when",rfl,rfl,aQ.of hrr.1,rfl,rfl,_,rfl,aS (fun z=>(show ¬(V.str "when"=V.str "choose") by decide) (ae z)) ⟨_,rfl,p0,_,_,.str "when",rfl,rfl,aQ.of hrr.1,rfl,rfl,_,rfl,aS (fun z=>(show ¬(V.str "when"=V.str "first") by decide) (ae z)) ⟨_,rfl,p0,_,_,.str "when",rfl,rfl,aQ.of hrr.1,rfl,rfl,_,rfl,bH (ag rfl) ?_⟩⟩⟩;have u1:lO H (dD c):=fun z hz=>hU z (hsub z (aq _ (cj _ hz)))
    have u2:lO H (dD d):=fun z hz=>hU z (hsub z (aq _ (br _ hz)))
    refine⟨_,rfl,p0,_,_,.ref pa,rfl,rfl,aQ.of hrr.1,rfl,_,rfl,_,rfl,pa,a,b,c,A,B,rfl,hrr.2.2.2.1,hrr.2.2.2.2.2.1,by lia,by lia,u1.ts tH2,hA2,hB2,lA,lB,fun q1 o1 G3 s3 h3 r3 R3=>?_⟩;have h0:=s3 _ _ hrr.1;refine⟨_,rfl,_,rfl,p0,_,rfl,aQ.of h0,aQ0,fun c4 hc4=>?_⟩;rw[bU2];obtain⟨G4,e0,s4,g4⟩:=mZ hc4 (.tup [.str "when",.ref t.p]);rw[e0];clear e0;have s24:=s3.trans s4;refine⟨_,rfl,_,rfl,p0,_,_,.ref pb,rfl,rfl,aQ.of (s4 _ _ h0),rfl,_,rfl,_,rfl,pb,a,b,d,A,B,rfl,s24 _ _ hrr.2.2.2.2.1,aW.ts (.of s24) _ hrr.2.2.2.2.2.2,by lia,by lia,u2.ts (tH2.trans (.of s24)),s24 _ _ hA2,s24 _ _ hB2,lA,lB,fun q2 o2 G5 s5 h5 r5 R5=>⟨eW,fun t6 ht6=>?_⟩⟩;have s6:=aB ht6 (.tup [.ref q1,.ref q2]);refine⟨c4,t6,_,_,rfl,rfl,s6 _ _ (s5 _ _ g4),aC,by show 2+2<=sizeLine;decide,fun q G7 s7 h7=>?_⟩;have s57:=s6.trans s7;have s47:=s4.trans (s5.trans s57);have s27:=s3.trans s47;exact⟨.when q q1 q2 t o1 o2,_,rfl,s2.trans s27,⟨h7,hrr.2.1.ts (.of s27),hrr.2.2.1,s47 _ _ h3,s57 _ _ h5,aW.ts (.of s47) _ r3,aW.ts (.of s57) _ r5⟩,q,q1,q2,t,o1,o2,rfl,dH.idn t,R3.mono (fun w a b=>dG.ts (.of s47) w a b),R5.mono (fun w a b=>dG.ts (.of s57) w a b)⟩
   |times p0 pb j d =>
    obtain rfl:p0=Pp:=hP;simp only[Rw.dp] at hdr;simp only[Rw.cnt] at hcr
    cases n with
    |zero=>exact absurd hdr (by lia)
    |succ n =>
    refine aS (show ¬(lV (V.str "times") [V.str "ladder",V.str "flat"])=true by decide) ⟨_,rfl,p0,_,_,.str "times",rfl,rfl,aQ.of hrr.1,rfl,rfl,_,rfl,aS (fun z=>(show ¬(V.str "times"=V.str "choose") by decide) (ae z)) ⟨_,rfl,p0,_,_,.str "times",rfl,rfl,aQ.of hrr.1,rfl,rfl,_,rfl,aS (fun z=>(show ¬(V.str "times"=V.str "first") by decide) (ae z)) ⟨_,rfl,p0,_,_,.str "times",rfl,rfl,aQ.of hrr.1,rfl,rfl,_,rfl,aS (fun z=>(show ¬(V.str "times"=V.str "when") by decide) (ae z)) ⟨_,rfl,p0,_,_,.str "times",rfl,rfl,aQ.of hrr.1,rfl,rfl,_,rfl,bH (ag rfl) ?_⟩⟩⟩⟩;have u1:lO H (dD d):=fun z hz=>hU z (hsub z (aq _ hz))
    refine⟨_,rfl,_,rfl,p0,_,rfl,aQ.of hrr.1,aQ0,fun c4 hc4=>?_⟩;rw[bU2];obtain⟨G4,e0,s4,g4⟩:=mZ hc4 (.tup [.str "times",.int j]);rw[e0];clear e0;refine⟨_,rfl,p0,_,_,.ref pb,rfl,rfl,aQ.of (s4 _ _ hrr.1),rfl,_,rfl,_,rfl,pb,a,b,d,A,B,rfl,s4 _ _ hrr.2.1,aW.ts (.of s4) _ hrr.2.2,by lia,by lia,u1.ts (tH2.trans (.of s4)),s4 _ _ hA2,s4 _ _ hB2,lA,lB,fun q2 o2 G5 s5 h5 r5 R5=>⟨kL,fun t6 ht6=>?_⟩⟩;have s6:=aB ht6 (.tup [.ref q2]);refine⟨c4,t6,_,_,rfl,rfl,s6 _ _ (s5 _ _ g4),aC,by show 2+1<=sizeLine;decide,fun q G7 s7 h7=>?_⟩;have s57:=s6.trans s7;exact⟨.times q q2 j o2,_,rfl,s2.trans (s4.trans (s5.trans s57)),⟨h7,s57 _ _ h5,aW.ts (.of s57) _ r5⟩,q,q2,o2,rfl,R5.mono (fun w a b=>dG.ts (.of s57) w a b)⟩
   |thr p0 w x us am =>
    obtain rfl:p0=Pp:=hP;have hw:=hrr.2.w;have l8:=qG hrr.2;obtain⟨pre,s,post,eu,hl,ok1,ok2,hs⟩:=hur;have lr:=ej List.length eu;rw[ah,bt] at lr;have hp0:G2 p0=some (.tup ((.str w :: .str x::pre)++ .ref s::post)):=by rw[hrr.1,eu];rfl
    have fin:∀{G3:Hp}{q e:Addr}(v5:Option V),bA G2 G3->yS G3 A B (kM w) s e->G3 q=some (.tup ((.str w :: .str x::pre)++ .ref e::post))->∃(q':Rw) (v5':Option V),[some (.ref p),some (.ref a),some (.ref b),some (.ref lo),some (V.ref q),v5]=[some (.ref p),some (.ref a),some (.ref b),some (.ref lo),some (.ref q'.p),v5']/\bA G G3/\eB G3 q'/\dI (dG G3 A B) id (.thr p0 w x us am) q':=fun {G3 q e} v5 s3 hws hq=>by
     have hw3:dG G3 A B w us (pre++ .ref e::post):=⟨pre,s,e,post,eu,rfl,hl,ok1,ok2,hws⟩
     exact⟨.thr q w x (pre++ .ref e::post) am,v5,rfl,s2.trans s3,⟨hq,dG.thr lA lB (hrr.2.ts (.of s3)) hw3⟩,q,_,rfl,hw3⟩
    have lp:(.str w :: .str x::pre:List V).length+post.length<=990:=by simp only[List.length_cons];lia
    rcases aX9 hw with⟨rfl,o1,pl⟩|⟨rfl,o1,pl⟩|⟨o1,pl⟩
    ·rw[o1] at hs fin;obtain⟨ss,hs,ls,oks⟩:=hs;have en:(5:Int)=(((.str "first" :: .str x::pre:List V).length:Nat):Int):=by simp only[List.length_cons];lia
     refine aS (show ¬(lV (V.str "first") [V.str "ladder",V.str "flat"])=true by decide) ⟨_,rfl,p0,_,_,.str "first",rfl,rfl,aQ.of hrr.1,iY,rfl,_,rfl,aS (fun z=>(show ¬(V.str "first"=V.str "choose") by decide) (ae z)) ⟨_,rfl,p0,_,_,.str "first",rfl,rfl,aQ.of hrr.1,iY,rfl,_,rfl,bH (ag rfl) ?_⟩⟩;refine⟨_,rfl,p0,_,_,.ref s,rfl,rfl,aQ.of hp0,rX en,s,rfl,⟨_,aQ.of hs⟩,uG hA2 hB2 lA lB hs ls oks fun ys G3 s3 tw lx hlx=>⟨lx,ys,rfl,.inl ⟨bJ.of aC,fun e he=>?_⟩⟩⟩;have s4:=(aB hlx (.lst ys)).trans (aB he (.tup ys));have hws:yS (aN (aN G3 lx (.lst ys)) e (.tup ys)) A B false s e:=⟨ss,ys,(s3.trans s4) _ _ hs,aC,ls,tw.mono fun _ _ z=>z.ts (.of s4)⟩
     exact wX rfl rfl ((s3.trans s4) _ _ hp0) en (by lia) lp fun q G5 s5 h5=>fin _ (s3.trans (s4.trans s5)) (hws.ts (.of s5)) h5
    ·rw[o1] at hs fin;obtain⟨ss,hs,ls,oks⟩:=hs;have en:(2:Int)=(((.str "choose" :: .str x::pre:List V).length:Nat):Int):=by simp only[List.length_cons];lia
     refine aS (show ¬(lV (V.str "choose") [V.str "ladder",V.str "flat"])=true by decide) ⟨_,rfl,p0,_,_,.str "choose",rfl,rfl,aQ.of hrr.1,iY,rfl,_,rfl,bH (ag rfl) ?_⟩;refine⟨_,rfl,p0,_,_,.ref s,rfl,rfl,aQ.of hp0,rX en,s,rfl,⟨_,aQ.of hs⟩,uG hA2 hB2 lA lB hs ls oks fun ys G3 s3 tw lx hlx=>⟨lx,ys,rfl,.inl ⟨bJ.of aC,fun e he=>?_⟩⟩⟩;have s4:=(aB hlx (.lst ys)).trans (aB he (.tup ys));have hws:yS (aN (aN G3 lx (.lst ys)) e (.tup ys)) A B false s e:=⟨ss,ys,(s3.trans s4) _ _ hs,aC,ls,tw.mono fun _ _ z=>z.ts (.of s4)⟩
     exact wX rfl rfl ((s3.trans s4) _ _ hp0) en (by lia) lp fun q G5 s5 h5=>fin _ (s3.trans (s4.trans s5)) (hws.ts (.of s5)) h5
    ·rw[o1] at hs fin;obtain⟨ws,hs,lw,okw⟩:=hs;have en:(2:Int)=(((.str w :: .str x::pre:List V).length:Nat):Int):=by simp only[List.length_cons];lia
     refine bH o1 ⟨_,rfl,_,rfl,p0,_,_,.ref s,rfl,rfl,aQ.of hp0,rX en,a,s,_,_,rfl,rfl,hA2,hs,bp (aJ (by lia)),fun c H2 s3 h3=>⟨_,rfl,c,b,_,_,rfl,rfl,h3,s3 _ _ hB2,bp (aJ (by rw[ah];lia)),fun e H3 s4 h4=>?_⟩⟩;have s34:=s3.trans s4;exact wX rfl rfl (s34 _ _ hp0) en (by lia) lp fun q G5 s5 h5=>fin _ (s34.trans s5) ⟨ws,(s34.trans s5) _ _ hs,s5 _ _ h4,lw,okw⟩ h5
  ·rintro σ' G' ⟨q,v5,rfl,s2,hq,R2⟩;have lr:=R.length;have ct:bP (rs.take i)<=bP rs:=by
    have:bP rs=bP (rs.take i)+bP (rs.drop i):=by rw[<-jO,jx]
    lia
   have lo1:=gE (rs.take i);refine⟨_,rfl,.inl ⟨rfl,_,bJ.of (s2 _ _ g2)⟩,_,rfl,lo,_,_,rfl,rfl,s2 _ _ g2,aJ (by rw[bB];lia),?_⟩;have tN:=TS.lst (ys:=bN o++[.ref q.p]) (s2 _ _ g2);refine⟨o++[q],_,_,rfl,(b1.trans (eV.of s2)).trans eV.upd,by rw[aC,dO];rfl,aW.app (aW.ts ((TS.of s2).trans tN) _ ho) ⟨eB.ts tN _ hq,trivial⟩,?_⟩;rw[bE hr0];exact bF.app (R.mono (fun w a b=>dG.ts ((TS.of s2).trans tN) w a b)) ⟨q,[],rfl,R2.mono (fun w a b=>dG.ts tN w a b),rfl⟩
 ·rintro σ G ⟨o,v4,v5,rfl,b1,g2,ho,R⟩;rw[bB,cg] at R;refine⟨_,rfl,lo,_,rfl,.inl ⟨bJ.of g2,fun q hq=>?_⟩⟩;have s3:=aB hq (.tup (bN o));exact k q o _ ((b1.same s1 hlo).trans s3) aC (aW.ts (.of s3) _ ho) (R.mono (fun w a b=>dG.ts (.of s3) w a b))
def bQ7 (C_Deal:Cl P w K mg base 1 (zZ K) "_law_deal")(C_Two46:Cl P w K mg base 15 spTwo "_law_two")(C_Tld:Cl P w K mg base 109 (aT0 Lw L) "_law_told")(C_Wde:Cl P w K mg base 5 (aE9 4) "_law_wide")(C_Draw:Cl P w K mg base 1 spDraw "_law_draw")(C_RsT:Cl P w K mg base 15 (aE2 3) "_law_rows_told")(C_Nms46:Cl P w K mg base 2 spNamesE "_law_names")(C_NmR:Cl P w K mg base 6 spNmR "_law_names_right")(C_Lok:Cl P w K mg base 5 spLookL "look")(m_len:mg "len"=none)(m_isinstance:mg "isinstance"=none)(m_tuple:mg "tuple"=none)(m_set:mg "set"=none):gG P w K mg base "law" "law" aN6 111 ["_law_script"] (nL K Lw L):=by
 refine iT ["_law_script","_law_deal_here","_law_names_here","_law_kinds","_law_others","_law_one","_law_other","_law_found","_law_both","_law_many","_law_told_here","_law_first","_law_second"] fun H Q nd hr h=>?_
 obtain⟨a,ns,rfl,hS,hlen,hTw,hTr,k⟩:=h;have hr1:dL 1 _:=hr.mono (by decide);refine⟨_,(@aF _ _ _ _ _ (pW 1 nd (bW C_Deal hr (aA (pv 0) (aR aD))))
  (@aF _ _ _ _ _ (lZ ["_law_name"] [none] (i:=2) nd rfl (fi rfl) (dE (bW C_Nms46 hr (aA (pv 1) (aR aD)))) (fun _ _ _ _=>(fK 0)) (fun _ _ _ _=>eE) (fun _ _ _ _=>(bK aA8 (pv 0) bV (bR aD))))
  (@aF _ _ _ _ _ (pW 3 nd (bK jA (pv 2) bV (bR (aP dF aD (bW C_Draw hr (aA (pv 1) (aR aD)))))))
  (@aF _ _ _ _ _ (pW 4 nd (bK jA (pv 2) (bR aD) (bR (aP dF aD (bQ fP (@cC _ _ _ _ (@aA _ _ _ _ _ aD (@aA _ _ _ _ _ aD (@aA _ _ _ _ _ aD (@aA _ _ _ _ _ aD cJ rfl) rfl) rfl) rfl)) (bW C_Draw hr (aA (pv 1) (aR aD))))))))
  (@aF _ _ _ _ _ (gD (bD (dZ bO (bW C_Draw hr (aA (pv 1) (aR aD))) aD) (aE (lJ (bQ fP (pv 3) (bW C_Draw hr (aA (pv 1) (aR (iF aV m_len ci (aR (pv 3))))))) (aP9 (pv 4) (bW C_Draw hr (aA (pv 1) (aR (iF aV m_len ci (aR (pv 4)))))) sP))) aU))
  (@aF _ _ _ _ _ (lJ (bW C_Two46 hr (aA (pv 1) (aA (pv 3) (aA (pv 4) (aR aD))))) (jE rfl (bG (fK 5 nd) (bG (fK 6 nd) fO))))
  (@aF _ _ _ _ _ (gD (pW 7 nd (bW C_Tld hr (aA (pv 5) (aR (pv 6))))))
  (@aF _ _ _ _ _ (pW 8 nd (aP bU (bQ aI (pv 5) aD) (bQ aI (pv 6) aD)))
  (@aF _ _ _ _ _ (bD (eM (PW.pt (jG (dZ kU (iF (oZ P w) m_len ci (aR (oR (oW P w hr1) m_set mf (aR (pv 8))))) (iF aV m_len ci (aR (pv 8)))) (jF (dZ jB (iF aV m_len ci (aR (pv 8))) aD))))) (aE (aO (eX (oK bO (pv 7) aG) (eG (oK bO (bW C_Tld hr (aA (pv 6) (aR (pv 5)))) aG))))) aU)
  (@aF _ _ _ _ _ (bD (eM (PW.pt (jG (gW (fJ (iF gO m_isinstance dr (aA (pv 7) (aR (lX (v:= .ty "tuple") (by rfl) m_tuple cq rfl)))))) (jG (dZ qU (iF aV m_len ci (aR (pv 7))) aD) (jF (dZ (aQ5 hr) (bQ aI (pv 7) aD) (pv 8))))))) fU aU)
  (@aF _ _ _ _ _ (pW 9 nd (iF aV m_len ci (aR (bQ aI (pv 5) aD))))
  (@aF _ _ _ _ _ (pW 10 nd lE)
  (@aF _ _ _ _ _ (pW 11 nd (bW C_Wde hr (aA (bQ aI (pv 5) aD) (aA (aY cJ) (aR (aP qF (aY (aR aD)) (iF aV m_len ci (aR (pv 4)))))))))
  (@aF _ _ _ _ _ (pW 12 nd (bW C_Wde hr (aA (bQ aI (pv 6) aD) (aA (aP qF (aY (aR aD)) (iF aV m_len ci (aR (pv 3)))) (aR (aY cJ))))))
  (@aF _ _ _ _ _ (bD (dZ (aK5 hr) (bK eJ (bQ aI (pv 7) aD) bV (bR (pv 9))) (pv 11)) fU aU)
  (@aF _ _ _ _ _ (bD (gW (fJ (bW C_RsT hr (aA (bK eJ (bQ aI (pv 7) aD) (bR (pv 9)) bV) (aA (pv 12) (aR (pv 10))))))) fU aU)
  (@aF _ _ _ _ _ (bD (eM (PW.pt (jG (gW (fJ (bW C_NmR hr (aA (pv 10) (aA (pv 5) (aR (pv 6))))))) (jF (dZ aG9 (bW C_Lok hr (aR (pv 7))) gZ))))) fU aU)
  (@aE _ _ _ (aO (oK (pJ hr) (bW C_Tld hr (aA (pv 5) (aR (pv 6)))) (pv 7))))))))))))))))))))),?_⟩
 refine⟨_,rfl,a,ns,0,rfl,hS,hlen,by decide,by decide,fun d l H1 fd fl D1 s1=>?_⟩;have eT:=s1 _ _ hTw;have eR:=s1 _ _ hTr;refine⟨_,rfl,d,l,6,rfl,D1,by decide,by decide,fun nl ws A B tn H3 D3 o3 f3 h3 wl ab wa=>⟨nl,rfl,⟨_,bJ.of h3⟩,dJ (K:=K) (a:=nl) (xs:=ws.map V.str) (fun i ys σ G=>G=H3/\(∃v,σ=[v])/\ys=((ws.take i).map fun w=>Txt.slice w none (some 7)).map V.str)
  (aJ (by rw[ac];lia)) ⟨rfl,⟨_,rfl⟩,rfl⟩ (by rintro i ys σ G ⟨_,_,e⟩;rw[e,ac,ac,bx];lia) (by rintro i ys σ G _ ⟨e,_⟩;rw[e];exact bJ.of h3) ?_ ?_⟩⟩
 ·rintro i v ys σ G hv ⟨rfl,⟨v',rfl⟩,rfl⟩;obtain⟨x,rfl,hx⟩:=iC hv;have xl:=aR0 ab wa x (bg hx);refine⟨_,rfl,_,rfl,x,rfl,bp (aJ (by lia)),rfl,⟨_,rfl⟩,?_⟩;rw[bE hx,av,av];rfl
 rintro ys σ G ⟨rfl,_,rfl⟩ al hal;rw[ac,cg];have al6:(ws.map fun w=>Txt.slice w none (some 7)).length=6:=by rw[ac,wl];rfl
 generalize (ws.map fun w=>Txt.slice w none (some 7))=ns' at al6 ⊢;have eT3:=dQ D1 eT o3;have eR3:=dQ D1 eR o3;have s4:=aB hal (.lst (ns'.map V.str));have g4:aN G al (.lst (ns'.map V.str)) al=some (.lst (ns'.map V.str)):=aC;have nal:=(fN D3 hal).2
 change (fun x H=>_) _ (aN G al (.lst (ns'.map V.str)))
 generalize aN G al (.lst (ns'.map V.str))=H4 at s4 g4 ⊢;have D4:=D3.same s4;have eT4:=s4 _ _ eT3;have eR4:=s4 _ _ eR3;clear eT eR eT3 eR3 s4 D3 o3 h3 wa ab;refine⟨_,rfl,_,rfl,d,l,3,rfl,D4,by decide,by decide,fun y H5 y0 y1 D5 o5=>⟨_,_,rfl,rfl,_,rfl,al,_,rfl,bJ.of (aM D4 g4 nal o5),fun kl hkl=>?_⟩⟩;obtain⟨j,rfl⟩:=dv y0;rw[show(1:Int)+(j:Int)=((1+j:Nat):Int) from by lia,qB, <-pq];have lk:(ns'.take (1+j)).length=1+j:=by rw[bx,al6];lia
 have k3:1+j<=3:=by lia
 have g5:=aM D4 g4 nal o5;have eT5:=dQ D4 eT4 o5;have eR5:=dQ D4 eR4 o5;have s6:=aB hkl (.lst ((ns'.take (1+j)).map V.str));have g6:aN H5 kl (.lst ((ns'.take (1+j)).map V.str)) kl=some (.lst ((ns'.take (1+j)).map V.str)):=aC;have nkl:=(fN D5 hkl).2;generalize ns'.take (1+j)=ks at s6 g6 lk ⊢
 change (fun x H=>_) _ (aN H5 kl (.lst (ks.map V.str)))
 generalize aN H5 kl (.lst (ks.map V.str))=H6 at s6 g6 ⊢;refine⟨_,rfl,_,rfl,by show 4<=sizeLine;decide,fun l7 hl7=>?_⟩;have s7:=aB hl7 (.lst [.int 0,.int 0,.int 1,.int 2]);have g7:aN H6 l7 (.lst [.int 0,.int 0,.int 1,.int 2]) l7=some (.lst [.int 0,.int 0,.int 1,.int 2]):=aC;have D6:=D5.same s6;have nl7:=(fN D6 hl7).2;generalize aN H6 l7 (.lst [.int 0,.int 0,.int 1,.int 2])=H7 at s7 g7 ⊢;have s67:=s6.trans s7;have D7:=D6.same s7;refine⟨_,rfl,d,l,4,rfl,D7,by decide,by decide,fun z H8 z0 z1 D8 o8=>?_⟩;obtain⟨mw,hw,w2⟩:=cF0 z0 z1;refine⟨l7,_,_,.int mw,rfl,rfl,bJ.of (aM D7 g7 nl7 o8),hw,_,_,rfl,rfl,_,rfl,al,_,rfl,bJ.of (aM D7 (s67 _ _ g5) nal o8),fun ol hol=>?_⟩;rw[show(4:Int)+(mw:Int)=((4+mw:Nat):Int) from by lia,show(3:Int)=((3:Nat):Int) from rfl,bA8 (by lia) (by lia)];have lo:((ns'.drop 3).take (4+mw-3)).length=1+mw:=by rw[bx,ku,al6];lia
 have eT8:=dQ D7 (s67 _ _ eT5) o8;have eR8:=dQ D7 (s67 _ _ eR5) o8;have g8:=aM D7 (s7 _ _ g6) nkl o8;have s9:=aB hol (.lst (((ns'.drop 3).take (4+mw-3)).map V.str));have g9:aN H8 ol (.lst (((ns'.drop 3).take (4+mw-3)).map V.str)) ol=some (.lst (((ns'.drop 3).take (4+mw-3)).map V.str)):=aC;have nol:=(fN D8 hol).2;have nko:kl≠ol:=aK g8 hol;generalize (ns'.drop 3).take (4+mw-3)=os at s9 g9 lo ⊢
 change (fun x H=>_) _ (aN H8 ol (.lst (os.map V.str)))
 generalize aN H8 ol (.lst (os.map V.str))=H9 at s9 g9 ⊢;have D9:=D8.same s9;have g89:=s9 _ _ g8;have eT9:=s9 _ _ eT8;have eR9:=s9 _ _ eR8;clear eT4 eR4 g4 g5 eT5 eR5 s6 g6 D5 s7 g7 D6 s67 D7 D8 eT8 eR8 g8 s9 o5 o8 D4 hkl hl7 hol;refine⟨fun σ' G=>∃os':List Str,σ'=[some (.ref a),some (.ref d),some (.ref al),some (.ref kl),some (.ref ol),none,none,none,none,none,none,none,none]/\dY G d l/\G kl=some (.lst (ks.map V.str))/\G ol=some (.lst (os'.map V.str))/\os'.length=os.length/\G Lw.P=some (.tbl #[])/\G L.P=some (.tbl #[]),?_,?_⟩
 ·refine⟨_,rfl,d,l,4,rfl,D9,by decide,by decide,fun x G _ _ DG oG=>⟨rfl,_,rfl,?_⟩⟩;have hk:=aM D9 g89 nkl oG;have ho:=aM D9 g9 nol oG;have eT:=dQ D9 eT9 oG;have eR:=dQ D9 eR9 oG;refine mF (fun _=>?_) (fun _=>⟨os,rfl,DG,hk,ho,rfl,eT,eR⟩);refine⟨_,rfl,_,rfl,_,rfl,kl,_,rfl,.inl (bJ.of hk),d,l,_,rfl,DG,by rw[ac];lia,by rw[ac];lia,fun x G2 x0 x1 D2 o2=>?_⟩;obtain⟨v,hv,ha⟩:=aD7 x0 x1;obtain⟨y,rfl,hy⟩:=iC hv;refine⟨kl,_,_,.str y,rfl,rfl,bJ.of (aM DG hk nkl o2),ha,?_⟩;have ho2:=aM DG ho nol o2;refine⟨_,rfl,_,rfl,_,rfl,ol,_,rfl,.inl (bJ.of ho2),d,l,_,rfl,D2,by rw[ac];lia,by rw[ac];lia,fun u G3 u0 u1 D3 o3=>?_⟩;have ho3:=aM D2 ho2 nol o3;have hk3:=aM D2 (aM DG hk nkl o2) nkl o3;obtain⟨i,rfl⟩:=dv u0;rw[ac] at u1;have eT3:=dQ D2 (dQ DG eT o2) o3;have eR3:=dQ D2 (dQ DG eR o2) o3;refine⟨ol,_,_,i,rfl,rfl,ho3,by unfold zK;rw[bb (by lia),bb (by rw[ac];lia)];rfl,?_⟩
  rw[show(os.map V.str).set i (.str y)=(os.set i y).map V.str from by rw[List.map_set]];exact⟨os.set i y,rfl,rC D3 ho3 nol,(aH nko).trans hk3,aC,by rw[qo],(aH (gX eT3 ho3 (by intro z;cases z))).trans eT3,(aH (gX eR3 ho3 (by intro z;cases z))).trans eR3⟩
 rintro σ' G ⟨os',rfl,D10,g10,h10,lo2,eT10,eR10⟩;clear D9 g9 g89 eT9 eR9;refine⟨_,rfl,_,rfl,_,rfl,d,l,kl,ol,ks,os',rfl,D10,g10,nkl,by lia,by lia,h10,nol,by lia,by lia,fun r p q rs1 rs2 H6 D6 o6 h6 P1 P2 u1 u2=>?_⟩;have hTw:eA H6 Lw.P Lw.pos Lw.q:= .inl (dQ D10 eT10 o6);have hTr:eA H6 L.P L.pos L.q:= .inl (dQ D10 eR10 o6);have hk:=aM D10 g10 nkl o6;have ho:=aM D10 h10 nol o6;refine⟨r,_,rfl,aQ.of h6,rfl,_,_,rfl,_,_,rfl,rfl,?_⟩;clear D10 g10 h10 eT10 eR10 o6 h6 D6;refine⟨fun σ' G=>∃fv:V,σ'=[some (.ref a),some (.ref d),some (.ref al),some (.ref kl),some (.ref ol),some (.ref p),some (.ref q),some fv,none,none,none,none,none]/\TS H6 G/\eA G Lw.P Lw.pos Lw.q/\eA G L.P L.pos L.q/\G ol=some (.lst (os'.map V.str))/\G kl=some (.lst (ks.map V.str)) /\
  ((Fit ks os'/\∃(r:Addr) (o1 o2:List Rw) (ν:Str->Str),fv= .ref r/\pH G r (ks++os') (o1++o2) 2/\aW G o1/\aW G o2/\bF (dG G [] (zs os'.length)) id rs1 o1/\bF (dG G (zs ks.length) []) ν rs2 o2/\nY ν ks os' (eI rs1) (eI rs2))\/(¬Fit ks os'/\fv= .str "refused")),?_,?_⟩
 ·refine⟨_,rfl,_,rfl,p,q,ks,os',rs1,rs2,rfl,hTw,hTr,P1,P2,u1,u2,?_⟩
  by_cases F:Fit ks os'
  ·exact .inl ⟨F,fun r o1 o2 ν G oG tw tr PP h1 h2 R1 R2 nu=>⟨_,rfl,aE8 oG hTw hTr,tw,tr,vA oG hTw hTr ho,vA oG hTw hTr hk,.inl ⟨F,r,o1,o2,ν,rfl,PP,h1,h2,R1,R2,nu⟩⟩⟩
  ·exact .inr ⟨F,fun G s=>⟨_,rfl,.of s,hTw.same s,hTr.same s,s _ _ ho,s _ _ hk,.inr ⟨F,rfl⟩⟩⟩
 rintro σ' G ⟨fv,rfl,t6,hTw,hTr,ho,hk,way⟩;have P1:=P1.ts t6;have P2:=P2.ts t6;have u1:=u1.ts t6;have u2:=u2.ts t6;clear t6;obtain⟨pk,pr,hp,hpk,hpr⟩:=P1.ex;obtain⟨qk,qr,hq,hqk,hqr⟩:=P2.ex;refine⟨_,rfl,p,_,_,.ref pk,rfl,rfl,aQ.of hp,rfl,_,rfl,q,_,_,.ref qk,rfl,rfl,aQ.of hq,rfl,pk,qk,_,_,rfl,rfl,hpk,hqk,bp (aJ (by rw[ac,ac];lia)),fun kk H1 s1 h1=>?_⟩;rw[<-av] at h1;refine⟨fun b G'=>(b=true↔¬Fit ks os')/\bA H1 G',?_,?_⟩
 ·have em:(ks++os').map V.str=((ks++os').map fun x=>(Sum.inr x:Key)).map kV:=by rw[jn];rfl
  refine⟨_,rfl,kk,(ks++os').map (fun x=>(Sum.inr x:Key)),rfl,by rw[<-em];exact aQ.of h1,by rw[ac,ah];lia,fun e he=>?_⟩;have s2:=aB he (qZ P w e ((ks++os').map fun x=>(Sum.inr x:Key)));refine⟨e,_,rfl,aC,_,rfl,kk,_,rfl,.inr (aQ.of (s2 _ _ h1)),_,_,rfl,rfl,_,rfl,?_⟩;have dl:decide (((dd ((ks++os').map fun x=>(Sum.inr x:Key))).length:Int)<(((ks++os').map V.str).length:Int))= !decide (ks++os').Nodup:=by rw[ac (as:=ks++os') V.str,xX]
  rw[dl];refine mF (fun c=>⟨⟨fun _ F=>?_,fun _=>rfl⟩,s2⟩) (fun c=>?_)
  ·rw[ag F.2] at c;cases c
  have nd:(ks++os').Nodup:=by
   by_cases nd:(ks++os').Nodup
   ·exact nd
   ·rw[ba nd] at c;exact absurd rfl c
  refine⟨_,rfl,kk,_,rfl,.inr (aQ.of (s2 _ _ h1)),_,_,rfl,rfl,_,rfl,?_⟩;rw[ac];refine⟨⟨fun c F=>?_,fun nF=>ag ?_⟩,s2⟩
  ·have:=F.1;have:=ae c;lia
  ·have:¬(ks++os').length<=3:=fun z=>nF ⟨z,nd⟩
   lia
 rintro b G2 ⟨hb,sG⟩;have sB:=s1.trans sG;have hkk:=sG _ _ h1;have hTw:=hTw.same sB;have hTr:=hTr.same sB;have P1:=P1.ts (.of sB);have P2:=P2.ts (.of sB);have u1:=u1.ts (.of sB);have u2:=u2.ts (.of sB);have ho:=sB _ _ ho;have hk:=sB _ _ hk;have hp:=sB _ _ hp;have hq:=sB _ _ hq;have hpr:=sB _ _ hpr;have hqr:=sB _ _ hqr;rcases way with⟨F,r,o1,o2,ν,rfl,PP,ho1,ho2,R1,R2,nu⟩|⟨nF,rfl⟩
 rotate_left
 ·obtain rfl:=hb.mpr nF;refine bH rfl ⟨_,rfl,rfl,_,rfl,bH (ag rfl) ⟨_,rfl,_,rfl,q,p,os',ks,rs2,rs1,rfl,hTw,hTr,P2,P1,u2,u1,.inr ⟨fun z=>nF z.comm,fun H5 s5=>⟨rfl,?_⟩⟩⟩⟩;rw[ag rfl];exact k H5
 obtain rfl:b=false:=by
  cases b with
  |true=>exact absurd F (hb.mp rfl)
  |false=>rfl
 refine aS (by decide) ?_;have PP:=PP.ts (.of sB);have ho1:=aW.ts (.of sB) _ ho1;have ho2:=aW.ts (.of sB) _ ho2;have R1:=R1.mono (fun w a b=>dG.ts (.of sB) w a b);have R2:=R2.mono (fun w a b=>dG.ts (.of sB) w a b);clear hb s1 sG h1 sB hpk hqk;obtain⟨rk,rr,hr',hrk,hrr⟩:=PP.ex;have l1:=bA7 P1.t1;have l2:=bA7 P2.t1;have c1:=P1.cnt;have c2:=P2.cnt;have lo1:=R1.length;have lo2':=R2.length;refine⟨fun b G'=>b=false/\G'=G2,?_,?_⟩
 ·refine⟨_,rfl,_,_,_,true,rfl,.tup hr',rfl,_,rfl,aS (by decide) ⟨_,rfl,r,_,rfl,.inr (aQ.of hr'),rfl,_,rfl,aS (by simp) ⟨_,rfl,r,_,_,.ref rk,rfl,rfl,aQ.of hr',rfl,_,rfl,rk,kk,ks++os',ks++os',rfl,rfl,.inr ⟨aQ.of hrk,aQ.of hkk⟩,_,rfl,by simp,rfl⟩⟩⟩
 rintro b G3 ⟨rfl,rfl⟩;refine aS (by decide) ?_;refine⟨_,rfl,p,_,_,.ref pr,rfl,rfl,aQ.of hp,rfl,pr,_,rfl,.inr (aQ.of hpr),?_⟩;rw[show(bN rs1).length=(bN o1).length from by rw[bB,bB,lo1]];refine fun td htd=>?_
 obtain⟨G4,e0,s2,g2⟩:=mZ htd (.dK []);rw[e0];clear e0;refine⟨_,rfl,p,_,_,.ref pr,rfl,rfl,aQ.of (s2 _ _ hp),rfl,by show 0<=sizeLine;decide,fun a1 ha1=>⟨kL,fun z1 hz1=>?_⟩⟩;have sa:=(aB ha1 (.tup [])).trans (aB hz1 (.tup [.int 0]));have ga:=aB hz1 (.tup [.int 0]) _ _ (show aN G4 a1 (.tup []) a1=some (.tup []) from aC);have gz:aN (aN G4 a1 (.tup [])) z1 (.tup [.int 0]) z1=some (.tup [.int 0]):=aC;generalize aN (aN G4 a1 (.tup [])) z1 (.tup [.int 0])=G5 at sa ga gz ⊢;have s25:=s2.trans sa;refine⟨_,rfl,ol,_,rfl,.inl (bJ.of (s25 _ _ ho)),z1,_,_,rfl,rfl,gz,by lia,by rw[ac];lia,fun b1 G6 s6 h6=>?_⟩;have h6:G6 b1=some (.tup (zs os'.length)):=by rw[ac] at h6;exact h6
 have s26:=s25.trans s6;refine⟨pr,a1,b1,rs1,[],zs os'.length,rfl,s26 _ _ hpr,aW.ts (.of s26) _ P1.rows,cm P1.dp (by decide),by lia,u1.ts (.of s26),s6 _ _ ga,h6,by decide,by rw[xE];lia,fun wf w1 G7 s7 h7 r7 R7=>?_⟩;have s47:=sa.trans (s6.trans s7);have s27:=s2.trans s47;clear sa ga gz s25 h6 s26 s6 s7 ha1 hz1;refine⟨_,rfl,q,_,_,.ref qr,rfl,rfl,aQ.of (s27 _ _ hq),rfl,kL,fun z2 hz2=>?_⟩;obtain⟨G8,e0,sz,gz⟩:=mZ hz2 (.tup [.int 0]);rw[e0];clear e0;refine⟨_,rfl,kl,_,rfl,.inl (bJ.of ((s27.trans sz) _ _ hk)),z2,_,_,rfl,rfl,gz,by lia,by rw[ac];lia,fun b2 G9 s9 h9=>⟨by show 0<=sizeLine;decide,fun a2 ha2=>?_⟩⟩;have h9:G9 b2=some (.tup (zs ks.length)):=by rw[ac] at h9;exact h9
 have sa:=aB ha2 (.tup []);have ga:aN G9 a2 (.tup []) a2=some (.tup []):=aC;have h10:=sa _ _ h9;generalize aN G9 a2 (.tup [])=G10 at sa ga h10 ⊢;have s710:=sz.trans (s9.trans sa);have s210:=s27.trans s710;refine⟨qr,b2,a2,rs2,zs ks.length,[],rfl,s210 _ _ hqr,aW.ts (.of s210) _ P2.rows,cm P2.dp (by decide),by lia,u2.ts (.of s210),h10,ga,by rw[xE];lia,by decide,fun wg w2' G11 s11 h11 r11 R11=>?_⟩;have s711:=s710.trans s11;have s211:=s27.trans s711;have g211:=(s47.trans s711) _ _ g2;have h7:=s711 _ _ h7;have r7:=aW.ts (.of s711) _ r7;have R7:=R7.mono (fun w a b=>dG.ts (.of s711) w a b);have R1:=R1.mono (fun w a b=>dG.ts (.of s211) w a b);have R2:=R2.mono (fun w a b=>dG.ts (.of s211) w a b);have ho1:=aW.ts (.of s211) _ ho1;have ho2:=aW.ts (.of s211) _ ho2;have PP:=PP.ts (.of s211);have P1:=P1.ts (.of s211);have P2:=P2.ts (.of s211);have hTw:=hTw.same s211;have hTr:=hTr.same s211
 have hr':=s211 _ _ hr';have hrr:=s211 _ _ hrr;have hrk:=s211 _ _ hrk;have u1:=u1.ts (.of s211);have u2:=u2.ts (.of s211);clear sz gz sa ga h9 h10 s9 s710 s210 s11 s47 s27 hz2 ha2 s711 hp hq hpr hqr hk ho hkk s211 s2;rw[dO] at hrr;have nul:∀u∈([]:List V),vS u:=fun _ z=>nomatch z
 refine⟨_,rfl,r,_,_,.ref rr,rfl,rfl,aQ.of hr',rfl,_,rfl,_,rfl,rr,_,rfl,aQ.of hrr,bL4 (by rw[bB];lia),fun c3 hc3=>?_⟩;rw[aF1];obtain⟨G12,e0,sc3,gc3⟩:=mZ hc3 (.tup (bN o1));rw[e0];clear e0;have d1:=P1.dp;have d2:=P2.dp;refine⟨_,rfl,c3,wf,_,_,13,rfl,rfl,aQ.of gc3,aQ.of (sc3 _ _ h7),iN (fun n w us a b hn=>dG.deq nul (aE1 _) n w us a b hn) 13 (R1.mono (fun w a b=>dG.ts (.of sc3) w a b)) (R7.mono (fun w a b=>dG.ts (.of sc3) w a b)) (aW.ts (.of sc3) _ ho1) (aW.ts (.of sc3) _ r7) P1.tz (by unfold qO;lia),by decide,_,rfl,aS (by decide) ?_⟩;refine⟨_,rfl,r,_,_,.ref rr,rfl,rfl,aQ.of (sc3 _ _ hr'),rfl,_,rfl,_,rfl,rr,_,rfl,aQ.of (sc3 _ _ hrr),aE5 (by rw[bB];lia),fun c4 hc4=>?_⟩;rw[vQ];have sc4:=sc3.trans (aB hc4 (.tup (bN o2)));have gc4:aN G12 c4 (.tup (bN o2)) c4=some (.tup (bN o2)):=aC;generalize aN G12 c4 (.tup (bN o2))=G13 at sc4 gc4 ⊢;have R11':=R11.mono (fun w a b=>dG.ts (.of sc4) w a b)
 have R2':=R2.mono (fun w a b=>dG.ts (.of sc4) w a b);have en:eI w2'=eI rs2:=by rw[R11.nm,List.map_id]
 have ec:=R11.cnt;have m4:=P2.few;have hN:zJ G13 td [] ν:=⟨sc4 _ _ g211,ou⟩
 refine⟨_,rfl,_,rfl,td,[],fun w a b=>Paired (uP G13 3) b a,ν,w2',o2,wg,c4,eI rs2,rfl,hN,sc4 _ _ h11,gc4,aW.ts (.of sc4) _ r11,aW.ts (.of sc4) _ ho2,bF.told (fun w us a b ua ub=>dG.deq (aE1 _) nul 3 w us b a (by decide) ub ua) R11' R2',by rw[R11.dp];exact d2,R11.tsz P2.tz,fun w a b h=>h,by lia,P2.few.mono (by lia),fun y hy=>by rw[<-en];exact hy,fun y hy=>absurd hy dq,fun S' G14 b14 D14 m14=>⟨_,rfl,aS (by decide) ?_⟩⟩;have m14:∀y,y∈S'↔y∈eI rs2:=fun y=>by rw[m14 y,en];simp
 have tt:=(TS.of sc4).trans (hN.ts b14);have hTw:=eA.bar (hTw.same sc4) b14 hN.1;have hTr:=eA.bar (hTr.same sc4) b14 hN.1;refine⟨fun b G'=>b=false/\TS G11 G'/\eA G' Lw.P Lw.pos Lw.q/\eA G' L.P L.pos L.q,?_,?_⟩
 ·refine⟨_,rfl,_,rfl,_,rfl,td,p,q,S',ν,ks,os',rs1,rs2,1,1,rfl,D14,P1.ts tt,P2.ts tt,nu,m14,fun H5 b5=>⟨_,rfl,aS (by decide) ?_⟩⟩;have t5:=tt.trans (D14.ts b5);refine⟨_,rfl,r,ks++os',o1++o2,2,rfl,PP.ts t5,F.2,fun H6 s6=>⟨true,true,rfl,rfl,?_⟩⟩;exact⟨_,rfl,rfl,t5.trans (.of s6),(eA.bar hTw b5 D14.1).same s6,(eA.bar hTr b5 D14.1).same s6⟩
 rintro b G15 ⟨rfl,tG,hTw,hTr⟩;refine aS (by decide) ?_;have P1:=P1.ts tG;have P2:=P2.ts tG;refine⟨_,rfl,_,rfl,p,q,ks,os',rs1,rs2,rfl,hTw,hTr,P1,P2,u1.ts tG,u2.ts tG,.inl ⟨F,fun r2 a1 a2 ν2 Gz oz tw tr PP2 hh1 hh2 RR1 RR2 nu2=>?_⟩⟩;obtain rfl:=nu.one nu2;have tz:=tG.trans (aE8 oz hTw hTr);obtain⟨ck,cr,hc,hck,hcr⟩:=PP2.ex;rw[dO] at hcr;refine⟨_,rfl,r2,r,_,_,14,rfl,rfl,aQ.of hc,aQ.of (tz _ _ hr'),.cons (.inr ⟨ck,rk,_,_,rfl,rfl,hck,tz _ _ hrk,iQ bD3⟩) (.cons (.inr ⟨cr,rr,_,_,rfl,rfl,hcr,tz _ _ hrr,mU (iN (fun n w us a b hn=>dG.deq nul (aE1 _) n w us a b hn) 13 RR1 (R1.mono (fun w a b=>dG.ts tz w a b)) hh1 (aW.ts tz _ ho1) P1.tz (by unfold qO;lia)) (iN (fun n w us a b hn=>dG.deq (aE1 _) nul n w us a b hn) 13 RR2 (R2.mono (fun w a b=>dG.ts tz w a b)) hh2 (aW.ts tz _ ho2) P2.tz (by unfold qO;lia))⟩) .nil),by decide,k _⟩
def bS1 (C_AsS:Cl P w K mg base 1 spAsS "as_steps")(C_Inn:Cl P w K mg base 2 spInner "inner_steps")(m_reversed:mg "reversed"=none):gG P w K mg base "steps_of" "steps_of" bX6 3 ["rows"] spSteps:=by
 refine iT ["rows","steps","count","waiting","step","row"] fun H Q nd hr h=>?_
 obtain⟨p,rs,rfl,hp,hR,hc,k⟩:=h;refine⟨_,(eQ 1 nd (cC cJ)
  (eQ 2 nd aD
  (aF (lZ ["step"] [none] (i:=3) nd rfl (fi rfl) (aW3 (bW C_AsS hr (aR (pv 0))) (by rfl) m_reversed) (fun _ _ _ _=>(fK 0)) (fun _ _ _ _=>eE) (fun _ _ _ _=>(aY (aA (bQ (pT K) (pv 0) aD) (aA (bQ (pT K) (pv 0) aD) (aR vK))))))
  (aF (jP jo (rZ (pv 3) (fun _=>rfl))
  (eQ 4 nd (lM bj gj gm kW (pv 3))
  (aE (bD (dZ bO (bQ aI (pv 4) aD) aG) (eQ 5 nd (bQ aI (pv 4) aD)
  (aF (cO (fG bj cy db cU (pv 1) (aR (aY (aA aG (aA (pv 5) (aR (pv 2))))))))
  (aF (cO (fG bj iu iw iG (pv 3) (aR (cY ["inner","count"] [none,some 2] (aW3 (bW C_Inn hr (aR (pv 5))) (by rfl) m_reversed) (fun _ _ _ _=>(fK 0)) (fun _ _ _ _=>eE) (fun _ _ _ _=>(aY (aA (bQ (pT K) (pv 0) aD) (aA (bQ (pT K) (pv 0) aD) (aR (pv 1))))))))))
  (aE (aD4 (i:=2) nd rfl (my rfl) aD pB))))) (aE (cO (fG bj cy db cU (pv 1) (aR (pv 4)))))))))
  (aE (aO (pv 1))))))),?_⟩
 have rl:=gE rs;have tl:=dX rs 0;refine⟨bu _,fun l1 hl1=>?_⟩;obtain⟨H1,e0,s1,h1⟩:=mZ hl1 (.lst []);rw[e0];clear e0;refine⟨_,rfl,p,rs,rfl,s1 _ _ hp,by lia,fun r z H2 s2 h2 t2=>⟨r,_,rfl,bJ.of h2,?_⟩⟩;have zl:=t2.length;rw[ac] at zl;have t2r:=wJ t2;refine yR (K:=K) (a:=r) (xs:=z) (fun i ys σ G=>bA H2 G/\(∃v,σ=[v])/\fM (kY G) ys (((rs.map fun r=>qQ 0 (("row": Str),r)).reverse).take i))
  (hG (by lia)) ⟨bA.refl _,⟨_,rfl⟩,trivial⟩ (by rintro i ys σ G ⟨_,_,e⟩;rw[e.length,bx];lia) (by rintro i ys σ G _ ⟨e,_⟩;exact bJ.of (e _ _ h2)) ?_ ?_
 ·rintro i v ys σ G hv ⟨s3,⟨v',rfl⟩,tw⟩;obtain⟨s,hs,q,rfl,hq⟩:=mL t2r hv;refine⟨_,rfl,q,_,_,.str s.1,rfl,rfl,aQ.of (s3 _ _ hq),rfl,_,rfl,q,_,_,.ref s.2.p,rfl,rfl,aQ.of (s3 _ _ hq),rfl,by show 3<=sizeLine;decide,fun t ht=>⟨s3.trans (aB ht _),⟨_,rfl⟩,?_⟩⟩;have hs0:=List.mem_reverse.mp (bg hs);obtain⟨r9,_,e9⟩:=dj.mp hs0;have hs9:((rs.map fun r=>qQ 0 (("row": Str),r)).reverse)[i]?=some (qQ 0 s):=by
   rw[<-sQ, <-vf,df,hs];rfl
  rw[bE hs9];exact fM.append (tw.mono fun _ _ z=>kY.ts (.of (aB ht _)) z) ⟨⟨t,_,rfl,aC,fun z=>absurd (by rw[<-e9];rfl) z⟩,trivial⟩
 rintro ys σ G ⟨s3,_,tw⟩ lw hlw;have el:z.length=((rs.map fun r=>qQ 0 (("row": Str),r)).reverse).length:=by rw[eh,ac];exact zl
 rw[el,cg] at tw;have s4:=s1.trans (s2.trans (s3.trans (aB hlw (.lst ys))));have h4:aN G lw (.lst ys) lw=some (.lst ys):=aC;have ne:lw≠l1:=(aK ((s2.trans s3) _ _ h1) hlw).symm;have g1:aN G lw (.lst ys) l1=some (.lst []):=(aH ne.symm).trans ((s2.trans s3) _ _ h1);have nw:H lw=none:=(s1.trans (s2.trans s3)).free hlw;replace tw:=tw.mono fun _ _ z=>kY.ts (.of (aB hlw (.lst ys))) z
 generalize aN G lw (.lst ys)=H4 at s4 h4 g1 tw ⊢;refine⟨fun m σ G=>∃(em stk:List Stp) (ez wz:List V) (n:Nat) (v4 v5:Option V),σ=[some (.ref p),some (.ref l1),some (.int n),some (.ref lw),v4,v5]/\bA H G/\G l1=some (.lst ez)/\fM (mX G) ez em/\G lw=some (.lst wz)/\fM (kY G) wz stk.reverse/\em++fH n stk=bY 0 rs/\(∀s∈stk,eB H s.2.1/\s.2.1.cnt<=4000)/\m=(fH n stk).length,
  ⟨_,[],rs.map fun r=>qQ 0 (("row": Str),r),[],ys,0,none,none,rfl,s4,g1,trivial,h4,tw,(jK rs 0 0).1,fun s hs=>by
   obtain⟨r0,m0,e0⟩:=dj.mp hs;rw[<-e0];have:=vY m0;exact⟨hR.mem _ m0,by show r0.cnt<=4000;lia⟩,rfl⟩,?_⟩
 clear tw h4 g1;rintro m σ G ⟨em,stk,ez,wz,n,v4,v5,rfl,s5,g1,t5,g2,t6,eq,hs,rfl⟩;refine⟨_,rfl,_,.inl ⟨_,bJ.of g2,rfl⟩,?_⟩;have lt:=ej List.length eq;rw[ah] at lt;have ls:=oO stk n;have l5:=t5.length;have l6:=t6.length;rw[eh] at l6
 cases stk with
 |nil =>
  obtain rfl:wz=[]:=jb.mp l6;refine aS (by simp) ?_;rw[fH,gp] at eq;rw[eq] at t5;exact⟨_,rfl,k l1 ez G s5 hl1 g1 t5⟩
 |cons s bS =>
  rw[dg] at t6;obtain⟨us,u,rfl,t7,q,n0,rfl,hq,hn0⟩:=zF t6;refine bH (by simp) ?_;have hS:=hs s ao;rw[bt] at ls l6;rw[ah,bt,qj] at l6;refine⟨fun σ' G'=>∃(em' stk':List Stp) (ez' wz':List V) (n':Nat) (v4 v5:Option V),σ'=[some (.ref p),some (.ref l1),some (.int n'),some (.ref lw),v4,v5]/\bA H G'/\G' l1=some (.lst ez')/\fM (mX G') ez' em'/\G' lw=some (.lst wz')/\fM (kY G') wz' stk'.reverse/\em'++fH n' stk'=bY 0 rs/\(∀s∈stk',eB H s.2.1/\s.2.1.cnt<=4000)/\(fH n' stk').length+1=(fH n (s::bS)).length,
   (by rintro σ' G' ⟨em',stk',ez',wz',n',v4',v5',e1,e2,e3,e4,e5,e6,e7,e8,e9⟩;exact⟨_,by lia,em',stk',ez',wz',n',v4',v5',e1,e2,e3,e4,e5,e6,e7,e8,rfl⟩),?_⟩
  refine⟨_,rfl,.inl ⟨rfl,_,bJ.of g2⟩,lw,_,V.ref q,rfl,rfl,g2,by simp,?_⟩;rw[iz];have ts6:=TS.lst (ys:=us) g2;have s6:=cH (ys:=us) s5 nw;have g3:aN G lw (.lst us) lw=some (.lst us):=aC;have g4:aN G lw (.lst us) l1=some (.lst ez):=(aH ne.symm).trans g1;have hq6:=ts6 _ _ hq;replace t5:=t5.mono fun _ _ z=>mX.ts ts6 z
  replace t7:=t7.mono fun _ _ z=>kY.ts ts6 z
  generalize aN G lw (.lst us)=G1 at s6 g3 g4 hq6 t5 t7 ⊢;refine⟨_,rfl,q,_,_,.str s.1,rfl,rfl,aQ.of hq6,rfl,rfl,_,rfl,?_⟩
  by_cases c:s.1="row"
  ·refine bH (by rw[c];exact ag rfl) ?_;obtain⟨s1',r0,k0⟩:=s;have c:s1'="row":=c;subst c;have ex:fH n ((("row": Str),r0,k0)::bS)=(("row": Str),r0,n)::fH (n+1) ((fB r0).map (qQ n)++bS):=aJ6 rfl;have li:=oO ((fB r0).map (qQ n)++bS) (n+1);rw[ah,ac] at li;rw[ex,bt] at lt;refine⟨_,rfl,q,_,_,.ref r0.p,rfl,rfl,aQ.of hq6,rfl,?_⟩;refine⟨_,rfl,.inl ⟨rfl,_,bJ.of g4⟩,_,rfl,_,rfl,by show 3<=sizeLine;decide,fun t ht=>?_⟩;have s7:=s6.trans (aB ht (.tup [.str "row",.ref r0.p,.int n]));have nt1:l1≠t:=aK g4 ht;have nt2:lw≠t:=aK g3 ht;have g5:aN G1 t (.tup [.str "row",.ref r0.p,.int n]) l1=_:=(aH nt1).trans g4;have g6:aN G1 t (.tup [.str "row",.ref r0.p,.int n]) lw=_:=(aH nt2).trans g3;have et:mX (aN G1 t (.tup [.str "row",.ref r0.p,.int n])) (.ref t) (("row": Str),r0,n):=⟨t,rfl,aC⟩
   replace t5:=t5.mono fun _ _ z=>mX.ts (.of (aB ht (.tup [.str "row",.ref r0.p,.int n]))) z
   replace t7:=t7.mono fun _ _ z=>kY.ts (.of (aB ht (.tup [.str "row",.ref r0.p,.int n]))) z
   generalize aN G1 t (.tup [.str "row",.ref r0.p,.int n])=G2 at s7 g5 g6 et t5 t7 ⊢;refine⟨l1,_,_,rfl,rfl,g5,hG (by lia),?_⟩;have ts8:=TS.lst (ys:=ez++[.ref t]) g5;have s8:=cH (ys:=ez++[.ref t]) s7 hl1;have g7:aN G2 l1 (.lst (ez++[.ref t])) l1=some (.lst (ez++[.ref t])):=aC;have g8:aN G2 l1 (.lst (ez++[.ref t])) lw=some (.lst us):=(aH ne).trans g6;have t8:=fM.append (t5.mono fun _ _ z=>mX.ts ts8 z) (show fM (mX (aN G2 l1 (.lst (ez++[.ref t])))) [.ref t] [(("row": Str),r0,n)] from⟨et.ts ts8,trivial⟩);replace t7:=t7.mono fun _ _ z=>kY.ts ts8 z
   generalize aN G2 l1 (.lst (ez++[.ref t]))=G3 at s8 g7 g8 t8 t7 ⊢;refine⟨_,rfl,.inl ⟨rfl,_,bJ.of g8⟩,_,rfl,r0,rfl,eB.ts (.of s8) r0 hS.1,hS.2,fun qi zi H9 s9 h9 t9=>⟨qi,_,rfl,bJ.of h9,?_⟩⟩;have t9r:=wJ t9;have zl9:=t9.length;refine yR (K:=K) (a:=qi) (xs:=zi) (fun i ys σ G=>bA H9 G/\(∃v,σ=[v,some (.int n)])/\fM (kY G) ys (((fB r0).map (qQ n)).reverse.take i))
    (hG (by lia)) ⟨bA.refl _,⟨_,rfl⟩,trivial⟩ (by rintro i ys σ G ⟨_,_,e⟩;rw[e.length,bx];lia) (by rintro i ys σ G _ ⟨e,_⟩;exact bJ.of (e _ _ h9)) ?_ ?_
   ·rintro i v ys σ G hv ⟨s3,⟨v',rfl⟩,tw⟩;obtain⟨s,hs,q,rfl,hq⟩:=mL t9r hv;refine⟨_,rfl,q,_,_,.str s.1,rfl,rfl,aQ.of (s3 _ _ hq),rfl,_,rfl,q,_,_,.ref s.2.p,rfl,rfl,aQ.of (s3 _ _ hq),rfl,_,rfl,by show 3<=sizeLine;decide,fun t ht=>⟨s3.trans (aB ht _),⟨_,rfl⟩,?_⟩⟩;have hs9:(((fB r0).map (qQ n)).reverse)[i]?=some (qQ n s):=by rw[<-vf,df,hs];rfl
    rw[bE hs9];exact fM.append (tw.mono fun _ _ z=>kY.ts (.of (aB ht _)) z) ⟨⟨t,_,rfl,aC,fun _=>rfl⟩,trivial⟩
   rintro ys σ G5 ⟨s10,_,tw⟩ l10 hl10;have el:zi.length=((fB r0).map (qQ n)).reverse.length:=by rw[eh,ac];exact zl9
   rw[el,cg] at tw;have s11:=s9.trans (s10.trans (aB hl10 (.lst ys)));have h11:aN G5 l10 (.lst ys) l10=some (.lst ys):=aC;have n10:lw≠l10:=aK ((s9.trans s10) _ _ g8) hl10;replace tw:=tw.mono fun _ _ z=>kY.ts (.of (aB hl10 (.lst ys))) z
   generalize aN G5 l10 (.lst ys)=G6 at s11 h11 tw ⊢;have yl:=tw.length;rw[eh,ac] at yl;refine⟨lw,l10,_,_,rfl,rfl,s11 _ _ g8,h11,bp (hG (by lia)),?_⟩;have ts12:=(TS.of s11).trans (TS.lst (ys:=us++ys) (s11 _ _ g8));refine⟨_,rfl,_,_,rfl,rfl,em++[(("row": Str),r0,n)],(fB r0).map (qQ n)++bS,_,_,n+1,_,_,rfl,cH (s8.trans s11) nw,(aH ne.symm).trans (s11 _ _ g7),t8.mono fun _ _ z=>mX.ts ts12 z,aC,?_,?_,fun s hs'=>?_,?_⟩
   ·rw[xw];exact fM.append (t7.mono fun _ _ z=>kY.ts ts12 z) (tw.mono fun _ _ z=>kY.ts (TS.lst (s11 _ _ g8)) z)
   ·rw[<-eq,ex];simp
   ·rcases bq.mp hs' with e|e
    ·obtain⟨s9,m9,e9⟩:=dj.mp e;rw[<-e9];exact bA2 hS.1 hS.2 m9
    ·exact hs s (aq _ e)
   ·rw[ex,bt]
  ·refine aS (fun z=>c (by have z:=ae z;injection z)) ?_;have ex:=kP (s:=s) (k:=n) (r:=bS) c;have:=oO bS n;rw[ex,bt] at lt;have hn1:=hn0 c;refine⟨_,rfl,.inl ⟨rfl,_,bJ.of g4⟩,_,rfl,l1,_,_,rfl,rfl,g4,hG (by lia),?_⟩;have ts8:=TS.lst (ys:=ez++[.ref q]) g4;refine⟨em++[s],bS,_,_,n,_,_,rfl,cH s6 hl1,aC,fM.append (t5.mono fun _ _ z=>mX.ts ts8 z) ⟨⟨q,rfl,by rw[<-hn1];exact ts8 _ _ hq6⟩,trivial⟩,(aH ne).trans g3,t7.mono fun _ _ z=>kY.ts ts8 z,?_,fun s hs'=>hs s (aq _ hs'),?_⟩
   ·rw[<-eq,ex];simp
   ·rw[ex,bt]
def bQ3 (C_Sts:Cl P w K mg base 3 spSteps "steps_of"):gG P w K mg base "rows_in" "rows_in" cB5 4 ["program"] spRowsIn:=by
 refine iT ["program"] fun H Q nd hr h=>?_
 obtain⟨p,ks,rs,m,rfl,P0,k⟩:=h;refine⟨_,(aE (aO (cY ["word","row","number"] [none,none,none] (dE (bW C_Sts hr (aR (bQ aI (pv 0) aD)))) (fun _ _ _ _=>(bU1 K (n:=3) rfl (bG (fK 0) (bG (fK 1) (bG (fK 2) fO))))) (fun _ _ _ _=>(lN (dZ bO (pv 0) aG))) (fun _ _ _ _=>(pv 1))))),?_⟩;obtain⟨pk,pr,hp,hk,hpr⟩:=P0.ex;have tl:=dX rs 0;have c0:=P0.cnt;have m4:=P0.m4;refine⟨_,rfl,p,_,_,.ref pr,rfl,rfl,aQ.of hp,rfl,pr,rs,rfl,hpr,P0.rows,by lia,fun r zs H1 s1 _ h1 t1=>⟨r,rfl,⟨_,bJ.of h1⟩,?_⟩⟩;have zl:=t1.length;refine dJ (K:=K) (a:=r) (xs:=zs) (fun i ys σ G=>G=H1/\(∃v1 v2 v3,σ=[v1,v2,v3])/\ys=bN ((((bY 0 rs).take i).filter fF).map (·.2.1)))
  (hG (by lia)) ⟨rfl,⟨_,_,_,rfl⟩,rfl⟩ (fun i ys σ G ⟨_,_,e⟩=>by
   rw[e,bB,ac];exact cm (jy _ _) (by rw[bx];lia)) (by rintro i ys σ G _ ⟨e,_⟩;rw[e];exact bJ.of h1) ?_ ?_
 ·rintro i v ys σ G hv ⟨rfl,⟨v1,v2,v3,rfl⟩,rfl⟩;obtain⟨s,hs,q,rfl,hq⟩:=mL t1 hv;refine⟨q,_,rfl,aQ.of hq,rfl,_,_,rfl,_,_,rfl,_,_,rfl,rfl,?_⟩;refine⟨_,rfl,rfl,_,rfl,?_⟩;rw[bE hs,fj,av,dO]
  by_cases c:s.1="row"
  ·refine bH (by rw[c];exact ag rfl) ⟨_,rfl,rfl,⟨_,_,_,rfl⟩,?_⟩;rw[dh (p:=fF) (ag c)];rfl
  ·refine aS (fun z=>c (by have z:=ae z;injection z)) ⟨rfl,⟨_,_,_,rfl⟩,?_⟩;rw[dw (p:=fF) (by unfold fF;simpa using c)];simp[bN]
 ·rintro ys σ G ⟨rfl,_,rfl⟩ l hl;rw[zl,cg,fQ];exact k l _ (s1.trans (aB hl _)) (s1.free hl) aC
def bW5: gG P w K mg base "begins_rows" "begins_rows" bZ2 1 ["word","row"] spBegins:=by
 refine iT ["word","row"] fun H Q nd hr h=>?_
 obtain⟨s,rfl,hr0,k⟩:=h;refine⟨_,(aE (aO (aG4 (oK bO (pv 0) aG) (eG (eX (oK bO (pv 0) aG) (eG (oK dN (bQ aI (pv 1) aD) (aY (aA aG (aR aG)))))))))),?_⟩;refine⟨_,rfl,rfl,_,rfl,?_⟩;unfold fC wQ at k
 by_cases c:s.1="else"
 ·rw[ag c,Bool.true_or] at k;exact bH (by rw[c];exact ag rfl) (k _ (bA.refl _))
 refine aS (fun z=>c (by have z:=ae z;injection z)) ?_;rw[ba c,xh] at k;refine⟨_,rfl,rfl,_,rfl,?_⟩
 by_cases c2:s.1="row"
 ·rw[ag c2,sw] at k;refine bH (by rw[c2];exact ag rfl) ?_;refine⟨_,rfl,s.2.1.p,_,_,.str s.2.1.w,rfl,rfl,aQ.of hr0.at,iY,eW,fun t2 ht2=>?_⟩;refine⟨t2,(["when","times"]:List Str).map V.str,rfl,.inr (aQ.of aC),rfl,cA _,?_⟩;rw[dS];exact k _ (aB ht2 _)
 ·rw[ba c2,Bool.false_and] at k;exact aS (fun z=>c2 (by have z:=ae z;injection z)) (k _ (bA.refl _))
def bM6: gG P w K mg base "first_is_amiss" "first_is_amiss" cE3 1 ["row"] spFirstA:=by
 refine iT ["row","mark","steepness","low","high"] fun H Q nd hr h=>?_
 obtain⟨p,x,us,am,rfl,hp,ok,k⟩:=h;refine⟨_,(eQ 1 nd (bQ aI (pv 0) aD)
  (eQ 2 nd (bQ aI (pv 0) aD)
  (eQ 3 nd (bQ aI (pv 0) aD)
  (eQ 4 nd (bQ aI (pv 0) aD)
  (aE (aO (aG4 (oK rQ (pv 4) (pv 3)) (aG4 (aO1 (aO4 rQ rQ (pv 3) (pv 1) (pv 4))) (eG (oK jB (aP iL aD (bQ aI (pv 2) aD)) (bQ aI (pv 2) aD))))))))))),?_⟩
 rcases ok with⟨m,_⟩|⟨m,_⟩|⟨_,mark,a,q,c,lo,hi,y,z,rfl,hq,_,h1,h2,rfl⟩
 ·exact absurd m (by decide)
 ·exact absurd m (by decide)
 refine⟨_,rfl,p,_,_,.int mark,rfl,rfl,aQ.of hp,rfl,?_⟩;refine⟨_,rfl,p,_,_,.ref q,rfl,rfl,aQ.of hp,rfl,?_⟩;refine⟨_,rfl,p,_,_,.int lo,rfl,rfl,aQ.of hp,rfl,?_⟩;refine⟨_,rfl,p,_,_,.int hi,rfl,rfl,aQ.of hp,rfl,?_⟩;refine⟨_,rfl,_,rfl,_,_,rfl,rfl,_,rfl,?_⟩
 by_cases c1:hi<=lo
 ·rw[ag (.inl c1)] at k;exact bH (ag c1) k
 refine aS (fun z=>c1 (ae z)) ?_;refine⟨_,rfl,_,rfl,_,_,rfl,rfl,_,rfl,?_⟩
 by_cases c2:lo<=mark
 ·refine bH (ag c2) ⟨_,rfl,_,_,rfl,rfl,_,rfl,_,rfl,?_⟩
  by_cases c3:mark<=hi
  ·refine aS (by rw[ag c3];decide) ?_;refine⟨_,rfl,q,_,_,.int y,rfl,rfl,aQ.of hq,rfl,_,_,rfl,rfl,.inl ⟨by decide,by decide⟩,_,rfl,q,_,_,.int z,rfl,rfl,aQ.of hq,rfl,_,_,rfl,rfl,?_⟩;show Q (.bl (decide (z<2*y))) H;rw[show decide (hi<=lo\/¬(lo<=mark/\mark<=hi)\/z<2*y)=decide (z<2*y) from vg.mpr ⟨fun h=>by lia,fun h=> .inr (.inr h)⟩] at k;exact k
  ·rw[ag (.inr (.inl fun z=>c3 z.2))] at k;exact bH (by rw[ba c3];rfl) k
 ·rw[ag (.inr (.inl fun z=>c2 z.1))] at k;refine aS (fun z=>c2 (ae z)) ⟨_,rfl,_,rfl,?_⟩;exact bH rfl k
def bR2 (m_THROWS:mg "THROWS"=some (.ref cT))(hT:∀H,aQ K H cT (cX.map V.str))(C_FiA:Cl P w K mg base 1 spFirstA "first_is_amiss"):gG P w K mg base "range_is_amiss" "range_is_amiss" bZ3 2 ["row"] spRangeA:=by
 refine iT ["row"] fun H Q nd hr h=>?_
 obtain⟨r,rfl,hr0,k⟩:=h;refine⟨_,(aF (bD (dZ bO (bQ aI (pv 0) aD) aG) (aE (aO (bW C_FiA hr (aR (pv 0))))) aU)
  (aE (aO (eX (oK dN (bQ aI (pv 0) aD) (pgl m_THROWS)) (eG (oK jB (bQ aI (pv 0) aD) (bQ aI (pv 0) aD))))))),?_⟩
 refine⟨_,rfl,r.p,_,_,.str r.w,rfl,rfl,aQ.of hr0.at,iY,rfl,_,rfl,?_⟩
 by_cases cf:r.w="first"
 ·refine bH (by rw[cf];exact ag rfl) ?_;obtain⟨p,w,x,vs,am,rfl⟩:∃p w x vs am,r= .thr p w x vs am:=by
   cases r with
   |thr p w x vs am=>exact⟨p,w,x,vs,am,rfl⟩
   |lt p x t=>exact absurd cf (by show ¬(("let": Str)="first");decide)
   |tell p t=>exact absurd cf (by show ¬(("tell": Str)="first");decide)
   |when p pa pb t a b=>exact absurd cf (by show ¬(("when": Str)="first");decide)
   |times p pb n b=>exact absurd cf (by show ¬(("times": Str)="first");decide)
  have cf:w="first":=cf;subst cf;exact⟨_,rfl,p,x,vs,am,rfl,hr0.1,hr0.2,k⟩
 refine aS (fun z=>cf (by have z:=ae z;injection z)) ?_;refine⟨_,rfl,r.p,_,_,.str r.w,rfl,rfl,aQ.of hr0.at,iY,cT,_,rfl,.inr (hT _),rfl,cA _,_,rfl,?_⟩;have ei:lV (V.str r.w) (cX.map V.str)=decide (r.w∈cX):=dS _ _
 by_cases c:r.w∈cX
 ·refine bH (ei.trans (ag c)) ?_;generalize hP:r.p=P
  cases r with
  |thr p w x vs am =>
   obtain rfl:p=P:=hP;rcases hr0.2 with⟨_,a,b,lo,hi,rfl,_,rfl⟩|⟨_,a,b,lo,hi,rfl,_,rfl⟩|⟨z,_⟩
   ·exact⟨_,rfl,p,_,_,.int lo,rfl,rfl,aQ.of hr0.1,rfl,_,rfl,p,_,_,.int hi,rfl,rfl,aQ.of hr0.1,rfl,_,_,rfl,rfl,k⟩
   ·exact⟨_,rfl,p,_,_,.int lo,rfl,rfl,aQ.of hr0.1,rfl,_,rfl,p,_,_,.int hi,rfl,rfl,aQ.of hr0.1,rfl,_,_,rfl,rfl,k⟩
   ·exact absurd z cf
  |lt p x t=>exact absurd (show("let": Str)∈cX from c) (by decide)
  |tell p t=>exact absurd (show("tell": Str)∈cX from c) (by decide)
  |when p pa pb t a b=>exact absurd (show("when": Str)∈cX from c) (by decide)
  |times p pb n b=>exact absurd (show("times": Str)∈cX from c) (by decide)
 ·refine aS (fun z=>c (ae (ei.symm.trans z))) ?_
  cases r with
  |thr p w x vs am=>exact absurd hr0.2.w c
  |lt p x t=>exact k
  |tell p t=>exact k
  |when p pa pb t a b=>exact k
  |times p pb n b=>exact k
def bT5: gG P w K mg base "in_both" "in_both" bZ4 1 ["one","other"] spBoth:=by
 refine iT ["one","other","both","name"] fun H Q nd hr h=>?_
 obtain⟨a,b,ka,kb,n,m,rfl,nab,Da,Db,hn,k⟩:=h;have hu:=gQ hr;refine⟨_,(eQ 2 nd lE
  (aF (pfr (wA (pv 0)) (fK 3 nd)
  (aE (bD (aD9 (wK hu (pv 3) (pv 1))) (aE (pdp hu (pv 2) (pv 3) gZ)) aU)))
  (aE (aO (pv 2))))),?_⟩
 refine fun d hd=>?_
 have s1:=aB hd (.dK []);have D1:Dk (aN H d (.dK [])) d [] 0:=Dk.new aC;obtain⟨kvs,ha,r1,r2,r3⟩:=Da.ex;have nda:a≠d:=aK ha hd;have ha1:=s1 _ _ ha;have Db1:=Db.at (s1 b);generalize aN H d (.dK [])=H1 at s1 D1 ha1 Db1 ⊢;refine⟨_,rfl,a,kvs,rfl,ha1,fun o=>?_⟩;have f2:∀c u,H c=some u->c≠a->aN H1 a (.frz o (.dK kvs)) c=some u:=fun c u e nc=>(aH nc).trans (s1 _ _ e)
 have D2:Dk (aN H1 a (.frz o (.dK kvs))) d [] 0:=D1.at fun u e=>(aH nda.symm).trans e
 have Db2:Dk (aN H1 a (.frz o (.dK kvs))) b kb m:=Db1.at fun u e=>(aH nab.symm).trans e
 have ha2:aN H1 a (.frz o (.dK kvs)) a=some (.frz o (.dK kvs)):=aC;generalize aN H1 a (.frz o (.dK kvs))=H2 at f2 D2 Db2 ha2 ⊢;have ndb:d≠b:=by
  obtain⟨q,e,_⟩:=Db.ex;exact(aK e hd).symm
 refine vC (d:=a) (o:=o) (kvs:=kvs) (fun i σ G=>∃v3,σ=[some (.ref a),some (.ref b),some (.ref d),v3]/\(∀c u,H c=some u->c≠a->G c=some u)/\Dk G d ((aL2 (kvs.take i)).filter fun x=>decide (x∈kb)) i/\Dk G b kb m/\G a=some (.frz o (.dK kvs)))
  ⟨_,rfl,f2,D2,Db2,ha2⟩ (by rintro i σ G _ ⟨_,_,_,_,_,e⟩;exact e) ?_ ?_
 ·rintro D' i ky v σ G hv ⟨v3,rfl,f3,D3,Db3,ha3⟩;have hi:=(bf.mp hv).1;obtain⟨x,hx⟩:=r2 _ (bg hv);have hx:ky=Sum.inr x:=hx;subst hx;have en:aL2 (kvs.take (i+1))=aL2 (kvs.take i)++[x]:=by unfold aL2;rw[bE hv,du];rfl
  obtain⟨ov,g1,g2⟩:=Db3.get x;refine⟨_,rfl,_,rfl,b,ov,rfl,g1,_,rfl,?_⟩;rw[g2,en,fj]
  by_cases c:x∈kb
  ·refine bH (ag c) ?_;obtain⟨ob,p1,p2,qq,rfl⟩:=D3.put (by lia) x (.bl true);refine⟨_,rfl,_,rfl,d,_,rfl,p1,_,rfl,fun c u e nc=>?_,?_,Db3.at fun u e=>(aH ndb.symm).trans e,(aH nda).trans ha3⟩
   ·rw[aH (aK e hd)];exact f3 c u e nc
   ·rw[dh (p:=fun x=>decide (x∈kb)) (ag c)];exact p2
  ·refine aS (by simpa using c) ⟨_,rfl,f3,?_,Db3,ha3⟩;rw[dw (p:=fun x=>decide (x∈kb)) (by simpa using c)]
   simpa using D3.more (fw i)
 ·rintro σ G ⟨v3,rfl,f3,D3,Db3,ha3⟩;refine⟨_,rfl,k d G f3 hd ((D3.ext fun x=>?_).more r3)⟩;rw[cg,dk,dk,aP4,r1 x]
def bN7 (C_RnA:Cl P w K mg base 2 spRangeA "range_is_amiss"):gG P w K mg base "range_faults" "range_faults" cF2 3 ["steps"] spRangeF:=by
 refine iT ["steps"] fun H Q nd hr h=>?_
 obtain⟨ls,zs,rs,rfl,SH,k⟩:=h;refine⟨_,(aE (aO (cY ["word","row","number"] [none,none,none] (dE (pv 0)) (fun _ _ _ _=>(bU1 K (n:=3) rfl (bG (fK 0) (bG (fK 1) (bG (fK 2) fO))))) (fun _ _ _ _=>(lN (PW.pt (jZ (dZ bO (pv 0) aG) (kE (fJ (bW C_RnA hr (aR (pv 1))))))))) (fun _ _ _ _=>(aY (aA (pv 2) (aA aD (aR aG)))))))),?_⟩;obtain⟨h1,t1,hR,hc⟩:=SH;have zl:=t1.length;have tl:=dX rs 0;refine⟨_,rfl,ls,rfl,⟨_,bJ.of h1⟩,dJ (K:=K) (a:=ls) (xs:=zs) (fun i ys σ G=>bA H G/\(∃v1 v2 v3,σ=[v1,v2,v3])/\fM (mG G) ys (((bY 0 rs).take i).filterMap rgF))
  (hG (by lia)) ⟨bA.refl _,⟨_,_,_,rfl⟩,trivial⟩ (by rintro i ys σ G ⟨_,_,e⟩;rw[e.length];exact cm (gi _ _) (by rw[bx];lia)) (by rintro i ys σ G _ ⟨e,_⟩;exact bJ.of (e _ _ h1)) ?_ ?_⟩
 ·rintro i v ys σ G hv ⟨s2,⟨v1,v2,v3,rfl⟩,tw⟩;obtain⟨s,hs,q,rfl,hq⟩:=mL t1 hv;have hrs:=fA rs 0 hR s (bg hs);rw[bI0 hs];refine⟨q,_,rfl,aQ.of (s2 _ _ hq),rfl,_,_,rfl,_,_,rfl,_,_,rfl,rfl,?_⟩;refine⟨_,rfl,rfl,_,rfl,?_⟩
  by_cases c:s.1="row"
  ·refine bH (by rw[c];exact ag rfl) ⟨_,rfl,s.2.1,rfl,eB.ts (.of s2) _ hrs,_,rfl,?_⟩
   cases ha:s.2.1.ams with
   |true =>
    refine bH rfl ⟨_,rfl,by show 3<=sizeLine;decide,fun t ht=>⟨s2.trans (aB ht _),⟨_,_,_,rfl⟩,fM.append (tw.mono fun _ _ z=>mG.ts (.of (aB ht _)) z) ?_⟩⟩;rw[show rgF s=some ((s.2.2:Int),0) by unfold rgF;rw[bb c,bb ha]];exact⟨⟨t,rfl,by rw[cH2];exact aC⟩,trivial⟩
   |false =>
    refine aS (by decide) ⟨s2,⟨_,_,_,rfl⟩,?_⟩;rw[show rgF s=none by unfold rgF;rw[bb c,au (by rw[ha];exact bh)]]
    simpa using tw
  ·refine aS (fun z=>c (by have z:=ae z;injection z)) (aS (by decide) ⟨s2,⟨_,_,_,rfl⟩,?_⟩);rw[wO c]
   simpa using tw
 ·rintro ys σ G ⟨s2,_,tw⟩ l hl;rw[zl,cg,lL] at tw;exact k l ys _ (s2.trans (aB hl _)) (s2.free hl) aC (tw.mono fun _ _ z=>mG.ts (.of (aB hl _)) z)
def bR3 (C_SeN:Cl P w K mg base 1 spSetsN "sets_name")(C_Bth:Cl P w K mg base 1 spBoth "in_both")(C_Ask:Cl P w K mg base 3 spAsked "names_asked")(m_all:mg "all"=none)(m_dict:mg "dict"=none):gG P w K mg base "unknown_faults" "unknown_faults" bX3 4 ["steps"] spUnkF:=by
 refine iT ["steps","faults","known","kept","word","row","number","ahead"] fun H Q nd hr h=>?_
 obtain⟨ls,zs,rs,rfl,SH,k⟩:=h;have hu:=gQ hr;refine⟨_,(eQ 1 nd (cC cJ)
  (eQ 2 nd lE
  (eQ 3 nd (cC cJ)
  (aF (pfr (dE (pv 0)) (jE rfl (bG (fK 4 nd) (bG (fK 5 nd) (bG (fK 6 nd) fO))))
  (aE (bD (dZ bO (pv 4) aG) (aF (gD (bD (gW (fJ (iF nO m_all mh (aR (cY ["name","known"] [none,some 2] (dE (bW C_Ask hr (aR (pv 5)))) (fun _ _ _ _=>(fK 0)) (fun _ _ _ _=>eE) (fun _ _ _ _=>(bT4 (wK hu (pv 0) (pv 1))))))))) (aE (cO (fG bj cy db cU (pv 1) (aR (aY (aA (pv 6) (aA aD (aR aG)))))))) aU))
  (aF (gD (bD (fJ (bW C_SeN hr (aR (pv 5)))) (aE (pdp hu (pv 2) (bQ aI (pv 5) aD) gZ)) aU))
  (aE (bD (dZ bO (bQ aI (pv 5) aD) aG) (aE (cO (fG bj cy db cU (pv 3) (aR (oR zQ m_dict wb (aR (pv 2))))))) aU)))) (aE (bD (dZ bO (pv 4) aG) (eQ 7 nd (lM bj gj gm kW (pv 3))
  (aF (cO (fG bj cy db cU (pv 3) (aR (pv 2))))
  (aE (pW 2 nd (pv 7))))) (aE (bD (dZ bO (bQ aI (pv 5) aD) aG) (aE (pW 2 nd (bW C_Bth hr (aA (lM bj gj gm kW (pv 3)) (aR (pv 2)))))) aU)))))))
  (aE (aO (pv 1))))))),?_⟩
 obtain⟨h1,t1,hR,hc⟩:=SH;have zl:=t1.length;have tl:=dX rs 0;have full:=qR rs 0 [] [] [];refine⟨bu _,fun lf hlf=>?_⟩;obtain⟨HA,e0,sA,gA⟩:=mZ hlf (.lst []);rw[e0];clear e0;refine fun kd hkd=>?_
 have hkd0:=sA.free hkd;have sB:=sA.trans (aB hkd (.dK []));have gB:=aB hkd (.dK []) _ _ gA;have dB:Dk (aN HA kd (.dK [])) kd [] 0:=Dk.new aC;generalize aN HA kd (.dK [])=HB at sB gB dB ⊢;refine⟨bu _,fun lk hlk=>?_⟩;have hlk0:=sB.free hlk;have nfk:lf≠lk:=aK gB hlk;have sC:=sB.trans (aB hlk (.lst []));have gC:=aB hlk (.lst []) _ _ gB;have dC:=dB.at (aB hlk (.lst []) kd);have kC:aN HB lk (.lst []) lk=some (.lst []):=aC;generalize aN HB lk (.lst [])=HC at sC gC dC kC ⊢;refine⟨_,rfl,ls,rfl,⟨_,bJ.of (sC _ _ h1)⟩,iD (K:=K) (a:=ls) (xs:=zs) (fun i σ G=>∃(kd:Addr) (ads:List Addr) (fz:List V) (F:List Ft) (kn:List Str) (kp:List (List Str)) (v4 v5 v6 v7:Option V),σ=[some (.ref ls),some (.ref lf),some (.ref kd),some (.ref lk),v4,v5,v6,v7]/\bA H G/\G lf=some (.lst fz)/\fM (mG G) fz F/\G lk=some (.lst (ads.reverse.map V.ref))/\(kd::ads).Nodup/\(∀a∈kd::ads,H a=none)/\qM G i (kd::ads) (kn::kp)/\dU iK ((bY 0 rs).take i) ([],[],[])=some (F,kn,kp))
  ⟨kd,[],[],[],[],[],_,_,_,_,rfl,sC,gC,trivial,kC,by simp,fun a ha=>by rw[List.mem_singleton.mp ha];exact hkd0,⟨dC,trivial⟩,rfl⟩ (by rintro i σ G _ ⟨_,_,_,_,_,_,_,_,_,_,_,e,_⟩;exact bJ.of (e _ _ h1)) ?_ ?_⟩
 ·rintro D' i v σ G hv ⟨kd,ads,fz,F,kn,kp,v4,v5,v6,v7,rfl,s3,gf,tF,gk,nd,fr,DL,hrun⟩;obtain⟨s,hs,q,rfl,hq0⟩:=mL t1 hv;have hi:=(bf.mp hs).1;obtain⟨⟨F',kn',kp'⟩,e1,e2⟩:=vZ iK full hs hrun;have kl:=oN (fun st:USt=>st.2.2.length) cA2 _ _ _ hrun;have fl:=oN (fun st:USt=>st.1.length) bQ6 _ _ _ hrun;have lF:=tF.length;simp only[List.length_nil,List.length_take] at kl fl;have al:=DL.len;simp only[List.length_cons] at al;have kl:kp.length<=i:=by lia
  have hq:=s3 _ _ hq0;have hrs0:=fA rs 0 hR s (bg hs);have hw:=eB.wd _ hrs0;have hrs:=eB.ts (.of s3) s.2.1 hrs0;refine⟨q,_,rfl,aQ.of hq,rfl,_,_,rfl,_,_,rfl,_,_,rfl,rfl,?_⟩;refine⟨_,rfl,rfl,_,rfl,?_⟩;have dks:=DL.is;have nlk:∀a∈kd::ads,a≠lk:=fun a ha z=>by
   obtain⟨w,e⟩:=dks a ha;rw[z,gk] at e;cases e
  have nlf:∀a∈kd::ads,a≠lf:=fun a ha z=>by
   obtain⟨w,e⟩:=dks a ha;rw[z,gf] at e;cases e
  unfold iK at e1
  by_cases c:s.1="row"
  ·rw[bb c] at e1;refine bH (by rw[c];exact ag rfl) ?_;refine⟨fun σ' G'=>∃fz',σ'=[some (.ref ls),some (.ref lf),some (.ref kd),some (.ref lk),some (.str s.1),some (.ref s.2.1.p),some (.int s.2.2),v7]/\bA H G'/\G' lf=some (.lst fz')/\fM (mG G') fz' (F++tT s.2.2 kn s.2.1.asked)/\G' lk=some (.lst (ads.reverse.map V.ref))/\qM G' i (kd::ads) (kn::kp),?_,?_⟩
   ·refine⟨_,rfl,s.2.1,rfl,hrs,fun rq H4 s4 h4=>⟨rq,rfl,⟨_,bJ.of h4⟩,?_⟩⟩;have DL4:=DL.at (aj _) fun a _ o e=>s4 _ _ e
    have al':s.2.1.asked.length<=9000000:=aL4 hrs0;refine dJ (K:=K) (a:=rq) (xs:=s.2.1.asked.map V.str) (fun j ys σ G'=>G'=H4/\(∃v,σ=[v,some (.ref kd)])/\ys=(s.2.1.asked.take j).map fun y=>V.bl (decide (y∈kn)))
     (hG (by rw[ac];exact al')) ⟨rfl,⟨_,rfl⟩,rfl⟩ (by rintro j ys σ G' ⟨_,_,e⟩;rw[e,ac,bx];lia) (by rintro j ys σ G' _ ⟨e,_⟩;rw[e];exact bJ.of h4) ?_ ?_
    ·rintro j v ys σ G' hv ⟨rfl,⟨v',rfl⟩,rfl⟩;obtain⟨y,rfl,hy⟩:=iC hv;obtain⟨ov,g1,g2⟩:=DL4.1.get y;refine⟨_,rfl,_,rfl,kd,ov,rfl,g1,rfl,⟨_,rfl⟩,?_⟩;rw[g2,bE hy,av];rfl
    rintro ys σ G' ⟨rfl,_,rfl⟩ l5 hl5;rw[ac,cg];have s5:=s4.trans (aB hl5 (.lst (s.2.1.asked.map fun y=>V.bl (decide (y∈kn)))));have h5:aN G' l5 (.lst (s.2.1.asked.map fun y=>V.bl (decide (y∈kn)))) l5=some (.lst ((s.2.1.asked.map fun y=>decide (y∈kn)).map V.bl)):=by rw[aC,jn];rfl
    generalize aN G' l5 (.lst (s.2.1.asked.map fun y=>V.bl (decide (y∈kn))))=G5 at s5 h5 ⊢;refine⟨l5,_,rfl,bJ.of h5,_,rfl,?_⟩;have DL5:=DL.at (aj _) fun a _ o e=>s5 _ _ e
    have tF5:=tF.mono fun _ _ z=>mG.ts (.of s5) z
    have gf5:=s5 _ _ gf;have gk5:=s5 _ _ gk
    by_cases ca:∀y∈s.2.1.asked,y∈kn
    ·refine aS (by rw[aG0.mpr ca];decide) ⟨fz,rfl,s3.trans s5,gf5,?_,gk5,DL5⟩;unfold tT;rw[bb ca,gp];exact tF5
    ·refine bH (by rw[show(s.2.1.asked.map fun y=>decide (y∈kn)).all id=false from ue.mpr fun z=>ca (aG0.mp z)];rfl) ?_;refine⟨_,rfl,.inl ⟨rfl,_,bJ.of gf5⟩,_,rfl,by show 3<=sizeLine;decide,fun t ht=>?_⟩;have s6:=aB ht (.tup [.int s.2.2,.int 1,.str "unknown"]);have e6:mG (aN G5 t (.tup [.int s.2.2,.int 1,.str "unknown"])) (.ref t) ((s.2.2:Int),1):=⟨t,rfl,by rw[cG7];exact aC⟩
     have s36:=(s3.trans s5).trans s6;have gf6:=s6 _ _ gf5;have gk6:=s6 _ _ gk5;have DL6:=DL5.at (aj _) fun a _ o e=>s6 _ _ e
     have tF6:=tF5.mono fun _ _ z=>mG.ts (.of s6) z
     generalize aN G5 t (.tup [.int s.2.2,.int 1,.str "unknown"])=G6 at s6 e6 s36 gf6 gk6 DL6 tF6 ⊢;refine⟨lf,_,_,rfl,rfl,gf6,hG (by lia),fz++[.ref t],rfl,cH s36 hlf,aC,?_,(aH nfk.symm).trans gk6,DL6.at (aj _) fun a ha o e=>(aH (nlf a ha)).trans e⟩;unfold tT;rw[au ca];exact fM.append (tF6.mono fun _ _ z=>mG.ts (TS.lst gf6) z) ⟨e6.ts (TS.lst gf6),trivial⟩
   rintro σ1 G5 ⟨fz1,rfl,s35,gf5,tF5,gk5,DL5⟩;refine⟨fun σ' G'=>σ'=[some (.ref ls),some (.ref lf),some (.ref kd),some (.ref lk),some (.str s.1),some (.ref s.2.1.p),some (.int s.2.2),v7]/\bA H G'/\G' lf=some (.lst fz1)/\fM (mG G') fz1 (F++tT s.2.2 kn s.2.1.asked)/\G' lk=some (.lst (ads.reverse.map V.ref))/\qM G' (i+1) (kd::ads) ((kn++s.2.1.sets.toList)::kp),?_,?_⟩
   ·refine⟨_,rfl,s.2.1,rfl,eB.ts (.of s35) s.2.1 hrs0,_,rfl,?_⟩
    cases hst:s.2.1.sets with
    |none =>
     refine aS (by simp) ⟨rfl,s35,gf5,tF5,gk5,?_⟩;show qM G5 (i+1) (kd::ads) ((kn++[])::kp);rw[gp];exact DL5.at (fw _) fun a _ o e=>e
    |some x =>
     refine bH rfl ?_;obtain⟨us,hus⟩:=qI (eB.ts (.of s35) s.2.1 hrs0) hst;obtain⟨ob,p1,p2,qq,rfl⟩:=DL5.1.put (by lia) x (.bl true);obtain⟨w0,d0⟩:=DL5.is kd ao;refine⟨_,rfl,_,rfl,s.2.1.p,_,_,.str x,rfl,rfl,aQ.of hus,at1,kd,_,rfl,p1,rfl,?_,?_,tF5.mono fun _ _ z=>mG.ts (fun c ys e=>(aH (gX e d0 (by intro z;cases z))).trans e) z,?_,p2,?_⟩
     ·intro b u e;rw[aH (aK e (fr kd ao))];exact s35 b u e
     ·rw[aH (nlf kd ao).symm];exact gf5
     ·rw[aH (nlk kd ao).symm];exact gk5
     ·refine qM.at (fw i) DL5.2 fun a ha o e=>?_
      have:a≠kd:=fun z=>(de.mp nd).1 (by rw[<-z];exact ha)
      rw[aH this];exact e
   ·rintro σ' G' ⟨rfl,s6,gf6,tF6,gk6,DL6⟩;refine⟨_,rfl,s.2.1.p,_,_,.str s.2.1.w,rfl,rfl,aQ.of (eB.ts (.of s6) s.2.1 hrs0).at,iY,rfl,_,rfl,?_⟩;unfold uA at e1;rw[bK5 hw]
    cases hb:kH s.2.1 with
    |false =>
     rw[hb] at e1
     cases e1
     exact aS (by decide) ⟨kd,ads,_,_,_,_,_,_,_,_,rfl,s6,gf6,tF6,gk6,nd,fr,DL6,e2⟩
    |true =>
     rw[hb] at e1
     cases e1
     refine bH rfl ?_;obtain⟨kvs,z1,z2⟩:=DL6.1.ex;refine⟨_,rfl,.inl ⟨rfl,_,bJ.of gk6⟩,_,rfl,kd,kvs,rfl,z1,fun d7 hd7=>?_⟩;have f7:=s6.free hd7;have s7:=aB hd7 (.dK kvs);have D7:Dk (aN G' d7 (.dK kvs)) d7 (kn++s.2.1.sets.toList) (i+1):=⟨kvs,aC,z2⟩
     have n7:d7∉kd::ads:=fun m=>by
      obtain⟨w,e⟩:=DL6.is d7 m;rw[e] at hd7;cases hd7
     have n7k:d7≠lk:=(aK gk6 hd7).symm;have DL7:=DL6.at (aj _) fun a _ o e=>s7 _ _ e
     have gf7:=s7 _ _ gf6;have tF7:=tF6.mono fun _ _ z=>mG.ts (.of s7) z
     have gk7:=s7 _ _ gk6;have s67:=s6.trans s7;generalize aN G' d7 (.dK kvs)=G7 at s7 D7 DL7 gf7 tF7 gk7 s67 ⊢;refine⟨lk,_,_,rfl,rfl,gk7,hG (by rw[ac,eh];lia),?_⟩;refine⟨kd,d7::ads,_,_,_,_,_,_,_,_,rfl,cH s67 hlk0,(aH nfk).trans gf7,tF7.mono fun _ _ z=>mG.ts (TS.lst gk7) z,?_,?_,?_,?_,e2⟩
     ·rw[aC,dg,av];rfl
     ·rw[de] at nd ⊢;refine⟨fun m=>?_,de.mpr ⟨fun m=>n7 (aq _ m),nd.2⟩⟩;rcases bv.mp m with e|e
      ·exact n7 (by rw[<-e];exact ao)
      ·exact nd.1 e
     ·intro a ha;rcases bv.mp ha with e|e
      ·exact fr a (by rw[e];exact ao)
      ·rcases bv.mp e with e|e
       ·rw[e];exact f7
       ·exact fr a (aq _ e)
     ·refine⟨DL7.1.at fun o e=>(aH (nlk kd ao)).trans e,D7.at fun o e=>(aH n7k).trans e,qM.at (aj _) DL7.2 fun a ha o e=>(aH (nlk a (aq _ ha))).trans e⟩
  ·rw[au c] at e1;refine aS (fun z=>c (by have z:=ae z;injection z)) ?_;refine⟨_,rfl,rfl,_,rfl,?_⟩
   by_cases c2:s.1="else"
   ·rw[bb c2] at e1;refine bH (by rw[c2];exact ag rfl) ?_
    cases kp with
    |nil=>cases e1
    |cons a0 r0 =>
    have e1:some (F,a0,kn::r0)=some (F',kn',kp'):=e1;injection e1 with e1
    injection e1 with q0 e1
    injection e1 with q1 q2
    subst q0 q1 q2;obtain⟨ad,bS,rfl,Da,Dr⟩:=DL.2.cons;have er:(ad::bS).reverse.map V.ref=bS.reverse.map V.ref++[V.ref ad]:=by rw[dg,av];rfl
    rw[er] at gk;refine⟨_,rfl,.inl ⟨rfl,_,bJ.of gk⟩,lk,_,V.ref ad,rfl,rfl,gk,by simp,?_⟩;rw[iz];have s4:=cH (ys:=bS.reverse.map V.ref) s3 hlk0;have g4:aN G lk (.lst (bS.reverse.map V.ref)) lk=some (.lst (bS.reverse.map V.ref)):=aC;have gf4:aN G lk (.lst (bS.reverse.map V.ref)) lf=_:=(aH nfk).trans gf;have tF4:=tF.mono fun _ _ z=>mG.ts (TS.lst (ys:=bS.reverse.map V.ref) gk) z
    have DL4:qM (aN G lk (.lst (bS.reverse.map V.ref))) i (kd::ad::bS) (kn::a0::r0):=DL.at (aj _) fun a ha o e=>(aH (nlk a ha)).trans e
    generalize aN G lk (.lst (bS.reverse.map V.ref))=G4 at s4 g4 gf4 tF4 DL4 ⊢;refine⟨_,rfl,.inl ⟨rfl,_,bJ.of g4⟩,_,rfl,lk,_,_,rfl,rfl,g4,hG (by rw[ac,eh];simp only[List.length_cons] at al kl;lia),?_⟩;refine⟨_,rfl,ad,kd::bS,_,_,_,_,_,_,_,_,rfl,cH s4 hlk0,(aH nfk).trans gf4,tF4.mono fun _ _ z=>mG.ts (TS.lst g4) z,?_,?_,?_,?_,e2⟩
    ·rw[aC,dg,av];rfl
    ·exact(List.Perm.swap kd ad bS).nodup_iff.mpr nd |> fun z=>z
    ·intro a ha;refine fr a ?_;rcases bv.mp ha with e|e
     ·rw[e];simp
     ·rcases bv.mp e with e|e
      ·rw[e];simp
      ·simp[e]
    ·have DL5:qM (aN G4 lk (.lst (bS.reverse.map V.ref++[V.ref kd]))) (i+1) (kd::ad::bS) (kn::a0::r0):=DL4.at (fw _) fun a ha o e=>(aH (nlk a ha)).trans e
     exact⟨DL5.2.1,DL5.1,DL5.2.2⟩
   ·rw[au c2] at e1;refine aS (fun z=>c2 (by have z:=ae z;injection z)) ?_;refine⟨_,rfl,s.2.1.p,_,_,.str s.2.1.w,rfl,rfl,aQ.of hrs.at,iY,rfl,_,rfl,?_⟩;rw[bK5 hw]
    cases hb:kH s.2.1 with
    |false =>
     rw[hb] at e1
     cases e1
     exact aS (by decide) ⟨kd,ads,_,_,_,_,_,_,_,_,rfl,s3,gf,tF,gk,nd,fr,DL.at (fw _) fun a _ o e=>e,e2⟩
    |true =>
     rw[hb] at e1;refine bH rfl ?_
     cases kp with
     |nil=>cases e1
     |cons a0 r0 =>
     have e1:some (F,kn.filter (fun x=>decide (x∈a0)),r0)=some (F',kn',kp'):=e1;injection e1 with e1
     injection e1 with q0 e1
     injection e1 with q1 q2
     subst q0 q1 q2;obtain⟨ad,bS,rfl,Da,Dr⟩:=DL.2.cons;have er:(ad::bS).reverse.map V.ref=bS.reverse.map V.ref++[V.ref ad]:=by rw[dg,av];rfl
     rw[er] at gk;refine⟨_,rfl,.inl ⟨rfl,_,bJ.of gk⟩,lk,_,V.ref ad,rfl,rfl,gk,by simp,?_⟩;rw[iz];have s4:=cH (ys:=bS.reverse.map V.ref) s3 hlk0;have g4:aN G lk (.lst (bS.reverse.map V.ref)) lk=some (.lst (bS.reverse.map V.ref)):=aC;have gf4:aN G lk (.lst (bS.reverse.map V.ref)) lf=_:=(aH nfk).trans gf;have tF4:=tF.mono fun _ _ z=>mG.ts (TS.lst (ys:=bS.reverse.map V.ref) gk) z
     have DL4:qM (aN G lk (.lst (bS.reverse.map V.ref))) i (kd::ad::bS) (kn::a0::r0):=DL.at (aj _) fun a ha o e=>(aH (nlk a ha)).trans e
     have nka:=nlk ad (by simp);have nfa:=nlf ad (by simp);generalize aN G lk (.lst (bS.reverse.map V.ref))=G4 at s4 g4 gf4 tF4 DL4 ⊢;have nd2:=de.mp nd;have nd3:=de.mp nd2.2;refine⟨_,rfl,ad,kd,a0,kn,i,i,rfl,fun z=>nd2.1 (by rw[<-z];simp),DL4.2.1,DL4.1,by lia,fun d5 H5 f5 fd5 D5=>?_⟩;have n5:∀a∈bS,d5≠a:=fun a ha z=>by
      obtain⟨w,e⟩:=DL4.is a (by simp[ha]);rw[z,e] at fd5;cases fd5
     obtain⟨w0,d0⟩:=DL4.is ad (by simp);refine⟨d5,bS,_,_,_,_,_,_,_,_,rfl,fun b u e=>?_,f5 _ _ gf4 nfa.symm,tF4.mono fun _ _ z=>mG.ts (fun c ys e=>f5 _ _ e (gX e d0 (by intro z;cases z))) z,f5 _ _ g4 nka.symm,?_,fun a ha=>?_,⟨(D5.more (fw _)).ext fun x=>by simp only[List.mem_filter,decide_eq_true_eq];exact And.comm,qM.at (fw _) DL4.2.2 fun a ha o e=>f5 _ _ e fun z=>nd3.1 (by rw[<-z];exact ha)⟩,e2⟩
     ·exact f5 _ _ (s4 _ _ e) (aK e (fr ad (by simp)))
     ·exact de.mpr ⟨fun m=>n5 d5 m rfl,nd3.2⟩
     ·rcases bv.mp ha with e|e
      ·rw[e];exact s4.free fd5
      ·exact fr a (by simp[e])
 ·rintro σ G ⟨kd,ads,fz,F,kn,kp,v4,v5,v6,v7,rfl,s3,gf,tF,gk,nd,fr,DL,hrun⟩;rw[zl,cg,full] at hrun
  cases hrun
  exact⟨_,rfl,k lf fz G s3 hlf gf tF⟩
def bS8 (C_Bgn:Cl P w K mg base 1 spBegins "begins_rows"):gG P w K mg base "tells_faults" "tells_faults" bY2 4 ["steps"] spTelF:=by
 refine iT ["steps","faults","counts","word","row","number","inner","other"] fun H Q nd hr h=>?_
 obtain⟨ls,zs,rs,rfl,SH,hT,_,k⟩:=h;refine⟨_,(eQ 1 nd (cC cJ)
  (eQ 2 nd (cC (aR aD))
  (aF (pfr (dE (pv 0)) (jE rfl (bG (fK 3 nd) (bG (fK 4 nd) (bG (fK 5 nd) fO))))
  (aE (bD (fJ (bW C_Bgn hr (aA (pv 3) (aR (pv 4))))) (aE (cO (fG bj cy db cU (pv 2) (aR aD)))) (aE (bD (dZ bO (bQ aI (pv 4) aD) aG) (aE (vX (pv 2) vK sZ aD pB rW)) (aE (bD (PW.pt (jZ (dZ bO (pv 3) aG) (kE (dZ bO (bQ aI (pv 4) aD) aG)))) (eQ 6 nd (lM bj gj gm kW (pv 2))
  (aE (vX (pv 2) vK sZ (aP iL (bQ aI (pv 4) aD) (pv 6)) pB rW))) (aE (bD (dZ bO (pv 3) aG) (eQ 7 nd (lM bj gj gm kW (pv 2))
  (eQ 6 nd (lM bj gj gm kW (pv 2))
  (aF (vX (pv 2) vK sZ (pv 6) pB rW)
  (aE (bD (dZ qU (pv 6) (pv 7)) (aE (cO (fG bj cy db cU (pv 1) (aR (aY (aA (pv 5) (aA aD (aR aG)))))))) aU))))) aU)))))))))
  (aE (aO (pv 1)))))),?_⟩
 obtain⟨h1,t1,hR,hc⟩:=SH;have zl:=t1.length;have tl:=dX rs 0;have full:=rN rs 0 [] 0 [] (aW.wd rs hR);refine⟨bu _,fun lf hlf=>?_⟩;obtain⟨HA,e0,sA,gA⟩:=mZ hlf (.lst []);rw[e0];clear e0;refine⟨kL,fun lc hlc=>?_⟩;have hlc0:=sA.free hlc;have nfc:lf≠lc:=aK gA hlc;have sB:=sA.trans (aB hlc (.lst [.int 0]));have gB:=aB hlc (.lst [.int 0]) _ _ gA;have cB:aN HA lc (.lst [.int 0]) lc=some (.lst (([0]:List Int).reverse.map V.int)):=aC;generalize aN HA lc (.lst [.int 0])=HB at sB gB cB ⊢;refine⟨_,rfl,ls,rfl,⟨_,bJ.of (sB _ _ h1)⟩,iD (K:=K) (a:=ls) (xs:=zs) (fun i σ G=>∃(fz:List V) (F:List Ft) (st:List Int) (v3 v4 v5 v6 v7:Option V),σ=[some (.ref ls),some (.ref lf),some (.ref lc),v3,v4,v5,v6,v7]/\bA H G/\G lf=some (.lst fz)/\fM (mG G) fz F/\G lc=some (.lst (st.reverse.map V.int))/\dU gU ((bY 0 rs).take i) ([],[0])=some (F,st))
  ⟨[],[],[0],_,_,_,_,_,rfl,sB,gB,trivial,cB,rfl⟩ (by rintro i σ G _ ⟨_,_,_,_,_,_,_,_,_,e,_⟩;exact bJ.of (e _ _ h1)) ?_ ?_⟩
 ·rintro D' i v σ G hv ⟨fz,F,st,v3,v4,v5,v6,v7,rfl,s3,gf,tF,gc,hrun⟩;obtain⟨s,hs,q,rfl,hq0⟩:=mL t1 hv;have hi:=(bf.mp hs).1;obtain⟨⟨F',st'⟩,e1,e2⟩:=vZ gU full hs hrun;have sl:=oN (fun st:TSt=>st.2.length) bX5 _ _ _ hrun;have fl:=oN (fun st:TSt=>st.1.length) bT7 _ _ _ hrun;have lF:=tF.length;simp only[List.length_nil,List.length_cons,List.length_take] at sl fl;have hT0:=kO rs 0 hT s (bg hs);have hrs0:=fA rs 0 hR s (bg hs);have hw:=eB.wd _ hrs0;refine⟨q,_,rfl,aQ.of (s3 _ _ hq0),rfl,_,_,rfl,_,_,rfl,_,_,rfl,rfl,?_⟩;refine⟨_,rfl,_,rfl,s,rfl,eB.ts (.of s3) s.2.1 hrs0,fun G1 s4=>⟨_,rfl,?_⟩⟩;have s5:=s3.trans s4;have gf1:=s4 _ _ gf;have gc1:=s4 _ _ gc;have tF1:=tF.mono fun _ _ z=>mG.ts (.of s4) z
  have hrs:=eB.ts (.of s5) s.2.1 hrs0;have sz:(st.reverse.map V.int).length<sizeLine:=by rw[ac,eh];exact hG (by lia)
  unfold gU at e1
  by_cases c1:fC s=true
  ·rw[bb c1] at e1
   cases e1
   refine bH c1 ⟨_,rfl,.inl ⟨rfl,_,bJ.of gc1⟩,lc,_,_,rfl,rfl,gc1,sz,?_⟩;refine⟨fz,F,0::st,_,_,_,_,_,rfl,cH s5 hlc0,(aH nfc).trans gf1,tF1.mono fun _ _ z=>mG.ts (TS.lst gc1) z,?_,e2⟩;rw[aC,dg,av];rfl
  rw[au c1] at e1;refine aS c1 ?_;refine⟨_,rfl,s.2.1.p,_,_,.str s.2.1.w,rfl,rfl,aQ.of hrs.at,iY,rfl,_,rfl,?_⟩;rw[bZ6 hw]
  by_cases c2:rY s.2.1=true
  ·rw[bb c2] at e1;refine bH c2 ?_
   cases st with
   |nil=>cases e1
   |cons c0 r0 =>
   cases e1
   have er:(c0::r0).reverse.map V.int=r0.reverse.map V.int++[V.int c0]:=by rw[dg,av];rfl
   rw[er] at gc1;refine⟨_,rfl,lc,_,_,rfl,rfl,bJ.of gc1,_,_,rfl,rfl,lc,_,_,rfl,rfl,gc1,?_⟩;refine⟨fz,F,(c0+1)::r0,_,_,_,_,_,rfl,cH s5 hlc0,(aH nfc).trans gf1,tF1.mono fun _ _ z=>mG.ts (TS.lst gc1) z,?_,e2⟩;rw[aC,dg,av];rfl
  rw[au c2] at e1;refine aS c2 ?_;refine⟨_,rfl,rfl,_,rfl,?_⟩
  by_cases c3:s.1="end"
  ·rw[bb c3] at e1;refine bH (by rw[c3];exact ag rfl) ?_;refine⟨_,rfl,s.2.1.p,_,_,.str s.2.1.w,rfl,rfl,aQ.of hrs.at,iY,rfl,_,rfl,?_⟩;obtain⟨w0,r,n⟩:=s;have c3:w0="end":=c3;subst c3;have e1:yU r n (F,st)=some (F',st'):=e1;have hT0:aA7 r:=hT0;have hrs:eB G1 r:=hrs;generalize hP:(("end": Str),r,n).2.1.p=P
   cases r with
   |times p pb m b =>
    obtain rfl:p=P:=hP;refine bH (ag rfl) ?_
    match st,e1,gc1,sl,e2 with
    |i0::c0::r0,e1,gc1,sl,e2 =>
    have e1:some (F,(c0+m*i0)::r0)=some (F',st'):=e1;have bd:0<=m/\m<=9:=⟨hT0.1,hT0.2.1⟩
    ·cases e1
     have er:(i0::c0::r0).reverse.map V.int=(r0.reverse.map V.int++[V.int c0])++[V.int i0]:=by simp
     rw[er] at gc1;refine⟨_,rfl,.inl ⟨rfl,_,bJ.of gc1⟩,lc,_,.int i0,rfl,rfl,gc1,by simp,?_⟩;rw[iz];have s6:=cH (ys:=r0.reverse.map V.int++[V.int c0]) s5 hlc0;have g6:aN G1 lc (.lst (r0.reverse.map V.int++[V.int c0])) lc=some (.lst (r0.reverse.map V.int++[V.int c0])):=aC;have gf6:aN G1 lc (.lst (r0.reverse.map V.int++[V.int c0])) lf=_:=(aH nfc).trans gf1;have h6:=TS.lst (ys:=r0.reverse.map V.int++[V.int c0]) gc1 _ _ hrs.1;have tF6:=tF1.mono fun _ _ z=>mG.ts (TS.lst (ys:=r0.reverse.map V.int++[V.int c0]) gc1) z
     generalize aN G1 lc (.lst (r0.reverse.map V.int++[V.int c0]))=G6 at s6 g6 gf6 h6 tF6 ⊢;refine⟨_,rfl,lc,_,_,rfl,rfl,bJ.of g6,_,rfl,p,_,_,.int m,rfl,rfl,aQ.of h6,rfl,_,rfl,_,_,rfl,rfl,.inl ⟨by lia,by lia⟩,_,_,rfl,rfl,lc,_,_,rfl,rfl,g6,?_⟩;refine⟨fz,F,(c0+m*i0)::r0,_,_,_,_,_,rfl,cH s6 hlc0,(aH nfc).trans gf6,tF6.mono fun _ _ z=>mG.ts (TS.lst g6) z,?_,e2⟩;rw[aC,dg,av];rfl
   |when p pa pb t a b =>
    obtain rfl:p=P:=hP;refine aS (fun z=>wWT (ae z)) ?_;refine⟨_,rfl,rfl,_,rfl,?_⟩;refine bH (ag rfl) ?_
    match st,e1,gc1,sl,e2 with
    |o0::i0::c0::r0,e1,gc1,sl,e2 =>
    have e1:some (F++(if i0=o0 then [] else [((n:Int),2)]),(c0+i0)::r0)=some (F',st'):=e1;injection e1 with e1
    injection e1 with q1 q2
    subst q1 q2;have er:(o0::i0::c0::r0).reverse.map V.int=((r0.reverse.map V.int++[V.int c0])++[V.int i0])++[V.int o0]:=by simp
    rw[er] at gc1;refine⟨_,rfl,.inl ⟨rfl,_,bJ.of gc1⟩,lc,_,.int o0,rfl,rfl,gc1,by simp,?_⟩;rw[iz];have s6:=cH (ys:=r0.reverse.map V.int++[V.int c0]++[V.int i0]) s5 hlc0;have g6:aN G1 lc (.lst (r0.reverse.map V.int++[V.int c0]++[V.int i0])) lc=some (.lst (r0.reverse.map V.int++[V.int c0]++[V.int i0])):=aC;have gf6:aN G1 lc (.lst (r0.reverse.map V.int++[V.int c0]++[V.int i0])) lf=_:=(aH nfc).trans gf1;have tF6:=tF1.mono fun _ _ z=>mG.ts (TS.lst (ys:=r0.reverse.map V.int++[V.int c0]++[V.int i0]) gc1) z
    generalize aN G1 lc (.lst (r0.reverse.map V.int++[V.int c0]++[V.int i0]))=G6 at s6 g6 gf6 tF6 ⊢;refine⟨_,rfl,.inl ⟨rfl,_,bJ.of g6⟩,lc,_,.int i0,rfl,rfl,g6,by simp,?_⟩;rw[iz];have s7:=cH (ys:=r0.reverse.map V.int++[V.int c0]) s6 hlc0;have g7:aN G6 lc (.lst (r0.reverse.map V.int++[V.int c0])) lc=some (.lst (r0.reverse.map V.int++[V.int c0])):=aC;have gf7:aN G6 lc (.lst (r0.reverse.map V.int++[V.int c0])) lf=_:=(aH nfc).trans gf6;have tF7:=tF6.mono fun _ _ z=>mG.ts (TS.lst (ys:=r0.reverse.map V.int++[V.int c0]) g6) z
    generalize aN G6 lc (.lst (r0.reverse.map V.int++[V.int c0]))=G7 at s7 g7 gf7 tF7 ⊢;refine⟨_,rfl,lc,_,_,rfl,rfl,bJ.of g7,_,rfl,_,_,rfl,rfl,lc,_,_,rfl,rfl,g7,?_⟩;have g8:aN G7 lc (.lst (r0.reverse.map V.int++[V.int (c0+i0)])) lc=some (.lst (((c0+i0)::r0).reverse.map V.int)):=by rw[aC,dg,av];rfl
    have s8:=cH (ys:=r0.reverse.map V.int++[V.int (c0+i0)]) s7 hlc0;have gf8:aN G7 lc (.lst (r0.reverse.map V.int++[V.int (c0+i0)])) lf=_:=(aH nfc).trans gf7;have tF8:=tF7.mono fun _ _ z=>mG.ts (TS.lst (ys:=r0.reverse.map V.int++[V.int (c0+i0)]) g7) z
    generalize aN G7 lc (.lst (r0.reverse.map V.int++[V.int (c0+i0)]))=G8 at s8 g8 gf8 tF8 ⊢;refine⟨_,rfl,_,rfl,rfl,_,rfl,?_⟩
    by_cases bd:i0=o0
    ·refine aS (by simp[bd]) ?_;rw[bb bd,gp] at e2;exact⟨fz,F,_,_,_,_,_,_,rfl,s8,gf8,tF8,g8,e2⟩
    ·refine bH (by simp[bd]) ?_;rw[au bd] at e2;refine⟨_,rfl,.inl ⟨rfl,_,bJ.of gf8⟩,_,rfl,by show 3<=sizeLine;decide,fun tt htt=>?_⟩;have s9:=aB htt (.tup [.int n,.int 2,.str "tells"]);have e9:mG (aN G8 tt (.tup [.int n,.int 2,.str "tells"])) (.ref tt) ((n:Int),2):=⟨tt,rfl,by rw[cH8];exact aC⟩
     have s89:=s8.trans s9;have gf9:=s9 _ _ gf8;have g9:=s9 _ _ g8;have tF9:=tF8.mono fun _ _ z=>mG.ts (.of s9) z
     generalize aN G8 tt (.tup [.int n,.int 2,.str "tells"])=G9 at s9 e9 s89 gf9 g9 tF9 ⊢;refine⟨lf,_,_,rfl,rfl,gf9,hG (by lia),fz++[.ref tt],_,_,_,_,_,_,_,rfl,cH s89 hlf,aC,?_,(aH nfc.symm).trans g9,e2⟩;exact fM.append (tF9.mono fun _ _ z=>mG.ts (TS.lst gf9) z) ⟨e9.ts (TS.lst gf9),trivial⟩
   |thr p w x vs am=>cases e1
   |lt p x t=>cases e1
   |tell p t=>cases e1
  ·rw[au c3] at e1
   cases e1
   refine aS (fun z=>c3 (by have z:=ae z;injection z)) ?_;refine aS (by decide) ?_;refine⟨_,rfl,rfl,_,rfl,?_⟩;refine aS (fun z=>c3 (by have z:=ae z;injection z)) ?_;exact⟨_,_,_,_,_,_,_,_,rfl,s5,gf1,tF1,gc1,e2⟩
 ·rintro σ G ⟨fz,F,st,v3,v4,v5,v6,v7,rfl,s3,gf,tF,gc,hrun⟩;rw[zl,cg,full] at hrun
  cases hrun
  exact⟨_,rfl,k lf fz G s3 hlf gf tF⟩
def bT8 (m_MOST_KINDS:mg "MOST_KINDS"=some (.int 3 tM))(m_len:mg "len"=none)(m_set:mg "set"=none):gG P w K mg base "look_at_kinds" "look_at_kinds" bY1 2 ["kinds"] spKindsL:=by
 refine iT ["kinds"] fun H Q nd hr h=>?_
 obtain⟨p,ks,rfl,hp,k1,k3,nd,k⟩:=h;have hr1:dL 1 _:=hr.mono (by decide);refine⟨_,(aF (bD (gW (rR rQ rQ aD (iF aV m_len ci (aR (pv 0))) (dR (v:= .int 3) (by rfl) m_MOST_KINDS ⟨_,rfl⟩))) fU aU)
  (aE (bD (dZ kU (iF (oZ P w) m_len ci (aR (oR (oW P w hr1) m_set mf (aR (pv 0))))) (iF aV m_len ci (aR (pv 0)))) fU aU))),?_⟩
 refine⟨_,rfl,p,_,rfl,.inr (aQ.of hp),_,_,rfl,rfl,_,rfl,bH (by rw[ac];simp only[decide_eq_true_eq];lia) ⟨_,_,rfl,rfl,_,rfl,aS (by rw[ac,ag (by lia)];decide) ?_⟩⟩;have em:ks.map V.str=(ks.map fun x=>(Sum.inr x:Key)).map kV:=by rw[jn];rfl
 refine⟨_,rfl,p,ks.map (fun x=>(Sum.inr x:Key)),rfl,by rw[<-em];exact aQ.of hp,by rw[ac];lia,fun a ha=>?_⟩;have s1:=aB ha (qZ P w a (ks.map fun x=>(Sum.inr x:Key)));refine⟨a,_,rfl,aC,_,rfl,p,_,rfl,.inr (aQ.of (s1 _ _ hp)),_,_,rfl,rfl,_,rfl,aS ?_ (k _ s1)⟩;rw[rD (qY nd),ac,ac];simp
def bN4 (C_Lkk:Cl P w K mg base 2 spKindsL "look_at_kinds")(C_Sts:Cl P w K mg base 3 spSteps "steps_of")(C_TlF:Cl P w K mg base 4 spTelF "tells_faults")(C_RnF:Cl P w K mg base 3 spRangeF "range_faults")(C_UnF:Cl P w K mg base 4 spUnkF "unknown_faults")(m_min:mg "min"=none)(m_any:mg "any"=none):gG P w K mg base "look" "look" cA8 5 ["program"] spLookL:=by
 refine iT ["program","steps","faults","fault"] fun H Q nd hr h=>?_
 obtain⟨p,ks,rs,m,rfl,P0,ndk,k⟩:=h;refine⟨_,(aF (cO (bW C_Lkk hr (aR (bQ aI (pv 0) aD))))
  (eQ 1 nd (bW C_Sts hr (aR (bQ aI (pv 0) aD)))
  (eQ 2 nd (aP fR (aP fR (bW C_RnF hr (aR (pv 1))) (bW C_UnF hr (aR (pv 1)))) (bW C_TlF hr (aR (pv 1))))
  (aF (bD (rZ (pv 2) (fun _=>rfl)) fU aU)
  (aF (bD (gW (fJ (iF aR6 m_any PyProof.Rows.boot_any (aR (cY ["step"] [none] (dE (pv 1)) (fun _ _ _ _=>(fK 0)) (fun _ _ _ _=>eE) (fun _ _ _ _=>(oK bO (bQ (pT K) (bQ (pT K) (pv 0) aD) aD) aG))))))) fU aU)
  (aE (aO gZ))))))),?_⟩
 obtain⟨pk,pr,hp,hk,hpr⟩:=P0.ex;have tl:=dX rs 0;have m4:=P0.m4;obtain⟨k2,hsc⟩:=P0.sc;have c4:bP rs<=4000:=by have:=P0.cnt;lia
 have c0:=P0.cnt;refine⟨_,rfl,p,_,_,.ref pk,rfl,rfl,aQ.of hp,rfl,pk,ks,rfl,hk,P0.k1,P0.k3,ndk,fun H1 s1=>?_⟩;refine⟨_,rfl,p,_,_,.ref pr,rfl,rfl,aQ.of (s1 _ _ hp),rfl,pr,rs,rfl,s1 _ _ hpr,aW.ts (.of s1) rs P0.rows,c4,fun ls zs H2 s2 _ h2 t2=>?_⟩;have SH:nB H2 ls zs rs:=⟨h2,t2,aW.ts (.of (s1.trans s2)) rs P0.rows,c4⟩
 have zl:=t2.length;refine⟨_,rfl,ls,zs,rs,rfl,SH,fun r3 u3 H3 s3 _ h3 w3=>?_⟩;rw[fZ.rf 0 hsc] at w3;obtain rfl:=wW w3;refine⟨_,rfl,ls,zs,rs,rfl,SH.same s3,fun r4 u4 H4 s4 _ h4 w4=>?_⟩;rw[(fZ.uf 0 [] hsc fun y hy=>absurd hy dq).1] at w4;obtain rfl:=wW w4;refine⟨r3,r4,_,_,rfl,rfl,s4 _ _ h3,h4,bu _,fun l5 hl5=>?_⟩;have s5:=s4.trans (aB hl5 (.lst ([]++[])));have h5:aN H4 l5 (.lst ([]++[])) l5=some (.lst []):=aC;generalize aN H4 l5 (.lst ([]++[]))=H5 at s5 h5 ⊢;refine⟨_,rfl,ls,zs,rs,rfl,(SH.same s3).same s5,P0.tk.tim,cm P0.dp (by decide),fun r6 u6 H6 s6 _ h6 w6=>?_⟩;rw[cL.tf 0 P0.tk] at w6;obtain rfl:=wW w6;refine⟨l5,r6,_,_,rfl,rfl,s6 _ _ h5,h6,bu _,fun l7 hl7=>?_⟩;have s7:=s3.trans (s5.trans (s6.trans (aB hl7 (.lst ([]++[])))));have h7:aN H6 l7 (.lst ([]++[])) l7=some (.lst []):=aC;generalize aN H6 l7 (.lst ([]++[]))=H7 at s7 h7 ⊢;refine⟨_,rfl,_,.inl ⟨_,bJ.of h7,rfl⟩,aS (by decide) ?_⟩
 obtain⟨h8,t8,hR8,_⟩:=SH.same s7;refine⟨_,rfl,ls,rfl,⟨_,bJ.of h8⟩,dJ (K:=K) (a:=ls) (xs:=zs) (fun i ys σ G=>G=H7/\(∃v,σ=[v])/\ys=(((bY 0 rs).take i).map fun s:Stp=>decide (s.2.1.w="tell")).map V.bl)
  (hG (by lia)) ⟨rfl,⟨_,rfl⟩,rfl⟩ (by rintro i ys σ G ⟨_,_,e⟩;rw[e,ac,ac,bx];lia) (by rintro i ys σ G _ ⟨e,_⟩;rw[e];exact bJ.of h8) ?_ ?_⟩
 ·rintro i v ys σ G hv ⟨rfl,⟨v',rfl⟩,rfl⟩;obtain⟨s,hs,q,rfl,hq⟩:=mL t8 hv;have hrs:=fA rs 0 hR8 s (bg hs);refine⟨_,rfl,q,_,_,.ref s.2.1.p,rfl,rfl,aQ.of hq,rfl,s.2.1.p,_,_,.str s.2.1.w,rfl,rfl,aQ.of hrs.at,iY,rfl,rfl,⟨_,rfl⟩,?_⟩;rw[bE hs,av,av];rw[show decide (V.str s.2.1.w=V.str "tell")=decide (s.2.1.w="tell") from by simp];rfl
 rintro ys σ G ⟨rfl,_,rfl⟩ l9 hl9;rw[zl,cg];refine⟨l9,_,rfl,bJ.of aC,_,rfl,?_⟩;refine aS ?_ (k _ (s1.trans (s2.trans (s7.trans (aB hl9 _)))));obtain⟨s,ms,es⟩:=aL3 (rs:=rs) (P0.t1);have:(((bY 0 rs).map fun s:Stp=>decide (s.2.1.w="tell")).any id)=true:=by
  rw[List.any_map,je];exact⟨s,ms,ag es⟩
 rw[this]
 decide
def bE6: gG P w K mg base "_law_lowest" "_law_lowest" bL8 1 ["_law_top","_law_bottom"] spLow:=by
 refine iT ["_law_top","_law_bottom","_law_one","_law_other"] fun H Q nd hr h=>?_
 obtain⟨a,b,rfl,ha,hb,hz,k⟩:=h;refine⟨_,(aF (aR8 (i:=2) (j:=3) rfl nd rfl rfl (by decide) rfl rfl (aA (pv 0) (aR (pv 1))) rfl)
  (aF (jP jo (dZ jB (pv 3) aD)
  (aE (aR8 (i:=2) (j:=3) rfl nd rfl rfl (by decide) rfl rfl (aA (pv 3) (aR (aP iI (pv 2) (pv 3)))) rfl)))
  (aE (aO (aY (aA (aP yW (pv 0) (pv 2)) (aR (aP yW (pv 1) (pv 2))))))))),?_⟩
 have g0:0<gI a b:=bB0 hb;have g1:gI a b<2^200*2^200:=Int.lt_of_le_of_lt (bX7 hb) hz;refine⟨_,rfl,_,rfl,_,_,rfl,?_⟩;refine⟨fun j σ H1=>H1=H/\∃(x y:Int),σ=[some (.int a),some (.int b),some (.int x),some (.int y)]/\0<=x/\0<=y/\gI x y=gI a b/\j=y.toNat,⟨_,rfl,a,b,rfl,ha,by lia,rfl,rfl⟩,?_⟩;rintro j σ H1 ⟨rfl,x,y,rfl,hx,hy,hg,rfl⟩;refine⟨_,rfl,_,_,rfl,rfl,_,rfl,?_⟩;refine mF (fun c=>?_) (fun c=>?_)
 ·have yp:0<y:=ae c;refine⟨fun σ' H'=>H'=H1/\σ'=[some (.int a),some (.int b),some (.int y),some (.int (x % y))],fun σ' H' ⟨e1,e2⟩=>⟨(x % y).toNat,?_,e1,y,x % y,e2,hy,lj _ (by lia),(aZ5 hx yp).trans hg,rfl⟩,?_⟩
  ·have:=ll x yp;have:=lj x (show y≠0 by lia);lia
  ·exact⟨_,rfl,_,rfl,_,rfl,_,_,rfl,rfl,yp,_,_,rfl,rfl,rfl⟩
 ·have y0:y=0:=by
   have:¬0<y:=fun z=>c (ag z)
   lia
  subst y0;rw[bJ1 hx] at hg;subst hg;exact⟨_,rfl,_,rfl,_,_,rfl,rfl,⟨g0,g1⟩,_,rfl,_,rfl,_,_,rfl,rfl,⟨g0,g1⟩,eW,fun p hp=>k p hp⟩
def bB8 (C_LLow:Cl P w K mg base 1 spLow "_law_lowest")(C_Draw:Cl P w K mg base 1 spDraw "_law_draw"):gG P w K mg base "_law_steepness" "_law_steepness" aZ0 2 ["_law_deal_here","_law_most"] spStpE:=by
 refine iT ["_law_deal_here","_law_most","_law_q"] fun H Q nd hr h=>?_
 obtain⟨d,l,m,rfl,D,hm,k⟩:=h;refine⟨_,(eQ 2 nd (aP dF aD (bW C_Draw hr (aA (pv 0) (aR aD))))
  (aE (aO (bW C_LLow hr (aA (aP dF aD (bW C_Draw hr (aA (pv 0) (aR (bQ fP (cC (aA (aP jW (pv 2) aD) (aR (aP nN (pv 2) aD)))) (aP jW (pv 1) aD)))))) (aR (pv 2))))))),?_⟩
 refine⟨_,rfl,d,l,8,rfl,D,by decide,by decide,fun x H1 x0 x1 D1 o1=>⟨_,_,rfl,rfl,?_⟩⟩;refine⟨_,rfl,_,rfl,_,_,rfl,rfl,_,rfl,_,_,rfl,rfl,⟨by decide,by decide⟩,eW,fun p hp=>?_⟩;refine⟨_,rfl,_,_,rfl,rfl,?_⟩;obtain⟨v,hv,v0,v1,v2⟩:∃v:Int,nE [V.int (2+x-1),V.int ((2+x) / 2)] (m-1)=some (.int v)/\0<v/\v<=8/\(m=2->2*v<=2+x):=by
  rcases hm with rfl|rfl
  ·exact⟨2+x-1,rfl,by lia,by lia,fun z=>absurd z (by decide)⟩
  ·exact⟨(2+x) / 2,rfl,by lia,by lia,fun _=>by lia⟩
 refine⟨p,_,_,_,rfl,rfl,bJ.of aC,hv,?_⟩;refine⟨d,l,v,rfl,D1.same (aB hp _),v0,by lia,fun y H2 y0 y1 D2 o2=>⟨_,_,rfl,rfl,?_⟩⟩;refine⟨_,rfl,1+y,2+x,rfl,by lia,by lia,Int.lt_trans (show 2+x<16 by lia) (by decide),fun r hr'=>?_⟩;obtain⟨a,b,c⟩:=cG9 (a:=1+y) (b:=2+x) (by lia) (by lia);exact k r _ _ _ (D2.same (aB hr' _)) (o1.trans ((fL.of (aB hp _)).trans (o2.trans (fL.of (aB hr' _))))) aC a (by lia) (fun z=>c (by have:=v2 z;lia))
def aN5 (C_Draw:Cl P w K mg base 1 spDraw "_law_draw")(m_tuple:mg "tuple"=none)(m_range:mg "range"=none):gG P w K mg base "_law_sum" "_law_sum" aW7 2 ["_law_deal_here","_law_many"] spSumE:=by
 refine iT ["_law_deal_here","_law_many"] fun H Q nd hr h=>?_
 obtain⟨d,l,m,rfl,D,m0,m3,k⟩:=h;have hu:=gQ hr;refine⟨_,(aE (aO (oR bT m_tuple cq (aR (cY ["_law_k","_law_deal_here"] [none,some 0] (iE (by rfl) m_range (aR (pv 1))) (fun _ _ _ _=>(fK 0)) (fun _ _ _ _=>eE) (fun _ _ _ _=>(bW C_Draw hr (aA (pv 1) (aR aD))))))))),?_⟩;refine⟨_,rfl,m,rfl,by lia,by lia,mY (n:=m.toNat) (fun i ys σ G=>dY G d l/\fL d l H G/\(∃v,σ=[v,some (.ref d)])/\ys.length=i/\∀u∈ys,vS u) (aJ (by lia)) ⟨D,fL.refl _,⟨_,rfl⟩,rfl,fun _ z=>nomatch z⟩ (by rintro i ys σ G ⟨_,_,_,e,_⟩;lia) ?_ ?_⟩
 ·rintro i ys σ G hi ⟨D1,o1,⟨v,rfl⟩,hl,hv⟩;exact⟨_,rfl,d,l,4,rfl,D1,by decide,by decide,fun x H3 x0 x1 D3 o3=>⟨D3,o1.trans o3,⟨_,rfl⟩,by rw[ah,hl];rfl,fun u hu=>by
   rcases bq.mp hu with z|z
   ·exact hv u z
   ·rw[cp.mp z];exact rA _⟩⟩
 ·rintro ys σ G ⟨D1,o1,_,hl,hv⟩ p hp;exact⟨p,_,rfl,.inl ⟨bJ.of aC,fun u hu'=>k u _ _ (D1.same ((aB hp _).trans (aB hu' _))) (o1.trans (fL.of ((aB hp _).trans (aB hu' _)))) aC (by lia) hv⟩⟩
def aV3 (C_Draw:Cl P w K mg base 1 spDraw "_law_draw")(C_Stp46:Cl P w K mg base 2 spStpE "_law_steepness")(C_Sum46:Cl P w K mg base 2 spSumE "_law_sum")(m_tuple:mg "tuple"=none)(m_max:mg "max"=none)(m_range:mg "range"=none):gG P w K mg base "_law_throw" "_law_throw" aS8 3 ["_law_deal_here","_law_scene","_law_x"] spThrE:=by
 refine iT ["_law_deal_here","_law_scene","_law_x","_law_form","_law_many","_law_low","_law_high","_law_sums","_law_mark"] fun H Q nd hr h=>?_
 obtain⟨d,l,sc,nl,kd,wd,xs,x,rfl,W,k⟩:=h;have hu:=gQ hr;refine⟨_,(eQ 3 nd (bW C_Draw hr (aA (pv 0) (aR aD)))
  (eQ 4 nd (xJ hu (pv 1) aG)
  (eQ 5 nd (bW C_Draw hr (aA (pv 0) (aR (xJ hu (pv 1) aG))))
  (eQ 6 nd (aP dF (pv 5) (bW C_Draw hr (aA (pv 0) (aR (aP dF (xJ hu (pv 1) aG) aD)))))
  (aF (bD (dZ kU (pv 3) aD) (aE (aO (aY (aA aG (aA (pv 2) (aA (bW C_Sum46 hr (aA (pv 0) (aR (pv 4)))) (aA (bW C_Stp46 hr (aA (pv 0) (aR aD))) (aA (pv 5) (aR (pv 6)))))))))) aU)
  (aF (bD (dZ bO (pv 3) aD) (aE (aO (aY (aA aG (aA (pv 2) (aA (bW C_Sum46 hr (aA (pv 0) (aR (pv 4)))) (aA (bW C_Draw hr (aA (pv 0) (aR aD))) (aA (pv 5) (aR (pv 6)))))))))) aU)
  (eQ 7 nd (oR bT m_tuple cq (aR (cY ["_law_k","_law_deal_here","_law_many"] [none,some 0,some 4] (iE (by rfl) m_range (aR (aP dF aD (bW C_Draw hr (aA (pv 0) (aR aD)))))) (fun _ _ _ _=>(fK 0)) (fun _ _ _ _=>eE) (fun _ _ _ _=>(bW C_Sum46 hr (aA (pv 1) (aR (pv 2))))))))
  (aF (bD (dZ kU (pv 3) aD) (aE (aO (aY (aA aG (aA (pv 2) (aA (pv 7) (aA (bW C_Stp46 hr (aA (pv 0) (aR aD))) (aA (pv 5) (aR (pv 6)))))))))) aU)
  (eQ 6 nd (iF (uQ rfl) m_max wt (aA (pv 6) (aR (aP dF (pv 5) aD))))
  (eQ 8 nd (aP dF (pv 5) (bW C_Draw hr (aA (pv 0) (aR (aP dF (aP jW (pv 6) (pv 5)) aD)))))
  (aE (aO (aY (aA aG (aA (pv 2) (aA (pv 8) (aA (bW C_Stp46 hr (aA (pv 0) (aR aD))) (aA (bW C_Stp46 hr (aA (pv 0) (aR aD))) (aA (pv 7) (aA (pv 5) (aR (pv 6)))))))))))))))))))))),?_⟩
 have w1:=W.w1;have w2:=W.w2;have m0:=W.m1;have m3:=W.m2;refine⟨_,rfl,d,l,8,rfl,W.deal,by decide,by decide,fun fo H1 f0 f1 D1 o1=>?_⟩;have W1:=W.out D1 o1;refine⟨_,rfl,sc,_,rfl,W1.gKinds,?_⟩;refine⟨_,rfl,_,rfl,sc,_,rfl,W1.gWide,d,l,wd,rfl,D1,by lia,by lia,fun lo H2 a0 a1 D2 o2=>?_⟩;have W2:=W1.out D2 o2;refine⟨_,rfl,_,rfl,_,rfl,sc,_,rfl,W2.gWide,_,_,rfl,rfl,d,l,wd+1,rfl,D2,by lia,by lia,fun u H3 b0 b1 D3 o3=>⟨_,_,rfl,rfl,?_⟩⟩;have oA:=o1.trans (o2.trans o3);refine⟨_,rfl,_,_,rfl,rfl,_,rfl,?_⟩
 by_cases c0:fo<4
 ·refine bH (ag c0) ?_;refine⟨_,rfl,_,rfl,_,rfl,d,l,kd,rfl,D3,by lia,m3,fun p4 ws4 H4 D4 o4 h4 n4 k4=>⟨_,rfl,d,l,1,rfl,D4,.inl rfl,fun p5 a5 b5 H5 D5 o5 h5 _ _ _=>⟨_,rfl,_,rfl,by show 6<=sizeLine;decide,fun p hp=>?_⟩⟩⟩;exact k p "ladder" _ _ (D5.same (aB hp _)) (oA.trans (o4.trans (o5.trans (fL.of (aB hp _))))) aC (.inl ⟨by decide,_,_,_,_,rfl,⟨p4,ws4,rfl,(aB hp _) _ _ (TS.out D4 o5 _ _ h4),by lia⟩,(ba (by lia)).symm⟩) (UsH.two (by decide) (by rw[show kM "ladder"=true by decide];exact⟨ws4,(aB hp _) _ _ (TS.out D4 o5 _ _ h4),n4,k4⟩) (bJ7 _))
 refine aS (fun z=>c0 (ae z)) ?_;refine⟨_,rfl,rfl,_,rfl,?_⟩
 by_cases c1:fo=4
 ·refine bH (by rw[c1];exact ag rfl) ?_;refine⟨_,rfl,_,rfl,_,rfl,d,l,kd,rfl,D3,by lia,m3,fun p4 ws4 H4 D4 o4 h4 n4 k4=>⟨_,rfl,d,l,5,rfl,D4,by decide,by decide,fun y H5 _ _ D5 o5=>⟨_,rfl,_,rfl,by show 6<=sizeLine;decide,fun p hp=>?_⟩⟩⟩;exact k p "flat" _ _ (D5.same (aB hp _)) (oA.trans (o4.trans (o5.trans (fL.of (aB hp _))))) aC (.inl ⟨by decide,_,_,_,_,rfl,⟨p4,ws4,rfl,(aB hp _) _ _ (TS.out D4 o5 _ _ h4),by lia⟩,(ba (by lia)).symm⟩) (UsH.two (by decide) (by rw[show kM "flat"=true by decide];exact⟨ws4,(aB hp _) _ _ (TS.out D4 o5 _ _ h4),n4,k4⟩) (rA _))
 refine aS (fun z=>c1 (by have z:=ae z;injection z)) ?_;refine⟨_,rfl,d,l,3,rfl,D3,by decide,by decide,fun n4 H4 e0 e1 D4 o4=>⟨_,_,rfl,rfl,?_⟩⟩;have oB:=oA.trans o4;refine⟨1+n4,rfl,by lia,by lia,mY (n:=(1+n4).toNat) (fun i ys σ G=>dY G d l/\fL d l H G/\(∃v,σ=[v,some (.ref d),some (.int kd)])/\ys.length=i/\∀u∈ys,OkS G u) (aJ (by lia)) ⟨D4,oB,⟨_,rfl⟩,rfl,fun _ z=>nomatch z⟩ (by rintro i ys σ G ⟨_,_,_,e,_⟩;lia) ?_ ?_⟩
 ·rintro i ys σ G hi ⟨D5,o5,⟨v,rfl⟩,hl,hS⟩;refine⟨_,rfl,_,rfl,d,l,kd,rfl,D5,by lia,m3,fun p6 ws6 H6 D6 o6 h6 n6 k6=>⟨D6,o5.trans o6,⟨_,rfl⟩,by rw[ah,hl];rfl,fun u hu=>?_⟩⟩;rcases bq.mp hu with e|e
  ·exact(hS u e).ts (TS.out D5 o6)
  ·rw[cp.mp e];exact⟨p6,rfl,ws6,h6,n6,k6⟩
 rintro ys σ G ⟨D5,o5,_,hl,hS⟩ lx hlx;refine⟨lx,ys,rfl,.inl ⟨bJ.of aC,fun t6 ht6=>?_⟩⟩;have s6:=(aB hlx (.lst ys)).trans (aB ht6 (.tup ys));have D6:=D5.same s6;have o6:=o5.trans (fL.of (d:=d) (l:=l) s6);have sok:tE (aN (aN G lx (.lst ys)) t6 (.tup ys)) false t6:=⟨ys,aC,by lia,fun u hu=>(hS u hu).ts (.of s6)⟩
 have sms:Sms (aN (aN G lx (.lst ys)) t6 (.tup ys)) (.ref t6):=⟨t6,ys,rfl,aC,by lia,fun u hu=>((hS u hu).ts (.of s6)).sm⟩
 generalize aN (aN G lx (.lst ys)) t6 (.tup ys)=H6 at D6 o6 sok sms ⊢;refine⟨_,rfl,_,_,rfl,rfl,_,rfl,?_⟩
 by_cases c2:fo<7
 ·refine bH (ag c2) ?_;refine⟨_,rfl,_,rfl,_,rfl,d,l,1,rfl,D6,.inl rfl,fun p7 a7 b7 H7 D7 o7 h7 _ _ _=>⟨_,rfl,_,rfl,by show 6<=sizeLine;decide,fun p hp=>?_⟩⟩;exact k p "choose" _ _ (D7.same (aB hp _)) (o6.trans (o7.trans (fL.of (aB hp _)))) aC (.inr (.inl ⟨rfl,_,_,_,_,rfl,(sms.ts (TS.out D6 o7)).ts (.of (aB hp _)),(ba (by lia)).symm⟩)) (UsH.two (by decide) (by rw[show kM "choose"=false by decide];exact(sok.ts (TS.out D6 o7)).ts (.of (aB hp _))) (bJ7 _))
 refine aS (fun z=>c2 (ae z)) ?_;refine⟨_,rfl,_,rfl,_,_,rfl,rfl,_,_,rfl,?_⟩;obtain⟨h2,e2,b1',b2'⟩:∃h2:Int,(if lo+1 > lo+u then lo+1 else lo+u)=h2/\lo<h2/\h2<=lo+10:=⟨_,rfl,by split<;>lia,by split<;>lia⟩
 rw[e2];refine⟨_,rfl,_,rfl,_,rfl,_,rfl,_,_,rfl,rfl,_,_,rfl,rfl,d,l,_,rfl,D6,by lia,by lia,fun mk H7 g0 g1 D7 o7=>⟨_,_,rfl,rfl,?_⟩⟩;refine⟨_,rfl,_,rfl,_,rfl,d,l,1,rfl,D7,.inl rfl,fun p8 a8 b8 H8 D8 o8 h8 _ _ _=>⟨_,rfl,d,l,2,rfl,D8,.inr rfl,fun p9 a9 b9 H9 D9 o9 h9 x9 y9 q9=>⟨_,rfl,_,rfl,_,rfl,by show 8<=sizeLine;decide,fun p hp=>?_⟩⟩⟩;exact k p "first" _ _ (D9.same (aB hp _)) (o6.trans (o7.trans (o8.trans (o9.trans (fL.of (aB hp _)))))) aC (.inr (.inr ⟨rfl,_,_,p9,_,_,_,a9,b9,rfl,(aB hp _) _ _ h9,(((sms.ts (TS.out D6 o7)).ts (TS.out D7 o8)).ts (TS.out D8 o9)).ts (.of (aB hp _)),x9,y9,(ba (by have:=q9 rfl;lia)).symm⟩)) (UsH.six ((((sok.ts (TS.out D6 o7)).ts (TS.out D7 o8)).ts (TS.out D8 o9)).ts (.of (aB hp _))))
def bA5 (n)(C_Trm46:Cl P w K mg base (n+1) (qV n) "_law_term")(C_Draw:Cl P w K mg base 1 spDraw "_law_draw")(m_len:mg "len"=none):gG P w K mg base "_law_term" "_law_term" aW9 (n+1+1) ["_law_deal_here","_law_known","_law_room"] (qV (n+1)):=by
 refine iT ["_law_deal_here","_law_known","_law_room","_law_half","_law_one"] fun H Q nd hr h=>?_
 obtain⟨d,l,kn,ks,room,rfl,D,hk,nk,lk,r1,r2,k⟩:=h;refine⟨_,(aF (bD (eM (PW.pt (jG (dZ kU (pv 2) aD) (jF (dZ bO (bW C_Draw hr (aA (pv 0) (aR aD))) aD))))) (aF (bD (eM (PW.pt (jZ (dZ jB (iF aV m_len ci (aR (pv 1))) aD) (kE (dZ jB (bW C_Draw hr (aA (pv 0) (aR aD))) aD))))) (aE (aO (aY (aA aG (aR (bQ fP (pv 1) (bW C_Draw hr (aA (pv 0) (aR (iF aV m_len ci (aR (pv 1)))))))))))) aU)
  (aE (aO (aY (aA aG (aR (bQ fP (cC (aA (bW C_Draw hr (aA (pv 0) (aR aD))) (aR (bW C_Draw hr (aA (pv 0) (aR aD)))))) (bW C_Draw hr (aA (pv 0) (aR aD)))))))))) aU)
  (eQ 3 nd (aP nN (aP jW (pv 2) aD) aD)
  (eQ 4 nd (bW C_Trm46 hr (aA (pv 0) (aA (pv 1) (aR (pv 3)))))
  (aE (aO (aY (aA aG (aA (bQ wV aG (bW C_Draw hr (aA (pv 0) (aR aD)))) (aA (pv 4) (aR (bW C_Trm46 hr (aA (pv 0) (aA (pv 1) (aR (pv 3))))))))))))))),?_⟩
 refine⟨fun b G=>dY G d l/\fL d l H G/\(b=false->3<=room),?_,?_⟩
 ·refine⟨_,rfl,_,_,rfl,rfl,_,rfl,?_⟩
  by_cases c1:room<3
  ·exact bH (ag c1) ⟨D,fL.refl _,fun z=>nomatch z⟩
  ·refine aS (by simpa using c1) ⟨_,rfl,d,l,3,rfl,D,by decide,by decide,fun x H1 x0 x1 D1 o1=>⟨rfl,_,rfl,D1,o1,fun _=>by lia⟩⟩
 rintro b G ⟨D1,o1,hb⟩;have hk1:=aM D hk nk o1
 cases b with
 |false =>
  refine aS (by simp) ?_;have c1:=hb rfl
  cases n with
  |zero=>exact absurd r2 (by simp only[cap];lia)
  |succ n =>
  simp only[cap] at r2;refine⟨_,rfl,_,_,rfl,rfl,_,_,rfl,rfl,⟨by decide,by decide⟩,?_⟩;refine⟨_,rfl,_,rfl,_,rfl,d,l,kn,ks,(room-1) / 2,rfl,D1,hk1,nk,lk,by lia,by lia,fun t1 H3 D3 o3 h3 ok3 nm3 sz3=>?_⟩;have hk3:=aM D1 hk1 nk o3;refine⟨_,rfl,d,l,5,rfl,D3,by decide,by decide,fun y H4 y0 y1 D4 o4=>?_⟩;obtain⟨c,hc,hs⟩:=bO2 y0 y1;have hk4:=aM D3 hk3 nk o4;refine⟨_,y,c,rfl,rfl,by decide,hc,_,rfl,_,rfl,_,rfl,_,rfl,d,l,kn,ks,(room-1) / 2,rfl,D4,hk4,nk,lk,by lia,by lia,fun t2 H5 D5 o5 h5 ok5 nm5 sz5=>⟨by show 4<=sizeLine;decide,fun p hp=>?_⟩⟩;have s6:=aB hp (.tup [.str "op",.str ⟨#[c]⟩,.ref t1.p,.ref t2.p]);have t15:=(TS.out D3 o4).trans ((TS.out D4 o5).trans (.of s6));refine k (.op p ⟨#[c]⟩ t1 t2) _ (D5.same s6) (o1.trans (o3.trans (o4.trans (o5.trans (.of s6))))) ⟨aC,h3.ts t15,h5.ts (.of s6)⟩ ⟨hs,ok3,ok5⟩ (fun z hz=>?_) ?_
  ·rcases bq.mp hz with q|q
   ·exact nm3 z q
   ·exact nm5 z q
  ·simp only[Tm.size];lia
 |true =>
  refine bH rfl ?_;refine⟨fun b G'=>dY G' d l/\fL d l H G'/\(b=true->0<ks.length),?_,?_⟩
  ·refine⟨_,rfl,kn,_,rfl,.inl (bJ.of hk1),_,_,rfl,rfl,_,rfl,?_⟩
   by_cases c:(0:Int)<((ks.map V.str).length:Int)
   ·refine bH (ag c) ⟨_,rfl,d,l,4,rfl,D1,by decide,by decide,fun x H2 x0 x1 D2 o2=>⟨_,_,rfl,rfl,_,rfl,D2,o1.trans o2,fun _=>by rw[ac] at c;lia⟩⟩
   ·exact aS (by simpa using c) ⟨D1,o1,fun z=>nomatch z⟩
  rintro b G2 ⟨D2,o2,hb2⟩;have hk2:=aM D hk nk o2
  cases b with
  |true =>
   have kp:=hb2 rfl;refine bH rfl ?_;refine⟨_,rfl,_,rfl,_,rfl,kn,_,rfl,.inl (bJ.of hk2),d,l,_,rfl,D2,by rw[ac];lia,by rw[ac];lia,fun x H3 x0 x1 D3 o3=>?_⟩;obtain⟨v,hv,ha⟩:=aD7 x0 x1;obtain⟨y,rfl,hy⟩:=iC hv;refine⟨kn,_,_,.str y,rfl,rfl,bJ.of (aM D2 hk2 nk o3),ha,eW,fun p hp=>?_⟩;have s4:=aB hp (.tup [.str "name",.str y]);refine k (.nam p y) _ (D3.same s4) (o2.trans (o3.trans (.of s4))) aC trivial (fun z hz=>?_) (by simp only[Tm.size];lia);rw[cp.mp hz];exact bg hy
  |false =>
   refine aS (by simp) ?_;refine⟨_,rfl,d,l,4,rfl,D2,by decide,by decide,fun x H3 x0 x1 D3 o3=>?_⟩;refine⟨_,rfl,d,l,1000,rfl,D3,by decide,by decide,fun y H4 y0 y1 D4 o4=>⟨eW,fun l0 hl0=>?_⟩⟩;have n0:=(fN D4 hl0).2;obtain⟨H5,e0,s5,h5⟩:=mZ hl0 (.lst [.int x,.int y]);rw[e0];clear e0;refine⟨_,rfl,d,l,2,rfl,D4.same s5,by decide,by decide,fun z H6 z0 z1 D6 o6=>?_⟩;obtain⟨w,hw,w0,w1⟩:∃w:Int,nE [V.int x,V.int y] z=some (.int w)/\0<=w/\w<1000:=by
    have:z=0\/z=1:=by lia
    rcases this with rfl|rfl
    ·exact⟨x,rfl,x0,by lia⟩
    ·exact⟨y,rfl,y0,y1⟩
   refine⟨l0,_,_,.int w,rfl,rfl,bJ.of (aM (D4.same s5) h5 n0 o6),hw,eW,fun p hp=>?_⟩;have s7:=aB hp (.tup [.str "num",.int w]);exact k (.num p w) _ (D6.same s7) (o2.trans (o3.trans (o4.trans ((fL.of s5).trans (o6.trans (.of s7)))))) aC ⟨w0,w1⟩ (fun z hz=>absurd hz dq) (by simp only[Tm.size];lia)
def bD2 (C_Draw:Cl P w K mg base 1 spDraw "_law_draw")(C_Thw46:Cl P w K mg base 3 spThrE "_law_throw")(C_Trm46:Cl P w K mg base 4 (qV 3) "_law_term")(m_len:mg "len"=none):gG P w K mg base "_law_set_row" "_law_set_row" bK4 5 ["_law_deal_here","_law_scene","_law_known"] spSetE:=by
 refine iT ["_law_deal_here","_law_scene","_law_known","_law_x"] fun H Q nd hr h=>?_
 obtain⟨d,l,sc,nl,kn,kd,wd,xs,ks,rfl,W0,hk,nk,lk,k⟩:=h;have hu:=gQ hr;refine⟨_,(eQ 3 nd (bQ fP (xJ hu (pv 1) aG) (bW C_Draw hr (aA (pv 0) (aR (iF aV m_len ci (aR (xJ hu (pv 1) aG)))))))
  (aF (bD (eM (PW.pt (jZ (dZ bA4 (xJ hu (pv 1) aG) (xJ hu (pv 1) aG)) (kE (dZ jB (bW C_Draw hr (aA (pv 0) (aR aD))) aD))))) (aF (pdp hu (pv 1) aG (aP jW (xJ hu (pv 1) aG) (xJ hu (pv 1) aG)))
  (aE (aO (aY (aA (bW C_Thw46 hr (aA (pv 0) (aA (pv 1) (aR (pv 3))))) (aA aD (aR (aP fR (pv 2) (cC (aR (pv 3))))))))))) aU)
  (aE (aO (aY (aA (aY (aA aG (aA (pv 3) (aR (bW C_Trm46 hr (aA (pv 0) (aA (pv 2) (aR aD)))))))) (aA aD (aR (aP fR (pv 2) (cC (aR (pv 3)))))))))))),?_⟩
 have x1:=W0.x1;have x2:=W0.x2;refine⟨_,rfl,sc,_,rfl,W0.gNames,?_⟩;refine⟨_,rfl,_,rfl,sc,_,rfl,W0.gNames,nl,_,rfl,.inl (bJ.of W0.nms),d,l,_,rfl,W0.deal,by rw[ac];lia,by rw[ac];lia,fun y H1 y0 y1 D1 o1=>?_⟩;obtain⟨v,hv,ha⟩:=aD7 y0 y1;obtain⟨x,rfl,hx⟩:=iC hv;have W1:=W0.out D1 o1;have hk1:=aM W0.deal hk nk o1;refine⟨nl,_,_,.str x,rfl,rfl,bJ.of W1.nms,ha,?_⟩;obtain⟨rm,gr⟩:=W1.gRoom;obtain⟨by_,gb⟩:=W1.gBy;refine⟨fun b G=>We G d l sc nl kd wd xs/\fL d l H G,?_,?_⟩
 ·refine⟨_,rfl,sc,_,rfl,gr,_,rfl,sc,_,rfl,gb,_,_,rfl,rfl,_,rfl,?_⟩;refine mF (fun _=>⟨_,rfl,d,l,4,rfl,D1,by decide,by decide,fun x H2 x0 x1 D2 o2=>⟨_,_,rfl,rfl,_,rfl,W1.out D2 o2,o1.trans o2⟩⟩) (fun _=>⟨W1,o1⟩)
 rintro b G ⟨W2,o2⟩;have hk2:=aM W0.deal hk nk o2;have oo2:=eZ.out (sc:=sc) o2
 cases b with
 |true =>
  refine bH rfl ?_;obtain⟨rm2,gr2⟩:=W2.gRoom;obtain⟨by2,gb2⟩:=W2.gBy;refine⟨_,rfl,sc,_,rfl,gr2,_,rfl,sc,_,rfl,gb2,_,_,rfl,rfl,?_⟩;obtain⟨H3,p3,W3,o3⟩:=W2.pRoom (rm2-by2);have hk3:=W2.keep hk2 nk o3;refine⟨_,rfl,sc,_,rfl,p3,?_⟩;refine⟨_,rfl,_,rfl,_,rfl,d,l,sc,nl,kd,wd,xs,x,rfl,W3,fun p w us H4 D4 o4 h4 ok4 okv=>?_⟩;have W4:=W3.out D4 o4;have hk4:=aM W3.deal hk3 nk o4;refine⟨_,rfl,_,rfl,kL,fun l5 hl5=>?_⟩;obtain⟨H5,e0,s5,h5⟩:=mZ hl5 (.lst [.str x]);rw[e0];clear e0;refine⟨kn,l5,_,_,rfl,rfl,s5 _ _ hk4,h5,bp (aJ (by rw[ac];show _+1<=_;lia)),fun l6 hl6=>?_⟩;have s6:=s5.trans (aB hl6 (.lst (ks.map V.str++[.str x])));have h6:aN H5 l6 (.lst (ks.map V.str++[.str x])) l6=some (.lst ((ks++[x]).map V.str)):=by rw[aC,av];rfl
  have oA:=oo2.trans (o3.trans (eZ.out (sc:=sc) o4));have f6:H l6=none:=oA.fresh W4.all (s5.free hl6);generalize aN H5 l6 (.lst (ks.map V.str++[.str x]))=H6 at s6 h6 ⊢;refine⟨by show 3<=sizeLine;decide,fun q hq=>?_⟩;have s7:=s6.trans (aB hq (.tup [.ref p,.int 0,.ref l6]));exact k q l6 (.thr p w x us false) x _ (W4.same s7) (oA.trans (.of s7)) aC ⟨s7 _ _ h4,ok4.ts (.of s7)⟩ (.inl ⟨p,w,us,rfl,okv.ts (.of s7)⟩) (bg hx) f6 ((aB hq _) _ _ h6)
 |false =>
  refine aS (by simp) ?_;refine⟨_,rfl,_,rfl,_,rfl,d,l,kn,ks,7,rfl,W2.deal,hk2,nk,by lia,by decide,by decide,fun t H4 D4 o4 h4 ok4 nm4 sz4=>⟨by show 3<=sizeLine;decide,fun p hp=>?_⟩⟩;have s5:=aB hp (.tup [.str "let",.str x,.ref t.p]);have h5:aN H4 p (.tup [.str "let",.str x,.ref t.p]) p=some (.tup [.str "let",.str x,.ref t.p]):=aC;have W4:=W2.out D4 o4;have hk4:=aM W2.deal hk2 nk o4;generalize aN H4 p (.tup [.str "let",.str x,.ref t.p])=H5 at s5 h5 ⊢;refine⟨_,rfl,_,rfl,kL,fun l6 hl6=>?_⟩;have s6:=s5.trans (aB hl6 (.lst [.str x]));have h6:aN H5 l6 (.lst [.str x]) l6=some (.lst [.str x]):=aC;have h56:=aB hl6 (.lst [.str x]) _ _ h5;generalize aN H5 l6 (.lst [.str x])=H6 at s6 h6 h56 ⊢;refine⟨kn,l6,_,_,rfl,rfl,s6 _ _ hk4,h6,bp (aJ (by rw[ac];show _+1<=_;lia)),fun l7 hl7=>?_⟩;have s7:=s6.trans (aB hl7 (.lst (ks.map V.str++[.str x])));have h7:aN H6 l7 (.lst (ks.map V.str++[.str x])) l7=some (.lst ((ks++[x]).map V.str)):=by rw[aC,av];rfl
  have h57:=aB hl7 (.lst (ks.map V.str++[.str x])) _ _ h56;have oA:=oo2.trans (eZ.out (sc:=sc) o4);have f7:H l7=none:=oA.fresh W4.all (s6.free hl7);generalize aN H6 l7 (.lst (ks.map V.str++[.str x]))=H7 at s7 h7 h57 ⊢;refine⟨by show 3<=sizeLine;decide,fun q hq=>?_⟩;have s8:=s7.trans (aB hq (.tup [.ref p,.int 0,.ref l7]));exact k q l7 (.lt p x t) x _ (W4.same s8) (oA.trans (.of s8)) aC ⟨aB hq _ _ _ h57,h4.ts (.of s8),ok4,by lia⟩ (.inr ⟨p,t,rfl,nm4,by lia⟩) (bg hx) f7 ((aB hq _) _ _ h7)
def aT6 (m)(C_Trm46:Cl P w K mg base 4 (qV 3) "_law_term")(C_Rws46:Cl P w K mg base (7+3*m) (pI m) "_law_rows")(C_Draw:Cl P w K mg base 1 spDraw "_law_draw")(C_SetR:Cl P w K mg base 5 spSetE "_law_set_row")(m_range:mg "range"=none)(m_len:mg "len"=none)(m_int:mg "int"=none)(m_tuple:mg "tuple"=none):gG P w K mg base "_law_when" "_law_when" aU5 (7+3*m+1) ["_law_deal_here","_law_scene","_law_known","_law_deep"] (zN (m+1)):=by
 refine iT ["_law_deal_here","_law_scene","_law_known","_law_deep","_law_term_here","_law_one","_law_tells","_law_first","_law_other","_law_second","_law_row_here","_law_no","_law_k"] fun H Q nd hr h=>?_
 obtain⟨d,l,sc,nl,kn,kd,wd,xs,ks,deep,rfl,W0,hk,nk,lk,hm,hd,k⟩:=h;have hu:=gQ hr;refine⟨_,(eQ 4 nd (bW C_Trm46 hr (aA (pv 0) (aA (pv 2) (aR aD))))
  (aF (lJ (bW C_Rws46 hr (aA (pv 0) (aA (pv 1) (aA (pv 2) (aA (aP dF (pv 3) aD) (aR (aP dF aD (oR lW m_int mi (aR (eX (oK bO (pv 3) aD) (eG (oK bO (bW C_Draw hr (aA (pv 0) (aR aD))) aD)))))))))))) (jE rfl (bG (fK 5 nd) (bG (fK 6 nd) (bG (fK 7 nd) fO)))))
  (eQ 8 nd (cC cJ)
  (eQ 9 nd (pv 2)
  (aF (gD (bD (dZ bO (bW C_Draw hr (aA (pv 0) (aR aD))) aD) (aF (lJ (bW C_SetR hr (aA (pv 0) (aA (pv 1) (aR (pv 2))))) (jE rfl (bG (fK 10 nd) (bG (fK 11 nd) (bG (fK 9 nd) fO)))))
  (aE (cO (fG bj cy db cU (pv 8) (aR (pv 10)))))) aU))
  (aF (pfr (iE (by rfl) m_range (aR (pv 6))) (fK 12 nd)
  (aE (cO (fG bj cy db cU (pv 8) (aR (aY (aA aG (aR (bW C_Trm46 hr (aA (pv 0) (aA (pv 9) (aR aD))))))))))))
  (aF (pdp hu (pv 1) aG (aP jW (xJ hu (pv 1) aG) (iF aV m_len ci (aR (pv 8)))))
  (aE (aO (aY (aA (aY (aA aG (aA (pv 4) (aA (pv 5) (aR (oR bT m_tuple cq (aR (pv 8)))))))) (aA (pv 6) (aR (cY ["_law_x","_law_second"] [none,some 9] (dE (pv 7)) (fun _ _ _ _=>(fK 0)) (fun _ _ _ _=>(lN (dZ (inK K) (pv 0) (pv 1)))) (fun _ _ _ _=>(pv 0)))))))))))))))),?_⟩
 have lk1:=nI (m+1);refine⟨_,rfl,_,rfl,d,l,kn,ks,5,rfl,W0.deal,hk,nk,by lia,by decide,by decide,fun t H1 D1 o1 h1 ok1 nm1 sz1=>?_⟩;have W1:=W0.out D1 o1;have hk1:=aM W0.deal hk nk o1;refine⟨_,rfl,_,rfl,_,rfl,_,rfl,_,_,rfl,rfl,aU4 rfl rfl D1 fun e H2 D2 o2 he=> .inr ⟨_,rfl,_,_,rfl,rfl,?_⟩⟩;have W2:=W1.out D2 o2;have hk2:=aM D1 hk1 nk o2;have oA:=(eZ.out (sc:=sc) o1).trans (eZ.out (sc:=sc) o2);obtain⟨n,hn,n1,n2,n3⟩:∃n:Nat,(1:Int)+(if e=true then 1 else 0)=(n:Int)/\1<=n/\n<=2/\(m=0->n<=1):=by
  cases e with
  |true=>exact⟨2,rfl,by decide,by decide,fun z=>by have:=he rfl;lia⟩
  |false=>exact⟨1,rfl,by decide,by decide,fun _=>aj _⟩
 obtain⟨c1,c2,c3⟩:=aV9 hm n2 n3;refine⟨d,l,sc,nl,kn,kd,wd,xs,ks,deep+1,n,by show [_,_,_,_,V.int (1+if e=true then 1 else 0)]=_;rw[hn],W2,hk2,nk,by lia,by lia,by lia,by lia,fun p3 pr3 kn3 rs3 k3 t3 H3 W3 o3 h3 hp3 hr3 b3 q3 hk3=>?_⟩;refine⟨p3,_,rfl,aQ.of h3,rfl,_,_,rfl,_,_,rfl,_,_,rfl,rfl,?_⟩;have hkk3:=W2.keep hk2 nk o3;have n3l:kn3≠l:=by
  rcases q3 with z|z
  ·rw[z];exact nk
  ·exact(W2.new z).2.1
 have h13:=(h1.ts (TS.out D1 o2)).ts (W2.ts o3);have oB:=oA.trans o3;clear h1 hk1 hk2 D1 D2 o1 o2 o3 W1 h3;refine⟨bu _,fun lo hlo=>?_⟩;obtain⟨_,nlo,_,nln⟩:=W3.new hlo;have l0:=oB.fresh W3.all hlo;have n3o:kn3≠lo:=aK hk3 hlo;have nko:kn≠lo:=aK hkk3 hlo;obtain⟨H4,e0,s4,g4⟩:=mZ hlo (.lst []);rw[e0];clear e0;have W4:=W3.same s4;have oC:=oB.trans (eZ.of s4);have hk4:=s4 _ _ hk3;have hkk4:=s4 _ _ hkk3;have h14:=h13.ts (.of s4);have hp4:=s4 _ _ hp3;have b3:=b3.ts (.of s4);have hr4:=aW.ts (.of s4) _ hr3;clear h13 hp3 hr3 hk3 hkk3 s4 W3 oA oB;refine⟨_,rfl,?_⟩;refine⟨fun σ' G=>∃(kn2:Addr) (k2:List Str) (bs:List Rw) (v10 v11:Option V),σ'=[some (.ref d),some (.ref sc),some (.ref kn),some (.int deep),some (.ref t.p),some (.ref pr3),some (.int t3),some (.ref kn3),some (.ref lo),some (.ref kn2),v10,v11,none]/\We G d l sc nl kd wd xs/\eZ [d,l,sc] H G/\TS H4 G/\G kn3=some (.lst (k3.map V.str))/\G lo=some (.lst (bN bs))/\aW G bs/\pX G ks xs bs k2 0 0 1/\kn2≠l/\kn2≠lo/\G kn2=some (.lst (k2.map V.str)),?_,?_⟩
 ·refine⟨_,rfl,d,l,2,rfl,W4.deal,by decide,by decide,fun y H5 _ _ D5 o5=>⟨rfl,_,rfl,?_⟩⟩;have W5:=W4.out D5 o5;have g5:=aM W4.deal g4 nlo o5;have hk5:=aM W4.deal hk4 n3l o5;have hkk5:=aM W4.deal hkk4 nk o5;have oD:=oC.trans (eZ.out (sc:=sc) o5);have t5:=TS.out W4.deal o5;refine mF (fun _=>?_) (fun _=>⟨kn,ks,[],_,_,rfl,W5,oD,t5,hk5,g5,trivial,pX.nil.mono (by decide),nk,nko,hkk5⟩);refine⟨_,rfl,_,rfl,_,rfl,d,l,sc,nl,kn,kd,wd,xs,ks,rfl,W5,hkk5,nk,by lia,fun p6 kn6 r6 x6 H6 W6 o6 h6 hr6 s6 m6 f6 hk6=>?_⟩;refine⟨p6,_,rfl,aQ.of h6,rfl,_,_,rfl,_,_,rfl,_,_,rfl,rfl,?_⟩;have g6:=W5.keep g5 nlo o6;have hk36:=W5.keep hk5 n3l o6;have n6l:=(W5.new f6).2.1;have n6o:kn6≠lo:=(aK g5 f6).symm;refine⟨_,rfl,.inl ⟨rfl,_,bJ.of g6⟩,_,rfl,lo,_,_,rfl,rfl,g6,by show 0<sizeLine;decide,?_⟩;have tN:=TS.lst (ys:=bN [r6]) g6;exact⟨kn6,_,[r6],_,_,rfl,W6.lst (zs:=bN [r6]) g6 nlo nln,(oD.trans o6).new l0,(t5.trans (W5.ts o6)).trans tN,(aH n3o).trans hk36,aC,⟨eB.ts tN r6 hr6,trivial⟩,pX.nil.snoc ((s6.ts tN).row m6),n6l,n6o,(aH n6o).trans hk6⟩
 rintro σ' G ⟨kn2,k2,bs,v10,v11,rfl,W5,o5,t5,hk5,g5,hb5,b5,n2l,n2o,hk25⟩;have t30:=b3.t0;have t31:=b3.t1;have sl5:=fZ.len bs b5.sc;have ct5:=b5.ct;simp only[mH] at ct5;refine⟨_,rfl,t3,rfl,by lia,by lia,oY (n:=t3.toNat) (fun i σ G=>∃(bs:List Rw) (v12:Option V),σ=[some (.ref d),some (.ref sc),some (.ref kn),some (.int deep),some (.ref t.p),some (.ref pr3),some (.int t3),some (.ref kn3),some (.ref lo),some (.ref kn2),v10,v11,v12]/\We G d l sc nl kd wd xs/\eZ [d,l,sc] H G/\TS H4 G/\G kn3=some (.lst (k3.map V.str))/\G lo=some (.lst (bN bs))/\aW G bs/\pX G ks xs bs k2 (i:Int) 0 (i+1)/\G kn2=some (.lst (k2.map V.str)))
  ⟨bs,_,rfl,W5,o5,t5,hk5,g5,hb5,b5,hk25⟩ ?_ ?_⟩
 ·rintro i σ G7 hi ⟨bs,v12,rfl,W7,o7,t7,hk7,g7,hb7,b7,hk27⟩;have ct7:=b7.ct;simp only[mH] at ct7;have ln:=gE bs;refine⟨_,rfl,.inl ⟨rfl,_,bJ.of g7⟩,_,rfl,_,rfl,d,l,kn2,k2,5,rfl,W7.deal,hk27,n2l,by lia,by decide,by decide,fun t8 H8 D8 o8 h8 ok8 nm8 sz8=>⟨eW,fun p hp=>?_⟩⟩;have W8:=W7.out D8 o8;have g8:=aM W7.deal g7 nlo o8;have hk8:=aM W7.deal hk7 n3l o8;have hk28:=aM W7.deal hk27 n2l o8;obtain⟨H9,e0,s9,g9⟩:=mZ hp (.tup [.str "tell",.ref t8.p]);rw[e0];clear e0;refine⟨lo,_,_,rfl,rfl,s9 _ _ g8,by rw[bB];exact aJ (by lia),?_⟩;have tN:=TS.lst (ys:=bN bs++[.ref p]) (s9 _ _ g8);have tA:=((TS.out W7.deal o8).trans (.of s9)).trans tN;refine⟨bs++[.tell p t8],_,rfl,(W8.same s9).lst (zs:=bN bs++[.ref p]) (s9 _ _ g8) nlo nln,((o7.trans (eZ.out (sc:=sc) o8)).trans (eZ.of s9)).new l0,t7.trans tA,(aH n3o).trans (s9 _ _ hk8),by rw[aC,dO];rfl,aW.app (qs:=[.tell p t8]) (aW.ts tA _ hb7) ⟨⟨tN _ _ g9,h8.ts ((TS.of s9).trans tN),ok8,by lia⟩,trivial⟩,?_,(aH n2o).trans (s9 _ _ hk28)⟩
  exact(b7.ts tA).snoc (aR7 nm8 (by lia))
 rintro σ G7 ⟨bs,v12,rfl,W7,o7,t7,hk7,g7,hb7,b7,hk27⟩;have ct7:=b7.ct;simp only[mH] at ct7;have ln:=gE bs;obtain⟨lf,gl⟩:=W7.gLeft;refine⟨_,rfl,sc,_,rfl,gl,_,rfl,lo,_,rfl,.inl (bJ.of g7),_,_,rfl,rfl,?_⟩;obtain⟨H8,p8,W8,o8⟩:=W7.pLeft (lf-((bN bs).length:Int));refine⟨_,rfl,sc,_,rfl,p8,?_⟩;have g8:=W7.keep g7 nlo o8;have hk8:=W7.keep hk7 n3l o8;have hk28:=W7.keep hk27 n2l o8;have t8:=t7.trans (W7.ts o8);refine⟨_,rfl,_,rfl,_,rfl,lo,_,rfl,.inl ⟨bJ.of g8,fun pb hpb=>⟨by show 4<=sizeLine;decide,fun q hq=>?_⟩⟩⟩;have s9:=(aB hpb (.tup (bN bs))).trans (aB hq (.tup [.str "when",.ref t.p,.ref pr3,.ref pb]));have gb9:=aB hq (.tup [.str "when",.ref t.p,.ref pr3,.ref pb]) _ _ (show aN H8 pb (.tup (bN bs)) pb=_ from aC);have gq9:aN (aN H8 pb (.tup (bN bs))) q (.tup [.str "when",.ref t.p,.ref pr3,.ref pb]) q=some (.tup [.str "when",.ref t.p,.ref pr3,.ref pb]):=aC;generalize aN (aN H8 pb (.tup (bN bs))) q (.tup [.str "when",.ref t.p,.ref pr3,.ref pb])=H9 at s9 gb9 gq9 ⊢
 have l3:=fZ.len rs3 b3.sc;have c3':=b3.ct;refine⟨_,rfl,_,rfl,kn3,rfl,⟨_,bJ.of (s9 _ _ hk8)⟩,dJ (K:=K) (a:=kn3) (xs:=k3.map V.str) (fun i ys σ G=>G=H9/\(∃v,σ=[v,some (.ref kn2)])/\ys=((k3.take i).filter fun x=>decide (x∈k2)).map V.str)
  (aJ (by rw[ac];lia)) ⟨rfl,⟨_,rfl⟩,rfl⟩ (fun i ys σ G ⟨_,_,e⟩=>by
   rw[e,ac];exact cm (jy _ _) (by rw[bx];lia)) (by rintro i ys σ G _ ⟨e,_⟩;rw[e];exact bJ.of (s9 _ _ hk8)) ?_ ?_⟩
 ·rintro i v ys σ G hv ⟨rfl,⟨v',rfl⟩,rfl⟩;obtain⟨x,rfl,hx⟩:=iC hv;refine⟨_,rfl,_,rfl,kn2,_,rfl,.inl (bJ.of (s9 _ _ hk28)),rfl,cA _,_,rfl,?_⟩;have ei:lV (V.str x) (k2.map V.str)=decide (x∈k2):=dS _ _;rw[bE hx,fj,av]
  by_cases c:x∈k2
  ·refine bH (ei.trans (ag c)) ⟨_,rfl,rfl,⟨_,rfl⟩,?_⟩;rw[dh (p:=fun x=>decide (x∈k2)) (ag c)];rfl
  ·refine aS (fun z=>c (ae (ei.symm.trans z))) ⟨rfl,⟨_,rfl⟩,?_⟩;rw[dw (p:=fun x=>decide (x∈k2)) (by simpa using c)];simp
 rintro ys σ G ⟨rfl,_,rfl⟩ l10 hl10;rw[ac,cg];refine⟨by show 3<=sizeLine;decide,fun p hp=>?_⟩;have s10:=aB hl10 (.lst ((k3.filter fun x=>decide (x∈k2)).map V.str));have s11:=aB hp (.tup [.ref q,.int t3,.ref l10]);have sA:=s9.trans (s10.trans s11);have tA:=(t8.trans (.of sA))
 have oF:=(o7.trans o8).trans (eZ.of sA);refine k p l10 (.when q pr3 pb t rs3 bs) _ t3 _ (W8.same sA) oF aC ⟨(s10.trans s11) _ _ gq9,h14.ts tA,⟨ok1,by lia⟩,tA _ _ hp4,(s10.trans s11) _ _ gb9,aW.ts tA _ hr4,aW.ts ((W7.ts o8).trans (.of sA)) _ hb7⟩ ?_ ?_ (s11 _ _ aC)
 ·exact pX.when (b3.ts tA) (by rw[nt t30] at b7;exact b7.ts ((W7.ts o8).trans (.of sA))) (by lia) hm n2 n3 nm1 (by lia)
 ·exact(o7.trans o8).fresh W8.all (s9.free hl10)
def aV8 (m)(C_Draw:Cl P w K mg base 1 spDraw "_law_draw")(C_Whn46:Cl P w K mg base (5+3*m) (zN m) "_law_when")(C_Rws46:Cl P w K mg base (4+3*m) (bM4 m) "_law_rows")(C_SetR:Cl P w K mg base 5 spSetE "_law_set_row")(C_Trm46:Cl P w K mg base 4 (qV 3) "_law_term")(m_int:mg "int"=none):gG P w K mg base "_law_row" "_law_row" bC1 (5+3*m+1) ["_law_deal_here","_law_scene","_law_known","_law_deep"] (wS m):=by
 refine iT ["_law_deal_here","_law_scene","_law_known","_law_deep","_law_form","_law_k","_law_rows_here","_law_tells"] fun H Q nd hr h=>?_
 obtain⟨d,l,sc,nl,kn,kd,wd,xs,ks,deep,rfl,W0,hk,nk,lk,hm,hd,k⟩:=h;have hu:=gQ hr;refine⟨_,(aF (pdp hu (pv 1) aG (aP jW (xJ hu (pv 1) aG) aD))
  (eQ 4 nd (bW C_Draw hr (aA (pv 0) (aR aD)))
  (aF (bD (eM (PW.pt (jZ (dZ bO (pv 4) aD) (jZ (dZ kU (pv 3) aD) (kE (dZ jB (xJ hu (pv 1) aG) (bQ fP (cC (aA aD (aR aD))) (oR lW m_int mi (aR (oK jB (pv 3) aD)))))))))) (aE (aO (bW C_Whn46 hr (aA (pv 0) (aA (pv 1) (aA (pv 2) (aR (pv 3)))))))) aU)
  (aF (bD (eM (PW.pt (jZ (dZ bO (pv 4) aD) (jZ (dZ bO (pv 3) aD) (kE (dZ jB (xJ hu (pv 1) aG) aD)))))) (eQ 5 nd (aP dF aD (bW C_Draw hr (aA (pv 0) (aR aD))))
  (aF (pdp hu (pv 1) aG (pv 5))
  (aF (lJ (bW C_Rws46 hr (aA (pv 0) (aA (pv 1) (aA (pv 2) (aA aD (aR (aP dF aD (bW C_Draw hr (aA (pv 0) (aR aD)))))))))) (jE rfl (bG (fK 6 nd) (bG (fK 7 nd) (bG (fK 2 nd) fO)))))
  (aF (pdp hu (pv 1) aG aD)
  (aE (aO (aY (aA (aY (aA aG (aA (pv 5) (aR (pv 6))))) (aA (aP iL (pv 5) (pv 7)) (aR (pv 2))))))))))) aU)
  (aF (bD (dZ kU (pv 4) aD) (aE (aO (bW C_SetR hr (aA (pv 0) (aA (pv 1) (aR (pv 2))))))) aU)
  (aE (aO (aY (aA (aY (aA aG (aR (bW C_Trm46 hr (aA (pv 0) (aA (pv 2) (aR aD))))))) (aA aD (aR (pv 2)))))))))))),?_⟩
 have rp:=nI m;obtain⟨lf,gl⟩:=W0.gLeft;refine⟨_,rfl,sc,_,rfl,gl,_,_,rfl,rfl,?_⟩;obtain⟨H1,p1,W1,o1⟩:=W0.pLeft (lf-1);refine⟨_,rfl,sc,_,rfl,p1,?_⟩;have hk1:=W0.keep hk nk o1;refine⟨_,rfl,d,l,10,rfl,W1.deal,by decide,by decide,fun fo H2 f0 f1 D2 o2=>?_⟩;have W2:=W1.out D2 o2;have hk2:=aM W1.deal hk1 nk o2;have oA:=o1.trans (eZ.out (sc:=sc) o2);clear p1 gl W0 W1 D2 hk hk1 o2;refine⟨fun b G=>We G d l sc nl kd wd xs/\eZ [d,l,sc] H2 G/\(b=true->deep<2),?_,?_⟩
 ·refine⟨_,rfl,rfl,_,rfl,?_⟩;refine mF (fun _=>⟨_,rfl,_,_,rfl,rfl,_,rfl,?_⟩) (fun _=>⟨W2,eZ.refl _,fun z=>nomatch z⟩)
  by_cases c:deep<2
  ·obtain⟨lf,gl⟩:=W2.gLeft;refine bH (ag c) ⟨_,rfl,sc,_,rfl,gl,eW,fun l0 hl0=>⟨_,rfl,_,_,rfl,rfl,.inr ⟨_,rfl,?_⟩⟩⟩;have h0:aN H2 l0 (.lst [.int 3,.int 6]) l0=some (.lst [.int 3,.int 6]):=aC;have s0:=aB hl0 (.lst [.int 3,.int 6]);generalize aN H2 l0 (.lst [.int 3,.int 6])=H3 at s0 h0 ⊢;obtain⟨v,hv⟩:∃v:Int,nE [V.int 3,V.int 6] (if decide (deep > 0)=true then 1 else 0)=some (.int v):=by
    split
    ·exact⟨6,rfl⟩
    ·exact⟨3,rfl⟩
   exact⟨l0,_,_,.int v,rfl,rfl,bJ.of h0,hv,_,_,rfl,rfl,_,rfl,W2.same s0,eZ.of s0,fun _=>c⟩
  ·exact aS (by simpa using c) ⟨W2,eZ.refl _,fun z=>nomatch z⟩
 rintro b H3 ⟨W3,o3,hb⟩;have hk3:=W2.keep hk2 nk o3;have oB:=oA.trans o3
 cases b with
 |true =>
  refine bH rfl ?_;have d2:=hb rfl
  cases m with
  |zero=>exact absurd d2 (by lia)
  |succ m =>
  exact⟨_,rfl,_,rfl,_,rfl,_,rfl,d,l,sc,nl,kn,kd,wd,xs,ks,deep,rfl,W3,hk3,nk,lk,by lia,by lia,fun p kn' r k2 tells H' W' o' h' hr' b' f' hk'=>k p kn' r k2 tells H' W' (oB.trans o') h' hr' b' (.inr (oB.fresh W3.all f')) hk'⟩
 |false =>
 refine aS (by simp) ?_;clear hb;refine⟨fun b G=>We G d l sc nl kd wd xs/\G=H3/\(b=true->deep=0),?_,?_⟩
 ·refine⟨_,rfl,rfl,_,rfl,?_⟩;refine mF (fun _=>⟨_,rfl,rfl,_,rfl,?_⟩) (fun _=>⟨W3,rfl,fun z=>nomatch z⟩)
  by_cases c:deep=0
  ·obtain⟨lf,gl⟩:=W3.gLeft;exact bH (by rw[c];exact ag rfl) ⟨_,rfl,sc,_,rfl,gl,_,_,rfl,rfl,_,rfl,W3,rfl,fun _=>c⟩
  ·exact aS (fun z=>c (by have z:=ae z;injection z)) ⟨W3,rfl,fun z=>nomatch z⟩
 rintro b G ⟨_,rfl,hb⟩
 cases b with
 |true =>
  refine bH rfl ?_;have d0:=hb rfl;obtain rfl:m=2:=by lia
  refine⟨_,rfl,d,l,3,rfl,W3.deal,by decide,by decide,fun y H4 y0 y1 D4 o4=>⟨_,_,rfl,rfl,?_⟩⟩;have W4:=W3.out D4 o4;have hk4:=aM W3.deal hk3 nk o4;obtain⟨H5,p5,W5,o5⟩:=W4.pBy (1+y);refine⟨_,rfl,_,rfl,sc,_,rfl,p5,?_⟩;have hk5:=W4.keep hk4 nk o5;refine⟨_,rfl,_,rfl,_,rfl,_,rfl,d,l,2,rfl,W5.deal,by decide,by decide,fun z H6 z0 z1 D6 o6=>⟨_,_,rfl,rfl,?_⟩⟩;have W6:=W5.out D6 o6;have hk6:=aM W5.deal hk5 nk o6;have oC:=oB.trans ((eZ.out (sc:=sc) o4).trans (o5.trans (eZ.out (sc:=sc) o6)));obtain⟨n,hn,n1,n2⟩:∃n:Nat,1+z=(n:Int)/\1<=n/\n<=2:=⟨(1+z).toNat,by lia,by lia,by lia⟩
  simp only[mH] at lk;refine⟨d,l,sc,nl,kn,kd,wd,xs,ks,1,n,by show [_,_,_,_,V.int (1+z)]=_;rw[hn],W6,hk6,nk,by simp only[mH];lia,by decide,by lia,by decide,fun p7 pr7 kn7 rs7 k7 t7 H7 W7 o7 h7 hp7 hr7 b7 q7 hk7=>?_⟩;refine⟨p7,_,rfl,aQ.of h7,rfl,_,_,rfl,_,_,rfl,_,_,rfl,rfl,?_⟩;obtain⟨H8,p8,W8,o8⟩:=W7.pBy 1;refine⟨_,rfl,sc,_,rfl,p8,?_⟩;have n7l:kn7≠l:=by
   rcases q7 with z|z
   ·rw[z];exact nk
   ·exact(W6.new z).2.1
  have hk8:=W7.keep hk7 n7l o8;refine⟨_,rfl,_,rfl,by show 3<=sizeLine;decide,fun q hq=>⟨_,rfl,_,rfl,_,_,rfl,rfl,?_,_,rfl,by show 3<=sizeLine;decide,fun p hp=>?_⟩⟩
  ·exact .inl ⟨by lia,by lia⟩
  have s9:=aB hq (.tup [.str "times",.int (1+y),.ref pr7]);have s10:=aB hp (.tup [.ref q,.int ((1+y)*t7),.ref kn7]);have sA:=s9.trans s10;have tA:=(W7.ts o8).trans (.of sA);refine k p kn7 (.times q pr7 (1+y) rs7) k7 _ _ (W8.same sA) ((oC.trans (o7.trans o8)).trans (eZ.of sA)) aC ⟨s10 _ _ aC,tA _ _ hp7,aW.ts tA _ hr7⟩ (pX.times (b7.ts tA) n2 (by lia) (by lia)) ?_ (sA _ _ hk8);rcases q7 with z|z
  ·exact .inl z
  ·exact .inr (oC.fresh W6.all z)
 |false =>
 refine aS (by simp) ?_;refine⟨_,rfl,_,_,rfl,rfl,_,rfl,?_⟩;refine mF (fun _=>?_) (fun _=>?_)
 ·exact⟨_,rfl,_,rfl,_,rfl,d,l,sc,nl,kn,kd,wd,xs,ks,rfl,W3,hk3,nk,by lia,fun p kn' r x H' W' o' h' hr' s' m' f' hk'=>k p kn' r _ 0 H' W' (oB.trans o') h' hr' (s'.row m') (.inr (oB.fresh W3.all f')) hk'⟩
 ·refine⟨_,rfl,_,rfl,d,l,kn,ks,7,rfl,W3.deal,hk3,nk,by lia,by decide,by decide,fun t H4 D4 o4 h4 ok4 nm4 sz4=>⟨eW,fun q hq=>⟨_,rfl,by show 3<=sizeLine;decide,fun p hp=>?_⟩⟩⟩;have s9:=aB hq (.tup [.str "tell",.ref t.p]);have s10:=aB hp (.tup [.ref q,.int 1,.ref kn]);have sA:=s9.trans s10;exact k p kn (.tell q t) ks 1 _ ((W3.out D4 o4).same sA) ((oB.trans (eZ.out (sc:=sc) o4)).trans (eZ.of sA)) aC ⟨s10 _ _ aC,h4.ts (.of sA),ok4,by lia⟩ (aR7 nm4 (by lia)) (.inl rfl) (sA _ _ (aM W3.deal hk3 nk o4))
def aQ2 (m)(C_Row46:Cl P w K mg base (6+3*m) (aP5 (m+1)) "_law_row")(m_range:mg "range"=none)(m_tuple:mg "tuple"=none):gG P w K mg base "_law_rows" "_law_rows" aM8 (6+3*m+1) ["_law_deal_here","_law_scene","_law_known","_law_deep","_law_many"] (pI m):=by
 refine iT ["_law_deal_here","_law_scene","_law_known","_law_deep","_law_many","_law_found","_law_tells","_law_k","_law_row_here","_law_more"] fun H Q nd hr h=>?_
 obtain⟨d,l,sc,nl,kn,kd,wd,xs,ks,deep,n,rfl,W0,hk,nk,lk,hm,hn,hd,k⟩:=h;have hu:=gQ hr;refine⟨_,(eQ 5 nd (cC cJ)
  (eQ 6 nd aD
  (aF (pfr (iE (by rfl) m_range (aR (pv 4))) (fK 7 nd)
  (aE (bD (dZ jB (xJ hu (pv 1) aG) aD) (aF (lJ (bW C_Row46 hr (aA (pv 0) (aA (pv 1) (aA (pv 2) (aR (pv 3)))))) (jE rfl (bG (fK 8 nd) (bG (fK 9 nd) (bG (fK 2 nd) fO)))))
  (aF (cO (fG bj cy db cU (pv 5) (aR (pv 8))))
  (aE (pW 6 nd (aP dF (pv 6) (pv 9)))))) aU)))
  (aE (aO (aY (aA (oR bT m_tuple cq (aR (pv 5))) (aA (pv 6) (aR (pv 2)))))))))),?_⟩
 have rp:=nI m;refine⟨bu _,fun lo hlo=>?_⟩;obtain⟨_,nlo,_,nln⟩:=W0.new hlo;have nko:kn≠lo:=aK hk hlo;obtain⟨H1,e0,s1,g1⟩:=mZ hlo (.lst []);rw[e0];clear e0;have R12:mH m<=12:=by
  rcases m with _|_|m<;>simp only[mH]<;>lia
 refine⟨_,rfl,n,rfl,by lia,by lia,oY (n:=(n:Int).toNat) (fun i σ G=>∃(knc:Addr) (kc:List Str) (rs:List Rw) (tl:Int) (v7 v8 v9:Option V),σ=[some (.ref d),some (.ref sc),some (.ref knc),some (.int deep),some (.int n),some (.ref lo),some (.int tl),v7,v8,v9]/\We G d l sc nl kd wd xs/\eZ [d,l,sc] H G/\G lo=some (.lst (bN rs))/\aW G rs/\pX G ks xs rs kc tl m i/\(knc=kn\/H knc=none)/\knc≠l/\knc≠lo/\G knc=some (.lst (kc.map V.str)))
  ⟨kn,ks,[],0,_,_,_,rfl,W0.same s1,eZ.of s1,g1,trivial,pX.nil,.inl rfl,nk,nko,s1 _ _ hk⟩ ?_ ?_⟩
 ·rintro i σ G hi ⟨knc,kc,rs,tl,v7,v8,v9,rfl,W2,o2,g2,hr2,b2,q2,n2l,n2o,hk2⟩;have i1:i+1<=n:=by lia
  have mul1:(i+1)*mH m<=n*mH m:=qz _ i1;have mul2:(i+1)*mH m=i*mH m+mH m:=yo _ _;have sl:=fZ.len rs b2.sc;have ct:=b2.ct;have ln:=gE rs;obtain⟨lf,gl⟩:=W2.gLeft;refine⟨_,rfl,sc,_,rfl,gl,_,_,rfl,rfl,_,rfl,?_⟩;refine mF (fun _=>?_) (fun _=>⟨knc,kc,rs,tl,_,_,_,rfl,W2,o2,g2,hr2,b2.mono (by lia),q2,n2l,n2o,hk2⟩);refine⟨_,rfl,_,rfl,_,rfl,_,rfl,d,l,sc,nl,knc,kd,wd,xs,kc,deep,rfl,W2,hk2,n2l,by lia,hm,hd,fun p3 kn3 r3 k3 t3 H3 W3 o3 h3 hr3 b3 q3 hk3=>?_⟩;refine⟨p3,_,rfl,aQ.of h3,rfl,_,_,rfl,_,_,rfl,_,_,rfl,rfl,?_⟩;have g3:=W2.keep g2 nlo o3;have n3l:kn3≠l:=by
   rcases q3 with z|z
   ·rw[z];exact n2l
   ·exact(W2.new z).2.1
  have n3o:kn3≠lo:=by
   rcases q3 with z|z
   ·rw[z];exact n2o
   ·exact(aK g2 z).symm
  refine⟨_,rfl,.inl ⟨rfl,_,bJ.of g3⟩,_,rfl,lo,_,_,rfl,rfl,g3,by rw[bB];exact aJ (by lia),?_⟩;have tN:=TS.lst (ys:=bN rs++[.ref r3.p]) g3;have hR:=aW.app (qs:=[r3]) (aW.ts ((W2.ts o3).trans tN) rs hr2) ⟨eB.ts tN r3 hr3,trivial⟩;refine⟨_,rfl,_,rfl,_,_,rfl,rfl,?_⟩;refine⟨kn3,k3,rs++[r3],tl+t3,_,_,_,rfl,W3.lst (zs:=bN rs++[.ref r3.p]) g3 nlo nln,(o2.trans o3).new hlo,by rw[aC,dO];rfl,hR,(b2.ts ((W2.ts o3).trans tN)).snoc (b3.ts tN),?_,n3l,n3o,(aH n3o).trans hk3⟩;rcases q3 with z|z
  ·rw[z];exact q2
  ·exact .inr (o2.fresh W2.all z)
 rintro σ G ⟨knc,kc,rs,tl,v7,v8,v9,rfl,W2,o2,g2,hr2,b2,q2,n2l,n2o,hk2⟩;refine⟨_,rfl,lo,_,rfl,.inl ⟨bJ.of g2,fun t ht=>⟨_,rfl,_,rfl,by show 3<=sizeLine;decide,fun p hp=>?_⟩⟩⟩;have s9:=aB ht (.tup (bN rs));have s10:=aB hp (.tup [.ref t,.int tl,.ref knc]);have sA:=s9.trans s10;exact k p t knc rs kc tl _ (W2.same sA) (o2.trans (eZ.of sA)) aC (s10 _ _ aC) (aW.ts (.of sA) _ hr2) (b2.ts (.of sA)) q2 (sA _ _ hk2)
def aV0 (C_Rws46:Cl P w K mg base 13 (pI 2) "_law_rows")(C_Draw:Cl P w K mg base 1 spDraw "_law_draw")(C_Trm46:Cl P w K mg base 4 (qV 3) "_law_term")(m_len:mg "len"=none)(m_tuple:mg "tuple"=none):gG P w K mg base "_law_program" "_law_program" aQ4 14 ["_law_deal_here","_law_kinds","_law_names_here","_law_room"] spPrgE:=by
 refine iT ["_law_deal_here","_law_kinds","_law_names_here","_law_room","_law_scene","_law_rows_here","_law_tells","_law_known"] fun H Q nd hr h=>?_
 obtain⟨d,l,kl,nl,ks,xs,room,rfl,D,hk,nk,k1,k3,hn,nn,x1,x9,k⟩:=h;refine⟨_,(eQ 4 nd (aG5 (fX aG (iF aV m_len ci (aR (pv 1))) (fX aG (pv 2) (fX aG (pv 3) (fX aG aD (fX aG aD (fX aG aD aF8)))))) rfl rfl (by decide) (by decide))
  (aF (lJ (bW C_Rws46 hr (aA (pv 0) (aA (pv 4) (aA (cC cJ) (aA aD (aR (aP dF aD (bW C_Draw hr (aA (pv 0) (aR aD)))))))))) (jE rfl (bG (fK 5 nd) (bG (fK 6 nd) (bG (fK 7 nd) fO)))))
  (aE (aO (aY (aA (oR bT m_tuple cq (aR (pv 1))) (aR (aP bU (pv 5) (aY (aR (aY (aA aG (aR (bW C_Trm46 hr (aA (pv 0) (aA (pv 7) (aR aD))))))))))))))))),?_⟩
 refine fun sc hsc=>⟨_,rfl,kl,_,rfl,.inl (bJ.of (aB hsc (.dK []) _ _ hk)),_,rfl,_,rfl,aC,jD ks.length nl room 1 9 3,by rw[ac];rfl,by show 6<=15;decide,?_⟩
 rw[aH1,vE (acc:=[]) (more:=jD ks.length nl room 1 9 3) (show uF.Nodup from sS)];have s1:=aB hsc (.dK ([]++jD ks.length nl room 1 9 3));have h1:aN H sc (.dK ([]++jD ks.length nl room 1 9 3)) sc=some (.dK (jD ks.length nl room 1 9 3)):=aC;generalize aN H sc (.dK ([]++jD ks.length nl room 1 9 3))=H1 at s1 h1 ⊢;have W1:We H1 d l sc nl ks.length 3 xs:=⟨D.same s1,⟨_,_,_,h1⟩,s1 _ _ hn,(fN D hsc).1,nn,x1,x9,by lia,by lia,by decide,by decide⟩
 have hk1:=s1 _ _ hk;refine⟨_,rfl,_,rfl,bu _,fun kn hkn=>?_⟩;have nkn:=(W1.new hkn).2.1;have s2:=aB hkn (.lst []);have h2:aN H1 kn (.lst []) kn=some (.lst (([]:List Str).map V.str)):=aC;generalize aN H1 kn (.lst [])=H2 at s2 h2 ⊢;have W2:=W1.same s2;refine⟨_,rfl,d,l,6,rfl,W2.deal,by decide,by decide,fun y H3 y0 y1 D3 o3=>⟨_,_,rfl,rfl,?_⟩⟩;have W3:=W2.out D3 o3;have hk3:=aM W2.deal (s2 _ _ hk1) nk o3;have h3:=aM W2.deal h2 nkn o3;have oA:=(fL.of (d:=d) (l:=l) (s1.trans s2)).trans o3;obtain⟨n,hn',n6⟩:∃n:Nat,1+y=(n:Int)/\n<=6:=⟨(1+y).toNat,by lia,by lia⟩
 refine⟨d,l,sc,nl,kn,ks.length,3,xs,[],0,n,by show [_,_,_,_,V.int (1+y)]=_;rw[hn'],W3,h3,nkn,by simp only[mH,List.length_nil];lia,by decide,n6,by decide,fun p4 pr4 kn4 rs4 k4 t4 H4 W4 o4 h4 hp4 hr4 b4 q4 hk4=>?_⟩;refine⟨p4,_,rfl,aQ.of h4,rfl,_,_,rfl,_,_,rfl,_,_,rfl,rfl,?_⟩;have hkl4:=W3.keep hk3 nk o4;have n4l:kn4≠l:=by
  rcases q4 with z|z
  ·rw[z];exact nkn
  ·exact(W3.new z).2.1
 have oB:=bE2 oA hsc o4;have ct:=b4.ct;simp only[mH] at ct;have sl:=fZ.len rs4 b4.sc;have ln:=gE rs4;simp only[List.length_nil] at sl;refine⟨_,rfl,kl,_,rfl,.inl ⟨bJ.of hkl4,fun kt hkt=>?_⟩⟩;obtain⟨H5,e0,s5,h5⟩:=mZ hkt (.tup (ks.map V.str));rw[e0];clear e0;refine⟨_,rfl,_,rfl,_,rfl,d,l,kn4,k4,7,rfl,W4.deal.same s5,s5 _ _ hk4,n4l,by lia,by decide,by decide,fun t6 H6 D6 o6 h6 ok6 nm6 sz6=>⟨eW,fun q hq=>⟨kL,fun u hu'=>?_⟩⟩⟩;have t56:=TS.out (W4.deal.same s5) o6;have s7:=aB hq (.tup [.str "tell",.ref t6.p]);have s8:=aB hu' (.tup [.ref q]);have hq8:aN (aN H6 q (.tup [.str "tell",.ref t6.p])) u (.tup [.ref q]) q=_:=s8 _ _ aC;have hu8:aN (aN H6 q (.tup [.str "tell",.ref t6.p])) u (.tup [.ref q]) u=some (.tup [.ref q]):=aC;have s78:=s7.trans s8;generalize aN (aN H6 q (.tup [.str "tell",.ref t6.p])) u (.tup [.ref q])=H8 at s78 hq8 hu8 ⊢;refine⟨pr4,u,_,_,rfl,rfl,(t56.trans (.of s78)) _ _ (s5 _ _ hp4),hu8,by rw[bB];exact bp (aJ (by show _+1<=_;lia)),fun pr H9 s9 h9=>⟨eW,fun p hp=>?_⟩⟩
 have s10:=aB hp (.tup [.ref kt,.ref pr]);have sA:=s78.trans (s9.trans s10);have tA:=t56.trans (.of sA);have e9:bN rs4++[V.ref q]=bN (rs4++[.tell q t6]):=by rw[dO];rfl
 rw[e9] at h9;have g:RwE H4 k4 xs (.tell q t6) k4 1 2:=aR7 nm6 (by lia);have b:=b4;have cl:=(fZ.app (ks:=[]) b4.sc g.sc).clo;refine k p (rs4++[.tell q t6]) _ (D6.same sA) ((oB.trans (.of s5)).trans (o6.trans (.of sA))) ⟨⟨kt,pr,aC,tA _ _ h5,s10 _ _ h9⟩,aW.app (qs:=[.tell q t6]) (aW.ts ((TS.of s5).trans tA) _ hr4) ⟨⟨(s9.trans s10) _ _ hq8,h6.ts (.of sA),ok6,by lia⟩,trivial⟩,?_,⟨_,fZ.app (ks:=[]) b4.sc g.sc⟩,cL.app b4.tk ⟨g.tk,trivial⟩,?_,k1,k3,wR b4.dp g.dp,iZ.app b4.tz ⟨g.tz,trivial⟩,?_,by decide⟩ fun z hz=>?_
 ·rw[jO];simp only[bP,Rw.cnt];lia
 ·have t0:=b4.t0;rw[nV,b4.tl];simp only[eS,tel];lia
 ·refine(pR.len x9).sub fun x hx=>?_
  rcases cl.1 x hx with e|e
  ·cases e
  ·rw[xH] at e;rcases bq.mp e with e|e
   ·exact b4.st x e
   ·exact g.st x e
 ·have T:=(TS.of s5).trans tA;rw[gM] at hz;rcases bq.mp hz with e|e
  ·exact(b4.us z e).ts T
  ·exact(g.us z (by simpa [dD] using e)).ts T
def aX7 (C_Draw:Cl P w K mg base 1 spDraw "_law_draw")(m_range:mg "range"=none)(m_len:mg "len"=none)(m_int:mg "int"=none):gG P w K mg base "_law_names" "_law_names" aX2 2 ["_law_deal_here","_law_many"] spNamesE:=by
 refine iT ["_law_deal_here","_law_many","_law_letters","_law_kept","_law_core","_law_at","_law_turn","_law_found","_law_k","_law_name"] fun H Q nd hr h=>?_
 obtain⟨d,l,m,rfl,D,m0,m9,k⟩:=h;refine⟨_,(@aF _ _ _ _ _ (pW 2 nd aG)
  (@aF _ _ _ _ _ (@gJ _ _ 3 _ _ _ _ nd rfl (fi rfl) (@aY _ _ _ _ _ (@aA _ _ _ _ _ aG (@aA _ _ _ _ _ aG (@aA _ _ _ _ _ aG (@aA _ _ _ _ _ aG (@aA _ _ _ _ _ aG (@aA _ _ _ _ _ aG (@aA _ _ _ _ _ aG (@aA _ _ _ _ _ aG (@aA _ _ _ _ _ aG (@aA _ _ _ _ _ aG (@aA _ _ _ _ _ aG (@aA _ _ _ _ _ aG cJ rfl) rfl) rfl) rfl) rfl) rfl) rfl) rfl) rfl) rfl) rfl) rfl)) rfl (fi rfl))
  (@aF _ _ _ _ _ (pW 4 nd (fG PySem.F.plainAttrs_str PySem.F.slot_str_join PySem.F.type_str_join bF0 aG (aR (cY ["_law_k","_law_letters","_law_deal_here"] [none,some 2,some 0] (iE (by rfl) m_range (aR (bW C_Draw hr (aA (pv 0) (aR aD))))) (fun _ _ _ _=>(fK 0)) (fun _ _ _ _=>eE) (fun _ _ _ _=>(bQ wV (pv 1) (bW C_Draw hr (aA (pv 2) (aR aD)))))))))
  (@aF _ _ _ _ _ (pW 5 nd (bW C_Draw hr (aA (pv 0) (aR (aP dF (iF gF m_len ci (aR (pv 4))) aD)))))
  (@aF _ _ _ _ _ (pW 6 nd (bW C_Draw hr (aA (pv 0) (aR aD))))
  (@aF _ _ _ _ _ (pW 7 nd (cC cJ))
  (@aF _ _ _ _ _ (pfr (iE (by rfl) m_range (aR (pv 1))) (fK 8 nd)
  (eQ 9 nd (aP kB (aP kB (bK aA8 (pv 4) bV (bR (pv 5))) (bQ wV (pv 2) (aP iI (aP dF (pv 6) (aP iL aD (pv 8))) aD))) (bK aA8 (pv 4) (bR (pv 5)) bV))
  (aE (cO (fG bj cy db cU (pv 7) (aR (aP kB (pv 9) (aP aC8 aG (oR lW m_int mi (aR (oK dN (pv 9) (pv 3))))))))))))
  (@aE _ _ _ (aO (pv 7)))))))))),?_⟩
 refine⟨by show 12<=sizeLine;decide,fun t ht=>?_⟩;have D0:=D.same (aB ht (.tup [.str "kinds",.str "ladder",.str "flat",.str "choose",.str "first",.str "let",.str "tell",.str "when",.str "else",.str "times",.str "end",.str "of"]));have o0:=fL.of (d:=d) (l:=l) (aB ht (.tup [.str "kinds",.str "ladder",.str "flat",.str "choose",.str "first",.str "let",.str "tell",.str "when",.str "else",.str "times",.str "end",.str "of"]));have h0:aN H t (.tup [.str "kinds",.str "ladder",.str "flat",.str "choose",.str "first",.str "let",.str "tell",.str "when",.str "else",.str "times",.str "end",.str "of"]) t=some (.tup (fV.map V.str)):=aC;have f0:= @bA.free _ _ (aB ht (.tup [.str "kinds",.str "ladder",.str "flat",.str "choose",.str "first",.str "let",.str "tell",.str "when",.str "else",.str "times",.str "end",.str "of"]));generalize aN H t (.tup [.str "kinds",.str "ladder",.str "flat",.str "choose",.str "first",.str "let",.str "tell",.str "when",.str "else",.str "times",.str "end",.str "of"])=H0 at D0 o0 h0 f0 ⊢
 have k:∀(p:Addr) (ws:List Str) (a b:Str) (tn:Int) (H':Hp),dY H' d l->fL d l H0 H'->H0 p=none->H' p=some (.lst (ws.map V.str))->ws.length=m.toNat->a.length+b.length<=6->aA1 a b tn ws->Q (.ref p) H':=fun p ws a b tn H' D' o' f'=>k p ws a b tn H' D' (o0.trans o') (f0 f')
 clear o0 f0;refine⟨rfl,_,rfl,d,l,7,rfl,D0,by decide,by decide,fun n0 H1 n1 n2 D1 o1=>⟨n0,rfl,by lia,by lia,?_⟩⟩;refine mY (fun i ys σ G=>dY G d l/\fL d l H0 G/\(∃v,σ=[v,some (.str "abcdefghijklmnopqrstuvwxyz"),some (.ref d)])/\∃zs:List Str,ys=zs.map V.str/\zs.length=i/\∀z∈zs,z.length=1) (aJ (by lia)) ⟨D1,o1,⟨_,rfl⟩,[],rfl,rfl,fun _ z=>nomatch z⟩
  (by rintro i ys σ G ⟨_,_,_,zs,e,e2,_⟩;rw[e,ac];lia) ?_ ?_
 ·rintro i ys σ G hi ⟨D2,o2,⟨v,rfl⟩,zs,rfl,hl,h1⟩;refine⟨_,rfl,_,rfl,d,l,26,rfl,D2,by decide,by decide,fun r H3 r0 r1 D3 o3=>?_⟩;obtain⟨c,hc⟩:=bN5 (z:="abcdefghijklmnopqrstuvwxyz") r0 r1;refine⟨_,r,c,rfl,rfl,by decide,hc,D3,o2.trans o3,⟨_,rfl⟩,zs++[⟨#[c]⟩],by rw[av];rfl,by rw[ah,hl];rfl,fun z hz=>?_⟩;rcases bq.mp hz with q|q
  ·exact h1 z q
  ·have e:z=⟨#[c]⟩:=by simpa using q
   rw[e];rfl
 rintro ys σ H2 ⟨D2,o2,_,zs,rfl,hl,h1⟩ p hp;have hsm:=yT h1;refine⟨_,p,zs,rfl,rfl,bJ.of aC,by rw[hsm];show zs.length+zs.length*0<=_;lia,?_⟩;have hj:=aZ1 "" zs;rw[hsm] at hj;have e0:("": Str).length=0:=rfl;rw[e0] at hj;have D3:=D2.same (aB hp (.lst (zs.map V.str)));have o3:=o2.trans (fL.of (d:=d) (l:=l) (aB hp (.lst (zs.map V.str))));have h03:=aB hp (.lst (zs.map V.str)) _ _ (TS.out D0 o2 _ _ h0);generalize aN H2 p (.lst (zs.map V.str))=H3 at D3 o3 h03 ⊢;generalize Txt.join "" zs=cr at hj ⊢;have c6:cr.length<=6:=by lia
 have cz:cr.length<=sizeLine:=bp (aJ (by lia));refine⟨_,rfl,_,rfl,cr,rfl,cz,_,_,rfl,rfl,d,l,_,rfl,D3,by lia,by lia,fun at' H4 a0 a1 D4 o4=>?_⟩;refine⟨_,rfl,d,l,26,rfl,D4,by decide,by decide,fun tn' H5 b0 b1 D5 o5=>?_⟩;have oA:=o3.trans (o4.trans o5);refine⟨bu _,fun lf hlf=>?_⟩;have nf:=aI3 D5 oA hlf;have L6:nG (aN H5 lf (.lst [])) d l lf []:=nG.new D5 hlf;have o6:=oA.trans (fL.of (d:=d) (l:=l) (aB hlf (.lst [])));have t5:=aB hlf (.lst []) _ _ (TS.out D4 o5 _ _ (TS.out D3 o4 _ _ h03));generalize aN H5 lf (.lst [])=H6 at L6 o6 t5 ⊢;refine⟨_,rfl,m,rfl,by lia,by lia,oY (n:=m.toNat) (fun i σ G=>∃(ws:List Str) (v7 v8:Option V),σ=[some (.ref d),some (.int m),some (.str "abcdefghijklmnopqrstuvwxyz"),some (.ref t),some (.str cr),some (.int at'),some (.int tn'),some (.ref lf),v7,v8]/\nG G d l lf (ws.map V.str)/\fL d l H0 G/\G t=some (.tup (fV.map V.str))/\ws.length=i/\aA1 (Txt.slice cr none (some at')) (Txt.slice cr (some at') none) tn' ws)
  ⟨[],_,_,rfl,L6,o6,t5,rfl,fun _ _ z=>nomatch z⟩ ?_ ?_⟩
 ·rintro i σ G hi ⟨ws,v7,v8,rfl,L7,o7,t7,hw,hb⟩;have hc:=bJ8 tn' i;generalize hlt:bN8 tn' i=c at hc;have t1:=oo cr none (some at');have t2:=oo cr (some at') none;have q26:(0:Int)<26:=by decide
  have z1:(Txt.slice cr none (some at')).length+(⟨#[c]⟩:Str).length<=7:=by show _+1<=7;lia
  have z2:(Txt.slice cr none (some at')++(⟨#[c]⟩:Str)).length<=7:=by rw[pp];exact z1
  refine⟨_,rfl,_,rfl,_,rfl,cr,rfl,cz,_,rfl,_,rfl,_,rfl,_,_,rfl,rfl,.inl ⟨by decide,by decide⟩,_,_,rfl,rfl,_,_,rfl,rfl,q26,_,_,c,rfl,rfl,by decide,hc,_,_,rfl,rfl,cm z1 (by decide),_,rfl,_,rfl,_,rfl,cr,rfl,cz,_,_,rfl,rfl,bp (aJ (by lia)),?_⟩;have z3:(Txt.slice cr none (some at')++(⟨#[c]⟩:Str)++Txt.slice cr (some at') none).length<=13:=by rw[pp];lia
  have ew:Txt.slice cr none (some at')++(⟨#[c]⟩:Str)++Txt.slice cr (some at') none=wdK (Txt.slice cr none (some at')) (Txt.slice cr (some at') none) tn' i:=by rw[<-hlt];rfl
  generalize Txt.slice cr none (some at')++(⟨#[c]⟩:Str)++Txt.slice cr (some at') none=wd at z3 ew ⊢;refine⟨_,rfl,.inl ⟨rfl,_,bJ.of L7.lst⟩,_,rfl,_,rfl,_,rfl,t,_,rfl,.inr (aQ.of t7),rfl,pG fV,.inr ⟨_,rfl,?_⟩⟩;have qe:=bM0;have fin:∀w':Str,(w'=wd\/w'=wd++"q")->∃(us:List Str) (v7 v8:Option V),[some (.ref d),some (.int m),some (.str "abcdefghijklmnopqrstuvwxyz"),some (.ref t),some (.str cr),some (.int at'),some (.int tn'),some (.ref lf),some (.int (0+(i:Int))),some (.str wd)]=[some (.ref d),some (.int m),some (.str "abcdefghijklmnopqrstuvwxyz"),some (.ref t),some (.str cr),some (.int at'),some (.int tn'),some (.ref lf),v7,v8]/\nG (aN G lf (.lst (ws.map V.str++[.str w']))) d l lf (us.map V.str)/\fL d l H0 (aN G lf (.lst (ws.map V.str++[.str w'])))/\(aN G lf (.lst (ws.map V.str++[.str w']))) t=some (.tup (fV.map V.str))/\us.length=i+1/\aA1 (Txt.slice cr none (some at')) (Txt.slice cr (some at') none) tn' us:=fun w' hw' =>
   ⟨ws++[w'],_,_,rfl,by rw[av];exact L7.app _,aH2 o7 nf,TS.lst L7.lst _ _ t7,by rw[ah,hw];rfl,aJ1 hb hw (by rw[ew] at hw';exact hw')⟩
  generalize lV (V.str wd) (fV.map V.str)=kb
  cases kb with
  |true=>exact⟨_,_,rfl,rfl,rfl,.inr rfl,_,_,rfl,rfl,by show _+1<=_;exact bp (aJ (by lia)),lf,_,_,rfl,rfl,L7.lst,aJ (by rw[ac];lia),fin _ (.inr rfl)⟩
  |false=>exact⟨_,_,rfl,rfl,rfl,.inl rfl,_,_,rfl,rfl,by show _+0<=_;exact bp (aJ (by lia)),lf,_,_,rfl,rfl,L7.lst,aJ (by rw[ac];lia),fin _ (.inl (bA0 wd))⟩
 ·rintro σ G ⟨ws,v7,v8,rfl,L7,o7,_,hw,hb⟩;have t1:=bI8 c6 a0 a1;exact⟨_,rfl,k lf ws _ _ _ G L7.deal o7 nf L7.lst hw (by lia) hb⟩
def bS5 (m_LETTERS:mg "LETTERS"=some (.str alpha tL))(m_LONGEST_NAME:mg "LONGEST_NAME"=some (.int 8 tN))(m_KEPT_WORDS:mg "KEPT_WORDS"=some (.ref aw))(hW:∀H,aQ K H aw (fV.map V.str))(m_all:mg "all"=none)(m_len:mg "len"=none):gG P w K mg base "is_name" "is_name" bZ5 1 ["text"] spIsNm:=by
 refine iT ["text"] fun H Q nd hr h=>?_
 obtain⟨z,rfl,hl,k⟩:=h;refine⟨_,(aF (bD (gW (eM (rR rQ rQ aD (iF gF m_len ci (aR (pv 0))) (dR (v:= .int 8) (by rfl) m_LONGEST_NAME ⟨_,rfl⟩)))) (aE (aO gZ)) aU)
  (aE (aO (eX (oK hV (pv 0) (pgl m_KEPT_WORDS)) (eG (iF nO m_all mh (aR (cY ["sign"] [none] (aR4 (pv 0)) (fun _ _ _ _=>(fK 0)) (fun _ _ _ _=>eE) (fun _ _ _ _=>(oK uY (pv 0) (dR (v:= .str alpha) (by rfl) m_LETTERS ⟨_,rfl⟩))))))))))),?_⟩
 have hz:z.length<=sizeLine:=bp (aJ hl);refine⟨fun b G=>G=H/\b=decide (1<=z.length/\z.length<=8),?_,?_⟩
 ·refine⟨_,rfl,_,rfl,hz,_,_,rfl,rfl,_,rfl,?_⟩
  by_cases h1:1<=z.length
  ·refine bH (ag (by lia)) ⟨_,_,rfl,rfl,_,rfl,rfl,?_⟩
   by_cases h2:z.length<=8
   ·rw[ag (show(z.length:Int)<=8 by lia),ag ⟨h1,h2⟩]
   ·rw[ba (show ¬(z.length:Int)<=8 by lia),ba (fun q=>h2 q.2)]
  ·exact aS (fun q=>h1 (by have:=ae q;lia)) ⟨_,rfl,rfl,(ba (fun q=>h1 q.1)).symm⟩
 rintro b G ⟨rfl,rfl⟩
 by_cases c:1<=z.length/\z.length<=8
 ·rw[ag c];refine aS (by decide) ?_;refine⟨_,rfl,aw,_,rfl,.inr (hW G),rfl,cA _,_,rfl,?_⟩;have ei:lV (V.str z) (fV.map V.str)=decide (z∈fV):=dS _ _;show if (!lV (V.str z) (fV.map V.str))=true then _ else _
  rw[ei]
  by_cases c2:z∈fV
  ·rw[ag c2];refine aS (fun z=>absurd z (show ¬(!true)=true by decide)) ?_;have e:kI z=false:=by unfold kI;rw[ag c2];simp
   rw[e] at k;exact k G (bA.refl _)
  ·rw[ba c2];refine bH (show(!false)=true by decide) ?_;refine⟨_,rfl,z,rfl,yC (x:=z) (fun i ys σ H2=>H2=G/\(∃v,σ=[v])/\ys=((sL z).take i).map fun c=>V.bl (decide (97<=c/\c<=122))) (aJ hl) ⟨rfl,⟨_,rfl⟩,rfl⟩
    (by rintro i ys σ H2 ⟨_,_,e⟩;rw[e,ac,bx];lia) ?_ ?_⟩
   ·rintro i c ys σ H2 hc ⟨rfl,⟨v,rfl⟩,rfl⟩;refine⟨_,rfl,_,_,rfl,rfl,rfl,⟨_,rfl⟩,?_⟩;have hc':(sL z)[i]?=some c:=by rw[im];exact hc
    have fo:(!(Builtin.Str.occurrences alpha ⟨#[c]⟩ 0 alpha.length 1).isEmpty)=decide (c∈sL alpha):=ze alpha c;rw[bE hc',av,fo,vg.mpr (uI c)];rfl
   ·rintro ys σ H2 ⟨rfl,_,rfl⟩ l hl2;have el:((sL z).take z.length).map (fun c=>V.bl (decide (97<=c/\c<=122)))=((sL z).map fun c=>decide (97<=c/\c<=122)).map V.bl:=by
     rw[ie (i:=z.length) (show(sL z).length<=z.length from aj _),jn];rfl
    refine⟨l,(sL z).map fun c=>decide (97<=c/\c<=122),rfl,by rw[el];exact bJ.of aC,?_⟩;rw[aX3];have e:kI z=decide (∀c∈sL z,97<=c/\c<=122):=by unfold kI;rw[ag c,ba c2];simp
    rw[e] at k;exact k _ (aB hl2 _)
 ·rw[ba c];refine bH (by decide) ?_;have e:kI z=false:=by unfold kI;rw[ba c];rfl
  rw[e] at k;exact k G (bA.refl _)
def bU9 (C_RwI:Cl P w K mg base 4 spRowsIn "rows_in")(C_SeN:Cl P w K mg base 1 spSetsN "sets_name")(C_Ask:Cl P w K mg base 3 spAsked "names_asked"):gG P w K mg base "names_of_values" "names_of_values" cF7 5 ["program"] spNmV:=by
 refine iT ["program","names","row","name"] fun H Q nd hr h=>?_
 obtain⟨p,ks,rs,m,rfl,P0,k⟩:=h;have hu:=gQ hr;refine⟨_,(eQ 1 nd lE
  (aF (pfr (dE (bW C_RwI hr (aR (pv 0)))) (fK 2 nd)
  (aF (gD (bD (fJ (bW C_SeN hr (aR (pv 2)))) (aE (pdp hu (pv 1) (bQ aI (pv 2) aD) gZ)) aU))
  (aE (pfr (dE (bW C_Ask hr (aR (pv 2)))) (fK 3 nd)
  (aE (pdp hu (pv 1) (pv 3) gZ))))))
  (aE (aO (pv 1))))),?_⟩
 have c0:=P0.cnt;have m4:=P0.m4;refine fun d hd=>?_
 obtain⟨H0,e0,s0,g0⟩:=mZ hd (.dK []);rw[e0];clear e0;have P1:=P0.ts (.of s0);refine⟨_,rfl,p,ks,rs,m,rfl,P1,fun r H1 s1 f1 h1=>⟨r,rfl,⟨_,bJ.of h1⟩,?_⟩⟩;have pl:(dD rs).length<=300:=by rw[eN];lia
 have hR:=kA (aW.ts (.of s1) rs P1.rows);have g1:=s1 _ _ g0;refine iD (K:=K) (a:=r) (xs:=bN (dD rs)) (fun i σ G=>∃(xs:List Str) (kvs:List (Key×V)) (v2 v3:Option V),σ=[some (.ref p),some (.ref d),v2,v3]/\eV d H1 G/\G d=some (.dK kvs)/\iX kvs xs/\(∀x,x∈xs↔x∈((dD rs).take i).flatMap pU))
  ⟨[],[],_,_,rfl,eV.refl,g1,iX.nil,fun x=>by simp⟩ (by rintro i σ G _ ⟨_,_,_,_,_,b,_⟩;exact bJ.of (b _ _ h1 (fun z=>by rw[z,g1] at h1;cases h1))) ?_ ?_
 ·rintro D' i v σ G hv ⟨xs,kvs,v2,v3,rfl,b1,gd,q1,hx⟩;obtain⟨q,hq,rfl⟩:=mR hv;have hqm:=bg hq;have hrq:=(hR q hqm).ts (b1.ts g1);have few:∀{ys b:List Str},(∀y,y∈ys↔y∈((dD rs).take i).flatMap pU\/y∈b)->(∀y∈b,y∈pU q)->ys.Nodup->ys.length<=900:=fun {ys b} hy hb nd=>by
   have:=P0.few.le nd fun y hy'=>by
    rcases(hy y).mp hy' with z|z
    ·obtain⟨a,ha,hz⟩:=jf.mp z;exact jf.mpr ⟨a,qy ha,hz⟩
    ·exact jf.mpr ⟨q,hqm,hb y z⟩
   lia
  have en:((dD rs).take (i+1)).flatMap pU=((dD rs).take i).flatMap pU++pU q:=by rw[bE hq,xt];simp
  rw[en];refine⟨fun σ' G'=>∃(xs:List Str) (kvs:List (Key×V)),σ'=[some (.ref p),some (.ref d),some (.ref q.p),v3]/\eV d H1 G'/\G' d=some (.dK kvs)/\iX kvs xs/\(∀x,x∈xs↔x∈((dD rs).take i).flatMap pU\/x∈q.sets.toList),?_,?_⟩
  ·refine⟨_,rfl,q,rfl,hrq,_,rfl,?_⟩
   cases e:q.sets with
   |none=>exact aS (by simp) ⟨xs,kvs,rfl,b1,gd,q1,fun x=>by rw[hx x];simp⟩
   |some x =>
    refine bH rfl ?_;obtain⟨kvs',ys,dp,q2,hy⟩:=hX.names gd q1 (few (b:=[]) (fun y=>by rw[hx y];simp) (fun _ z=>nomatch z) q1.2) x (.bl true);obtain⟨us,hqp⟩:=qI hrq e;refine⟨_,rfl,_,rfl,q.p,_,_,.str x,rfl,rfl,aQ.of hqp,at1,d,_,rfl,dp,ys,kvs',rfl,b1.trans eV.upd,aC,q2,fun y=>?_⟩;rw[hy y,hx y];simp
  ·rintro σ' G' ⟨xs,kvs,rfl,b2,gd2,q2,hx2⟩;have hrq2:=(hR q hqm).ts (b2.ts g1);refine⟨_,rfl,q,rfl,hrq2,fun la G2 s3 h3=>⟨la,rfl,⟨_,bJ.of h3⟩,?_⟩⟩;have gd3:=s3 _ _ gd2;refine iD (K:=K) (a:=la) (xs:=q.asked.map V.str) (fun j σ G=>∃(xs:List Str) (kvs:List (Key×V)) (v3:Option V),σ=[some (.ref p),some (.ref d),some (.ref q.p),v3]/\eV d G2 G/\G d=some (.dK kvs)/\iX kvs xs/\(∀x,x∈xs↔x∈((dD rs).take i).flatMap pU\/x∈q.sets.toList++q.asked.take j))
    ⟨xs,kvs,_,rfl,eV.refl,gd3,q2,fun x=>by rw[hx2 x];simp⟩ (by rintro i σ G _ ⟨_,_,_,_,b,_⟩;exact bJ.of (b _ _ h3 (fun z=>by rw[z,gd3] at h3;cases h3))) ?_ ?_
   ·rintro D2 j v σ G hv ⟨xs,kvs,v3,rfl,b4,gd4,q4,hx4⟩;obtain⟨x,rfl,hxj⟩:=iC hv;obtain⟨kvs',ys,dp,q5,hy⟩:=hX.names gd4 q4 (few hx4 (fun y hy=>by
     unfold pU;rcases bq.mp hy with z|z
     ·exact cj _ z
     ·exact br _ (qy z)) q4.2) x (.bl true)
    refine⟨_,rfl,_,rfl,d,_,rfl,dp,ys,kvs',_,rfl,b4.trans eV.upd,aC,q5,fun y=>?_⟩;rw[hy y,hx4 y,bE hxj];simp only[List.mem_append,List.mem_singleton,or_assoc]
   ·rintro σ G ⟨xs,kvs,v3,rfl,b4,gd4,q4,hx4⟩;refine⟨xs,kvs,_,_,rfl,b2.trans ((eV.of s3).trans b4),gd4,q4,fun x=>?_⟩;rw[hx4 x,ac,cg,bq,bq];unfold pU;rw[bq]
 ·rintro σ G ⟨xs,kvs,v2,v3,rfl,b1,gd,q1,hx⟩;refine⟨_,rfl,k d kvs G (b1.same (s0.trans s1) hd) hd gd ⟨xs,q1.1,q1.2,fun x=>?_⟩⟩;rw[hx x,bB,cg];rfl
def bR4 (m_LETTERS:mg "LETTERS"=some (.str alpha tL))(m_len:mg "len"=none):gG P w K mg base "spelled" "spelled" bX9 1 ["number"] spSpl:=by
 refine iT ["number","word"] fun H Q nd hr h=>?_
 obtain⟨n,rfl,hn,k⟩:=h;refine⟨_,(eQ 1 nd aG
  (aF (jP jo (dZ bA4 (pv 0) aD)
  (eQ 1 nd (aP kB (bQ wV (dR (v:= .str alpha) (by rfl) m_LETTERS ⟨_,rfl⟩) (aP iI (pv 0) (iF gF m_len ci (aR (dR (v:= .str alpha) (by rfl) m_LETTERS ⟨_,rfl⟩))))) (pv 1))
  (aE (pW 0 nd (aP jW (aP nN (pv 0) (iF gF m_len ci (aR (dR (v:= .str alpha) (by rfl) m_LETTERS ⟨_,rfl⟩)))) aD)))))
  (aE (aO (pv 1))))),?_⟩
 have e26:(alpha.length:Int)=26:=by decide
 have az:alpha.length<=sizeLine:=bp (aJ (by lia));refine⟨fun j σ H1=>H1=H/\∃(x:Int) (wd:Str),σ=[some (.int x),some (.str wd)]/\((j=2/\x=n/\wd="")\/(j=1/\26<=n/\x=(n:Int) / 26-1/\wd=⟨#[97+n % 26]⟩)\/(j=0/\x= -1/\wd=sp n)),⟨2,rfl,_,_,rfl,.inl ⟨rfl,rfl,rfl⟩⟩,?_⟩;rintro j σ H1 ⟨rfl,x,wd,rfl,hx⟩;refine⟨_,rfl,_,_,rfl,rfl,_,rfl,?_⟩;refine mF (fun c=>?_) (fun c=>?_)
 ·have x0:0<=x:=ae c;obtain⟨y,rfl⟩:=dv x0;have hc:=bD0 (r:=y % 26) (Nat.mod_lt _ (by decide));have em:(y:Int) % (alpha.length:Int)=((y % 26:Nat):Int):=by rw[e26];lia
  have ed:(y:Int) / (alpha.length:Int)=(y:Int) / 26:=by rw[e26]
  have wl:wd.length<=2:=by
   rcases hx with⟨_,_,rfl⟩|⟨_,_,_,rfl⟩|⟨_,e,_⟩
   ·decide
   ·show 1<=2;decide
   ·lia
  refine⟨fun σ' H'=>H'=H1/\σ'=[some (.int ((y:Int) / (alpha.length:Int)-1)),some (.str ((⟨#[97+y % 26]⟩:Str)++wd))],fun σ' H' ⟨e1,e2⟩=>?_,?_⟩
  ·rw[ed] at e2;rcases hx with⟨rfl,e,rfl⟩|⟨rfl,n26,e,rfl⟩|⟨_,e,_⟩
   ·obtain rfl:y=n:=by lia
    have ea:(⟨#[97+y % 26]⟩:Str)++("": Str)=⟨#[97+y % 26]⟩:=aC9 rfl;rw[ea] at e2
    by_cases c:y<26
    ·exact⟨0,by decide,e1,_,_,e2,.inr (.inr ⟨rfl,by lia,by unfold sp;rw[bb c,Nat.mod_eq_of_lt c]⟩)⟩
    ·exact⟨1,by decide,e1,_,_,e2,.inr (.inl ⟨rfl,by lia,rfl,rfl⟩)⟩
   ·refine⟨0,by decide,e1,_,_,e2,.inr (.inr ⟨rfl,by lia,?_⟩)⟩;unfold sp;rw[au (by lia),show y % 26=n / 26-1 from by lia];exact aC9 rfl
   ·lia
  ·refine⟨_,rfl,alpha,rfl,az,_,_,rfl,rfl,(show(0:Int)<(alpha.length:Int) by lia),alpha,_,97+y % 26,rfl,rfl,az,by show nE _ ((y:Int) % (alpha.length:Int))=_;rw[em];exact hc,_,rfl,_,_,rfl,rfl,bp (aJ (by show 1+_<=_;lia)),_,rfl,alpha,rfl,az,_,_,rfl,rfl,⟨by rw[e26];decide,by rw[e26];decide⟩,_,_,rfl,rfl,rfl,rfl⟩
 ·have x0:¬0<=x:=fun z=>c (ag z)
  rcases hx with⟨_,e,_⟩|⟨_,n26,e,_⟩|⟨_,_,rfl⟩
  ·lia
  ·lia
  ·exact⟨_,rfl,k⟩
def bV8 (C_NmV:Cl P w K mg base 5 spNmV "names_of_values")(C_Spl:Cl P w K mg base 1 spSpl "spelled")(C_IsN:Cl P w K mg base 1 spIsNm "is_name")(m_dict:mg "dict"=none)(m_sorted:mg "sorted"=none)(m_list:mg "list"=none):gG P w K mg base "new_names" "new_names" cB3 6 ["one","other"] spNewN:=by
 refine iT ["one","other","ones","others","taken","both","told","number","name"] fun H Q nd hr h=>?_
 obtain⟨p,q,K1,K2,rs1,rs2,m1,m2,rfl,P1,P2,hm,k⟩:=h;have hu:=gQ hr;have hr1:dL 1 _:=hr.mono (by decide);refine⟨_,(eQ 2 nd (bW C_NmV hr (aR (pv 0)))
  (eQ 3 nd (bW C_NmV hr (aR (pv 1)))
  (eQ 4 nd (oR (aB5 hr1) m_dict wb (aR (cY ["name"] [none] (dE (aP fR (aP fR (aP fR (oR hZ m_list ib (aR (bQ aI (pv 0) aD))) (oR hZ m_list ib (aR (bQ aI (pv 1) aD)))) (oR pM m_list ib (aR (pv 2)))) (oR pM m_list ib (aR (pv 3))))) (fun _ _ _ _=>(fK 0)) (fun _ _ _ _=>eE) (fun _ _ _ _=>(aY (aA (pv 0) (aR gZ)))))))
  (eQ 5 nd (iF (xW hr1) m_sorted PyProof.Rows.boot_sorted (aR (cY ["name","ones"] [none,some 2] (wA (pv 3)) (fun _ _ _ _=>(fK 0)) (fun _ _ _ _=>(lN (aD9 (wK hu (pv 0) (pv 1))))) (fun _ _ _ _=>(pv 0)))))
  (eQ 6 nd lE
  (eQ 7 nd aD
  (aF (pfr (dE (pv 5)) (fK 8 nd)
  (aF (jP jo (PW.pt (jG (gW (fJ (bW C_IsN hr (aR (bW C_Spl hr (aR (pv 7))))))) (jF (aD9 (wK hu (bW C_Spl hr (aR (pv 7))) (pv 4))))))
  (aE (aD4 (i:=7) nd rfl (fi rfl) aD pB)))
  (aF (pdp hu (pv 6) (pv 8) (bW C_Spl hr (aR (pv 7))))
  (aE (aD4 (i:=7) nd rfl (fi rfl) aD pB)))))
  (aE (aO (pv 6)))))))))),?_⟩
 obtain⟨pk,pr,hp,hpk,_⟩:=P1.ex;obtain⟨qk,qr,hq,hqk,_⟩:=P2.ex;have kk1:=P1.k3;have kk2:=P2.k3;refine⟨_,rfl,p,K1,rs1,m1,rfl,P1,fun d1 kv1 H1 s1 f1 h1 ⟨N1,e1,nd1,x1⟩=>?_⟩;refine⟨_,rfl,q,K2,rs2,m2,rfl,P2.ts (.of s1),fun d2 kv2 H2 s2 f2 h2 ⟨N2,e2,nd2,x2⟩=>?_⟩;have l1:N1.length<=9*m1:=P1.few.le nd1 fun y hy=>(x1 y).mp hy
 have l2:N2.length<=9*m2:=P2.few.le nd2 fun y hy=>(x2 y).mp hy
 have s12:=s1.trans s2;have n12:=aK h1 f2;have h1:=s2 _ _ h1;refine⟨_,rfl,p,_,_,.ref pk,rfl,rfl,aQ.of (s12 _ _ hp),rfl,pk,_,rfl,.inr (aQ.of (s12 _ _ hpk)),fun a3 ha3=>?_⟩;obtain⟨H3,e0,s3,g3⟩:=mZ ha3 (.lst (K1.map V.str));rw[e0];clear e0;refine⟨_,rfl,q,_,_,.ref qk,rfl,rfl,aQ.of ((s12.trans s3) _ _ hq),rfl,qk,_,rfl,.inr (aQ.of ((s12.trans s3) _ _ hqk)),fun a4 ha4=>?_⟩;have s4:=aB ha4 (.lst (K2.map V.str));have g4:aN H3 a4 (.lst (K2.map V.str)) a4=some (.lst (K2.map V.str)):=aC;have g34:=s4 _ _ g3;generalize aN H3 a4 (.lst (K2.map V.str))=H4 at s4 g4 g34 ⊢;refine⟨a3,a4,_,_,rfl,rfl,g34,g4,bp (aJ (by rw[ac,ac];lia)),fun a5 ha5=>?_⟩;rw[<-av];obtain⟨H5,e0,s5,g5⟩:=mZ ha5 (.lst ((K1++K2).map V.str));rw[e0];clear e0;have t25:=s3.trans (s4.trans s5);refine⟨_,rfl,d1,kv1,rfl,t25 _ _ h1,fun a6 ha6=>?_⟩;rw[yE e1];have s6:=aB ha6 (.lst (N1.map V.str))
 have g6:aN H5 a6 (.lst (N1.map V.str)) a6=some (.lst (N1.map V.str)):=aC;have g56:=s6 _ _ g5;generalize aN H5 a6 (.lst (N1.map V.str))=H6 at s6 g6 g56 ⊢;refine⟨a5,a6,_,_,rfl,rfl,g56,g6,bp (aJ (by rw[ac,ac,ah];lia)),fun a7 ha7=>?_⟩;rw[<-av];obtain⟨H7,e0,s7,g7⟩:=mZ ha7 (.lst ((K1++K2++N1).map V.str));rw[e0];clear e0;have t27:=t25.trans (s6.trans s7);refine⟨_,rfl,d2,kv2,rfl,t27 _ _ h2,fun a8 ha8=>?_⟩;rw[yE e2];have s8:=aB ha8 (.lst (N2.map V.str));have g8:aN H7 a8 (.lst (N2.map V.str)) a8=some (.lst (N2.map V.str)):=aC;have g78:=s8 _ _ g7;generalize aN H7 a8 (.lst (N2.map V.str))=H8 at s8 g8 g78 ⊢;refine⟨a7,a8,_,_,rfl,rfl,g78,g8,bp (aJ (by rw[ac,ac,ah,ah];lia)),fun a9 ha9=>?_⟩;rw[<-av];have Tl:(K1++K2++N1++N2).length<=100:=by rw[ah,ah,ah];lia
 have Tm:∀y,y∈K1++K2++N1++N2↔y∈K1++K2++eI rs1++eI rs2:=fun y=>by
  simp only[List.mem_append];rw[x1 y,x2 y]
 have fewT:pR 100 (K1++K2++eI rs1++eI rs2):=⟨_,Tl,fun x hx=>(Tm x).mpr hx⟩
 generalize hT':K1++K2++N1++N2=T' at Tl Tm ⊢;obtain⟨H9,e0,s9,g9⟩:=mZ ha9 (.lst (T'.map V.str));rw[e0];clear e0;have t29:=t27.trans (s8.trans s9);have h19:=t29 _ _ h1;have h29:=t29 _ _ h2;have s09:=s12.trans t29;clear s3 s4 s5 s6 s7 s8 s9 t25 t27 t29 g3 g34 g4 g5 g56 g6 g7 g78 g8 ha3 ha4 ha5 ha6 ha7 ha8 ha9 h1 h2;refine⟨a9,rfl,⟨_,bJ.of g9⟩,dJ (K:=K) (a:=a9) (xs:=T'.map V.str) (fun i ys σ G=>bA H9 G/\(∃v,σ=[v])/\fM (BlV G) ys (T'.take i))
  (aJ (by rw[ac];lia)) ⟨bA.refl _,⟨_,rfl⟩,trivial⟩ (by rintro i ys σ G ⟨_,_,e⟩;rw[e.length,bx];lia) (by rintro i ys σ G _ ⟨e,_⟩;exact bJ.of (e _ _ g9)) ?_ ?_⟩
 ·rintro i v ys σ G hv ⟨sG,⟨v',rfl⟩,tw⟩;obtain⟨x,rfl,hx⟩:=iC hv;refine⟨_,rfl,eW,fun t ht=>?_⟩;have st:=aB ht (.tup [.str x,.bl true]);refine⟨sG.trans st,⟨_,rfl⟩,?_⟩;rw[bE hx];exact nZ ⟨t,rfl,aC⟩ (tw.mono fun _ _ z=>z.ts (.of st))
 rintro ys σ G ⟨sG,_,tw⟩ lx hlx;rw[ac,cg] at tw;have sx:=aB hlx (.lst ys);have gx:aN G lx (.lst ys) lx=some (.lst ys):=aC;have tw:=tw.mono fun _ _ z=>BlV.ts (.of sx) z
 generalize aN G lx (.lst ys)=G1 at sx gx tw ⊢;refine⟨lx,ys,fun i=> .dK (yA (T'.take i)),rfl,gx,.inl rfl,fun d3 hd3=>⟨bC8 tw (by lia) hd3,?_⟩⟩;rw[show((fun i=>HO.dK (yA (T'.take i))) ys.length)=HO.dK (yA T') from by show HO.dK (yA (T'.take ys.length))=_;rw[tw.length,cg]];have n23:=aK ((sG.trans sx) _ _ h29) hd3;have sd:=aB hd3 (.dK (yA T'));have gd:aN G1 d3 (.dK (yA T')) d3=some (.dK (yA T')):=aC;have sA:=s09.trans (sG.trans (sx.trans sd));have h1A:=(sG.trans (sx.trans sd)) _ _ h19;have h2A:=(sG.trans (sx.trans sd)) _ _ h29;generalize aN G1 d3 (.dK (yA T'))=G2 at sd gd sA h1A h2A ⊢;clear sG sx gx tw sd h19 h29 g9 s09;obtain⟨TK,tk1,tk2⟩:=aY7 T';have z2:kv2.length=N2.length:=iX.len ⟨e2,nd2⟩;refine⟨_,rfl,d2,kv2,rfl,h2A,fun o=>uE (d:=d2) (o:=o) (kvs:=kv2) (fun i zs σ G=>G=aN G2 d2 (.frz o (.dK kv2))/\(∃v,σ=[v,some (.ref d1)])/\zs=((N2.take i).filter fun x=>decide (x∈N1)).map V.str)
  (aJ (by lia)) ⟨rfl,⟨_,rfl⟩,rfl⟩ (fun i ys σ G ⟨_,_,e⟩=>by
   rw[e,ac];exact cm (jy _ _) (by rw[bx];lia)) (by rintro i ys σ G _ ⟨e,_⟩;rw[e];exact aC) ?_ ?_⟩
 ·rintro i ky v ys σ G hv ⟨rfl,⟨v',rfl⟩,rfl⟩;have hk:(kv2.map (·.1))[i]?=some ky:=by rw[df,hv];rfl
  rw[e2,df] at hk;obtain⟨x,hx,rfl⟩:=lq.mp hk;refine⟨_,rfl,_,rfl,d1,_,rfl,fW.k (k:=Sum.inr x) ((aH n12).trans h1A),_,rfl,?_⟩;have ei:=iX.get ⟨e1,nd1⟩ x;rw[bE hx,fj,av]
  by_cases c:x∈N1
  ·refine bH (ei.trans (ag c)) ⟨_,rfl,rfl,⟨_,rfl⟩,?_⟩;rw[dh (p:=fun x=>decide (x∈N1)) (ag c)];rfl
  ·refine aS (fun z=>c (ae (ei.symm.trans z))) ⟨rfl,⟨_,rfl⟩,?_⟩;rw[dw (p:=fun x=>decide (x∈N1)) (by simpa using c)];simp
 rintro zs σ G ⟨rfl,_,rfl⟩ lz hlz;rw[z2,cg];have bl:(N2.filter fun x=>decide (x∈N1)).length<=N2.length:=jy _ _;have sB:bA H (aN G2 d2 (.frz o (.dK kv2))):=fun c u e=>(aH (fun z=>by rw[z,s1.free f2] at e;cases e)).trans (sA _ _ e)
 have g3B:aN G2 d2 (.frz o (.dK kv2)) d3=some (.dK (yA T')):=(aH n23.symm).trans gd;generalize aN G2 d2 (.frz o (.dK kv2))=G3 at hlz sB g3B ⊢;refine⟨lz,_,rfl,bJ.of aC,by lia,fun bs pm so l5 hl5=>?_⟩;have sz:=(aB hlz (.lst ((N2.filter fun x=>decide (x∈N1)).map V.str))).trans (aB hl5 (.lst (bs.map V.str)));have g5:aN (aN G3 lz (.lst ((N2.filter fun x=>decide (x∈N1)).map V.str))) l5 (.lst (bs.map V.str)) l5=some (.lst (bs.map V.str)):=aC;have g3C:=sz _ _ g3B;have sC:=sB.trans sz;generalize aN (aN G3 lz (.lst ((N2.filter fun x=>decide (x∈N1)).map V.str))) l5 (.lst (bs.map V.str))=G4 at g5 g3C sC ⊢;have bl2:bs.length<=36:=by rw[pm.length_eq];lia
 have bnd:bs.Nodup:=pm.nodup_iff.mpr (nd2.filter _);have bm:∀x,x∈bs↔x∈eI rs2/\x∈eI rs1:=fun x=>by rw[pm.mem_iff,dk,fg,x1 x,x2 x]
 refine fun d4 hd4=>?_
 have f4:H d4=none:=sC.free hd4;have n53:=aK g3C hd4;have n54:=aK g5 hd4;have s4:=aB hd4 (.dK []);have g4:aN G4 d4 (.dK []) d4=some (.dK []):=aC;have g5:=s4 _ _ g5;have g3:=s4 _ _ g3C;have sD:=sC.trans s4;generalize aN G4 d4 (.dK [])=G5 at g4 g5 g3 sD ⊢;generalize hT:K1++K2++eI rs1++eI rs2=T at Tm fewT;have frl:=aD8 fewT;refine⟨_,rfl,l5,rfl,⟨_,bJ.of g5⟩,iD (K:=K) (a:=l5) (xs:=bs.map V.str) (fun j σ G=>∃(a:Nat) (v8:Option V),σ=[some (.ref p),some (.ref q),some (.ref d1),some (.ref d2),some (.ref d3),some (.ref l5),some (.ref d4),some (.int a),v8]/\eV d4 G5 G/\NmD G d4 ((ass T bs).take j)/\a<=200/\((List.range a).filter (jX T)).length=j)
  ⟨0,_,rfl,eV.refl,g4,by decide,rfl⟩ (by rintro i σ G _ ⟨_,_,_,b,_⟩;exact bJ.of (b _ _ g5 n54)) ?_ ?_⟩
 ·rintro D' j v σ G hv ⟨a,v8,rfl,b1,hD,a2,hj⟩;obtain⟨b,rfl,hb⟩:=iC hv;have jl:=(bf.mp hb).1;refine⟨fun μ σ' G'=>∃a':Nat,σ'=[some (.ref p),some (.ref q),some (.ref d1),some (.ref d2),some (.ref d3),some (.ref l5),some (.ref d4),some (.int a'),some (.str b)]/\eV d4 G5 G'/\NmD G' d4 ((ass T bs).take j)/\a'<=200/\((List.range a').filter (jX T)).length=j/\μ=200-a',⟨_,a,rfl,b1,hD,a2,hj,rfl⟩,?_⟩;rintro μ σ' G' ⟨a',rfl,b2,hD2,a22,hj2,rfl⟩;have al:=cD7 a22 hj2 (by lia);have spl:(sp a').length<=2:=by rw[zL];split<;>decide
  refine⟨_,rfl,a',rfl,by lia,sp a',rfl,by lia,fun G6 s6=>⟨_,rfl,?_⟩⟩;rw[bK8 al];refine aS (by decide) ?_;have b3:=b2.trans (eV.of s6);have hD3:=hD2.same s6;refine⟨_,rfl,a',rfl,by lia,_,rfl,d3,_,rfl,fW.k (k:=Sum.inr (sp a')) (b3 _ _ g3 n53),_,rfl,?_⟩;have ei:=tk1.get (sp a');have em:(sp a'∈TK)↔sp a'∈T:=(tk2 _).trans (Tm _)
  by_cases c:sp a'∈T
  ·refine bH (ei.trans (ag (em.mpr c))) ⟨fun σ' G'=>σ'=[some (.ref p),some (.ref q),some (.ref d1),some (.ref d2),some (.ref d3),some (.ref l5),some (.ref d4),some (.int (a' + 1:Nat)),some (.str b)]/\G'=G6,(by rintro σ' G' ⟨e1,e2⟩;exact⟨200-(a' + 1),by lia,a' + 1,e1,by rw[e2];exact b3,by rw[e2];exact hD3,al,bX4 (by unfold jX;rw[ag c];rfl) hj2,rfl⟩),?_⟩;exact⟨_,rfl,_,_,rfl,rfl,rfl,rfl⟩
  ·refine aS (fun z=>c (em.mp (ae (ei.symm.trans z)))) ?_;obtain⟨q1,q2⟩:=cD6 (T:=T) al (by unfold jX;rw[ba c];rfl) hj2;have ap:=bD9 bnd hb q1;have hl:((ass T bs).take j).length<=36:=by rw[bx];lia
   refine⟨_,rfl,a',rfl,by lia,_,rfl,_,rfl,d4,_,rfl,hX.k (k:=Sum.inr b) hD3 (aJ (by rw[ac];lia)),?_⟩;rw[ap];exact⟨_,rfl,_,_,rfl,rfl,a' + 1,_,rfl,b3.trans eV.upd,aC,al,q2⟩
 ·rintro σ G ⟨a,v8,rfl,b1,hD,a2,hj⟩;rw[ac,ie (by unfold ass;rw[ac,List.length_zip];lia)] at hD;refine⟨_,rfl,k d4 (ass T bs) G (b1.same sD f4) f4 hD ⟨bs,bnd,so,bm,by lia,by rw[hT];exact fewT,by rw[hT];rfl⟩⟩
def bT6 (n)(C_RnT:Cl P w K mg base (n+1) (aI1 n) "renamed_term"):gG P w K mg base "renamed_term" "renamed_term" cC7 (n+1+1) ["term","names"] (aI1 (n+1)):=by
 refine iT ["term","names"] fun H Q nd hr h=>?_
 obtain⟨d,t,as,rfl,ht,hn,hD,k⟩:=h;have hu:=gQ hr;refine⟨_,(aF (bD (dZ bO (bQ aI (pv 0) aD) aG) (aE (aO (aY (aA aG (aA (bQ aI (pv 0) aD) (aA (bW C_RnT hr (aA (bQ aI (pv 0) aD) (aR (pv 1)))) (aR (bW C_RnT hr (aA (bQ aI (pv 0) aD) (aR (pv 1))))))))))) aU)
  (aF (bD (dZ bO (bQ aI (pv 0) aD) aG) (aE (aO (aY (aA aG (aR (qP hu (pv 1) (bQ aI (pv 0) aD) (bQ aI (pv 0) aD) ⟨rfl,rfl,rfl,rfl⟩)))))) aU)
  (aE (aO (pv 0))))),?_⟩
 refine⟨_,rfl,t.p,_,_,.str t.w,rfl,rfl,aQ.of ht.at,iY,rfl,_,rfl,?_⟩;generalize hP:t.p=P
 cases t with
 |op p s a b =>
  obtain rfl:p=P:=hP;refine bH (ag rfl) ?_;have a1:=a.size_pos;have b1:=b.size_pos;simp only[Tm.size] at hn
  cases n with
  |zero=>exact absurd hn (by lia)
  |succ n =>
  refine⟨_,rfl,p,_,_,.str s,rfl,rfl,aQ.of ht.1,rfl,_,rfl,p,_,_,.ref a.p,rfl,rfl,aQ.of ht.1,rfl,_,rfl,d,a,as,rfl,ht.2.1,by lia,hD,fun u1 H1 s1 h1 r1=>?_⟩;refine⟨_,rfl,p,_,_,.ref b.p,rfl,rfl,aQ.of (s1 _ _ ht.1),rfl,_,rfl,d,b,as,rfl,ht.2.2.ts (.of s1),by lia,hD.same s1,fun u2 H2 s2 h2 r2=>⟨by show 4<=sizeLine;decide,fun q hq=>?_⟩⟩;have s3:=aB hq (.tup [.str "op",.str s,.ref u1.p,.ref u2.p]);exact k (.op q s u1 u2) _ (s1.trans (s2.trans s3)) ⟨aC,h1.ts (.of (s2.trans s3)),h2.ts (.of s3)⟩ ⟨q,u1,u2,rfl,r1,r2⟩
 |nam p x =>
  obtain rfl:p=P:=hP;obtain⟨o,g1,g2⟩:=rM hD x;refine aS (fun z=>cE2 (ae z)) ⟨_,rfl,p,_,_,.str "name",rfl,rfl,aQ.of ht,rfl,rfl,_,rfl,bH (ag rfl) ?_⟩;refine⟨_,rfl,d,rfl,aA6 hD,_,rfl,p,_,_,.str x,rfl,rfl,aQ.of ht,rfl,_,rfl,p,_,_,.str x,rfl,rfl,aQ.of ht,rfl,o,g1,eW,fun q hq=>?_⟩;rw[g2];exact k (.nam q (nuA as x)) _ (aB hq _) aC ⟨q,rfl⟩
 |num p m =>
  obtain rfl:p=P:=hP;refine aS (fun z=>(show ¬(V.str "num"=V.str "op") by decide) (ae z)) ⟨_,rfl,p,_,_,.str "num",rfl,rfl,aQ.of ht,rfl,rfl,_,rfl,aS (fun z=>(show ¬(V.str "num"=V.str "name") by decide) (ae z)) ⟨_,rfl,?_⟩⟩;exact k (.num p m) _ (bA.refl _) ht ⟨p,rfl⟩
def bQ4 (m_THROWS:mg "THROWS"=some (.ref cT))(hT:∀H,aQ K H cT (cX.map V.str))(C_RnT:Cl P w K mg base 102 (aI1 101) "renamed_term"):gG P w K mg base "renamed_row" "renamed_row" bY7 103 ["row","names"] spRnR:=by
 refine iT ["row","names"] fun H Q nd hr h=>?_
 obtain⟨d,r,as,rfl,hr0,hD,k⟩:=h;have hu:=gQ hr;refine⟨_,(aF (bD (dZ bO (bQ aI (pv 0) aD) aG) (aE (aO (aY (aA aG (aA (qP hu (pv 1) (bQ aI (pv 0) aD) (bQ aI (pv 0) aD) ⟨rfl,rfl,rfl,rfl⟩) (aR (bW C_RnT hr (aA (bQ aI (pv 0) aD) (aR (pv 1)))))))))) aU)
  (aF (bD (dZ dN (bQ aI (pv 0) aD) (pgl m_THROWS)) (aE (aO (aP bU (aY (aA (bQ aI (pv 0) aD) (aR (qP hu (pv 1) (bQ aI (pv 0) aD) (bQ aI (pv 0) aD) ⟨rfl,rfl,rfl,rfl⟩)))) (bK eJ (pv 0) (bR aD) bV)))) aU)
  (aF (bD (dZ dN (bQ aI (pv 0) aD) (aY (aA aG (aR aG)))) (aE (aO (aP bU (aY (aA (bQ aI (pv 0) aD) (aR (bW C_RnT hr (aA (bQ aI (pv 0) aD) (aR (pv 1))))))) (bK eJ (pv 0) (bR aD) bV)))) aU)
  (aE (aO (pv 0)))))),?_⟩
 refine⟨_,rfl,r.p,_,_,.str r.w,rfl,rfl,aQ.of hr0.at,iY,rfl,_,rfl,?_⟩;generalize hP:r.p=P
 cases r with
 |lt p x t =>
  obtain rfl:p=P:=hP;obtain⟨o,g1,g2⟩:=rM hD x;refine bH (ag rfl) ?_;refine⟨_,rfl,d,rfl,aA6 hD,_,rfl,p,_,_,.str x,rfl,rfl,aQ.of hr0.1,rfl,_,rfl,p,_,_,.str x,rfl,rfl,aQ.of hr0.1,rfl,o,g1,?_⟩;rw[g2];refine⟨_,rfl,p,_,_,.ref t.p,rfl,rfl,aQ.of hr0.1,rfl,_,rfl,d,t,as,rfl,hr0.2.1,pe hr0.2.2.2,hD,fun u H1 s1 h1 r1=>⟨by show 3<=sizeLine;decide,fun q hq=>?_⟩⟩;exact k (.lt q (nuA as x) u) _ (s1.trans (aB hq _)) ⟨aC,h1.ts (.of (aB hq _)),r1.fine hr0.2.2⟩ ⟨q,u,rfl,r1⟩
 |tell p t =>
  obtain rfl:p=P:=hP;refine aS (fun z=>wTL (ae z)) ⟨_,rfl,p,_,_,.str "tell",rfl,rfl,aQ.of hr0.1,rfl,cT,_,rfl,.inr (hT _),rfl,cA _,_,rfl,?_⟩;have ei:lV (V.str "tell") (cX.map V.str)=decide (("tell": Str)∈cX):=dS _ _;refine aS (fun z=>absurd (ae (ei.symm.trans z)) (by decide)) ?_;refine⟨_,rfl,p,_,_,.str "tell",rfl,rfl,aQ.of hr0.1,rfl,eW,fun t2 ht2=>?_⟩;have s1:=aB ht2 (.tup [.str "tell",.str "when"]);refine⟨t2,[.str "tell",.str "when"],rfl,.inr (aQ.of aC),rfl,by decide,_,rfl,bH (by decide) ?_⟩;have h0:=s1 _ _ hr0.1;refine⟨_,rfl,p,_,_,.str "tell",rfl,rfl,aQ.of h0,rfl,_,rfl,p,_,_,.ref t.p,rfl,rfl,aQ.of h0,rfl,_,rfl,d,t,as,rfl,hr0.2.1.ts (.of s1),pe hr0.2.2.2,hD.same s1,fun u H1 s2 h1 r1=>⟨eW,fun q hq=>?_⟩⟩;have s3:=aB hq (.tup [.str "tell",.ref u.p]);have h3:aN H1 q (.tup [.str "tell",.ref u.p]) q=some (.tup [.str "tell",.ref u.p]):=aC
  have hp3:=s3 _ _ (s2 _ _ h0);generalize aN H1 q (.tup [.str "tell",.ref u.p])=H3 at s3 h3 hp3 ⊢;refine⟨_,rfl,_,rfl,p,_,rfl,aQ.of hp3,aJ4,fun c hc=>⟨q,c,_,_,rfl,rfl,aB hc _ _ _ h3,by rw[aC,aI9],by show 2+0<=sizeLine;decide,fun y H4 s4 h4=>?_⟩⟩;have sA:=s3.trans ((aB hc _).trans s4);exact k (.tell y u) _ (s1.trans (s2.trans sA)) ⟨h4,h1.ts (.of sA),r1.fine hr0.2.2⟩ ⟨y,u,rfl,r1⟩
 |when p pa pb t a b =>
  obtain rfl:p=P:=hP;refine aS (fun z=>wWL (ae z)) ⟨_,rfl,p,_,_,.str "when",rfl,rfl,aQ.of hr0.1,rfl,cT,_,rfl,.inr (hT _),rfl,cA _,_,rfl,?_⟩;have ei:lV (V.str "when") (cX.map V.str)=decide (("when": Str)∈cX):=dS _ _;refine aS (fun z=>absurd (ae (ei.symm.trans z)) (by decide)) ?_;refine⟨_,rfl,p,_,_,.str "when",rfl,rfl,aQ.of hr0.1,rfl,eW,fun t2 ht2=>?_⟩;have s1:=aB ht2 (.tup [.str "tell",.str "when"]);refine⟨t2,[.str "tell",.str "when"],rfl,.inr (aQ.of aC),rfl,by decide,_,rfl,bH (by decide) ?_⟩;have h0:=s1 _ _ hr0.1;refine⟨_,rfl,p,_,_,.str "when",rfl,rfl,aQ.of h0,rfl,_,rfl,p,_,_,.ref t.p,rfl,rfl,aQ.of h0,rfl,_,rfl,d,t,as,rfl,hr0.2.1.ts (.of s1),pe hr0.2.2.1.2,hD.same s1,fun u H1 s2 h1 r1=>⟨eW,fun q hq=>?_⟩⟩;have s3:=aB hq (.tup [.str "when",.ref u.p]);have h3:aN H1 q (.tup [.str "when",.ref u.p]) q=some (.tup [.str "when",.ref u.p]):=aC
  have hp3:=s3 _ _ (s2 _ _ h0);generalize aN H1 q (.tup [.str "when",.ref u.p])=H3 at s3 h3 hp3 ⊢;refine⟨_,rfl,_,rfl,p,_,rfl,aQ.of hp3,aJ4,fun c hc=>⟨q,c,_,_,rfl,rfl,aB hc _ _ _ h3,by rw[aC,aI9],by show 2+2<=sizeLine;decide,fun y H4 s4 h4=>?_⟩⟩;have sA:=s3.trans ((aB hc _).trans s4);have sB:=s1.trans (s2.trans sA);exact k (.when y pa pb u a b) _ sB ⟨h4,h1.ts (.of sA),r1.fine hr0.2.2.1,sB _ _ hr0.2.2.2.1,sB _ _ hr0.2.2.2.2.1,aW.ts (.of sB) _ hr0.2.2.2.2.2.1,aW.ts (.of sB) _ hr0.2.2.2.2.2.2⟩ ⟨y,u,rfl,r1⟩
 |times p pb n b =>
  obtain rfl:p=P:=hP;refine aS (fun z=>wML (ae z)) ⟨_,rfl,p,_,_,.str "times",rfl,rfl,aQ.of hr0.1,rfl,cT,_,rfl,.inr (hT _),rfl,cA _,_,rfl,?_⟩;have ei:lV (V.str "times") (cX.map V.str)=decide (("times": Str)∈cX):=dS _ _;refine aS (fun z=>absurd (ae (ei.symm.trans z)) (by decide)) ?_;refine⟨_,rfl,p,_,_,.str "times",rfl,rfl,aQ.of hr0.1,rfl,eW,fun t2 ht2=>?_⟩;have s1:=aB ht2 (.tup [.str "tell",.str "when"]);refine⟨t2,[.str "tell",.str "when"],rfl,.inr (aQ.of aC),rfl,by decide,_,rfl,aS (by decide) ⟨_,rfl,?_⟩⟩;exact k (.times p pb n b) _ s1 (eB.ts (.of s1) _ hr0) rfl
 |thr p w x vs am =>
  obtain rfl:p=P:=hP;have hw:=hr0.2.w;obtain⟨o,g1,g2⟩:=rM hD x;refine aS (fun z=>aR9 hw (ae z)) ⟨_,rfl,p,_,_,.str w,rfl,rfl,aQ.of hr0.1,iY,cT,_,rfl,.inr (hT _),rfl,cA _,_,rfl,?_⟩;have ei:lV (V.str w) (cX.map V.str)=decide (w∈cX):=dS _ _;refine bH (ei.trans (ag hw)) ?_;refine⟨_,rfl,p,_,_,.str w,rfl,rfl,aQ.of hr0.1,iY,_,rfl,d,rfl,aA6 hD,_,rfl,p,_,_,.str x,rfl,rfl,aQ.of hr0.1,at1,_,rfl,p,_,_,.str x,rfl,rfl,aQ.of hr0.1,at1,o,g1,?_⟩;rw[g2];refine⟨eW,fun q hq=>?_⟩;have s3:=aB hq (.tup [.str w,.str (nuA as x)]);have h3:aN H q (.tup [.str w,.str (nuA as x)]) q=some (.tup [.str w,.str (nuA as x)]):=aC;have hp3:=s3 _ _ hr0.1;generalize aN H q (.tup [.str w,.str (nuA as x)])=H3 at s3 h3 hp3 ⊢;have hv:=qG hr0.2;refine⟨_,rfl,_,rfl,p,_,rfl,aQ.of hp3,aJ4,fun c hc=>⟨q,c,_,_,rfl,rfl,aB hc _ _ _ h3,by rw[aC,aI9],by show 2+vs.length<=sizeLine;exact bp (aJ (by lia)),fun y H4 s4 h4=>?_⟩⟩
  have sA:=s3.trans ((aB hc _).trans s4);exact k (.thr y w (nuA as x) vs am) _ sA ⟨h4,hr0.2.ts (.of sA)⟩ ⟨y,rfl⟩
def bR5 (C_Sts:Cl P w K mg base 3 spSteps "steps_of")(C_Bgn:Cl P w K mg base 1 spBegins "begins_rows")(m_tuple:mg "tuple"=none)(m_len:mg "len"=none):bS0 P w K mg base "rebuilt" "rebuilt" bY8 105 103 ["rows","change"] spRb:=by
 refine cI9 ["rows","change","blocks","word","row","number","many","inner"] (fun Λ cv H Q nd hr hg hz h=>?_) (by intro _ _ _ _ _ _ h;first|(cases h;subst_vars;rfl)|((repeat obtain⟨_,h⟩:=h);subst_vars;rfl));obtain⟨p,f,rs,Chg,Rq,rfl,hp,hR,hc,mono,rq0,rqW,rqT,hch,k⟩:=h;obtain rfl:=V.ref.inj (cu (show some (V.ref f)=some (V.ref _) from hg));refine⟨_,(eQ 2 nd (cC (aR (cC cJ)))
  (aF (pfr (dE (bW C_Sts hr (aR (pv 0)))) (jE rfl (bG (fK 3 nd) (bG (fK 4 nd) (bG (fK 5 nd) fO))))
  (aE (bD (fJ (bW C_Bgn hr (aA (pv 3) (aR (pv 4))))) (aE (cO (fG bj cy db cU (pv 2) (aR (cC cJ))))) (aE (bD (dZ bO (pv 3) aG) (aE (cO (fG bj iu iw iG (bQ fP (pv 2) vK) (aR (bY6 (i:=1) Λ hz hr (aA (pv 4) (aR (pv 5)))))))) (eQ 6 nd (iF aV m_len ci (aR (bK eJ (pv 4) (bR aD) bV)))
  (eQ 7 nd (oR bT m_tuple cq (aR (cY ["block"] [none] (dE (bK jA (pv 2) (bR (aN0 aA5 (pv 6))) bV)) (fun _ _ _ _=>(fK 0)) (fun _ _ _ _=>eE) (fun _ _ _ _=>(oR (bP5 K) m_tuple cq (aR (pv 0)))))))
  (eQ 2 nd (bK jA (pv 2) bV (bR (aN0 aA5 (pv 6))))
  (aE (cO (fG bj iu iw iG (bQ fP (pv 2) vK) (aR (bY6 (i:=1) Λ hz hr (aA (aP bU (bK eJ (pv 4) bV (bR aD)) (pv 7)) (aR (pv 5))))))))))))))))
  (aE (aO (oR bT m_tuple cq (aR (bQ fP (pv 2) aD))))))),?_⟩
 refine⟨bu _,fun a0 ha0=>⟨kL,fun lb0 hlb0=>?_⟩⟩;have s0:=(aB ha0 (.lst [])).trans (aB hlb0 (.lst [.ref a0]));have ga0:=aB hlb0 (.lst [.ref a0]) _ _ (show aN H a0 (.lst []) a0=some (.lst []) from aC);have gl0:aN (aN H a0 (.lst [])) lb0 (.lst [.ref a0]) lb0=some (.lst [.ref a0]):=aC;have n0:a0≠lb0:=aK (show aN H a0 (.lst []) a0=some (.lst []) from aC) hlb0;have fl0:H lb0=none:=(aB ha0 (.lst [])).free hlb0;generalize aN (aN H a0 (.lst [])) lb0 (.lst [.ref a0])=H0 at s0 ga0 gl0 ⊢;refine⟨_,rfl,p,rs,rfl,s0 _ _ hp,aW.ts (.of s0) rs hR,hc,fun ls zs H2 s2 f2 h2 t2=>?_⟩;have s02:=s0.trans s2;have hR2:=aW.ts (.of s02) rs hR;have wd:=aW.wd rs hR;have zl:=t2.length;have sl:=dX rs 0;have nl1:ls≠a0:=(aK ga0 f2).symm;have nl2:ls≠lb0:=(aK gl0 f2).symm;have ga2:=s2 _ _ ga0;have gl2:=s2 _ _ gl0;have tsO:∀{G:Hp},eZ [a0,lb0] H2 G->TS H2 G:=fun {G} o q xs e=>o q _ e fun z=>by
  simp only[List.mem_cons,List.not_mem_nil,or_false] at z;rcases z with z|z
  ·rw[z,ga2] at e;cases e
  ·rw[z,gl2] at e;cases e
 have smO:∀{G:Hp},eZ [a0,lb0] H2 G->bA H G:=fun {G} o q u e=>o q _ (s02 _ _ e) fun z=>by
  simp only[List.mem_cons,List.not_mem_nil,or_false] at z;rcases z with z|z
  ·rw[z,ha0] at e;cases e
  ·rw[z,fl0] at e;cases e
 have lsO:∀{G:Hp},eZ [a0,lb0] H2 G->G ls=some (.lst zs):=fun {G} o=>o _ _ h2 fun z=>by
  simp only[List.mem_cons,List.not_mem_nil,or_false] at z;exact z.elim nl1 nl2
 refine⟨ls,rfl,⟨_,bJ.of h2⟩,iD (K:=K) (a:=ls) (xs:=zs) (fun i σ G=>∃(lb:Addr) (as:List Addr) (c:BSt) (v3 v4 v5 v6 v7:Option V),σ=[some (.ref p),some (.ref f),some (.ref lb),v3,v4,v5,v6,v7]/\eZ [a0,lb0] H2 G/\G lb=some (.lst (as.reverse.map V.ref))/\(lb::as).Nodup/\(∀b∈lb::as,b∈[a0,lb0]\/H2 b=none)/\nC G i as c/\iA (Chg G) ((bY 0 rs).take i) [[]] c/\dU bd ((bY 0 rs).take i) 1=some c.length/\c.length<=i+1)
  ⟨lb0,[a0],[[]],_,_,_,_,_,rfl,eZ.refl _,gl2,by simp[n0.symm],fun b hb=> .inl (by simpa [or_comm] using hb),⟨⟨ga2,trivial,aj _⟩,trivial⟩,rfl,rfl,aj _⟩ (by rintro i σ G _ ⟨_,_,_,_,_,_,_,_,_,o,_⟩;exact bJ.of (lsO o)) ?_ ?_⟩
 ·have rm:∀{G G':Hp}{l:List Stp}{c d:BSt},TS G G'->iA (Chg G) l c d->iA (Chg G') l c d:=fun t r=>r.mono fun n r o=>mono _ _ n r o t
  rintro D' i v σ G hv ⟨lb,as,c,v3,v4,v5,v6,v7,rfl,oG,gb,nd1,fr,bk,run,dp,cl⟩;obtain⟨s,hs,q,rfl,hq⟩:=mL t2 hv;have il:=(bf.mp hs).1;have hrs:=eB.ts (tsO oG) _ (fA rs 0 hR2 s (bg hs));obtain⟨m',bm,bm2⟩:=vZ bd (kZ rs 0 1 wd (aj _)) hs dp;refine⟨q,_,rfl,aQ.of (tsO oG _ _ hq),rfl,_,_,rfl,_,_,rfl,_,_,rfl,rfl,?_⟩;refine⟨_,rfl,_,rfl,s,rfl,hrs,fun G1 s1=>⟨_,rfl,?_⟩⟩;have oG:=oG.trans (eZ.of s1);have gb:=s1 _ _ gb;have bk:=bk.at (.of s1) (aj _) fun a _ o e=>s1 a o e
  have hrs:=eB.ts (.of s1) _ hrs;have run:=rm (.of s1) run;clear s1;have etk:=bE hs;obtain⟨nla,nda⟩:=de.mp nd1;have bl:=bk.len
  by_cases co:fC s=true
  ·refine bH co ⟨_,rfl,.inl ⟨rfl,_,bJ.of gb⟩,bu _,fun a ha=>?_⟩;have sa:=aB ha (.lst []);have nba:=aK gb ha;have fa:=aH3 oG ha;have ga:aN G1 a (.lst []) a=some (.lst []):=aC;generalize aN G1 a (.lst [])=G2 at sa ga ⊢;refine⟨lb,_,_,rfl,rfl,sa _ _ gb,by rw[ac,eh];exact hG (by lia),?_⟩;have tN:=TS.lst (ys:=as.reverse.map V.ref++[.ref a]) (sa _ _ gb);have em:m'=c.length+1:=by
    unfold bd at bm;rw[bb co] at bm;exact(cu bm).symm
   have naa:a∉as:=fun z=>by
    obtain⟨o,e⟩:=bk.mem a z;rw[ha] at e;cases e
   refine⟨lb,a::as,[]::c,_,_,_,_,_,rfl,wZ (oG.trans (eZ.of sa)) (fr lb ao),by rw[aC,dg,av];rfl,?_,fun b hb=>?_,⟨⟨(aH nba.symm).trans ga,trivial,bu _⟩,bk.at ((TS.of sa).trans tN) (fw i) fun b hb o e=>(aH fun z=>nla (by rw[<-z];exact hb)).trans (sa _ _ e)⟩,?_,?_,by rw[bt];lia⟩
   ·rw[de,de];exact⟨fun z=>by
     rcases bv.mp z with z|z
     ·exact nba z
     ·exact nla z,naa,nda⟩
   ·rcases bv.mp hb with z|z
    ·rw[z];exact fr lb ao
    ·rcases bv.mp z with z|z
     ·rw[z];exact fa
     ·exact fr b (aq _ z)
   ·rw[etk];exact(rm ((TS.of sa).trans tN) run).snoc (by unfold gT;rw[bb co])
   ·rw[bm2,em,bt]
  ·refine aS co ⟨_,rfl,rfl,_,rfl,?_⟩
   by_cases cr:s.1="row"
   ·refine bH (by rw[cr];exact ag rfl) ?_;have bm:=bm;unfold bd at bm;rw[au co,bb cr] at bm;obtain⟨B,st,rfl⟩:∃B st,c=B::st:=by
     cases c with
     |nil=>rw[au (by decide)] at bm;cases bm
     |cons B st=>exact⟨B,st,rfl⟩
    rw[bb (by rw[bt];lia)] at bm;obtain⟨a,as',rfl⟩:∃a as',as=a::as':=by
     cases as with
     |nil=>exact bk.elim
     |cons a as'=>exact⟨a,as',rfl⟩
    obtain⟨⟨ga,hB,lB⟩,bk⟩:=bk;refine⟨_,rfl,lb,_,_,.ref a,rfl,rfl,bJ.of gb,by rw[dg,av];exact aI2,.inl ⟨rfl,_,bJ.of ga⟩,rfl,_,rfl,_,rfl,_,_,rfl,hch s.2.1 s.2.2 G1 _ (smO oG) hrs (rq0 _ (by rw[<-fQ rs 0];exact jd (dk.mpr ⟨bg hs,ag cr⟩)) _ (.of (smO oG))) fun l o G2 s2' hl hro hcg lo=>?_⟩;refine⟨a,l,_,_,rfl,rfl,s2' _ _ ga,hl,by rw[bB,bB];exact bp (hG (by lia)),?_⟩;have tN:=TS.lst (ys:=bN B++bN o) (s2' _ _ ga);have nba:lb≠a:=fun z=>nla (by rw[z];exact ao)
    refine⟨lb,a::as',(B++o)::st,_,_,_,_,_,rfl,wZ (oG.trans (eZ.of s2')) (fr a (aq _ ao)),(aH nba).trans (s2' _ _ gb),nd1,fr,⟨⟨by rw[aC,dO],aW.app (aW.ts ((TS.of s2').trans tN) _ hB) (aW.ts tN _ hro),by rw[ah];lia⟩,bk.at ((TS.of s2').trans tN) (fw i) fun b hb o e=>(aH fun z=>(de.mp nda).1 (by rw[<-z];exact hb)).trans (s2' _ _ e)⟩,?_,?_,by rw[bt] at cl ⊢;lia⟩
    ·rw[etk];exact(rm ((TS.of s2').trans tN) run).snoc (by unfold gT;rw[au co,bb cr];exact⟨B,st,o,rfl,mono _ _ _ _ _ tN hcg,rfl⟩)
    ·rw[bm2, <-bm,bt,bt]
   ·refine aS (fun z=>cr (by have z:=ae z;injection z)) ?_;obtain⟨Bs,B,st,x,y,us,rfl,lB,hu2,em,hp',mk⟩:=bA1 hrs co cr bm;obtain⟨xs',ys',rfl,bk1,bk2⟩:=bk.split;obtain⟨a,as',rfl⟩:∃a as',ys'=a::as':=by
     cases ys' with
     |nil=>exact bk2.elim
     |cons a as'=>exact⟨a,as',rfl⟩
    have bk1r:=bk1.rev;rw[List.reverse_reverse] at bk1r;have zlen:(xs'.reverse.map V.ref).length=us.length:=by rw[ac,bk1r.len,lB]
    have u1:1<=us.length:=by lia
    have gb:G1 lb=some (.lst ((a::as').reverse.map V.ref++xs'.reverse.map V.ref)):=by rw[gb,xw,av]
    refine⟨_,rfl,_,rfl,s.2.1.p,_,rfl,aQ.of hp',aJ4,fun t ht=>?_⟩;rw[aI9];obtain⟨G2,e0,st,gt⟩:=mZ ht (.tup us);rw[e0];clear e0;refine⟨t,us,rfl,.inr (aQ.of gt),?_⟩;refine⟨_,rfl,_,rfl,_,rfl,_,rfl,lb,_,rfl,bJ.of (st _ _ gb),fun l6 hl6=>?_⟩;rw[bG9 zlen u1];have s6:=st.trans (aB hl6 (.lst (xs'.reverse.map V.ref)));have g6:aN G2 l6 (.lst (xs'.reverse.map V.ref)) l6=some (.lst (xs'.reverse.map V.ref)):=aC;generalize aN G2 l6 (.lst (xs'.reverse.map V.ref))=G6 at s6 g6 ⊢;refine⟨l6,rfl,⟨_,bJ.of g6⟩,dJ (K:=K) (a:=l6) (xs:=xs'.reverse.map V.ref) (fun j ys σ G'=>bA G6 G'/\(∃v,σ=[v])/\fM (aC0 G') ys (Bs.take j))
     (aJ (by lia)) ⟨bA.refl _,⟨_,rfl⟩,trivial⟩ (by rintro j ys σ G' ⟨_,_,e⟩;rw[e.length,bx];lia) (by rintro j ys σ G' _ ⟨e,_⟩;exact bJ.of (e _ _ g6)) ?_ ?_⟩
    ·rintro j v ys σ G' hv ⟨sG,⟨v',rfl⟩,tw⟩;rw[df] at hv;obtain⟨b,hb,rfl⟩:=lq.mp hv;obtain⟨B',hB',gB,rB,_⟩:=bk1r.get hb;refine⟨_,rfl,b,_,rfl,.inl ⟨bJ.of ((s6.trans sG) _ _ gB),fun t' ht'=>?_⟩⟩;have sn:=aB ht' (.tup (bN B'));refine⟨sG.trans sn,⟨_,rfl⟩,?_⟩;rw[bE hB'];exact nZ ⟨t',rfl,aC,aW.ts (.of (s6.trans (sG.trans sn))) _ rB⟩ (tw.mono fun _ _ z=>z.ts (.of sn))
    rintro ys σ G7 ⟨sG,_,tw⟩ l7 hl7;rw[zlen, <-lB,cg] at tw;have yl:=tw.length;refine⟨l7,_,rfl,.inl ⟨bJ.of aC,fun u hu'=>?_⟩⟩;have s8:=s6.trans (sG.trans ((aB hl7 (.lst ys)).trans (aB hu' (.tup ys))));have tw:=tw.mono fun _ _ z=>aC0.ts (.of ((aB hl7 (.lst ys)).trans (aB hu' (.tup ys)))) z
    have gu:aN (aN G7 l7 (.lst ys)) u (.tup ys) u=some (.tup ys):=aC;generalize aN (aN G7 l7 (.lst ys)) u (.tup ys)=G8 at s8 tw gu ⊢;refine⟨_,rfl,_,rfl,_,rfl,_,rfl,lb,_,rfl,bJ.of (s8 _ _ gb),fun lb2 hlb2=>?_⟩;rw[aL6 zlen u1];have s9:=aB hlb2 (.lst ((a::as').reverse.map V.ref));have g9:aN G8 lb2 (.lst ((a::as').reverse.map V.ref)) lb2=some (.lst ((a::as').reverse.map V.ref)):=aC;have f9:=aH3 (oG.trans (eZ.of s8)) hlb2;have s19:=s8.trans s9;have nmem:∀b∈a::as',b≠lb2:=fun b hb z=>by
     obtain⟨o,e⟩:=bk2.mem b hb;rw[z] at e;rw[s8 _ _ e] at hlb2;cases hlb2
    have tw:=tw.mono fun _ _ z=>aC0.ts (.of s9) z
    have gu:=s9 _ _ gu;generalize aN G8 lb2 (.lst ((a::as').reverse.map V.ref))=G9 at s9 g9 s19 tw gu ⊢;obtain⟨⟨ga,hB,lBn⟩,bk3⟩:=bk2;obtain⟨u0,ur,rfl⟩:∃u0 ur,us=u0::ur:=by
     cases us with
     |nil=>exact absurd u1 (by decide)
     |cons u0 ur=>exact⟨u0,ur,rfl⟩
    refine⟨_,rfl,lb2,_,_,.ref a,rfl,rfl,bJ.of g9,by rw[dg,av];exact aI2,.inl ⟨rfl,_,bJ.of (s19 _ _ ga)⟩,rfl,?_⟩;refine⟨_,rfl,_,rfl,s.2.1.p,_,rfl,aQ.of (s19 _ _ hp'),aQ0,fun t2 ht2=>?_⟩;rw[bU2];have s10:=aB ht2 (.tup [x,y]);refine⟨_,rfl,t2,u,_,_,rfl,rfl,aC,s10 _ _ gu,by show 2+_<=_;exact bp (aJ (by lia)),fun qn G11 s11 h11=>⟨_,rfl,_,_,rfl,?_⟩⟩;have sB:=s19.trans (s10.trans s11);obtain⟨r',rfl,hr',rqE,mk'⟩:=mk qn ys G11 h11 (tw.mono fun _ _ z=>z.ts (.of (s10.trans s11))) (.of sB);refine hch r' s.2.2 G11 _ (smO (oG.trans (eZ.of sB))) hr' (rqE (Rq G11) (rqW G11) (rqT G11)) fun l o G12 s12 hl hro hcg lo=>?_
    have sC:=sB.trans s12;refine⟨a,l,_,_,rfl,rfl,sC _ _ ga,hl,by rw[bB,bB];exact bp (hG (by lia)),?_⟩;have tN:=TS.lst (ys:=bN B++bN o) (sC _ _ ga);have nd2:=(jp.mp nda).2.1;refine⟨lb2,a::as',(B++o)::_,_,_,_,_,_,rfl,wZ (oG.trans (eZ.of sC)) (fr a (aq _ (br _ ao))),(aH (nmem a ao).symm).trans ((s10.trans (s11.trans s12)) _ _ g9),de.mpr ⟨fun z=>nmem lb2 z rfl,nd2⟩,fun b hb=>?_,⟨⟨by rw[aC,dO],aW.app (aW.ts ((TS.of sC).trans tN) _ hB) (aW.ts tN _ hro),by rw[ah];lia⟩,bk3.at ((TS.of sC).trans tN) (fw i) fun b hb o e=>(aH fun z=>(de.mp nd2).1 (by rw[<-z];exact hb)).trans (sC _ _ e)⟩,?_,?_,?_⟩
    ·rcases bv.mp hb with z|z
     ·rw[z];exact f9
     ·exact fr b (aq _ (br _ z))
    ·rw[etk];exact(rm ((TS.of sC).trans tN) run).snoc (mk' _ o (mono _ _ _ _ _ tN hcg))
    ·rw[bm2,em];rfl
    ·rw[ah] at cl;rw[bt] at cl ⊢;lia
 ·rintro σ G ⟨lb,as,c,v3,v4,v5,v6,v7,rfl,oG,gb,nd1,fr,bk,run,dp,cl⟩;rw[zl,cg] at run;have run2:=run;obtain⟨o,_,rfl⟩:=jR rs 0 wd run
  match as,bk with
  |[a],⟨⟨ga,hB,_⟩,_⟩ =>
   exact⟨_,rfl,lb,_,_,.ref a,rfl,rfl,bJ.of gb,rfl,a,_,rfl,.inl ⟨bJ.of ga,fun q hq=>by
    obtain⟨o',ro',e⟩:=jR rs 0 wd (run2.mono fun n r u=>mono _ (aN G q (.tup (bN ([]++o)))) n r u (.of (aB hq _)))
    cases e
    exact k q o _ ((smO oG).trans (aB hq _)) aC (aW.ts (.of (aB hq _)) _ hB) ro'⟩⟩
def aO2 (Pt:Addr):mV:=⟨Pt,bZ1 aA9,"renamed.<locals>.<lambda>"⟩
def bS7 (C_RnR:Cl P w K mg base 103 spRnR "renamed_row"):wT P w K mg base 103 where
 ar:=(cB0 aA9).getD ⟨[],[],none,[],[],none,[]⟩
 body:=cF1 aA9
 sc:=bH8 aA9
 p1:="row"
 p2:="number"
 cn:=["names"]
 te:=bQ5 (kG (pP spRnR [] E0 (kG (mC 0) (kG (mC 2) tNil))) tNil)
 S:=⟨rfl,rfl,rfl,by decide,by decide,by decide,by decide,by decide⟩
 hb:=by intros;rfl
 h:=fun qual f c cl A outer s H hr=>cC (aR (bW C_RnR hr (aA (pv 0) (aR (pv 2)))))
def bW8 (C_Rbl:ClZ P w K mg base 105 103 spRb "rebuilt")(C_RnR:Cl P w K mg base 103 spRnR "renamed_row")(B:tX base mg c Pt):aN9 P w K mg base "renamed" "renamed" aA9 106 ["rows","names"] c (aO3 (aO2 Pt)):=by
 refine cC2 ["rows","names"] (fun H Q nd hr h=>?_) (by intro _ _ _ _ h;first|(cases h;subst_vars;rfl)|((repeat obtain⟨_,h⟩:=h);subst_vars;rfl));obtain⟨p,d,rs,as,rfl,hT,hp,hR,hc,hD,k⟩:=h;have key:∀y∈(bH8 aA9).names,y.2= .free->y.1="names":=by decide
 refine⟨_,(aE (aO (cB1 C_Rbl (bS7 C_RnR) hr (aA (pv 0) (aR (aY6 B rfl fun y hy hf=> .inl (by rw[key y hy hf];rfl)))) fun y hy hf=>by rw[key y hy hf];rfl))),?_⟩;obtain⟨ps,eP⟩:=hT.is;have eP:H Pt=some (.tbl ps):=eP;refine⟨_,rfl,hT,fun f' c' H1 hT1 o1 hf hL=>?_⟩;have t1:TS H H1:=o1.ts eP;have hD1:NmD H1 d as:=o1 d _ hD fun z=>by rw[z] at hD;unfold NmD at hD;rw[eP] at hD;cases hD
 refine⟨f',c',_,[("names",.ref d)],rfl,hL,rfl,fun y hy=>⟨1,by rw[cp.mp hy];rfl,by rw[cp.mp hy];rfl⟩,p,f',rs,fun _=>bW6 (nuA as),fun _ _=>True,rfl,t1 _ _ hp,aW.ts t1 rs hR,hc,fun _ _ _ _ _ _ h=>h,fun _ _ _ _=>trivial,fun _ _ _ _ _ _ _=>trivial,fun _ _ _ _ _=>trivial,fun r n G W sG hrG _ next=>?_,fun q o H' s' hq ho ro=>?_⟩
 ·refine⟨_,rfl,_,rfl,d,r,as,rfl,hrG,hD1.same sG,fun q G1 s1 hq r1=>⟨kL,fun l hl=>?_⟩⟩;exact next l [q] _ (s1.trans (aB hl _)) aC ⟨eB.ts (.of (aB hl _)) _ hq,trivial⟩ ⟨q,rfl,r1⟩ (aj _)
 ·exact k q o H' (o1.trans (kJ.of s')) (hT1.same s') hq ho (kT rs 0 ro)
def aY9 (n)(C_Flt46:Cl P w K mg base (n+1) (aE4 n) "_law_flat"):gG P w K mg base "_law_flat" "_law_flat" aY0 (n+1+1) ["_law_rows_here"] (aE4 (n+1)):=by
 refine iT ["_law_rows_here","_law_found","_law_row_here"] fun H Q nd hr h=>?_
 obtain⟨p,rs,rfl,hp,hR,hd,hc,k⟩:=h;refine⟨_,(eQ 1 nd (cC cJ)
  (aF (pfr (pA (pv 0)) (fK 2 nd)
  (aF (cO (fG bj cy db cU (pv 1) (aR (pv 2))))
  (aF (gD (bD (dZ bO (bQ aI (pv 2) aD) aG) (aE (cO (fG bj iu iw iG (pv 1) (aR (aP fR (bW C_Flt46 hr (aR (bQ aI (pv 2) aD))) (bW C_Flt46 hr (aR (bQ aI (pv 2) aD)))))))) aU))
  (aE (gD (bD (dZ bO (bQ aI (pv 2) aD) aG) (aE (cO (fG bj iu iw iG (pv 1) (aR (bW C_Flt46 hr (aR (bQ aI (pv 2) aD))))))) aU))))))
  (aE (aO (pv 1))))),?_⟩
 refine⟨bu _,fun lo hlo=>?_⟩;obtain⟨H1,e0,s1,g1⟩:=mZ hlo (.lst []);rw[e0];clear e0;have pne:p≠lo:=aK hp hlo;have t1:∀{G:Hp},eV lo H1 G->TS H G:=fun {G} b q ys e=>b q _ (s1 _ _ e) (fun z=>by rw[z,hlo] at e;cases e)
 have pl:=eN;have tot:∀n,(dD (rs.take n)).length<=900:=fun n=>by
  have:dD rs=dD (rs.take n)++dD (rs.drop n):=by rw[<-gM,jx]
  have h2:=ej List.length this;rw[ah,pl] at h2;lia
 refine⟨_,rfl,p,rfl,⟨_,aQ.of (s1 _ _ hp)⟩,zI (K:=K) (a:=p) (xs:=bN rs) (fun i σ G=>∃v2,σ=[some (.ref p),some (.ref lo),v2]/\eV lo H1 G/\G lo=some (.lst (bN (dD (rs.take i)))))
  ⟨_,rfl,eV.refl,g1⟩ (by rintro i σ G _ ⟨_,_,b,_⟩;exact aQ.of (t1 b _ _ hp)) ?_ ?_⟩
 ·rintro D' i v σ G hv ⟨v2,rfl,b1,g2⟩;obtain⟨r,hr0,rfl⟩:=mR hv;have hm:=bg hr0;have hR2:=aW.ts (t1 b1) rs hR;have hrr:=aW.mem hR2 r hm;have hdr:r.dp<=n:=cm (xF hm) hd;have e1:dD (rs.take (i+1))=dD (rs.take i)++iR r:=by rw[bE hr0,gM];simp[dD]
  have t1':=tot (i+1);have t0:=tot i;rw[e1,ah] at t1';have lR:(bN (dD (rs.take i))).length<=900:=by rw[bB];exact t0
  refine⟨_,rfl,.inl ⟨rfl,_,bJ.of g2⟩,_,rfl,lo,_,_,rfl,rfl,g2,aJ (by lia),?_⟩;have tN:=TS.lst (ys:=bN (dD (rs.take i))++[.ref r.p]) g2;have g3:aN G lo (.lst (bN (dD (rs.take i))++[.ref r.p])) lo=some (.lst (bN (dD (rs.take i)++[r]))):=by rw[aC,dO];rfl
  have b3:=b1.trans (eV.upd (d:=lo) (o:= .lst (bN (dD (rs.take i))++[.ref r.p])));have hrr3:=eB.ts tN r hrr;generalize aN G lo (.lst (bN (dD (rs.take i))++[.ref r.p]))=G3 at g3 b3 hrr3 ⊢;clear b1 g2 tN hrr hR2;have ext:∀{G:Hp}{l:Addr}{L:List Rw}(b:eV lo H1 G),G lo=some (.lst (bN L))->∀zs,eV lo H1 (aN G lo (.lst (bN L++zs))):=fun b _ zs=>b.trans eV.upd
  refine⟨fun σ' G'=>∃L:List Rw,σ'=[some (.ref p),some (.ref lo),some (.ref r.p)]/\eV lo H1 G'/\G' lo=some (.lst (bN (dD (rs.take i)++L)))/\(r.w="when"->L=iR r)/\(r.w≠"when"->L=[r]),?_,?_⟩
  ·refine⟨_,rfl,r.p,_,_,.str r.w,rfl,rfl,aQ.of hrr3.at,iY,rfl,_,rfl,?_⟩
   cases r with
   |when q pa pb t a b =>
    refine bH (ag rfl) ?_;simp only[iR,List.length_cons,List.length_append] at t1';simp only[Rw.dp] at hdr
    cases n with
    |zero=>exact absurd hdr (by lia)
    |succ n =>
    have ca:=eN a;have cb:=eN b;refine⟨_,rfl,.inl ⟨rfl,_,bJ.of g3⟩,_,rfl,q,_,_,.ref pa,rfl,rfl,aQ.of hrr3.1,rfl,pa,a,rfl,hrr3.2.2.2.1,hrr3.2.2.2.2.2.1,by lia,by lia,fun l4 H4 s4 h4=>?_⟩;refine⟨_,rfl,q,_,_,.ref pb,rfl,rfl,aQ.of (s4 _ _ hrr3.1),rfl,pb,b,rfl,s4 _ _ hrr3.2.2.2.2.1,aW.ts (.of s4) _ hrr3.2.2.2.2.2.2,by lia,by lia,fun l5 H5 s5 h5=>?_⟩;refine⟨l4,l5,_,_,rfl,rfl,s5 _ _ h4,h5,by rw[bB,bB];exact bp (aJ (by lia)),fun l6 hl6=>?_⟩;have s6:=s4.trans (s5.trans (aB hl6 (.lst (bN (dD a)++bN (dD b)))));refine⟨lo,l6,_,_,rfl,rfl,s6 _ _ g3,aC,by rw[ah,bB,bB,bB,ah];exact bp (aJ (by simp only[List.length_cons,List.length_nil];lia)),?_⟩;refine⟨iR (.when q pa pb t a b),rfl,(b3.trans (eV.of s6)).trans eV.upd,?_,fun _=>rfl,fun z=>absurd rfl z⟩;rw[aC, <-dO, <-dO];simp[iR]
   |times q pb m b =>
    exact aS (fun z=>absurd (ae z) (by show ¬(V.str "times"=V.str "when");decide)) ⟨[_],rfl,b3,g3,fun z=>absurd z (show ¬("times": Str)="when" by decide),fun _=>rfl⟩
   |lt q x t=>exact aS (fun z=>absurd (ae z) (by show ¬(V.str "let"=V.str "when");decide)) ⟨[_],rfl,b3,g3,fun z=>absurd z (show ¬("let": Str)="when" by decide),fun _=>rfl⟩
   |tell q t=>exact aS (fun z=>absurd (ae z) (by show ¬(V.str "tell"=V.str "when");decide)) ⟨[_],rfl,b3,g3,fun z=>absurd z (show ¬("tell": Str)="when" by decide),fun _=>rfl⟩
   |thr q w x us am =>
    have hw:w≠"when":=fun z=>absurd hrr3.2.w (by rw[z];decide)
    exact aS (fun z=>hw (by have z:=ae z;injection z)) ⟨[_],rfl,b3,g3,fun z=>absurd z hw,fun _=>rfl⟩
  ·rintro σ' G4 ⟨L,rfl,b4,g4,w1,w2⟩;have hrr4:=aW.mem (aW.ts (t1 b4) rs hR) r hm;rw[e1];refine⟨fun σ' G'=>σ'=[some (.ref p),some (.ref lo),some (.ref r.p)]/\eV lo H1 G'/\G' lo=some (.lst (bN (dD (rs.take i)++iR r))),?_,?_⟩
   ·refine⟨_,rfl,r.p,_,_,.str r.w,rfl,rfl,aQ.of hrr4.at,iY,rfl,_,rfl,?_⟩
    cases r with
    |when q pa pb t a b =>
     rw[w1 rfl] at g4;exact aS (fun z=>absurd (ae z) (by show ¬(V.str "when"=V.str "times");decide)) ⟨rfl,b4,g4⟩
    |times q pb m b =>
     refine bH (ag rfl) ?_;rw[w2 (show ¬("times": Str)="when" by decide)] at g4;simp only[iR,List.length_cons] at t1';simp only[Rw.dp] at hdr
     cases n with
     |zero=>exact absurd hdr (by lia)
     |succ n =>
     have cb:=eN b;refine⟨_,rfl,.inl ⟨rfl,_,bJ.of g4⟩,_,rfl,q,_,_,.ref pb,rfl,rfl,aQ.of hrr4.1,rfl,pb,b,rfl,hrr4.2.1,hrr4.2.2,by lia,by lia,fun l5 H5 s5 h5=>?_⟩;refine⟨lo,l5,_,_,rfl,rfl,s5 _ _ g4,h5,by rw[bB,bB,ah];exact bp (aJ (by simp only[List.length_cons,List.length_nil];lia)),?_⟩;refine⟨rfl,(b4.trans (eV.of s5)).trans eV.upd,?_⟩;rw[aC, <-dO];simp[iR]
    |lt q x t =>
     rw[w2 (show ¬("let": Str)="when" by decide)] at g4;exact aS (fun z=>absurd (ae z) (by show ¬(V.str "let"=V.str "times");decide)) ⟨rfl,b4,g4⟩
    |tell q t =>
     rw[w2 (show ¬("tell": Str)="when" by decide)] at g4;exact aS (fun z=>absurd (ae z) (by show ¬(V.str "tell"=V.str "times");decide)) ⟨rfl,b4,g4⟩
    |thr q w x us am =>
     rw[w2 (fun z=>absurd hrr4.2.w (by rw[show w="when" from z];decide))] at g4;exact aS (fun z=>absurd hrr4.2.w (by have z:=ae z;injection z with z;rw[show w="times" from z];decide)) ⟨rfl,b4,g4⟩
   ·rintro σ' G5 ⟨rfl,b5,g5⟩;exact⟨_,rfl,b5,g5⟩
 ·rintro σ G ⟨v2,rfl,b1,g2⟩;rw[bB,cg] at g2;exact⟨_,rfl,k lo G (b1.same s1 hlo) g2⟩
def bR6 (m_isinstance:mg "isinstance"=none)(m_str:mg "str"=none):gG P w K mg base "_law_name_told" "_law_name_told" cA1 1 ["_law_found","_law_x","_law_names_here"] spNmT:=by
 refine iT ["_law_found","_law_x","_law_names_here"] fun H Q nd hr h=>?_
 obtain⟨d,S,ν,x,T,rfl,hD,hT,hx,hS,k⟩:=h;refine⟨_,(aE (aO (eX (iF gO m_isinstance dr (aA (pv 0) (aR (lX (v:= .ty "str") (by rfl) m_str PyProof.Rows.boot_str rfl)))) (eG (oK bO (bE8 (pv 2) (pv 1) (pv 0) ⟨rfl,rfl,rfl,rfl⟩) (pv 0)))))),?_⟩;refine⟨_,rfl,_,_,_,true,rfl,.str _,rfl,_,rfl,?_⟩;refine bH rfl ?_;have nl:S.length<=900:=hT.le hD.2 hS;refine⟨_,rfl,d,rfl,.inl ⟨_,.inl hD.1⟩,_,rfl,_,rfl,_,Sum.inr x,hD.1,rfl,aJ (by rw[ac];lia),fun v hv=>?_,fun hv=>?_⟩
 ·rw[qH] at hv
  by_cases c:x∈S
  ·rw[bb c] at hv
   cases hv
   refine⟨_,rfl,rfl,?_⟩;rw[ag rfl];exact k S _ eV.refl hD fun y=>⟨.inl,fun z=>z.elim id fun e=>e ▸ c⟩
  ·rw[au c] at hv;cases hv
 ·rw[qH] at hv
  by_cases c:x∈S
  ·rw[bb c] at hv;cases hv
  ·rw[bG8 c];refine⟨_,rfl,rfl,?_⟩;rw[ag rfl];exact k (S++[x]) _ eV.upd ⟨aC,jp.mpr ⟨hD.2,by simp,fun a ha b hb e=>c (by rw[List.mem_singleton.mp hb] at e;rw[<-e];exact ha)⟩⟩ fun y=>by simp
def bS9 (n)(C_NmT:Cl P w K mg base 1 spNmT "_law_name_told")(C_TmT:Cl P w K mg base (n+1) (aH6 n) "_law_term_told")(m_isinstance:mg "isinstance"=none)(m_tuple:mg "tuple"=none)(m_len:mg "len"=none):gG P w K mg base "_law_term_told" "_law_term_told" cC5 (n+1+1) ["_law_found","_law_term_here","_law_names_here"] (aH6 (n+1)):=by
 refine iT ["_law_found","_law_term_here","_law_names_here","_law_told_here"] fun H Q nd hr h=>?_
 obtain⟨d,S,ν,t,u,T,rfl,hD,ht,hu0,R,hn,hT,hx,hS,k⟩:=h;refine⟨_,(aF (bD (eM (PW.pt (jG (gW (fJ (iF gO m_isinstance dr (aA (pv 0) (aR (lX (v:= .ty "tuple") (by rfl) m_tuple cq rfl)))))) (jG (dZ qU (iF aV m_len ci (aR (pv 0))) (iF aV m_len ci (aR (pv 1)))) (jF (dZ qU (bQ aI (pv 0) aD) (bQ aI (pv 1) aD))))))) (aE (aO gZ)) aU)
  (aF (bD (dZ bO (bQ aI (pv 1) aD) aG) (aE (aO (bW C_NmT hr (aA (bQ aI (pv 0) aD) (aA (bQ aI (pv 1) aD) (aR (pv 2))))))) aU)
  (aF (bD (dZ bO (bQ aI (pv 1) aD) aG) (eQ 3 nd (eX (bW C_TmT hr (aA (bQ aI (pv 0) aD) (aA (bQ aI (pv 1) aD) (aR (pv 2))))) (eG (bW C_TmT hr (aA (bQ aI (pv 0) aD) (aA (bQ aI (pv 1) aD) (aR (pv 2)))))))
  (aE (aO (eX (oK bO (bQ aI (pv 0) aD) (bQ aI (pv 1) aD)) (eG (pv 3)))))) aU)
  (aE (aO (oK (pJ hr) (pv 0) (pv 1))))))),?_⟩
 have sh:=R.shape;refine⟨fun b G=>b=false/\G=H,?_,?_⟩
 ·refine⟨_,rfl,_,_,_,true,rfl,.tup hu0.at,rfl,_,rfl,aS (by decide) ?_⟩;refine⟨_,rfl,u.p,_,rfl,.inr (aQ.of hu0.at),_,rfl,t.p,_,rfl,.inr (aQ.of ht.at),rfl,_,rfl,?_⟩;refine aS (by simp[sh.2]) ?_;refine⟨_,rfl,u.p,_,_,.str u.w,rfl,rfl,aQ.of hu0.at,iY,_,rfl,t.p,_,_,.str t.w,rfl,rfl,aQ.of ht.at,iY,rfl,_,rfl,?_,rfl⟩;simp[sh.1]
 rintro b G ⟨rfl,rfl⟩;refine aS (by decide) ?_;refine⟨_,rfl,t.p,_,_,.str t.w,rfl,rfl,aQ.of ht.at,iY,rfl,_,rfl,?_⟩
 cases t with
 |nam p x =>
  obtain⟨q,rfl⟩:=R;refine bH (ag rfl) ?_;exact⟨_,rfl,q,_,_,.str (ν x),rfl,rfl,aQ.of hu0,rfl,_,rfl,p,_,_,.str x,rfl,rfl,aQ.of ht,rfl,_,rfl,d,S,ν,x,T,rfl,hD,hT,hx x ao,hS,fun S' H' b h1 h2=>k S' H' b h1 fun y=>by rw[h2 y];simp[Tm.names]⟩
 |num p j =>
  obtain⟨q,rfl⟩:=R;refine aS (fun z=>(show ¬(V.str "num"=V.str "name") by decide) (ae z)) ?_;refine⟨_,rfl,p,_,_,.str "num",rfl,rfl,aQ.of ht,rfl,rfl,_,rfl,aS (fun z=>(show ¬(V.str "num"=V.str "op") by decide) (ae z)) ?_⟩;refine⟨_,rfl,_,rfl,q,p,_,_,0,rfl,rfl,aQ.of hu0,aQ.of ht,.cons (oI _) (.cons (rA _) .nil),by decide,?_⟩;exact k S _ eV.refl hD fun y=>by simp[Tm.names]
 |op p s a b =>
  obtain⟨q,a',b',rfl,Ra,Rb⟩:=R;refine aS (fun z=>(show ¬(V.str "op"=V.str "name") by decide) (ae z)) ?_;refine⟨_,rfl,p,_,_,.str "op",rfl,rfl,aQ.of ht.1,rfl,rfl,_,rfl,bH (ag rfl) ?_⟩;have a1:=a.size_pos;have b1:=b.size_pos;simp only[Tm.size] at hn
  cases n with
  |zero=>exact absurd hn (by lia)
  |succ n =>
  refine⟨_,rfl,q,_,_,.ref a'.p,rfl,rfl,aQ.of hu0.1,rfl,_,rfl,p,_,_,.ref a.p,rfl,rfl,aQ.of ht.1,rfl,_,rfl,d,S,ν,a,a',T,rfl,hD,ht.2.1,hu0.2.1,Ra,by lia,hT,(fun y hy=>hx y (cj _ hy)),hS,fun S1 H1 b1 D1 m1=>⟨_,rfl,bH rfl ?_⟩⟩;have t1:=hD.ts b1;have ht1:=mE.ts t1 ht;have hu1:=mE.ts t1 hu0;refine⟨_,rfl,q,_,_,.ref b'.p,rfl,rfl,aQ.of hu1.1,rfl,_,rfl,p,_,_,.ref b.p,rfl,rfl,aQ.of ht1.1,rfl,_,rfl,d,S1,ν,b,b',T,rfl,D1,ht1.2.2,hu1.2.2,Rb,by lia,hT,(fun y hy=>hx y (br _ hy)),(fun y hy=>by
   rcases(m1 y).mp hy with z|z
   ·exact hS y z
   ·exact hx y (cj _ z)),fun S2 H2 b2 D2 m2=>?_⟩
  have t2:=t1.trans (D1.ts b2);have ht2:=mE.ts t2 ht;have hu2:=mE.ts t2 hu0;refine⟨_,rfl,q,_,_,.str s,rfl,rfl,aQ.of hu2.1,rfl,_,rfl,p,_,_,.str s,rfl,rfl,aQ.of ht2.1,rfl,rfl,_,rfl,bH (ag rfl) ⟨_,rfl,?_⟩⟩;exact k S2 H2 (b1.trans b2) D2 fun y=>by rw[m2 y,m1 y];simp only[Tm.names,List.mem_append,or_assoc]
def bP9 (m)(C_TmT:Cl P w K mg base 9 (aH6 8) "_law_term_told")(C_NmT:Cl P w K mg base 1 spNmT "_law_name_told")(C_RsT:Cl P w K mg base (9+2*m) (aE2 m) "_law_rows_told")(m_isinstance:mg "isinstance"=none)(m_tuple:mg "tuple"=none)(m_len:mg "len"=none):gG P w K mg base "_law_row_told" "_law_row_told" cC3 (9+2*m+1) ["_law_found","_law_row_here","_law_names_here"] (aR3 (m+1)):=by
 refine iT ["_law_found","_law_row_here","_law_names_here","_law_told_here"] fun H Q nd hr h=>?_
 obtain⟨d,S,U,ν,r,q,T,rfl,hD,hr0,hq0,R,hd,hz,hu0,hc,hT,hx,hS,k⟩:=h;refine⟨_,(aF (bD (eM (PW.pt (jG (gW (fJ (iF gO m_isinstance dr (aA (pv 0) (aR (lX (v:= .ty "tuple") (by rfl) m_tuple cq rfl)))))) (jG (dZ qU (iF aV m_len ci (aR (pv 0))) (iF aV m_len ci (aR (pv 1)))) (jF (dZ qU (bQ aI (pv 0) aD) (bQ aI (pv 1) aD))))))) (aE (aO gZ)) aU)
  (aF (bD (dZ bO (bQ aI (pv 1) aD) aG) (aE (aO (bW C_TmT hr (aA (bQ aI (pv 0) aD) (aA (bQ aI (pv 1) aD) (aR (pv 2))))))) aU)
  (aF (bD (dZ bO (bQ aI (pv 1) aD) aG) (aE (aO (eX (bW C_NmT hr (aA (bQ aI (pv 0) aD) (aA (bQ aI (pv 1) aD) (aR (pv 2))))) (eG (bW C_TmT hr (aA (bQ aI (pv 0) aD) (aA (bQ aI (pv 1) aD) (aR (pv 2))))))))) aU)
  (aF (bD (dZ bO (bQ aI (pv 1) aD) aG) (eQ 3 nd (eX (bW C_RsT hr (aA (bQ aI (pv 0) aD) (aA (bQ aI (pv 1) aD) (aR (pv 2))))) (eG (bW C_RsT hr (aA (bQ aI (pv 0) aD) (aA (bQ aI (pv 1) aD) (aR (pv 2)))))))
  (aE (aO (eX (bW C_TmT hr (aA (bQ aI (pv 0) aD) (aA (bQ aI (pv 1) aD) (aR (pv 2))))) (eG (pv 3)))))) aU)
  (aF (bD (dZ bO (bQ aI (pv 1) aD) aG) (aE (aO (eX (oK bO (bQ aI (pv 0) aD) (bQ aI (pv 1) aD)) (eG (bW C_RsT hr (aA (bQ aI (pv 0) aD) (aA (bQ aI (pv 1) aD) (aR (pv 2))))))))) aU)
  (aE (aO (eX (bW C_NmT hr (aA (bQ aI (pv 0) aD) (aA (bQ aI (pv 1) aD) (aR (pv 2))))) (eG (oK (pJ hr) (bK eJ (pv 0) (bR aD) bV) (bK eJ (pv 1) (bR aD) bV))))))))))),?_⟩
 have sh:=R.shape hu0.len;refine⟨fun b G=>b=false/\G=H,?_,?_⟩
 ·refine⟨_,rfl,_,_,_,true,rfl,.tup hq0.at,rfl,_,rfl,aS (by decide) ?_⟩;refine⟨_,rfl,q.p,_,rfl,.inr (aQ.of hq0.at),_,rfl,r.p,_,rfl,.inr (aQ.of hr0.at),rfl,_,rfl,?_⟩;refine aS (by simp[sh.2]) ?_;refine⟨_,rfl,q.p,_,_,.str q.w,rfl,rfl,aQ.of hq0.at,iY,_,rfl,r.p,_,_,.str r.w,rfl,rfl,aQ.of hr0.at,iY,rfl,_,rfl,?_,rfl⟩;simp[sh.1]
 rintro b G ⟨rfl,rfl⟩;refine aS (by decide) ?_;refine⟨_,rfl,r.p,_,_,.str r.w,rfl,rfl,aQ.of hr0.at,iY,rfl,_,rfl,?_⟩
 cases r with
 |tell p t =>
  obtain⟨p',t',rfl,Rt⟩:=R;refine bH (ag rfl) ?_;exact⟨_,rfl,p',_,_,.ref t'.p,rfl,rfl,aQ.of hq0.1,rfl,_,rfl,p,_,_,.ref t.p,rfl,rfl,aQ.of hr0.1,rfl,_,rfl,d,S,ν,t,t',T,rfl,hD,hr0.2.1,hq0.2.1,Rt,hz,hT,(fun y hy=>hx y (by simpa [eI,dD,iR,pU,Rw.sets,Rw.asked] using hy)),hS,fun S' H' b h1 h2=>k S' H' b h1 fun y=>by rw[h2 y];simp[eI,dD,iR,pU,Rw.sets,Rw.asked]⟩
 |lt p x t =>
  obtain⟨p',t',rfl,Rt⟩:=R;refine aS (fun z=>(show ¬(V.str "let"=V.str "tell") by decide) (ae z)) ⟨_,rfl,p,_,_,.str "let",rfl,rfl,aQ.of hr0.1,rfl,rfl,_,rfl,bH (ag rfl) ?_⟩;refine⟨_,rfl,p',_,_,.str (ν x),rfl,rfl,aQ.of hq0.1,rfl,_,rfl,p,_,_,.str x,rfl,rfl,aQ.of hr0.1,rfl,_,rfl,d,S,ν,x,T,rfl,hD,hT,hx x (by simp[eI,dD,iR,pU,Rw.sets,Rw.asked]),hS,fun S1 H1 b1 D1 m1=>⟨_,rfl,bH rfl ?_⟩⟩;have t1:=hD.ts b1;have hr1':=eB.ts t1 _ hr0;have hq1:=eB.ts t1 _ hq0;exact⟨_,rfl,p',_,_,.ref t'.p,rfl,rfl,aQ.of hq1.1,rfl,_,rfl,p,_,_,.ref t.p,rfl,rfl,aQ.of hr1'.1,rfl,_,rfl,d,S1,ν,t,t',T,rfl,D1,hr1'.2.1,hq1.2.1,Rt,hz,hT,(fun y hy=>hx y (by simp[eI,dD,iR,pU,Rw.sets,Rw.asked,hy])),(fun y hy=>by
   rcases(m1 y).mp hy with z|z
   ·exact hS y z
   ·exact hx y (by simp[eI,dD,iR,pU,Rw.sets,Rw.asked,z])),fun S2 H2 b2 D2 m2=>k S2 H2 (b1.trans b2) D2 fun y=>by rw[m2 y,m1 y];simp[eI,dD,iR,pU,Rw.sets,Rw.asked,or_assoc]⟩
 |when p pa pb t a b =>
  obtain⟨p',pa',pb',t',a',b',rfl,Rt,Ra,Rb⟩:=R;refine aS (fun z=>(show ¬(V.str "when"=V.str "tell") by decide) (ae z)) ⟨_,rfl,p,_,_,.str "when",rfl,rfl,aQ.of hr0.1,rfl,rfl,_,rfl,aS (fun z=>(show ¬(V.str "when"=V.str "let") by decide) (ae z)) ⟨_,rfl,p,_,_,.str "when",rfl,rfl,aQ.of hr0.1,rfl,rfl,_,rfl,bH (ag rfl) ?_⟩⟩;simp only[Rw.dp] at hd;simp only[Rw.cnt] at hc
  cases m with
  |zero=>exact absurd hd (by lia)
  |succ m =>
  have en:∀y,y∈eI [.when p pa pb t a b]↔y∈t.names\/y∈eI a\/y∈eI b:=fun y=>by rw[oE];simp only[List.mem_append,or_assoc]
  refine⟨_,rfl,p',_,_,.ref pa',rfl,rfl,aQ.of hq0.1,rfl,_,rfl,p,_,_,.ref pa,rfl,rfl,aQ.of hr0.1,rfl,_,rfl,d,S,U,ν,a,a',pa,pa',T,rfl,hD,hr0.2.2.2.1,hq0.2.2.2.1,hr0.2.2.2.2.2.1,hq0.2.2.2.2.2.1,Ra,by lia,hz.2.1,hu0,by lia,hT,(fun y hy=>hx y ((en y).mpr (.inr (.inl hy)))),hS,fun S1 H1 b1 D1 m1=>⟨_,rfl,bH rfl ?_⟩⟩;have t1:=hD.ts b1;have hr1':=eB.ts t1 _ hr0;have hq1:=eB.ts t1 _ hq0;have hS1:∀y∈S1,y∈T:=fun y hy=>by
   rcases(m1 y).mp hy with z|z
   ·exact hS y z
   ·exact hx y ((en y).mpr (.inr (.inl z)))
  refine⟨_,rfl,p',_,_,.ref pb',rfl,rfl,aQ.of hq1.1,rfl,_,rfl,p,_,_,.ref pb,rfl,rfl,aQ.of hr1'.1,rfl,_,rfl,d,S1,U,ν,b,b',pb,pb',T,rfl,D1,hr1'.2.2.2.2.1,hq1.2.2.2.2.1,hr1'.2.2.2.2.2.2,hq1.2.2.2.2.2.2,Rb,by lia,hz.2.2,(hu0.ts t1),by lia,hT,(fun y hy=>hx y ((en y).mpr (.inr (.inr hy)))),hS1,fun S2 H2 b2 D2 m2=>?_⟩;have t2:=t1.trans (D1.ts b2);have hr2:=eB.ts t2 _ hr0;have hq2:=eB.ts t2 _ hq0;refine⟨_,rfl,p',_,_,.ref t'.p,rfl,rfl,aQ.of hq2.1,rfl,_,rfl,p,_,_,.ref t.p,rfl,rfl,aQ.of hr2.1,rfl,_,rfl,d,S2,ν,t,t',T,rfl,D2,hr2.2.1,hq2.2.1,Rt,hz.1,hT,(fun y hy=>hx y ((en y).mpr (.inl hy))),(fun y hy=>by
   rcases(m2 y).mp hy with z|z
   ·exact hS1 y z
   ·exact hx y ((en y).mpr (.inr (.inr z)))),fun S3 H3 b3 D3 m3=>⟨_,rfl,bH rfl ⟨_,rfl,?_⟩⟩⟩
  refine k S3 H3 ((b1.trans b2).trans b3) D3 fun y=>?_
  rw[m3 y,m2 y,m1 y,en y]
  constructor
  ·rintro(((z|z)|z)|z)
   ·exact .inl z
   ·exact .inr (.inr (.inl z))
   ·exact .inr (.inr (.inr z))
   ·exact .inr (.inl z)
  ·rintro(z|z|z|z)
   ·exact .inl (.inl (.inl z))
   ·exact .inr z
   ·exact .inl (.inl (.inr z))
   ·exact .inl (.inr z)
 |times p pb j b =>
  obtain⟨p',pb',b',rfl,Rb⟩:=R;refine aS (fun z=>(show ¬(V.str "times"=V.str "tell") by decide) (ae z)) ⟨_,rfl,p,_,_,.str "times",rfl,rfl,aQ.of hr0.1,rfl,rfl,_,rfl,aS (fun z=>(show ¬(V.str "times"=V.str "let") by decide) (ae z)) ⟨_,rfl,p,_,_,.str "times",rfl,rfl,aQ.of hr0.1,rfl,rfl,_,rfl,aS (fun z=>(show ¬(V.str "times"=V.str "when") by decide) (ae z)) ⟨_,rfl,p,_,_,.str "times",rfl,rfl,aQ.of hr0.1,rfl,rfl,_,rfl,bH (ag rfl) ?_⟩⟩⟩;simp only[Rw.dp] at hd;simp only[Rw.cnt] at hc
  cases m with
  |zero=>exact absurd hd (by lia)
  |succ m =>
  refine⟨_,rfl,p',_,_,.int j,rfl,rfl,aQ.of hq0.1,rfl,_,rfl,p,_,_,.int j,rfl,rfl,aQ.of hr0.1,rfl,rfl,_,rfl,bH (ag rfl) ?_⟩;exact⟨_,rfl,p',_,_,.ref pb',rfl,rfl,aQ.of hq0.1,rfl,_,rfl,p,_,_,.ref pb,rfl,rfl,aQ.of hr0.1,rfl,_,rfl,d,S,U,ν,b,b',pb,pb',T,rfl,hD,hr0.2.1,hq0.2.1,hr0.2.2,hq0.2.2,Rb,by lia,hz,hu0,by lia,hT,(fun y hy=>hx y (by rw[jJ];exact hy)),hS,fun S1 H1 b1 D1 m1=>k S1 H1 b1 D1 fun y=>by rw[m1 y,jJ]⟩
 |thr p w x us am =>
  obtain⟨p',us',rfl,uu⟩:=R;have hw:=hr0.2.w;have ul:=qG hr0.2;refine aS (fun z=>absurd hw (by have z:=ae z;injection z with z;rw[show w="tell" from z];decide)) ⟨_,rfl,p,_,_,.str w,rfl,rfl,aQ.of hr0.1,iY,rfl,_,rfl,?_⟩;refine aS (fun z=>absurd hw (by have z:=ae z;injection z with z;rw[show w="let" from z];decide)) ⟨_,rfl,p,_,_,.str w,rfl,rfl,aQ.of hr0.1,iY,rfl,_,rfl,?_⟩;refine aS (fun z=>absurd hw (by have z:=ae z;injection z with z;rw[show w="when" from z];decide)) ⟨_,rfl,p,_,_,.str w,rfl,rfl,aQ.of hr0.1,iY,rfl,_,rfl,?_⟩;refine aS (fun z=>absurd hw (by have z:=ae z;injection z with z;rw[show w="times" from z];decide)) ?_;refine⟨_,rfl,p',_,_,.str (ν x),rfl,rfl,aQ.of hq0.1,at1,_,rfl,p,_,_,.str x,rfl,rfl,aQ.of hr0.1,at1,_,rfl,d,S,ν,x,T,rfl,hD,hT,hx x (by simp[eI,dD,iR,pU,Rw.sets,Rw.asked]),hS,fun S1 H1 b1 D1 m1=>⟨_,rfl,bH rfl ?_⟩⟩
  have t1:=hD.ts b1;have hr1':=eB.ts t1 _ hr0;have hq1:=eB.ts t1 _ hq0;refine⟨_,rfl,_,rfl,p',_,rfl,aQ.of hq1.1,aJ4,fun c2 hc2=>?_⟩;rw[aI9];obtain⟨H2,e0,s2,g2⟩:=mZ hc2 (.tup us');rw[e0];clear e0;refine⟨_,rfl,_,rfl,p,_,rfl,aQ.of (s2 _ _ hr1'.1),aJ4,fun c3 hc3=>?_⟩;rw[aI9];have s3:=aB hc3 (.tup us);refine⟨c2,c3,us',us,3,rfl,rfl,aQ.of (s3 _ _ g2),aQ.of aC,(hu0.ts (t1.trans (.of (s2.trans s3)))) _ _ _ uu,by decide,?_⟩;exact k S1 _ (b1.trans (eV.of (s2.trans s3))) (D1.bar (s2.trans s3)) fun y=>by rw[m1 y];simp[eI,dD,iR,pU,Rw.sets,Rw.asked]
def bQ0 (m)(C_RwT:Cl P w K mg base (10+2*m) (aR3 (m+1)) "_law_row_told")(m_all:mg "all"=none)(m_isinstance:mg "isinstance"=none)(m_tuple:mg "tuple"=none)(m_len:mg "len"=none)(m_zip:mg "zip"=none):gG P w K mg base "_law_rows_told" "_law_rows_told" cE4 (10+2*m+1) ["_law_found","_law_rows_here","_law_names_here"] (aE2 (m+1)):=by
 refine iT ["_law_found","_law_rows_here","_law_names_here"] fun H Q nd hr h=>?_
 obtain⟨d,S,U,ν,rs,qs,p,q,T,rfl,hD,hp,hq,hr0,hq0,R,hd,hz,hu0,hc,hT,hx,hS,k⟩:=h;refine⟨_,(aF (bD (eM (PW.pt (jG (gW (fJ (iF gO m_isinstance dr (aA (pv 0) (aR (lX (v:= .ty "tuple") (by rfl) m_tuple cq rfl)))))) (jF (dZ qU (iF aV m_len ci (aR (pv 0))) (iF aV m_len ci (aR (pv 1)))))))) (aE (aO gZ)) aU)
  (aE (aO (iF nO m_all mh (aR (cY ["_law_one","_law_row_here","_law_names_here"] [none,none,some 2] (bO8 (by rfl) m_zip (aA (pv 0) (aR (pv 1)))) (fun _ _ _ _=>(bU1 K (n:=2) rfl (bG (fK 0) (bG (fK 1) fO)))) (fun _ _ _ _=>eE) (fun _ _ _ _=>(bW C_RwT hr (aA (pv 0) (aA (pv 1) (aR (pv 2)))))))))))),?_⟩
 have ql:=R.length;have rl:=gE rs;have hne:∀{G:Hp},eV d H G->TS H G:=fun b=>hD.ts b
 refine⟨fun b G=>b=false/\G=H,?_,?_⟩
 ·refine⟨_,rfl,_,_,_,true,rfl,.tup hq,rfl,_,rfl,aS (by decide) ?_⟩;refine⟨_,rfl,q,_,rfl,.inr (aQ.of hq),_,rfl,p,_,rfl,.inr (aQ.of hp),rfl,_,rfl,?_,rfl⟩;simp[bB,ql]
 rintro b G ⟨rfl,rfl⟩;refine aS (by decide) ?_;refine⟨_,rfl,_,rfl,q,p,rfl,⟨_,aQ.of hq⟩,⟨_,aQ.of hp⟩,aT5 (K:=K) (a:=q) (b:=p) (xs:=bN qs) (ys:=bN rs) (fun i zs σ G'=>∃(S':List Str) (v0 v1:Option V),σ=[v0,v1,some (.ref d)]/\zs=(List.replicate i true).map V.bl/\eV d G G'/\zJ G' d S' ν/\∀y,y∈S'↔y∈S\/y∈eI (rs.take i))
  (aJ (by rw[bB];lia)) (by rw[bB,bB,ql]) ⟨S,_,_,rfl,rfl,eV.refl,hD,fun y=>by simp[eI,dD]⟩ (by rintro i zs σ G' ⟨_,_,_,_,e,_⟩;rw[e,ac,ma];exact aj _) (by rintro i zs σ G' _ ⟨_,_,_,_,_,b,_⟩;exact⟨aQ.of (hne b _ _ hq),aQ.of (hne b _ _ hp)⟩) ?_ ?_⟩
 ·rintro i x y zs σ G' t hxi hyi ⟨S',v0,v1,rfl,rfl,b1,D1,m1⟩ ht;obtain⟨r',hr',rfl⟩:=mR hyi;obtain⟨q',hq',Rr⟩:=R.at hr';obtain⟨q2,hq2,rfl⟩:=mR hxi;rw[hq'] at hq2
  cases hq2
  have hm:=bg hr';have hmq:=bg hq';obtain⟨G2,e0,st,gt⟩:=mZ ht (.tup [.ref q'.p,.ref r'.p]);rw[e0];clear e0;have b2:=b1.trans (eV.of st);have t2:=hne b2;have cr:r'.cnt<=bP rs:=by
   have h:=ej List.length (show dD rs=dD rs from rfl);rw[<-eN, <-aH4];have:dD rs=dD (rs.take i)++(iR r'++dD (rs.drop (i+1))):=by
    rw[<-kj, <-(show dD (rs.take (i+1))=dD (rs.take i)++iR r' from by rw[bE hr',gM];simp[dD]), <-gM,jx]
   rw[this,ah,ah];lia
  refine⟨t,_,rfl,aQ.of gt,rfl,_,_,rfl,_,_,rfl,rfl,?_⟩;refine⟨_,rfl,_,rfl,_,rfl,d,S',U,ν,r',q',T,rfl,D1.bar st,aW.mem (aW.ts t2 rs hr0) r' hm,aW.mem (aW.ts t2 qs hq0) q' hmq,Rr,cm (xF hm) hd,iZ.mem hz hm,(hu0.ts t2),by lia,hT,(fun y hy=>hx y (bD6 hm y hy)),(fun y hy=>by
   rcases(m1 y).mp hy with z|z
   ·exact hS y z
   ·unfold eI at z;obtain⟨a,ha,hy⟩:=jf.mp z;refine hx y (jf.mpr ⟨a,?_,hy⟩);have:dD rs=dD (rs.take i)++dD (rs.drop i):=by rw[<-gM,jx]
    rw[this];exact cj _ ha),fun S2 H2 b3 D2 m2=>?_⟩
  refine⟨S2,_,_,rfl,by rw[List.replicate_succ',av];rfl,b2.trans b3,D2,fun y=>?_⟩;rw[m2 y,m1 y,bE hr',wH,bq,or_assoc]
 ·rintro zs σ G' ⟨S',v0,v1,rfl,rfl,b1,D1,m1⟩ l hl;refine⟨l,List.replicate (bN qs).length true,rfl,bJ.of aC,?_⟩;have er:(List.replicate (bN qs).length true).all id=true:=by simp
  rw[er];refine k S' _ (b1.trans (eV.of (aB hl _))) (D1.bar (aB hl _)) fun y=>?_
  rw[m1 y,bB,ql,cg]
def bU6 (C_Flt46:Cl P w K mg base 5 (aE4 4) "_law_flat")(C_LIN:Cl P w K mg base 1 spIsNm "_law_is_name")(m_len:mg "len"=none)(m_list:mg "list"=none)(m_set:mg "set"=none)(m_int:mg "int"=none):gG P w K mg base "_law_names_right" "_law_names_right" cA3 6 ["_law_names_here","_law_one","_law_other"] spNmR:=by
 refine iT ["_law_names_here","_law_one","_law_other","_law_ahead","_law_there","_law_told_here","_law_taken","_law_x","_law_free"] fun H Q nd hr h=>?_
 obtain⟨d,p,q,S,ν,K1,K2,rs1,rs2,m1,m2,rfl,hD,P1,P2,nu,hS,k⟩:=h;have hu:=gQ hr;have hr1:dL 1 _:=hr.mono (by decide);refine⟨_,(aF (lZ ["_law_row_here"] [none] (i:=3) nd rfl (fi rfl) (dE (bW C_Flt46 hr (aR (bQ aI (pv 1) aD)))) (fun _ _ _ _=>(fK 0)) (fun _ _ _ _=>(lN (dZ (cF6 K) (bQ (pT K) (pv 0) aD) (aY (aA aG (aA aG (aR aG))))))) (fun _ _ _ _=>(bQ (pT K) (pv 0) aD)))
  (aF (lZ ["_law_row_here"] [none] (i:=4) nd rfl (fi rfl) (dE (bW C_Flt46 hr (aR (bQ aI (pv 2) aD)))) (fun _ _ _ _=>(fK 0)) (fun _ _ _ _=>(lN (dZ (cF6 K) (bQ (pT K) (pv 0) aD) (aY (aA aG (aA aG (aR aG))))))) (fun _ _ _ _=>(bQ (pT K) (pv 0) aD)))
  (aF (lZ ["_law_x","_law_names_here"] [none,some 0] (i:=5) nd rfl (fi rfl) (wA (pv 0)) (fun _ _ _ _=>(fK 0)) (fun _ _ _ _=>eE) (fun _ _ _ _=>(xJ hu (pv 1) (pv 0))))
  (aF (bD (dZ kU (iF (aM3 P w) m_len ci (aR (oR (aL1 P w hr1) m_set mf (aR (pv 5))))) (iF aV m_len ci (aR (pv 5)))) (aE (aO gZ)) aU)
  (eQ 6 nd (aP fR (aP fR (aP fR (pv 3) (pv 4)) (oR hZ m_list ib (aR (bQ aI (pv 1) aD)))) (oR hZ m_list ib (aR (bQ aI (pv 2) aD))))
  (aF (pfr (aU0 (pv 0)) (fK 7 nd)
  (eQ 8 nd (eX (oK hV (xJ hu (pv 0) (pv 7)) (pv 6)) (eG (bW C_LIN hr (aR (xJ hu (pv 0) (pv 7))))))
  (aE (bD (dZ aG9 (bQ fP (cC (aA (oK bO (xJ hu (pv 0) (pv 7)) (pv 7)) (aR (pv 8)))) (oR lW m_int mi (aR (oK dN (pv 7) (pv 3))))) gZ) (aE (aO gZ)) aU))))
  (aE (aO gZ)))))))),?_⟩
 obtain⟨pk,pr,hp,hpk,hpr⟩:=P1.ex;obtain⟨qk,qr,hq,hqk,hqr⟩:=P2.ex;have c1:=P1.cnt;have c2:=P2.cnt;have m41:=P1.m4;have m42:=P2.m4;have kk1:=P1.k3;have kk2:=P2.k3;have Sl:S.length<=27:=by have:=P2.few.le hD.2 fun y hy=>(hS y).mp hy;lia
 have inj:∀x∈S,∀y∈S,ν x=ν y->x=y:=fun x hx y hy e=>nu.inj ((hS x).mp hx) ((hS y).mp hy) e
 refine⟨_,rfl,p,_,_,.ref pr,rfl,rfl,aQ.of hp,rfl,pr,rs1,rfl,hpr,P1.rows,cm P1.dp (by decide),by lia,fun l1 H1 s1 h1=>⟨l1,rfl,⟨_,bJ.of h1⟩,dJ (K:=K) (a:=l1) (xs:=bN (dD rs1)) (fun i ys σ G=>bA H1 G/\(∃v,σ=[v])/\ys=(((dD rs1).take i).filterMap Rw.sets).map V.str)
  (aJ (by rw[bB,eN];lia)) ⟨bA.refl _,⟨_,rfl⟩,rfl⟩ (fun i ys σ G ⟨_,_,e⟩=>by
   rw[e,ac];exact cm (gi _ _) (by rw[bx];lia)) (by rintro i ys σ G _ ⟨e,_⟩;exact bJ.of (e _ _ h1)) ?_ ?_⟩⟩
 ·rintro i v ys σ G hv ⟨sG,⟨v',rfl⟩,rfl⟩;obtain⟨r,hr0,rfl⟩:=mR hv;have hR:=(kA (aW.ts (.of s1) _ P1.rows) r (bg hr0)).ts (.of sG);refine⟨_,rfl,r.p,_,_,.str r.w,rfl,rfl,aQ.of hR.at,iY,by show 3<=sizeLine;decide,fun t ht=>?_⟩;have st:=aB ht (.tup [.str "tell",.str "when",.str "times"]);refine⟨t,_,rfl,.inr (aQ.of aC),rfl,by decide,_,rfl,?_⟩;have ew:=bM3 hR;rw[bE hr0,du,av]
  cases e:r.sets with
  |none =>
   rw[e] at ew;refine aS (by rw[ew];decide) ⟨sG.trans st,⟨_,rfl⟩,?_⟩;rw[iq e];simp
  |some x =>
   rw[e] at ew;obtain⟨us,hqp⟩:=qI (eB.ts (.of st) _ hR) e;refine bH (by rw[ew];rfl) ⟨_,rfl,r.p,_,_,.str x,rfl,rfl,aQ.of hqp,at1,sG.trans st,⟨_,rfl⟩,?_⟩;rw[vh e];rfl
 rintro ys σ G ⟨sG,_,rfl⟩ a1 ha1;rw[bB,cg];have sA:=s1.trans (sG.trans (aB ha1 (.lst ((eF rs1).map V.str))));have gA:aN G a1 (.lst ((eF rs1).map V.str)) a1=some (.lst ((eF rs1).map V.str)):=aC
 change (fun x H=>_) _ (aN G a1 (.lst ((eF rs1).map V.str)))
 generalize aN G a1 (.lst ((eF rs1).map V.str))=GA at sA gA ⊢;clear sG s1 h1 ha1;refine⟨_,rfl,q,_,_,.ref qr,rfl,rfl,aQ.of (sA _ _ hq),rfl,qr,rs2,rfl,sA _ _ hqr,aW.ts (.of sA) _ P2.rows,cm P2.dp (by decide),by lia,fun l4 H4 s4' h4=>?_⟩;have s4:=sA.trans s4';have gA4:=s4' _ _ gA;refine⟨l4,rfl,⟨_,bJ.of h4⟩,dJ (K:=K) (a:=l4) (xs:=bN (dD rs2)) (fun i ys σ G=>bA H4 G/\(∃v,σ=[v])/\ys=(((dD rs2).take i).filterMap Rw.sets).map V.str)
  (aJ (by rw[bB,eN];lia)) ⟨bA.refl _,⟨_,rfl⟩,rfl⟩ (fun i ys σ G ⟨_,_,e⟩=>by
   rw[e,ac];exact cm (gi _ _) (by rw[bx];lia)) (by rintro i ys σ G _ ⟨e,_⟩;exact bJ.of (e _ _ h4)) ?_ ?_⟩
 ·rintro i v ys σ G hv ⟨sG,⟨v',rfl⟩,rfl⟩;obtain⟨r,hr0,rfl⟩:=mR hv;have hR:=(kA (aW.ts (.of s4) _ P2.rows) r (bg hr0)).ts (.of sG);refine⟨_,rfl,r.p,_,_,.str r.w,rfl,rfl,aQ.of hR.at,iY,by show 3<=sizeLine;decide,fun t ht=>?_⟩;have st:=aB ht (.tup [.str "tell",.str "when",.str "times"]);refine⟨t,_,rfl,.inr (aQ.of aC),rfl,by decide,_,rfl,?_⟩;have ew:=bM3 hR;rw[bE hr0,du,av]
  cases e:r.sets with
  |none =>
   rw[e] at ew;refine aS (by rw[ew];decide) ⟨sG.trans st,⟨_,rfl⟩,?_⟩;rw[iq e];simp
  |some x =>
   rw[e] at ew;obtain⟨us,hqp⟩:=qI (eB.ts (.of st) _ hR) e;refine bH (by rw[ew];rfl) ⟨_,rfl,r.p,_,_,.str x,rfl,rfl,aQ.of hqp,at1,sG.trans st,⟨_,rfl⟩,?_⟩;rw[vh e];rfl
 rintro ys σ G ⟨sG,_,rfl⟩ a4 ha4;rw[bB,cg];have sB:=s4.trans (sG.trans (aB ha4 (.lst ((eF rs2).map V.str))));have gB:aN G a4 (.lst ((eF rs2).map V.str)) a4=some (.lst ((eF rs2).map V.str)):=aC;have gA5:=(sG.trans (aB ha4 (.lst ((eF rs2).map V.str)))) _ _ gA4
 change (fun x H=>_) _ (aN G a4 (.lst ((eF rs2).map V.str)))
 generalize aN G a4 (.lst ((eF rs2).map V.str))=GB at sB gB gA5 ⊢;clear sG s4 s4' h4 ha4 gA gA4 sA;have d1:d≠a1:=fun z=>by have:=sB _ _ hD.1;rw[z,gA5] at this;cases this
 have d4:d≠a4:=fun z=>by have:=sB _ _ hD.1;rw[z,gB] at this;cases this
 refine⟨_,rfl,d,_,rfl,sB _ _ hD.1,fun o=>uE (d:=d) (o:=o) (kvs:=S.map fun x=>((Sum.inr x:Key),V.str (ν x))) (fun i zs σ G=>G=aN GB d (.frz o (.dK (S.map fun x=>((Sum.inr x:Key),V.str (ν x)))))/\(∃v,σ=[v,some (.ref d)])/\zs=((S.take i).map ν).map V.str)
  (aJ (by rw[ac];lia)) ⟨rfl,⟨_,rfl⟩,rfl⟩ (by rintro i ys σ G ⟨_,_,e⟩;rw[e,ac,ac,bx];lia) (by rintro i ys σ G _ ⟨e,_⟩;rw[e];exact aC) ?_ ?_⟩
 ·rintro i ky v ys σ G hv ⟨rfl,⟨v',rfl⟩,rfl⟩;obtain⟨x,hx,rfl⟩:=aT7 hv;have F:NmF (aN GB d (.frz o (.dK (S.map fun x=>((Sum.inr x:Key),V.str (ν x)))))) d o S ν:=aC;refine⟨_,rfl,_,rfl,d,_,rfl,F.get (bg hx),rfl,⟨_,rfl⟩,?_⟩;rw[bE hx,av,av];rfl
 rintro zs σ G ⟨rfl,_,rfl⟩ a5 ha5;rw[ac,cg];have bC:eV d GB (aN GB d (.frz o (.dK (S.map fun x=>((Sum.inr x:Key),V.str (ν x)))))):=eV.upd;have F:NmF (aN GB d (.frz o (.dK (S.map fun x=>((Sum.inr x:Key),V.str (ν x)))))) d o S ν:=aC;generalize aN GB d (.frz o (.dK (S.map fun x=>((Sum.inr x:Key),V.str (ν x)))))=GC at bC F ha5 ⊢;have s5:=aB ha5 (.lst ((S.map ν).map V.str));have g5:aN GC a5 (.lst ((S.map ν).map V.str)) a5=some (.lst ((S.map ν).map V.str)):=aC;have F5:NmF (aN GC a5 (.lst ((S.map ν).map V.str))) d o S ν:=s5 _ _ F;have b5:=bC.trans (eV.of s5)
 change (fun x H=>_) _ (aN GC a5 (.lst ((S.map ν).map V.str)))
 generalize aN GC a5 (.lst ((S.map ν).map V.str))=G5 at g5 F5 b5 ⊢;clear s5 F bC ha5;have ndm:=pQ hD.2 inj;refine⟨_,rfl,a5,S.map ν,rfl,bJ.of g5,fun ds hds hj=>by have:=aS9 hds hj;rw[aY3,ac] at this;lia,fun a6 ha6=>⟨a6,_,rfl,aC,?_⟩⟩;have s6:=aB ha6 (rS P w a6 (S.map ν));have b6:=b5.trans (eV.of s6);have F6:NmF (aN G5 a6 (rS P w a6 (S.map ν))) d o S ν:=s6 _ _ F5;have g56:=s6 _ _ g5;generalize aN G5 a6 (rS P w a6 (S.map ν))=G6 at b6 F6 g56 ⊢;refine⟨_,rfl,a5,_,rfl,.inl (bJ.of g56),_,_,rfl,rfl,_,rfl,aS (by rw[cD8 ndm,ac];simp) ?_⟩;have tD:∀{G:Hp},eV d GB G->eV d H G:=fun b=>(eV.of sB).trans b
 have tS:TS H G6:=hD.ts (tD b6);have lA:(eF rs1).length<=300:=by unfold eF;have:=gi Rw.sets (dD rs1);rw[eN] at this;lia
 have lB:(eF rs2).length<=300:=by unfold eF;have:=gi Rw.sets (dD rs2);rw[eN] at this;lia
 refine⟨_,rfl,_,rfl,a1,a4,_,_,rfl,rfl,b6 _ _ gA5 d1.symm,b6 _ _ gB d4.symm,bp (aJ (by rw[ac,ac];lia)),fun a7 ha7=>?_⟩;rw[<-av];obtain⟨G7,e0,s7,g7⟩:=mZ ha7 (.lst ((eF rs1++eF rs2).map V.str));rw[e0];clear e0;refine⟨_,rfl,p,_,_,.ref pk,rfl,rfl,aQ.of ((tS.trans (.of s7)) _ _ hp),rfl,pk,_,rfl,.inr (aQ.of ((tS.trans (.of s7)) _ _ hpk)),fun a8 ha8=>?_⟩;have s8:=aB ha8 (.lst (K1.map V.str));have g8:aN G7 a8 (.lst (K1.map V.str)) a8=some (.lst (K1.map V.str)):=aC;have g78:=s8 _ _ g7;generalize aN G7 a8 (.lst (K1.map V.str))=G8 at s8 g8 g78 ⊢;refine⟨a7,a8,_,_,rfl,rfl,g78,g8,bp (aJ (by rw[ac,ac,ah];lia)),fun a9 ha9=>?_⟩;rw[<-av];have s9:=aB ha9 (.lst ((eF rs1++eF rs2++K1).map V.str));have g9:aN G8 a9 (.lst ((eF rs1++eF rs2++K1).map V.str)) a9=some (.lst ((eF rs1++eF rs2++K1).map V.str)):=aC
 have s79:=s7.trans (s8.trans s9);generalize aN G8 a9 (.lst ((eF rs1++eF rs2++K1).map V.str))=G9 at s9 g9 s79 ⊢;refine⟨_,rfl,q,_,_,.ref qk,rfl,rfl,aQ.of ((tS.trans (.of s79)) _ _ hq),rfl,qk,_,rfl,.inr (aQ.of ((tS.trans (.of s79)) _ _ hqk)),fun a10 ha10=>?_⟩;have s10:=aB ha10 (.lst (K2.map V.str));have g10:aN G9 a10 (.lst (K2.map V.str)) a10=some (.lst (K2.map V.str)):=aC;have g910:=s10 _ _ g9;generalize aN G9 a10 (.lst (K2.map V.str))=G10 at s10 g10 g910 ⊢;refine⟨a9,a10,_,_,rfl,rfl,g910,g10,bp (aJ (by rw[ac,ac,ah,ah];lia)),fun a11 ha11=>?_⟩;rw[<-av];have s11:=aB ha11 (.lst ((eF rs1++eF rs2++K1++K2).map V.str));have g11:aN G10 a11 (.lst ((eF rs1++eF rs2++K1++K2).map V.str)) a11=some (.lst ((eF rs1++eF rs2++K1++K2).map V.str)):=aC;have s611:=s79.trans (s10.trans s11);generalize aN G10 a11 (.lst ((eF rs1++eF rs2++K1++K2).map V.str))=G11 at g11 s611 ⊢
 have F11:NmF G11 d o S ν:=s611 _ _ F6;have b11:=b6.trans (eV.of s611);have gA11:=s611 _ _ (b6 _ _ gA5 d1.symm);have b12:eV d H G11:=tD b11;clear s7 s8 s9 s79 s10 s11 s611 g7 g78 g8 g9 g910 g10 ha7 ha8 ha9 ha10 ha11 b11 b6 F6 F5 b5 tD tS ha6 s6;refine⟨_,rfl,d,o,_,rfl,F11,vC (d:=d) (o:=o) (kvs:=S.map fun x=>((Sum.inr x:Key),V.str (ν x))) (fun i σ G=>∃v7 v8,σ=[some (.ref d),some (.ref p),some (.ref q),some (.ref a1),some (.ref a4),some (.ref a5),some (.ref a11),v7,v8]/\bA G11 G)
  ⟨_,_,rfl,bA.refl _⟩ (by rintro i σ G _ ⟨_,_,_,s⟩;exact s _ _ F11) ?_ ?_⟩
 ·rintro D' i ky v σ G hv ⟨v7,v8,rfl,sG⟩;obtain⟨x,hx,rfl⟩:=aT7 hv;have hxS:=bg hx;have x2:x∈eI rs2:=(hS x).mp hxS;have F:NmF G d o S ν:=sG _ _ F11;have en:lV (V.str (ν x)) ((eF rs1++eF rs2++K1++K2).map V.str)=decide (ν x∈eF rs1++eF rs2++K1++K2):=dS _ _;have ea:lV (V.str x) ((eF rs1).map V.str)=decide (x∈eF rs1):=dS _ _;refine⟨_,rfl,_,rfl,d,_,rfl,F.get hxS,_,rfl,a11,_,rfl,.inl (bJ.of (sG _ _ g11)),rfl,cA _,_,rfl,?_⟩
  by_cases c:x∈eI rs1
  ·obtain⟨n1,n2⟩:=nu.new x2 c;have n3:ν x∉eF rs1++eF rs2++K1++K2:=fun z=>n1 (by
    simp only[List.mem_append] at z ⊢;rcases z with((z|z)|z)|z
    ·exact .inl (.inr ((P1.stn _).mp z))
    ·exact .inr ((P2.stn _).mp z)
    ·exact .inl (.inl (.inl z))
    ·exact .inl (.inl (.inr z)))
   refine bH (by rw[en,ba n3];rfl) ?_;have nl:(ν x).length<=1000:=by
    unfold kI at n2;have n2:=(Bool.and_eq_true_iff.mp n2).1;have n2:=ae n2;lia
   refine⟨_,rfl,_,rfl,d,_,rfl,F.get hxS,ν x,rfl,nl,fun G2 s2=>?_⟩;rw[n2];have F2:NmF G2 d o S ν:=s2 _ _ F;refine⟨_,rfl,_,rfl,d,_,rfl,F2.get hxS,_,rfl,rfl,_,rfl,eW,fun l3 hl3=>?_⟩;have s3:=aB hl3 (.lst [.bl (decide (V.str (ν x)=V.str x)),.bl true]);refine⟨_,rfl,_,rfl,a1,_,rfl,.inl (bJ.of (s3 _ _ (s2 _ _ (sG _ _ gA11)))),rfl,cA _,.inr ⟨_,rfl,l3,_,_,.bl true,rfl,rfl,bJ.of aC,?_,true,true,rfl,rfl,_,rfl,aS (by decide) ⟨_,_,rfl,sG.trans (s2.trans s3)⟩⟩⟩;show nE [V.bl (decide (V.str (ν x)=V.str x)),V.bl true] (if lV (V.str x) ((eF rs1).map V.str)=true then 1 else 0)=some (V.bl true);rw[bb (by rw[ea];exact ag ((P1.stn x).mpr c))];rfl
  ·have n1:=nu.old (fun z=>c z.2);have c1:¬x∈eF rs1:=fun z=>c ((P1.stn x).mp z)
   have e1:decide (V.str (ν x)=V.str x)=true:=ag (by rw[n1])
   by_cases c3:ν x∈eF rs1++eF rs2++K1++K2
   ·refine aS (by rw[en,ag c3];decide) ?_;refine⟨_,rfl,_,rfl,d,_,rfl,F.get hxS,_,rfl,rfl,_,rfl,eW,fun l3 hl3=>?_⟩;have s3:=aB hl3 (.lst [.bl (decide (V.str (ν x)=V.str x)),.bl false]);refine⟨_,rfl,_,rfl,a1,_,rfl,.inl (bJ.of (s3 _ _ (sG _ _ gA11))),rfl,cA _,.inr ⟨_,rfl,l3,_,_,.bl true,rfl,rfl,bJ.of aC,?_,true,true,rfl,rfl,_,rfl,aS (by decide) ⟨_,_,rfl,sG.trans s3⟩⟩⟩;show nE [V.bl (decide (V.str (ν x)=V.str x)),V.bl false] (if lV (V.str x) ((eF rs1).map V.str)=true then 1 else 0)=some (V.bl true);rw[au (by rw[ea,ba c1];decide),e1];rfl
   ·exact absurd (by rw[n1];simp only[List.mem_append];exact .inl (.inl (.inr ((P2.stn x).mpr x2)))) c3
 ·rintro σ G ⟨v7,v8,rfl,sG⟩;exact k G (b12.trans (eV.of sG))
def bV2 (m_all:mg "all"=none)(m_len:mg "len"=none):gG P w K mg base "_law_is_name" "_law_is_name" cE1 1 ["_law_text"] spIsNm:=by
 refine iT ["_law_text","_law_kept"] fun H Q nd hr h=>?_
 obtain⟨z,rfl,hl,k⟩:=h;refine⟨_,(@aF _ _ _ _ _ (@gJ _ _ 1 _ _ _ _ nd rfl (fi rfl) (@aY _ _ _ _ _ (@aA _ _ _ _ _ aG (@aA _ _ _ _ _ aG (@aA _ _ _ _ _ aG (@aA _ _ _ _ _ aG (@aA _ _ _ _ _ aG (@aA _ _ _ _ _ aG (@aA _ _ _ _ _ aG (@aA _ _ _ _ _ aG (@aA _ _ _ _ _ aG (@aA _ _ _ _ _ aG (@aA _ _ _ _ _ aG (@aA _ _ _ _ _ aG cJ rfl) rfl) rfl) rfl) rfl) rfl) rfl) rfl) rfl) rfl) rfl) rfl)) rfl (fi rfl))
  (@aF _ _ _ _ _ (bD (PW.pt (jG (gW (eM (rR kU kU aD (iF gF m_len ci (aR (pv 0))) aD))) (jF (dZ dN (pv 0) (pv 1))))) (aE (aO gZ)) aU)
  (@aE _ _ _ (aO (iF nO m_all mh (aR (cY ["_law_sign"] [none] (aR4 (pv 0)) (fun _ _ _ _=>(fK 0)) (fun _ _ _ _=>eE) (fun _ _ _ _=>(oK uY (pv 0) aG))))))))),?_⟩
 refine⟨by show 12<=sizeLine;decide,fun t ht=>?_⟩;have s0:=aB ht (.tup [.str "kinds",.str "ladder",.str "flat",.str "choose",.str "first",.str "let",.str "tell",.str "when",.str "else",.str "times",.str "end",.str "of"]);have h0:aN H t (.tup [.str "kinds",.str "ladder",.str "flat",.str "choose",.str "first",.str "let",.str "tell",.str "when",.str "else",.str "times",.str "end",.str "of"]) t=some (.tup (fV.map V.str)):=aC;generalize aN H t (.tup [.str "kinds",.str "ladder",.str "flat",.str "choose",.str "first",.str "let",.str "tell",.str "when",.str "else",.str "times",.str "end",.str "of"])=H1 at s0 h0 ⊢;have hz:z.length<=sizeLine:=bp (aJ hl);refine⟨fun b G=>G=H1/\b=decide (1<=z.length/\z.length<=8),?_,?_⟩
 ·refine⟨_,rfl,_,rfl,hz,_,_,rfl,rfl,_,rfl,?_⟩
  by_cases h1:1<=z.length
  ·refine bH (ag (by lia)) ⟨_,_,rfl,rfl,_,rfl,rfl,?_⟩
   by_cases h2:z.length<=8
   ·rw[ag (show(z.length:Int)<9 by lia),ag ⟨h1,h2⟩]
   ·rw[ba (show ¬(z.length:Int)<9 by lia),ba (fun q=>h2 q.2)]
  ·exact aS (fun q=>h1 (by have:=ae q;lia)) ⟨_,rfl,rfl,(ba (fun q=>h1 q.1)).symm⟩
 rintro b G ⟨rfl,rfl⟩
 by_cases c:1<=z.length/\z.length<=8
 ·rw[ag c];refine aS (by decide) ?_;have ei:lV (V.str z) (fV.map V.str)=decide (z∈fV):=dS _ _;refine⟨_,rfl,_,rfl,t,_,rfl,.inr (aQ.of h0),rfl,cA _,_,rfl,?_⟩
  by_cases c2:z∈fV
  ·refine bH (ei.trans (ag c2)) ?_;have e:kI z=false:=by unfold kI;rw[ag c2];simp
   rw[e] at k;exact k G s0
  ·refine aS (fun q=>c2 (ae (ei.symm.trans q))) ?_;refine⟨_,rfl,z,rfl,yC (x:=z) (fun i ys σ H2=>H2=G/\(∃v,σ=[v])/\ys=((sL z).take i).map fun c=>V.bl (decide (97<=c/\c<=122))) (aJ hl) ⟨rfl,⟨_,rfl⟩,rfl⟩
    (by rintro i ys σ H2 ⟨_,_,e⟩;rw[e,ac,bx];lia) ?_ ?_⟩
   ·rintro i c ys σ H2 hc ⟨rfl,⟨v,rfl⟩,rfl⟩;refine⟨_,rfl,_,_,rfl,rfl,rfl,⟨_,rfl⟩,?_⟩;have hc':(sL z)[i]?=some c:=by rw[im];exact hc
    have fo:(!(Builtin.Str.occurrences alpha ⟨#[c]⟩ 0 alpha.length 1).isEmpty)=decide (c∈sL alpha):=ze alpha c;show _=List.map _ _;rw[bE hc',av,List.map_singleton, <-vg.mpr (uI c), <-fo];rfl
   ·rintro ys σ H2 ⟨rfl,_,rfl⟩ l hl2;have el:((sL z).take z.length).map (fun c=>V.bl (decide (97<=c/\c<=122)))=((sL z).map fun c=>decide (97<=c/\c<=122)).map V.bl:=by
     rw[ie (i:=z.length) (show(sL z).length<=z.length from aj _),jn];rfl
    refine⟨l,(sL z).map fun c=>decide (97<=c/\c<=122),rfl,by rw[el];exact bJ.of aC,?_⟩;rw[aX3];have e:kI z=decide (∀c∈sL z,97<=c/\c<=122):=by unfold kI;rw[ag c,ba c2];simp
    rw[e] at k;exact k _ (s0.trans (aB hl2 _))
 ·rw[ba c];refine bH (by decide) ?_;have e:kI z=false:=by unfold kI;rw[ba c];rfl
  rw[e] at k;exact k G s0
def bK3:eO ["_law_e","_law_others"] ["_law_e"] (aL bV1):=by refine⟨rfl,rfl,rfl,?_,rfl,?_,?_⟩<;>decide
def bO3 (m_NoFit:mg "NoFit"=some (.ref cF))(m_NoRows:mg "NoRows"=some (.ref cR))(m_NoPaper:mg "NoPaper"=some (.ref cP))(m_NoProgram:mg "NoProgram"=some (.ref cG))(m_NoRow:mg "NoRow"=some (.ref cW))(m_NoText:mg "NoText"=some (.ref cT))(m_TooMany:mg "TooMany"=some (.ref cM))(m_ThrowError:mg "ThrowError"=some (.ref D))(XF:mJ K cF [cP,cG,cW,cR,cT,cM] D)(m_isinstance:mg "isinstance"=none)(m_ValueError:mg "ValueError"=none)(F:nA K "_law_refused" "_law_refused" bV1 f fd):
  yL P w K mg base 1 f fd ["_law_e"] (bA6 cF):=by
 refine F.okH bK3 (fun vs H Q E h=>?_) (fun cdv A outer s H vs Q E h=>?_)
 ·obtain⟨x,rfl,_⟩:=h;rfl
 obtain⟨x,rfl,hx,k⟩:=h;refine⟨_,(aF (gJ (i:=1) bK3.nd rfl (fi rfl) (iV aR1 (by rfl) m_isinstance dr (aA (pv 0) (aA (aY (aA (dR (v:= .ref cP) (by rfl) m_NoPaper rfl) (aA (dR (v:= .ref cG) (by rfl) m_NoProgram rfl) (aA (dR (v:= .ref cW) (by rfl) m_NoRow rfl) (aA (dR (v:= .ref cR) (by rfl) m_NoRows rfl) (aA (dR (v:= .ref cT) (by rfl) m_NoText rfl) (aA (dR (v:= .ref cM) (by rfl) m_TooMany rfl) cJ))))))) cJ))))
  (aE (aO (eX (iV rT (by rfl) m_isinstance dr (aA (pv 0) (aA (dR (v:= .ref cF) (by rfl) m_NoFit rfl) cJ))) (eX (iV rT (by rfl) m_isinstance dr (aA (pv 0) (aA (dR (v:= .ref D) (by rfl) m_ThrowError rfl) cJ))) (eX (iV rT (by rfl) m_isinstance dr (aA (pv 0) (aA (lX (v:= .ty "ValueError") (by rfl) m_ValueError bI4 rfl) cJ))) (eG (aO1 (pv 1))))))))),?_⟩
 refine⟨_,rfl,by show 6<=sizeLine;decide,fun t ht=>?_⟩;obtain⟨H1,e0,s1,h1⟩:=mZ ht (.tup [.ref cP,.ref cG,.ref cW,.ref cR,.ref cT,.ref cM]);rw[e0];clear e0;have hx1:=s1 _ _ hx;refine⟨x,t,cF,D,[cP,cG,cW,cR,cT,cM],rfl,aQ.of h1,.inl hx1,XF.over,XF.is,fun c hc=>XF.kit hc,?_⟩;refine⟨_,rfl,x,.ref cF,cF,D,true,rfl,⟨cF,.inl ⟨rfl,XF.self⟩⟩,.inl hx1,XF.over,XF.is,_,rfl,?_⟩;refine⟨_,rfl,x,.ref D,cF,D,true,rfl,⟨D,.inl ⟨rfl,XF.up⟩⟩,.inl hx1,XF.over,XF.is,_,rfl,?_⟩;refine⟨_,rfl,x,.ty "ValueError",cF,D,true,rfl,⟨D,.inr ⟨_,rfl,XF.ve⟩⟩,.inl hx1,XF.over,XF.is,_,rfl,?_⟩;exact⟨_,rfl,_,rfl,k _ s1⟩
def bM9 (m_ThrowError:mg "ThrowError"=some (.ref D))(U:XUp K D)(XO:fS K cF D)(C_Bsd:ClX P w K mg base 108 (aS7 cF Lw L) "beside")(H_Rfd:ClH P w K mg base 1 (bA6 cF) "_law_refused"):gG P w K mg base "_law_told" "_law_told" bZ7 109 ["_law_one","_law_other"] (aT0 Lw L):=by
 refine cI6 ["_law_one","_law_other","_law_found","_law_e"] (fun H Q nd hr h=>?_) (by rintro _ _ _ _ ⟨_,_,_,_,_,_,rfl,_⟩;rfl);obtain⟨p,q,K1,K2,rs1,rs2,rfl,hT,hT2,P1,P2,u1,u2,way⟩:=h;have hr1:dL 1 _:=hr.mono (by decide);refine⟨_,aG7 (PS.p0 (gJ (i:=2) nd rfl (fi rfl) aG))
  (aG7 (bF4 (i:=3) rfl rfl rfl nd rfl rfl rfl (by rfl) m_ThrowError U
   (fun Ex E1 ps=>aE (gJ (i:=2) nd rfl (fi rfl) (cG4 C_Bsd hr ps (aA (pv 0) (aR (pv 1))))))
   (fun x=>aE (bD (fJ (cI2 H_Rfd (hr1.h _) (aR (pv 3)))) (aE (gJ (i:=2) nd rfl (fi rfl) aG)) aU)))
  (oS.p0 (aE (aO (pv 2))))),?_⟩
 refine⟨_,rfl,_,rfl,p,q,K1,K2,rs1,rs2,rfl,hT,hT2,P1,P2,u1,u2,?_⟩;rcases way with⟨e,k⟩|⟨ne,k⟩
 ·exact .inl ⟨e,fun r a1 a2 ν H1 o1 t1 t2 P h1 h2 R1 R2 nu=>⟨_,rfl,k r a1 a2 ν H1 o1 t1 t2 P h1 h2 R1 R2 nu⟩⟩
 ·refine .inr ⟨ne,fun H1 s1=>⟨cF,rfl,XO,fun σ x hl hx=>?_⟩⟩;obtain⟨v0,v1,v2,v3,rfl⟩:=cJ3 hl;refine⟨_,rfl,x,rfl,aC,fun H2 s2=>⟨_,rfl,?_⟩⟩;exact bH rfl ⟨_,rfl,k H2 (s1.trans ((aB hx _).trans s2))⟩
def aO8 (C_Nms46:Cl P w K mg base 2 spNamesE "_law_names")(C_Draw:Cl P w K mg base 1 spDraw "_law_draw")(C_Prg46:Cl P w K mg base 14 spPrgE "_law_program"):gG P w K mg base "_law_two" "_law_two" aY1 15 ["_law_deal_here","_law_kinds","_law_others","_law_room"] spTwo:=by
 refine iT ["_law_deal_here","_law_kinds","_law_others","_law_room","_law_names_here","_law_at","_law_one"] fun H Q nd hr h=>?_
 obtain⟨d,l,kl,ol,ks,os,rfl,D,hk,nk,k1,k3,ho,no,os1,os3,k⟩:=h;refine⟨_,(eQ 4 nd (bW C_Nms46 hr (aA (pv 0) (aR aD)))
  (aF (gD (bD (dZ bO (bW C_Draw hr (aA (pv 0) (aR aD))) aD) (aE (lJ (bQ fP (pv 1) aD) (aP9 (pv 4) (bW C_Draw hr (aA (pv 0) (aR aD))) sP))) aU))
  (eQ 5 nd (bW C_Draw hr (aA (pv 0) (aR aD)))
  (eQ 6 nd (bW C_Prg46 hr (aA (pv 0) (aA (pv 1) (aA (bK jA (pv 4) bV (bR aD)) (aR (pv 3))))))
  (aE (aO (aY (aA (pv 6) (aR (bW C_Prg46 hr (aA (pv 0) (aA (pv 2) (aA (bK jA (bK jA (pv 4) (bR (pv 5)) bV) bV (bR aD)) (aR (pv 3))))))))))))))),?_⟩
 refine⟨_,rfl,d,l,9,rfl,D,by decide,by decide,fun nl ws A B tn H1 D1 oA f1 h1 wl ab wa=>?_⟩;have nnl:=(fN D f1).2;have hk1:=aM D hk nk oA;have ho1:=aM D ho no oA;have e1:kl≠nl:=aK hk f1;have e2:ol≠nl:=aK ho f1;refine⟨fun σ' G=>∃ws:List Str,σ'=[some (.ref d),some (.ref kl),some (.ref ol),some (.int 3),some (.ref nl),none,none]/\dY G d l/\fL d l H G/\G nl=some (.lst (ws.map V.str))/\ws.length=9/\G kl=some (.lst (ks.map V.str))/\G ol=some (.lst (os.map V.str)),?_,?_⟩
 ·refine⟨_,rfl,d,l,3,rfl,D1,by decide,by decide,fun y H2 _ _ D2 o2=>⟨rfl,_,rfl,?_⟩⟩;have h2:=aM D1 h1 nnl o2;have hk2:=aM D1 hk1 nk o2;have ho2:=aM D1 ho1 no o2;refine mF (fun _=>?_) (fun _=>⟨ws,rfl,D2,oA.trans o2,h2,wl,hk2,ho2⟩);obtain⟨x,xr,rfl⟩:∃x xr,ks=x::xr:=by
   cases ks with
   |nil=>exact absurd k1 (by decide)
   |cons x xr=>exact⟨x,xr,rfl⟩
  refine⟨_,rfl,kl,_,_,.str x,rfl,rfl,bJ.of hk2,iY,_,rfl,_,rfl,d,l,9,rfl,D2,by decide,by decide,fun z H3 z0 z1 D3 o3=>?_⟩;have h3:=aM D2 h2 nnl o3;obtain⟨j,rfl⟩:=dv z0;refine⟨nl,_,_,j,rfl,rfl,h3,by unfold zK;rw[bb (by lia),bb (by rw[ac,wl];lia)];rfl,?_⟩;rw[show(ws.map V.str).set j (.str x)=(ws.set j x).map V.str from by rw[List.map_set]];exact⟨ws.set j x,rfl,rC D3 h3 nnl,aH2 (oA.trans (o2.trans o3)) f1,aC,by rw[qo];exact wl,(aH e1).trans (aM D2 hk2 nk o3),(aH e2).trans (aM D2 ho2 no o3)⟩
 rintro σ' G ⟨ws,rfl,D2,o2,h2,wl,hk2,ho2⟩;refine⟨_,rfl,d,l,6,rfl,D2,by decide,by decide,fun z H3 z0 z1 D3 o3=>?_⟩;have h3:=aM D2 h2 nnl o3;have hk3:=aM D2 hk2 nk o3;have ho3:=aM D2 ho2 no o3;refine⟨_,rfl,_,rfl,_,rfl,_,rfl,nl,_,rfl,bJ.of h3,fun n5 hn5=>?_⟩;rw[show(5:Int)=((5:Nat):Int) from rfl,qB, <-pq];have s4:=aB hn5 (.lst ((ws.take 5).map V.str));have g4:aN H3 n5 (.lst ((ws.take 5).map V.str)) n5=some (.lst ((ws.take 5).map V.str)):=aC;have nn5:=(fN D3 hn5).2;generalize aN H3 n5 (.lst ((ws.take 5).map V.str))=H4 at s4 g4 ⊢;have D4:=D3.same s4;refine⟨_,rfl,d,l,kl,n5,ks,ws.take 5,3,rfl,D4,s4 _ _ hk3,nk,k1,k3,g4,nn5,by rw[bx];lia,by rw[bx];lia,fun p rs1 H5 D5 o5 P1 u1=>?_⟩;have o35:=(fL.of (d:=d) (l:=l) s4).trans o5;have h5:=aM D3 h3 nnl o35;have hk5:=aM D3 hk3 nk o35;have ho5:=aM D3 ho3 no o35;have oB:=o2.trans (o3.trans o35);obtain⟨j,rfl⟩:=dv z0
 refine⟨_,rfl,_,rfl,_,rfl,_,rfl,_,rfl,_,rfl,nl,_,rfl,bJ.of h5,fun m1 hm1=>?_⟩;rw[xL, <-xm];obtain⟨H6,e0,s6,g6⟩:=mZ hm1 (.lst ((ws.drop j).map V.str));rw[e0];clear e0;refine⟨_,rfl,m1,_,rfl,bJ.of g6,fun m2 hm2=>?_⟩;rw[qB, <-pq];have s7:=s6.trans (aB hm2 (.lst (((ws.drop j).take 5).map V.str)));have g7:aN H6 m2 (.lst (((ws.drop j).take 5).map V.str)) m2=some (.lst (((ws.drop j).take 5).map V.str)):=aC;have nm2:=(fN (D5.same s6) hm2).2;generalize aN H6 m2 (.lst (((ws.drop j).take 5).map V.str))=H7 at s7 g7 ⊢;have D7:=D5.same s7;refine⟨_,rfl,d,l,ol,m2,os,(ws.drop j).take 5,3,rfl,D7,s7 _ _ ho5,no,os1,os3,g7,nm2,by rw[bx,ku];lia,by rw[bx];lia,fun q rs2 H8 D8 o8 P2 u2=>⟨eW,fun r hr'=>?_⟩⟩;have s9:=aB hr' (.tup [.ref p,.ref q]);exact k r p q rs1 rs2 _ (D8.same s9) ((oB.trans (.of s7)).trans (o8.trans (.of s9))) aC (P1.ts ((TS.of s7).trans ((TS.out D7 o8).trans (.of s9)))) (P2.ts (.of s9)) (u1.ts ((TS.of s7).trans ((TS.out D7 o8).trans (.of s9)))) (u2.ts (.of s9))
end
def all_mk {l:W.OpenLaw}(X:K.In h)(G:h.Ns mainGlobals mg)(hfa:mg "law"=some (.ref fa))(t1:TopAt K "has_one_sum" cD2)(t2:TopAt K "place_of_sums" cB6)(t3:TopAt K "parts_of" bZ8)(t4:TopAt K "names_in" cE7)(t5:TopAt K "sets_name" cD3)(t6:TopAt K "names_asked" cA4)(t7:TopAt K "as_steps" bZ9)(t8:TopAt K "inner_steps" cD9)(t9:TopAt K "steps_of" bX6)(t10:TopAt K "begins_rows" bZ2)(t11:TopAt K "rebuilt" bY8)(t12:TopAt K "first_is_amiss" cE3)(t13:TopAt K "range_is_amiss" bZ3)(t14:TopAt K "range_faults" cF2)(t15:TopAt K "in_both" bZ4)(t16:TopAt K "unknown_faults" bX3)(t17:TopAt K "tells_faults" bY2)(t18:TopAt K "look_at_kinds" bY1)(t19:TopAt K "look" cA8)(t20:TopAt K "rows_in" cB5)(t21:TopAt K "is_name" bZ5)(t22:TopAt K "names_of_values" cF7)(t23:TopAt K "spelled" bX9)(t24:TopAt K "new_names" cB3)(t25:TopAt K "renamed_term" cC7)(t26:TopAt K "renamed_row" bY7)(t27:TopAtT K "renamed" aA9 cc)(t28:TopAt K "widened_row" bX2)(t29:TopAtT K "widened" zO cw)(t30:TopAt K "beside" cC9)(t31:TopAt K "_law_deal" aW4)(t32:TopAt K "_law_draw" aQ9)(t33:TopAt K "_law_lowest" bL8)(t34:TopAt K "_law_steepness" aZ0)(t35:TopAt K "_law_names" aX2)(t36:TopAt K "_law_sum" aW7)(t37:TopAt K "_law_throw" aS8)(t38:TopAt K "_law_term" aW9)(t39:TopAt K "_law_set_row" bK4)(t40:TopAt K "_law_when" aU5)(t41:TopAt K "_law_row" bC1)(t42:TopAt K "_law_rows" aM8)(t43:TopAt K "_law_program" aQ4)(t44:TopAt K "_law_flat" aY0)(t45:TopAt K "_law_name_told" cA1)(t46:TopAt K "_law_term_told" cC5)(t47:TopAt K "_law_row_told" cC3)(t48:TopAt K "_law_rows_told" cE4)(t49:TopAt K "_law_names_right" cA3)(t50:TopAt K "_law_is_name" cE1)(t51:TopAt K "_law_two" aY1)(t52:TopAt K "_law_refused" bV1)(t53:TopAt K "_law_told" bZ7)(t54:TopAt K "_law_wide" cB9)(t55:TopAt K "law" aN6)(z_reversed:W.nsIn K mainGlobals "reversed"=some none)(z_tuple:W.nsIn K mainGlobals "tuple"=some none)(z_len:W.nsIn K mainGlobals "len"=some none)(z_all:W.nsIn K mainGlobals "all"=some none)(z_dict:W.nsIn K mainGlobals "dict"=some none)(z_set:W.nsIn K mainGlobals "set"=some none)(z_min:W.nsIn K mainGlobals "min"=some none)(z_any:W.nsIn K mainGlobals "any"=some none)(z_sorted:W.nsIn K mainGlobals "sorted"=some none)(z_list:W.nsIn K mainGlobals "list"=some none)(z_max:W.nsIn K mainGlobals "max"=some none)(z_range:W.nsIn K mainGlobals "range"=some none)(z_int:W.nsIn K mainGlobals "int"=some none)(z_isinstance:W.nsIn K mainGlobals "isinstance"=some none)(z_str:W.nsIn K mainGlobals "str"=some none)(z_zip:W.nsIn K mainGlobals "zip"=some none)(z_ValueError:W.nsIn K mainGlobals "ValueError"=some none)(qT:W.nsIn K mainGlobals "THROWS"=some (some (.ref xcT)))(uT:K.lookup xcT=some ⟨.type "tuple",odT,.seq itsT nT,slT⟩)(vT:bM (cX.map V.str) itsT.toList)(qW:W.nsIn K mainGlobals "KEPT_WORDS"=some (some (.ref xcW)))(uW:K.lookup xcW=some ⟨.type "tuple",odW,.seq itsW nW,slW⟩)(vW:bM (fV.map V.str) itsW.toList)(qK:W.nsIn K mainGlobals "MOST_KINDS"=some (some (.int 3 tkA)))(hne:Pw≠Pt)(qA:W.nsIn K mainGlobals "LETTERS"=some (some (.str alpha tkB)))(qN:W.nsIn K mainGlobals "LONGEST_NAME"=some (some (.int 8 tkC)))(qD:W.nsIn K mainGlobals "ThrowError"=some (some (.ref xcD)))(q1:W.nsIn K mainGlobals "NoFit"=some (some (.ref xc1)))(q2:W.nsIn K mainGlobals "NoPaper"=some (some (.ref xc2)))(q3:W.nsIn K mainGlobals "NoProgram"=some (some (.ref xc3)))(q4:W.nsIn K mainGlobals "NoRow"=some (some (.ref xc4)))(q5:W.nsIn K mainGlobals "NoRows"=some (some (.ref xc5)))(q6:W.nsIn K mainGlobals "NoText"=some (some (.ref xc6)))(q7:W.nsIn K mainGlobals "TooMany"=some (some (.ref xc7)))(uD:K.lookup xcD=some (excClassObj nmD qnD xcD xND bsD (veB) true snD subD abD colD ddD kaD kbD kcD kdD keD "ValueError.__new__"))(u1:K.lookup xc1=some (excClassObj nm1 qn1 xc1 xN1 bs1 (.ref xcD::veB) true sn1 sub1 ab1 col1 dd1 ka1 kb1 kc1 kd1 ke1 "ValueError.__new__"))(u2:K.lookup xc2=some ⟨oc_2,oo_2,.cls cd_2,ol_2⟩)(ty2:W.typeIn K (.ref xc2)=some (.type "type"))(u3:K.lookup xc3=some ⟨oc_3,oo_3,.cls cd_3,ol_3⟩)(ty3:W.typeIn K (.ref xc3)=some (.type "type"))(u4:K.lookup xc4=some ⟨oc_4,oo_4,.cls cd_4,ol_4⟩)(ty4:W.typeIn K (.ref xc4)=some (.type "type"))(u5:K.lookup xc5=some ⟨oc_5,oo_5,.cls cd_5,ol_5⟩)(ty5:W.typeIn K (.ref xc5)=some (.type "type"))(u6:K.lookup xc6=some ⟨oc_6,oo_6,.cls cd_6,ol_6⟩)(ty6:W.typeIn K (.ref xc6)=some (.type "type"))(u7:K.lookup xc7=some ⟨oc_7,oo_7,.cls cd_7,ol_7⟩)(ty7:W.typeIn K (.ref xc7)=some (.type "type"))(tnD:K.lookup xND=some ⟨ooD,oeD,.dict esD enD,xlD⟩)(ttD:(esD.toList.all fun e=>match e.key with | .str _ _=>true|_=>false)=true)(niD:W.nsIn K xND "__init__"=some none)(tn1:K.lookup xN1=some ⟨oo1,oe1,.dict es1 en1,xl1⟩)(tt1:(es1.toList.all fun e=>match e.key with | .str _ _=>true|_=>false)=true)(ni1:W.nsIn K xN1 "__init__"=some none)(sa1:W.findIn K (.ref xc1) "__setattr__"=some (some (.builtin "object.__setattr__")))(ga1:W.findIn K (.ref xc1) "__getattribute__"=some (some (.builtin "BaseException.__getattribute__")))(gh1:W.findIn K (.ref xc1) "__getattr__"=some none)(ca1:W.findIn K (.ref xc1) "__class__"=some (some (.builtin "object.__class__")))(kp1:W.keepIn K (.ref xc1)=true)(beD:W.subIn K (.ref xcD) (.type "BaseException")=some true)(hg:W.specialIn K (.builtin "object.__class__") "__get__"=some (some (.builtin "getset_descriptor.__get__")))(ht:W.takesIn K (.builtin "object.__class__")=some true)(nr:xc1∉[xc2,xc3,xc4,xc5,xc6,xc7])(dnot:xcD∉[xc2,xc3,xc4,xc5,xc6,xc7]):
  ∃fd:FuncData,(∀s (v),BindsTo s fd ⟨[v],[]⟩ [("_law_script",v)])/\∀base:Heap,K.In base->base.Ns mainGlobals mg->tX base mg cc Pt->tX base mg cw Pw->lG l.prog w K mg base pO 111 fa fd ["_law_script"] (nL K (bB7 Pw) (aO2 Pt)):=by
 obtain⟨_,la,oc,od,kV,dc,pm,an,cd,ct,sl,lk,lc,lp⟩:=t55
 cases hfa.symm.trans (W.mg_of X G la)
 refine⟨W.fnOf "law" "law" (bX aN6) (bI aN6) (aL aN6) .none kV dc pm an cd ct,fun s v=> .of_eq rfl,fun base _ _ LB0 LB1=>?_⟩;have Z:Zx l.prog w K mg base:= .of X G;have y_reversed:=Z.no _ z_reversed;have y_tuple:=Z.no _ z_tuple;have y_len:=Z.no _ z_len;have y_all:=Z.no _ z_all;have y_dict:=Z.no _ z_dict;have y_set:=Z.no _ z_set;have y_min:=Z.no _ z_min;have y_any:=Z.no _ z_any;have y_sorted:=Z.no _ z_sorted;have y_list:=Z.no _ z_list;have y_max:=Z.no _ z_max;have y_range:=Z.no _ z_range;have y_int:=Z.no _ z_int;have y_isinstance:=Z.no _ z_isinstance;have y_str:=Z.no _ z_str;have y_zip:=Z.no _ z_zip;have y_ValueError:=Z.no _ z_ValueError;have mT:=Z.ns _ _ qT;have zT:itsT.size<=sizeLine:=by
  have e:=vT.length;have e2:itsT.size=4:=by rw[<-ef];simpa [cX] using e.symm
  rw[e2]
  decide
 have hT:∀H,aQ K H xcT (cX.map V.str):=fun H=> .inr ⟨_,itsT,nT,uT,rfl,rfl,zT,vT⟩
 have mW:=Z.ns _ _ qW;have zW:itsW.size<=sizeLine:=by
  have e:=vW.length;have e2:itsW.size=12:=by rw[<-ef];simpa [fV] using e.symm
  rw[e2]
  decide
 have hW:∀H,aQ K H xcW (fV.map V.str):=fun H=> .inr ⟨_,itsW,nW,uW,rfl,rfl,zW,vW⟩
 have mK:=Z.ns _ _ qK;have mA:=Z.ns _ _ qA;have mN:=Z.ns _ _ qN;have W1:=bD5 u1 sa1 ga1 gh1;have Z1:XIs K xc1:=⟨ca1,hg,ht⟩
 have TD:W.typeIn K (.ref xcD)=some (.type "type"):=by show(K.lookup xcD).map _=_;rw[uD];rfl
 have CD:(W.clsIn K xcD).isSome=true:=by unfold W.clsIn;rw[uD];rfl
 have cl2:(W.clsIn K xc2).isSome=true:=by unfold W.clsIn;rw[u2];rfl
 have cl3:(W.clsIn K xc3).isSome=true:=by unfold W.clsIn;rw[u3];rfl
 have cl4:(W.clsIn K xc4).isSome=true:=by unfold W.clsIn;rw[u4];rfl
 have cl5:(W.clsIn K xc5).isSome=true:=by unfold W.clsIn;rw[u5];rfl
 have cl6:(W.clsIn K xc6).isSome=true:=by unfold W.clsIn;rw[u6];rfl
 have cl7:(W.clsIn K xc7).isSome=true:=by unfold W.clsIn;rw[u7];rfl
 have FM:mJ K xc1 [xc2,xc3,xc4,xc5,xc6,xc7] xcD:=⟨W1,Z1,(by
  intro C h;simp only[List.mem_cons,List.not_mem_nil,or_false] at h;rcases h with rfl|rfl|rfl|rfl|rfl|rfl
  ·exact ty2
  ·exact ty3
  ·exact ty4
  ·exact ty5
  ·exact ty6
  ·exact ty7
  ),(by
  intro C h;simp only[List.mem_cons,List.not_mem_nil,or_false] at h;rcases h with rfl|rfl|rfl|rfl|rfl|rfl
  ·exact cl2
  ·exact cl3
  ·exact cl4
  ·exact cl5
  ·exact cl6
  ·exact cl7
  ),nr,dnot,CD,TD⟩
 have UP:XUp K xcD:=⟨TD,CD,beD⟩
 have MK1:=bY5 u1 kp1 (aF0 tn1 tt1) ni1 uD (aF0 tnD ttD) niD;have mD:=Z.ns _ _ qD;have mc1:=Z.ns _ _ q1;have mc2:=Z.ns _ _ q2;have mc3:=Z.ns _ _ q3;have mc4:=Z.ns _ _ q4;have mc5:=Z.ns _ _ q5;have mc6:=Z.ns _ _ q6;have mc7:=Z.ns _ _ q7;have C1:=Z.c1 t1 (bO4);have C2:=Z.c1 t2 (bN3);have C3:=Z.c1 t3 (bP4);have C4:=Z.c1 t4 (bN0 C3);have C5:=Z.c1 t5 (bV6 mT hT);have C6:=Z.c1 t6 (bR1 C4);have C7:=Z.c1 t7 (bW3);have C8:=Z.c1 t8 (bN9 C7);have C9:=Z.c1 t9 (bS1 C7 C8 y_reversed);have C10:=Z.c2 t10 (bW5);have C11:=Z.z2 t11 (bR5 C9 C10 y_tuple y_len);have C12:=Z.c1 t12 (bM6);have C13:=Z.c1 t13 (bR2 mT hT C12);have C14:=Z.c1 t14 (bN7 C13);have C15:=Z.c2 t15 (bT5);have C16:=Z.c1 t16 (bR3 C5 C15 C6 y_all y_dict);have C17:=Z.c1 t17 (bS8 C10);have C18:=Z.c1 t18 (bT8 mK y_len y_set);have C19:=Z.c1 t19 (bN4 C18 C9 C17 C14 C16 y_min y_any);have C20:=Z.c1 t20 (bQ3 C9);have C21:=Z.c1 t21 (bS5 mA mN mW hW y_all y_len)
 have C22:=Z.c1 t22 (bU9 C20 C5 C6);have C23:=Z.c1 t23 (bR4 mA y_len);have C24:=Z.c2 t24 (bV8 C22 C23 C21 y_dict y_sorted y_list);have R25:∀n,Cl l.prog w K mg base (n+1) (aI1 n) "renamed_term":=fun n=>by
  induction n with
  |zero=>exact Z.c2 (p1:="term") (p2:="names") t25 okn
  |succ n ih=>exact Z.c2 t25 (bT6 n ih)
 have C25:=R25 101;have C26:=Z.c2 t26 (bQ4 mT hT C25);have C27:=Z.t2 t27 (bW8 C11 C26 LB0);have C28:=Z.c3 t28 (bO5 mT hT C2 C1 y_tuple);have C29:=Z.t3 t29 (bR0 C11 C28 LB1);have C30:=Z.x2 t30 (bQ9 (Lw:=bB7 Pw) (L:=aO2 Pt) hne mK mc1 MK1 C29 C27 C24 y_len y_set);have C31:=Z.c2 t31 (fun F=>bF5 F y_max y_reversed y_list);have C32:=Z.c2 t32 (fun F=>bE9 F y_len);have C33:=Z.c2 t33 (bE6);have C34:=Z.c2 t34 (bB8 C33 C32);have C35:=Z.c2 t35 (aX7 C32 y_range y_len y_int);have C36:=Z.c2 t36 (aN5 C32 y_tuple y_range);have C37:=Z.c3 t37 (aV3 C32 C34 C36 y_tuple y_max y_range);have R38:∀n,Cl l.prog w K mg base (n+1) (qV n) "_law_term":=fun n=>by
  induction n with
  |zero=>exact Z.c3 (p1:="_law_deal_here") (p2:="_law_known") (p3:="_law_room") t38 okn
  |succ n ih=>exact Z.c3 t38 (bA5 n ih C32 y_len)
 have C38:=R38 3;have C39:=Z.c3 t39 (bD2 C32 C37 C38 y_len);have R42:∀m,Cl l.prog w K mg base (5+3*m) (zN m) "_law_when"/\Cl l.prog w K mg base (4+3*m) (bM4 m) "_law_rows":=fun m=>by
  induction m with
  |zero=>exact⟨Z.c4 (p1:="_law_deal_here") (p2:="_law_scene") (p3:="_law_known") (p4:="_law_deep") t40 okn,Z.c5 (p1:="_law_deal_here") (p2:="_law_scene") (p3:="_law_known") (p4:="_law_deep") (p5:="_law_many") t42 okn⟩
  |succ m ih =>
   have r0:=Z.c4 t41 (aV8 m C32 ih.1 ih.2 C39 C38 y_int);have e1:5+3*m+1=6+3*m:=by lia
   have r1:Cl l.prog w K mg base (6+3*m) (aP5 (m+1)) "_law_row":=by rw[<-e1];exact r0
   have s0:=Z.c5 t42 (aQ2 m r1 y_range y_tuple);have e2:6+3*m+1=7+3*m:=by lia
   have s1:Cl l.prog w K mg base (7+3*m) (pI m) "_law_rows":=by rw[<-e2];exact s0
   have w0:=Z.c4 t40 (aT6 m C38 s1 C32 C39 y_range y_len y_int y_tuple);have e3:7+3*m+1=5+3*(m+1):=by lia
   have e4:7+3*m=4+3*(m+1):=by lia
   exact⟨by rw[<-e3];exact w0,by rw[<-e4];exact s1⟩
 have C42:=(R42 3).2;have C43:=Z.c4 t43 (aV0 C42 C32 C38 y_len y_tuple);have R44:∀n,Cl l.prog w K mg base (n+1) (aE4 n) "_law_flat":=fun n=>by
  induction n with
  |zero=>exact Z.c1 (p1:="_law_rows_here") t44 okn
  |succ n ih=>exact Z.c1 t44 (aY9 n ih)
 have C44:=R44 4;have C45:=Z.c3 t45 (bR6 y_isinstance y_str);have R46:∀n,Cl l.prog w K mg base (n+1) (aH6 n) "_law_term_told":=fun n=>by
  induction n with
  |zero=>exact Z.c3 (p1:="_law_found") (p2:="_law_term_here") (p3:="_law_names_here") t46 okn
  |succ n ih=>exact Z.c3 t46 (bS9 n C45 ih y_isinstance y_tuple y_len)
 have C46:=R46 8;have R48:∀m,Cl l.prog w K mg base (9+2*m) (aE2 m) "_law_rows_told":=fun m=>by
  induction m with
  |zero=>exact Z.c3 (p1:="_law_found") (p2:="_law_rows_here") (p3:="_law_names_here") t48 okn
  |succ m ih =>
   have r0:=Z.c3 t47 (bP9 m C46 C45 ih y_isinstance y_tuple y_len);have e1:9+2*m+1=10+2*m:=by lia
   have r1:Cl l.prog w K mg base (10+2*m) (aR3 (m+1)) "_law_row_told":=by rw[<-e1];exact r0
   have s0:=Z.c3 t48 (bQ0 m r1 y_all y_isinstance y_tuple y_len y_zip);have e2:10+2*m+1=9+2*(m+1):=by lia
   rw[<-e2];exact s0
 have C48:=R48 3;have C50:=Z.c1 t50 (bV2 y_all y_len);have C49:=Z.c3 t49 (bU6 C44 C50 y_len y_list y_set y_int);have C51:=Z.c4 t51 (aO8 C35 C32 C43);have H52:=Z.h1 t52 (bO3 mc1 mc5 mc2 mc3 mc4 mc6 mc7 mD FM y_isinstance y_ValueError);have C53:=Z.c2 t53 (bM9 mD UP W1 C30 H52);have R54:∀n,Cl l.prog w K mg base (n+1) (aE9 n) "_law_wide":=fun n=>by
  induction n with
  |zero=>exact Z.c3 (p1:="_law_rows_here") (p2:="_law_ahead") (p3:="_law_later") t54 okn
  |succ n ih=>exact Z.c3 t54 (bQ1 n ih y_tuple)
 have C54:=R54 4;exact bQ7 C31 C51 C53 C54 C32 C48 C35 C49 C19 y_len y_isinstance y_tuple y_set (xD lk lc lp)
open PySem PySem.W L2
def walk {l:W.OpenLaw}{K:Params->W.Frag}(hn:l.most=some 63)(hdf:d.params.defaults=[])(hY:∀w (h),YP w h->(K w.params).In h/\∀P∈[Pw,Pt],h.get? P=some (tabObj #[]))(hK:∀w:World,noTabs (K w.params)=true)(hH:∀w:World,codeHdIn (K w.params) c Pt=true)(hH2:∀w:World,codeHdIn (K w.params) c2 Pw=true)(F:∀w (mg) (fa) (h),(K w.params).In h->h.Ns mainGlobals mg->mg d.name=some (.ref fa) ->
   ∃fd:FuncData,(∀s (u),BindsTo s fd ⟨[u],[]⟩ [("_law_script",u)])/\∀base:Heap,(K w.params).In base->base.Ns mainGlobals mg->tX base mg c Pt->tX base mg c2 Pw->lG l.prog w (K w.params) mg base pO 111 fa fd ["_law_script"] (nL (K w.params) (bB7 Pw) (aO2 Pt))):
  W.WalkO q loose XP YP l.row.toRowW d [] (fun f vs=>PySem.call f vs):=
 L2.walkT_of (n:=63) (k:=111) (x:="_law_script") (ts:=[(c2,Pw),(c,Pt)]) (sp:=fun w=>nL (K w.params) (bB7 Pw) (aO2 Pt)) hn (by decide) hdf ⟨rfl,by decide,by decide,rfl⟩ (fun w h Y=>hY w h Y) hK
  (fun w q hq=>by
   simp only[List.mem_cons,List.not_mem_nil,or_false] at hq;rcases hq with rfl|rfl
   ·exact hH2 w
   ·exact hH w)
  (fun w mg fa h a b e=>let⟨fd,x,y⟩:=F w mg fa h a b e;⟨fd,x,fun base k m L=>y base k m (L _ (aq _ ao)) (L _ ao)⟩)
  (fun w H a ns hl hO hS=>⟨a,ns,rfl,hS,hl,hO.1 _ ao,hO.1 _ (aq _ ao),fun _=>rfl⟩)
end Mine
open PySem PySem.W PyProof.Rows
namespace PySem.W.Fast
def tw10005292450023881719:=0
def tw10030110499885521021:=0
def tw10269379668364775261:=0
def tw10295072508736990262:=0
def tw1030435123554227206:=0
def tw10486788859103270786:=0
def tw10648171209440973507:=0
def tw10775166540972841895:=0
def tw1085657232048741049:=0
def tw10871647393117114105:=0
def tw11021863055683759388:=0
def tw11038713214675318422:=0
def tw11127960043894449256:=0
def tw11352578884110933158:=0
def tw11496038300835988937:=0
def tw11577265850994226973:=0
def tw11605234343251056352:=0
def tw11653683126523836900:=0
def tw11695172613370048799:=0
def tw11804681487133622437:=0
def tw11936856778085516438:=0
def tw11944869712059253171:=0
def tw11953986305853332338:=0
def tw11978492309404293664:=0
def tw11983553635562344383:=0
def tw12044065285023938464:=0
def tw12061861052954968368:=0
def tw12149402764314499791:=0
def tw12336287296531738746:=0
def tw1234116521740850665:=0
def tw12695831002414975836:=0
def tw12714116525687736392:=0
def tw12727256270915236301:=0
def tw12764397681988042729:=0
def tw12786451070565284672:=0
def tw12920238511543390080:=0
def tw132387585251300506:=0
def tw13246284096423545639:=0
def tw13329996612420135528:=0
def tw13337056757991157332:=0
def tw13352258963237880100:=0
def tw13506406112933986900:=0
def tw13848958353071500513:=0
def tw1385562022916053436:=0
def tw13888703186661566017:=0
def tw13955031633217750492:=0
def tw13993438456082039194:=0
def tw14143742380048488323:=0
def tw14368994657204384168:=0
def tw14461415521869556570:=0
def tw14530470153269431434:=0
def tw1453565233948312573:=0
def tw1457989145105497345:=0
def tw14699310791583265396:=0
def tw15037860577707628513:=0
def tw15063284690407877346:=0
def tw15397263237024305578:=0
def tw15485399913723022749:=0
def tw15603411586770895518:=0
def tw15709219189984960962:=0
def tw15757720775257409189:=0
def tw15809317145592250391:=0
def tw15958704944517278082:=0
def tw16065697497669043701:=0
def tw1624350233910470955:=0
def tw16427599845779032437:=0
def tw16617105051313670217:=0
def tw16716536437552060167:=0
def tw16731204600016029750:=0
def tw16788313762779180629:=0
def tw16890941313177705556:=0
def tw16901646289545470127:=0
def tw17030089915279653908:=0
def tw17310544333939467351:=0
def tw17332137015720074043:=0
def tw17447098474715685786:=0
def tw17460873444405786309:=0
def tw17518076972993495373:=0
def tw17545186740659559040:=0
def tw17635468006333804213:=0
def tw17741853196615045003:=0
def tw1788488524991290283:=0
def tw18062220115967430441:=0
def tw18213172417230782993:=0
def tw18285954818631908524:=0
def tw18414703975418299018:=0
def tw1939612499275246330:=0
def tw2223610789091388923:=0
def tw2358756483689736243:=0
def tw2521228846483970385:=0
def tw2985353558607902423:=0
def tw3159283512957851967:=0
def tw3252040963223884352:=0
def tw3253455964507438479:=0
def tw3270167941457343715:=0
def tw3384129738626648104:=0
def tw3450102594484813501:=0
def tw3469899773578642132:=0
def tw3550717214201198980:=0
def tw373794137323516764:=0
def tw3877257342448525603:=0
def tw3991920215606373995:=0
def tw4035790676483494999:=0
def tw4180574004947753625:=0
def tw4265621361866865757:=0
def tw4363556958725142757:=0
def tw453119651407278985:=0
def tw4937226624217153274:=0
def tw5082524768606192588:=0
def tw5110767779742344137:=0
def tw5262842638768035907:=0
def tw5288676508198122821:=0
def tw5293436986737262219:=0
def tw5434861834586121790:=0
def tw5457965504430465967:=0
def tw5519160098063247711:=0
def tw5549733299577096293:=0
def tw5655630100365637204:=0
def tw5680191723761645100:=0
def tw5875790147894103574:=0
def tw599020846923640275:=0
def tw6016285666909349117:=0
def tw6069609682539970190:=0
def tw6161847744723232196:=0
def tw6417397470852757935:=0
def tw6639402204942652314:=0
def tw6639534545697362267:=0
def tw6886164622125714261:=0
def tw6897813588110400255:=0
def tw7000584020617910449:=0
def tw7028892449017193964:=0
def tw7036591447448168052:=0
def tw7047060701442317866:=0
def tw7049325520011880837:=0
def tw7282638318707713091:=0
def tw7312672297973024638:=0
def tw7379004967802281949:=0
def tw7483495166640890134:=0
def tw7540039211473421856:=0
def tw7647033766882089205:=0
def tw7810431565290892415:=0
def tw7914961847211506978:=0
def tw7962605957763723886:=0
def tw8321722324168821047:=0
def tw8352058089661517483:=0
def tw8385171452826336773:=0
def tw8555572988752108092:=0
def tw8663514332158710853:=0
def tw8668970858090472913:=0
def tw872977483605561644:=0
def tw8771017683679075870:=0
def tw879187524516055377:=0
def tw8938283646689536532:=0
def tw9053539800270093069:=0
def tw908656564258337972:=0
def tw9269387786848972667:=0
def tw929219677147599609:=0
def tw985957935623389013:=0
def tw9871218117282638149:=0
def tw9937071845869836893:=0
end PySem.W.Fast
set_option maxRecDepth 100000 in
set_option maxHeartbeats 0 in
theorem PySem.Challenge.cw_pairedthrows_k47_one_beside_another_holds : PySem.Challenge.rw_pairedthrows_k47_one_beside_another.Holds := by
  w_on;o_law;k_head;(case hw=>w_witness2)
  k_fill
  refine' Mine.walk (l:=PySem.Challenge.rw_pairedthrows_k47_one_beside_another) rfl rfl (fun w h Y=>⟨PySem.W.km_in_of Y,PySem.W.km_tabs_of Y⟩) (fun _=>by kernel_rfl) ?H ?H2 ?F
  case F =>
    intro w mg fa h KX G hmg
    refine' Mine.all_mk KX G hmg ?a0 ?a1 ?a2 ?a3 ?a4 ?a5 ?a6 ?a7 ?a8 ?a9 ?a10 ?a11 ?a12 ?a13 ?a14 ?a15 ?a16 ?a17 ?a18 ?a19 ?a20 ?a21 ?a22 ?a23 ?a24 ?a25 ?a26 ?a27 ?a28 ?a29 ?a30 ?a31 ?a32 ?a33 ?a34 ?a35 ?a36 ?a37 ?a38 ?a39 ?a40 ?a41 ?a42 ?a43 ?a44 ?a45 ?a46 ?a47 ?a48 ?a49 ?a50 ?a51 ?a52 ?a53 ?a54 ?a55 ?a56 ?a57 ?a58 ?a59 ?a60 ?a61 ?a62 ?a63 ?a64 ?a65 ?a66 ?a67 ?a68 ?a69 ?a70 ?a71 ?a72 ?a73 ?a74 ?a75 ?a76 ?a77 ?a78 ?a79 ?a80 ?a81 ?a82 ?a83 ?a84 ?a85 ?a86 ?a87 ?a88 ?a89 ?a90 ?a91 ?a92 ?a93 ?a94 ?a95 ?a96 ?a97 ?a98 ?a99 ?a100 ?a101 ?a102 ?a103 ?a104 ?a105 ?a106 ?a107 ?a108 ?a109 ?a110 ?a111 ?a112 ?a113 ?a114 ?a115 ?a116 ?a117 ?a118 ?a119
    case a55|a56|a57|a58|a59|a60|a61|a62|a63|a64|a65|a66|a67|a68|a69|a70|a71|a72|a73=>k_is
    case a74=>exact .cons ⟨_,rfl⟩ (.cons ⟨_,rfl⟩ (.cons ⟨_,rfl⟩ (.cons ⟨_,rfl⟩ (.nil))))
    case a75|a76=>k_is
    case a77=>exact .cons ⟨_,rfl⟩ (.cons ⟨_,rfl⟩ (.cons ⟨_,rfl⟩ (.cons ⟨_,rfl⟩ (.cons ⟨_,rfl⟩ (.cons ⟨_,rfl⟩ (.cons ⟨_,rfl⟩ (.cons ⟨_,rfl⟩ (.cons ⟨_,rfl⟩ (.cons ⟨_,rfl⟩ (.cons ⟨_,rfl⟩ (.cons ⟨_,rfl⟩ (.nil))))))))))))
    case a78=>k_is
    case a79=>decide
    case a80|a81|a82|a83|a84|a85|a86|a87|a88|a89|a90|a91|a92|a93|a94|a95|a96|a97|a98|a99|a100|a101|a102|a103|a104=>k_is
    case a105=>rfl
    case a106|a107=>k_is
    case a108=>rfl
    case a109|a110|a111|a112|a113|a114|a115|a116|a117=>k_is
    case a118|a119=>decide
    case a0|a1|a2|a3|a4|a5|a6|a7|a8|a9|a10|a11|a12|a13|a14|a15|a16|a17|a18|a19|a20|a21|a22|a23|a24|a25=>apply L2.TopAt.of<;>k_is
    case a26=>apply L2.TopAtT.of<;>k_is
    case a27=>apply L2.TopAt.of<;>k_is
    case a28=>apply L2.TopAtT.of<;>k_is
    case a29|a30|a31|a32|a33|a34|a35|a36|a37|a38|a39|a40|a41|a42|a43|a44|a45|a46|a47|a48|a49|a50|a51|a52|a53|a54=>apply L2.TopAt.of<;>k_is
  case H => exact fun _ => by kernel_rfl
  case H2 => exact fun _ => by kernel_rfl
