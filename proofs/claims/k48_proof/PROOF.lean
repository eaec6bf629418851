import PyProof.Rows.All
import Wide.All
import OpenK.AllK
import Wide.FinOn
import Lean
import PyProof.EqAt
import PyProof.EqKinds
import PyProof.TupleCall
import KE.KDictOf
import PyProof.AttrMissHeap
import KE.KSortTup
import PyProof.Rows.InDataRows
import PyProof.AutoListH
import KE.KRevSl
import PyProof.Rows.SetFrom
import PyProof.Rows.SortStr
import KE.KDictLaws
import KE.KItemsList
import PyProof.DictWalks
import PyProof.DictItems
import KE.KDictList
import KE.KPairComp
import KE.KLam
import KE.KNestM
import PyProof.ExcClass3
import PyProof.StationsW
import PyProof.RulesTry
import PyProof.Rows.CatchOwn
import OpenK.KCall
import OpenK.KRaise
import PyProof.InstSpecial
import PySem.Challenge.RW_pairedthrows_k48_ladders_exchanged
set_option Elab.async false
set_option linter.all false
set_option maxRecDepth 100000
open PySem renaming wpAny_bind->aa,wpAny_pure->aq,wpAny_field->dr,wpAny_mono->dv,wpAny_Call_Name_kw->eo,wpAny_callSpecial?_slot->fw,wpAny_newObj_type->fz,boot_len->ge,wpAny_seqItems->gm,mem_of_lookup->ia,wpAny_truthy_bool->ii,wpAny_holding->ij,wpAny_call_entry->ip,wpAny_setField_rec->jr,wpAny_passesOwn->jv,wpAny_newFunctionEnv_cells->kg,wpAny_getItem_str_slice->kz,wpAny_pyIter_list->ma,codeAny_mono->md,codeAny_call_function->mf,builtinLookup_eq_fast->mi,wpAny_setField->mj,wpAny_attempt->nu,sizeLine_eq->nz,wpAny_execs_nil->om,wpAny_specialOf->oq,wpAny_updateSeq->ot,tupleKind_room_in1->oy,slot_listiter_next->ph,noFill_tuple_add->qf,wpAny_rule->qv,wpAny_call->qw,typeLookup_type->rc,post_val_or_str->rf,codeAny_builtin->rg,wpAny_pyIter_tuple->sx,wpAny_standAt->ua,seq_tuple_add->ub,plainId_quiet->uc,wpAny_onRaise->ue,wpAny_execs_cons->um,codeAny_func->uo,concat_meets->uu,wpAny_comprehension_free->uw,wpAny_isInstance->ux,wpAny_pyIter_zip->uy,wpAny_letGo->vz,wpAny_isTrue_Compare1->wg,wpAny_bindName->wj,wpAny_loadName_local->wx,wpAny_newFunctionEnv->xb,wpAny_updateSeq_pair->xf,wpAny_pyIter_revIter->xj,wpAny_loadName_cell->xt,entry_listiter_next->xw,call_meetsIn->ya,wpAny_typeOf->yb,seqIndex_neg->yc,call_reversed_list->ye,args_listiter_next->yh,wpAny_assign_Name->yq,wpAny_Call_method->yw,seqIndex_of->zh,wpAny_Dict_empty->zm,wpAny_Name->zw,typeIs_str->zy
open PySem.Heap renaming get?_push_of_some->ac,lt_size->ao,get?_push_size->bc,get?_update_self->fg,get?_update_ne->gi,get?_update_other->iq,size_push->ir,get?_none_of_le->ww
local macro_rules|`(tactic|decide)=>`(tactic|decide +kernel)
local macro_rules|`(def $i:declId $s:optDeclSig $v:declVal)=>`(noncomputable def $i:declId $s:optDeclSig $v:declVal)
set_option compiler.extract_closed false
noncomputable section
open List renaming length_map->ae,length_append->aj,getElem?_eq_getElem->ak,getElem?_eq_some_iff->ap,mem_singleton->au,mem_cons_of_mem->av,mem_cons_self->az,mem_of_getElem?->bj,size_toArray->br,not_mem_nil->bu,mem_append_right->bx,mem_append->bz,length_cons->cf,mem_cons->cj,getElem?_map->cm,map_append->cy,mem_append_left->dj,take_length->dk,filter_cons_of_pos->dm,length_take->du,filter_cons_of_neg->dy,map_cons->en,length_singleton->fh,mem_map->fj,nodup_cons->fk,getD_eq_getElem?_getD->fq,append_assoc->gc,reverse_cons->gj,append_nil->gv,length_reverse->ib,flatMap_append->ig,mem_map_of_mem->iy,foldl_cons->ja,take_append_drop->jb,length_eq_zero_iff->je,mem_flatMap->jq,filter_append->ju,of_mem_zip->jw,length_nil->jx,getElem?_append_right->ke,nodup_append->ki,flatMap_cons->kj,getElem?_append_left->km,sum_cons->lh,mem_filterMap->lj,all_eq_true->na,dropLast_concat->nh,any_cons->nj,filterMap_cons->oi,drop_eq_getElem_cons->ow,filterMap_cons_none->pi,getElem?_set_self->qd,getElem_mem->qg,getElem?_eq_none->qj,length_filter_le->qk,filterMap_append->qm,mem_filter->qt,getElem?_set_ne->qu,map_map->rn,mem_of_mem_take->sf,replicate_succ'->sh,eq_nil_of_length_eq_zero->sj,reverse_append->sk,nodup_nil->sq,cons_append->uq,map_nil->ut,length_drop->uv,length_filterMap_le->vc,map_reverse->vd,forIn_cons->vo,mem_range->wf,length_replicate->wm,getElem?_reverse->wo,eq_nil_or_concat->wq,concat_eq_append->wu,length_dropLast->xa,mem_iff_getElem->xh,map_take->xr,getElem_of_mem->xu,pairwise_cons->yi,zip_cons_cons->yn,find?_isSome->zd,foldl_append->zf,getElem_inj->zk,append_inj'->zt,flatMap_nil->zu
open Nat renaming le_refl->ai,zero_le->bo,lt_of_lt_of_le->bw,ne_of_lt->cg,lt_of_le_of_lt->cq,le_of_lt->cu,le_trans->db,ne_of_gt->dq,lt_irrefl->gk,le_add_right->gy,lt_succ_self->io,sub_lt_sub_left->iw,mul_le_mul_right->jp,not_lt->ko,zero_add->rj,succ_mul->se,le_succ->sv,lt_succ_of_lt->ui,gcd_pos_of_pos_right->uz,add_sub_cancel_left->vm,min_eq_left->vp,pow_le_pow_right->xi,add_assoc->xp,le_of_eq->yf,gcd_comm->yj,gcd_dvd_right->zc,le_succ_of_le->ze,log2_lt->zj
open PySem.F renaming plainAttrs_list->bq,slot_list_append->eh,type_list_append->ej,slot_list_extend->eu,type_list_extend->fc,slot_list_pop->jz,type_list_pop->ka,slot_tuple_iterator_next->kh,plain_extend_loop->kq,args_tuple_add_2->kr,entry_tuple_add->kx,slot_tuple_add->lv,slot_zip_next->mx,slot_dict_get->qh,slot_zip_next->re,args_tuple_iterator_next_1->sr,slot_dict_setdefault->su,entry_tuple_iterator_next->sy,excBase_ValueError->ug,entry_extend_loop->uk,args_dict_get_3->vf,plainAttrs_dict->vg,plain_list_iadd->vh,args_zip_next_1->vk,entry_dict_get->vw,entry_zip_next->wc,args_object_init_3->xg,args_list_init_2->yd,typeCall_list_1->yz,entry_list_init->za,args_zip_next_1->zb,entry_zip_next->zo,typeCall_zip_2->zp
open Bool renaming false_ne_true->bt,and_eq_true->my,eq_iff_iff->oo,false_or->xm,true_and->xq,eq_false_iff->zg
open Int renaming mul_nonneg->de,eq_ofNat_of_zero_le->dw,toNat_natCast->dz,mul_le_mul_of_nonneg_right->gx,toNat_of_nonneg->ie,pow_nonneg->ik,le_refl->ji,mul_pos->jj,emod_nonneg->jo,pow_succ->js,emod_lt_of_pos->jt,ediv_mul_cancel->ku,mul_one->lm,pow_zero->mq,mul_comm->mw,fdiv_eq_ediv_of_nonneg->nt,le_of_lt->pf,mul_le_mul->pj,natCast_mul->rh,zero_add->rq,mul_le_mul_of_nonneg_left->si,le_of_mul_le_mul_right->uh,lt_trans->va,mul_ediv_mul_of_pos->vi,natCast_dvd_natCast->vj,natCast_add->vq,pow_pos->wb,one_mul->we,natAbs_of_nonneg->xc,le_trans->yo,ediv_le_self->zr
open Option.some renaming inj->di
open PyProof.Rows renaming callWith_type1->ef,boot_tuple->fi,boot_isinstance->jd,boot_list->ly,intBits_le->pw,boot_max->qo,boot_int->qp,slot_tuple_getitem->qq,assignInOrder_cons->sw,boot_reversed->ud,subscriptTail_builtinR->vy,boot_zip->wp,boot_all->wv,floordiv_int->yg,assignInOrder_nil->yr,Subscript_->zx
open PySem.W renaming kia_one->gg,cellsFrom_some->vb,cellsFrom_some->vt,looks_findIn->xk,codeRec_of->ym,kitx_list->yt,kitx_dict->yu
open PySem.Calls renaming spliced_cons->gq,spliced_nil->jf,callWith_builtin->lq,evalArgs_plain->qz,Name_function_global->tj
open PySem.Obj renaming data_mapFields->im,isFreed_of_fields->jy,cls_mapFields->uj
open Or renaming inl->iz,inr->nq
open Option renaming bind_some->jc,isSome_iff_exists->jn,map_some->qy,map_eq_some_iff->vv,isSome_map->yv
open PySem.PassesOwn renaming never->jg
open Array renaming length_toList->jh,getElem?_toList->mh,toArray_toList->mz,getElem?_eq_some_iff->nv,getElem?_eq_getElem->ou,find?_toList->xz,append_empty->yk,toList_inj->zq
open True renaming intro->jm
open PySem.Paired renaming length->lg
open PySem.Around renaming under_plainId->ng,frames_deeper->qx
open PySem.Heap.SameBut renaming update->oj
open PyProof renaming noPylong_of_log2->oz
open PySem.Txt renaming slice_le->pd
open Sum.inr renaming inj->pz
open PySem.SeqAt.EqAt renaming same->vn,int_str->xx,str_int->xy
open Prod renaming ext->wy
open PySem.Walks renaming listRev->xo
open List.Pairwise renaming nil->yy
open PySem.IntMulOk renaming of_bits->zn
namespace L2
theorem Rq0(_:True:=by rfl):True:=trivial
theorem Rq1(_:True:=by decide):True:=trivial
theorem Rq2(_:True:=by first|exact .inl rfl|exact .inr rfl|assumption):True:=trivial
theorem Rq3(_:True:=by intros;rfl):True:=trivial
theorem Rq4(_:True:=by intro _;rfl):True:=trivial
theorem Rq5(_:True:=by first|decide|lia):True:=trivial
theorem Rq6(_:True:=by refine⟨rfl,rfl,rfl,?_,rfl,?_,?_⟩<;>decide):True:=trivial
theorem Rq7(_:True:=by first|exact iz rfl|exact nq (iz rfl)|exact nq (nq rfl)):True:=trivial
theorem Rq8(_:True:=by first|exact iz rfl|exact nq rfl):True:=trivial
theorem Rq9(_:True:=by exact fun _ _=>rfl):True:=trivial
theorem Rq10(_:True:=by first|exact pI _|rfl):True:=trivial
end L2
namespace L2
open PySem PySem.Spec PyProof.Rows
def af:=@of_decide_eq_true
def ag:=@decide_eq_true
def ay:=@if_neg
def bv:=@if_pos
def dh:=@decide_eq_false
def fm:=@congrArg
def iu:=@decide_eq_true_eq
def oh:=@beq_eq_false_iff_ne
end L2
namespace L2
open PySem PySem.Spec PyProof.Rows
abbrev Key:=Sum Int Str
def nK:Key->Value->Bool
 |.inl k,v=>Value.isInt k v
 |.inr x,v=>Value.isStrOf x v
def cM6(w:World):Key->Int
 |.inl k=>hashInt k
 |.inr x=>hashStr w x
theorem cJ:∀{k:Key}{v:Value},nK k v=true->(∃i t,k=Sum.inl i/\v=Value.int i t)\/(∃x t,k=Sum.inr x/\v=Value.str x t)
 |.inl i,v,h=>by
  obtain⟨t,e⟩:=Value.isInt_shape (k:=i) (v:=v) h
  exact .inl ⟨i,t,rfl,e⟩
 |.inr x,v,h=>by
  obtain⟨t,e⟩:=Value.isStrOf_shape (x:=x) (v:=v) h
  exact .inr ⟨x,t,rfl,e⟩
theorem oY(i:Int)(t:Tok):nK (.inl i) (.int i t)=true:=by simp[nK,Value.isInt]
theorem oU(x:Str)(t:Tok):nK (.inr x) (.str x t)=true:=by simp[nK,Value.isStrOf]
theorem bX2(a b:Int):decide ((Sum.inl a:Key)=Sum.inl b)=(a==b):=by
 by_cases e:a=b
 ·subst e;simp
 ·have h:¬(Sum.inl a:Key)=Sum.inl b:=fun q=>e (Sum.inl.inj q)
  rw[dh h]
  exact(oh.mpr e).symm
theorem bS5(a b:Str):decide ((Sum.inr a:Key)=Sum.inr b)=decide (a=b):=by
 by_cases e:a=b
 ·subst e;simp
 ·have h:¬(Sum.inr a:Key)=Sum.inr b:=fun q=>e (pz q)
  rw[dh h,dh e]
theorem bO7(a:Int)(b:Str):decide ((Sum.inl a:Key)=Sum.inr b)=false:=dh (fun q=>nomatch q)
theorem bW2(a:Str)(b:Int):decide ((Sum.inr a:Key)=Sum.inl b)=false:=dh (fun q=>nomatch q)
def bY(prog:Program)(w:World):PySem.KeyKind prog w Key where
 is:=nK
 hash:=cM6 w
 inj:=fun v a b ha hb=>by
  rcases cJ ha with⟨i,t,rfl,rfl⟩|⟨x,t,rfl,rfl⟩
  ·rcases cJ hb with⟨j,u,rfl,e⟩|⟨y,u,rfl,e⟩
   ·injection e with e1 _;rw[e1]
   ·exact nomatch e
  ·rcases cJ hb with⟨j,u,rfl,e⟩|⟨y,u,rfl,e⟩
   ·exact nomatch e
   ·injection e with e1 _;rw[e1]
 byValue:=fun k v h=>by
  rcases cJ h with⟨i,t,rfl,rfl⟩|⟨x,t,rfl,rfl⟩<;>rfl
 pyHash:=fun hv h=>by
  rcases cJ hv with⟨i,t,rfl,rfl⟩|⟨x,t,rfl,rfl⟩
  ·exact wpAny_pyHash_int h
  ·exact wpAny_pyHash_str h
 eqBool:=fun hu hv h=>by
  rcases cJ hu with⟨i,t,rfl,rfl⟩|⟨x,t,rfl,rfl⟩
  ·rcases cJ hv with⟨j,u,rfl,rfl⟩|⟨y,u,rfl,rfl⟩
   ·rw[bX2] at h;exact wpAny_eqBool_int h
   ·rw[bO7] at h;exact xx i t y u _ _ _ _ h
  ·rcases cJ hv with⟨j,u,rfl,rfl⟩|⟨y,u,rfl,rfl⟩
   ·rw[bW2] at h;exact xy x t j u _ _ _ _ h
   ·rw[bS5] at h;exact wpAny_eqBool_str h
 «strs» :=fun k x t v h=>by
  rcases cJ h with⟨i,u,rfl,e⟩|⟨y,u,rfl,e⟩
  ·exact nomatch e
  ·injection e with e1 _
   subst e1
   cases v<;>rfl
theorem xZ(prog:Program)(w:World)(i:Int)(t:Tok):(bY prog w).is (.inl i) (.int i t)=true:=oY i t
theorem wH(prog:Program)(w:World)(x:Str)(t:Tok):(bY prog w).is (.inr x) (.str x t)=true:=oU x t
inductive V where
 |non|bl (b:Bool)|int (i:Int)|str (x:Str)|byt (b:Array UInt8)|flt (b:UInt64)|ref (a:Addr)|ty (n:String)
 deriving DecidableEq
def bC:V->Value->Prop
 |.non,u=>u=Value.none
 |.bl b,u=>u=Value.bool b
 |.int i,u=>∃t,u=Value.int i t
 |.str x,u=>∃t,u=Value.str x t
 |.byt b,u=>∃t,u=Value.bytes b t
 |.flt b,u=>∃t,u=Value.float b t
 |.ref a,u=>u=Value.ref a
 |.ty n,u=>u=Value.type n
abbrev bB:List V->List Value->Prop:=Paired bC
theorem bB.length{xs:List V}{us:List Value}(r:bB xs us):xs.length=us.length:=lg r
theorem bB.get:∀{xs:List V}{us:List Value}{i:Nat}{x:V},bB xs us->xs[i]?=some x->∃u,us[i]?=some u/\bC x u
 |_,_,_,_,.nil,e=>by simp at e
 |_,_,0,_,.cons r _,e=>by simp at e;subst e;exact⟨_,rfl,r⟩
 |_,_,i+1,x,.cons _ t,e=>by
  obtain⟨u,h1,h2⟩:=bB.get (i:=i) (x:=x) t (by simpa using e)
  exact⟨u,by simpa using h1,h2⟩
theorem bB.set{x:V}{u:Value}(r:bC x u):∀{xs:List V}{us:List Value}(i:Nat),bB xs us->bB (xs.set i x) (us.set i u)
 |_,_,_,.nil=> .nil
 |_,_,0,.cons _ t=> .cons r t
 |_,_,i+1,.cons q t=> .cons q (bB.set r i t)
theorem bB.append:∀{xs ys:List V}{us ws:List Value},bB xs us->bB ys ws->bB (xs++ys) (us++ws)
 |_,_,_,_,.nil,s=>s
 |_,_,_,_,.cons r t,s=> .cons r (bB.append t s)
theorem bB.take:∀{xs:List V}{us:List Value}(n:Nat),bB xs us->bB (xs.take n) (us.take n)
 |_,_,0,_=> .nil
 |_,_,_+1,.nil=> .nil
 |_,_,n+1,.cons r t=> .cons r (bB.take n t)
theorem bB.drop:∀{xs:List V}{us:List Value}(n:Nat),bB xs us->bB (xs.drop n) (us.drop n)
 |_,_,0,r=>r
 |_,_,_+1,.nil=> .nil
 |_,_,n+1,.cons _ t=>bB.drop n t
def jM:Option V->Option Value->Prop
 |some v,some u=>bC v u
 |none,none=>True
 |_,_=>False
def KV{κ:Type}:List (κ×V)->List (κ×Value)->Prop:=Paired fun(p:κ×V) (q:κ×Value)=>p.1=q.1/\bC p.2 q.2
def kV:Key->V
 |.inl i=> .int i
 |.inr x=> .str x
inductive HO where
 |lst (xs:List V)
 |tup (xs:List V)
 |dK (kvs:List (Key×V))|dT (kvs:List (List Key×V))
 |set (S:Int->Bool) (n:Nat)
 |ins (C dx:Addr) (fs:List (Str×V))
 |own (x:Addr)
 |xd (fs:List (Str×V))
 |met (f x:Addr)
 |rng (lo hi:Int)
 |frz (o:Obj) (u:HO)
 |tbl (ps:Array Value)
 |ext (φ:Heap->Prop)
abbrev Hp:=Addr->Option HO
def aO(H:Hp)(a:Addr)(o:HO):Hp:=fun b=>if b=a then some o else H b
theorem aC{H:Hp}{a:Addr}{o:HO}:aO H a o a=some o:=by unfold aO;rw[bv rfl]
theorem aH{H:Hp}{a b:Addr}{o:HO}(h:b≠a):aO H a o b=H b:=by unfold aO;rw[ay h]
theorem bG6{H:Hp}{a:Addr}{o u:HO}:aO (aO H a o) a u=aO H a u:=by
 funext b;unfold aO;split<;>rfl
theorem gH{H:Hp}{a b:Addr}{o u:HO}(h:H a=some o)(h':H b=some u)(d:o≠u):a≠b:=by
 intro e;subst e;rw[h] at h';exact d (di h')
theorem aI{H:Hp}{a b:Addr}{o:HO}(h:H a=some o)(h':H b=none):a≠b:=by
 intro e;subst e;rw[h] at h';cases h'
def lE(h:Heap)(a:Addr)(its:Array Value):Prop:=∃o,h.get? a=some o/\o.cls= .type "tuple"/\∃n,o.data= .seq its n/\o.dict=none
theorem lE.is{h:Heap}{a:Addr}{its:Array Value}(x:lE h a its):IsTup h a its:=by obtain⟨o,e,c,n,d,_⟩:=x;exact⟨o,e,c,n,d⟩
theorem lE.new(h:Heap)(its:Array Value):lE (h.push { cls:= .type "tuple",data:= .seq its }) h.objs.size its:=⟨_,bc _ rfl,rfl,_,rfl,rfl⟩
section
variable (P:Program) (w:World)
def bW(H:Hp)(h:Heap)(a:Addr):HO->Prop
 |.lst xs=>xs.length<=sizeLine/\∃(its:List Value) (n:Nat),bB xs its/\h.get? a=some { cls:= .type "list",data:= .seq its.toArray n }
 |.tup xs=>xs.length<=sizeLine/\∃its:List Value,bB xs its/\lE h a its.toArray
 |.dK kvs=>kvs.length<=sizeLine/\(a==sysModules)=false/\∃vs,KV kvs vs/\h.DictOf (bY P w) a vs
 |.dT kvs=>kvs.length<=sizeLine/\(a==sysModules)=false/\∃xs:List (List Key×Addr×Value),
   Paired (fun(p:List Key×V) (q:List Key×Addr×Value)=>p.1=q.1/\H q.2.1=some (.tup (p.1.map kV))/\bC p.2 q.2.2) kvs xs /\
   ∃o es ep,h.get? a=some o/\o.ExactDict/\o.data= .dict es ep/\es.toList=xs.map (entryOfKey (tupleKind (bY P w)))/\(xs.map (·.1)).Nodup
 |.set S n=>h.SetOf (intKind P w) a S n
 |.ins C dx fs=>H dx=some (.own a)/\fs.length<=1000/\dx≠a/\h.get? a=some (PySem.W.instObj C dx) /\
   ∃mA,h.Ns1 dx mA/\(∀f,jM (fs.lookup f) (mA f))/\PySem.Within mA (fs.map (·.1))
 |.own _=>∃o,h.get? a=some o
 |.xd fs=>∃mA,h.Ns1 a mA/\∀f,jM (fs.lookup f) (mA f)
 |.rng lo hi=>∃t u v,h.get? a=some { cls:= .type "range",data:= .fields #[.int lo t,.int hi u,.int 1 v] }
 |.frz o u=>h.get? a=some o/\bW H h a u
 |.tbl ps=>h.get? a=some { cls:= .none,data:= .fields ps }
 |.met f x=>h.get? a=some (PySem.W.methodObj (.ref f) (.ref x))
 |.ext φ=>φ h/\(∃o,h.get? a=some o)/\∀h1 h2:Heap,φ h1->(∀o,h1.get? a=some o->h2.get? a=some o)->φ h2
def kA(H:Hp)(h:Heap):Prop:=∀a o,H a=some o->bW P w H h a o
end
section
variable {P:Program}{w:World}{H H':Hp}{h h':Heap}{a:Addr}{o:HO}
theorem bW.lt(x:bW P w H h a o):a<h.objs.size:=by
 cases o with
 |lst xs=>obtain⟨_,_,_,_,e⟩:=x;exact ao e
 |tup xs=>obtain⟨_,_,_,p⟩:=x;exact p.is.lt
 |dK kvs=>obtain⟨_,_,_,_,o,_,_,e,_⟩:=x;exact ao e
 |dT kvs=>obtain⟨_,_,_,_,o,_,_,e,_⟩:=x;exact ao e
 |set S n=>obtain⟨o,_,_,_,e,_⟩:=x;exact ao e
 |ins C dx fs=>obtain⟨_,_,_,e,_⟩:=x;exact ao e
 |own y=>obtain⟨_,e⟩:=x;exact ao e
 |xd fs=>obtain⟨_,⟨_,_,_,e,_⟩,_⟩:=x;exact ao e
 |rng lo hi=>obtain⟨_,_,_,e⟩:=x;exact ao e
 |frz ob u=>obtain⟨e,_⟩:=x;exact ao e
 |tbl ps=>exact ao (show h.get? a=some _ from x)
 |met f y=>exact ao (show h.get? a=some _ from x)
 |ext φ=>obtain⟨_,⟨_,e⟩,_⟩:=x;exact ao e
theorem Paired.mapP{α β:Type}{F G:α->β->Prop}:∀{l₁:List α}{l₂:List β},Paired F l₁ l₂->(∀a b,F a b->G a b)->Paired G l₁ l₂
 |_,_,.nil,_=> .nil
 |_,_,.cons r t,f=> .cons (f _ _ r) (Paired.mapP t f)
theorem bW.stay(x:bW P w H h a o)(k:∀b u,(b=a\/H b=some (.own a))->h.get? b=some u->h'.get? b=some u)
  (ho:∀b,H b=some (.own a)->H' b=some (.own a)) (ht:∀b xs,H b=some (.tup xs)->H' b=some (.tup xs)):bW P w H' h' a o:=by
 induction o with
 |lst xs=>obtain⟨z,its,n,r,e⟩:=x;exact⟨z,its,n,r,k _ _ (.inl rfl) e⟩
 |tup xs=>obtain⟨z,its,r,ob,e,c⟩:=x;exact⟨z,its,r,ob,k _ _ (.inl rfl) e,c⟩
 |dK kvs=>obtain⟨z,y,vs,r,ob,es,ep,e,c⟩:=x;exact⟨z,y,vs,r,ob,es,ep,k _ _ (.inl rfl) e,c⟩
 |dT kvs =>
  obtain⟨z,y,xs,r,ob,es,ep,e,c⟩:=x
  exact⟨z,y,xs,Paired.mapP r fun p q z=>⟨z.1,ht _ _ z.2.1,z.2.2⟩,ob,es,ep,k _ _ (.inl rfl) e,c⟩
 |set S n=>obtain⟨ob,es,ep,t,e,c⟩:=x;exact⟨ob,es,ep,t,k _ _ (.inl rfl) e,c⟩
 |ins C dx fs =>
  obtain⟨d,z,ne,e,mA,⟨od,es,ep,e2,c⟩,r⟩:=x
  exact⟨ho _ d,z,ne,k _ _ (.inl rfl) e,mA,⟨od,es,ep,k _ _ (.inr d) e2,c⟩,r⟩
 |own y=>obtain⟨ob,e⟩:=x;exact⟨ob,k _ _ (.inl rfl) e⟩
 |xd fs=>obtain⟨mA,⟨od,es,ep,e,c⟩,r⟩:=x;exact⟨mA,⟨od,es,ep,k _ _ (.inl rfl) e,c⟩,r⟩
 |rng lo hi=>obtain⟨t,u,v,e⟩:=x;exact⟨t,u,v,k _ _ (.inl rfl) e⟩
 |frz ob u ih=>obtain⟨e,q⟩:=x;exact⟨k _ _ (.inl rfl) e,ih q⟩
 |tbl ps =>
  have e:h.get? a=some { cls:= .none,data:= .fields ps }:=x
  show h'.get? a=some { cls:= .none,data:= .fields ps }
  exact k a _ (.inl rfl) e
 |met f y =>
  have e:h.get? a=some (PySem.W.methodObj (.ref f) (.ref y)):=x
  show h'.get? a=some (PySem.W.methodObj (.ref f) (.ref y))
  exact k a _ (.inl rfl) e
 |ext φ=>obtain⟨p,⟨o,e⟩,st⟩:=x;exact⟨st _ _ p fun o q=>k _ _ (.inl rfl) q,⟨o,k _ _ (.inl rfl) e⟩,st⟩
theorem kA.lt(x:kA P w H h)(e:H a=some o):a<h.objs.size:=(x a o e).lt
theorem kA.fresh(x:kA P w H h)(e:h.objs.size<=a):H a=none:=by
 cases q:H a with
 |none=>rfl
 |some u=>exact absurd (bw (x.lt q) e) (gk _)
theorem kA.kept(x:kA P w H h)(k:∀b u,h.get? b=some u->h'.get? b=some u):kA P w H h':=fun a o e =>
 (x a o e).stay (fun b u _ q=>k b u q) (fun _ q=>q) fun _ _ q=>q
theorem kA.laid(x:kA P w H h)(k:∀b u,h.get? b=some u->h'.get? b=some u)(hp:h.objs.size<=a)(new:bW P w (aO H a o) h' a o):kA P w (aO H a o) h':=fun b u e=>by
 have hn:=x.fresh hp
 by_cases hb:b=a
 ·subst hb;rw[aC] at e;cases e;exact new
 ·rw[aH hb] at e
  exact(x b u e).stay (fun c v _ q=>k c v q) (fun c q=>by rw[aH (aI q hn)];exact q) fun c xs q=>by rw[aH (aI q hn)];exact q
end
def Rd(H:Hp)(a:Addr)(u:HO):Prop:=H a=some u\/∃o,H a=some (.frz o u)
theorem Rd.ok{P:Program}{w:World}{H:Hp}{h:Heap}{a:Addr}{u:HO}(r:Rd H a u)(x:kA P w H h):bW P w H h a u:=by
 rcases r with r|⟨o,r⟩
 ·exact x a u r
 ·obtain⟨_,q⟩:=x a _ r
  exact q
def Mut:Option HO->Prop
 |some (.lst _)=>True
 |some (.dK _)=>True
 |some (.dT _)=>True
 |some (.set _ _)=>True
 |some (.ins _ _ _)=>True
 |some (.ext _)=>True
 |_=>False
section
variable {P:Program}{w:World}{H:Hp}{h h':Heap}{x e:Addr}{o':HO}
theorem kA.write(ok:kA P w H h)(mu:Mut (H x))(he:e=x\/H e=some (.own x))(k:∀b u,b≠e->h.get? b=some u->h'.get? b=some u)(heo:∃u,h'.get? e=some u)
  (new:bW P w (aO H x o') h' x o'):kA P w (aO H x o') h':=fun b u q=>by
 have nown:∀c y,H c=some (.own y)->c≠x:=fun c y r z=>by subst z;rw[r] at mu;exact mu
 have ntup:∀c xs,H c=some (.tup xs)->c≠x:=fun c xs r z=>by subst z;rw[r] at mu;exact mu
 by_cases hb:b=x
 ·subst hb;rw[aC] at q;cases q;exact new
 ·rw[aH hb] at q
  by_cases hbe:b=e
  ·have q':H b=some (.own x):=by
    rcases he with z|z
    ·exact absurd (hbe.trans z) hb
    ·rw[hbe];exact z
   rw[q] at q';cases q'
   obtain⟨v,hv⟩:=heo
   exact⟨v,by rw[hbe];exact hv⟩
  ·refine(ok b u q).stay (fun c v hc r=>k c v ?_ r) (fun c r=>by rw[aH (nown c b r)];exact r) fun c xs r=>by rw[aH (ntup c xs r)];exact r
   rcases hc with rfl|hc
   ·exact hbe
   ·rintro rfl
    rcases he with z|z
    ·exact nown c b hc z
    ·rw[hc] at z;cases z;exact hb rfl
end
structure Un(fs ex:List Addr)(H H':Hp)(h h':Heap):Prop where
 keep:∀b o,h.get? b=some o->H b=none->b∉fs->b∉ex->h'.get? b=some o
 slot:∀b o,h.get? b=some o->H b=none->b∈fs->b∉ex->∃sl,h'.get? b=some { o with slots:=sl }
 free:∀b o,h.get? b=some o->H b=none->b∉ex->H' b=none
 there:∀b o,h.get? b=some o->b∉ex->∃o',h'.get? b=some o'
 tups:∀b xs,H b=some (.tup xs)->H' b=some (.tup xs)
 frzs:∀b o u,H b=some (.frz o u)->H' b=some (.frz o u)
 tbls:∀b ps,H b=some (.tbl ps)->∃more,H' b=some (.tbl (ps++more))
section
variable {fs fs' ex ex':List Addr}{H H1 H2:Hp}{h h1 h2 h':Heap}{a x e:Addr}{o:HO}
theorem Un.any(u:Un fs ex H H1 h h1){b:Addr}{ob:Obj}(q:h.get? b=some ob)(n:H b=none)(hx:b∉ex):∃sl,h1.get? b=some { ob with slots:=sl }:=by
 by_cases hb:b∈fs
 ·exact u.slot b ob q n hb hx
 ·exact⟨ob.slots,u.keep b ob q n hb hx⟩
theorem Un.kept(k:∀b u,h.get? b=some u->h'.get? b=some u):Un fs ex H H h h':=
 ⟨fun b ob q _ _ _=>k b ob q,fun b ob q _ _ _=>⟨ob.slots,k b ob q⟩,fun _ _ _ n _=>n,fun b ob q _=>⟨ob,k b ob q⟩,fun _ _ q=>q,fun _ _ _ q=>q,fun _ ps q=>⟨#[],by rw[q];simp⟩⟩
theorem Un.refl:Un fs ex H H h h:=Un.kept fun _ _ q=>q
theorem Un.laid(k:∀b u,h.get? b=some u->h'.get? b=some u)(hp:h.objs.size<=a)(hn:H a=none):Un fs ex H (aO H a o) h h' where
 keep:=fun b u q _ _ _=>k b u q
 slot:=fun b u q _ _ _=>⟨u.slots,k b u q⟩
 free:=fun b u q n _=>by rw[aH (cg (bw (ao q) hp))];exact n
 there:=fun b u q _=>⟨u,k b u q⟩
 tups:=fun b xs q=>by rw[aH (aI q hn)];exact q
 frzs:=fun b u xs q=>by rw[aH (aI q hn)];exact q
 tbls:=fun b ps q=>⟨#[],by rw[aH (aI q hn),q];simp⟩
theorem Un.write(mu:Mut (H x))(he:e=x\/H e=some (.own x))(k:∀b u,b≠e->h.get? b=some u->h'.get? b=some u)(heo:∃u,h'.get? e=some u):Un fs ex H (aO H x o) h h':=by
 have hx:∀b,H b=none->b≠x:=fun b n z=>by subst z;rw[n] at mu;exact mu
 have hb:∀b,H b=none->b≠e:=fun b n z=>by
  subst z
  rcases he with r|r
  ·exact hx b n r
  ·rw[n] at r;cases r
 have hm:∀b u,H b=some u->¬Mut (some u)->b≠x:=fun b u q nm z=>by subst z;rw[q] at mu;exact nm mu
 refine⟨fun b u q n _ _=>k b u (hb b n) q,fun b u q n _ _=>⟨u.slots,k b u (hb b n) q⟩,fun b u q n _=>by rw[aH (hx b n)];exact n,fun b u q _=>?_,
  fun b xs q=>by rw[aH (hm b _ q fun z=>z)];exact q,fun b u xs q=>by rw[aH (hm b _ q fun z=>z)];exact q,fun b ps q=>⟨#[],by rw[aH (hm b _ q fun z=>z),q];simp⟩⟩
 by_cases hbe:b=e
 ·subst hbe;exact heo
 ·exact⟨u,k b u hbe q⟩
end
def trk(h:Heap)(H:Hp):List Addr:=(List.range h.objs.size).filter fun a=>(H a).isSome
def sY(h:Heap)(H:Hp):Heap:=PySem.W.hideAll h (trk h H)
theorem aJ1(h:Heap)(H:Hp):(sY h H).objs.size=h.objs.size:=PySem.W.hideAll_size _ _
theorem bB9{h:Heap}{H:Hp}{b:Addr}{o:Obj}(e:h.get? b=some o)(n:H b=none):(sY h H).get? b=some o:=
 PySem.W.hideAll_get _ e fun hm=>by
  have q:(H b).isSome=true:=(qt.mp hm).2
  rw[n] at q;simp at q
theorem bK9{h:Heap}{H:Hp}{b:Addr}{o:Obj}(e:(sY h H).get? b=some o):h.get? b=some o/\H b=none:=by
 have e':h.get? b=some o:=PySem.W.of_hideAll (trk h H) e
 refine⟨e',?_⟩
 cases q:H b with
 |none=>rfl
 |some x =>
  have hm:b∈trk h H:=qt.mpr ⟨wf.mpr (ao e'),by simp[q]⟩
  have z:(sY h H).get? b=none:=PySem.W.hideAll_none (trk h H) hm
  rw[z] at e;cases e
def bD6(g h:Heap)(L:Addr):List (Addr×Obj):=(List.range h.objs.size).filterMap fun a=>if a=L\/(g.get? a).isSome=true then none else (h.get? a).map fun o=>(a,o)
def cS(g h:Heap)(L d:Addr):List (Addr×Obj):=(bD6 g h L).filter fun p=>decide (p.1≠d)
structure Mod(K:PySem.W.Frag)(mg:Str->Option Value)(base:Heap):Prop where
 kin:K.In base
 glob:base.Ns mainGlobals mg
 blt:∃mb,base.Ns builtinsNs mb/\∀x:Str,x≠"__name__"->mb x=bootBuiltins x
 nolimit:base.NoLimit
structure Cx where
 prog:Program
 w:World
 K:PySem.W.Frag
 mg:Str->Option Value
 base:Heap
 A:Around
 N:List Str
 s₀:Shared
 H₀:Hp
 env:Env
 outer:List Env
 stack:List Env
 ex:List Addr
 fn:Str->Bool
 calm:Bool
 pn:List (Addr×Obj)
 xe:Value->Shared->Prop
def jH(l:List Env):List Addr:=l.filterMap (·.frame)
abbrev Cx.fs(X:Cx):List Addr:=jH X.outer
def Vis(sc:Scope)(x:Str):Prop:=sc.names.lookup x=some .local\/sc.names.lookup x=some .cell\/sc.names.lookup x=some .free
def Loc(sc:Scope)(x:Str):Prop:=sc.names.lookup x=some .local\/sc.names.lookup x=some .cell
def cG3(env:Env)(h:Heap)(m:Str->Option Value)(x:Str)(u:Value):Prop:=
 (env.kindOf x=some .local/\m x=some u)\/((env.kindOf x=some .cell\/env.kindOf x=some .free)/\∃c,env.cells.lookup x=some c/\h.IsCell c (some u))
structure Cx.Ok(X:Cx):Prop where
 mod:Mod X.K X.mg X.base
 kind:X.env.scope.kind= .function
 glob:X.env.globals=mainGlobals
 blt:X.env.builtins=builtinsNs
 above:X.s₀.heap.objs.size<=X.env.locals
 inj:∀x y c,X.env.cells.lookup x=some c->X.env.cells.lookup y=some c->x=y
 has:∀x,(X.env.kindOf x=some .cell\/X.env.kindOf x=some .free)->∃c,X.env.cells.lookup x=some c
 cab:∀x c,X.fn x=true->X.env.cells.lookup x=some c->X.s₀.heap.objs.size<=c
 hd:X.calm=true->X.A.handled=none
 frames:X.A.frames=some X.stack
 stk:X.stack=X.outer\/(X.stack=X.env::X.outer/\X.env.frame=some X.env.locals)
 exf:∀b∈X.ex,b≠X.env.locals/\∀x c,X.env.cells.lookup x=some c->c≠b
 bs:∀b o,X.base.get? b=some o->X.s₀.heap.get? b=some o/\X.H₀ b=none
 bsz:X.base.objs.size<=X.s₀.heap.objs.size
 noex:∀b o,X.base.get? b=some o->b∉X.ex
 exfs:∀b∈X.ex,b∉X.fs
 funs:X.s₀.heap.FunFrames X.base X.outer
 frf:∀b∈X.fs,X.H₀ b=none
structure aQ(X:Cx)(pins:List (Addr×Obj))(σ:List (Option V))(H:Hp)(s:Shared):Prop where
 ok:X.Ok
 os:s.os=X.s₀.os
 bare:AllBare s.gens
 base:Un X.fs X.ex X.H₀ H X.s₀.heap s.heap
 loc:∃m,s.heap.Ns X.env.locals m/\∀(i:Nat) (x:Str) (v:V),X.N[i]?=some x->σ[i]?=some (some v)->Vis X.env.scope x->∃u,bC v u/\cG3 X.env s.heap m x u
 cell:∀x c,X.env.cells.lookup x=some c->∃v,s.heap.IsCell c v
 free:H X.env.locals=none
 freeC:∀x c,X.env.cells.lookup x=some c->H c=none
 pin:∀p∈X.pn++pins,s.heap.get? p.1=some p.2/\H p.1=none/\p.1≠X.env.locals/\p.1∉X.fs/\∀v,p.2.data≠ .cell v
 hok:kA X.prog X.w H s.heap
 len:σ.length=X.N.length
section
variable {X:Cx}{pins:List (Addr×Obj)}{σ:List (Option V)}{H H':Hp}{s:Shared}{h':Heap}
theorem Cx.Ok.nofr(ok:X.Ok){b:Addr}{o:Obj}(e:X.base.get? b=some o):b∉X.fs:=fun hb=>by
 have:=(ok.funs.mem hb).1
 rw[e] at this;cases this
theorem aQ.bs(I:aQ X pins σ H s):∀b o,X.base.get? b=some o->s.heap.get? b=some o/\H b=none:=fun b o e =>
 ⟨I.base.keep b o (I.ok.bs b o e).1 (I.ok.bs b o e).2 (I.ok.nofr e) (I.ok.noex b o e),I.base.free b o (I.ok.bs b o e).1 (I.ok.bs b o e).2 (I.ok.noex b o e)⟩
theorem aQ.bk(I:aQ X pins σ H s):∀b o,X.base.get? b=some o->s.heap.get? b=some o:=fun b o e=>(I.bs b o e).1
theorem aQ.mod(I:aQ X pins σ H s):Mod X.K X.mg X.base:=I.ok.mod
theorem aQ.kIn(I:aQ X pins σ H s):X.K.In s.heap:=I.ok.mod.kin.keeps I.bk
theorem aQ.lt(I:aQ X pins σ H s):X.env.locals<s.heap.objs.size:=by obtain⟨_,hn,_⟩:=I.loc;exact hn.lt
theorem aQ.sz(I:aQ X pins σ H s):X.s₀.heap.objs.size<=s.heap.objs.size:=db I.ok.above (cu I.lt)
theorem aQ.nofs(I:aQ X pins σ H s){a:Addr}(h:s.heap.objs.size<=a):a∉X.fs:=fun hb=>by
 obtain⟨_,o,ho,_⟩:=I.ok.funs.mem hb
 exact absurd (bw (ao ho) (db I.sz h)) (gk _)
theorem aQ.cne(I:aQ X pins σ H s):∀x c,X.env.cells.lookup x=some c->c≠X.env.locals:=fun x c e z=>by
 obtain⟨v,o,ho,hd⟩:=I.cell x c e
 obtain⟨m,⟨o',es,ep,ho',hd',_⟩,_⟩:=I.loc
 rw[z,ho'] at ho;cases ho;rw[hd'] at hd;cases hd
theorem aQ.funs(I:aQ X pins σ H s):s.heap.FunFrames X.base X.outer:=by
 have all:∀(l:List Env),(∀b∈jH l,b∈X.fs)->X.s₀.heap.FunFrames X.base l->s.heap.FunFrames X.base l:=by
  intro l
  induction l with
  |nil=>intro _ _;trivial
  |cons env r ih =>
   intro hs hl
   obtain⟨hk,⟨L,o,hf,hn,ho,hd⟩,hr⟩:=hl
   have hL:L∈X.fs:=hs L (by unfold jH;rw[oi,hf];exact az)
   obtain⟨sl,e⟩:=I.base.slot L o ho (I.ok.frf L hL) hL fun z=>I.ok.exfs L z hL
   exact⟨hk,⟨L,_,hf,hn,e,hd⟩,ih (fun b hb=>hs b (by unfold jH;rw[oi,hf];exact av _ hb)) hr⟩
 exact all X.outer (fun _ hb=>hb) I.ok.funs
theorem aQ.stack(I:aQ X pins σ H s):s.heap.FunFrames X.base X.stack:=by
 rcases I.ok.stk with e|⟨e,hf⟩
 ·rw[e];exact I.funs
 ·rw[e]
  obtain⟨m,hn,_⟩:=I.loc
  refine .cons (by rw[I.ok.kind];decide) hf hn ?_ I.funs
  exact ww (db I.ok.bsz I.ok.above)
theorem aQ.stkSub(I:aQ X pins σ H s):∀b∈jH X.stack,b∈X.env.locals::X.fs:=fun b hb=>by
 rcases I.ok.stk with e|⟨e,hf⟩
 ·rw[e] at hb;exact av _ hb
 ·rw[e] at hb
  unfold jH at hb
  rw[oi,hf] at hb
  exact hb
theorem aQ.stkFree(I:aQ X pins σ H s):∀b∈jH X.stack,H b=none:=fun b hb=>by
 rcases cj.mp (I.stkSub b hb) with e|hb
 ·rw[e];exact I.free
 ·obtain⟨_,o,ho,_⟩:=I.ok.funs.mem hb
  exact I.base.free b o ho (I.ok.frf b hb) fun z=>I.ok.exfs b z hb
theorem aQ.step{g':Array GenState}{t':Nat}{d':Drawn}{ch:List Addr}(I:aQ X pins σ H s)
  (hch:∀b∈ch,(b∈X.ex\/X.s₀.heap.objs.size<=b)/\b≠X.env.locals/\(∀x c,X.env.cells.lookup x=some c->c≠b)/\∀p∈X.pn++pins,p.1≠b)
  (keep:∀b o,b≠X.env.locals->b∉X.fs->b∉ch->s.heap.get? b=some o->H b=none->h'.get? b=some o)
  (slot:∀b o,b≠X.env.locals->b∈X.fs->b∉ch->s.heap.get? b=some o->H b=none->∃sl,h'.get? b=some { o with slots:=sl }) (free:∀b o,b∉ch->s.heap.get? b=some o->H b=none->H' b=none)
  (there:∀b o,b∉ch->s.heap.get? b=some o->∃o',h'.get? b=some o')
  (tups:∀b xs,H b=some (.tup xs)->H' b=some (.tup xs)) (frzs:∀b o u,H b=some (.frz o u)->H' b=some (.frz o u)) (tbls:∀b ps,H b=some (.tbl ps)->∃more,H' b=some (.tbl (ps++more)))
  (ns:∀m,s.heap.Ns X.env.locals m->h'.Ns X.env.locals m) (hok:kA X.prog X.w H' h') (hg:AllBare g') :
  aQ X pins σ H' { s with heap:=h',gens:=g',drawn:=d',toks:=t' }:=by
 have neL:∀b o,X.s₀.heap.get? b=some o->b≠X.env.locals:=fun b o e=>cg (bw (ao e) I.ok.above)
 have neC:∀b o,X.s₀.heap.get? b=some o->b∉X.ex->b∉ch:=fun b o e hx hb=>by
  rcases(hch b hb).1 with z|z
  ·exact hx z
  ·exact absurd (bw (ao e) z) (gk _)
 have cellK:∀x c,X.env.cells.lookup x=some c->∀v,s.heap.IsCell c v->h'.IsCell c v:=fun x c e v ⟨o,ho,hd⟩=>by
  have nch:c∉ch:=fun z=>(hch c z).2.2.1 x c e rfl
  by_cases hc:c∈X.fs
  ·obtain⟨sl,q⟩:=slot c o (I.cne x c e) hc nch ho (I.freeC x c e)
   exact⟨_,q,hd⟩
  ·exact⟨o,keep c o (I.cne x c e) hc nch ho (I.freeC x c e),hd⟩
 refine⟨I.ok,I.os,hg,⟨fun b o e n hb hx=>?_,fun b o e n hb hx=>?_,fun b o e n hx=>?_,fun b o e hx=>?_,fun b xs e=>tups b xs (I.base.tups b xs e),fun b o xs e=>frzs b o xs (I.base.frzs b o xs e),fun b ps e=>?_⟩,?_,fun x c e=>?_,?_,fun x c e=>?_,fun p hp=>?_,hok,I.len⟩
 ·exact keep b o (neL b o e) hb (neC b o e hx) (I.base.keep b o e n hb hx) (I.base.free b o e n hx)
 ·obtain⟨sl,e1⟩:=I.base.slot b o e n hb hx
  obtain⟨sl',e2⟩:=slot b _ (neL b o e) hb (neC b o e hx) e1 (I.base.free b o e n hx)
  exact⟨sl',e2⟩
 ·obtain⟨o',e1⟩:=I.base.there b o e hx
  exact free b o' (neC b o e hx) e1 (I.base.free b o e n hx)
 ·obtain⟨o',e1⟩:=I.base.there b o e hx
  exact there b o' (neC b o e hx) e1
 ·obtain⟨m1,e1⟩:=I.base.tbls b ps e
  obtain⟨m2,e2⟩:=tbls b _ e1
  exact⟨m1++m2,by rw[e2,Array.append_assoc]⟩
 ·obtain⟨m,hn,hl⟩:=I.loc
  refine⟨m,ns m hn,fun i x v e1 e2 e3=>?_⟩
  obtain⟨u,r,l⟩:=hl i x v e1 e2 e3
  refine⟨u,r,?_⟩
  rcases l with l|⟨k,c,e,z⟩
  ·exact .inl l
  ·exact .inr ⟨k,c,e,cellK x c e _ z⟩
 ·obtain⟨v,z⟩:=I.cell x c e
  exact⟨v,cellK x c e v z⟩
 ·obtain⟨m,⟨o,_,_,ho,_⟩,_⟩:=I.loc
  exact free _ o (fun z=>(hch _ z).2.1 rfl) ho I.free
 ·obtain⟨v,o,ho,hd⟩:=I.cell x c e
  exact free c o (fun z=>(hch c z).2.2.1 x c e rfl) ho (I.freeC x c e)
 ·obtain⟨e,n,ne,nf,d⟩:=I.pin p hp
  have nch:p.1∉ch:=fun z=>(hch p.1 z).2.2.2 p hp rfl
  exact⟨keep p.1 p.2 ne nf nch e n,free p.1 p.2 nch e n,ne,nf,d⟩
theorem aQ.un{t':Nat}(I:aQ X pins σ H s)(u:Un X.fs [] H H' s.heap h')(hok:kA X.prog X.w H' h'):aQ X pins σ H' { s with heap:=h',toks:=t' }:=by
 obtain⟨m,⟨o,es,ep,ho,r⟩,_⟩:=id I.loc
 obtain⟨sl,hL⟩:=u.any ho I.free (by simp)
 exact I.step (g':=s.gens) (d':=s.drawn) (ch:=[]) (fun _ z=>nomatch z) (fun b o _ hb _ e n=>u.keep b o e n hb (by simp)) (fun b o _ hb _ e n=>u.slot b o e n hb (by simp)) (fun b o _ e n=>u.free b o e n (by simp)) (fun b o _ e=>u.there b o e (by simp)) u.tups u.frzs u.tbls (fun m' hm=>by
  obtain⟨o',es',ep',ho',r'⟩:=hm
  rw[ho] at ho';cases ho'
  exact⟨_,es',ep',hL,r'⟩) hok I.bare
theorem aQ.call{g':Array GenState}{t':Nat}{d':Drawn}{ch:List Addr}(I:aQ X pins σ H s)(u:Un (jH X.stack) ch H H' s.heap h')(hok:kA X.prog X.w H' h')(hg:AllBare g')
  (hch:∀b∈ch,(b∈X.ex\/X.s₀.heap.objs.size<=b)/\b≠X.env.locals/\(∀x c,X.env.cells.lookup x=some c->c≠b)/\∀p∈X.pn++pins,p.1≠b) :
  aQ X pins σ H' { s with heap:=h',gens:=g',drawn:=d',toks:=t' }:=by
 obtain⟨m,⟨o,es,ep,ho,r⟩,_⟩:=id I.loc
 obtain⟨sl,hL⟩:=u.any ho I.free fun z=>(hch _ z).2.1 rfl
 exact I.step (ch:=ch) hch (fun b o hL hb hc e n=>u.keep b o e n (fun z=>(cj.mp (I.stkSub b z)).elim hL hb) hc) (fun b o _ _ hc e n=>u.any e n hc) (fun b o hc e n=>u.free b o e n hc) (fun b o hc e=>u.there b o e hc) u.tups u.frzs u.tbls (fun m' hm=>by
  obtain⟨o',es',ep',ho',r'⟩:=hm
  rw[ho] at ho';cases ho'
  exact⟨_,es',ep',hL,r'⟩) hok hg
theorem aQ.turned{t':Nat}{it:Addr}(I:aQ X pins σ H s)(k:∀b o,b≠it->s.heap.get? b=some o->h'.get? b=some o)(hn:H it=none)(hL:it≠X.env.locals)
  (h1:it∈X.ex\/X.s₀.heap.objs.size<=it) (h2:∀x c,X.env.cells.lookup x=some c->c≠it) (h3:∀p∈X.pn++pins,p.1≠it):aQ X pins σ H { s with heap:=h',toks:=t' }:=by
 have nit:∀b u,H b=some u->b≠it:=fun b u e z=>by rw[z,hn] at e;cases e
 refine I.step (g':=s.gens) (d':=s.drawn) (ch:=[it]) (fun b hb=>?_) (fun b o _ _ hc e _=>k b o (fun z=>hc (by simp[z])) e) (fun b o _ _ hc e _=>⟨o.slots,k b o (fun z=>hc (by simp[z])) e⟩) (fun _ _ _ _ n=>n)
  (fun b o hc e=>⟨o,k b o (fun z=>hc (by simp[z])) e⟩) (fun _ _ e=>e) (fun _ _ _ e=>e) (fun b ps e=>⟨#[],by rw[e];simp⟩) (fun m hm=>?_) (fun b u e=>?_) I.bare
 ·have e:b=it:=by simpa using hb
  subst e
  exact⟨h1,hL,h2,h3⟩
 ·obtain⟨o,es,ep,ho,r⟩:=hm
  exact⟨o,es,ep,k _ o (Ne.symm hL) ho,r⟩
 ·refine(I.hok b u e).stay (fun c v hc q=>k c v ?_ q) (fun _ q=>q) fun _ _ q=>q
  rcases hc with z|z
  ·rw[z];exact nit b u e
  ·exact nit c _ z
theorem aQ.tok(I:aQ X pins σ H s)(t:Nat):aQ X pins σ H { s with toks:=t }:=I.un (h':=s.heap) (t':=t) Un.refl I.hok
theorem aQ.kept{t':Nat}(I:aQ X pins σ H s)(k:∀b u,s.heap.get? b=some u->h'.get? b=some u):aQ X pins σ H { s with heap:=h',toks:=t' }:=I.un (Un.kept k) (I.hok.kept k)
theorem aQ.laid{a:Addr}{o:HO}{t':Nat}(I:aQ X pins σ H s)(k:∀b u,s.heap.get? b=some u->h'.get? b=some u)(hp:s.heap.objs.size<=a)(new:bW X.prog X.w (aO H a o) h' a o) :
  aQ X pins σ (aO H a o) { s with heap:=h',toks:=t' }:=I.un (Un.laid k hp (I.hok.fresh hp)) (I.hok.laid k hp new)
theorem aQ.write{x e:Addr}{o:HO}{t':Nat}(I:aQ X pins σ H s)(mu:Mut (H x))(he:e=x\/H e=some (.own x))(k:∀b u,b≠e->s.heap.get? b=some u->h'.get? b=some u)(heo:∃u,h'.get? e=some u)
  (new:bW X.prog X.w (aO H x o) h' x o):aQ X pins σ (aO H x o) { s with heap:=h',toks:=t' }:=I.un (Un.write mu he k heo) (I.hok.write mu he k heo new)
theorem aQ.pins_of{pins':List (Addr×Obj)}(I:aQ X pins σ H s)(h:∀p∈pins',s.heap.get? p.1=some p.2/\H p.1=none/\p.1≠X.env.locals/\p.1∉X.fs/\∀v,p.2.data≠ .cell v):aQ X pins' σ H s:=
 ⟨I.ok,I.os,I.bare,I.base,I.loc,I.cell,I.free,I.freeC,fun p hp=>(bz.mp hp).elim (fun z=>I.pin p (dj _ z)) (h p),I.hok,I.len⟩
theorem wL{N:List Str}(hN:N.Nodup){i j:Nat}{x:Str}(a:N[i]?=some x)(b:N[j]?=some x):i=j:=by
 obtain⟨h1,e1⟩:=ap.mp a
 obtain⟨h2,e2⟩:=ap.mp b
 exact(zk hN).mp (e1.trans e2.symm)
theorem tQ{M:Model}{A:Around}{E:Value->Shared->Prop}{i:Nat}{x:Str}{v:V}{u:Value}{Q:Unit->Shared->Prop}(I:aQ X pins σ H s)(hN:X.N.Nodup)(hi:X.N[i]?=some x)(hx:Loc X.env.scope x)(r:bC v u)
  (h:∀s',aQ X pins (σ.set i (some v)) H s'->(∃a,Heap.SameBut a s.heap s'.heap/\(a=X.env.locals\/X.env.cells.lookup x=some a))->Q () s') (hf:autoParam (X.fn x=true\/X.env.scope.names.lookup x=some .local) Rq2._auto_1):wpAny M A (storeName X.env x u) Q E s:=by
 obtain⟨m,hn,hl⟩:=id I.loc
 have hcls:(X.env.scope.kind == .class || (X.env.scope.kind == .module&&X.env.locals != X.env.globals))=false:=by rw[I.ok.kind];rfl
 have hiσ:i<σ.length:=by rw[I.len];exact(ap.mp hi).1
 have cne:=I.cne
 have tracked:∀{a:Addr}{h':Heap},(∃o,s.heap.get? a=some o/\H a=none)->Heap.SameBut a s.heap h'->kA X.prog X.w H h':=fun {a h'} ha hs b ob e=>by
  obtain⟨_,_,hfree⟩:=ha
  refine(I.hok b ob e).stay (fun c w' hc q=>(hs.2 c ?_).trans q) (fun _ q=>q) fun _ _ q=>q
  rintro rfl
  rcases hc with rfl|hc
  ·rw[hfree] at e;cases e
  ·rw[hfree] at hc;cases hc
 rcases hx with hk|hk
 ·refine wpAny_storeName_local hk hn (fun h' hn' hs=>?_) hcls
  obtain⟨oL,_,_,hoL,_⟩:=id hn
  refine h _ ⟨I.ok,I.os,I.bare,⟨fun b o e n hb hx=>?_,fun b o e n hb hx=>?_,I.base.free,fun b o e hx=>?_,I.base.tups,I.base.frzs,I.base.tbls⟩,⟨_,hn',fun j y v' e1 e2 e3=>?_⟩,fun y c e=>?_,I.free,I.freeC,fun p hp=>?_,tracked ⟨oL,hoL,I.free⟩ hs,by simpa using I.len⟩ ⟨_,hs,.inl rfl⟩
  ·exact(hs.2 b (cg (bw (ao e) I.ok.above))).trans (I.base.keep b o e n hb hx)
  ·obtain⟨sl,e1⟩:=I.base.slot b o e n hb hx
   exact⟨sl,(hs.2 b (cg (bw (ao e) I.ok.above))).trans e1⟩
  ·obtain⟨o',e1⟩:=I.base.there b o e hx
   exact⟨o',(hs.2 b (cg (bw (ao e) I.ok.above))).trans e1⟩
  ·by_cases hj:j=i
   ·subst hj
    rw[hi] at e1;cases e1
    rw[qd hiσ] at e2
    cases e2
    exact⟨u,r,.inl ⟨hk,by simp⟩⟩
   ·rw[qu (Ne.symm hj)] at e2
    obtain⟨u',r',q⟩:=hl j y v' e1 e2 e3
    refine⟨u',r',?_⟩
    rcases q with⟨k,e⟩|⟨k,c,e,z⟩
    ·refine .inl ⟨k,?_⟩
     have:y≠x:=fun e=>hj (wL hN e1 (e ▸ hi))
     simp[this,e]
    ·exact .inr ⟨k,c,e,z.sameBut hs (cne y c e)⟩
  ·obtain⟨w',z⟩:=I.cell y c e
   exact⟨w',z.sameBut hs (cne y c e)⟩
  ·obtain⟨e,n,ne,nf,d⟩:=I.pin p hp
   exact⟨(hs.2 p.1 ne).trans e,n,ne,nf,d⟩
 ·have hfn:X.fn x=true:=by
   rcases hf with z|z
   ·exact z
   ·rw[z] at hk;cases hk
  obtain⟨c,hc⟩:=I.ok.has x (.inl hk)
  obtain⟨w',z⟩:=I.cell x c hc
  refine wpAny_storeName_cell I.ok.kind hk hc z (fun h' hc' hs=>?_)
  obtain⟨oc,hoc,hocd⟩:=id z
  refine h { s with heap:=h' } ⟨I.ok,I.os,I.bare,⟨fun b o e n hb hx=>?_,fun b o e n hb hx=>?_,I.base.free,fun b o e hx=>?_,I.base.tups,I.base.frzs,I.base.tbls⟩,⟨m,hn.sameBut hs (Ne.symm (cne x c hc)),fun j y v' e1 e2 e3=>?_⟩,fun y c' e=>?_,I.free,I.freeC,fun p hp=>?_,tracked ⟨oc,hoc,I.freeC x c hc⟩ hs,by simpa using I.len⟩ ⟨c,hs,.inr hc⟩
  ·exact(hs.2 b (cg (bw (ao e) (I.ok.cab x c hfn hc)))).trans (I.base.keep b o e n hb hx)
  ·obtain⟨sl,e1⟩:=I.base.slot b o e n hb hx
   exact⟨sl,(hs.2 b (cg (bw (ao e) (I.ok.cab x c hfn hc)))).trans e1⟩
  ·obtain⟨o',e1⟩:=I.base.there b o e hx
   exact⟨o',(hs.2 b (cg (bw (ao e) (I.ok.cab x c hfn hc)))).trans e1⟩
  ·by_cases hj:j=i
   ·subst hj
    rw[hi] at e1;cases e1
    rw[qd hiσ] at e2
    cases e2
    exact⟨u,r,.inr ⟨.inl hk,c,hc,hc'⟩⟩
   ·rw[qu (Ne.symm hj)] at e2
    obtain⟨u',r',q⟩:=hl j y v' e1 e2 e3
    refine⟨u',r',?_⟩
    rcases q with q|⟨k,c',e,z'⟩
    ·exact .inl q
    ·refine .inr ⟨k,c',e,z'.sameBut hs ?_⟩
     rintro rfl
     exact hj (wL hN e1 (I.ok.inj _ _ _ e hc ▸ hi))
  ·by_cases hcc:c'=c
   ·subst hcc;exact⟨_,hc'⟩
   ·obtain⟨w2,z2⟩:=I.cell y c' e
    exact⟨w2,z2.sameBut hs hcc⟩
  ·obtain⟨e,n,ne,nf,d⟩:=I.pin p hp
   refine⟨(hs.2 p.1 ?_).trans e,n,ne,nf,d⟩
   intro q
   rw[q,hoc] at e
   have q':oc=p.2:=di e
   exact d w' (by rw[<-q'];exact hocd)
theorem gX{M:Model}{A:Around}{E:Value->Shared->Prop}{i:Nat}{x:Str}{v:V}{u:Value}{Q:Unit->Shared->Prop}(I:aQ X pins σ H s)(hN:X.N.Nodup)(hi:X.N[i]?=some x)(hx:Loc X.env.scope x)(r:bC v u)
  (h:∀s',aQ X pins (σ.set i (some v)) H s'->Q () s') (hf:autoParam (X.fn x=true\/X.env.scope.names.lookup x=some .local) Rq2._auto_1):wpAny M A (storeName X.env x u) Q E s:=
 tQ I hN hi hx r (fun s' I' _=>h s' I') hf
theorem aQ.call'{s':Shared}{ch:List Addr}(I:aQ X pins σ H s)(ho:s'.os=s.os)(u:Un (jH X.stack) ch H H' s.heap s'.heap)(hok:kA X.prog X.w H' s'.heap)(hg:AllBare s'.gens)
  (hch:∀b∈ch,(b∈X.ex\/X.s₀.heap.objs.size<=b)/\b≠X.env.locals/\(∀x c,X.env.cells.lookup x=some c->c≠b)/\∀p∈X.pn++pins,p.1≠b):aQ X pins σ H' s':=by
 obtain⟨h',g',d',t',o'⟩:=s'
 have e:o'=s.os:=ho
 subst e
 exact I.call (g':=g') (t':=t') (d':=d') u hok hg hch
end
abbrev XK:=Value->Option Addr->Hp->Prop
abbrev St:=List (Option V)
abbrev VK:=V->Hp->Prop
abbrev TE:=St->Hp->VK->Prop
abbrev TT:=St->Hp->(Bool->Hp->Prop)->Prop
abbrev TA:=St->Hp->(List V->Hp->Prop)->Prop
structure jD where
 nx:St->Hp->Prop
 rt:VK
 bk:St->Hp->Prop:=fun _ _=>False
 ct:St->Hp->Prop:=fun _ _=>False
abbrev TS:=jD->St->Hp->Prop
def EP(X:Cx)(pins:List (Addr×Obj))(σ:St)(Q:VK)(u:Value)(s':Shared):Prop:=∃v H',aQ X pins σ H' s'/\bC v u/\Q v H'
def TP(X:Cx)(pins:List (Addr×Obj))(σ:St)(Q:Bool->Hp->Prop)(b:Bool)(s':Shared):Prop:=∃H',aQ X pins σ H' s'/\Q b H'
def AP(X:Cx)(pins:List (Addr×Obj))(σ:St)(Q:List V->Hp->Prop)(us:List Value)(s':Shared):Prop:=∃vs H',aQ X pins σ H' s'/\bB vs us/\Q vs H'
def SP(X:Cx)(pins:List (Addr×Obj))(D:jD)(f:Flow)(s':Shared):Prop:=
 match f with
 |.next=>∃σ' H',aQ X pins σ' H' s'/\D.nx σ' H'
 |.brk=>∃σ' H',aQ X pins σ' H' s'/\D.bk σ' H'
 |.cont=>∃σ' H',aQ X pins σ' H' s'/\D.ct σ' H'
 |.ret u=>∃v σ' H',aQ X pins σ' H' s'/\bC v u/\D.rt v H'
def PE(X:Cx)(e:Expr)(t:TE):Prop:=
 ∀(pins:List (Addr×Obj)) (s:Shared) (σ:St) (H:Hp) (Q:VK),aQ X pins σ H s->t σ H Q->wpAny (model X.prog X.w) X.A (eval e X.env) (EP X pins σ Q) X.xe s
def PT(X:Cx)(e:Expr)(t:TT):Prop:=
 ∀(pins:List (Addr×Obj)) (s:Shared) (σ:St) (H:Hp) (Q:Bool->Hp->Prop),aQ X pins σ H s->t σ H Q->wpAny (model X.prog X.w) X.A (isTrue e X.env (eval e X.env)) (TP X pins σ Q) X.xe s
def PW(X:Cx)(e:Expr)(t:TT):Prop:=
 ∀(whole:Sem Value) (pins:List (Addr×Obj)) (s:Shared) (σ:St) (H:Hp) (Q:Bool->Hp->Prop),aQ X pins σ H s->t σ H Q->wpAny (model X.prog X.w) X.A (isTrue e X.env whole) (TP X pins σ Q) X.xe s
theorem PW.pt{X:Cx}{e:Expr}{t:TT}(h:PW X e t):PT X e t:=h _
def PA(X:Cx)(es:List Expr)(t:TA):Prop:=
 ∀(pos:Pos) (pins:List (Addr×Obj)) (s:Shared) (σ:St) (H:Hp) (Q:List V->Hp->Prop),aQ X pins σ H s->t σ H Q->wpAny (model X.prog X.w) X.A (spliced (backTo pos (starEach es X.env))) (AP X pins σ Q) X.xe s
def PS(X:Cx)(st:Stmt)(t:TS):Prop:=
 ∀(pins:List (Addr×Obj)) (s:Shared) (σ:St) (H:Hp) (D:jD),aQ X pins σ H s->t D σ H->wpAny (model X.prog X.w) X.A (exec st X.env) (SP X pins D) X.xe s
def pS(X:Cx)(st:List Stmt)(t:TS):Prop:=
 ∀(pins:List (Addr×Obj)) (s:Shared) (σ:St) (H:Hp) (D:jD),aQ X pins σ H s->t D σ H->wpAny (model X.prog X.w) X.A (execs st X.env) (SP X pins D) X.xe s
theorem cL{α:Type}{t:Sem α}{Q Q':α->Shared->Prop}{M:Model}{A:Around}{E:Value->Shared->Prop}{s:Shared}(h:wpAny M A t Q E s)(hQ:∀a s,Q a s->Q' a s):wpAny M A t Q' E s:=dv h hQ fun _ _ x=>x
section
variable {X:Cx}
inductive iS(i:Nat)(σ:St)(H:Hp)(Q:VK):Prop
 |mk:∀v,(σ[i]?=some (some v))->(Q v H)->iS i σ H Q
def tC(v:V):TE:=fun _ H Q=>Q v H
theorem aZ1{i:Nat}{x:Str}{pos:Pos}(hN:X.N[i]?=some x)(hv:Vis X.env.scope x)(hd:autoParam ((x==("__debug__": Str))=false) Rq1._auto_1)(hcd:autoParam ((x==("__classdict__": Str))=false) Rq1._auto_1):PE X (.Name x pos) (iS i):=by
 intro pins s σ H Q I h
 obtain⟨v,e,h⟩:=h
 obtain⟨m,hn,hl⟩:=I.loc
 obtain⟨u,r,l⟩:=hl i x v hN e hv
 have fin:EP X pins σ Q u s:=⟨v,H,I,r,h⟩
 rcases l with⟨hk,hm⟩|⟨hk,c,hc,hcell⟩
 ·exact zw (wx I.ok.kind hk hn hm fin) hd
 ·rcases hk with hk|hk
  ·exact zw (xt I.ok.kind hk hc hcell fin) hd
  ·exact zw (wpAny_loadName_free I.ok.kind hk hc hcell fin hcd) hd
theorem aD{i j pos}:PE X (.Constant (.int i) j pos) (tC (.int i)):=fun _ _ _ H _ I h=>wpAny_Constant_int ⟨.int i,H,I.tok _,⟨_,rfl⟩,h⟩
theorem bN3{b j pos}:PE X (.Constant (.bool b) j pos) (tC (.bl b)):=fun _ _ _ H _ I h=>Constant_bool ⟨.bl b,H,I,rfl,h⟩
theorem aJ{x j pos}:PE X (.Constant (.str x) j pos) (tC (.str x)):=fun _ _ _ H _ I h=>Calls.Constant_str ⟨.str x,H,I.tok _,⟨_,rfl⟩,h⟩
def Gl(X:Cx)(x:Str):Prop:=X.env.kindOf x=some .globalImplicit
theorem nA{E:Value->Shared->Prop}{pins:List (Addr×Obj)}{s:Shared}{σ:St}{H:Hp}{x:Str}{u:Value}{pos:Pos}{Q:Value->Shared->Prop}(I:aQ X pins σ H s)(hg:Gl X x)(hm:X.mg x=some u)(h:Q u s)
  (hd:autoParam ((x==("__debug__": Str))=false) Rq1._auto_1):wpAny (model X.prog X.w) X.A (eval (.Name x pos) X.env) Q E s:=
 tj I.ok.kind hg (Calls.loadGlobal_global (by rw[I.ok.glob];exact I.mod.glob.keeps I.bk) hm h) hd
theorem gF{E:Value->Shared->Prop}{pins:List (Addr×Obj)}{s:Shared}{σ:St}{H:Hp}{x:Str}{u:Value}{pos:Pos}{Q:Value->Shared->Prop}(I:aQ X pins σ H s)(hg:Gl X x)(hm:X.mg x=none)(hv:bootBuiltins x=some u)(h:Q u s)
  (hn:autoParam (x≠"__name__") Rq1._auto_1) (hd:autoParam ((x==("__debug__": Str))=false) Rq1._auto_1):wpAny (model X.prog X.w) X.A (eval (.Name x pos) X.env) Q E s:=by
 obtain⟨mb,h1,h2⟩:=I.mod.blt
 exact tj I.ok.kind hg (Calls.loadGlobal_builtin (by rw[I.ok.glob];exact I.mod.glob.keeps I.bk) hm (by rw[I.ok.blt];exact h1.keeps I.bk) ((h2 x hn).trans hv) h) hd
theorem fP{x:Str}{v:V}{u:Value}{pos:Pos}(hg:Gl X x)(hm:X.mg x=some u)(r:bC v u)(hd:autoParam ((x==("__debug__": Str))=false) Rq1._auto_1):PE X (.Name x pos) (tC v):=
 fun _ _ _ H _ I h=>nA I hg hm ⟨v,H,I,r,h⟩ hd
theorem aH1{x:Str}{v:V}{u:Value}{pos:Pos}(hg:Gl X x)(hm:X.mg x=none)(hv:bootBuiltins x=some u)(r:bC v u)(hn:autoParam (x≠"__name__") Rq1._auto_1)(hd:autoParam ((x==("__debug__": Str))=false) Rq1._auto_1):PE X (.Name x pos) (tC v):=
 fun _ _ _ H _ I h=>gF I hg hm hv ⟨v,H,I,r,h⟩ hn hd
variable {a b:Expr}{ta tb:TE}{pos:Pos}
def PC(X:Cx)(op:CmpOp)(a b:Expr)(t:TE):Prop:=
 ∀(pins:List (Addr×Obj)) (s:Shared) (σ:St) (H:Hp) (Q:VK),aQ X pins σ H s->t σ H Q ->
  wpAny (model X.prog X.w) X.A (eval a X.env) (fun v s₁=>wpAny (model X.prog X.w) X.A (eval b X.env) (fun u s₂=>wpAny (model X.prog X.w) X.A (compareOp op v u) (EP X pins σ Q) X.xe s₂) X.xe s₁) X.xe s
theorem bD4(b:Expr){op:CmpOp}(h:op≠ .In)(h2:op≠ .NotIn):behindInMarks op b=false:=by
 have e1:(op==CmpOp.In)=false:=by cases op<;>first|rfl|exact absurd rfl h
 have e2:(op==CmpOp.NotIn)=false:=by cases op<;>first|rfl|exact absurd rfl h2
 cases b<;>simp[behindInMarks,e1,e2]
inductive BlK(x:V)(k:Bool->Prop):Prop
 |mk:∀c,(x= .bl c)->(k c)->BlK x k
def tB(t:TE):TT:=fun σ H Q=>t σ H fun x H1=>BlK x fun c=>Q c H1
theorem bU6{op:CmpOp}{t:TE}(h:PC X op a b t)(h1:behindInMarks op b=false:=by first|exact bD4 _ (by decide) (by decide)|rfl):PT X (.Compare a [op] [b] pos) (tB t):=by
 intro pins s σ H Q I hw
 refine wg (cL (h pins s σ H _ I hw) fun v s1 h1=>cL h1 fun u s2 h2=>cL h2 fun c s3 ⟨x,H1,I1,r1,q1⟩=>?_) h1
 obtain⟨d,rfl,q⟩:=q1
 cases r1
 exact ii ⟨H1,I1,q⟩
theorem iI{e:Expr}{t:TE}(h:PE X e t)(he:autoParam (∀whole,isTrue e X.env whole=(do let v <-whole;standAt e.pos;holding [v] (truthy v))) Rq4._auto_1):PT X e (tB t):=by
 intro pins s σ H Q I hw
 refine isTrue_plain (cL (h pins s σ H _ I hw) ?_) (he _);rintro v s1 ⟨x,H1,I1,r1,q1⟩
 obtain⟨d,rfl,q⟩:=q1
 cases r1
 exact ii ⟨H1,I1,q⟩
variable {tA tB':TT}{cS:List Expr}
def cM0(t u:TT):TT:=fun σ H Q=>t σ H fun c H1=>if c=true then u σ H1 Q else Q false H1
def tOr(t u:TT):TT:=fun σ H Q=>t σ H fun c H1=>if c=true then Q true H1 else u σ H1 Q
def cL9(t:TT):TT:=fun σ H Q=>t σ H fun c H1=>Q (!c) H1
theorem gQ(ha:PT X a tA):PW X (.BoolOp .And [a] pos) tA:=by
 intro wh pins s σ H Q I h
 refine isTrue_and (cL (ha pins s σ H Q I h) fun c s1 e=>?_)
 cases c with
 |true=>exact isTrue_and_nil e
 |false=>exact e
theorem aC4(ha:PT X a tA):PW X (.BoolOp .Or [a] pos) tA:=by
 intro wh pins s σ H Q I h
 refine isTrue_or (cL (ha pins s σ H Q I h) fun c s1 e=>?_)
 cases c with
 |false=>exact isTrue_or_nil e
 |true=>exact e
theorem hX(ha:PT X a tA)(hb:PW X (.BoolOp .And (b::cS) pos) tB'):PW X (.BoolOp .And (a::b::cS) pos) (cM0 tA tB'):=by
 intro wh pins s σ H Q I h
 refine isTrue_and (cL (ha pins s σ H _ I h) ?_);rintro c s1 ⟨H1,I1,q1⟩
 cases c with
 |true=>exact hb wh pins s1 σ H1 Q I1 q1
 |false=>exact⟨H1,I1,q1⟩
theorem aY9(ha:PT X a tA)(hb:PW X (.BoolOp .Or (b::cS) pos) tB'):PW X (.BoolOp .Or (a::b::cS) pos) (tOr tA tB'):=by
 intro wh pins s σ H Q I h
 refine isTrue_or (cL (ha pins s σ H _ I h) ?_);rintro c s1 ⟨H1,I1,q1⟩
 cases c with
 |true=>exact⟨H1,I1,q1⟩
 |false=>exact hb wh pins s1 σ H1 Q I1 q1
theorem mK(ha:PT X a tA):PT X (.UnaryOp .Not a pos) (cL9 tA):=by
 intro pins s σ H Q I h
 exact isTrue_not (ha pins s σ H (fun c H1=>Q (!c) H1) I h)
def bM7(ta tb:TE):TE:=fun σ H Q=>ta σ H fun x H1=>BlK x fun c=>if c=true then tb σ H1 Q else Q (.bl false) H1
def cL1(ta tb:TE):TE:=fun σ H Q=>ta σ H fun x H1=>BlK x fun c=>if c=true then Q (.bl true) H1 else tb σ H1 Q
def cI6(ta:TE):TE:=fun σ H Q=>ta σ H fun x H1=>BlK x fun c=>Q (.bl (!c)) H1
theorem mH{op}{t:TE}(h:PE X a t):PE X (.BoolOp op [a] pos) t:=fun pins s σ H Q I hw=>BoolOp_one (h pins s σ H Q I hw)
theorem mJ(ha:PE X a ta)(hb:PE X (.BoolOp .And (b::cS) pos) tb):PE X (.BoolOp .And (a::b::cS) pos) (bM7 ta tb):=by
 intro pins s σ H Q I h
 refine BoolOp_and (cL (ha pins s σ H _ I h) ?_);rintro v s1 ⟨x,H1,I1,r1,q1⟩
 obtain⟨c,rfl,q1⟩:=q1
 cases r1
 refine ii ?_
 cases c with
 |true=>exact hb pins s1 σ H1 Q I1 q1
 |false=>exact⟨.bl false,H1,I1,rfl,q1⟩
theorem bN9(ha:PE X a ta)(hb:PE X (.BoolOp .Or (b::cS) pos) tb):PE X (.BoolOp .Or (a::b::cS) pos) (cL1 ta tb):=by
 intro pins s σ H Q I h
 refine BoolOp_or (cL (ha pins s σ H _ I h) ?_);rintro v s1 ⟨x,H1,I1,r1,q1⟩
 obtain⟨c,rfl,q1⟩:=q1
 cases r1
 refine ii ?_
 cases c with
 |false=>exact hb pins s1 σ H1 Q I1 q1
 |true=>exact⟨.bl true,H1,I1,rfl,q1⟩
theorem bY0(ha:PE X a ta):PE X (.UnaryOp .Not a pos) (cI6 ta):=by
 intro pins s σ H Q I h
 refine UnaryOp_ (cL (ha pins s σ H _ I h) ?_);rintro v s1 ⟨x,H1,I1,r1,q1⟩
 obtain⟨c,rfl,q1⟩:=q1
 cases r1
 exact not_of (ii ⟨.bl (!c),H1,I1,rfl,q1⟩)
def tIf(t:TT)(ta tb:TE):TE:=fun σ H Q=>t σ H fun c H1=>if c=true then ta σ H1 Q else tb σ H1 Q
theorem nN{c:Expr}(hc:PT X c tA)(ha:PE X a ta)(hb:PE X b tb):PE X (.IfExp c a b pos) (tIf tA ta tb):=by
 intro pins s σ H Q I h
 refine wpAny_IfExp (cL (hc pins s σ H _ I h) ?_);rintro d s1 ⟨H1,I1,q1⟩
 cases d with
 |true=>exact ha pins s1 σ H1 Q I1 q1
 |false=>exact hb pins s1 σ H1 Q I1 q1
end
def bG(K:PySem.W.Frag)(H:Hp)(a:Addr)(xs:List V):Prop:=
 Rd H a (.lst xs) \/
  ∃(o:Obj) (its:Array Value) (n:Nat),K.lookup a=some o/\o.cls= .type "list"/\o.dict=none/\o.data= .seq its n/\its.size<=sizeLine/\bB xs its.toList
def aU(K:PySem.W.Frag)(H:Hp)(a:Addr)(xs:List V):Prop:=
 Rd H a (.tup xs) \/
  ∃(o:Obj) (its:Array Value) (n:Nat),K.lookup a=some o/\o.cls= .type "tuple"/\o.data= .seq its n/\its.size<=sizeLine/\bB xs its.toList
def cK9:Value->Option V
 |.none=>some .non
 |.bool b=>some (.bl b)
 |.int i _=>some (.int i)
 |.str x _=>some (.str x)
 |.bytes b _=>some (.byt b)
 |.float b _=>some (.flt b)
 |.ref a=>some (.ref a)
 |.type n=>some (.ty n)
 |_=>none
theorem bC.abs{x:V}{u:Value}(r:bC x u):cK9 u=some x:=by
 cases x with
 |non=>cases r;rfl
 |bl _=>cases r;rfl
 |int _=>obtain⟨t,rfl⟩:=r;rfl
 |str _=>obtain⟨t,rfl⟩:=r;rfl
 |byt _=>obtain⟨t,rfl⟩:=r;rfl
 |flt _=>obtain⟨t,rfl⟩:=r;rfl
 |ref _=>cases r;rfl
 |ty _=>cases r;rfl
theorem bC.inj{x y:V}{u:Value}(r:bC x u)(q:bC y u):x=y:=di (r.abs.symm.trans q.abs)
theorem bB.inj:∀{xs ys:List V}{us:List Value},bB xs us->bB ys us->xs=ys
 |_,_,_,.nil,.nil=>rfl
 |_,_,_,.cons r t,.cons r' t'=>by rw[r.inj r',bB.inj t t']
section
variable {X:Cx}{pins:List (Addr×Obj)}{σ:St}{H:Hp}{s:Shared}{a:Addr}{xs ys:List V}
theorem bG.of{K:PySem.W.Frag}(h:H a=some (.lst xs)):bG K H a xs:= .inl (.inl h)
theorem aU.of{K:PySem.W.Frag}(h:H a=some (.tup xs)):aU K H a xs:= .inl (.inl h)
theorem aQ.list(I:aQ X pins σ H s)(h:bG X.K H a xs):∃its:List Value,bB xs its/\PlainL s.heap a its.toArray/\xs.length<=sizeLine:=by
 rcases h with h|⟨o,its,n,hk,hc,hd,hs,hz,r⟩
 ·obtain⟨z,its,n,r,e⟩:=h.ok I.hok
  exact⟨its,r,⟨_,n,e,rfl,rfl,rfl⟩,z⟩
 ·refine⟨its.toList,r,⟨o,n,I.kIn a o hk,hc,hd,by simpa using hs⟩,?_⟩
  have e:=r.length
  simp only[Array.length_toList] at e
  lia
theorem aQ.tuple(I:aQ X pins σ H s)(h:aU X.K H a xs):∃its:List Value,bB xs its/\IsTup s.heap a its.toArray/\xs.length<=sizeLine:=by
 rcases h with h|⟨o,its,n,hk,hc,hs,hz,r⟩
 ·obtain⟨z,its,r,p⟩:=h.ok I.hok
  exact⟨its,r,p.is,z⟩
 ·refine⟨its.toList,r,⟨o,I.kIn a o hk,hc,n,by simpa using hs⟩,?_⟩
  have e:=r.length
  simp only[Array.length_toList] at e
  lia
theorem aQ.list_inj(I:aQ X pins σ H s)(h:bG X.K H a xs)(h':bG X.K H a ys):xs=ys:=by
 obtain⟨its,r,⟨o,n,e,_,_,d⟩,_⟩:=I.list h
 obtain⟨its',r',⟨o',n',e',_,_,d'⟩,_⟩:=I.list h'
 rw[e] at e';cases e'
 rw[d] at d'
 injection d' with d1 _
 have:its=its':=by simpa using fm Array.toList d1
 subst this
 exact r.inj r'
theorem aQ.tuple_inj(I:aQ X pins σ H s)(h:aU X.K H a xs)(h':aU X.K H a ys):xs=ys:=by
 obtain⟨its,r,⟨o,e,_,n,d⟩,_⟩:=I.tuple h
 obtain⟨its',r',⟨o',e',_,n',d'⟩,_⟩:=I.tuple h'
 rw[e] at e';cases e'
 rw[d] at d'
 injection d' with d1 _
 have:its=its':=by simpa using fm Array.toList d1
 subst this
 exact r.inj r'
end
abbrev Cx.wish(X:Cx)(E:Value->Shared->Prop):Cx:={ X with xe:=E }
abbrev Cx.nox(X:Cx):Cx:=X.wish fun _ _=>False
theorem Cx.Ok.wish{X:Cx}(ok:X.Ok)(E:Value->Shared->Prop):(X.wish E).Ok:=
 ⟨ok.mod,ok.kind,ok.glob,ok.blt,ok.above,ok.inj,ok.has,ok.cab,ok.hd,ok.frames,ok.stk,ok.exf,ok.bs,ok.bsz,ok.noex,ok.exfs,ok.funs,ok.frf⟩
theorem Cx.Ok.unwish{X:Cx}{E:Value->Shared->Prop}(ok:(X.wish E).Ok):X.Ok:=
 ⟨ok.mod,ok.kind,ok.glob,ok.blt,ok.above,ok.inj,ok.has,ok.cab,ok.hd,ok.frames,ok.stk,ok.exf,ok.bs,ok.bsz,ok.noex,ok.exfs,ok.funs,ok.frf⟩
section
variable {X:Cx}{pins:List (Addr×Obj)}{σ:St}{H:Hp}{s:Shared}{E:Value->Shared->Prop}
theorem aQ.wish(I:aQ X pins σ H s)(E:Value->Shared->Prop):aQ (X.wish E) pins σ H s:=⟨I.ok.wish E,I.os,I.bare,I.base,I.loc,I.cell,I.free,I.freeC,I.pin,I.hok,I.len⟩
theorem aQ.unwish(I:aQ (X.wish E) pins σ H s):aQ X pins σ H s:=⟨I.ok.unwish,I.os,I.bare,I.base,I.loc,I.cell,I.free,I.freeC,I.pin,I.hok,I.len⟩
theorem SP.unwish{D:jD}{f:Flow}{s':Shared}(h:SP (X.wish E) pins D f s'):SP X pins D f s':=by
 cases f with
 |next=>obtain⟨σ',H',I,q⟩:=h;exact⟨σ',H',I.unwish,q⟩
 |brk=>obtain⟨σ',H',I,q⟩:=h;exact⟨σ',H',I.unwish,q⟩
 |cont=>obtain⟨σ',H',I,q⟩:=h;exact⟨σ',H',I.unwish,q⟩
 |ret u=>obtain⟨v,σ',H',I,r,q⟩:=h;exact⟨v,σ',H',I.unwish,r,q⟩
theorem pS.nox{st:List Stmt}{t:TS}(h:pS X.nox st t):pS X st t:=fun pins s σ H D I hw =>
 dv (h pins s σ H D (I.wish _) hw) (fun _ _ q=>q.unwish) fun _ _ z=>False.elim z
end
section
variable {X:Cx}{st:Stmt}{cS:List Stmt}{t u:TS}{e:Expr}{te:TE}{pos:Pos}
def tNext:TS:=fun D σ H=>D.nx σ H
def aV4(t u:TS):TS:=fun D σ H=>t { D with nx:=u D } σ H
theorem aX:pS X [] tNext:=fun _ _ σ H _ I h=>om ⟨σ,H,I,h⟩
theorem aF(h1:PS X st t)(h2:pS X cS u):pS X (st::cS) (aV4 t u):=by
 intro pins s σ H D I h
 refine um (cL (h1 pins s σ H { D with nx:=u D } I h) fun f s1 q=>?_)
 cases f with
 |next =>
  obtain⟨σ',H',I',q⟩:=q
  exact h2 pins s1 σ' H' D I' q
 |ret v=>exact q
 |brk=>exact q
 |cont=>exact q
theorem aE(h1:PS X st t):pS X [st] t:=by
 intro pins s σ H D I h
 refine um (cL (h1 pins s σ H D I h) fun f s1 q=>?_)
 cases f with
 |next=>exact om q
 |ret v=>exact q
 |brk=>exact q
 |cont=>exact q
theorem aQ.quiet{pins:List (Addr×Obj)}{σ:St}{H:Hp}{s:Shared}(I:aQ X pins σ H s):interactive X.env=false:=by simp[interactive,I.ok.kind]
def cC2(te:TE):TS:=fun D σ H=>te σ H fun _ H1=>D.nx σ H1
theorem bZ(he:PE X e te)(hs:autoParam (swapsWith e none pos.line X.env=pure false) Rq0._auto_1):PS X (.Expr e pos) (cC2 te):=by
 intro pins s σ H D I h
 refine wpAny_Expr_any (cL (he pins s σ H _ I h) ?_) I.quiet hs;rintro v s1 ⟨x,H1,I1,r1,q1⟩;exact⟨σ,H1,I1,q1⟩
def bJ7(te:TE):TS:=fun D σ H=>te σ H D.rt
theorem aM(he:PE X e te):PS X (.Return (some e) pos) (bJ7 te):=by
 intro pins s σ H D I h
 refine wpAny_Return_some (cL (he pins s σ H _ I h) ?_);rintro v s1 ⟨x,H1,I1,r1,q1⟩;exact⟨x,σ,H1,I1,r1,q1⟩
def bT9(c:TT)(t u:TS):TS:=fun D σ H=>c σ H fun b H1=>if b=true then t D σ H1 else u D σ H1
theorem bL{c:Expr}{a b:List Stmt}{tc:TT}(hc:PT X c tc)(ha:pS X a t)(hb:pS X b u):PS X (.If c a b pos) (bT9 tc t u):=by
 intro pins s σ H D I h
 refine wpAny_If (cL (hc pins s σ H _ I h) ?_);rintro d s1 ⟨H1,I1,q1⟩
 cases d with
 |true=>exact ha pins s1 σ H1 D I1 q1
 |false=>exact hb pins s1 σ H1 D I1 q1
def tNever:TS:=fun _ _ _=>False
theorem pC{sts:List Stmt}:pS X sts tNever:=fun _ _ _ _ _ _ h=>h.elim
end
abbrev TG:=V->St->Hp->(St->Hp->Prop)->Prop
abbrev TGs:=List V->St->Hp->(St->Hp->Prop)->Prop
def PG(X:Cx)(target:Expr)(t:TG):Prop:=
 ∀(pins:List (Addr×Obj)) (s:Shared) (σ:St) (H:Hp) (v:V) (u:Value) (Q:St->Hp->Prop),aQ X pins σ H s->bC v u->t v σ H Q ->
  wpAny (model X.prog X.w) X.A (assign target X.env u) (fun _ s'=>∃σ' H',aQ X pins σ' H' s'/\Q σ' H') X.xe s
def PGs(X:Cx)(ts:List Expr)(t:TGs):Prop:=
 ∀(pins:List (Addr×Obj)) (s:Shared) (σ:St) (H:Hp) (vs:List V) (us:List Value) (Q:St->Hp->Prop),aQ X pins σ H s->bB vs us->t vs σ H Q ->
  wpAny (model X.prog X.w) X.A (assignInOrder ((assignEach ts X.env).map (·.2)) us) (fun _ s'=>∃σ' H',aQ X pins σ' H' s'/\Q σ' H') X.xe s
abbrev TSet:=V->V->V->Hp->(Hp->Prop)->Prop
def cA5(X:Cx)(t:TSet):Prop:=
 ∀(pins:List (Addr×Obj)) (s:Shared) (σ:St) (H:Hp) (o i v:V) (ov iv u:Value) (Q:Hp->Prop),aQ X pins σ H s->bC o ov->bC i iv->bC v u->t o i v H Q ->
  wpAny (model X.prog X.w) X.A (setItem ov iv u) (fun _ s'=>∃H',aQ X pins σ H' s'/\Q H') X.xe s
abbrev TIp:=V->V->Hp->VK->Prop
def PIp(X:Cx)(op:Operator)(t:TIp):Prop:=
 ∀(pins:List (Addr×Obj)) (s:Shared) (σ:St) (H:Hp) (x y:V) (v u:Value) (Q:VK),aQ X pins σ H s->bC x v->bC y u->t x y H Q ->
  wpAny (model X.prog X.w) X.A (inplaceOp op v u) (EP X pins σ Q) X.xe s
section
variable {X:Cx}{pos:Pos}
def sN(i:Nat):TG:=fun v σ H Q=>Q (σ.set i (some v)) H
theorem qC{i:Nat}{x:Str}(hN:X.N.Nodup)(hi:X.N[i]?=some x)(hx:Loc X.env.scope x)(hf:autoParam (X.fn x=true\/X.env.scope.names.lookup x=some .local) Rq2._auto_1):PG X (.Name x pos) (sN i):=by
 intro pins s σ H v u Q I r h
 exact yq (gX I hN hi hx r (fun s' I'=>⟨_,H,I',h⟩) hf)
def gNil:TGs:=fun vs σ H Q=>vs=[]/\Q σ H
inductive bL9(t:TG)(u:TGs)(vs:List V)(σ:St)(H:Hp)(Q:(St->Hp->Prop)):Prop
 |mk:∀v r,(vs=v::r)->(t v σ H fun σ' H'=>u r σ' H' Q)->bL9 t u vs σ H Q
theorem gN:PGs X [] gNil:=by
 intro pins s σ H vs us Q I r h
 obtain⟨e,h⟩:=h
 subst e
 cases r
 exact yr ⟨σ,H,I,h⟩
theorem bH{e:Expr}{es:List Expr}{t:TG}{u:TGs}(h1:PG X e t)(h2:PGs X es u)
  (hs:autoParam ((assignEach (e::es) X.env).map (·.2)=assign e X.env::(assignEach es X.env).map (·.2)) Rq0._auto_1):PGs X (e::es) (bL9 t u):=by
 intro pins s σ H vs us Q I r h
 obtain⟨v,vr,e1,h⟩:=h
 subst e1
 cases r with
 |cons r rr =>
  rw[hs]
  refine sw (cL (h1 pins s σ H _ _ _ I r h) ?_);rintro _ s1 ⟨σ1,H1,I1,q1⟩
  exact h2 pins s1 σ1 H1 _ _ Q I1 rr q1
inductive bQ0(K:PySem.W.Frag)(n:Nat)(t:TGs)(v:V)(σ:St)(H:Hp)(Q:(St->Hp->Prop)):Prop
 |mk:∀a xs,(v= .ref a)->(aU K H a xs)->(xs.length=n)->(t xs σ H Q)->bQ0 K n t v σ H Q
theorem lH{es:List Expr}{k:Nat}{t:TGs}{n:Nat}(hc:X.calm=true)(h:PGs X es t)
  (hn:autoParam ((assignEach es X.env).length=n) Rq0._auto_1) (hst:autoParam ((assignEach es X.env).findIdx? (·.1)=none) Rq0._auto_1):PG X (.Tuple es k pos) (bQ0 X.K n t):=by
 intro pins s σ H v u Q I r hw
 obtain⟨a,xs,e1,hq,hl,hw⟩:=hw
 subst e1
 cases r
 obtain⟨its,rv,ht,hz⟩:=I.tuple hq
 refine assign_Tuple_tuple (I.ok.hd hc) ht (by simp[hn, <-hl,rv.length]) hst fun h' hx=>?_
 have I1:aQ X pins σ H { s with heap:=h' }:=I.kept (t':=s.toks) fun b o e=>hx b o (cg (ao e)) e
 exact h pins _ σ H xs _ Q I1 (by simpa using rv) hw
def cL2(to ti:TE)(t:TSet):TG:=fun v σ H Q=>to σ H fun o H1=>ti σ H1 fun i H2=>t o i v H2 fun H3=>Q σ H3
theorem bZ7{o i:Expr}{to ti:TE}{t:TSet}(ho:PE X o to)(hi:PE X i ti)(hs:cA5 X t)
  (ha:autoParam (∀v,assign (.Subscript o i pos) X.env v=(do
   let ov <-holding [v] (eval o X.env)
   let iv <-holding [v,ov] (eval i X.env)
   standAt pos
   holding [v,ov,iv] (setItem ov iv v)
   release [v,ov,iv] [])) Rq4._auto_1):PG X (.Subscript o i pos) (cL2 to ti t):=by
 intro pins s σ H v u Q I r h
 rw[ha]
 refine aa (ij (cL (ho pins s σ H _ I h) ?_));rintro ov s1 ⟨x,H1,I1,r1,q1⟩
 refine aa (ij (cL (hi pins s1 σ H1 _ I1 q1) ?_));rintro iv s2 ⟨y,H2,I2,r2,q2⟩
 refine aa (ua (aa (ij (cL (hs pins s2 σ H2 x y v ov iv u _ I2 r1 r2 r q2) ?_))));rintro _ s3 ⟨H3,I3,q3⟩
 exact wpAny_release ⟨σ,H3,I3,q3⟩
def aY4(te:TE)(g:TG):TS:=fun D σ H=>te σ H fun x H1=>g x σ H1 D.nx
theorem oK{tg e:Expr}{te:TE}{g:TG}(he:PE X e te)(hg:PG X tg g)(hs:autoParam (swapsWithSole [tg] e pos.line X.env=pure false) Rq0._auto_1)(hw:autoParam (swappedStores [tg] e X.env=pure none) Rq0._auto_1)
  (h1:autoParam ((assignEach [tg] X.env).map (·.2)=[assign tg X.env]) Rq0._auto_1):PS X (.Assign [tg] e pos) (aY4 te g):=by
 intro pins s σ H D I h
 refine wpAny_Assign_stores (cL (he pins s σ H _ I h) ?_) hs hw;rintro v s1 ⟨x,H1,I1,r1,q1⟩
 rw[h1]
 exact cL (hg pins s1 σ H1 x v _ I1 r1 q1) fun _ s2 q=>q
theorem gD{i:Nat}{x:Str}{e:Expr}{te:TE}{pos':Pos}(hN:X.N.Nodup)(hi:X.N[i]?=some x)(hx:Loc X.env.scope x)(he:PE X e te)(hs:autoParam (swapsWith e (some (.Name x pos')) pos.line X.env=pure false) Rq0._auto_1)(hf:autoParam (X.fn x=true\/X.env.scope.names.lookup x=some .local) Rq2._auto_1) :
  PS X (.Assign [.Name x pos'] e pos) (aY4 te (sN i)):=by
 intro pins s σ H D I h
 refine wpAny_Assign_Name (cL (he pins s σ H _ I h) ?_) hs;rintro v s1 ⟨y,H1,I1,r1,q1⟩
 exact gX I1 hN hi hx r1 (fun s2 I2=>⟨_,H1,I2,q1⟩) hf
def cM7(i j:Nat)(ta:TA):TS:=fun D σ H=>ta σ H fun vs H1=>∃v w,vs=[v,w]/\D.nx ((σ.set i (some v)).set j (some w)) H1
theorem zY{i j:Nat}{x y:Str}{a b:Expr}{ta:TA}{px py pt:Pos}{kt k2 pt2}(hc:X.calm=true)(hN:X.N.Nodup)(hi:X.N[i]?=some x)(hj:X.N[j]?=some y)(hij:i≠j)
  (hx:X.env.scope.names.lookup x=some .local) (hy:X.env.scope.names.lookup y=some .local) (ha:PA X [a,b] ta)
  (hw:swappedStores [.Tuple [.Name x px,.Name y py] kt pt] (.Tuple [a,b] k2 pt2) X.env=pure (some [x,y]))
  (hs:autoParam (swapsWithSole [.Tuple [.Name x px,.Name y py] kt pt] (.Tuple [a,b] k2 pt2) pos.line X.env=pure false) Rq0._auto_1) :
  PS X (.Assign [.Tuple [.Name x px,.Name y py] kt pt] (.Tuple [a,b] k2 pt2) pos) (cM7 i j ta):=by
 intro pins s σ H D I h
 rw[exec_Assign_arm]
 refine aa (ua ?_)
 rw[hs]
 refine aa (aq ?_)
 rw[ay (by decide)]
 refine aa (Tuple_ (cL (ha _ pins s σ H _ I h) ?_));rintro us s1 ⟨vs,H1,I1,r1,q1⟩
 obtain⟨v,w,e1,q1⟩:=q1
 subst e1
 obtain⟨u1,u2,rfl,rv,rw'⟩:∃u1 u2,us=[u1,u2]/\bC v u1/\bC w u2:=by
  cases r1 with
  |cons p q =>
   cases q with
   |cons p' q' =>
    cases q'
    exact⟨_,_,rfl,p,p'⟩
 refine fz ?_ (by show 2<=sizeLine;decide)
 have I2:aQ X pins σ H1 { s1 with heap:=s1.heap.push { cls:= .type "tuple",data:= .seq [u1,u2].toArray } }:=I1.kept (t':=s1.toks) fun b o e=>ac _ e
 rw[hw]
 refine aa (aq ?_)
 show wpAny (model X.prog X.w) X.A (do rule "assign.swapped-stores";let items <-unpackItems (.ref s1.heap.objs.size) 2 none;assignInOrder [fun v=>bindName X.env y v,fun v=>bindName X.env x v] items.reverse;pure Flow.next) _ _ _
 refine aa (qv (aa (unpackItems_tuple (items:= #[u1,u2]) (I.ok.hd hc) (IsTup.new s1.heap _) fun h' hx'=>?_)))
 have I3:=I2.kept (h':=h') (t':=s1.toks) fun b o e=>hx' b o (cg (ao e)) e
 show wpAny _ _ (assignInOrder [fun v=>bindName X.env y v,fun v=>bindName X.env x v] [u2,u1]>>=fun _=>pure Flow.next) _ _ _
 refine aa (sw (wj (gX I3 hN hj (.inl hy) rw' (fun s2 I4=>?_) (.inr hy))))
 refine sw (wj (gX I4 hN hi (.inl hx) rv (fun s3 I5=>yr (aq ?_)) (.inr hx)))
 rw[List.set_comm _ _ (Ne.symm hij)] at I5
 exact⟨_,H1,I5,q1⟩
inductive cE9(i:Nat)(te:TE)(ti:TIp)(D:jD)(σ:St)(H:Hp):Prop
 |mk:∀x,(σ[i]?=some (some x))->(te σ H fun y H1=>ti x y H1 fun z H2=>D.nx (σ.set i (some z)) H2)->cE9 i te ti D σ H
theorem bQ8{i:Nat}{x:Str}{e:Expr}{te:TE}{op:Operator}{ti:TIp}{pos':Pos}(hN:X.N.Nodup)(hi:X.N[i]?=some x)(hx:Loc X.env.scope x)(he:PE X e te)(ho:PIp X op ti)(hf:autoParam (X.fn x=true\/X.env.scope.names.lookup x=some .local) Rq2._auto_1) :
  PS X (.AugAssign (.Name x pos') op e pos) (cE9 i te ti):=by
 intro pins s σ H D I h
 obtain⟨v,e1,h⟩:=h
 obtain⟨m,hn,hl⟩:=I.loc
 have vis:Vis X.env.scope x:=by rcases hx with k|k;exact .inl k;exact .inr (.inl k)
 obtain⟨u,r,l⟩:=hl i x v hi e1 vis
 refine wpAny_AugAssign_Name ?_
 have go:wpAny (model X.prog X.w) X.A (eval e X.env) (fun w s₂=>wpAny (model X.prog X.w) X.A (inplaceOp op u w) (fun r s₃=>wpAny (model X.prog X.w) X.A (storeName X.env x r) (fun _=>SP X pins D .next) X.xe s₃) X.xe s₂) X.xe s:=by
  refine cL (he pins s σ H _ I h) ?_;rintro w s1 ⟨y,H1,I1,r1,q1⟩
  refine cL (ho pins s1 σ H1 v y u w _ I1 r r1 q1) ?_;rintro z s2 ⟨zv,H2,I2,r2,q2⟩
  exact gX I2 hN hi hx r2 (fun s3 I3=>⟨_,H2,I3,q2⟩) hf
 rcases l with⟨hk,hm⟩|⟨hk,c,hc,hcell⟩
 ·exact wx I.ok.kind hk hn hm go
 ·rcases hk with hk|hk
  ·exact xt I.ok.kind hk hc hcell go
  ·rcases hx with k|k
   ·have:X.env.scope.names.lookup x=some .free:=hk
    rw[k] at this;cases this
   ·have:X.env.scope.names.lookup x=some .free:=hk
    rw[k] at this;cases this
inductive ipI(f:Int->Int->Int)(x:V)(y:V)(H:Hp)(Q:VK):Prop
 |mk:∀i j,(x= .int i)->(y= .int j)->(Q (.int (f i j)) H)->ipI f x y H Q
theorem bQ3:PIp X .Add (ipI fun i j=>i+j):=by
 intro pins s σ H x y v u Q I r1 r2 h
 obtain⟨i,j,e1,e2,q⟩:=h
 subst e1;subst e2
 obtain⟨t,rfl⟩:=r1
 obtain⟨t',rfl⟩:=r2
 exact iadd_int ⟨.int _,H,I.tok _,⟨_,rfl⟩,q⟩
inductive aY0(c:TT)(tb:TS)(D:jD)(σ:St)(H:Hp):Prop
 |mk:∀W:Nat->St->Hp->Prop,((∃m,W m σ H))->(∀m σ H,W m σ H->c σ H fun b H1=>if b=true then ∃N:St->Hp->Prop,(∀σ' H',N σ' H'->∃m',m'<m/\W m' σ' H')/\tb { D with nx:=N,ct:=N,bk:=D.nx } σ H1 else D.nx σ H1)->aY0 c tb D σ H
theorem iJ{c:Expr}{body:List Stmt}{tc:TT}{tb:TS}(hp:PassesOwn (model X.prog X.w) X.A X.env X.xe)(hc:PT X c tc)(hb:pS X body tb):PS X (.While c body [] pos) (aY0 tc tb):=by
 intro pins s σ H D I h
 obtain⟨W,⟨m0,w0⟩,turn⟩:=h
 refine wpAny_While (codeAny_whileLoop (fun n s'=>∃σ' H',aQ X pins σ' H' s'/\W n σ' H') ?_ m0 ⟨σ,H,I,w0⟩)
 rintro n s1 ⟨σ1,H1,I1,w1⟩
 refine jv hp (cL (hc pins s1 σ1 H1 _ I1 (turn n σ1 H1 w1)) ?_);rintro b s2 ⟨H2,I2,q2⟩
 cases b with
 |true =>
  obtain⟨N,hN,q2⟩:=q2
  rw[bv rfl]
  refine jv hp (cL (hb pins s2 σ1 H2 _ I2 q2) fun f s3 q3=>?_)
  cases f with
  |next =>
   obtain⟨σ3,H3,I3,n3⟩:=q3
   obtain⟨m',hm,w3⟩:=hN σ3 H3 n3
   exact⟨m',hm,σ3,H3,I3,w3⟩
  |cont =>
   obtain⟨σ3,H3,I3,n3⟩:=q3
   obtain⟨m',hm,w3⟩:=hN σ3 H3 n3
   exact⟨m',hm,σ3,H3,I3,w3⟩
  |brk=>exact q3
  |ret v=>exact q3
 |false =>
  rw[ay bt]
  exact om ⟨σ1,H2,I2,q2⟩
end
structure It where
 go:Nat->Hp->Prop
 yld:Nat->Hp->V->Hp->Prop
 stop:Nat->Hp->Prop
def lS(X:Cx)(pins:List (Addr×Obj))(H:Hp)(b:Addr):Prop:=
 H b=none/\b≠X.env.locals/\b∉X.fs/\(b∈X.ex\/X.s₀.heap.objs.size<=b)/\(∀x c,X.env.cells.lookup x=some c->c≠b)/\∀p∈X.pn++pins,p.1≠b
theorem aQ.fpOk{X:Cx}{pins:List (Addr×Obj)}{σ:St}{H H':Hp}{s:Shared}{b:Addr}(I:aQ X pins σ H s)(hb:s.heap.objs.size<=b)(hn:H' b=none):lS X pins H' b:=by
 refine⟨hn,dq (bw I.lt hb),I.nofs hb,.inr (db I.sz hb),fun x c e z=>?_,fun p hp z=>?_⟩
 ·obtain⟨v,q⟩:=I.cell x c e
  exact absurd (bw q.lt (by rw[z];exact hb)) (gk _)
 ·exact absurd (bw (ao (I.pin p hp).1) (by rw[z];exact hb)) (gk _)
structure aB0(P:Program)(w:World)(K:PySem.W.Frag)(tg:Expr)(J:It)(fp:List Addr)(it:Addr)(tn:Nat->Heap->Prop):Prop where
 mem:it∈fp
 obj:∀i h,tn i h->∀b∈fp,∃o,h.get? b=some o/\∀v,o.data≠ .cell v
 keep:∀i h h',tn i h->(∀b∈fp,∀o,h.get? b=some o->h'.get? b=some o)->tn i h'
 item:∀(X:Cx),X.prog=P->X.w=w->X.K=K->X.calm=true->∀(i:Nat) (pins:List (Addr×Obj)) (s:Shared) (σ:St) (H:Hp) (E:Value->Shared->Prop),aQ X pins σ H s->(∀b∈fp,lS X pins H b)->tn i s.heap->J.go i H ->
  wpAny (model P w) X.A (pyNext (.ref it)) (fun r s1=>∃u,r=some u /\
   wpAny (model P w) X.A (letOwnedTupleGo tg (.ref it) u) (fun _ s2=>∃x H',aQ X pins σ H' s2/\bC x u/\J.yld i H x H'/\tn (i+1) s2.heap/\∀b∈fp,H' b=none) E s1) E s
 done:∀(X:Cx),X.prog=P->X.w=w->X.K=K->X.calm=true->∀(i:Nat) (pins:List (Addr×Obj)) (s:Shared) (σ:St) (H:Hp) (E:Value->Shared->Prop),aQ X pins σ H s->(∀b∈fp,lS X pins H b)->tn i s.heap->J.stop i H ->
  wpAny (model P w) X.A (pyNext (.ref it)) (fun r s1=>r=none/\aQ X pins σ H s1) E s
 self:∀(A:Around) (i:Nat) (s:Shared) (Q:Value->Shared->Prop) (E:Value->Shared->Prop),tn i s.heap->Q (.ref it) s->wpAny (model P w) A (pyIter (.ref it)) Q E s
abbrev TI:=St->Hp->(It->Hp->Prop)->Prop
def PIE(X:Cx)(pins:List (Addr×Obj))(σ:St)(tg:Expr)(R:It->Hp->Prop)(itv:Value)(s2:Shared):Prop:=
 ∃(it:Addr) (fp:List Addr) (tn:Nat->Heap->Prop) (J:It) (H':Hp),itv= .ref it/\aQ X pins σ H' s2/\aB0 X.prog X.w X.K tg J fp it tn/\tn 0 s2.heap/\(∀b∈fp,lS X pins H' b)/\R J H'
def PI(X:Cx)(tg iter:Expr)(wi:TI):Prop:=
 ∀(pins:List (Addr×Obj)) (s:Shared) (σ:St) (H:Hp) (R:It->Hp->Prop),aQ X pins σ H s->wi σ H R ->
  wpAny (model X.prog X.w) X.A (eval iter X.env) (fun v s1=>wpAny (model X.prog X.w) X.A (pyIter v) (PIE X pins σ tg R) X.xe s1) X.xe s
theorem go_of{M : Model}{A : Around}{E : Value -> Shared -> Prop}{s : Shared}{tg : Expr}{it : Addr}{u : Value}{o : Obj}{n : String}{vs : Array Value}{Q : Unit -> Shared -> Prop}(ho : s.heap.get? it = some o)(hc : o.cls = .type n)(hd : o.data = .fields vs)
    (hn : ["enumerate", "zip", "dict_itemiterator", "dict_reverseitemiterator", "odict_iterator", "itertools.zip_longest", "itertools.pairwise"].contains n = false) (hQ : Q () s) : wpAny M A (letOwnedTupleGo tg (.ref it) u) Q E s:= by
  unfold letOwnedTupleGo
  cases tg<;>first
    | exact aq hQ
    | (cases u<;>first
        | exact aq hQ
        | (refine aa (wpAny_load ho ?_)
           rw[hc,hd]
           show wpAny M A (if (["enumerate", "zip", "dict_itemiterator", "dict_reverseitemiterator", "odict_iterator", "itertools.zip_longest", "itertools.pairwise"].contains n&&vs[0]? == some (rawInt _)) = true then _ else _) Q E s
           rw[ay (by intro h; rw[hn,Bool.false_and] at h; cases h)]
           exact aq hQ))
def Itl(K:PySem.W.Frag)(a:Addr):It:=
 ⟨fun i H=>∃xs x,bG K H a xs/\xs[i]?=some x,fun i H x H'=>H'=H/\∀xs,bG K H a xs->xs[i]?=some x,fun i H=>∃xs,bG K H a xs/\xs.length<=i⟩
def Itt(K:PySem.W.Frag)(a:Addr):It:=
 ⟨fun i H=>∃xs x,aU K H a xs/\xs[i]?=some x,fun i H x H'=>H'=H/\∀xs,aU K H a xs->xs[i]?=some x,fun i H=>∃xs,aU K H a xs/\xs.length<=i⟩
def Itr(lo:Int)(n:Nat):It:=⟨fun i _=>i<n,fun i H x H'=>H'=H/\x= .int (lo+i),fun i _=>n<=i⟩
theorem aI5{P:Program}{w:World}{K:PySem.W.Frag}{tg:Expr}(a it:Addr):aB0 P w K tg (Itl K a) [it] it (fun i h=>h.IsListIter it a i) where
 mem:=by simp
 obj:=fun i h st b hb=>by
  have e:b=it:=by simpa using hb
  subst e
  obtain⟨o,e,c,d⟩:=st
  exact⟨o,e,fun v z=>by rw[d] at z;cases z⟩
 keep:=fun i h h' st k=>st.at fun o e=>k it (by simp) o e
 item:=by
  intro X hP hw hK hc i pins s σ H E I hf st hg
  subst hP hw hK
  obtain⟨xs,x,hq,hx⟩:=hg
  obtain⟨its,rv,p,hz⟩:=I.list hq
  obtain⟨u,hu,ru⟩:=rv.get hx
  obtain⟨f0,f1,f2,f3,f4,f5⟩:=hf it (by simp)
  refine wpAny_pyNext_list_item st p.isList (x:=u) (by simpa using hu) fun h' st' sb=>?_
  have I1:aQ X pins σ H { s with heap:=h' }:=I.turned (t':=s.toks) (fun b o hb e=>(sb.2 b hb).trans e) f0 f1 f3 f4 f5
  obtain⟨o,e,c,d⟩:=id st'
  exact⟨u,rfl,go_of (s:={ s with heap:=h' }) e c d (by decide) ⟨x,H,I1,ru,⟨rfl,fun ys hy=>by rw[I.list_inj hy hq];exact hx⟩,st',fun b hb=>(hf b hb).1⟩⟩
 done:=by
  intro X hP hw hK hc i pins s σ H E I hf st hg
  subst hP hw hK
  obtain⟨xs,hq,hx⟩:=hg
  obtain⟨its,rv,p,hz⟩:=I.list hq
  obtain⟨f0,f1,f2,f3,f4,f5⟩:=hf it (by simp)
  have hl:=rv.length
  exact wpAny_pyNext_list_end (I.ok.hd hc) st p.isList (by simp;lia) fun h' eb=>⟨rfl,I.turned (t':=s.toks) (fun b o hb e=>eb b o hb e) f0 f1 f3 f4 f5⟩
 self:=fun _ _ _ _ _ st h=>wpAny_pyIter_listiter st h
theorem zL{P:Program}{w:World}{K:PySem.W.Frag}{tg:Expr}(a it:Addr):aB0 P w K tg (Itt K a) [it] it (fun i h=>h.IsTupleIter it a i) where
 mem:=by simp
 obj:=fun i h st b hb=>by
  have e:b=it:=by simpa using hb
  subst e
  obtain⟨o,e,c,d⟩:=st
  exact⟨o,e,fun v z=>by rw[d] at z;cases z⟩
 keep:=fun i h h' st k=>st.at fun o e=>k it (by simp) o e
 item:=by
  intro X hP hw hK hc i pins s σ H E I hf st hg
  subst hP hw hK
  obtain⟨xs,x,hq,hx⟩:=hg
  obtain⟨its,rv,p,hz⟩:=I.tuple hq
  obtain⟨u,hu,ru⟩:=rv.get hx
  obtain⟨f0,f1,f2,f3,f4,f5⟩:=hf it (by simp)
  refine wpAny_pyNext_tuple_item st (show s.heap.IsTuple a its.toArray from p) (x:=u) (by simpa using hu) fun h' st' sb=>?_
  have I1:aQ X pins σ H { s with heap:=h' }:=I.turned (t':=s.toks) (fun b o hb e=>(sb.2 b hb).trans e) f0 f1 f3 f4 f5
  obtain⟨o,e,c,d⟩:=id st'
  exact⟨u,rfl,go_of (s:={ s with heap:=h' }) e c d (by decide) ⟨x,H,I1,ru,⟨rfl,fun ys hy=>by rw[I.tuple_inj hy hq];exact hx⟩,st',fun b hb=>(hf b hb).1⟩⟩
 done:=by
  intro X hP hw hK hc i pins s σ H E I hf st hg
  subst hP hw hK
  obtain⟨xs,hq,hx⟩:=hg
  obtain⟨its,rv,p,hz⟩:=I.tuple hq
  obtain⟨f0,f1,f2,f3,f4,f5⟩:=hf it (by simp)
  have hl:=rv.length
  exact wpAny_pyNext_tuple_end (I.ok.hd hc) st (show s.heap.IsTuple a its.toArray from p) (by simp;lia) fun h' eb=>⟨rfl,I.turned (t':=s.toks) (fun b o hb e=>eb b o hb e) f0 f1 f3 f4 f5⟩
 self:=fun _ _ _ _ _ st h=>wpAny_pyIter_tupleiter st h
theorem zR{P:Program}{w:World}{K:PySem.W.Frag}{tg:Expr}(it:Addr)(lo:Int)(n:Nat):aB0 P w K tg (Itr lo n) [it] it (fun i h=>IsRangeIter h it (lo+(i:Nat)*1) ((n:Int)-(i:Nat)) 1) where
 mem:=by simp
 obj:=fun i h st b hb=>by
  have e:b=it:=by simpa using hb
  subst e
  exact⟨_,st,fun v z=>by
   have z':Data.fields _=Data.cell v:=z
   cases z'⟩
 keep:=fun i h h' st k=>k it (by simp) _ st
 item:=by
  intro X hP hw hK hc i pins s σ H E I hf st hg
  subst hP hw hK
  obtain⟨f0,f1,f2,f3,f4,f5⟩:=hf it (by simp)
  have W:=Walks.range (prog:=X.prog) (w:=X.w) (I.ok.hd hc) it lo 1 n
  refine W.item i s _ _ hg st fun v h' tk hv st' kk=>?_
  obtain⟨t,rfl⟩:=hv
  have I1:aQ X pins σ H { s with heap:=h',toks:=tk }:=I.turned (fun b o hb e=>kk b o (by simpa using hb) e) f0 f1 f3 f4 f5
  refine⟨_,rfl,go_of (s:={ s with heap:=h',toks:=tk }) (n:="range_iterator") st' rfl rfl (by decide) ⟨.int (lo+i),H,I1,⟨t,?_⟩,⟨rfl,rfl⟩,st',fun b hb=>(hf b hb).1⟩⟩
  rw[lm]
 done:=by
  intro X hP hw hK hc i pins s σ H E I hf st hg
  subst hP hw hK
  obtain⟨f0,f1,f2,f3,f4,f5⟩:=hf it (by simp)
  exact wpAny_pyNext_range_end (I.ok.hd hc) st (by have:n<=i:=hg;lia) fun h' eb=>⟨rfl,I.turned (t':=s.toks) (fun b o hb e=>eb b o hb e) f0 f1 f3 f4 f5⟩
 self:=fun _ _ _ _ _ st h=>wpAny_pyIter_rangeiter st h
section
variable {X:Cx}{tg:Expr}
def bN1(K:PySem.W.Frag)(tl:TE):TI:=fun σ H R=>tl σ H fun x H1=>∃a,x= .ref a/\(∃xs,bG K H1 a xs)/\R (Itl K a) H1
def cK7(K:PySem.W.Frag)(tl:TE):TI:=fun σ H R=>tl σ H fun x H1=>∃a,x= .ref a/\(∃xs,aU K H1 a xs)/\R (Itt K a) H1
theorem cX{l:Expr}{tl:TE}(hl:PE X l tl):PI X tg l (bN1 X.K tl):=by
 intro pins s σ H R I h
 refine cL (hl pins s σ H _ I h) ?_;rintro v s1 ⟨x,H1,I1,r1,q1⟩
 obtain⟨a,e,⟨xs,hq⟩,q⟩:=q1
 subst e
 cases r1
 obtain⟨its,rv,p,hz⟩:=I1.list hq
 refine ma p.isList ?_
 refine⟨s1.heap.objs.size,[s1.heap.objs.size],_,_,H1,rfl,I1.kept (t':=s1.toks) fun b o e=>ac _ e,aI5 a _,⟨_,bc _ rfl,rfl,rfl⟩,fun b hb=>?_,q⟩
 have e:b=s1.heap.objs.size:=by simpa using hb
 subst e
 exact I1.fpOk (ai _) (I1.hok.fresh (ai _))
theorem vP{l:Expr}{tl:TE}(hl:PE X l tl):PI X tg l (cK7 X.K tl):=by
 intro pins s σ H R I h
 refine cL (hl pins s σ H _ I h) ?_;rintro v s1 ⟨x,H1,I1,r1,q1⟩
 obtain⟨a,e,⟨xs,hq⟩,q⟩:=q1
 subst e
 cases r1
 obtain⟨its,rv,p,hz⟩:=I1.tuple hq
 refine sx (show s1.heap.IsTuple a its.toArray from p) ?_
 refine⟨s1.heap.objs.size,[s1.heap.objs.size],_,_,H1,rfl,I1.kept (t':=s1.toks) fun b o e=>ac _ e,zL a _,⟨_,bc _ rfl,rfl,rfl⟩,fun b hb=>?_,q⟩
 have e:b=s1.heap.objs.size:=by simpa using hb
 subst e
 exact I1.fpOk (ai _) (I1.hok.fresh (ai _))
theorem aV6{pins:List (Addr×Obj)}{σ:St}{H:Hp}{s:Shared}{R:It->Hp->Prop}{E:Value->Shared->Prop}{lo hi:Int}{t u v:Tok}{tk:Nat}(I:aQ X pins σ H s)(h1: -(2^62)<=lo)(h2:lo<2^62)(h3: -(2^62)<=hi)(h4:hi<2^62)
  (q:R (Itr lo (hi-lo).toNat) H):wpAny (model X.prog X.w) X.A (pyIter (.ref s.heap.objs.size)) (PIE X pins σ tg R) E { s with heap:=s.heap.push { cls:= .type "range",data:= .fields #[.int lo t,.int hi u,.int 1 v] },toks:=tk }:=by
 refine wpAny_pyIter_range (IsRange.new ..) (small_one h1 h2 h3 h4) ?_
 have I1:aQ X pins σ H { s with heap:=s.heap.push { cls:= .type "range",data:= .fields #[.int lo t,.int hi u,.int 1 v] },toks:=tk }:=I.kept fun b o e=>ac _ e
 refine⟨(s.heap.push { cls:= .type "range",data:= .fields #[.int lo t,.int hi u,.int 1 v] }).objs.size,[(s.heap.push { cls:= .type "range",data:= .fields #[.int lo t,.int hi u,.int 1 v] }).objs.size],_,_,H,rfl,
  I1.kept (t':=tk) fun b o e=>ac _ e,zR _ lo (hi-lo).toNat,?_,fun b hb=>?_,q⟩
 ·have e1:lo+((0:Nat):Int)*1=lo:=by simp
  have e2:(((hi-lo).toNat:Nat):Int)-((0:Nat):Int)=Builtin.Range.rangeSize lo hi 1:=by rw[rangeSize_one];split<;>lia
  show IsRangeIter _ _ (lo+((0:Nat):Int)*1) ((((hi-lo).toNat:Nat):Int)-((0:Nat):Int)) 1
  rw[e1,e2]
  exact bc _ rfl
 ·have e:b=(s.heap.push { cls:= .type "range",data:= .fields #[.int lo t,.int hi u,.int 1 v] }).objs.size:=by simpa using hb
  subst e
  exact I1.fpOk (ai _) (I1.hok.fresh (ai _))
def cG5(ta:TA):TI:=fun σ H R=>ta σ H fun vs H1=>∃j:Int,vs=[.int j]/\ -(2^62)<=j/\j<2^62/\R (Itr 0 j.toNat) H1
theorem eB{a:Expr}{ta:TA}{p pos:Pos}(hg:Gl X "range")(hm:X.mg "range"=none)(ha:PA X [a] ta)(hs:autoParam (starEach [a] X.env=[(false,eval a X.env)]) Rq0._auto_1):PI X tg (.Call (.Name "range" p) [a] [] pos) (cG5 ta):=by
 intro pins s σ H R I h
 refine Call_ (gF I hg hm boot_range (ef (cL (ha pos pins s σ H _ I h) ?_) hs rfl));rintro us s1 ⟨vs,H1,I1,r1,q1⟩
 obtain⟨j,e,q1,q2,q⟩:=q1
 subst e
 cases r1 with
 |cons r rr =>
  cases rr
  obtain⟨t,rfl⟩:=r
  exact call_range_1 (aV6 I1 (by lia) (by lia) q1 q2 (by simpa using q))
def cA0(wi:TI)(g:TG)(tb:TS):TS:=fun D σ H=>wi σ H fun J H1=>∃W:Nat->Nat->St->Hp->Prop,(∃m,W 0 m σ H1)/\∀i m σ H,W i m σ H ->
 (J.stop i H/\D.nx σ H)\/(J.go i H/\∃N:St->Hp->Prop,(∀σ' H',N σ' H'->∃m',m'<m/\W (i+1) m' σ' H')/\∀x H',J.yld i H x H'->g x σ H' fun σ2 H2=>tb { D with nx:=N,ct:=N,bk:=D.nx } σ2 H2)
def iF(fp:List Addr)(h:Heap):List (Addr×Obj):=fp.filterMap fun b=>(h.get? b).map fun o=>(b,o)
theorem hJ{fp:List Addr}{h:Heap}{b:Addr}{o:Obj}(hb:b∈fp)(e:h.get? b=some o):(b,o)∈iF fp h:=lj.mpr ⟨b,hb,by rw[e];rfl⟩
theorem tX{fp:List Addr}{h:Heap}{p:Addr×Obj}(hp:p∈iF fp h):p.1∈fp/\h.get? p.1=some p.2:=by
 obtain⟨b,hb,e⟩:=lj.mp hp
 cases q:h.get? b with
 |none=>rw[q] at e;cases e
 |some o =>
  rw[q] at e
  have e':(b,o)=p:=di e
  subst e'
  exact⟨hb,q⟩
theorem aQ.pinned{pins:List (Addr×Obj)}{σ:St}{H:Hp}{s:Shared}{fp:List Addr}(I:aQ X pins σ H s)(hf:∀b∈fp,lS X pins H b)(ho:∀b∈fp,∃o,s.heap.get? b=some o/\∀v,o.data≠ .cell v):aQ X (pins++iF fp s.heap) σ H s:=
 I.pins_of fun p hp=>(bz.mp hp).elim (fun z=>I.pin p (bx _ z)) fun z=>by
  obtain⟨hb,e⟩:=tX z
  obtain⟨f0,f1,f2,_⟩:=hf p.1 hb
  obtain⟨o,e',d⟩:=ho p.1 hb
  rw[e] at e';cases e'
  exact⟨e,f0,f1,f2,d⟩
theorem aQ.unpinned{pins pl:List (Addr×Obj)}{σ:St}{H:Hp}{s:Shared}(I:aQ X (pins++pl) σ H s):aQ X pins σ H s:=I.pins_of fun p hp=>I.pin p (bx _ (dj _ hp))
theorem aN1{iter:Expr}{body:List Stmt}{wi:TI}{g:TG}{tb:TS}{pos:Pos}(hp:PassesOwn (model X.prog X.w) X.A X.env X.xe)(hc:X.calm=true)(hi:PI X tg iter wi)(hg:PG X tg g)(hb:pS X body tb)
  (hs:autoParam (∀x,foldedSetIterable iter X.env x=pure x) Rq4._auto_1):PS X (.For tg iter body [] pos) (cA0 wi g tb):=by
 intro pins s σ H D I h
 refine wpAny_For (cL (hi pins s σ H _ I h) fun v s1 h1=>cL h1 fun itv s2 h2=>?_) hs
 obtain⟨it,fp,tn,J,H2,e,I2,T,st2,f2,W,⟨m0,w0⟩,turn⟩:=h2
 subst e
 have stat:∀{H':Hp},(∀b∈fp,H' b=none)->∀b∈fp,lS X pins H' b:=fun hn b hb=>⟨hn b hb,(f2 b hb).2⟩
 refine codeAny_forLoop_any (fun n s'=>∃i σ' H',aQ X pins σ' H' s'/\tn i s'.heap/\(∀b∈fp,H' b=none)/\W i n σ' H') ?_ m0 ⟨0,σ,H2,I2,st2,fun b hb=>(f2 b hb).1,w0⟩
 rintro n s3 ⟨i,σ3,H3,I3,st3,fr3,w3⟩
 rcases turn i n σ3 H3 w3 with⟨stop,qn⟩|⟨go,N,hN,step⟩
 ·refine jv hp (cL (T.done X rfl rfl rfl hc i pins s3 σ3 H3 X.xe I3 (stat fr3) st3 stop) ?_);rintro r s4 ⟨hr,I4⟩
  subst hr
  exact om ⟨σ3,H3,I4,qn⟩
 ·refine jv hp (cL (T.item X rfl rfl rfl hc i pins s3 σ3 H3 X.xe I3 (stat fr3) st3 go) ?_);rintro r s4 ⟨u,hr,h4⟩
  subst hr
  refine jv hp (cL h4 ?_);rintro _ s5 ⟨x,H5,I5,r5,y5,st5,fr5⟩
  have I5':=I5.pinned (stat fr5) (T.obj _ _ st5)
  refine jv hp (cL (hg _ s5 σ3 H5 x u _ I5' r5 (step x H5 y5)) ?_);rintro _ s6 ⟨σ6,H6,I6,q6⟩
  refine jv hp (cL (hb _ s6 σ6 H6 _ I6 q6) fun f s7 q7=>?_)
  have again:∀{σ7:St}{H7:Hp},aQ X (pins++iF fp s5.heap) σ7 H7 s7->N σ7 H7->∃m,m<n/\∃i σ' H',aQ X pins σ' H' s7/\tn i s7.heap/\(∀b∈fp,H' b=none)/\W i m σ' H':=fun {σ7 H7} I7 n7=>by
   obtain⟨m',hm,w7⟩:=hN σ7 H7 n7
   refine⟨m',hm,i+1,σ7,H7,I7.unpinned,T.keep _ _ _ st5 fun b hb o e=>(I7.pin (b,o) (bx _ (bx _ (hJ hb e)))).1,fun b hb=>?_,w7⟩
   obtain⟨o,e,d⟩:=T.obj _ _ st5 b hb
   exact(I7.pin (b,o) (bx _ (bx _ (hJ hb e)))).2.1
  cases f with
  |next=>obtain⟨σ7,H7,I7,n7⟩:=q7;exact again I7 n7
  |cont=>obtain⟨σ7,H7,I7,n7⟩:=q7;exact again I7 n7
  |brk=>obtain⟨σ7,H7,I7,q7⟩:=q7;exact⟨σ7,H7,I7.unpinned,q7⟩
  |ret v=>obtain⟨x7,σ7,H7,I7,r7,q7⟩:=q7;exact⟨x7,σ7,H7,I7.unpinned,r7,q7⟩
end
theorem wC{K:PySem.W.Frag}{a:Addr}{xs:List V}{g:TG}{tb:TS}{D:jD}{σ:St}{H:Hp}(Pv:Nat->St->Hp->Prop)(h0:Pv 0 σ H)(hl:∀i σ H,i<=xs.length->Pv i σ H->bG K H a xs)
  (hs:∀i x σ H,xs[i]?=some x->Pv i σ H->g x σ H fun σ2 H2=>tb { D with nx:=Pv (i+1),ct:=Pv (i+1),bk:=D.nx } σ2 H2) (hd:∀σ H,Pv xs.length σ H->D.nx σ H) :
  ∃W:Nat->Nat->St->Hp->Prop,(∃m,W 0 m σ H)/\∀i m σ H,W i m σ H ->
   ((Itl K a).stop i H/\D.nx σ H)\/((Itl K a).go i H/\∃N:St->Hp->Prop,(∀σ' H',N σ' H'->∃m',m'<m/\W (i+1) m' σ' H')/\∀x H',(Itl K a).yld i H x H'->g x σ H' fun σ2 H2=>tb { D with nx:=N,ct:=N,bk:=D.nx } σ2 H2):=by
 refine⟨fun i m σ H=>m=xs.length-i/\i<=xs.length/\Pv i σ H,⟨xs.length,by simp,bo _,h0⟩,?_⟩
 rintro i m σ H ⟨rfl,hi,p⟩
 have q:=hl i σ H hi p
 by_cases hlt:i<xs.length
 ·refine .inr ⟨⟨xs,xs[i],q,by simp[hlt]⟩,Pv (i+1),fun σ' H' p'=>⟨xs.length-(i+1),iw hlt (io i),rfl,hlt,p'⟩,fun x H' y=>?_⟩
  obtain⟨e,y⟩:=y
  subst e
  exact hs i x σ _ (y xs q) p
 ·have e:i=xs.length:=by lia
  subst e
  exact .inl ⟨⟨xs,q,ai _⟩,hd σ H p⟩
theorem bK7{K:PySem.W.Frag}{a:Addr}{xs:List V}{g:TG}{tb:TS}{D:jD}{σ:St}{H:Hp}(Pv:Nat->St->Hp->Prop)(h0:Pv 0 σ H)(hl:∀i σ H,i<=xs.length->Pv i σ H->aU K H a xs)
  (hs:∀i x σ H,xs[i]?=some x->Pv i σ H->g x σ H fun σ2 H2=>tb { D with nx:=Pv (i+1),ct:=Pv (i+1),bk:=D.nx } σ2 H2) (hd:∀σ H,Pv xs.length σ H->D.nx σ H) :
  ∃W:Nat->Nat->St->Hp->Prop,(∃m,W 0 m σ H)/\∀i m σ H,W i m σ H ->
   ((Itt K a).stop i H/\D.nx σ H)\/((Itt K a).go i H/\∃N:St->Hp->Prop,(∀σ' H',N σ' H'->∃m',m'<m/\W (i+1) m' σ' H')/\∀x H',(Itt K a).yld i H x H'->g x σ H' fun σ2 H2=>tb { D with nx:=N,ct:=N,bk:=D.nx } σ2 H2):=by
 refine⟨fun i m σ H=>m=xs.length-i/\i<=xs.length/\Pv i σ H,⟨xs.length,by simp,bo _,h0⟩,?_⟩
 rintro i m σ H ⟨rfl,hi,p⟩
 have q:=hl i σ H hi p
 by_cases hlt:i<xs.length
 ·refine .inr ⟨⟨xs,xs[i],q,by simp[hlt]⟩,Pv (i+1),fun σ' H' p'=>⟨xs.length-(i+1),iw hlt (io i),rfl,hlt,p'⟩,fun x H' y=>?_⟩
  obtain⟨e,y⟩:=y
  subst e
  exact hs i x σ _ (y xs q) p
 ·have e:i=xs.length:=by lia
  subst e
  exact .inl ⟨⟨xs,q,ai _⟩,hd σ H p⟩
theorem jJ{lo:Int}{n:Nat}{g:TG}{tb:TS}{D:jD}{σ:St}{H:Hp}(Pv:Nat->St->Hp->Prop)(h0:Pv 0 σ H)
  (hs:∀i σ H,i<n->Pv i σ H->g (.int (lo+i)) σ H fun σ2 H2=>tb { D with nx:=Pv (i+1),ct:=Pv (i+1),bk:=D.nx } σ2 H2) (hd:∀σ H,Pv n σ H->D.nx σ H) :
  ∃W:Nat->Nat->St->Hp->Prop,(∃m,W 0 m σ H)/\∀i m σ H,W i m σ H ->
   ((Itr lo n).stop i H/\D.nx σ H)\/((Itr lo n).go i H/\∃N:St->Hp->Prop,(∀σ' H',N σ' H'->∃m',m'<m/\W (i+1) m' σ' H')/\∀x H',(Itr lo n).yld i H x H'->g x σ H' fun σ2 H2=>tb { D with nx:=N,ct:=N,bk:=D.nx } σ2 H2):=by
 refine⟨fun i m σ H=>m=n-i/\i<=n/\Pv i σ H,⟨n,by simp,bo _,h0⟩,?_⟩
 rintro i m σ H ⟨rfl,hi,p⟩
 by_cases hlt:i<n
 ·refine .inr ⟨hlt,Pv (i+1),fun σ' H' p'=>⟨n-(i+1),iw hlt (io i),rfl,hlt,p'⟩,fun x H' y=>?_⟩
  obtain⟨e,y⟩:=y
  subst e y
  exact hs i σ _ hlt p
 ·have e:i=n:=by lia
  subst e
  exact .inl ⟨ai _,hd σ H p⟩
abbrev R2:=V->V->Hp->VK->Prop
def kH(X:Cx)(f:Value->Value->Sem Value)(r:R2):Prop:=
 ∀(pins:List (Addr×Obj)) (s:Shared) (σ:St) (H:Hp) (x y:V) (v u:Value) (Q:VK),aQ X pins σ H s->bC x v->bC y u->r x y H Q ->
  wpAny (model X.prog X.w) X.A (f v u) (EP X pins σ Q) X.xe s
def UnR(X:Cx)(f:Value->Sem Value)(r:V->Hp->VK->Prop):Prop:=
 ∀(pins:List (Addr×Obj)) (s:Shared) (σ:St) (H:Hp) (x:V) (v:Value) (Q:VK),aQ X pins σ H s->bC x v->r x H Q ->
  wpAny (model X.prog X.w) X.A (f v) (EP X pins σ Q) X.xe s
def fG(X:Cx)(f:Value)(r:List V->Hp->VK->Prop):Prop:=
 ∀(pins:List (Addr×Obj)) (s:Shared) (σ:St) (H:Hp) (xs:List V) (us:List Value) (Q:VK),aQ X pins σ H s->bB xs us->r xs H Q ->
  wpAny (model X.prog X.w) X.A (call f us) (EP X pins σ Q) X.xe s
def cK4(X:Cx)(r:V->Hp->(Bool->Hp->Prop)->Prop):Prop:=
 ∀(pins:List (Addr×Obj)) (s:Shared) (σ:St) (H:Hp) (x:V) (v:Value) (Q:Bool->Hp->Prop),aQ X pins σ H s->bC x v->r x H Q ->
  wpAny (model X.prog X.w) X.A (truthy v) (TP X pins σ Q) X.xe s
def wN(r:R2)(ta tb:TE):TE:=fun σ H Q=>ta σ H fun x H1=>tb σ H1 fun y H2=>r x y H2 Q
def tUn(r:V->Hp->VK->Prop)(ta:TE):TE:=fun σ H Q=>ta σ H fun x H1=>r x H1 Q
inductive rI(C:Int->Int->Prop)(g:Int->Int->V)(x:V)(y:V)(H:Hp)(Q:VK):Prop
 |mk:∀i j,(x= .int i)->(y= .int j)->(C i j)->(Q (g i j) H)->rI C g x y H Q
inductive rI0(g:Int->Int->V)(x:V)(y:V)(H:Hp)(Q:VK):Prop
 |mk:∀i j,(x= .int i)->(y= .int j)->(Q (g i j) H)->rI0 g x y H Q
inductive rU(g:Int->V)(x:V)(H:Hp)(Q:VK):Prop
 |mk:∀i,(x= .int i)->(Q (g i) H)->rU g x H Q
section
variable {X:Cx}{a b c:Expr}{ta tb tc:TE}{pos:Pos}
theorem bP5(ha:PE X a ta)(hb:PE X b tb){pins:List (Addr×Obj)}{s:Shared}{σ:St}{H:Hp}{R:V->V->Hp->Prop}(I:aQ X pins σ H s)
  (h:ta σ H fun x H1=>tb σ H1 fun y H2=>R x y H2) {Q:Value->Shared->Prop}{f:Value->Value->Sem Value}
  (hf:∀v u s2 x y H2,aQ X pins σ H2 s2->bC x v->bC y u->R x y H2->wpAny (model X.prog X.w) X.A (f v u) Q X.xe s2) :
  wpAny (model X.prog X.w) X.A (eval a X.env) (fun v s₁=>wpAny (model X.prog X.w) X.A (eval b X.env) (fun u s₂=>wpAny (model X.prog X.w) X.A (f v u) Q X.xe s₂) X.xe s₁) X.xe s:=by
 refine cL (ha pins s σ H _ I h) ?_;rintro v s1 ⟨x,H1,I1,r1,q1⟩
 refine cL (hb pins s1 σ H1 _ I1 q1) ?_;rintro u s2 ⟨y,H2,I2,r2,q2⟩
 exact hf v u s2 x y H2 I2 r1 r2 q2
theorem aL{op:Operator}{r:R2}(ho:kH X (binaryOp op) r)(ha:PE X a ta)(hb:PE X b tb):PE X (.BinOp a op b pos) (wN r ta tb):=by
 intro pins s σ H Q I h
 exact wpAny_BinOp (bP5 ha hb I h fun v u s2 x y H2 I2 rx ry q=>ho pins s2 σ H2 x y v u Q I2 rx ry q)
theorem aD8{op:UnaryOp}{r:V->Hp->VK->Prop}(ho:UnR X (unaryOp op) r)(ha:PE X a ta):PE X (.UnaryOp op a pos) (tUn r ta):=by
 intro pins s σ H Q I h
 refine UnaryOp_ (cL (ha pins s σ H _ I h) ?_);rintro v s1 ⟨x,H1,I1,r1,q1⟩;exact ho pins s1 σ H1 x v Q I1 r1 q1
theorem opI{f:Value->Value->Sem Value}{C:Int->Int->Prop}{g:Int->Int->Int}
  (rule:∀(i j:Int) (t u:Tok) (s:Shared) (Q:Value->Shared->Prop) (E:Value->Shared->Prop),C i j->Q (.int (g i j) s.toks) { s with toks:=s.toks+1 }->wpAny (model X.prog X.w) X.A (f (.int i t) (.int j u)) Q E s) :
  kH X f (rI C fun i j=> .int (g i j)):=by
 intro pins s σ H x y v u Q I rx ry h
 obtain⟨i,j,rfl,rfl,hc,q⟩:=h
 obtain⟨t,rfl⟩:=rx
 obtain⟨t',rfl⟩:=ry
 exact rule i j t t' s _ _ hc ⟨.int (g i j),H,I.tok _,⟨_,rfl⟩,q⟩
theorem cA8{f:Value->Value->Sem Value}{g:Int->Int->Int}
  (rule:∀(i j:Int) (t u:Tok) (s:Shared) (Q:Value->Shared->Prop) (E:Value->Shared->Prop),Q (.int (g i j) s.toks) { s with toks:=s.toks+1 }->wpAny (model X.prog X.w) X.A (f (.int i t) (.int j u)) Q E s) :
  kH X f (rI0 fun i j=> .int (g i j)):=by
 intro pins s σ H x y v u Q I rx ry h
 obtain⟨i,j,rfl,rfl,q⟩:=h
 obtain⟨t,rfl⟩:=rx
 obtain⟨t',rfl⟩:=ry
 exact rule i j t t' s _ _ ⟨.int (g i j),H,I.tok _,⟨_,rfl⟩,q⟩
theorem bG8{f:Value->Value->Sem Value}{g:Int->Int->Bool}
  (rule:∀(i j:Int) (t u:Tok) (s:Shared) (Q:Value->Shared->Prop) (E:Value->Shared->Prop),Q (.bool (g i j)) s->wpAny (model X.prog X.w) X.A (f (.int i t) (.int j u)) Q E s) :
  kH X f (rI0 fun i j=> .bl (g i j)):=by
 intro pins s σ H x y v u Q I rx ry h
 obtain⟨i,j,rfl,rfl,q⟩:=h
 obtain⟨t,rfl⟩:=rx
 obtain⟨t',rfl⟩:=ry
 exact rule i j t t' s _ _ ⟨.bl (g i j),H,I,rfl,q⟩
def cM5(i j:Int):Prop:=0<=j/\j<=1000000/\i.natAbs<2^64
def bS9(i j:Int):Prop:=(-(2^64)<i/\i<2^64)\/(-(2^64)<j/\j<2^64)
theorem bS9.ok{i j:Int}(h:bS9 i j):IntMulOk i j:=by
 rcases h with⟨h1,h2⟩|⟨h1,h2⟩
 ·exact .of_left (intBits_le_64 h1 h2)
 ·exact .of_right (intBits_le_64 h1 h2)
theorem bV:kH X (binaryOp .Add) (rI0 fun i j=> .int (i+j)):=cA8 fun _ _ _ _ _ _ _ q=>add_int q
theorem fH:kH X (binaryOp .Sub) (rI0 fun i j=> .int (i-j)):=cA8 fun _ _ _ _ _ _ _ q=>sub_int q
theorem eR:kH X (binaryOp .Mult) (rI bS9 fun i j=> .int (i*j)):=opI fun _ _ _ _ _ _ _ hc q=>mul_int q hc.ok
theorem iG:kH X (binaryOp .Mod) (rI (fun _ j=>0<j) fun i j=> .int (i % j)):=opI fun i j _ _ _ _ _ hc q=>by
 have h1:(0:Int)<j:=hc
 exact mod_int' (by lia) (by rw[Int.fmod_eq_emod_of_nonneg i (by lia)];exact q)
theorem bD0:kH X (binaryOp .Pow) (rI cM5 fun i j=> .int (i^j.toNat)):=opI fun _ _ _ _ _ _ _ hc q=>pow_int_small hc.1 hc.2.1 hc.2.2 q
theorem unI{f:Value->Sem Value}{g:Int->Int}
  (rule:∀(i:Int) (t:Tok) (s:Shared) (Q:Value->Shared->Prop) (E:Value->Shared->Prop),Q (.int (g i) s.toks) { s with toks:=s.toks+1 }->wpAny (model X.prog X.w) X.A (f (.int i t)) Q E s) :
  UnR X f (rU fun i=> .int (g i)):=by
 intro pins s σ H x v Q I rx h
 obtain⟨i,rfl,q⟩:=h
 obtain⟨t,rfl⟩:=rx
 exact rule i t s _ _ ⟨.int (g i),H,I.tok _,⟨_,rfl⟩,q⟩
theorem vK:UnR X (unaryOp .USub) (rU fun i=> .int (-i)):=unI fun _ _ _ _ _ q=>neg_int q
end
def cB6:V->V->Bool
 |.non,.non=>true | .non,.int _=>true | .int _,.non=>true | .non,.bl _=>true | .bl _,.non=>true | .non,.str _=>true | .str _,.non=>true
 |.int _,.int _=>true | .bl _,.bl _=>true | .str _,.str _=>true | .byt _,.byt _=>true
 |.int _,.str _=>true | .str _,.int _=>true | .bl _,.str _=>true | .str _,.bl _=>true
 |_,_=>false
def rEq:R2:=fun x y H Q=>cB6 x y=true/\Q (.bl (decide (x=y))) H
def rNe:R2:=fun x y H Q=>cB6 x y=true/\Q (.bl (!decide (x=y))) H
theorem aD6{i j:Int}:decide (V.int i=V.int j)=(i==j):=by
 rw[oo]
 simp
theorem aT6{i j:Bool}:decide (V.bl i=V.bl j)=(i==j):=by
 rw[oo]
 simp
theorem aH7{i j:Str}:decide (V.str i=V.str j)=(i==j):=by
 rw[oo]
 simp
theorem aF7{i j:Array UInt8}:decide (V.byt i=V.byt j)=(i.toList==j.toList):=by
 rw[oo]
 cases i
 cases j
 simp
section
variable {X:Cx}{a b c:Expr}{ta tb tc:TE}{pos:Pos}
theorem bP{pins:List (Addr×Obj)}{σ:St}{H:Hp}{s:Shared}{Q:VK}{k k':Bool}(I:aQ X pins σ H s)(q:Q (.bl k) H)(e:k=k'):EP X pins σ Q (.bool k') s:=by
 subst e
 exact⟨.bl k,H,I,rfl,q⟩
theorem cA:kH X (compareOp .Eq) rEq:=by
 intro pins s σ H x y v u Q I rx ry h
 obtain⟨hs,q⟩:=h
 cases x with
 |non =>
  cases rx
  cases y with
  |non=>cases ry;exact PySem.EqNone.eq_none_none (bP I q (by simp))
  |bl j=>cases ry;exact PySem.EqNone.eq_none_bool (bP I q (by simp))
  |int j=>obtain⟨t',rfl⟩:=ry;exact PySem.EqNone.eq_none_int (bP I q (by simp))
  |str j=>obtain⟨t',rfl⟩:=ry;exact PySem.EqNone.eq_none_str (bP I q (by simp))
  |_=>exact absurd (show false=true from hs) bt
 |bl i =>
  cases rx
  cases y with
  |non=>cases ry;exact PySem.EqNone.eq_bool_none (bP I q (by simp))
  |bl j=>cases ry;exact eq_bool (bP I q aT6)
  |str j=>obtain⟨t',rfl⟩:=ry;exact PySem.EqMixed.eq_bool_str (bP I q (by simp))
  |_=>exact absurd (show false=true from hs) bt
 |int i =>
  obtain⟨t,rfl⟩:=rx
  cases y with
  |non=>cases ry;exact PySem.EqNone.eq_int_none (bP I q (by simp))
  |int j=>obtain⟨t',rfl⟩:=ry;exact eq_int (bP I q aD6)
  |str j=>obtain⟨t',rfl⟩:=ry;exact PySem.EqMixed.eq_int_str (bP I q (by simp))
  |_=>exact absurd (show false=true from hs) bt
 |str i =>
  obtain⟨t,rfl⟩:=rx
  cases y with
  |non=>cases ry;exact PySem.EqNone.eq_str_none (bP I q (by simp))
  |bl j=>cases ry;exact PySem.EqMixed.eq_str_bool (bP I q (by simp))
  |int j=>obtain⟨t',rfl⟩:=ry;exact PySem.EqMixed.eq_str_int (bP I q (by simp))
  |str j=>obtain⟨t',rfl⟩:=ry;exact eq_str (bP I q aH7)
  |_=>exact absurd (show false=true from hs) bt
 |byt i =>
  obtain⟨t,rfl⟩:=rx
  cases y with
  |byt j=>obtain⟨t',rfl⟩:=ry;exact PySem.W.eq_bytes (bP I q aF7)
  |_=>exact absurd (show false=true from hs) bt
 |_=>cases y<;>exact absurd (show false=true from hs) bt
theorem aZ0:kH X (compareOp .NotEq) rNe:=by
 intro pins s σ H x y v u Q I rx ry h
 obtain⟨hs,q⟩:=h
 cases x with
 |non =>
  cases rx
  cases y with
  |non=>cases ry;exact PySem.EqNone.ne_none_none (bP I q (by simp))
  |bl j=>cases ry;exact PySem.EqNone.ne_none_bool (bP I q (by simp))
  |int j=>obtain⟨t',rfl⟩:=ry;exact PySem.EqNone.ne_none_int (bP I q (by simp))
  |str j=>obtain⟨t',rfl⟩:=ry;exact PySem.EqNone.ne_none_str (bP I q (by simp))
  |_=>exact absurd (show false=true from hs) bt
 |bl i =>
  cases rx
  cases y with
  |non=>cases ry;exact PySem.EqNone.ne_bool_none (bP I q (by simp))
  |bl j=>cases ry;exact ne_bool (bP I q (fm not aT6))
  |str j=>obtain⟨t',rfl⟩:=ry;exact PySem.EqMixed.ne_bool_str (bP I q (by simp))
  |_=>exact absurd (show false=true from hs) bt
 |int i =>
  obtain⟨t,rfl⟩:=rx
  cases y with
  |non=>cases ry;exact PySem.EqNone.ne_int_none (bP I q (by simp))
  |int j=>obtain⟨t',rfl⟩:=ry;exact ne_int (bP I q (fm not aD6))
  |str j=>obtain⟨t',rfl⟩:=ry;exact PySem.EqMixed.ne_int_str (bP I q (by simp))
  |_=>exact absurd (show false=true from hs) bt
 |str i =>
  obtain⟨t,rfl⟩:=rx
  cases y with
  |non=>cases ry;exact PySem.EqNone.ne_str_none (bP I q (by simp))
  |bl j=>cases ry;exact PySem.EqMixed.ne_str_bool (bP I q (by simp))
  |int j=>obtain⟨t',rfl⟩:=ry;exact PySem.EqMixed.ne_str_int (bP I q (by simp))
  |str j=>obtain⟨t',rfl⟩:=ry;exact ne_str (bP I q (fm not aH7))
  |_=>exact absurd (show false=true from hs) bt
 |byt i =>
  obtain⟨t,rfl⟩:=rx
  cases y with
  |byt j=>obtain⟨t',rfl⟩:=ry;exact PySem.W.ne_bytes (bP I q (fm not aF7))
  |_=>exact absurd (show false=true from hs) bt
 |_=>cases y<;>exact absurd (show false=true from hs) bt
theorem pP:kH X (compareOp .Lt) (rI0 fun i j=> .bl (decide (i<j))):=bG8 fun _ _ _ _ _ _ _ q=>lt_int q
theorem aG7:kH X (compareOp .LtE) (rI0 fun i j=> .bl (decide (i<=j))):=bG8 fun _ _ _ _ _ _ _ q=>le_int q
theorem lG:kH X (compareOp .Gt) (rI0 fun i j=> .bl (decide (j<i))):=bG8 fun _ _ _ _ _ _ _ q=>gt_int q
theorem aI0:kH X (compareOp .GtE) (rI0 fun i j=> .bl (decide (j<=i))):=bG8 fun _ _ _ _ _ _ _ q=>ge_int q
theorem pI(b:Expr){op:CmpOp}(h:autoParam (op≠ .In) Rq1._auto_1)(h2:autoParam (op≠ .NotIn) Rq1._auto_1):behindInMarks op b=false:=by
 have e1:(op==CmpOp.In)=false:=by cases op<;>first|rfl|exact absurd rfl h
 have e2:(op==CmpOp.NotIn)=false:=by cases op<;>first|rfl|exact absurd rfl h2
 cases b<;>simp[behindInMarks,e1,e2]
theorem bH2{op:CmpOp}{r:R2}(ho:kH X (compareOp op) r)(ha:PE X a ta)(hb:PE X b tb)(hm:behindInMarks op b=false):PE X (.Compare a [op] [b] pos) (wN r ta tb):=by
 intro pins s σ H Q I h
 exact wpAny_Compare1 (bP5 ha hb I h fun v u s2 x y H2 I2 rx ry q=>ho pins s2 σ H2 x y v u Q I2 rx ry q) hm
def uA(t:TE):TT:=fun σ H Q=>t σ H fun x H'=>BlK x fun k=>Q k H'
theorem nS{op:CmpOp}{r:R2}(ho:kH X (compareOp op) r)(ha:PE X a ta)(hb:PE X b tb)(hm:behindInMarks op b=false):PT X (.Compare a [op] [b] pos) (uA (wN r ta tb)):=by
 intro pins s σ H Q I h
 refine wg (cL (ha pins s σ H _ I h) fun v s1 ⟨x,H1,I1,r1,q1⟩=>cL (hb pins s1 σ H1 _ I1 q1) fun u s2 ⟨y,H2,I2,r2,q2⟩ =>
  cL (ho pins s2 σ H2 x y v u _ I2 r1 r2 q2) fun c s3 ⟨z,H3,I3,r3,k,e,q3⟩=>?_) hm
 subst e
 cases r3
 exact ii ⟨H3,I3,q3⟩
def bR5(r r':R2)(ta tb tc:TE):TE:=fun σ H Q=>ta σ H fun x H1=>tb σ H1 fun y H2=>r x y H2 fun z H3=>∃k,z= .bl k /\
 (if k=true then tc σ H3 fun w' H4=>r' y w' H4 Q else Q (.bl false) H3)
theorem xI{op op':CmpOp}{r r':R2}(ho:kH X (compareOp op) r)(ho':kH X (compareOp op') r')(ha:PE X a ta)(hb:PE X b tb)(hc:PE X c tc)
  (hm:lastMarks [op,op'] [b,c]=false:=by with_unfolding_all rfl):PT X (.Compare a [op,op'] [b,c] pos) (uA (bR5 r r' ta tb tc)):=by
 intro pins s σ H Q I h
 refine isTrue_chain (cL (ha pins s σ H _ I h) fun v s1 ⟨x,H1,I1,r1,q1⟩=>test_link (cL (hb pins s1 σ H1 _ I1 q1) fun u s2 ⟨y,H2,I2,r2,q2⟩ =>
  cL (ho pins s2 σ H2 x y v u _ I2 r1 r2 q2) fun d s3 ⟨z,H3,I3,r3,k,e,q3⟩=>?_)) hm
 subst e
 cases r3
 refine ii ?_
 cases k with
 |false =>
  obtain⟨k',e',q'⟩:=q3
  cases e'
  exact ite_ff ⟨H3,I3,q'⟩
 |true =>
  refine ite_tt (test_last (cL (hc pins s3 σ H3 _ I3 q3) ?_));rintro w' s4 ⟨z',H4,I4,r4,q4⟩;refine cL (ho' pins s4 σ H4 y z' u w' _ I4 r2 r4 q4) ?_;rintro d' s5 ⟨z2,H5,I5,r5,k2,e2,q5⟩
  subst e2
  cases r5
  exact ii ⟨H5,I5,q5⟩
def cD4(K:PySem.W.Frag)(x:V)(H:Hp)(k:Bool):Prop:=
 match x with
 |.non=>k=false
 |.bl b=>k=b
 |.int i=>k=(i != 0)
 |.str y=>y.length<=sizeLine/\k=((y.length:Int) != 0)
 |.byt y=>y.size<=sizeLine/\k=((y.size:Int) != 0)
 |.ref p=>(∃xs,bG K H p xs/\k= !xs.isEmpty)\/(∃xs,aU K H p xs/\k= !xs.isEmpty)\/∃kvs,H p=some (.dK kvs)/\k= !kvs.isEmpty
 |_=>False
theorem aC9{κ:Type}{kvs:List (κ×V)}{vs:List (κ×Value)}(r:KV kvs vs):(!vs.isEmpty)= !kvs.isEmpty:=by
 cases r<;>rfl
theorem rR{xs:List V}{its:List Value}(r:bB xs its):(!its.toArray.isEmpty)= !xs.isEmpty:=by
 cases r<;>simp
theorem mL:(sizeLine:Nat)<2^63:=by rw[nz];decide
theorem bV0:cK4 X (fun x H Q=>∃k,cD4 X.K x H k/\Q k H):=by
 intro pins s σ H x v Q I rx h
 obtain⟨k,e,q⟩:=h
 have hl:=mL
 have hs:sizeLine=16777216:=nz
 cases x with
 |non =>
  cases rx
  have e':k=false:=e
  subst e'
  exact truthy_none ⟨H,I,q⟩
 |bl b =>
  cases rx
  have e':k=b:=e
  subst e'
  exact ii ⟨H,I,q⟩
 |int i =>
  obtain⟨t,rfl⟩:=rx
  have e':k=(i != 0):=e
  subst e'
  exact PySem.P.truthy_int ⟨H,I,q⟩
 |str y =>
  obtain⟨t,rfl⟩:=rx
  obtain⟨hy,e'⟩:y.length<=sizeLine/\k=((y.length:Int) != 0):=e
  subst e'
  exact PySem.P.truthy_str (by lia) ⟨H,I.tok _,q⟩
 |byt y =>
  obtain⟨t,rfl⟩:=rx
  obtain⟨hy,e'⟩:y.size<=sizeLine/\k=((y.size:Int) != 0):=e
  subst e'
  exact PySem.W.truthy_bytes (by lia) ⟨H,I.tok _,q⟩
 |ref p =>
  cases rx
  have e':(∃xs,bG X.K H p xs/\k= !xs.isEmpty)\/(∃xs,aU X.K H p xs/\k= !xs.isEmpty)\/∃kvs,H p=some (.dK kvs)/\k= !kvs.isEmpty:=e
  rcases e' with⟨xs,hx,e'⟩|⟨xs,hx,e'⟩|⟨kvs,hx,e'⟩
  ·subst e'
   obtain⟨its,r,pl,hz⟩:=I.list hx
   have hlen:=r.length
   exact wpAny_truthy_list pl.isList (by simp only[List.size_toArray];lia) ⟨H,I.tok _,by rw[rR r];exact q⟩
  ·subst e'
   obtain⟨its,r,pl,hz⟩:=I.tuple hx
   have hlen:=r.length
   exact truthy_tuple pl (by simp only[List.size_toArray];lia) ⟨H,I.tok _,by rw[rR r];exact q⟩
  ·subst e'
   obtain⟨hz,hS,vs,r,m⟩:kvs.length<=sizeLine/\(p==sysModules)=false/\∃vs,KV kvs vs/\s.heap.DictOf (bY X.prog X.w) p vs:=I.hok p _ hx
   have hlen:kvs.length=vs.length:=lg r
   exact wpAny_truthy_dict hS m (by lia) ⟨H,I.tok _,by rw[aC9 r];exact q⟩
 |_=>exact(show False from e).elim
theorem lM(ha:PE X a ta)(he:∀whole,isTrue a X.env whole=(do let v <-whole;standAt a.pos;holding [v] (truthy v))) :
  PT X a (fun σ H Q=>ta σ H fun x H'=>∃k,cD4 X.K x H' k/\Q k H'):=by
 intro pins s σ H Q I h
 refine isTrue_plain (cL (ha pins s σ H _ I h) ?_) (he _);rintro v s1 ⟨x,H1,I1,r1,q1⟩;exact bV0 pins s1 σ H1 x v Q I1 r1 q1
theorem mC:kH X (binaryOp .Add) (fun x y H Q=>∃i j,x= .str i/\y= .str j/\i.length+j.length<=sizeLine/\Q (.str (i++j)) H):=by
 intro pins s σ H x y v u Q I rx ry h
 obtain⟨i,j,rfl,rfl,hz,q⟩:=h
 obtain⟨t,rfl⟩:=rx
 obtain⟨t',rfl⟩:=ry
 exact add_str (fun t' tk=>⟨.str (i++j),H,I.tok _,⟨_,rfl⟩,q⟩) hz
theorem nZ{x:V}{us:List Value}(r:bB [x] us):∃u,us=[u]/\bC x u:=by
 cases r with
 |cons r1 r2=>cases r2;exact⟨_,rfl,r1⟩
theorem nX{x y:V}{us:List Value}(r:bB [x,y] us):∃u w',us=[u,w']/\bC x u/\bC y w':=by
 cases r with
 |cons r1 r2 =>
  cases r2 with
  |cons r3 r4=>cases r4;exact⟨_,_,rfl,r1,r3⟩
theorem tR(hc:X.calm=true):fG X (.builtin "max") (fun xs H Q=>∃i j,xs=[.int i,.int j]/\Q (.int (if j > i then j else i)) H):=by
 intro pins s σ H xs us Q I r h
 obtain⟨i,j,rfl,q⟩:=h
 obtain⟨u,w',rfl,⟨t,rfl⟩,⟨t',rfl⟩⟩:=nX r
 refine max_two_ints (I.ok.hd hc) fun h' tk k=>⟨_,H,I.kept k,?_,q⟩
 by_cases hj:j > i
 ·rw[bv hj,bv hj];exact⟨_,rfl⟩
 ·rw[ay hj,ay hj];exact⟨_,rfl⟩
theorem aI8(hc:X.calm=true):fG X (.builtin "min") (fun xs H Q=>∃i j,xs=[.int i,.int j]/\Q (.int (if j<i then j else i)) H):=by
 intro pins s σ H xs us Q I r h
 obtain⟨i,j,rfl,q⟩:=h
 obtain⟨u,w',rfl,⟨t,rfl⟩,⟨t',rfl⟩⟩:=nX r
 refine min_two_ints (I.ok.hd hc) fun h' tk k=>⟨_,H,I.kept k,?_,q⟩
 by_cases hj:j<i
 ·rw[bv hj,bv hj];exact⟨_,rfl⟩
 ·rw[ay hj,ay hj];exact⟨_,rfl⟩
theorem oN:fG X (.type "int") (fun xs H Q=>(∃i,xs=[.int i]/\Q (.int i) H)\/∃k,xs=[.bl k]/\Q (.int (if k then 1 else 0)) H):=by
 intro pins s σ H xs us Q I r h
 rcases h with⟨i,rfl,q⟩|⟨k,rfl,q⟩
 ·obtain⟨u,rfl,t,rfl⟩:=nZ r
  exact call_int_int ⟨.int i,H,I,⟨_,rfl⟩,q⟩
 ·obtain⟨u,rfl,r1⟩:=nZ r
  cases r1
  exact call_int_bool ⟨.int (if k then 1 else 0),H,I.tok _,⟨_,rfl⟩,q⟩
end
structure bX0(h:Heap)(x dx C:Addr)(mA:Str->Option Value):Prop where
 obj:h.get? x=some (PySem.W.instObj C dx)
 ns:h.Ns1 dx mA
 ne:dx≠x
theorem tS{h:Heap}{dx:Addr}{mA:Str->Option Value}(n:h.Ns1 dx mA):∃od,h.get? dx=some od/\∀name,PySem.W.lookIn name od=some (mA name):=by
 obtain⟨o,es,ep,ho,hd,hk,_,hm⟩:=n
 refine⟨o,ho,fun name=>?_⟩
 have e:=hm name
 unfold nsFind findBy at e
 rw[<-xz] at e
 unfold PySem.W.lookIn
 rw[hd]
 dsimp only
 split
 ·rename_i y q
  rw[q] at e
  exact fm some e
 ·rename_i q
  rw[q] at e
  have a:es.toList.any (·.refKey)=false:=by
   rw[List.any_eq_false]
   intro y hy
   obtain⟨z,t,hkey⟩:=hk y (Array.mem_toList_iff.mp hy)
   simp[DictEntry.refKey,hkey]
  have a':¬es.toList.any (·.refKey)=true:=by rw[a];exact bt
  rw[ay a']
  exact fm some e
theorem bX0.look{h:Heap}{x dx C:Addr}{mA:Str->Option Value}(I:bX0 h x dx C mA):∃od,PySem.W.InstAt h x (PySem.W.instObj C dx) C (some od)/\∀name,PySem.W.lookIn name od=some (mA name):=by
 obtain⟨od,ho,hl⟩:=tS I.ns
 exact⟨od,⟨I.obj,rfl,rfl,ho⟩,hl⟩
section
variable {prog:Program}{w:World}{A:Around}{E:Value->Shared->Prop}{s:Shared}{K:PySem.W.Frag}{x dx C f:Addr}{mA:Str->Option Value}{name:Str}{v:Value}
end
theorem jM.some_of{v:V}{o:Option Value}(r:jM (some v) o):∃u,o=some u/\bC v u:=by
 cases o with
 |none=>exact(show False from r).elim
 |some u=>exact⟨u,rfl,r⟩
theorem jM.none_of{o:Option Value}(r:jM none o):o=none:=by
 cases o with
 |none=>rfl
 |some u=>exact(show False from r).elim
section
variable {P:Program}{w:World}{H H':Hp}{h h':Heap}{a C dx:Addr}{fs fs':List (Str×V)}
theorem bK4(hok:kA P w H h)(e:H a=some (.ins C dx fs)):∃mA,bX0 h a dx C mA/\(∀f,jM (fs.lookup f) (mA f))/\PySem.Within mA (fs.map (·.1))/\fs.length<=1000/\H dx=some (.own a):=by
 obtain⟨d,z,ne,ob,mA,n,r,q⟩:=(show bW P w H h a (.ins C dx fs) from hok a _ e)
 exact⟨mA,⟨ob,n,ne⟩,r,q,z,d⟩
end
structure Cls(K:PySem.W.Frag)(C:Addr):Prop where
 pg:PySem.W.plainGet K C Str.empty=true
 hd:PySem.W.hasDictIn K C=true
 po:PySem.W.plainOver K C=true
 sa:PySem.W.findIn K (.ref C) "__setattr__"=some (some (.builtin "object.__setattr__"))
theorem Cls.get{K:PySem.W.Frag}{C:Addr}(c:Cls K C)(f:Str):PySem.W.plainGet K C f=true:=c.pg
section
variable {X:Cx}{pins:List (Addr×Obj)}{σ:St}{H:Hp}{s:Shared}{a C dx:Addr}{fs:List (Str×V)}{f:Str}{v:V}{A:Around}{E:Value->Shared->Prop}
end
section
variable {X:Cx}{o e value:Expr}{f:Str}{pos pos' tpos:Pos}{ta tv:TE}
end
section
variable {X:Cx}{pins:List (Addr×Obj)}{σ:St}{H:Hp}{s:Shared}{A:Around}{E:Value->Shared->Prop}{Q:Value->Shared->Prop}{c:Value}{b:Bool}
inductive pF(K:PySem.W.Frag)(H:Hp):V->Value->Prop where
 |non:pF K H .non (.type "NoneType")
 |bl (x:Bool):pF K H (.bl x) (.type "bool")
 |int (i:Int):pF K H (.int i) (.type "int")
 |str (x:Str):pF K H (.str x) (.type "str")
 |flt (x:UInt64):pF K H (.flt x) (.type "float")
 |lst {a:Addr}{xs:List V}(e:H a=some (.lst xs)):pF K H (.ref a) (.type "list")
 |frz {a:Addr}{o:Obj}{xs:List V}(e:H a=some (.frz o (.lst xs))):pF K H (.ref a) (.type "list")
 |tup {a:Addr}{xs:List V}(e:H a=some (.tup xs)):pF K H (.ref a) (.type "tuple")
 |dK {a:Addr}{kvs:List (Key×V)}(e:H a=some (.dK kvs)):pF K H (.ref a) (.type "dict")
 |dT {a:Addr}{kvs:List (List Key×V)}(e:H a=some (.dT kvs)):pF K H (.ref a) (.type "dict")
 |ins {a C dx:Addr}{fs:List (Str×V)}(e:H a=some (.ins C dx fs)) (cl:Cls K C) (ha:PySem.W.findIn K (.ref C) "__class__"=some (some (.builtin "object.__class__")))
   (hn:PySem.W.specialIn K (.builtin "object.__class__") "__get__"=some (some (.builtin "getset_descriptor.__get__"))) (htk:PySem.W.takesIn K (.builtin "object.__class__")=some true)
   (hm:PySem.W.mroIn K C (.type "object")=some true):pF K H (.ref a) (.ref C)
theorem aL8{x:V}{u t:Value}(I:aQ X pins σ H s)(rx:bC x u)(ty:pF X.K H x t)(e:PySem.W.kitOne X.K t c=some b)(h:∀tk,Q (.bool b) { s with toks:=tk }) :
  wpAny (model X.prog X.w) A (call (.builtin "isinstance") [u,c]) Q E s:=by
 cases ty with
 |non=>cases(show u=Value.none from rx);exact gg PySem.W.kitx_none I.kIn jm e (fun z=>nomatch z) h
 |bl y=>cases(show u=Value.bool y from rx);exact gg PySem.W.kitx_bool I.kIn jm e (fun z=>nomatch z) h
 |int i=>obtain⟨t,q⟩:=(show ∃t,u=Value.int i t from rx);cases q;exact gg PySem.W.kitx_int I.kIn jm e (fun z=>nomatch z) h
 |str y=>obtain⟨t,q⟩:=(show ∃t,u=Value.str y t from rx);cases q;exact gg PySem.W.kitx_str I.kIn jm e (fun z=>nomatch z) h
 |flt y=>obtain⟨t,q⟩:=(show ∃t,u=Value.float y t from rx);cases q;exact gg PySem.W.kitx_float I.kIn jm e (fun z=>nomatch z) h
 |@lst a xs ea =>
  cases(show u=Value.ref a from rx)
  obtain⟨_,_,n,_,h1⟩:=(show bW X.prog X.w H s.heap a (.lst xs) from I.hok a _ ea)
  exact gg yt I.kIn ⟨_,h1,rfl⟩ e (fun z=>nomatch z) h
 |@frz a ob xs ea =>
  cases(show u=Value.ref a from rx)
  obtain⟨_,_,_,n,_,h1⟩:=(show bW X.prog X.w H s.heap a (.frz ob (.lst xs)) from I.hok a _ ea)
  exact gg yt I.kIn ⟨_,h1,rfl⟩ e (fun z=>nomatch z) h
 |@tup a xs ea =>
  cases(show u=Value.ref a from rx)
  obtain⟨_,_,_,p⟩:=(show bW X.prog X.w H s.heap a (.tup xs) from I.hok a _ ea)
  obtain⟨o,h1,h2,_⟩:=p
  exact gg PySem.W.kitx_tuple I.kIn ⟨o,h1,h2⟩ e (fun z=>nomatch z) h
 |@dK a kvs ea =>
  cases(show u=Value.ref a from rx)
  obtain⟨_,_,vs,_,p⟩:=(show bW X.prog X.w H s.heap a (.dK kvs) from I.hok a _ ea)
  obtain⟨o,es,ep,h1,h2,_⟩:=p
  exact gg yu I.kIn ⟨o,h1,h2.1⟩ e (fun z=>nomatch z) h
 |@dT a kvs ea =>
  cases(show u=Value.ref a from rx)
  obtain⟨_,_,xs,_,o,es,ep,h1,h2,_⟩:=(show bW X.prog X.w H s.heap a (.dT kvs) from I.hok a _ ea)
  exact gg yu I.kIn ⟨o,h1,h2.1⟩ e (fun z=>nomatch z) h
 |@ins a C dx fs ea cl ha hn htk hm =>
  cases(show u=Value.ref a from rx)
  obtain⟨mA,O,_⟩:=bK4 I.hok ea
  obtain⟨od,J,_⟩:=O.look
  exact gg (PySem.W.kitx_own (cl.get _) cl.hd ha hn htk hm) I.kIn J e (fun z=>nomatch z) h
end
structure cY(k:Nat)(A:Around):Prop where
 hd:A.handled=none
 dp:A.depth+3*k+5<recursionLimit
 un:A.units+16*k+200<cLine
 gd:A.guards=some []
theorem cY.mono{j k:Nat}{A:Around}(r:cY k A)(h:j<=k):cY j A:=⟨r.hd,by have:=r.dp;lia,by have:=r.un;lia,r.gd⟩
theorem cY.deeper{k:Nat}{A:Around}(r:cY (k+1) A)(env:Env):cY k (A.deeper env):=
 ⟨r.hd,by have:=r.dp;show A.depth+1+3*k+5<_;lia,by have:=r.un;show A.units+3+16*k+200<_;lia,r.gd⟩
theorem cY.depth{k:Nat}{A:Around}(r:cY k A):A.depth<recursionLimit:=by have:=r.dp;lia
theorem cY.units{k:Nat}{A:Around}(r:cY k A):A.units+64<cLine:=by have:=r.un;lia
def tNil:TA:=fun _ H Q=>Q [] H
def iX(ta:TE)(tr:TA):TA:=fun σ H Q=>ta σ H fun x H1=>tr σ H1 fun xs H2=>Q (x::xs) H2
section
variable {X:Cx}{e:Expr}{es:List Expr}{te:TE}{t:TA}{pos:Pos}
theorem bS:PA X [] tNil:=fun _ _ _ _ H Q I h=>jf ⟨[],H,I,.nil,h⟩
theorem aA(ha:PE X e te)(hr:PA X es t)(hs:autoParam (starEach (e::es) X.env=(false,eval e X.env)::starEach es X.env) Rq0._auto_1):PA X (e::es) (iX te t):=by
 intro pos pins s σ H Q I h
 rw[hs]
 show wpAny _ _ (spliced ((false,eval e X.env)::backTo pos (starEach es X.env))) _ _ s
 refine gq (cL (ha pins s σ H _ I h) ?_);rintro u s1 ⟨x,H1,I1,r1,q1⟩
 refine cL (hr pos pins s1 σ H1 _ I1 q1) ?_;rintro us s2 ⟨xs,H2,I2,r2,q2⟩;exact⟨x::xs,H2,I2,.cons r1 r2,q2⟩
def cN3(t:TA):TE:=fun σ H Q=>t σ H fun xs H1=>xs.length<=sizeLine/\∀p,H1 p=none->Q (.ref p) (aO H1 p (.tup xs))
def aL2(t:TA):TE:=fun σ H Q=>t σ H fun xs H1=>xs.length<=sizeLine/\∀p,H1 p=none->Q (.ref p) (aO H1 p (.lst xs))
theorem aV{x1}(h:PA X es t):PE X (.Tuple es x1 pos) (cN3 t):=by
 intro pins s σ H Q I hq
 refine wpAny_Tuple_spliced (cL (h pos pins s σ H _ I hq) ?_);rintro us s1 ⟨xs,H1,I1,r,z,q⟩;refine⟨by rw[<-r.length];exact z,?_⟩
 have hf:H1 s1.heap.objs.size=none:=I1.hok.fresh (ai _)
 refine⟨.ref s1.heap.objs.size,aO H1 s1.heap.objs.size (.tup xs),I1.laid (t':=s1.toks) (fun b u e=>ac _ e) (ai _) ?_,rfl,q _ hf⟩
 exact⟨z,us,r,⟨_,bc _ rfl,rfl,_,rfl,rfl⟩⟩
theorem bJ(h:PA X es t):PE X (.List es pos) (aL2 t):=by
 intro pins s σ H Q I hq
 refine wpAny_List_spliced (cL (h pos pins s σ H _ I hq) ?_);rintro us s1 ⟨xs,H1,I1,r,z,q⟩;refine⟨by rw[<-r.length];exact z,?_⟩
 have hf:H1 s1.heap.objs.size=none:=I1.hok.fresh (ai _)
 refine⟨.ref s1.heap.objs.size,aO H1 s1.heap.objs.size (.lst xs),I1.laid (t':=s1.toks) (fun b u e=>ac _ e) (ai _) ?_,rfl,q _ hf⟩
 exact⟨z,us,0,r,bc _ rfl⟩
end
abbrev Sp:=List V->Hp->VK->XK->Prop
abbrev CXT:=List Env->Hp->Shared->XK->Value->Shared->Prop
structure xX(P:Program)(w:World)(K:PySem.W.Frag)(mg:Str->Option Value)(base:Heap)(A:Around)(outer:List Env)(s:Shared)(H:Hp):Prop where
 frames:A.frames=some outer
 mod:Mod K mg base
 bs:∀b o,base.get? b=some o->s.heap.get? b=some o/\H b=none
 bsz:base.objs.size<=s.heap.objs.size
 funs:s.heap.FunFrames base outer
 frf:∀b∈jH outer,H b=none
 hok:kA P w H s.heap
 bare:AllBare s.gens
def CE(outer:List Env)(P:Program)(w:World)(H:Hp)(s:Shared)(Q:VK)(u:Value)(s':Shared):Prop:=
 ∃v H',s'.os=s.os/\AllBare s'.gens/\Un (jH outer) [] H H' s.heap s'.heap/\kA P w H' s'.heap/\bC v u/\Q v H'
def CR(CX:CXT)(outer:List Env)(P:Program)(w:World)(H:Hp)(s:Shared)(Q:VK)(E:XK)(r:Result)(s':Shared):Prop:=
 match r with
 |.ok (.ret u)=>CE outer P w H s Q u s'
 |.ok _=>False
 |.error e=>CX outer H s E e s'
structure mI(P:Program)(w:World)(K:PySem.W.Frag)(mg:Str->Option Value)(base:Heap)(CX:CXT)(k:Nat)(f:Addr)(fd:FuncData)(ps:List Str)(sp:Sp):Prop where
 len:∀vs H Q E,sp vs H Q E->vs.length=ps.length
 run:∀(A:Around) (outer:List Env) (s:Shared) (H:Hp) (args:Args) (us:List Value) (vs:List V) (Q:VK) (E:XK),cY k A->xX P w K mg base A outer s H->BindsTo s fd args (ps.zip us)->bB vs us->sp vs H Q E ->
  codeAny (model P w) A (.call (.ref f) args) (CR CX outer P w H s Q E) s
section
variable {X:Cx}{pins:List (Addr×Obj)}{σ:St}{H:Hp}{s s':Shared}
theorem aQ.env0(I:aQ X pins σ H s):xX X.prog X.w X.K X.mg X.base X.A X.stack s H:=
 ⟨I.ok.frames,I.ok.mod,I.bs,db I.ok.bsz I.sz,I.stack,I.stkFree,I.hok,I.bare⟩
theorem aQ.after{Q:VK}{u:Value}(I:aQ X pins σ H s)(h:CE X.stack X.prog X.w H s Q u s'):EP X pins σ Q u s':=by
 obtain⟨v,H',os,bare,un,hok,r,q⟩:=h
 obtain⟨hh,g,d,t,os'⟩:=s'
 obtain rfl:os'=s.os:=os
 exact⟨v,H',I.call (h':=hh) (g':=g) (d':=d) (t':=t) (ch:=[]) un hok bare (fun b z=>absurd z (by simp)),r,q⟩
end
def pR(sp:Sp)(dvs:List V)(E:XK)(t:TA):TE:=fun σ H Q=>t σ H fun vs H1=>sp (vs++dvs) H1 Q E
def gJ(K:PySem.W.Frag)(fd:FuncData)(ps:List Str)(ds:List Value):Prop:=
 ∀(s:Shared) (us:List Value),K.In s.heap->(us++ds).length=ps.length->BindsTo s fd ⟨us,[]⟩ (ps.zip (us++ds))
theorem gJ.all{K:PySem.W.Frag}{fd:FuncData}{ps:List Str}(h:∀us:List Value,us.length=ps.length->bindArgs fd ⟨us,[]⟩=pure (ps.zip us)):gJ K fd ps []:=fun s us _ hl=>by
 rw[gv] at hl ⊢
 exact .of_eq (h us hl)
def sP(CX:CXT)(X:Cx)(E:XK):Prop:=∀(pins:List (Addr×Obj)) (σ:St) (H:Hp) (s:Shared) (e:Value) (s':Shared),aQ X pins σ H s->CX X.stack H s E e s'->X.xe e s'
section
variable {X:Cx}{CX:CXT}{k:Nat}{f C:Addr}{fd:FuncData}{ps:List Str}{sp:Sp}{dvs:List V}{ds:List Value}{E:XK}{x m:Str}{p pos apos:Pos}{e o:Expr}{es:List Expr}{ta:TE}{t:TA}
theorem bU1{pins:List (Addr×Obj)}{σ:St}{H:Hp}{s:Shared}{Q:VK}{us:List Value}{vs:List V}(F:mI X.prog X.w X.K X.mg X.base CX k f fd ps sp)(hr:cY k X.A)(hb:gJ X.K fd ps ds)(hd:bB dvs ds)(hx:sP CX X E)
  (I:aQ X pins σ H s) (r:bB vs us) (h:sp (vs++dvs) H Q E):wpAny (model X.prog X.w) X.A (call (.ref f) us) (EP X pins σ Q) X.xe s:=by
 have r2:bB (vs++dvs) (us++ds):=r.append hd
 have hl:(us++ds).length=ps.length:=by rw[<-r2.length];exact F.len _ _ _ _ h
 refine qw (md (F.run X.A X.stack s H ⟨us,[]⟩ (us++ds) (vs++dvs) Q E hr I.env0 (hb s us I.kIn hl) r2 h) fun r s' hq=>?_)
 cases r with
 |error e=>exact hx pins σ H s e s' I hq
 |ok fl =>
  cases fl with
  |ret u=>exact I.after hq
  |next=>exact False.elim hq
  |brk=>exact False.elim hq
  |cont=>exact False.elim hq
theorem aF0(F:mI X.prog X.w X.K X.mg X.base CX k f fd ps sp)(hr:cY k X.A)(hg:Gl X x)(hm:X.mg x=some (.ref f))(hk:PySem.W.keepIn X.K (.ref f)=true)(hb:gJ X.K fd ps ds)(hd:bB dvs ds)(hx:sP CX X E)
  (ha:PA X (e::es) t) (hdb:autoParam ((x==("__debug__": Str))=false) Rq1._auto_1) (he:autoParam (starEach (e::es) X.env=(false,eval e X.env)::starEach es X.env) Rq0._auto_1) (hpl:autoParam ((backTo pos (starEach es X.env)).any (·.1)=false) Rq0._auto_1) :
  PE X (.Call (.Name x p) (e::es) [] pos) (pR sp dvs E t):=by
 intro pins s σ H Q I h
 refine eo (nA I hg hm ?_ hdb)
 refine PySem.W.callWith_K (h₀:=X.base) I.ok.mod.kin hk (cL (ha pos pins s σ H _ I h) ?_) he hpl;rintro us s1 ⟨vs,H1,I1,r,q⟩;refine⟨I1.kIn,?_⟩
 exact bU1 F hr hb hd hx I1 r q
end
section
variable {X:Cx}{CX:CXT}{k:Nat}{f C:Addr}{fd:FuncData}{ps ks:List Str}{sp:Sp}{E:XK}{x m:Str}{p pos apos kpos:Pos}{e o:Expr}{es:List Expr}{kws:List Keyword}{te ta:TE}{t tk:TA}{nm:Option Str}
variable {g:List Value->List Value->List Value}{gV:List V->List V->List V}
end
structure eM(N P:List Str)(sc:Scope):Prop where
 kind:sc.kind= .function
 co:sc.isCoroutine=false
 gen:sc.isGenerator=false
 nd:N.Nodup
 pre:N.take P.length=P
 par:∀x∈P,sc.names.lookup x=some .local\/sc.names.lookup x=some .cell
 nofree:∀y∈sc.names,y.2≠ .free
theorem tM{kindOf:Str->Option NameKind}{x:Str}:∀{binds:List (Str×Value)}{m:Str->Option Value},(∀v,(x,v)∉binds)->bindL kindOf binds m x=m x
 |[],_,_=>rfl
 |(n,v)::r,m,h=>by
  unfold bindL
  rw[tM fun w hw=>h w (av _ hw)]
  split
  ·have:x≠n:=by rintro rfl;exact h v az
   simp[this]
  ·rfl
theorem tK{kindOf:Str->Option NameKind}{x:Str}:∀{binds:List (Str×Value)}{m:Str->Option Value},(∀v,(x,v)∉binds)->bindC kindOf binds m x=m x
 |[],_,_=>rfl
 |(n,v)::r,m,h=>by
  unfold bindC
  rw[tK fun w hw=>h w (av _ hw)]
  split
  ·rfl
  ·have:x≠n:=by rintro rfl;exact h v az
   simp[this]
theorem uE{kindOf:Str->Option NameKind}{x:Str}{v:Value}:∀{P:List Str}{vs:List Value}{i:Nat}{m:Str->Option Value},P.Nodup->P[i]?=some x->vs[i]?=some v->kindOf x=some .local ->
  bindL kindOf (P.zip vs) m x=some v
 |[],_,_,_,_,h,_,_=>by simp at h
 |_::_,[],_,_,_,_,h,_=>by simp at h
 |p::P,w::vs,0,m,nd,h1,h2,hk=>by
  simp at h1 h2;subst h1;subst h2
  show bindL kindOf ((p,w)::P.zip vs) m p=_
  unfold bindL
  rw[tM fun v hv=>(fk.mp nd).1 (jw hv).1,bv hk]
  simp
 |p::P,w::vs,i+1,m,nd,h1,h2,hk=>by
  show bindL kindOf ((p,w)::P.zip vs) m x=_
  unfold bindL
  exact uE (i:=i) (fk.mp nd).2 (by simpa using h1) (by simpa using h2) hk
theorem tH{kindOf:Str->Option NameKind}{x:Str}{v:Value}:∀{P:List Str}{vs:List Value}{i:Nat}{m:Str->Option Value},P.Nodup->P[i]?=some x->vs[i]?=some v->kindOf x≠some .local ->
  bindC kindOf (P.zip vs) m x=some v
 |[],_,_,_,_,h,_,_=>by simp at h
 |_::_,[],_,_,_,_,h,_=>by simp at h
 |p::P,w::vs,0,m,nd,h1,h2,hk=>by
  simp at h1 h2;subst h1;subst h2
  show bindC kindOf ((p,w)::P.zip vs) m p=_
  unfold bindC
  rw[tK fun v hv=>(fk.mp nd).1 (jw hv).1,ay hk]
  simp
 |p::P,w::vs,i+1,m,nd,h1,h2,hk=>by
  show bindC kindOf ((p,w)::P.zip vs) m x=_
  unfold bindC
  exact tH (i:=i) (fk.mp nd).2 (by simpa using h1) (by simpa using h2) hk
def eT(N:List Str)(vs:List V):St:=vs.map some++List.replicate (N.length-vs.length) none
def kG(CX:CXT)(P:Program)(w:World)(K:PySem.W.Frag)(mg:Str->Option Value)(base:Heap)(N:List Str)(qual:Str)(scope:Scope)(f:Addr)(cd:Value)(A:Around)(outer:List Env)(s:Shared)(H:Hp)(E:XK):Cx where
 prog:=P
 w:=w
 K:=K
 mg:=mg
 base:=base
 A:=A.deeper (envOfC qual scope s.heap.objs.size f cd)
 N:=N
 s₀:=s
 H₀:=H
 env:=envOfC qual scope s.heap.objs.size f cd
 outer:=outer
 stack:=envOfC qual scope s.heap.objs.size f cd::outer
 ex:=[]
 calm:=true
 fn:=fun _=>true
 pn:=[]
 xe:=fun e s'=>wpAny (model P w) (A.deeper (envOfC qual scope s.heap.objs.size f cd)) (leaving (envOfC qual scope s.heap.objs.size f cd) e) (fun _ s''=>CX outer H s E e s'') (fun e' s''=>CX outer H s E e' s'') s'
theorem wX{sc:Scope}{n:Nat}{x:Str}(h:sc.names.lookup x=some .cell):∃c,(cellsFrom n sc.names []).lookup x=some c:=by
 have q:=vt sc.names n [] (.inl h)
 exact jn.mp q
theorem lQ{CX:CXT}{P:Program}{w:World}{K:PySem.W.Frag}{mg:Str->Option Value}{base:Heap}{N ps:List Str}{qual:Str}{scope:Scope}{f:Addr}{cd:Value}{A:Around}{outer:List Env}{s s1:Shared}{H:Hp}{E:XK}{us:List Value}{vs:List V}
  (S:eM N ps scope) (hd:A.handled=none) (e0:xX P w K mg base A outer s H) (hl:vs.length=ps.length) (r:bB vs us)
  (x:InCallC s s.heap.objs.size (bindL (envOfC qual scope s.heap.objs.size f cd).kindOf (ps.zip us) fun _=>none) (cellsFrom (s.heap.objs.size+1) scope.names []) (bindC (envOfC qual scope s.heap.objs.size f cd).kindOf (ps.zip us) fun _=>none) s1) :
  aQ (kG CX P w K mg base N qual scope f cd A outer s H E) [] (eT N vs) H s1:=by
 have hpl:ps.length<=N.length:=by have:=fm List.length S.pre;rw[du] at this;lia
 obtain⟨h1,tk,rfl,hk⟩:=x.done
 have noA:∀b:Addr,b∉(kG CX P w K mg base N qual scope f cd A outer s H E).ex:=fun b z=>absurd (show b∈([]:List Addr) from z) (by simp)
 refine⟨⟨e0.mod,S.kind,rfl,rfl,ai _,fun y z c h1 h2=>?_,fun y hy=>?_,fun y c _ h=>?_,fun _=>hd,qx e0.frames,.inr ⟨rfl,rfl⟩,fun b z=>absurd z (noA b),e0.bs,e0.bsz,fun b _ _=>noA b,fun b z=>absurd z (noA b),e0.funs,e0.frf⟩,
  rfl,e0.bare,Un.kept hk,⟨_,x.toInCall.ns,fun i y v h1 h2 h3=>?_⟩,fun y c h=>⟨_,x.cell y c h⟩,e0.hok.fresh (ai _),fun y c h=>?_,fun p hp=>absurd (show p∈([]:List (Addr×Obj)) from hp) (by simp),e0.hok.kept hk,?_⟩
 ·exact name_of_addr x.apart (ia h1) (ia h2)
 ·have hy:scope.names.lookup y=some .cell\/scope.names.lookup y=some .free:=hy
  rcases hy with hy|hy
  ·exact wX hy
  ·exact absurd rfl (S.nofree _ (ia hy))
 ·exact cu (x.above y c (ia h))
 ·have hi:i<vs.length:=by
   unfold eT at h2
   by_cases hi:i<vs.length
   ·exact hi
   ·rw[ke (by simpa using hi)] at h2
    rw[List.getElem?_replicate] at h2
    split at h2<;>cases h2
  have ha:vs[i]?=some v:=by
   unfold eT at h2
   rw[km (by simpa using hi),cm] at h2
   cases e:vs[i]? with
   |none=>rw[e] at h2;cases h2
   |some a=>rw[e] at h2;cases h2;rfl
  obtain⟨u,hu,rv⟩:=r.get ha
  have hp:ps[i]?=some y:=by
   rw[<-S.pre,List.getElem?_take_of_lt (by lia)];exact h1
  have ndP:ps.Nodup:=by rw[<-S.pre];exact S.nd.sublist (List.take_sublist _ _)
  refine⟨u,rv,?_⟩
  rcases S.par y (bj hp) with k|k
  ·exact .inl ⟨k,uE ndP hp hu k⟩
  ·obtain⟨c,e⟩:=wX (n:=s.heap.objs.size+1) k
   refine .inr ⟨.inl k,c,e,?_⟩
   have q:=x.cell y c e
   rw[tH ndP hp hu (by show scope.names.lookup y≠_;rw[k];decide)] at q
   exact q
 ·exact e0.hok.fresh (cu (x.above y c (ia h)))
 ·unfold eT
  show _=N.length
  rw[aj,ae,wm]
  lia
theorem bN2{CX:CXT}{P:Program}{w:World}{K:PySem.W.Frag}{mg:Str->Option Value}{base:Heap}{k:Nat}{f:Addr}{name qual:Str}{params:Arguments}{body:List Stmt}{scope:Scope}{dV kV doc pm cdv ct oc:Value}{an od:Option Addr}
  {osl:Array (Option Value)}{N ps:List Str}{sp:Sp}(lk:K.lookup f=some ⟨oc,od,.func (PySem.W.fnOf name qual params body scope dV kV doc pm an cdv ct),osl⟩) (hcd:PySem.W.codeIn K cdv qual=true) (S:eM N ps scope)
  (len:∀vs H Q E,sp vs H Q E->vs.length=ps.length)
  (hbody:∀(A:Around) (outer:List Env) (s:Shared) (H:Hp) (vs:List V) (Q:VK) (E:XK),cY k (A.deeper (envOfC qual scope s.heap.objs.size f cdv))->sp vs H Q E ->
   ∃t,pS (kG CX P w K mg base N qual scope f cdv A outer s H E) body t/\t { nx:=fun _ H'=>Q .non H',rt:=Q } (eT N vs) H) :
  mI P w K mg base CX (k+1) f (PySem.W.fnOf name qual params body scope dV kV doc pm an cdv ct) ps sp:=by
 refine⟨len,fun A outer s H args us vs Q E hr e0 hb r hsp=>?_⟩
 have hl:=len _ _ _ _ hsp
 have KX:K.In s.heap:=e0.mod.kin.keeps fun b o e=>(e0.bs b o e).1
 have lim:s.heap.NoLimit:=e0.mod.nolimit.keeps fun b o e=>(e0.bs b o e).1
 have hkind:∀y∈ps.zip us,scope.names.lookup y.1=some .local\/(scope.names.lookup y.1=some .cell/\((cellsFrom (s.heap.objs.size+1) scope.names []).lookup y.1).isSome=true):=fun⟨n,v⟩ hy=>by
  rcases S.par n (jw hy).1 with q|q
  ·exact .inl q
  ·exact .inr ⟨q,vt _ _ _ (.inl q)⟩
 refine mf hr.depth (KX _ _ lk) rfl S.co S.gen rfl (PySem.W.codeRec_of KX hcd) (hb _ _ _ _ ?_)
 refine kg S.kind hkind fun env he s1 x=>?_
 subst he
 refine⟨lim.keeps x.toInCall.keep,uo ?_⟩
 obtain⟨t,ht,hq⟩:=hbody A outer s H vs Q E (hr.deeper _) hsp
 have I:aQ (kG CX P w K mg base N qual scope f cdv A outer s H E) [] (eT N vs) H s1:=lQ S hr.hd e0 hl r x
 refine dv (ht [] s1 (eT N vs) H _ I hq) (fun fl s' hs=>?_) fun e s' hs=>hs
 have fin:∀{σ':St}{H':Hp}{v:V}{u:Value},aQ (kG CX P w K mg base N qual scope f cdv A outer s H E) [] σ' H' s'->bC v u->Q v H'->CE outer P w H s Q u s':=
  fun {σ' H' v u} J rv q=>⟨v,H',J.os,J.bare,J.base,J.hok,rv,q⟩
 cases fl with
 |ret u =>
  obtain⟨v,σ',H',J,rv,q⟩:=hs
  exact fin J rv q
 |next =>
  obtain⟨σ',H',J,q⟩:=hs
  exact fin (v:=V.non) (u:=Value.none) J rfl q
 |brk =>
  obtain⟨_,_,_,q⟩:=hs
  exact False.elim q
 |cont =>
  obtain⟨_,_,_,q⟩:=hs
  exact False.elim q
section
variable {X:Cx}{x:Str}{p pos:Pos}{e:Expr}{es:List Expr}{t:TA}{id T:String}{r:List V->Hp->VK->Prop}
def tCB(r:List V->Hp->VK->Prop)(t:TA):TE:=fun σ H Q=>t σ H fun vs H1=>r vs H1 Q
theorem iA(hc:fG X (.builtin id) r)(hg:Gl X x)(hm:X.mg x=none)(hv:bootBuiltins x=some (.builtin id))(ha:PA X (e::es) t)(hn:autoParam (x≠"__name__") Rq1._auto_1)(hdb:autoParam ((x==("__debug__": Str))=false) Rq1._auto_1)
  (he:autoParam (starEach (e::es) X.env=(false,eval e X.env)::starEach es X.env) Rq0._auto_1) (hpl:autoParam ((backTo pos (starEach es X.env)).any (·.1)=false) Rq0._auto_1):PE X (.Call (.Name x p) (e::es) [] pos) (tCB r t):=by
 intro pins s σ H Q I h
 refine eo (gF I hg hm hv ?_ hn hdb)
 refine PyProof.Rows.callWith_builtin1 (cL (ha pos pins s σ H _ I h) ?_) he hpl;rintro us s1 ⟨vs,H1,I1,r1,q1⟩;exact hc pins s1 σ H1 vs us Q I1 r1 q1
theorem aL9(hc:fG X (.type T) r)(hg:Gl X x)(hm:X.mg x=none)(hv:bootBuiltins x=some (.type T))(ha:PA X (e::es) t)(hn:autoParam (x≠"__name__") Rq1._auto_1)(hdb:autoParam ((x==("__debug__": Str))=false) Rq1._auto_1)
  (he:autoParam (starEach (e::es) X.env=(false,eval e X.env)::starEach es X.env) Rq0._auto_1) (hpl:autoParam ((backTo pos (starEach es X.env)).any (·.1)=false) Rq0._auto_1):PE X (.Call (.Name x p) (e::es) [] pos) (tCB r t):=by
 intro pins s σ H Q I h
 refine eo (gF I hg hm hv ?_ hn hdb)
 refine ef (cL (ha pos pins s σ H _ I h) ?_) he hpl;rintro us s1 ⟨vs,H1,I1,r1,q1⟩;exact hc pins s1 σ H1 vs us Q I1 r1 q1
end
section
variable {κ:Type} [DecidableEq κ]
def cD(kvs:List (κ×V))(k:κ):Option V:=(kvs.find? fun kv=>decide (kv.1=k)).map (·.2)
def dB(kvs:List (κ×V))(k:κ)(v:V):List (κ×V):=
 if (kvs.any fun kv=>decide (kv.1=k))=true then kvs.map (fun kv=>if kv.1=k then (kv.1,v) else kv) else kvs++[(k,v)]
theorem xN{k:κ}:cD ([]:List (κ×V)) k=none:=rfl
theorem cE{p:κ×V}{r:List (κ×V)}{k:κ}(e:p.1=k):cD (p::r) k=some p.2:=by simp[cD,List.find?_cons,e]
theorem bR{p:κ×V}{r:List (κ×V)}{k:κ}(e:¬p.1=k):cD (p::r) k=cD r k:=by simp[cD,List.find?_cons,e]
theorem hZ(k:κ):∀kvs:List (κ×V),(kvs.any fun kv=>decide (kv.1=k))=(cD kvs k).isSome
 |[]=>rfl
 |p::r=>by
  rw[nj]
  by_cases e:p.1=k
  ·simp only[cE e,decide_eq_true e,Bool.true_or,Option.isSome_some]
  ·rw[bR e,dh e,xm];exact hZ k r
theorem wJ(k j:κ)(y:V):∀kvs:List (κ×V),cD (kvs.map fun kv=>if kv.1=k then (kv.1,y) else kv) j=(cD kvs j).map fun x=>if j=k then y else x
 |[]=>rfl
 |p::r=>by
  have ih:=wJ k j y r
  rw[en]
  by_cases h:p.1=k
  ·rw[bv h]
   by_cases e:p.1=j
   ·rw[cE (p:=(p.1,y)) e,cE e,qy,bv (e.symm.trans h)]
   ·rw[bR (p:=(p.1,y)) e,bR e,ih]
  ·rw[ay h]
   by_cases e:p.1=j
   ·rw[cE (p:=p) e,cE e,qy,ay (fun z=>h (e.trans z))]
   ·rw[bR (p:=p) e,bR e,ih]
theorem tZ(k j:κ)(y:V):∀kvs:List (κ×V),cD kvs k=none->cD (kvs++[(k,y)]) j=if j=k then some y else cD kvs j
 |[],_=>by
  by_cases e:k=j
  ·rw[bv e.symm];exact cE (p:=(k,y)) e
  ·rw[ay (fun z=>e z.symm)];exact bR (p:=(k,y)) e
 |p::r,hn=>by
  rw[uq]
  have hk:¬p.1=k:=fun z=>by rw[cE z] at hn;cases hn
  rw[bR hk] at hn
  have ih:=tZ k j y r hn
  by_cases e:p.1=j
  ·rw[cE e,cE e,ay (fun z=>hk (e.trans z))]
  ·rw[bR e,bR e,ih]
theorem lN(kvs:List (κ×V))(k j:κ)(y:V):cD (dB kvs k y) j=if j=k then some y else cD kvs j:=by
 unfold dB
 by_cases a:(kvs.any fun kv=>decide (kv.1=k))=true
 ·rw[bv a,wJ]
  rw[hZ] at a
  by_cases e:j=k
  ·obtain⟨x,hx⟩:=jn.mp a
   rw[bv e,e,hx,qy,bv rfl]
  ·rw[ay e]
   cases cD kvs j with
   |none=>rfl
   |some x=>rw[qy,ay e]
 ·rw[ay a]
  refine tZ k j y kvs ?_
  rw[hZ] at a
  cases q:cD kvs k with
  |none=>rfl
  |some x=>rw[q] at a;exact(a rfl).elim
theorem eU(kvs:List (κ×V))(k:κ)(v:V):(dB kvs k v).length<=kvs.length+1:=by
 unfold dB
 split
 ·rw[ae];lia
 ·rw[aj,cf,jx];lia
theorem nR{kvs:List (κ×V)}{k:κ}(v:V)(h:cD kvs k=none):dB kvs k v=kvs++[(k,v)]:=by
 unfold dB
 rw[hZ,h]
 exact ay (by decide)
theorem jM.isSome_eq{o:Option V}{u:Option Value}(r:jM o u):o.isSome=u.isSome:=by
 cases o with
 |none=>cases u with
  |none=>rfl
  |some _=>exact(show False from r).elim
 |some _=>cases u with
  |none=>exact(show False from r).elim
  |some _=>rfl
theorem jM.getD{o:Option V}{u:Option Value}{d:V}{d':Value}(r:jM o u)(rd:bC d d'):bC (o.getD d) (u.getD d'):=by
 cases o with
 |none=>cases u with
  |none=>exact rd
  |some _=>exact(show False from r).elim
 |some _=>cases u with
  |none=>exact(show False from r).elim
  |some _=>exact r
theorem KV.val{kvs:List (κ×V)}{vs:List (κ×Value)}(r:KV kvs vs)(k:κ):jM (cD kvs k) (valueAt vs k):=by
 unfold KV at r
 induction r with
 |nil=>exact jm
 |@cons p q ps qs h t ih =>
  obtain⟨h1,h2⟩:=h
  by_cases e:p.1=k
  ·have e':q.1=k:=h1.symm.trans e
   have b:valueAt (q::qs) k=some q.2:=by simp[valueAt,List.find?_cons,e']
   rw[cE e,b];exact h2
  ·have e':¬q.1=k:=fun z=>e (h1.trans z)
   have b:valueAt (q::qs) k=valueAt qs k:=by simp[valueAt,List.find?_cons,e']
   rw[bR e,b];exact ih
theorem KV.any{kvs:List (κ×V)}{vs:List (κ×Value)}(r:KV kvs vs)(k:κ):(kvs.any fun kv=>decide (kv.1=k))=vs.any fun kv=>decide (kv.1=k):=by
 unfold KV at r
 induction r with
 |nil=>rfl
 |cons h t ih=>rw[nj,nj,ih,h.1]
theorem KV.repl{kvs:List (κ×V)}{vs:List (κ×Value)}(r:KV kvs vs)(k:κ){y:V}{u:Value}(ry:bC y u) :
  KV (kvs.map fun kv=>if kv.1=k then (kv.1,y) else kv) (vs.map fun kv=>if kv.1=k then (kv.1,u) else kv):=by
 unfold KV at r ⊢
 induction r with
 |nil=>exact .nil
 |@cons p q ps qs h t ih =>
  rw[en,en]
  refine .cons ?_ ih
  obtain⟨h1,h2⟩:=h
  by_cases e:p.1=k
  ·rw[bv e,bv (h1.symm.trans e)];exact⟨h1,ry⟩
  ·rw[ay e,ay (fun z=>e (h1.trans z))];exact⟨h1,h2⟩
theorem KV.put{kvs:List (κ×V)}{vs:List (κ×Value)}(r:KV kvs vs)(k:κ){y:V}{u:Value}(ry:bC y u):KV (dB kvs k y) (stored vs k u):=by
 unfold dB stored
 rw[r.any k]
 by_cases e:(vs.any fun kv=>decide (kv.1=k))=true
 ·rw[bv e,bv e];exact r.repl k ry
 ·rw[ay e,ay e];exact Paired.snoc r ⟨rfl,ry⟩
theorem KV.length{kvs:List (κ×V)}{vs:List (κ×Value)}(r:KV kvs vs):kvs.length=vs.length:=lg r
end
theorem rA{P:Program}{w:World}{k:Key}{u:Value}(r:bC (kV k) u):(bY P w).is k u=true:=by
 cases k with
 |inl i=>obtain⟨t,e⟩:=(show ∃t,u=Value.int i t from r);subst e;exact xZ P w i t
 |inr x=>obtain⟨t,e⟩:=(show ∃t,u=Value.str x t from r);subst e;exact wH P w x t
theorem tP{P:Program}{w:World}:∀{ks:List Key}{us:List Value},bB (ks.map kV) us->ItemsAre (bY P w) ks us
 |[],_,r=>by rw[ut] at r;cases r;exact .nil
 |k::ks,_,r=>by
  rw[en] at r
  cases r with
  |cons h t=>exact .cons (rA h) (tP t)
abbrev KT(H:Hp):List (List Key×V)->List (List Key×Addr×Value)->Prop:=Paired fun p q=>p.1=q.1/\H q.2.1=some (.tup (p.1.map kV))/\bC p.2 q.2.2
theorem KT.val{H:Hp}{kvs:List (List Key×V)}{xs:List (List Key×Addr×Value)}(r:KT H kvs xs)(k:List Key):jM (cD kvs k) ((atKey xs k).map (·.2)):=by
 induction r with
 |nil=>exact jm
 |@cons p q ps qs h t ih =>
  obtain⟨h1,_,h2⟩:=h
  by_cases e:p.1=k
  ·have e':q.1=k:=h1.symm.trans e
   have b:atKey (q::qs) k=some q.2:=by simp[atKey,List.find?_cons,e']
   rw[cE e,b];exact h2
  ·have e':¬q.1=k:=fun z=>e (h1.trans z)
   have b:atKey (q::qs) k=atKey qs k:=by simp[atKey,List.find?_cons,e']
   rw[bR e,b];exact ih
theorem KT.repl{H:Hp}{kvs:List (List Key×V)}{xs:List (List Key×Addr×Value)}(r:KT H kvs xs)(k:List Key){y:V}{u:Value}(ry:bC y u) :
  KT H (kvs.map fun kv=>if kv.1=k then (kv.1,y) else kv) (xs.map (putAt k u)):=by
 induction r with
 |nil=>exact .nil
 |@cons p q ps qs h t ih =>
  rw[en,en]
  refine .cons ?_ ih
  obtain⟨h1,h2,h3⟩:=h
  unfold putAt
  by_cases e:p.1=k
  ·rw[bv e,bv (h1.symm.trans e)];exact⟨h1,h2,ry⟩
  ·rw[ay e,ay (fun z=>e (h1.trans z))];exact⟨h1,h2,h3⟩
theorem KT.put{H:Hp}{kvs:List (List Key×V)}{xs:List (List Key×Addr×Value)}(r:KT H kvs xs)(k:List Key){b:Addr}{y:V}{u:Value}(hb:H b=some (.tup (k.map kV)))(ry:bC y u) :
  KT H (dB kvs k y) (storedH xs k b u):=by
 have e:(kvs.any fun kv=>decide (kv.1=k))=(atKey xs k).isSome:=by
  rw[hZ,(r.val k).isSome_eq,yv]
 unfold dB storedH
 rw[e]
 by_cases q:(atKey xs k).isSome=true
 ·rw[bv q,bv q];exact r.repl k ry
 ·rw[ay q,ay q];exact Paired.snoc r ⟨rfl,hb,ry⟩
theorem KT.keeps{H H':Hp}{kvs:List (List Key×V)}{xs:List (List Key×Addr×Value)}(r:KT H kvs xs)(ht:∀b ys,H b=some (.tup ys)->H' b=some (.tup ys)):KT H' kvs xs:=
 Paired.mapP r fun _ _ z=>⟨z.1,ht _ _ z.2.1,z.2.2⟩
section
variable {P:Program}{w:World}{H:Hp}{h:Heap}{a:Addr}
theorem bM3{u:HO}(ok:kA P w H h)(e:Rd H a u):bW P w H h a u:=e.ok ok
theorem tW{kvs:List (Key×V)}(ok:kA P w H h)(e:Rd H a (.dK kvs)):kvs.length<=sizeLine/\(a==sysModules)=false/\∃vs,KV kvs vs/\h.DictOf (bY P w) a vs:=
 show bW P w H h a (.dK kvs) from bM3 ok e
theorem aG9{kvs:List (Key×V)}(ok:kA P w H h)(e:H a=some (.dK kvs)):kvs.length<=sizeLine/\(a==sysModules)=false/\∃vs,KV kvs vs/\h.DictOf (bY P w) a vs:=tW ok (.inl e)
theorem rT{ks:List Key}(ok:kA P w H h)(e:H a=some (.tup (ks.map kV))):(tupleKind (bY P w)).is h ks a:=by
 obtain⟨_,its,r,o,h1,h2,n,h3,_⟩:=(show bW P w H h a (.tup (ks.map kV)) from ok a _ e)
 exact⟨o,its.toArray,n,h1,h2,h3,by simpa using tP r⟩
theorem uB{kvs:List (List Key×V)}(ok:kA P w H h)(e:Rd H a (.dT kvs)):kvs.length<=sizeLine/\(a==sysModules)=false /\
  ∃xs,KT H kvs xs/\h.DictOfH (tupleKind (bY P w)) a xs:=by
 obtain⟨z,y,xs,r,o,es,ep,h1,h2,h3,h4,h5⟩:=(show bW P w H h a (.dT kvs) from bM3 ok e)
 refine⟨z,y,xs,r,o,es,ep,h1,h2,h3,h4,fun x hx=>?_,h5⟩
 have all:∀{l:List (List Key×V)}{m:List (List Key×Addr×Value)},KT H l m->∀x∈m,(tupleKind (bY P w)).is h x.1 x.2.1:=by
  intro l m q
  induction q with
  |nil=>intro x hx;exact nomatch hx
  |@cons p q ps qs hq t ih =>
   intro x hx
   rcases cj.mp hx with e|hx
   ·subst e
    exact rT ok (by rw[<-hq.1];exact hq.2.1)
   ·exact ih x hx
 exact all r x hx
theorem cD2{kvs:List (List Key×V)}(ok:kA P w H h)(e:H a=some (.dT kvs)):kvs.length<=sizeLine/\(a==sysModules)=false /\
  ∃xs,KT H kvs xs/\h.DictOfH (tupleKind (bY P w)) a xs:=uB ok (.inl e)
end
def fE(H:Hp)(a:Addr)(y:V)(r:Option V):Prop:=
 (∃kvs k,Rd H a (.dK kvs)/\y=kV k/\r=cD kvs k)\/∃kvs k b,Rd H a (.dT kvs)/\y= .ref b/\H b=some (.tup (k.map kV))/\r=cD kvs k
def kF(H:Hp)(a:Addr)(y v:V)(H':Hp):Prop:=
 (∃kvs k,H a=some (.dK kvs)/\y=kV k/\kvs.length<sizeLine/\H'=aO H a (.dK (dB kvs k v))) \/
 ∃kvs k b,H a=some (.dT kvs)/\y= .ref b/\H b=some (.tup (k.map kV))/\kvs.length<sizeLine/\H'=aO H a (.dT (dB kvs k v))
theorem fE.k{H:Hp}{a:Addr}{kvs:List (Key×V)}{k:Key}(e:H a=some (.dK kvs)):fE H a (kV k) (cD kvs k):= .inl ⟨kvs,k,.inl e,rfl,rfl⟩
theorem fE.t{H:Hp}{a b:Addr}{kvs:List (List Key×V)}{k:List Key}(e:H a=some (.dT kvs))(eb:H b=some (.tup (k.map kV))):fE H a (.ref b) (cD kvs k):= .inr ⟨kvs,k,b,.inl e,rfl,eb,rfl⟩
theorem kF.k{H:Hp}{a:Addr}{kvs:List (Key×V)}{k:Key}{v:V}(e:H a=some (.dK kvs))(hl:kvs.length<sizeLine):kF H a (kV k) v (aO H a (.dK (dB kvs k v))):= .inl ⟨kvs,k,e,rfl,hl,rfl⟩
theorem kF.t{H:Hp}{a b:Addr}{kvs:List (List Key×V)}{k:List Key}{v:V}(e:H a=some (.dT kvs))(eb:H b=some (.tup (k.map kV)))(hl:kvs.length<sizeLine) :
  kF H a (.ref b) v (aO H a (.dT (dB kvs k v))):= .inr ⟨kvs,k,b,e,rfl,eb,hl,rfl⟩
section
variable {X:Cx}{pins:List (Addr×Obj)}{σ:St}{H:Hp}{s:Shared}{a:Addr}{y v:V}{u r:Value}{o:Option V}{A:Around}{E:Value->Shared->Prop}
theorem aQ.big(I:aQ X pins σ H s):sysModules<s.heap.objs.size:=by
 have h:mainGlobals<s.heap.objs.size:=(I.mod.glob.keeps I.bk).lt
 exact Nat.lt_trans (by decide) h
theorem aI9{Q:Value->Shared->Prop}(hu:A.units+1<cLine)(I:aQ X pins σ H s)(g:fE H a y (some v))(ry:bC y u)(h:∀w' s',aQ X pins σ H s'->bC v w'->Q w' s') :
  wpAny (model X.prog X.w) A (getItem (.ref a) u) Q E s:=by
 rcases g with⟨kvs,k,e,ey,l⟩|⟨kvs,k,b,e,ey,eb,l⟩
 ·subst ey
  obtain⟨z,hd,vs,rel,dd⟩:=tW I.hok e
  obtain⟨w',hw,rw'⟩:=jM.some_of (v:=v) (o:=valueAt vs k) (by rw[l];exact rel.val k)
  exact wpAny_getItem_of (rA ry) dd.mapOf hw (h w' _ (I.tok _) rw')
 ·subst ey
  cases(show u=Value.ref b from ry)
  obtain⟨z,hd,xs,rel,dd⟩:=uB I.hok e
  obtain⟨w',hw,rw'⟩:=jM.some_of (v:=v) (o:=(atKey xs k).map (·.2)) (by rw[l];exact rel.val k)
  obtain⟨p,hp,hp2⟩:=vv.mp hw
  refine wpAny_getItem_heap (oy hu) (rT I.hok eb) dd hp ?_
  rw[hp2]
  exact h w' _ (I.tok _) rw'
theorem bJ5{Q:Value->Shared->Prop}(hu:A.units+1<cLine)(I:aQ X pins σ H s)(g:fE H a y o)(ry:bC y u)(h:∀s',aQ X pins σ H s'->Q (.bool (!o.isSome)) s') :
  wpAny (model X.prog X.w) A (compareOp .NotIn u (.ref a)) Q E s:=by
 rcases g with⟨kvs,k,e,ey,l⟩|⟨kvs,k,b,e,ey,eb,l⟩
 ·subst ey
  obtain⟨z,hd,vs,rel,dd⟩:=tW I.hok e
  refine wpAny_notIn_of (rA ry) hd dd.mapOf ?_
  rw[<-(rel.val k).isSome_eq, <-l]
  exact h _ (I.tok _)
 ·subst ey
  cases(show u=Value.ref b from ry)
  obtain⟨z,hd,xs,rel,dd⟩:=uB I.hok e
  refine wpAny_notIn_heap (oy hu) (rT I.hok eb) hd dd ?_
  have q:=(rel.val k).isSome_eq
  rw[yv] at q
  rw[<-q, <-l]
  exact h _ (I.tok _)
theorem qG{h':Heap}{t':Nat}{ob:HO}(I:aQ X pins σ H s)(mu:Mut (H a))(hs:Heap.SameBut a s.heap h')(he:∃q,h'.get? a=some q)(new:bW X.prog X.w (aO H a ob) h' a ob) :
  aQ X pins σ (aO H a ob) { s with heap:=h',toks:=t' }:=
 I.write (x:=a) (e:=a) mu (.inl rfl) (fun b q hb z=>(hs.2 b hb).trans z) he new
theorem aB1{P:Program}{w:World}{H':Hp}{h':Heap}{kvs:List (Key×V)}{vs:List (Key×Value)}(z:kvs.length<=sizeLine)(hd:(a==sysModules)=false)(rel:KV kvs vs)(dd:h'.DictOf (bY P w) a vs) :
  bW P w H' h' a (.dK kvs):=⟨z,hd,vs,rel,dd⟩
theorem aK4{H':Hp}{Q:Unit->Shared->Prop}(hu:A.units+1<cLine)(I:aQ X pins σ H s)(g:kF H a y v H')(ry:bC y u)(rv:bC v r)(h:∀s',aQ X pins σ H' s'->Q () s') :
  wpAny (model X.prog X.w) A (setItem (.ref a) u r) Q E s:=by
 rcases g with⟨kvs,k,e,ey,l,eH⟩|⟨kvs,k,b,e,ey,eb,l,eH⟩
 ·subst ey eH
  obtain⟨z,hd,vs,rel,dd⟩:=aG9 I.hok e
  have hz:vs.length<=sizeLine:=by rw[<-rel.length];exact z
  have hl:(dB kvs k v).length<=sizeLine:=by have:=eU kvs k v;lia
  refine wpAny_setItem_pairs (hsz:=hz) (rA ry) dd fun h' dd' hs=>h _ ?_
  have he:∃q,h'.get? a=some q:=by obtain⟨q,_,_,hq,_⟩:=dd';exact⟨q,hq⟩
  exact qG I (by rw[e];exact jm) hs he (aB1 hl hd (rel.put k rv) dd')
 ·subst ey eH
  cases(show u=Value.ref b from ry)
  obtain⟨z,hd,xs,rel,dd⟩:=cD2 I.hok e
  have hz:xs.length<=sizeLine:=by rw[<-lg rel];exact z
  have hl:(dB kvs k v).length<=sizeLine:=by have:=eU kvs k v;lia
  refine wpAny_setItem_heap (hsz:=hz) (oy hu) (rT I.hok eb) dd fun h' dd' hs=>h _ ?_
  obtain⟨q,es,ep,hq,h2,h3,h4,_,h5⟩:=dd'
  refine qG I (by rw[e];exact jm) hs ⟨q,hq⟩ ⟨hl,hd,_,(rel.put k eb rv).keeps fun c ys ec=>?_,q,es,ep,hq,h2,h3,h4,h5⟩
  rw[aH (gH ec e (fun z=>nomatch z))]
  exact ec
end
section
variable {X:Cx}{pins:List (Addr×Obj)}{σ:St}{H:Hp}{s:Shared}{a:Addr}{kvs:List (Key×V)}{k:Key}{u:Value}{A:Around}{E:Value->Shared->Prop}
end
def bS7(i:Expr):Prop:=∀ov iv,subscripted i false ov iv=operate [ov,iv] (getItem ov iv)
theorem bJ1{prog:Program}{w:World}{A:Around}{E:Value->Shared->Prop}{s:Shared}{env:Env}{value slice:Expr}{pos:Pos}{T id:String}{Q:Value->Shared->Prop}
  (hl:typeLookup (.type T) "__getitem__"=pure (some (.builtin id))) (hs:bS7 slice)
  (h:wpAny (model prog w) A (eval value env) (fun o s₁=>wpAny (model prog w) A (eval slice env) (fun i s₂=>s₂.TypeIs o T/\wpAny (model prog w) A (getItem o i) Q E s₂) E s₁) E s) :
  wpAny (model prog w) A (eval (.Subscript value slice pos) env) Q E s:=by
 refine zx (dv h (fun o s₁ h₁=>dv h₁ (fun i s₂ h₂=>?_) fun _ _ x=>x) fun _ _ x=>x)
 obtain⟨hT,h₂⟩:=h₂
 unfold subscriptTail
 refine aa ?_
 rw[getitemInPython_of_ne hT.not_modules]
 refine aa (oq hT hl ?_)
 have fin:wpAny (model prog w) A (subscripted slice false o i) (fun r s₃=>wpAny (model prog w) A (letTemporaryGo value o r>>=fun _=>pure r) Q E s₃) E s₂:=by
  rw[hs o i]
  exact wpAny_operating (dv h₂ (fun r s₃ h₃=>aa (wpAny_letTemporaryGo (aq h₃))) fun _ _ x=>x)
 first
  |exact aq (aa fin)
  |exact aa (aq (aa fin))
  |exact aa fin
theorem xO{X:Cx}{pins:List (Addr×Obj)}{σ:St}{H:Hp}{s:Shared}{a:Addr}{y:V}{o:Option V}(I:aQ X pins σ H s)(g:fE H a y o):s.TypeIs (.ref a) "dict":=by
 rcases g with⟨kvs,k,e,_,_⟩|⟨kvs,k,b,e,_,_,_⟩
 ·obtain⟨_,_,vs,_,dd⟩:=tW I.hok e
  exact dd.typeIs
 ·obtain⟨_,_,xs,_,dd⟩:=uB I.hok e
  exact dd.typeIs
def bC1(td ty:TE):TE:=fun σ H Q=>td σ H fun x H1=>ty σ H1 fun y H2=>∃a v,x= .ref a/\fE H2 a y (some v)/\Q v H2
def bL0(ty td:TE):TE:=fun σ H Q=>ty σ H fun y H1=>td σ H1 fun x H2=>∃a o,x= .ref a/\fE H2 a y o/\Q (.bl (!o.isSome)) H2
def aX2(td ty tv:TE):TS:=fun D σ H=>tv σ H fun v H1=>td σ H1 fun x H2=>ty σ H2 fun y H3=>∃a H4,x= .ref a/\kF H3 a y v H4/\D.nx σ H4
section
variable {X:Cx}{o i e value:Expr}{pos pos' tpos:Pos}{td ty tv:TE}
theorem iQ(hu:X.A.units+1<cLine)(ho:PE X o td)(hi:PE X i ty)(hs:bS7 i):PE X (.Subscript o i pos) (bC1 td ty):=by
 intro pins s σ H Q I h
 refine bJ1 PySem.F.slot_dict_getitem.lookup hs (cL (ho pins s σ H _ I h) ?_);rintro u s1 ⟨x,H1,I1,rx,q1⟩;refine cL (hi pins s1 σ H1 _ I1 q1) ?_;rintro iv s2 ⟨y,H2,I2,ry,a,v,ex,g,q2⟩
 subst ex
 obtain rfl:u=Value.ref a:=rx
 exact⟨xO I2 g,aI9 hu I2 g ry fun w' s3 I3 rw'=>⟨v,H2,I3,rw',q2⟩⟩
theorem aK7(hu:X.A.units+1<cLine)(hi:PE X i ty)(ho:PE X o td):PC X .NotIn i o (bL0 ty td):=by
 intro pins s σ H Q I h
 refine cL (hi pins s σ H _ I h) ?_;rintro iv s1 ⟨y,H1,I1,ry,q1⟩;refine cL (ho pins s1 σ H1 _ I1 q1) ?_;rintro u s2 ⟨x,H2,I2,rx,a,ov,ex,g,q2⟩
 subst ex
 obtain rfl:u=Value.ref a:=rx
 exact bJ5 hu I2 g ry fun s3 I3=>⟨.bl (!ov.isSome),H2,I3,rfl,q2⟩
theorem qK(hu:X.A.units+1<cLine)(ho:PE X o td)(hi:PE X i ty)(hv:PE X value tv)(hs:swapsWith value (some (.Subscript o i pos')) pos.line X.env=pure false) :
  PS X (.Assign [.Subscript o i pos'] value pos) (aX2 td ty tv):=by
 intro pins s σ H D I h
 refine wpAny_Assign_Subscript (cL (hv pins s σ H _ I h) ?_) hs;rintro r s1 ⟨v,H1,I1,rv,q1⟩;refine cL (ho pins s1 σ H1 _ I1 q1) ?_;rintro u s2 ⟨x,H2,I2,rx,q2⟩;refine cL (hi pins s2 σ H2 _ I2 q2) ?_;rintro iv s3 ⟨y,H3,I3,ry,a,H4,ex,g,q3⟩
 subst ex
 obtain rfl:u=Value.ref a:=rx
 exact aK4 hu I3 g ry rv fun s4 I4=>⟨σ,H4,I4,q3⟩
end
theorem wS{P:Program}{w:World}{H:Hp}(h:Heap)(hb:sysModules<h.objs.size):bW P w H (h.push { cls:= .type "dict",data:= .dict #[] }) h.objs.size (.dK []):=
 ⟨bo _,oh.mpr (Ne.symm (cg hb)),[],.nil,Heap.DictOf.new h⟩
theorem aX7{P:Program}{w:World}{H:Hp}(h:Heap)(hb:sysModules<h.objs.size):bW P w H (h.push { cls:= .type "dict",data:= .dict #[] }) h.objs.size (.dT []):=
 ⟨bo _,oh.mpr (Ne.symm (cg hb)),[],.nil,_, #[],0,bc _ rfl,⟨rfl,rfl,rfl⟩,rfl,rfl,sq⟩
def tDNewK:TE:=fun _ H Q=>∀p,H p=none->Q (.ref p) (aO H p (.dK []))
def tDNewT:TE:=fun _ H Q=>∀p,H p=none->Q (.ref p) (aO H p (.dT []))
section
variable {X:Cx}{pos:Pos}
theorem yH:PE X (.Dict [] [] pos) tDNewK:=fun pins s σ H Q I h =>
 zm ⟨.ref s.heap.objs.size,_,I.laid (a:=s.heap.objs.size) (o:= .dK []) (t':=s.toks) (fun _ _ q=>ac _ q) (ai _) (wS s.heap I.big),rfl,h _ (I.hok.fresh (ai _))⟩
theorem aN4:PE X (.Dict [] [] pos) tDNewT:=fun pins s σ H Q I h =>
 zm ⟨.ref s.heap.objs.size,_,I.laid (a:=s.heap.objs.size) (o:= .dT []) (t':=s.toks) (fun _ _ q=>ac _ q) (ai _) (aX7 s.heap I.big),rfl,h _ (I.hok.fresh (ai _))⟩
end
def aB6:List (TE×TE)->St->Hp->(List (V×V)->Hp->Prop)->Prop
 |[],_,H,Q=>Q [] H
 |(tk,tv)::r,σ,H,Q=>tk σ H fun x H1=>tv σ H1 fun y H2=>aB6 r σ H2 fun ps H3=>Q ((x,y)::ps) H3
abbrev VV:List (V×V)->List (Value×Value)->Prop:=Paired fun p q=>bC p.1 q.1/\bC p.2 q.2
def PPs(X:Cx)(pos:Pos)(fX:List (Option Expr))(values:List Expr)(trs:List (TE×TE)):Prop:=
 ∀(pins:List (Addr×Obj)) (s:Shared) (σ:St) (H:Hp) (Q:List (V×V)->Hp->Prop),aQ X pins σ H s->aB6 trs σ H Q ->
  wpAny (model X.prog X.w) X.A (evalPairs (pairTrees fX values X.env pos)) (fun vs s'=>∃ps H',aQ X pins σ H' s'/\VV ps vs/\Q ps H') X.xe s
theorem aG4{X:Cx}{pos:Pos}:PPs X pos [] [] []:=fun pins s σ H Q I h=>pairTrees_nil_walk ⟨[],H,I,.nil,h⟩
theorem fC{X:Cx}{pos:Pos}{k v:Expr}{ks:List (Option Expr)}{vs:List Expr}{tk tv:TE}{trs:List (TE×TE)}(hk:PE X k tk)(hv:PE X v tv)(hr:PPs X pos ks vs trs) :
  PPs X pos (some k::ks) (v::vs) ((tk,tv)::trs):=fun pins s σ H Q I h =>
 pairTrees_cons_walk (cL (hk pins s σ H _ I h) fun u s1 ⟨x,H1,I1,rx,q1⟩=>cL (hv pins s1 σ H1 _ I1 q1) fun w2 s2 ⟨y,H2,I2,ry,q2⟩ =>
  cL (hr pins s2 σ H2 _ I2 q2) (by rintro ws s3 ⟨ps,H3,I3,rel,q3⟩;exact⟨(x,y)::ps,H3,I3,.cons ⟨rx,ry⟩ rel,q3⟩))
def gZ(kvs more:List (Key×V)):List (Key×V):=more.foldl (fun acc kv=>dB acc kv.1 kv.2) kvs
theorem KV.merge:∀{more:List (Key×V)}{rs:List (Key×Value)}{kvs:List (Key×V)}{vs:List (Key×Value)},KV more rs->KV kvs vs->KV (gZ kvs more) (merged vs rs):=by
 intro more rs kvs vs r
 unfold KV at r
 induction r generalizing kvs vs with
 |nil=>intro q;exact q
 |@cons p q ps qs h t ih =>
  intro r0
  have e:KV (dB kvs p.1 p.2) (stored vs q.1 q.2):=by
   have:=r0.put p.1 h.2
   rw[<-h.1];exact this
  exact ih e
theorem mB:∀(more kvs:List (Key×V)),(gZ kvs more).length<=kvs.length+more.length
 |[],kvs=>by show kvs.length<=kvs.length+0;lia
 |p::r,kvs=>by
  have h1:=mB r (dB kvs p.1 p.2)
  have h2:=eU kvs p.1 p.2
  show(gZ (dB kvs p.1 p.2) r).length<=_
  rw[cf];lia
theorem rS{P:Program}{w:World}:∀{kvs:List (Key×V)}{ws:List (Value×Value)},VV (kvs.map fun kv=>(kV kv.1,kv.2)) ws->∃rs,Carries (bY P w) ws rs/\KV kvs rs
 |[],_,r=>by rw[ut] at r;cases r;exact⟨[],jm,.nil⟩
 |p::kvs,_,r=>by
  rw[en] at r
  cases r with
  |@cons a b as bs h t =>
   obtain⟨rs,c,q⟩:=rS (P:=P) (w:=w) t
   obtain⟨b1,b2⟩:=b
   exact⟨(p.1,b2)::rs,⟨rA h.1,rfl,c⟩,.cons ⟨rfl,h.2⟩ q⟩
def cF2(trs:List (TE×TE)):TE:=fun σ H Q=>∀p,H p=none->aB6 trs σ (aO H p (.dK [])) fun ps H2=>H2 p=some (.dK [])/\∃kvs:List (Key×V),ps=kvs.map (fun kv=>(kV kv.1,kv.2))/\kvs.length<=15/\Q (.ref p) (aO H2 p (.dK (gZ [] kvs)))
theorem aF3{X:Cx}{pos:Pos}{fX:List (Option Expr)}{values:List Expr}{trs:List (TE×TE)}(h:PPs X pos fX values trs)(hall:fX.all (·.isSome)=true)(hl:fX.length=values.length)(h0:fX≠[])
  (h15:fX.length<=15):PE X (.Dict fX values pos) (cF2 trs):=by
 intro pins s σ H Q I q
 have hn:=I.hok.fresh (ai s.heap.objs.size)
 have I1:=I.laid (a:=s.heap.objs.size) (o:= .dK []) (h':=s.heap.push { cls:= .type "dict",data:= .dict #[] }) (t':=s.toks) (fun _ _ q=>ac _ q) (ai _) (wS s.heap I.big)
 refine wpAny_Dict_walk (knd:=bY X.prog X.w) hall hl h0 h15 (cL (h pins _ σ _ _ I1 (q _ hn)) ?_);rintro ws s2 ⟨ps,H2,I2,rel,e,kvs,ep,lk,q2⟩
 subst ep
 obtain⟨rs,c,rk⟩:=rS (P:=X.prog) (w:=X.w) rel
 obtain⟨z,hd,vs0,r0,dd⟩:=aG9 I2.hok e
 cases r0
 refine⟨rs,c,dd,fun h' dd' hs=>⟨.ref s.heap.objs.size,_,?_,rfl,q2⟩⟩
 have hz:(gZ [] kvs).length<=sizeLine:=by
  have h1:=mB kvs []
  rw[jx] at h1
  rw[nz];lia
 have he:∃q,h'.get? s.heap.objs.size=some q:=by obtain⟨q,_,_,hq,_⟩:=dd';exact⟨q,hq⟩
 exact qG I2 (by rw[e];exact jm) hs he (aB1 hz hd (rk.merge .nil) dd')
structure M2(X:Cx)(o:Expr)(m:Str)(apos:Pos)(e f:Expr)(cpos:Pos):Prop where
 base:attributeBase o m X.env (eval o X.env)=eval o X.env
 few:((backTo cpos (starEach [e,f] X.env)).all (fun x=> !x.1)&&(backToKw cpos (keywordEach [] X.env)).all (fun x=>x.1.isSome)
  && decide (([e,f]:List Expr).length+([]:List Keyword).length+(if ([]:List Keyword).isEmpty then 0 else 1)<30))=true
 line:(apos.endLine==cpos.line)=true
 trees:backTo cpos (starEach [e,f] X.env)=[(false,eval e X.env),(false,eval f X.env)]
def IsD(H:Hp)(a:Addr):Prop:=(∃kvs,Rd H a (.dK kvs))\/∃kvs,Rd H a (.dT kvs)
theorem bC8{X:Cx}{pins:List (Addr×Obj)}{σ:St}{H:Hp}{s:Shared}{a:Addr}(I:aQ X pins σ H s)(d:IsD H a) :
  s.TypeIs (.ref a) "dict"/\(∀b,Value.ref a= .ref b->∃ob,s.heap.get? b=some ob/\ob.dict=none)/\(a==sysModules)=false:=by
 rcases d with⟨kvs,e⟩|⟨kvs,e⟩
 ·obtain⟨_,hd,vs,_,dd⟩:=tW I.hok e
  refine⟨dd.typeIs,fun b q=>?_,hd⟩
  cases q
  obtain⟨ob,_,_,h1,h2,_⟩:=dd
  exact⟨ob,h1,h2.2.1⟩
 ·obtain⟨_,hd,xs,_,dd⟩:=uB I.hok e
  refine⟨dd.typeIs,fun b q=>?_,hd⟩
  cases q
  obtain⟨ob,_,_,h1,h2,_⟩:=dd
  exact⟨ob,h1,h2.2.1⟩
section
variable {X:Cx}{pins:List (Addr×Obj)}{σ:St}{H:Hp}{s:Shared}{a:Addr}{y d:V}{u r:Value}{o:Option V}{A:Around}{E:Value->Shared->Prop}
theorem bO6{Q:Value->Shared->Prop}(hu:A.units+1<cLine)(I:aQ X pins σ H s)(g:fE H a y o)(ry:bC y u)(rd:bC d r)(h:∀w' s',aQ X pins σ H s'->bC (o.getD d) w'->Q w' s') :
  wpAny (model X.prog X.w) A (call (.builtin "dict.get") [.ref a,u,r]) Q E s:=by
 rcases g with⟨kvs,k,e,ey,l⟩|⟨kvs,k,b,e,ey,eb,l⟩
 ·subst ey
  obtain⟨z,hd,vs,rel,dd⟩:=tW I.hok e
  refine ya qh dd.typeIs vw (vf _ _ _) (meets_dict_get_default (bY X.prog X.w) a (rA ry) hd r) ⟨_,dd.mapOf,h _ _ (I.tok _) ?_⟩
  rw[l]
  exact(rel.val k).getD rd
 ·subst ey
  cases(show u=Value.ref b from ry)
  obtain⟨z,hd,xs,rel,dd⟩:=uB I.hok e
  refine ya qh dd.typeIs vw (vf _ _ _) (meetsH_dict_get_default (tupleKind (bY X.prog X.w)) a b hd r) ⟨oy hu,k,xs,rT I.hok eb,dd,h _ _ (I.tok _) ?_⟩
  rw[l]
  exact(rel.val k).getD rd
end
def bW4(td ty tx:TE):TE:=fun σ H Q=>td σ H fun x H1=>∃a,x= .ref a/\IsD H1 a/\ty σ H1 fun y H2=>tx σ H2 fun z H3=>∃o,fE H3 a y o/\Q (o.getD z) H3
section
variable {X:Cx}{o e f:Expr}{apos cpos:Pos}{td ty tx:TE}
theorem aZ2(hu:X.A.units+1<cLine)(ho:PE X o td)(he:PE X e ty)(hf:PE X f tx)(m:M2 X o "get" apos e f cpos):PE X (.Call (.Attribute o "get" apos) [e,f] [] cpos) (bW4 td ty tx):=by
 intro pins s σ H Q I h
 refine yw m.base m.few m.line vg qh PySem.F.type_dict_get (cL (ho pins s σ H _ I h) ?_);rintro u s1 ⟨x,H1,I1,rx,a,ex,d,q1⟩
 subst ex
 obtain rfl:u=Value.ref a:=rx
 obtain⟨t1,t2,_⟩:=bC8 I1 d
 refine⟨t1,t2,?_⟩
 rw[m.trees]
 refine lq rfl (qz (gq (cL (he pins s1 σ H1 _ I1 q1) fun iv s2 ⟨y,H2,I2,ry,q2⟩ =>
  gq (cL (hf pins s2 σ H2 _ I2 q2) fun fv s3 ⟨z,H3,I3,rz,ov,g,q3⟩=>jf ?_))))
 exact bO6 hu I3 g ry rz fun w' s4 I4 rw'=>⟨_,H3,I4,rw',q3⟩
end
section
variable {X:Cx}{pins:List (Addr×Obj)}{σ:St}{H:Hp}{s:Shared}{a:Addr}{kvs:List (Key×V)}{A:Around}{E:Value->Shared->Prop}
end
section
variable {X:Cx}{pins:List (Addr×Obj)}{σ:St}{H:Hp}{s:Shared}{a:Addr}{y:V}{u:Value}{A:Around}{E:Value->Shared->Prop}
end
end L2
namespace HT
open PySem PyProof.Rows
section
open PySem.SeqAt
open PySem.AutoSeq1 (wpAny_loadPart')
open PySem.MeetsSeq PySem.MeetsSeq2 PySem.MeetsSeq3
end
section
variable {prog:Program}{w:World}{A:Around}{E:Value->Shared->Prop}{s:Shared}
theorem cat_tup{t b:Addr}{vs ws:List Value}{Q:Value->Shared->Prop}(ht:IsTup s.heap t vs.toArray)(hb:IsTup s.heap b ws.toArray)(hv:vs≠[])
  (h1:ws=[]->Q (.ref t) s) (h2:ws≠[]->Q (.ref s.heap.objs.size) { s with heap:=s.heap.push { cls:= .type "tuple",data:= .seq (vs++ws).toArray } })
  (hsz:vs.length+ws.length<=sizeLine):wpAny (model prog w) A (binaryOp .Add (.ref t) (.ref b)) Q E s:=by
 obtain⟨⟨cls,dd,data,sl⟩,ho,hc,n,hd⟩:=id ht
 obtain⟨⟨cls2,dd2,data2,sl2⟩,ho2,hc2,n2,hd2⟩:=id hb
 simp only at hc hd hc2 hd2
 subst hc hd hc2 hd2
 have e:vs.toArray++ws.toArray=(vs++ws).toArray:=by simp
 by_cases hw:ws=[]
 ·exact concat_meets ⟨_,ho,rfl⟩ ⟨_,ho2,rfl⟩ noFill_tuple_add seq_tuple_add PySem.F.slot_tuple_add PySem.F.entry_tuple_add (PySem.F.args_tuple_add_2 _ _)
   (tuple_addW1 t b vs.toArray ws.toArray n n2 dd dd2 sl sl2 (by simpa using hv) (by simp[hw])) ⟨ho,ho2,h1 hw⟩
 ·refine concat_meets ⟨_,ho,rfl⟩ ⟨_,ho2,rfl⟩ noFill_tuple_add seq_tuple_add PySem.F.slot_tuple_add PySem.F.entry_tuple_add (PySem.F.args_tuple_add_2 _ _)
   (tuple_addW2 t b vs.toArray ws.toArray n n2 dd dd2 sl sl2 (by simpa using hv) (by simpa using hw) (by rw[List.size_toArray,List.size_toArray];exact hsz)) ⟨ho,ho2,?_⟩
  rw[e]
  exact h2 hw
def sIx(n d:Nat):Option Int->Nat
 |none=>d
 |some v=>if v<0 then (v+(n:Int)).toNat else min v.toNat n
theorem bU2(n d:Nat)(hd:d<=n)(o:Option Int):sIx n d o<=n:=by
 cases o with
 |none=>exact hd
 |some v =>
  show(if v<0 then (v+(n:Int)).toNat else min v.toNat n)<=n
  by_cases hv:v<0
  ·rw[if_pos hv];lia
  ·rw[if_neg hv];exact Nat.min_le_right _ _
theorem aE4(v:Int)(n d:Nat):(if v<0 then max (v+(n:Int)) 0 else min v (n:Int))=((sIx n d (some v):Nat):Int):=by
 show(if v<0 then max (v+(n:Int)) 0 else min v (n:Int))=(((if v<0 then (v+(n:Int)).toNat else min v.toNat n):Nat):Int)
 by_cases hv:v<0
 ·simp only[if_pos hv];lia
 ·simp only[if_neg hv];lia
theorem aC5(lo hi:Option Int)(n:Nat):Builtin.Slice.sliceAdjust lo hi 1 (n:Int)=(((sIx n 0 lo:Nat):Int),((sIx n n hi:Nat):Int)):=by
 have h1:¬((1:Int)<0):=by lia
 unfold Builtin.Slice.sliceAdjust
 simp only[h1,if_false]
 refine Prod.ext ?_ ?_
 ·cases lo with
  |none=>rfl
  |some v=>exact aE4 v n 0
 ·cases hi with
  |none=>rfl
  |some v=>exact aE4 v n n
theorem aB3(i j:Nat):Builtin.Slice.slicePlaces (i:Int) (j:Int) 1=j-i:=by
 unfold Builtin.Slice.slicePlaces
 have h1:(1:Int) > 0:=by lia
 simp only[h1,if_true,Int.ediv_one]
 split<;>lia
theorem rX{v:Value}{o:Option Int}{Q:Option Int->Shared->Prop}(p:IsPart v o)(h:Q o s):wpAny (model prog w) A (Builtin.Slice.slicePartIndex v) Q E s:=by
 cases p with
 |none=>exact slicePart_none h
 |int i t=>exact slicePart_int h
theorem oV{sl:Addr}{vl vu:Value}{lo hi:Option Int}{n:Nat}{Q:Int×Int×Nat->Shared->Prop}(hs:s.heap.IsSliceOf sl vl vu .none)(pl:IsPart vl lo)(pu:IsPart vu hi)
  (h:Q (((sIx n 0 lo:Nat):Int),1,sIx n n hi-sIx n 0 lo) s):wpAny (model prog w) A (Builtin.Slice.sliceApplied (.ref sl) (pure (n:Int))) Q E s:=by
 obtain⟨os,hos,hcs,hds⟩:=id hs
 unfold Builtin.Slice.sliceApplied Builtin.Slice.sliceFields
 refine wpAny_bind (wpAny_bind (wpAny_field hos hds (x:=vl) rfl (wpAny_bind (wpAny_field hos hds (x:=vu) rfl (wpAny_bind (wpAny_field hos hds (x:= .none) rfl (wpAny_pure ?_)))))))
 refine wpAny_bind (slicePart_none ?_)
 show wpAny _ _ (if ((1:Int)==0)=true then _ else _) _ _ s
 rw[if_neg (by decide)]
 refine wpAny_bind (rX pl (wpAny_bind (rX pu (wpAny_bind (wpAny_pure ?_)))))
 show wpAny _ _ (match Builtin.Slice.sliceAdjust lo hi 1 (n:Int) with|(lo,hi)=>pure (lo,(1:Int),Builtin.Slice.slicePlaces lo hi 1)) _ _ s
 rw[aC5 lo hi n]
 show wpAny _ _ (pure (((sIx n 0 lo:Nat):Int),(1:Int),Builtin.Slice.slicePlaces ((sIx n 0 lo:Nat):Int) ((sIx n n hi:Nat):Int) 1)) _ _ s
 rw[aB3]
 exact wpAny_pure h
theorem aN0(xs:Array Value)(i k:Nat):((List.range k).filterMap fun(m:Nat)=>xs[((i:Int)+(m:Int)*1).toNat]?).toArray=((xs.toList.drop i).take k).toArray:=by
 have e:(fun(m:Nat)=>xs[((i:Int)+(m:Int)*1).toNat]?)=fun m=>xs[i+m]?:=by
  funext m
  have:((i:Int)+(m:Int)*1).toNat=i+m:=by lia
  rw[this]
 rw[e]
 have:=pick_run xs i k
 rw[List.filterMap_map] at this
 have e2:((fun x=>xs[x]?) ∘ fun x=>i+x)=fun m=>xs[i+m]?:=rfl
 rw[e2] at this
 rw[this]
theorem getItem_tuple_cut{t sl:Addr}{items:Array Value}{vl vu:Value}{lo hi:Option Int}{Q:Value->Shared->Prop}(ht:IsTup s.heap t items)(hs:s.heap.IsSliceOf sl vl vu .none)(pl:IsPart vl lo)(pu:IsPart vu hi)
  (hw:¬(sIx items.size 0 lo=0/\sIx items.size items.size hi=items.size))
  (h:Q (.ref s.heap.objs.size) { s with heap:=s.heap.push { cls:= .type "tuple",data:= .seq ((items.toList.drop (sIx items.size 0 lo)).take (sIx items.size items.size hi-sIx items.size 0 lo)).toArray } })
  (hsz:items.size<=sizeLine):wpAny (model prog w) A (getItem (.ref t) (.ref sl)) Q E s:=by
 have htake:sizeOk (.seq ((items.toList.drop (sIx items.size 0 lo)).take (sIx items.size items.size hi-sIx items.size 0 lo)).toArray):=by
  show((items.toList.drop (sIx items.size 0 lo)).take (sIx items.size items.size hi-sIx items.size 0 lo)).toArray.size<=sizeLine
  rw[List.size_toArray,List.length_take,List.length_drop,Array.length_toList]
  lia
 have hj:sIx items.size items.size hi<=items.size:=bU2 _ _ (Nat.le_refl _) hi
 obtain⟨os,hos,hcs,hds⟩:=id hs
 have hTs:s.TypeIs (.ref sl) "slice":=⟨os,hos,hcs⟩
 unfold getItem
 try with_reducible refine wpAny_holding ?_
 first|refine wpAny_bind (wpAny_pure ?_)|skip
 refine wpAny_bind (wpAny_sequenceKey ht.typeIs (by decide) ?_)
 refine wpAny_bind (wpAny_callSpecial?_slot (name:=Str.ofString "__getitem__") ht.typeIs PyProof.Rows.slot_tuple_getitem
  (wpAny_call_entry PyProof.Rows.slot_tuple_getitem ht.typeIs entry_tuple_getitem ?_ (args_tuple_getitem _ _)))
 show wpAny _ _ (Builtin.Tuple.tupleItemsOf (.ref t)>>=_) _ _ s
 refine wpAny_bind (tupleItemsOf_ ht ?_)
 refine wpAny_bind (wpAny_typeOf hTs ?_)
 rw[if_pos (by decide)]
 refine wpAny_bind (oV hs pl pu ?_)
 have hno:¬((((sIx items.size 0 lo:Nat):Int)==0&&(1:Int)==1&&(sIx items.size items.size hi-sIx items.size 0 lo)==items.size)=true):=by
  intro q
  rw[Bool.and_eq_true,Bool.and_eq_true] at q
  have q1:((sIx items.size 0 lo:Nat):Int)=0:=eq_of_beq q.1.1
  have q2:sIx items.size items.size hi-sIx items.size 0 lo=items.size:=eq_of_beq q.2
  exact hw ⟨by lia,by lia⟩
 show wpAny _ _ (if (((sIx items.size 0 lo:Nat):Int)==0&&(1:Int)==1&&(sIx items.size items.size hi-sIx items.size 0 lo)==items.size)=true then _ else _) _ _ s
 rw[if_neg hno,aN0]
 first
  |exact wpAny_bind (m:=Builtin.Tuple.tupleExact _) (wpAny_newObj_type (wpAny_pure ⟨_,rfl,wpAny_pure h⟩) htake)
  |exact wpAny_bind (m:=Builtin.Tuple.tupleExact _) (wpAny_newObj_type (wpAny_bind (wpAny_pure (wpAny_pure ⟨_,rfl,wpAny_pure h⟩))) htake)
  |exact wpAny_bind (wpAny_bind (m:=Builtin.Tuple.tupleExact _) (wpAny_newObj_type (wpAny_pure (wpAny_pure ⟨_,rfl,wpAny_pure h⟩)) htake))
  |exact wpAny_bind (wpAny_bind (m:=Builtin.Tuple.tupleExact _) (wpAny_newObj_type (wpAny_pure ⟨_,rfl,wpAny_pure h⟩) htake))
end
end HT
namespace L2
open PySem PySem.Spec PyProof.Rows
abbrev TO:=St->Hp->(Option Int->Hp->Prop)->Prop
def PO(X:Cx)(e:Option Expr)(t:TO):Prop:=
 ∀(pins:List (Addr×Obj)) (s:Shared) (σ:St) (H:Hp) (Q:Option Int->Hp->Prop),aQ X pins σ H s->t σ H Q ->
  wpAny (model X.prog X.w) X.A (evalPart e X.env) (fun u s'=>∃o H',aQ X pins σ H' s'/\IsPart u o/\Q o H') X.xe s
def tNoPart:TO:=fun _ H Q=>Q none H
def cB4(t:TE):TO:=fun σ H Q=>t σ H fun x H1=>∃i,x= .int i/\Q (some i) H1
section
variable {X:Cx}{e:Expr}{te:TE}{lo hi:Option Expr}{tl th:TO}{pos p2:Pos}
theorem eN:PO X none tNoPart:=by
 intro pins s σ H Q I h
 rw[evalPart_none]
 exact aq ⟨none,H,I,.none,h⟩
theorem dU(h:PE X e te):PO X (some e) (cB4 te):=by
 intro pins s σ H Q I hw
 rw[evalPart_some]
 refine cL (h pins s σ H _ I hw) ?_;rintro u s1 ⟨x,H1,I1,r1,q1⟩
 obtain⟨i,rfl,q⟩:=q1
 obtain⟨t,rfl⟩:=r1
 exact⟨some i,H1,I1,.int i t,q⟩
def SlR(X:Cx)(r:V->Option Int->Option Int->Hp->VK->Prop):Prop:=
 ∀(pins:List (Addr×Obj)) (s:Shared) (σ:St) (H:Hp) (x:V) (v vl vu:Value) (lo hi:Option Int) (sl:Addr) (Q:VK),aQ X pins σ H s->bC x v->s.heap.IsSliceOf sl vl vu .none->IsPart vl lo->IsPart vu hi->r x lo hi H Q ->
  ∃T id,typeLookup (.type T) "__getitem__"=pure (some (.builtin id))/\s.TypeIs v T/\wpAny (model X.prog X.w) X.A (getItem v (.ref sl)) (EP X pins σ Q) X.xe s
def tSl(r:V->Option Int->Option Int->Hp->VK->Prop)(te:TE)(tl th:TO):TE:=fun σ H Q=>te σ H fun x H1=>tl σ H1 fun l H2=>th σ H2 fun u H3=>r x l u H3 Q
theorem dC{r:V->Option Int->Option Int->Hp->VK->Prop}(hr:SlR X r)(he:PE X e te)(hl:PO X lo tl)(hu:PO X hi th):PE X (.Subscript e (.Slice lo hi none p2) pos) (tSl r te tl th):=by
 intro pins s σ H Q I h
 refine zx (cL (he pins s σ H _ I h) ?_);rintro v s1 ⟨x,H1,I1,r1,q1⟩
 refine wpAny_Slice (cL (hl pins s1 σ H1 _ I1 q1) ?_);rintro vl s2 ⟨l,H2,I2,pl,q2⟩;refine cL (hu pins s2 σ H2 _ I2 q2) ?_;rintro vu s3 ⟨u,H3,I3,pu,q3⟩
 rw[evalPart_none]
 refine aq ?_
 have I4:aQ X pins σ H3 { s3 with heap:=s3.heap.push { cls:= .type "slice",data:= .fields #[vl,vu,.none] } }:=I3.kept (t':=s3.toks) fun b ob q=>ac _ q
 obtain⟨T,id,hT,ht,hg⟩:=hr pins { s3 with heap:=s3.heap.push { cls:= .type "slice",data:= .fields #[vl,vu,.none] } } σ H3 x v vl vu l u s3.heap.objs.size Q I4 r1 (Heap.IsSliceOf.new ..) pl pu q3
 show wpAny (model X.prog X.w) X.A (subscriptTail e (.Slice lo hi none p2) v (.ref s3.heap.objs.size)) (EP X pins σ Q) X.xe { s3 with heap:=s3.heap.push { cls:= .type "slice",data:= .fields #[vl,vu,.none] } }
 exact tail_any (ops:=[.ref s3.heap.objs.size,v]) ht hT hg (by with_unfolding_all rfl)
def kS(xs:List V)(lo hi:Option Int):List V:=(xs.drop (HT.sIx xs.length 0 lo)).take (HT.sIx xs.length xs.length hi-HT.sIx xs.length 0 lo)
theorem pO(xs:List V)(lo hi:Option Int):(kS xs lo hi).length<=xs.length:=by
 unfold kS
 rw[du,uv]
 lia
inductive cC5(K:PySem.W.Frag)(x:V)(lo:Option Int)(hi:Option Int)(H:Hp)(Q:VK):Prop
 |mk:∀a xs,(x= .ref a)->(aU K H a xs)->(¬(HT.sIx xs.length 0 lo=0/\HT.sIx xs.length xs.length hi=xs.length))->(∀p,H p=none->Q (.ref p) (aO H p (.tup (kS xs lo hi))))->cC5 K x lo hi H Q
theorem kR:SlR X (cC5 X.K):=by
 intro pins s σ H x v vl vu lo hi sl Q I rx hs pl pu h
 obtain⟨a,xs,rfl,hx,hw,q⟩:=h
 cases rx
 obtain⟨its,r,ht,hz⟩:=I.tuple hx
 have hlen:its.toArray.size=xs.length:=by rw[br];exact r.length.symm
 refine⟨"tuple",_,PyProof.Rows.slot_tuple_getitem.lookup,ht.typeIs,?_⟩
 refine HT.getItem_tuple_cut ht hs pl pu (by rw[hlen];exact hw) ?_ (by rw[hlen];exact hz)
 rw[hlen]
 refine⟨.ref s.heap.objs.size,_,I.laid (t':=s.toks) (o:= .tup (kS xs lo hi)) (fun b ob q=>ac _ q) (ai _) ?_,rfl,q _ (I.hok.fresh (ai _))⟩
 exact⟨db (pO xs lo hi) hz,_,(r.drop (HT.sIx xs.length 0 lo)).take (HT.sIx xs.length xs.length hi-HT.sIx xs.length 0 lo),lE.new _ _⟩
inductive bM4(K:PySem.W.Frag)(x:V)(y:V)(H:Hp)(Q:VK):Prop
 |mk:∀a b xs ys,(x= .ref a)->(y= .ref b)->(aU K H a xs)->(aU K H b ys)->(xs≠[])->(xs.length+ys.length<=sizeLine)->((ys=[]->Q (.ref a) H))->((ys≠[]->∀p,H p=none->Q (.ref p) (aO H p (.tup (xs++ys)))))->bM4 K x y H Q
theorem bB.nil_iff{xs:List V}{us:List Value}(r:bB xs us):us=[]↔xs=[]:=by
 cases r with
 |nil=>simp
 |cons _ _=>simp
theorem aF6:kH X (binaryOp .Add) (bM4 X.K):=by
 intro pins s σ H x y v u Q I rx ry h
 obtain⟨a,b,xs,ys,rfl,rfl,ha,hb,hx,hz,q1,q2⟩:=h
 cases rx
 cases ry
 obtain⟨its,r1,p1,_⟩:=I.tuple ha
 obtain⟨its2,r2,p2,_⟩:=I.tuple hb
 refine HT.cat_tup p1 p2 (fun z=>hx (r1.nil_iff.mp z)) (fun z=>⟨.ref a,H,I,rfl,q1 (r2.nil_iff.mp z)⟩) (fun z=>?_) (by rw[<-r1.length, <-r2.length];exact hz)
 refine⟨.ref s.heap.objs.size,_,I.laid (t':=s.toks) (o:= .tup (xs++ys)) (fun b ob q=>ac _ q) (ai _) ?_,rfl,q2 (fun w=>z (r2.nil_iff.mpr w)) _ (I.hok.fresh (ai _))⟩
 exact⟨by rw[aj];exact hz,_,r1.append r2,lE.new _ _⟩
end
def ixN(n:Nat)(i:Int):Option Nat:=if 0<=i then (if i<n then some i.toNat else none) else if -(n:Int)<=i then some (i+n).toNat else none
def lP{α:Type}(xs:List α)(i:Int):Option α:=(ixN xs.length i).bind fun j=>xs[j]?
theorem aI4{n:Nat}{i:Int}{j:Nat}(h:ixN n i=some j):seqIndex? i n=some j/\j<n/\ -(n:Int)<=i/\i<n:=by
 unfold ixN at h
 by_cases h0:0<=i
 ·rw[bv h0] at h
  by_cases h1:i<n
  ·rw[bv h1] at h
   have e:i.toNat=j:=di h
   exact⟨by rw[zh h0 h1,e],by lia,by lia,h1⟩
  ·rw[ay h1] at h;cases h
 ·rw[ay h0] at h
  by_cases h1: -(n:Int)<=i
  ·rw[bv h1] at h
   have e:(i+n).toNat=j:=di h
   exact⟨by rw[yc (by lia) h1,e],by lia,h1,by lia⟩
  ·rw[ay h1] at h;cases h
theorem uS{α:Type}{xs:List α}{i:Int}{v:α}(h:lP xs i=some v):∃j,seqIndex? i xs.length=some j/\xs[j]?=some v/\j<xs.length/\ -(xs.length:Int)<=i/\i<xs.length:=by
 unfold lP at h
 cases e:ixN xs.length i with
 |none=>rw[e] at h;cases h
 |some j =>
  rw[e] at h
  obtain⟨h1,h2,h3,h4⟩:=aI4 e
  exact⟨j,h1,h,h2,h3,h4⟩
theorem kC{α:Type}{xs:List α}{j:Nat}{v:α}(h:xs[j]?=some v):lP xs (j:Int)=some v:=by
 have hj:j<xs.length:=(ap.mp h).1
 have e:ixN xs.length (j:Int)=some j:=by
  unfold ixN
  rw[bv (by lia),bv (by lia)];simp
 unfold lP;rw[e];exact h
def aG0(b:Expr):Prop:=∀o i,subscripted b false o i=operate [o,i] (getItem o i)
def IxR(X:Cx)(r:R2):Prop:=
 ∀(value slice:Expr) (pins:List (Addr×Obj)) (s:Shared) (σ:St) (H:Hp) (x y:V) (v u:Value) (Q:VK),aQ X pins σ H s->bC x v->bC y u->r x y H Q ->
  subscripted slice false v u=operate [v,u] (getItem v u)->wpAny (model X.prog X.w) X.A (subscriptTail value slice v u) (EP X pins σ Q) X.xe s
def MtR(X:Cx)(id:String)(r:V->List V->Hp->VK->Prop):Prop:=
 ∀(pins:List (Addr×Obj)) (s:Shared) (σ:St) (H:Hp) (x:V) (xs:List V) (v:Value) (us:List Value) (Q:VK),aQ X pins σ H s->bC x v->bB xs us->r x xs H Q ->
  wpAny (model X.prog X.w) X.A (call (.builtin id) (v::us)) (EP X pins σ Q) X.xe s
section
variable {X:Cx}{a b:Expr}{ta tb:TE}{pos:Pos}
theorem cC8{r:R2}(hr:IxR X r)(ha:PE X a ta)(hb:PE X b tb)(hs:aG0 b):PE X (.Subscript a b pos) (wN r ta tb):=by
 intro pins s σ H Q I h
 exact zx (bP5 ha hb I h fun v u s2 x y H2 I2 rx ry q=>hr a b pins s2 σ H2 x y v u Q I2 rx ry q (hs _ _))
inductive cF4(K:PySem.W.Frag)(x:V)(y:V)(H:Hp)(Q:VK):Prop
 |mk:∀p xs i v,(x= .ref p)->(y= .int i)->(bG K H p xs)->(lP xs i=some v)->(Q v H)->cF4 K x y H Q
inductive xD(K:PySem.W.Frag)(x:V)(y:V)(H:Hp)(Q:VK):Prop
 |mk:∀p xs i v,(x= .ref p)->(y= .int i)->(aU K H p xs)->(lP xs i=some v)->(Q v H)->xD K x y H Q
inductive rIxS(x:V)(y:V)(H:Hp)(Q:VK):Prop
 |mk:∀z i c,(x= .str z)->(y= .int i)->(z.length<=sizeLine)->(lP z.cps.toList i=some c)->(Q (.str ⟨#[c]⟩) H)->rIxS x y H Q
theorem cB:IxR X (cF4 X.K):=by
 intro value slice pins s σ H x y v u Q I rx ry h hs
 obtain⟨p,xs,i,z,rfl,rfl,hq,he,q⟩:=h
 cases rx
 obtain⟨t,rfl⟩:=ry
 obtain⟨its,r,pl,hz⟩:=I.list hq
 obtain⟨j,h1,h2,h3,h4,h5⟩:=uS he
 obtain⟨w,ew,rw'⟩:=r.get h2
 have hl:=r.length
 have hn:=mL
 have fin:EP X pins σ Q w s:=⟨z,H,I,rw',q⟩
 by_cases h0:0<=i
 ·have hj:i.toNat=j:=by
   rw[zh h0 h5] at h1
   exact di h1
  exact item_listR pl.isList h0 (by lia) (by rw[hj];simpa using ew) fin hs
 ·have hj:(i+(its.toArray.size:Int)).toNat=j:=by
   rw[yc (by lia) h4] at h1
   rw[br, <-hl]
   exact di h1
  exact vy (x:=w) pl.isList.typeIs slot_list_getitem.lookup
   (wpAny_getItem_list_neg (Q:=fun r s'=>r=w/\EP X pins σ Q r s') pl.isList (by lia) (by rw[br]<;>lia) (by lia) (by rw[hj];simpa using ew) ⟨rfl,fin⟩) hs
theorem aG:IxR X (xD X.K):=by
 intro value slice pins s σ H x y v u Q I rx ry h hs
 obtain⟨p,xs,i,z,rfl,rfl,hq,he,q⟩:=h
 cases rx
 obtain⟨t,rfl⟩:=ry
 obtain⟨its,r,pl,hz⟩:=I.tuple hq
 obtain⟨j,h1,h2,h3,h4,h5⟩:=uS he
 obtain⟨w,ew,rw'⟩:=r.get h2
 have hl:=r.length
 have hn:=mL
 have fin:EP X pins σ Q w s:=⟨z,H,I,rw',q⟩
 exact vy (x:=w) pl.typeIs slot_tuple_getitem.lookup
  (getItem_tuple (j:=j) (Q:=fun r s'=>r=w/\EP X pins σ Q r s') pl (by lia) (by lia) (by rw[br, <-hl];exact h1) (by simpa using ew) ⟨rfl,fin⟩) hs
theorem aA7:IxR X rIxS:=by
 intro value slice pins s σ H x y v u Q I rx ry h hs
 obtain⟨z,i,c,rfl,rfl,hz,he,q⟩:=h
 obtain⟨t,rfl⟩:=rx
 obtain⟨t',rfl⟩:=ry
 obtain⟨j,h1,h2,h3,h4,h5⟩:=uS he
 have hl:z.cps.toList.length=z.length:=by simp[Str.length]
 rw[hl] at h1 h4 h5
 have hn:=mL
 exact tail_any (zy s z t) slot_str_getitem.lookup (getItem_str (c:=c) (by
  have e1:decide (i < -(2^63:Int))=false:=dh (by lia)
  have e2:decide (i ≥ 2^63)=false:=dh (by lia)
  rw[e1,e2,Bool.or_false]) (by rw[h1];simpa using h2) ⟨.str ⟨#[c]⟩,H,I.tok _,⟨_,rfl⟩,q⟩) hs
theorem aA3(its:List Value)(n j:Nat)(u:Value):Obj.mapSeq (·.setIfInBounds j u) { cls:= .type "list",data:= .seq its.toArray n }={ cls:= .type "list",data:= .seq (its.set j u).toArray n }:=by
 simp[Obj.mapSeq]
theorem aQ.lst{pins:List (Addr×Obj)}{σ:St}{H:Hp}{s:Shared}{p:Addr}{xs:List V}(I:aQ X pins σ H s)(h:H p=some (.lst xs)) :
  ∃(its:List Value) (n:Nat),bB xs its/\s.heap.get? p=some { cls:= .type "list",data:= .seq its.toArray n }/\xs.length<=sizeLine:=by
 obtain⟨z,its,n,r,e⟩:=I.hok p _ h
 exact⟨its,n,r,e,z⟩
theorem aQ.lstUpd{pins:List (Addr×Obj)}{σ:St}{H:Hp}{s:Shared}{p:Addr}{xs ys:List V}{its its':List Value}{n n':Nat}{f:Obj->Obj}(I:aQ X pins σ H s)(h:H p=some (.lst xs))
  (ho:s.heap.get? p=some { cls:= .type "list",data:= .seq its.toArray n }) (hf:f { cls:= .type "list",data:= .seq its.toArray n }={ cls:= .type "list",data:= .seq its'.toArray n' }) (r:bB ys its') (hz:ys.length<=sizeLine) (t:Nat) :
  aQ X pins σ (aO H p (.lst ys)) { s with heap:=s.heap.update p f,toks:=t }:=by
 have e:(s.heap.update p f).get? p=some { cls:= .type "list",data:= .seq its'.toArray n' }:=by
  rw[fg f ho (by rw[hf]<;>rfl),hf]
 refine I.write (x:=p) (e:=p) (by rw[h];trivial) (.inl rfl) (fun b u hb q=>(iq _ _ (Ne.symm hb)).trans q) ⟨_,e⟩ ?_
 exact⟨hz,its',n',r,e⟩
inductive rSetL(o:V)(i:V)(v:V)(H:Hp)(Q:(Hp->Prop)):Prop
 |mk:∀p xs k j,(o= .ref p)->(i= .int k)->(H p=some (.lst xs))->(ixN xs.length k=some j)->(Q (aO H p (.lst (xs.set j v))))->rSetL o i v H Q
theorem aU7:cA5 X rSetL:=by
 intro pins s σ H o i v ov iv u Q I ro ri rv h
 obtain⟨p,xs,k,j,rfl,rfl,hp,hj,q⟩:=h
 cases ro
 obtain⟨t,rfl⟩:=ri
 obtain⟨its,n,r,ho,hz⟩:=I.lst hp
 obtain⟨h1,h2,h3,h4⟩:=aI4 hj
 have hl:=r.length
 have hn:=mL
 have I':aQ X pins σ (aO H p (.lst (xs.set j v))) { s with heap:=s.heap.update p (Obj.mapSeq (·.setIfInBounds j u)) }:=
  I.lstUpd hp ho (aA3 its n j u) (r.set rv j) (by rw[List.length_set];exact hz) s.toks
 by_cases h0:0<=k
 ·have hk:k.toNat=j:=by
   rw[zh h0 h4] at h1
   exact di h1
  exact PySem.W.ki_setAt ho h0 (by lia) (by rw[br, <-hl];exact h4) (by rw[hk];exact⟨_,I',q⟩)
 ·have hk:(k+(its.toArray.size:Int)).toNat=j:=by
   rw[yc (by lia) h3] at h1
   rw[br, <-hl]
   exact di h1
  exact PySem.W.ki_setBack ho (by lia) (by rw[br, <-hl];exact h3) (by lia) (by rw[hk];exact⟨_,I',q⟩)
theorem uQ(lo hi:Option Int)(n:Nat):(sliceBounds lo hi none n).1=((HT.sIx n 0 lo:Nat):Int)/\(sliceBounds lo hi none n).2.1=((HT.sIx n n hi:Nat):Int)/\(sliceBounds lo hi none n).2.2=1:=by
 refine⟨?_,?_,rfl⟩
 ·cases lo with
  |none=>simp[sliceBounds,HT.sIx]
  |some i =>
   simp only[sliceBounds,HT.sIx,Option.getD_none,show(1:Int) > 0 by decide,if_true]
   by_cases h:i<0
   ·simp only[h,if_true]<;>lia
   ·simp only[h,if_false]<;>lia
 ·cases hi with
  |none=>simp[sliceBounds,HT.sIx]
  |some i =>
   simp only[sliceBounds,HT.sIx,Option.getD_none,show(1:Int) > 0 by decide,if_true]
   by_cases h:i<0
   ·simp only[h,if_true]<;>lia
   ·simp only[h,if_false]<;>lia
theorem sV(its:List Value)(lo hi:Option Int):slicePick its.toArray lo hi none=((its.drop (HT.sIx its.length 0 lo)).take (HT.sIx its.length its.length hi-HT.sIx its.length 0 lo)).toArray:=by
 obtain⟨h1,h2,h3⟩:=uQ lo hi its.toArray.size
 unfold slicePick
 rw[h1,h2,h3]
 simp only[sliceRange_one,pick_run,List.size_toArray]<;>rfl
inductive cC3(K:PySem.W.Frag)(x:V)(lo:Option Int)(hi:Option Int)(H:Hp)(Q:VK):Prop
 |mk:∀a xs,(x= .ref a)->(bG K H a xs)->(∀p,H p=none->Q (.ref p) (aO H p (.lst (kS xs lo hi))))->cC3 K x lo hi H Q
theorem uX:SlR X (cC3 X.K):=by
 intro pins s σ H x v vl vu lo hi sl Q I rx hs pl pu h
 obtain⟨a,xs,rfl,hx,q⟩:=h
 cases rx
 obtain⟨its,r,ht,hz⟩:=I.list hx
 have hlen:=r.length
 refine⟨"list",_,slot_list_getitem.lookup,ht.isList.typeIs,?_⟩
 refine wpAny_getItem_list_slice ht.isList hs pl pu .none (by simp) ?_ (by rw[List.size_toArray]<;>lia)
 rw[sV, <-hlen]
 refine⟨.ref s.heap.objs.size,_,I.laid (t':=s.toks) (o:= .lst (kS xs lo hi)) (fun b ob q=>ac _ q) (ai _) ?_,rfl,q _ (I.hok.fresh (ai _))⟩
 exact⟨db (pO xs lo hi) hz,_,0,(r.drop (HT.sIx xs.length 0 lo)).take (HT.sIx xs.length xs.length hi-HT.sIx xs.length 0 lo),bc _ rfl⟩
def lZ:V->Bool
 |.non=>true
 |.bl _=>true
 |.int _=>true
 |.str _=>true
 |_=>false
def eqV:V->V->Bool
 |.non,.non=>true
 |.bl a,.bl b=>a==b
 |.bl a,.int b=>(if a then 1 else 0)==b
 |.int a,.bl b=>a==(if b then 1 else 0)
 |.int a,.int b=>a==b
 |.str a,.str b=>a==b
 |_,_=>false
theorem bV1{A:Around}{s:Shared}{y x:V}{u v:Value}(ry:bC y u)(rx:bC x v)(fy:lZ y=true)(fx:lZ x=true):SeqAt.EqAt A s u v (eqV y x):=by
 cases y with
 |non =>
  cases ry
  cases x with
  |non=>cases rx;exact vn _
  |bl b=>cases rx;exact SeqAt.EqAt.none_bool b
  |int b=>obtain⟨t,rfl⟩:=rx;exact SeqAt.EqAt.none_int b t
  |str b=>obtain⟨t,rfl⟩:=rx;exact SeqAt.EqAt.none_str b t
  |_=>exact absurd (show false=true from fx) bt
 |bl a =>
  cases ry
  cases x with
  |non=>cases rx;exact SeqAt.EqAt.bool_none a
  |bl b=>cases rx;exact SeqAt.EqAt.bool_bool a b
  |int b=>obtain⟨t,rfl⟩:=rx;exact SeqAt.EqAt.bool_int a b t
  |str b=>obtain⟨t,rfl⟩:=rx;exact SeqAt.EqAt.bool_str a b t
  |_=>exact absurd (show false=true from fx) bt
 |int a =>
  obtain⟨t',rfl⟩:=ry
  cases x with
  |non=>cases rx;exact SeqAt.EqAt.int_none a t'
  |bl b=>cases rx;exact SeqAt.EqAt.int_bool a t' b
  |int b=>obtain⟨t,rfl⟩:=rx;exact SeqAt.EqAt.int_int a t' b t
  |str b=>obtain⟨t,rfl⟩:=rx;exact xx a t' b t
  |_=>exact absurd (show false=true from fx) bt
 |str a =>
  obtain⟨t',rfl⟩:=ry
  cases x with
  |non=>cases rx;exact SeqAt.EqAt.str_none a t'
  |bl b=>cases rx;exact SeqAt.EqAt.str_bool a t' b
  |int b=>obtain⟨t,rfl⟩:=rx;exact xy a t' b t
  |str b=>obtain⟨t,rfl⟩:=rx;exact SeqAt.EqAt.str_str a t' b t
  |_=>exact absurd (show false=true from fx) bt
 |_=>exact absurd (show false=true from fy) bt
def eqU(x:V)(u:Value):Bool:=match u with
 |.none=>eqV .non x
 |.bool b=>eqV (.bl b) x
 |.int i _=>eqV (.int i) x
 |.str z _=>eqV (.str z) x
 |_=>false
theorem aX3{x y:V}{u:Value}(r:bC y u)(f:lZ y=true):eqU x u=eqV y x:=by
 cases y with
 |non=>cases r;rfl
 |bl b=>cases r;rfl
 |int i=>obtain⟨t,rfl⟩:=r;rfl
 |str z=>obtain⟨t,rfl⟩:=r;rfl
 |_=>exact absurd (show false=true from f) bt
theorem nY{x:V}:∀{xs:List V}{us:List Value},bB xs us->xs.all lZ=true->us.any (eqU x)=xs.any fun y=>eqV y x
 |_,_,.nil,_=>rfl
 |y::xs,u::us,.cons r t,f=>by
  rw[List.all_cons,my] at f
  rw[nj,nj,aX3 r f.1,nY t f.2]
theorem kP{A:Around}{s:Shared}{x:V}{v:Value}(rx:bC x v)(fx:lZ x=true):∀{xs:List V}{us:List Value},bB xs us->xs.all lZ=true->∀u∈us,SeqAt.EqAt A s u v (eqU x u)
 |_,_,.nil,_=>fun u hu=>by cases hu
 |y::xs,u::us,.cons r t,f=>fun u' hu=>by
  rw[List.all_cons,my] at f
  rcases cj.mp hu with rfl|hu
  ·rw[aX3 r f.1];exact bV1 r rx f.1 fx
  ·exact kP rx fx t f.2 u' hu
def yL(x:V)(xs:List V):Bool:=xs.any fun y=>eqV y x
inductive rIn(K:PySem.W.Frag)(neg:Bool)(x:V)(y:V)(H:Hp)(Q:VK):Prop
 |mk:∀p xs,(y= .ref p)->((bG K H p xs\/aU K H p xs))->(lZ x=true)->(xs.all lZ=true)->(Q (.bl (if neg then !yL x xs else yL x xs)) H)->rIn K neg x y H Q
theorem eX:kH X (compareOp .In) (rIn X.K false):=by
 intro pins s σ H x y v u Q I rx ry h
 obtain⟨p,xs,rfl,hq,fx,fs,q⟩:=h
 cases ry
 rcases hq with hq|hq
 ·obtain⟨its,r,pl,hz⟩:=I.list hq
  refine SeqAt.in_listAt (eqU x) pl.isList (fun w hw=>kP rx fx r fs w (by simpa using hw)) ⟨.bl _,H,I,rfl,?_⟩
  rw[show its.toArray.any (eqU x)=its.any (eqU x) by simp,nY r fs]
  exact q
 ·obtain⟨its,r,pl,hz⟩:=I.tuple hq
  refine SeqAt.in_tupleAt (eqU x) pl (fun w hw=>kP rx fx r fs w (by simpa using hw)) ⟨.bl _,H,I,rfl,?_⟩
  rw[show its.toArray.any (eqU x)=its.any (eqU x) by simp,nY r fs]
  exact q
theorem uO:kH X (compareOp .NotIn) (rIn X.K true):=by
 intro pins s σ H x y v u Q I rx ry h
 obtain⟨p,xs,rfl,hq,fx,fs,q⟩:=h
 cases ry
 rcases hq with hq|hq
 ·obtain⟨its,r,pl,hz⟩:=I.list hq
  refine SeqAt.notIn_listAt (eqU x) pl.isList (fun w hw=>kP rx fx r fs w (by simpa using hw)) ⟨.bl _,H,I,rfl,?_⟩
  rw[show its.toArray.any (eqU x)=its.any (eqU x) by simp,nY r fs]
  exact q
 ·obtain⟨its,r,pl,hz⟩:=I.tuple hq
  refine SeqAt.notIn_tupleAt (eqU x) pl (fun w hw=>kP rx fx r fs w (by simpa using hw)) ⟨.bl _,H,I,rfl,?_⟩
  rw[show its.toArray.any (eqU x)=its.any (eqU x) by simp,nY r fs]
  exact q
theorem bM:fG X (.builtin "len") (fun xs H Q=>∃p ys,xs=[.ref p]/\(bG X.K H p ys\/aU X.K H p ys)/\Q (.int ys.length) H):=by
 intro pins s σ H xs us Q I r h
 obtain⟨p,ys,rfl,hq,q⟩:=h
 obtain⟨u,rfl,rx⟩:=nZ r
 cases rx
 have hn:=mL
 rcases hq with hq|hq
 ·obtain⟨its,r',pl,hz⟩:=I.list hq
  have hlen:=r'.length
  exact Calls.call_len_list pl.isList (by simp only[List.size_toArray]<;>lia) ⟨.int ys.length,H,I.tok _,⟨s.toks+1,by rw[br,hlen]⟩,q⟩
 ·obtain⟨its,r',pl,hz⟩:=I.tuple hq
  have hlen:=r'.length
  exact len_tuple pl (by simp only[List.size_toArray]<;>lia) ⟨.int ys.length,H,I.tok _,⟨s.toks+1,by rw[br,hlen]⟩,q⟩
theorem uV:fG X (.builtin "len") (fun xs H Q=>∃z,xs=[.str z]/\z.length<=sizeLine/\Q (.int z.length) H):=by
 intro pins s σ H xs us Q I r h
 obtain⟨z,rfl,hz,q⟩:=h
 obtain⟨u,rfl,t,rfl⟩:=nZ r
 have hn:=mL
 exact len_str (by lia) ⟨.int z.length,H,I.tok _,⟨_,rfl⟩,q⟩
theorem uP:fG X (.type "list") (fun xs H Q=>∃p ys,xs=[.ref p]/\(bG X.K H p ys\/aU X.K H p ys)/\∀l,H l=none->Q (.ref l) (aO H l (.lst ys))):=by
 intro pins s σ H xs us Q I r h
 obtain⟨p,ys,rfl,hq,q⟩:=h
 obtain⟨u,rfl,rx⟩:=nZ r
 cases rx
 have fin:∀(its:List Value),bB ys its->ys.length<=sizeLine->∀(h':Heap) (c':Nat),(∀b o',s.heap.get? b=some o'->h'.get? b=some o') ->
   h'.get? s.heap.objs.size=some { cls:= .type "list",dict:=none,data:= .seq its.toArray c',slots:= #[] }->EP X pins σ Q (.ref s.heap.objs.size) { s with heap:=h' }:=fun its r' hz h' c' kp e =>
  ⟨.ref s.heap.objs.size,_,I.laid (t':=s.toks) kp (ai _) (show bW X.prog X.w _ h' _ (.lst ys) from⟨hz,its,c',r',e⟩),rfl,q _ (I.hok.fresh (ai _))⟩
 rcases hq with hq|hq
 ·obtain⟨its,r',pl,hz⟩:=I.list hq
  have hlen:=r'.length
  obtain⟨o,ho,hc,n,hd⟩:=pl.isList
  exact call_list_seq p (.inl rfl) ho hc hd (fun h' c' kp e=>fin its r' hz h' c' kp e) (by simp only[List.size_toArray]<;>lia)
 ·obtain⟨its,r',pl,hz⟩:=I.tuple hq
  have hlen:=r'.length
  obtain⟨o,ho,hc,n,hd⟩:=pl
  exact call_list_seq p (.inr rfl) ho hc hd (fun h' c' kp e=>fin its r' hz h' c' kp e) (by simp only[List.size_toArray]<;>lia)
theorem bQ:fG X (.type "tuple") (fun xs H Q=>∃p ys,xs=[.ref p]/\((bG X.K H p ys/\∀l,H l=none->Q (.ref l) (aO H l (.tup ys)))\/(aU X.K H p ys/\Q (.ref p) H))):=by
 intro pins s σ H xs us Q I r h
 obtain⟨p,ys,rfl,h⟩:=h
 obtain⟨u,rfl,rx⟩:=nZ r
 cases rx
 rcases h with⟨hq,q⟩|⟨hq,q⟩
 ·obtain⟨its,r',pl,hz⟩:=I.list hq
  have hlen:=r'.length
  refine call_tuple_list pl.isList (fun h' kp=>?_) (by simp only[List.size_toArray]<;>lia)
  have I1:aQ X pins σ H { s with heap:=h' }:=I.kept (t':=s.toks) kp
  have I2:aQ X pins σ (aO H h'.objs.size (.tup ys)) { s with heap:=h'.push { cls:= .type "tuple",data:= .seq its.toArray } }:=
   I1.laid (t':=s.toks) (fun b o e=>ac _ e) (ai _) (show bW X.prog X.w _ _ _ (.tup ys) from⟨hz,its,r',lE.new _ _⟩)
  exact⟨.ref h'.objs.size,_,I2,rfl,q _ (I1.hok.fresh (ai _))⟩
 ·obtain⟨its,r',pl,hz⟩:=I.tuple hq
  exact call_tuple_same pl ⟨.ref p,H,I,rfl,q⟩
def tyV(K:PySem.W.Frag)(T:String)(x:V)(H:Hp):Prop:=match x with
 |.str _=>T="str"
 |.int _=>T="int"
 |.ref p=>(T="list"/\∃xs,bG K H p xs)\/(T="tuple"/\∃o,K.lookup p=some o/\o.cls= .type "tuple"/\o.dict=none) \/
   (T="dict"/\((∃kvs,H p=some (.dK kvs))\/∃kvs,H p=some (.dT kvs)))\/(T="set"/\∃S n,H p=some (.set S n))
 |_=>False
theorem aT2{pins:List (Addr×Obj)}{σ:St}{H:Hp}{s:Shared}{T:String}{x:V}{v:Value}(I:aQ X pins σ H s)(r:bC x v)(ty:tyV X.K T x H) :
  s.TypeIs v T/\∀a,v= .ref a->∃ob,s.heap.get? a=some ob/\ob.dict=none:=by
 cases x with
 |str z =>
  obtain⟨t,rfl⟩:=r
  cases(show T="str" from ty)
  exact⟨zy s z t,fun _ e=>nomatch e⟩
 |int i =>
  obtain⟨t,rfl⟩:=r
  cases(show T="int" from ty)
  exact⟨typeIs_int s i t,fun _ e=>nomatch e⟩
 |ref p =>
  cases r
  rcases ty with⟨rfl,xs,hq⟩|⟨rfl,o,hk,hc,hd⟩|⟨rfl,hk⟩|⟨rfl,S,n,hk⟩
  ·obtain⟨its,_,pl,_⟩:=I.list hq
   refine⟨pl.isList.typeIs,fun a e=>?_⟩
   cases e
   obtain⟨o,n,e,c,hd,_⟩:=pl
   exact⟨o,e,hd⟩
  ·refine⟨⟨o,I.kIn p o hk,hc⟩,fun a e=>?_⟩
   cases e
   exact⟨o,I.kIn _ o hk,hd⟩
  ·have z:∃o,s.heap.get? p=some o/\o.ExactDict:=by
    rcases hk with⟨kvs,hk⟩|⟨kvs,hk⟩
    ·obtain⟨_,_,_,_,o,_,_,e,ex,_⟩:=I.hok p _ hk
     exact⟨o,e,ex⟩
    ·obtain⟨_,_,_,_,o,_,_,e,ex,_⟩:=I.hok p _ hk
     exact⟨o,e,ex⟩
   obtain⟨o,e,ex⟩:=z
   refine⟨⟨o,e,ex.1⟩,fun a e2=>?_⟩
   cases e2
   exact⟨o,e,ex.2.1⟩
  ·obtain⟨o,_,_,_,e,ex,_⟩:=I.hok p _ hk
   refine⟨⟨o,e,ex.1⟩,fun a e2=>?_⟩
   cases e2
   exact⟨o,e,ex.2.1⟩
 |_=>exact False.elim ty
def cL4(K:PySem.W.Frag)(T:String)(r:V->List V->Hp->VK->Prop)(to:TE):TE:=fun σ H Q=>to σ H fun x H1=>tyV K T x H1/\r x [] H1 Q
def tBM(K:PySem.W.Frag)(T:String)(r:V->List V->Hp->VK->Prop)(to:TE)(t:TA):TE:=fun σ H Q=>to σ H fun x H1=>tyV K T x H1/\t σ H1 fun xs H2=>r x xs H2 Q
variable {o e:Expr}{es:List Expr}{to:TE}{t:TA}{name:Str}{apos cpos:Pos}{T id:String}{r:V->List V->Hp->VK->Prop}
theorem qY(pa:PlainAttrs T)(slot:Slot T name id)(hty:typeOf (.builtin id)=pure (.type "method_descriptor"))(hm:MtR X id r)(ho:PE X o to)
  (hbase:autoParam (attributeBase o name X.env (eval o X.env)=eval o X.env) Rq0._auto_1) (hline:autoParam ((apos.endLine==cpos.line)=true) Rq0._auto_1):PE X (.Call (.Attribute o name apos) [] [] cpos) (cL4 X.K T r to):=by
 intro pins s σ H Q I h
 refine wpAny_Call_method0_late hbase hline (cL (ho pins s σ H _ I h) ?_);rintro v s1 ⟨x,H1,I1,r1,ty,q1⟩
 obtain⟨h1,h2⟩:=aT2 I1 r1 ty
 exact⟨T,id,pa,slot,hty,h1,h2,lq rfl (PySem.evalArgs_none (hm pins s1 σ H1 x [] v [] Q I1 r1 .nil q1))⟩
theorem eJ(pa:PlainAttrs T)(slot:Slot T name id)(hty:typeOf (.builtin id)=pure (.type "method_descriptor"))(hm:MtR X id r)(ho:PE X o to)(ha:PA X (e::es) t)
  (hbase:autoParam (attributeBase o name X.env (eval o X.env)=eval o X.env) Rq0._auto_1)
  (hfew:autoParam (((backTo cpos (starEach (e::es) X.env)).all (fun x=> !x.1)&&(backToKw cpos (keywordEach [] X.env)).all (fun x=>x.1.isSome)
   && decide ((e::es).length+([]:List Keyword).length+(if ([]:List Keyword).isEmpty then 0 else 1)<30))=true) Rq0._auto_1)
  (hline:autoParam ((apos.endLine==cpos.line)=true) Rq0._auto_1) (hs:autoParam (starEach (e::es) X.env=(false,eval e X.env)::starEach es X.env) Rq0._auto_1) (hplain:autoParam ((backTo cpos (starEach es X.env)).any (·.1)=false) Rq0._auto_1) :
  PE X (.Call (.Attribute o name apos) (e::es) [] cpos) (tBM X.K T r to t):=by
 intro pins s σ H Q I h
 refine wpAny_Call_method_late hbase hfew hline rfl (cL (ho pins s σ H _ I h) ?_);rintro v s1 ⟨x,H1,I1,r1,ty,q1⟩
 obtain⟨h1,h2⟩:=aT2 I1 r1 ty
 refine⟨T,id,pa,slot,hty,h1,h2,?_⟩
 have hA:=ha cpos pins s1 σ H1 _ I1 q1
 rw[hs] at hA ⊢
 refine lq (by show(false || (backTo cpos (starEach es X.env)).any (·.1))=false;rw[hplain]<;>rfl) (qz ?_)
 refine cL hA ?_;rintro us s2 ⟨vs,H2,I2,r2,q2⟩;exact hm pins s2 σ H2 x vs v us Q I2 r1 r2 q2
end
def MtM(X:Cx)(id:String)(r:V->List V->Hp->VK->Prop):Prop:=
 ∀(pins:List (Addr×Obj)) (s:Shared) (σ:St) (H:Hp) (x:V) (xs:List V) (v:Value) (us:List Value) (Q:VK),aQ X pins σ H s->bC x v->bB xs us->r x xs H Q ->
  wpAny (model X.prog X.w) X.A (call (.builtin id) (v::us)) (EP X pins σ Q) X.xe s
theorem bB.one:∀{x:V}{us:List Value},bB [x] us->∃u,us=[u]/\bC x u
 |_,_,.cons r .nil=>⟨_,rfl,r⟩
theorem bB.zero:∀{us:List Value},bB [] us->us=[]
 |_,.nil=>rfl
theorem bB.dropLast{xs:List V}{us:List Value}(h:bB xs us):bB xs.dropLast us.dropLast:=by
 induction h with
 |nil=>exact .nil
 |cons r t ih =>
  cases t with
  |nil=>exact .nil
  |cons q t'=>exact .cons r ih
theorem bB.reverse{xs:List V}{us:List Value}(h:bB xs us):bB xs.reverse us.reverse:=by
 induction h with
 |nil=>exact .nil
 |cons r t ih=>rw[gj,gj];exact bB.append ih (.cons r .nil)
theorem zV{α:Type}(l:List α):l.eraseIdx (l.length-1)=l.dropLast:=by
 induction l with
 |nil=>rfl
 |cons a r ih =>
  cases r with
  |nil=>rfl
  |cons b r =>
   have e:(a::b::r).length-1=((b::r).length-1)+1:=by
    rfl
   rw[e,List.eraseIdx_cons_succ,ih]
   all_goals rfl
section
variable {X:Cx}{pins:List (Addr×Obj)}{σ:St}{H:Hp}{s:Shared}{l b:Addr}{xs ys zs:List V}
theorem aQ.lset{its its':List Value}{n:Nat}{f:Array Value->Array Value}{t':Nat}(I:aQ X pins σ H s)(hH:H l=some (.lst xs))
  (e:s.heap.get? l=some { cls:= .type "list",data:= .seq its.toArray n }) (hf:f its.toArray=its'.toArray) (hv:bB ys its') (hz:ys.length<=sizeLine) :
  aQ X pins σ (aO H l (.lst ys)) { s with heap:=s.heap.update l (Obj.mapSeq f),toks:=t' }:=by
 have q:=PySem.IsL.update e f
 rw[hf] at q
 refine I.write (x:=l) (e:=l) (by rw[hH];exact trivial) (.inl rfl) (fun b' u hb hu=>(iq s.heap (Obj.mapSeq f) (Ne.symm hb)).trans hu) ⟨_,q⟩ ?_
 exact⟨hz,its',_,hv,q⟩
theorem aQ.lnew{its:List Value}{t':Nat}(I:aQ X pins σ H s)(hv:bB ys its)(hz:ys.length<=sizeLine) :
  aQ X pins σ (aO H s.heap.objs.size (.lst ys)) { s with heap:=s.heap.push { cls:= .type "list",data:= .seq its.toArray },toks:=t' }:=
 I.laid (fun _ _ q=>ac _ q) (ai _) ⟨hz,its,0,hv,bc _ rfl⟩
theorem aQ.fresh(I:aQ X pins σ H s):H s.heap.objs.size=none:=I.hok.fresh (ai _)
theorem aQ.lstM(I:aQ X pins σ H s)(hH:H l=some (.lst xs)):xs.length<=sizeLine/\∃(its:List Value) (n:Nat),bB xs its/\xs.length=its.length/\s.heap.get? l=some { cls:= .type "list",data:= .seq its.toArray n }:=by
 obtain⟨z,its,n,r,e⟩:=I.hok l _ hH
 exact⟨z,its,n,r,r.length,e⟩
theorem aT4{n:Nat}(h:n<=sizeLine):Builtin.List.listTooLong n=false:=by
 unfold Builtin.List.listTooLong
 exact dh (by lia)
end
section
variable {X:Cx}
inductive rAppend(x:V)(vs:List V)(H:Hp)(Q:VK):Prop
 |mk:∀l xs y,(x= .ref l)->(vs=[y])->(H l=some (.lst xs))->(xs.length<sizeLine)->(Q .non (aO H l (.lst (xs++[y]))))->rAppend x vs H Q
theorem dD:MtM X "list.append" rAppend:=by
 intro pins s σ H x vs v us Q I rx rv h
 obtain⟨l,xs,y,rfl,rfl,hH,hz,q⟩:=h
 cases rx
 obtain⟨u,rfl,ru⟩:=rv.one
 obtain⟨z,its,n,r,hl,e⟩:=I.lstM hH
 refine call_meets F.slot_list_append ⟨_,e,rfl⟩ F.entry_list_append (F.args_list_append_2 _ _) (PySem.list_append l its.toArray n u (by rw[br];lia)) ⟨e,?_⟩
 refine⟨.non,_,I.lset (its':=its++[u]) hH e (by simp) (r.append (.cons ru .nil)) ?_,rfl,q⟩
 rw[aj,fh]
 lia
inductive rExtend(x:V)(vs:List V)(H:Hp)(Q:VK):Prop
 |mk:∀l b xs zs,(x= .ref l)->(vs=[.ref b])->(H l=some (.lst xs))->(H b=some (.lst zs))->(xs.length+zs.length<=sizeLine)->(Q .non (aO H l (.lst (xs++zs))))->rExtend x vs H Q
theorem dJ:MtM X "list.extend" rExtend:=by
 intro pins s σ H x vs v us Q I rx rv h
 obtain⟨l,b,xs,zs,rfl,rfl,hH,hB,hz,q⟩:=h
 cases rx
 obtain⟨u,rfl,ru⟩:=rv.one
 cases ru
 obtain⟨z,its,n,r,hl,e⟩:=I.lstM hH
 obtain⟨z2,its2,n2,r2,hl2,e2⟩:=I.lstM hB
 have hsz:its.toArray.size+its2.toArray.size<=sizeLine:=by rw[br,br];lia
 have hlong:¬(!its.toArray.isEmpty&&Builtin.List.listTooLong (its.toArray.size+its2.toArray.size))=true:=by
  rw[aT4 hsz,Bool.and_false]
  exact bt
 refine call_meets F.slot_list_extend ⟨_,e,rfl⟩ F.entry_list_extend (F.args_list_extend_2 _ _)
  (AutoSeq1.list_extend_list_list_0 l its.toArray n b its2.toArray n2 hlong (by rw[br];lia) (by lia)) ⟨e,e2,?_⟩
 refine⟨.non,_,I.lset (its':=its++its2) hH e (by simp) (r.append r2) ?_,rfl,q⟩
 rw[aj]
 lia
inductive rPop(x:V)(vs:List V)(H:Hp)(Q:VK):Prop
 |mk:∀l xs y,(x= .ref l)->(vs=[])->(H l=some (.lst xs))->(xs[xs.length-1]?=some y)->(Q y (aO H l (.lst xs.dropLast)))->rPop x vs H Q
theorem sJ:MtM X "list.pop" rPop:=by
 intro pins s σ H x vs v us Q I rx rv h
 obtain⟨l,xs,y,rfl,rfl,hH,hy,q⟩:=h
 cases rx
 have hus:=rv.zero
 subst hus
 obtain⟨z,its,n,r,hl,e⟩:=I.lstM hH
 obtain⟨u,hu,ru⟩:=r.get hy
 have hy':its.toArray[its.toArray.size-1]?=some u:=by
  show its.toArray[its.length-1]?=some u
  rw[<-mh, <-hl]
  exact hu
 refine call_meets F.slot_list_pop ⟨_,e,rfl⟩ F.entry_list_pop (F.args_list_pop_1 _) (MeetsSeq.list_pop_last l its.toArray n u hy' (by rw[br];lia)) ⟨e,?_⟩
 refine⟨y,_,I.lset (its':=its.dropLast) hH e ?_ r.dropLast ?_,ru,q⟩
 ·show its.toArray.eraseIdxIfInBounds (its.toArray.size-1)=its.dropLast.toArray
  rw[br,List.eraseIdxIfInBounds_toArray,zV]
 ·rw[xa]
  lia
inductive rCat(x:V)(y:V)(H:Hp)(Q:VK):Prop
 |mk:∀l b xs zs,(x= .ref l)->(y= .ref b)->(H l=some (.lst xs))->(H b=some (.lst zs))->(xs.length+zs.length<=sizeLine)->(∀p,H p=none->Q (.ref p) (aO H p (.lst (xs++zs))))->rCat x y H Q
theorem jZ:kH X (binaryOp .Add) rCat:=by
 intro pins s σ H x y v u Q I rx ry h
 obtain⟨l,b,xs,zs,rfl,rfl,hH,hB,hz,q⟩:=h
 cases rx
 cases ry
 obtain⟨z,its,n,r,hl,e⟩:=I.lstM hH
 obtain⟨z2,its2,n2,r2,hl2,e2⟩:=I.lstM hB
 refine PySem.P.add_list e e2 ?_ (by rw[br,br];lia)
 have ea:its.toArray++its2.toArray=(its++its2).toArray:=by simp
 rw[ea]
 exact⟨.ref _,_,I.lnew (t':=s.toks) (r.append r2) (by rw[aj];lia),rfl,q _ I.fresh⟩
end
section
variable {prog:Program}{w:World}{A:Around}{E:Value->Shared->Prop}{s:Shared}
end
section
variable {X:Cx}
end
end L2
namespace Att
open PySem PySem.W PySem.Calls PyProof.Rows
theorem pT{P:Params}{h:Heap}:∀(ns:List Int) (vs:List Value),WellAll P h vs (ns.map WData.int)->IntsAre vs ns:=by
 intro ns
 induction ns with
 |nil =>
  intro vs w
  rw[List.map_nil] at w
  cases w
  exact .nil
 |cons n ns ih =>
  intro vs w
  rw[List.map_cons] at w
  cases w with
  |cons a b =>
   cases a
   exact .cons _ _ (ih _ b)
theorem aM4{l:OpenLaw}{n:Nat}(hn:l.most=some n){P:Params}{h:Heap}{args:List WData}{vals:List Value}
  (hpre:l.row.toRowW.claim.pre args=true) (hwl:WellAll P h vals args) :
  ∃a vs ns,vals=[Value.ref a]/\args=[WData.list (ns.map WData.int)]/\h.get? a=some { cls:= .type "list",data:= .seq vs.toArray }/\IntsAre vs ns/\ns.length<=n:=by
 have hsh:WShape.hasAll [] args [.list .int]=true:=(pre_splitW hpre).1
 have hc:l.pre.holds [] { args:=args }=true:=(pre_splitW hpre).2
 obtain⟨d,r,rfl,h1,h2⟩:=hasAllW_cons hsh
 obtain rfl:=hasAllW_nil h2
 obtain⟨xs,rfl,h3⟩:=hasW_list h1
 obtain⟨ns,rfl⟩:=items_int h3
 have hlen:ns.length<=n:=by
  unfold OpenLaw.pre at hc
  have h4:(WTm.not (.lt (.lit (.int (n:Int))) (.len (.arg 0)))).holds [] { args:=[.list (ns.map .int)] }=true:=by
   have h4:=(holds_andW hc).1
   rw[hn] at h4
   exact h4
  have h5:=condW_of h4 (w_not (w_lt w_lit (w_len_list (w_arg rfl))))
  rw[List.length_map] at h5
  refine Nat.le_of_not_lt fun q=>?_
  have q':(n:Int)<((ns.length:Nat):Int):=by lia
  first
   |(rw[decide_eq_true q'] at h5;exact absurd h5 (by decide))
   |(simp at h5;lia)
 cases hwl with
 |cons w1 w2 =>
  cases w2
  cases w1 with
  |list ho hall=>exact⟨_,_,ns,rfl,rfl,ho,pT ns _ hall,hlen⟩
theorem aK2(l:OpenLaw)(args:List WData):l.row.toRowW.claim.post args (.bool true) args=true:=
 postW_of (r:=l.row.toRowW) (X:=(true==true))
  (show WShape.has [] (.bool true) .bool=true by first|rfl|decide|simp[WShape.has,WShape.arms,WShape.armsAll])
  (show(WTm.eq .res (.lit (.bool true))).value [] { args:=args,res:=some (.bool true),after:=args }=some (.bool (true==true)) from w_eq_bool (w_res rfl) w_lit) rfl
theorem attach_call{l:OpenLaw}{n:Nat}{q:Program}{loose:List Str}{XP:(Str->Option Value)->Heap->Prop}{YP:World->Heap->Prop}{d:DefRec}
  (hn:l.most=some n) (hdf:d.params.defaults=[])
  (call:∀(w:World) (s₀ s₁:Shared) (mg mb:Str->Option Value) (fa:Addr) (o:Obj) (pm cd doc:Value) (a:Addr) (vs:List Value) (ns:List Int),
   Ground q loose [] XP w s₀ mg mb s₁.heap->YP w s₁.heap ->
   s₁.heap.get? fa=some o->o.data= .func (docDef d.name d.params d.body d.scope pm cd doc)->s₁.heap.CodeRec cd d.name->mg d.name=some (.ref fa) ->
   s₁.heap.get? a=some { cls:= .type "list",data:= .seq vs.toArray }->IntsAre vs ns->ns.length<=n->s₁.gens= #[] ->
   codeAny (model l.prog w) callerA (.call (.ref fa) ⟨[.ref a],[]⟩) (fun r s'=>r= .ok (.ret (.bool true))/\OldK s₁.heap s'.heap/\s'.os=s₁.os/\AllBare s'.gens) s₁) :
  WalkO q loose XP YP l.row.toRowW d [] (fun f vs=>PySem.call f vs):=by
 intro w s₀ s₁ mg mb G Y fa o pm cd doc dV kV ho hd hcd hD hmg hg args vals as hpre hlay hrd hwl hlo
 obtain rfl:dV= .none:=Dflts.none hD hdf
 obtain rfl:kV= .none:=Dflts.noKw hD
 obtain⟨a,vs,ns,rfl,rfl,hobj,hints,hlen⟩:=aM4 hn hpre hwl
 refine enter_call (codeAny_mono (call w s₀ s₁ mg mb fa o pm cd doc a vs ns G Y ho (fd_plain hd) hcd hmg hobj hints hlen hg) fun r s' hq=>?_)
 obtain⟨rfl,h2,h3,h4⟩:=hq
 exact⟨.inl ⟨.bool true,.bool true,[],rfl,fun _=>rfl,.bool true,aK2 l _,fun _=>⟨List.Pairwise.nil,fun _ hm=>(nomatch hm)⟩⟩,h2,h3,h4⟩
section
variable {prog:Program}{w:World}{A:Around}{E:Value->Shared->Prop}{s:Shared}{K:Frag}
def cK2(h:Heap)(L d:Addr):List (Addr×Obj):=(List.range h.objs.size).filterMap fun a=>if a=L\/a=d then none else (h.get? a).map fun o=>(a,o)
end
end Att
namespace L2
open PySem PySem.Spec PyProof.Rows
theorem tJ:∀{vs:List Value}{ns:List Int},IntsAre vs ns->bB (ns.map V.int) vs
 |_,_,.nil=> .nil
 |_,_,.cons n t h=> .cons ⟨t,rfl⟩ (tJ h)
def bO(s:Stmt):Arguments:=match s with
 |.FunctionDef _ a _ _ _ _ _ _ _ _=>a
 |_=>{ posonlyargs:=[],args:=[],vararg:=none,kwonlyargs:=[],kw_defaults:=[],kwarg:=none,defaults:=[] }
def bF(s:Stmt):List Stmt:=match s with
 |.FunctionDef _ _ b _ _ _ _ _ _ _=>b
 |_=>[]
def aK(s:Stmt):Scope:=match s with
 |.FunctionDef _ _ _ _ _ _ sc _ _ _=>sc
 |_=>{ kind:= .function,names:=[],isGenerator:=false,isCoroutine:=false }
abbrev qL:CXT:=fun _ _ _ _ _ _=>False
abbrev E0:XK:=fun _ _ _=>False
theorem cE3{X:Cx}:sP qL X E0:=fun _ _ _ _ _ _ _ h=>h.elim
structure oI(K:PySem.W.Frag)(x qual:Str)(st:Stmt)(f:Addr)(fd:FuncData):Prop where
 ex:∃(oc:Value) (od:Option Addr) (kV doc pm:Value) (an:Option Addr) (cdv ct:Value) (osl:Array (Option Value)),
  fd=PySem.W.fnOf x qual (bO st) (bF st) (aK st) .none kV doc pm an cdv ct/\K.lookup f=some ⟨oc,od,.func fd,osl⟩/\PySem.W.codeIn K cdv qual=true
 kp:PySem.W.keepIn K (.ref f)=true
section
variable {P:Program}{w:World}{K:PySem.W.Frag}{mg:Str->Option Value}{base:Heap}
theorem oI.ok{x qual:Str}{st:Stmt}{f:Addr}{fd:FuncData}{N ps:List Str}{k:Nat}{sp:Sp}(F:oI K x qual st f fd)(S:eM N ps (aK st))(len:∀vs H Q E,sp vs H Q E->vs.length=ps.length)
  (hbody:∀(cdv:Value) (A:Around) (outer:List Env) (s:Shared) (H:Hp) (vs:List V) (Q:VK) (E:XK),cY k (A.deeper (envOfC qual (aK st) s.heap.objs.size f cdv))->sp vs H Q E ->
   ∃t,pS (kG qL P w K mg base N qual (aK st) f cdv A outer s H E).nox (bF st) t/\t { nx:=fun _ H'=>Q .non H',rt:=Q } (eT N vs) H):mI P w K mg base qL (k+1) f fd ps sp:=by
 obtain⟨oc,od,kV,doc,pm,an,cdv,ct,osl,rfl,lk,hcd⟩:=F.ex
 refine bN2 lk hcd S len fun A outer s H vs Q E hr hsp=>?_
 obtain⟨t,h,q⟩:=hbody cdv A outer s H vs Q E hr hsp
 exact⟨t,h.nox,q⟩
theorem oI.binds{x qual:Str}{st:Stmt}{f:Addr}{fd:FuncData}{ps:List Str}(F:oI K x qual st f fd)
  (h:∀(kV doc pm:Value) (an:Option Addr) (cdv ct:Value) (us:List Value),us.length=ps.length->bindArgs (PySem.W.fnOf x qual (bO st) (bF st) (aK st) .none kV doc pm an cdv ct) ⟨us,[]⟩=pure (ps.zip us)):gJ K fd ps []:=by
 obtain⟨oc,od,kV,doc,pm,an,cdv,ct,osl,rfl,lk,hcd⟩:=F.ex
 exact .all (h kV doc pm an cdv ct)
theorem zF{x qual:Str}{st:Stmt}{f:Addr}{oc:Value}{od an:Option Addr}{osl:Array (Option Value)}{kV doc pm cdv ct:Value}(l:K.lookup f=some ⟨oc,od,.func (PySem.W.fnOf x qual (bO st) (bF st) (aK st) .none kV doc pm an cdv ct),osl⟩)
  (c:PySem.W.codeIn K cdv qual=true) (k:PySem.W.keepIn K (.ref f)=true):oI K x qual st f (PySem.W.fnOf x qual (bO st) (bF st) (aK st) .none kV doc pm an cdv ct):=⟨⟨oc,od,kV,doc,pm,an,cdv,ct,osl,rfl,l,c⟩,k⟩
end
theorem kK{A:Around}{k:Nat}(hr:cY k A):A.units+1<cLine:=cq (Nat.add_le_add_left (by decide:1<=64) _) hr.units
theorem aN{n:Nat}(h:n<=1000):n<sizeLine:=cq h (by decide)
section
variable {X:Cx}
theorem pv(i:Nat){x:Str}{pos:Pos}(hN:autoParam (X.N[i]?=some x) Rq0._auto_1)(hv:autoParam (Vis X.env.scope x) Rq7._auto_1)(hd:autoParam ((x==("__debug__": Str))=false) Rq1._auto_1)
  (hcd:autoParam ((x==("__classdict__": Str))=false) Rq1._auto_1):PE X (.Name x pos) (iS i):=aZ1 hN hv hd hcd
end
theorem cA6{A B:Prop}(h:B):if false=true then A else B:=by
 rw[ay bt]
 exact h
theorem pH{c A B:Prop}[Decidable c](h1:c->A)(h2:¬c->B):if c then A else B:=by
 by_cases h:c
 ·rw[bv h]
  exact h1 h
 ·rw[ay h]
  exact h2 h
theorem cC6{c A B:Prop}[Decidable c](hc:c)(h:B):if (!decide c)=true then A else B:=by
 rw[ag hc]
 exact cA6 h
def aR(H H':Hp):Prop:=∀b o,H b=some o->H' b=some o
theorem aR.refl(H:Hp):aR H H:=fun _ _ h=>h
theorem aR.trans{H H1 H2:Hp}(a:aR H H1)(b:aR H1 H2):aR H H2:=fun c o h=>b c o (a c o h)
theorem aR.free{H H':Hp}(e:aR H H'){l:Addr}(h:H' l=Option.none):H l=Option.none:=by
 cases q:H l with
 |none=>rfl
 |some o =>
  rw[e l o q] at h
  cases h
theorem aR.seq{K:PySem.W.Frag}{H H':Hp}{a:Addr}{xs:List V}(e:aR H H')(h:bG K H a xs):bG K H' a xs:=by
 rcases h with(h|⟨o,h⟩)|h
 ·exact .inl (.inl (e _ _ h))
 ·exact .inl (.inr ⟨o,e _ _ h⟩)
 ·exact .inr h
section
variable {κ:Type} [DecidableEq κ]
end
end L2
set_option maxHeartbeats 4000000
namespace L2
open PySem PySem.Spec PyProof.Rows
def kI(env:Env)(names:List (Str×NameKind)):List (Str×Addr):=
 names.foldl (fun cs y=>if y.2==NameKind.free then (y.1,(env.cells.lookup y.1).getD 0)::cs else cs) []
theorem aO6{env:Env}:∀(names:List (Str×NameKind)) (cs:List (Str×Addr)),(∀y∈names,y.2= .free->∃c,env.cells.lookup y.1=some c) ->
  (forIn names cs fun(y:Str×NameKind) (r:List (Str×Addr))=>(if y.2==NameKind.free then (do let a <-cellOf env y.1;pure (ForInStep.yield ((y.1,a)::r))) else pure (ForInStep.yield r):Sem (ForInStep (List (Str×Addr))))) =
   pure (names.foldl (fun cs y=>if y.2==NameKind.free then (y.1,(env.cells.lookup y.1).getD 0)::cs else cs) cs)
 |[],cs,_=>rfl
 |(n,k)::r,cs,h=>by
  have ih:=fun cs'=>aO6 (env:=env) r cs' fun y hy=>h y (av _ hy)
  rw[vo,ja]
  by_cases hk:k= .free
  ·subst hk
   obtain⟨c,hc⟩:=h (n,.free) az rfl
   have e:cellOf env n=pure c:=by unfold cellOf;rw[hc]
   simp only[beq_self_eq_true,if_true,e,pure_bind,hc,Option.getD_some]
   exact ih _
  ·have hb:(k==NameKind.free)=false:=by simpa using hk
   simp only[hb,Bool.false_eq_true,if_false,pure_bind]
   exact ih _
theorem mO{scope:Scope}{env:Env}(h:∀y∈scope.names,y.2= .free->∃c,env.cells.lookup y.1=some c):closureFor scope env=pure (kI env scope.names):=by
 unfold closureFor
 have e:=aO6 (env:=env) scope.names [] h
 simp only[] at e ⊢
 refine Eq.trans ?_ (fm (fun m:Sem (List (Str×Addr))=>m>>=fun cs=>pure cs) e)
 rfl
theorem aB7{env:Env}{x:Str}{c:Addr}:∀(names:List (Str×NameKind)) (cs:List (Str×Addr)),(∀y∈names,y.2= .free->∃c,env.cells.lookup y.1=some c) ->
  (names.foldl (fun cs y=>if y.2==NameKind.free then (y.1,(env.cells.lookup y.1).getD 0)::cs else cs) cs).lookup x=some c->cs.lookup x=some c\/env.cells.lookup x=some c
 |[],_,_,e=> .inl e
 |(n,k)::r,cs,h,e=>by
  rw[ja] at e
  have ih:=aB7 r _ (fun y hy=>h y (av _ hy)) e
  rcases ih with q|q
  ·by_cases hk:k= .free
   ·subst hk
    obtain⟨c',hc⟩:=h (n,.free) az rfl
    simp only[beq_self_eq_true,if_true,hc,Option.getD_some,List.lookup_cons] at q
    cases hx:x==n with
    |true =>
     rw[hx] at q
     have:x=n:=by simpa using hx
     subst this
     simp only[Option.some.injEq] at q
     subst q
     exact .inr hc
    |false =>
     rw[hx] at q
     exact .inl q
   ·have hb:(k==NameKind.free)=false:=by simpa using hk
    simp only[hb,Bool.false_eq_true,if_false] at q
    exact .inl q
  ·exact .inr q
theorem qR{env:Env}{x:Str}:∀(names:List (Str×NameKind)) (cs:List (Str×Addr)),((x,NameKind.free)∈names\/∃c,cs.lookup x=some c) ->
  ∃c,(names.foldl (fun cs y=>if y.2==NameKind.free then (y.1,(env.cells.lookup y.1).getD 0)::cs else cs) cs).lookup x=some c
 |[],_,e=>by rcases e with e|e;exact absurd e (by simp);exact e
 |(n,k)::r,cs,e=>by
  rw[ja]
  refine qR r _ ?_
  rcases e with e|⟨c,e⟩
  ·rcases cj.mp e with z|z
   ·cases z
    right
    simp only[beq_self_eq_true,if_true,List.lookup_cons]
    exact⟨_,rfl⟩
   ·exact .inl z
  ·right
   by_cases hk:k= .free
   ·subst hk
    simp only[beq_self_eq_true,if_true,List.lookup_cons]
    cases hx:x==n with
    |true=>exact⟨_,rfl⟩
    |false=>exact⟨c,e⟩
   ·have hb:(k==NameKind.free)=false:=by simpa using hk
    simp only[hb,Bool.false_eq_true,if_false]
    exact⟨c,e⟩
theorem mZ{env:Env}{x:Str}:∀{names:List (Str×NameKind)},(∀y∈names,y.2≠ .cell) ->
  ((names.map fun(n,k)=>if (k==NameKind.free&&env.scope.kind == .function&&env.kindOf n==some .cell) then (n,NameKind.cell) else (n,k)).lookup x=some .cell \/
   (names.map fun(n,k)=>if (k==NameKind.free&&env.scope.kind == .function&&env.kindOf n==some .cell) then (n,NameKind.cell) else (n,k)).lookup x=some .free)->(x,NameKind.free)∈names
 |[],_,h=>by simp at h
 |(n,k)::r,hc,h=>by
  have ih:= @mZ env x r fun y hy=>hc y (av _ hy)
  have hk:=hc (n,k) az
  simp only[List.map_cons] at h
  by_cases cc:(k==NameKind.free&&env.scope.kind == .function&&env.kindOf n==some .cell)=true
  ·rw[bv cc] at h
   have kf:k= .free:=by
    simp only[Bool.and_eq_true,beq_iff_eq] at cc
    exact cc.1.1
   subst kf
   simp only[List.lookup_cons] at h
   cases hx:x==n with
   |true =>
    have:x=n:=by simpa using hx
    subst this
    exact az
   |false=>rw[hx] at h;exact av _ (ih h)
  ·rw[ay cc] at h
   simp only[List.lookup_cons] at h
   cases hx:x==n with
   |true =>
    rw[hx] at h
    have:x=n:=by simpa using hx
    subst this
    rcases h with h|h
    ·simp only[Option.some.injEq] at h
     exact absurd h hk
    ·simp only[Option.some.injEq] at h
     subst h
     exact az
   |false=>rw[hx] at h;exact av _ (ih h)
abbrev aO0(ifs:List Expr)(env:Env):Sem Bool:=forIn ifs true fun c r =>
 if r=true then do
  let ok <-isTrue c env (eval c env)
  pure (ForInStep.yield ok)
 else pure (ForInStep.yield r)
def aQ1(X:Cx)(ifs:List Expr)(t:TT):Prop:=
 ∀(pins:List (Addr×Obj)) (s:Shared) (σ:St) (H:Hp) (Q:Bool->Hp->Prop),aQ X pins σ H s->t σ H Q ->
  wpAny (model X.prog X.w) X.A (aO0 ifs X.env) (TP X pins σ Q) X.xe s
def tYes:TT:=fun _ H Q=>Q true H
theorem eS{X:Cx}:aQ1 X [] tYes:=fun _ _ _ H _ I h=>wpAny_tests_nil ⟨H,I,h⟩
theorem vJ{X:Cx}{c:Expr}{t:TT}(h:PT X c t):aQ1 X [c] t:=fun pins s σ H Q I q=>wpAny_tests_one (h pins s σ H Q I q)
abbrev zM:Value->Shared->Prop:=fun _ _=>False
theorem aL7{prog:Program}{w:World}{A:Around}{R:Result->Shared->Prop}{s0:Shared}{elt target iter:Expr}{ifs:List Expr}{scope:Scope}{pos:Pos}{it acc:Value}{env:Env}(W:Nat->Shared->Prop)
  (one:∀k t,W k t->wpAny (model prog w) A (pyNext it) (fun r t1=>match r with
   |none=>R (.ok .next) t1
   |some v=>wpAny (model prog w) A (letOwnedTupleGo target it v) (fun _ t2=>wpAny (model prog w) A (assign target env v) (fun _ t3=>wpAny (model prog w) A (aO0 ifs env) (fun ok t4 =>
     if ok=true then wpAny (model prog w) A (eval elt env) (fun x t5=>wpAny (model prog w) A (call (.builtin "list.append") [acc,x]) (fun _ t6=>∃j,j<k/\W j t6) zM t5) zM t4
     else ∃j,j<k/\W j t4) zM t3) zM t2) zM t1) zM t)
  (k0:Nat) (h0:W k0 s0):codeAny (model prog w) A (.compLoop (.ListComp elt [⟨target,iter,ifs,0⟩] scope pos) 0 it acc env) R s0:=by
 refine codeAny_loop rfl W (fun k t hW=>?_) k0 h0
 refine wpAny_noted (m:=compTurn (.ListComp elt [⟨target,iter,ifs,0⟩] scope pos) 0 it acc env) ?_
 have no:∀{P:Prop}{e:Value}{t:Shared},zM e t->P:=fun z=>z.elim
 rw[compTurn_list]
 refine aa (ua (aa (dv (one k t hW) (fun r t1 q1=>?_) fun _ _=>no)))
 match r with
 |none=>exact aq q1
 |some v =>
  refine aa (dv q1 (fun _ t2 q2=>aa (dv q2 (fun _ t3 q3=>aa (dv q3 (fun ok t4 q4=>?_) fun _ _=>no)) fun _ _=>no)) fun _ _=>no)
  match ok with
  |false=>exact aq ⟨rfl,q4⟩
  |true =>
   rw[bv rfl] at q4
   refine aa (aa (dv q4 (fun x t5 q5=>aa (dv q5 (fun _ t6 q6=>?_) fun _ _=>no)) fun _ _=>no))
   exact aq (aq ⟨rfl,q6⟩)
def xF(ix:List (Option Nat))(σ:St):St:=ix.map fun o=>o.bind fun j=>σ[j]?.join
theorem aW2{ix:List (Option Nat)}{σ:St}{i:Nat}{v:V}(h:(xF ix σ)[i]?=some (some v)):∃j,ix[i]?=some (some j)/\σ[j]?=some (some v):=by
 unfold xF at h
 rw[cm] at h
 cases e:ix[i]? with
 |none=>rw[e] at h;cases h
 |some o =>
  rw[e] at h
  cases o with
  |none=>cases h
  |some j =>
   have h:some (σ[j]?.join)=some (some v):=h
   refine⟨j,rfl,?_⟩
   cases q:σ[j]? with
   |none=>rw[q] at h;cases h
   |some z=>rw[q] at h;cases h;rfl
def vX(N:List Str)(sc scope:Scope)(N':List Str)(ix:List (Option Nat)):Bool:=
 ix.length==N'.length&&(ix.zip N').all (fun p=>match p.1 with|none=>true|some j=>N[j]? == some p.2&&scope.names.lookup p.2==some NameKind.free) &&
 scope.names.all (fun y=>y.2 != NameKind.cell&&(y.2 != NameKind.free || sc.names.lookup y.1==some NameKind.cell || sc.names.lookup y.1==some NameKind.free)&&(y.2 != NameKind.local || scope.names.lookup y.1==some NameKind.local)) &&
 scope.kind==ScopeKind.function
structure gW(N:List Str)(sc scope:Scope)(N':List Str)(ix:List (Option Nat)):Prop where
 len:ix.length=N'.length
 at_:∀(i j:Nat) (x:Str),ix[i]?=some (some j)->N'[i]?=some x->N[j]?=some x/\scope.names.lookup x=some .free
 nocell:∀y∈scope.names,y.2≠ .cell
 free:∀y∈scope.names,y.2= .free->sc.names.lookup y.1=some .cell\/sc.names.lookup y.1=some .free
 loc:∀y∈scope.names,y.2= .local->scope.names.lookup y.1=some .local
 kind:scope.kind= .function
theorem gW.of{N:List Str}{sc scope:Scope}{N':List Str}{ix:List (Option Nat)}(h:vX N sc scope N' ix=true):gW N sc scope N' ix:=by
 unfold vX at h
 simp only[Bool.and_eq_true,beq_iff_eq,List.all_eq_true] at h
 obtain⟨⟨⟨h1,h2⟩,h3⟩,h4⟩:=h
 refine⟨h1,fun i j x a b=>?_,fun y hy e=>?_,fun y hy e=>?_,fun y hy e=>?_,h4⟩
 ·have hm:(some j,x)∈ix.zip N':=bj (i:=i) (by rw[List.getElem?_zip_eq_some];exact⟨a,b⟩)
  have q:=h2 _ hm
  simp only[Bool.and_eq_true,beq_iff_eq] at q
  exact q
 ·have q:=h3 y hy
  simp only[Bool.and_eq_true,bne_iff_ne,ne_eq] at q
  exact q.1.1 e
 ·have q:=(h3 y hy).1.2
  rw[e] at q
  simpa using q
 ·have q:=(h3 y hy).2
  rw[e] at q
  simpa using q
def bX(X:Cx)(N':List Str)(scope:Scope)(C:Addr)(s₂:Shared)(H₂:Hp)(fp:List Addr):Cx where
 prog:=X.prog
 w:=X.w
 K:=X.K
 mg:=X.mg
 base:=X.base
 A:=X.A
 N:=N'
 s₀:=s₂
 H₀:=H₂
 env:=compEnvC scope (kI X.env scope.names) C X.env
 outer:=X.stack
 stack:=X.stack
 ex:=fp
 fn:=fun _=>false
 calm:=X.calm
 pn:=[]
 xe:=fun _ _=>False
section
variable {X:Cx}{N':List Str}{ix:List (Option Nat)}{scope:Scope}{pins:List (Addr×Obj)}{σ:St}{H₂:Hp}{s₂:Shared}{fp:List Addr}{C:Addr}
theorem gW.cells(S:gW X.N X.env.scope scope N' ix)(I:aQ X pins σ H₂ s₂):∀y∈scope.names,y.2= .free->∃c,X.env.cells.lookup y.1=some c:=fun y hy e=>I.ok.has y.1 (S.free y hy e)
theorem gW.get(S:gW X.N X.env.scope scope N' ix)(I:aQ X pins σ H₂ s₂){x:Str}{c:Addr}(h:(kI X.env scope.names).lookup x=some c):X.env.cells.lookup x=some c:=by
 rcases aB7 scope.names [] (S.cells I) h with q|q
 ·exact absurd q (by simp)
 ·exact q
theorem aK9(S:gW X.N X.env.scope scope N' ix)(I:aQ X pins σ H₂ s₂)(hf:∀b∈fp,lS X pins H₂ b)(hC:s₂.heap.objs.size<=C)(hfC:∀b∈fp,b<s₂.heap.objs.size):(bX X N' scope C s₂ H₂ fp).Ok where
 mod:=I.ok.mod
 kind:=S.kind
 glob:=I.ok.glob
 blt:=I.ok.blt
 above:=hC
 inj:=fun x y c a b=>I.ok.inj x y c (S.get I a) (S.get I b)
 has:=fun x h=>qR scope.names [] (.inl (mZ S.nocell h))
 cab:=fun x c h=>by cases h
 hd:=I.ok.hd
 frames:=I.ok.frames
 stk:= .inl rfl
 exf:=fun b hb=>⟨cg (bw (hfC b hb) hC),fun x c e=>(hf b hb).2.2.2.2.1 x c (S.get I e)⟩
 bs:=I.bs
 bsz:=db I.ok.bsz I.sz
 noex:=fun b o e hb=>by
  rcases(hf b hb).2.2.2.1 with z|z
  ·exact I.ok.noex b o e z
  ·exact absurd (bw (ao e) (db I.ok.bsz z)) (gk _)
 exfs:=fun b hb hm=>by
  rcases cj.mp (I.stkSub b hm) with z|z
  ·exact(hf b hb).2.1 z
  ·exact(hf b hb).2.2.1 z
 funs:=I.stack
 frf:=I.stkFree
theorem aA5(S:gW X.N X.env.scope scope N' ix)(I:aQ X pins σ H₂ s₂)(hf:∀b∈fp,lS X pins H₂ b)(hfC:∀b∈fp,b<s₂.heap.objs.size){D:Addr}{h₁:Heap}{tk:Nat}{m:Str->Option Value}{ob:Obj}
  (hC:s₂.heap.objs.size<=C) (hD:s₂.heap.objs.size<=D) (hDC:D≠C) (old:∀b o,s₂.heap.get? b=some o->h₁.get? b=some o) (hn:h₁.Ns C m) (hob:h₁.get? D=some ob) (hd:∀v,ob.data≠ .cell v) :
  aQ (bX X N' scope C s₂ H₂ fp) [(D,ob)] (xF ix σ) H₂ { s₂ with heap:=h₁,toks:=tk }:=by
 have fr:∀a,s₂.heap.objs.size<=a->H₂ a=none:=fun a ha=>I.hok.fresh ha
 have cOf:∀x c,(kI X.env scope.names).lookup x=some c->X.env.cells.lookup x=some c:=fun x c e=>S.get I e
 refine⟨aK9 S I hf hC hfC,rfl,I.bare,Un.kept old,⟨m,hn,fun i x v e1 e2 e3=>?_⟩,fun x c e=>?_,fr C hC,fun x c e=>I.freeC x c (cOf x c e),fun p hp=>?_,I.hok.kept old,?_⟩
 ·obtain⟨j,q1,q2⟩:=aW2 e2
  obtain⟨n1,n2⟩:=S.at_ i j x q1 e1
  have hm:(x,NameKind.free)∈scope.names:=ia n2
  have hv:Vis X.env.scope x:=by
   rcases S.free _ hm rfl with z|z
   ·exact .inr (.inl z)
   ·exact .inr (.inr z)
  obtain⟨m0,_,hl⟩:=I.loc
  obtain⟨u,r,l⟩:=hl j x v n1 q2 hv
  refine⟨u,r,?_⟩
  have hne:¬X.env.kindOf x=some .local:=fun z=>by
   have z:X.env.scope.names.lookup x=some .local:=z
   rcases S.free _ hm rfl with y|y
   ·rw[y] at z;cases z
   ·rw[y] at z;cases z
  rcases l with⟨k,_⟩|⟨k,c,e,z⟩
  ·exact absurd k hne
  ·obtain⟨c',hc'⟩:=qR (env:=X.env) (x:=x) scope.names [] (.inl hm)
   have hc'':=cOf x c' hc'
   rw[e] at hc''
   cases hc''
   have kk:(bX X N' scope C s₂ H₂ fp).env.kindOf x=some .cell\/(bX X N' scope C s₂ H₂ fp).env.kindOf x=some .free:=by
    rcases e3 with y|y|y
    ·exfalso
     have:∀{names:List (Str×NameKind)},names.lookup x=some .free ->
      (names.map fun(n,k)=>if (k==NameKind.free&&X.env.scope.kind == .function&&X.env.kindOf n==some .cell) then (n,NameKind.cell) else (n,k)).lookup x=some .local->False:=by
      intro names
      induction names with
      |nil=>intro a;simp at a
      |cons p r ih =>
       obtain⟨n,k⟩:=p
       intro a b
       simp only[List.map_cons] at b
       simp only[List.lookup_cons] at a
       cases hx:x==n with
       |true =>
        rw[hx] at a
        simp only[Option.some.injEq] at a
        subst a
        split at b
        ·simp[List.lookup_cons,hx] at b
        ·simp[List.lookup_cons,hx] at b
       |false =>
        rw[hx] at a
        split at b
        ·simp only[List.lookup_cons,hx] at b;exact ih a b
        ·simp only[List.lookup_cons,hx] at b;exact ih a b
     exact this n2 y
    ·exact .inl y
    ·exact .inr y
   obtain⟨oc,ho,hod⟩:=z
   exact .inr ⟨kk,c,hc',oc,old _ _ ho,hod⟩
 ·obtain⟨v,o,ho,hod⟩:=I.cell x c (cOf x c e)
  exact⟨v,o,old _ _ ho,hod⟩
 ·have hp:p∈[(D,ob)]:=hp
  have e:p=(D,ob):=by simpa using hp
  subst e
  refine⟨hob,fr D hD,hDC,fun hb=>?_,hd⟩
  have hb:D∈jH X.stack:=hb
  rcases cj.mp (I.stkSub D hb) with z|z
  ·exact absurd I.lt (by rw[<-z];exact ko.mpr hD)
  ·exact I.nofs hD z
 ·show(xF ix σ).length=N'.length
  unfold xF
  rw[ae,S.len]
theorem aB8(I:aQ X pins σ H₂ s₂)(hf:∀b∈fp,lS X pins H₂ b){pins':List (Addr×Obj)}{σ':St}{H':Hp}{s':Shared}{D:Addr}{ys:List V}{its:List Value}(hC:s₂.heap.objs.size<=C)(hD:s₂.heap.objs.size<=D)
  (J:aQ (bX X N' scope C s₂ H₂ fp) pins' σ' H' s') (hn:H' D=none) (hl:s'.heap.PlainList D its.toArray) (r:bB ys its) (hz:ys.length<=sizeLine):aQ X pins σ (aO H' D (.lst ys)) s':=by
 have sb:Un (jH X.stack) fp H₂ H' s₂.heap s'.heap:=J.base
 have nD:∀b u,H' b=some u->b≠D:=fun b u e=>aI e hn
 refine I.call' (ch:=fp) J.os ⟨sb.keep,sb.slot,fun b o e n hx=>?_,sb.there,fun b xs e=>?_,fun b o u e=>?_,fun b ps e=>?_⟩ (fun b u e=>?_) J.bare (fun b hb=>?_)
 ·rw[aH (cg (bw (ao e) hD))]
  exact sb.free b o e n hx
 ·have q:=sb.tups b xs e
  rw[aH (nD b _ q)];exact q
 ·have q:=sb.frzs b o u e
  rw[aH (nD b _ q)];exact q
 ·obtain⟨more,q⟩:=sb.tbls b ps e
  exact⟨more,by rw[aH (nD b _ q)];exact q⟩
 ·by_cases hb:b=D
  ·subst hb
   rw[aC] at e
   cases e
   obtain⟨n,hg⟩:=hl
   exact⟨hz,its,n,r,hg⟩
  ·rw[aH hb] at e
   exact(J.hok b u e).stay (fun c v _ q=>q) (fun c q=>by rw[aH (nD c _ q)];exact q) fun c xs q=>by rw[aH (nD c _ q)];exact q
 ·obtain⟨_,f1,_,f3,f4,f5⟩:=hf b hb
  exact⟨f3,f1,f4,f5⟩
end
def rQ(J:It)(g:TG)(tc:TT)(te:TE)(Kf:List V->Hp->Prop)(σ0:St)(H1:Hp):Prop:=
 ∃W:Nat->Nat->List V->St->Hp->Prop,(∃m,W 0 m [] σ0 H1)/\∀i m ys σ' H',W i m ys σ' H'->ys.length<sizeLine /\
  ((J.stop i H'/\Kf ys H')\/(J.go i H'/\∃N:List V->St->Hp->Prop,(∀ys' σ2 H2,N ys' σ2 H2->∃m',m'<m/\W (i+1) m' ys' σ2 H2)/\∀x H'',J.yld i H' x H''->g x σ' H'' fun σ2 H2=>tc σ2 H2 fun b H3 =>
   if b=true then te σ2 H3 fun y H4=>N (ys++[y]) σ2 H4 else N ys σ2 H3))
def bB0(wi:TI)(ix:List (Option Nat))(g:TG)(tc:TT)(te:TE):TE:=fun σ H Q =>
 wi σ H fun J H1=>rQ J g tc te (fun ys H'=>∀l,H' l=none->Q (.ref l) (aO H' l (.lst ys))) (xF ix σ) H1
section
variable {X:Cx}{tg elt iter:Expr}{ifs:List Expr}{scope:Scope}{pos:Pos}{N':List Str}{ix:List (Option Nat)}{wi:TI}{g:TG}{tc:TT}{te:TE}
def bF4(X:Cx)(pins:List (Addr×Obj))(σ:St)(Kf:List V->Hp->Prop)(acc:Value)(C:Addr)(s':Shared):Prop:=
 ∃D H' ys,acc= .ref D/\H' D=none/\aQ X pins σ (aO H' D (.lst ys)) s'/\(∃m,s'.heap.Ns C m)/\H' C=none/\D≠C/\C≠X.env.locals/\X.s₀.heap.objs.size<=C/\(∀x c,X.env.cells.lookup x=some c->c≠C)/\(∀p∈X.pn++pins,p.1≠C)/\Kf ys H'
theorem uM{pins:List (Addr×Obj)}{s₂:Shared}{σ:St}{H₂:Hp}{it:Addr}{fp:List Addr}{tn:Nat->Heap->Prop}{J:It}{Kf:List V->Hp->Prop}{RR:Value->Addr->Result->Shared->Prop}{E:Value->Shared->Prop}
  (S:gW X.N X.env.scope scope N' ix) (hc:X.calm=true)
  (hg:∀C s₂ H₂ fp,PG (bX X N' scope C s₂ H₂ fp) tg g) (ht:∀C s₂ H₂ fp,aQ1 (bX X N' scope C s₂ H₂ fp) ifs tc) (he:∀C s₂ H₂ fp,PE (bX X N' scope C s₂ H₂ fp) elt te)
  (I2:aQ X pins σ H₂ s₂) (T:aB0 X.prog X.w X.K tg J fp it tn) (st2:tn 0 s₂.heap) (f2:∀b∈fp,lS X pins H₂ b) (w:rQ J g tc te Kf (xF ix σ) H₂)
  (hR:∀acc C s',bF4 X pins σ Kf acc C s'->RR acc C (.ok .next) s') :
  wpAny (model X.prog X.w) X.A (newList []) (fun acc s₃=>wpAny (model X.prog X.w) X.A (newFunctionEnv scope X.env.globals (kI X.env scope.names) [] X.env.qual none .none (some X.env)) (fun cenv s₄ =>
   codeAny (model X.prog X.w) X.A (.compStart (.ListComp elt [⟨tg,iter,ifs,0⟩] scope pos) 0 (.ref it) acc { cenv with scope:=relabel scope X.env }) (RR acc cenv.locals) s₄) E s₃) E s₂:=by
 obtain⟨W,⟨m0,w0⟩,turn⟩:=w
 refine fz (xb S.nocell (by intro y hy;simp at hy) (fun h₁ nsN sbN=>?_) S.kind)
 dsimp only at nsN sbN ⊢
 generalize eH:s₂.heap.push { cls:= .type "list",dict:=none,data:= .seq ([]:List Value).toArray }=G2 at nsN sbN ⊢
 have sizeC:G2.objs.size=s₂.heap.objs.size+1:=by rw[<-eH,ir]
 have neDC:s₂.heap.objs.size≠G2.objs.size:=by rw[sizeC];exact cg (io _)
 have leC:s₂.heap.objs.size<=G2.objs.size:=by rw[sizeC];exact sv _
 have older:∀b,b<s₂.heap.objs.size->b≠G2.objs.size/\b≠s₂.heap.objs.size:=fun b hb=>⟨by rw[sizeC];exact cg (ui hb),cg hb⟩
 have keepOld:∀b o,s₂.heap.get? b=some o->h₁.get? b=some o:=fun b o e=>sbN.extBut b o (older b (ao e)).1 (ac _ (eH ▸ ac _ e))
 have accNew:h₁.PlainList s₂.heap.objs.size #[]:=⟨_,sbN.extBut _ _ neDC (ac _ (eH ▸ bc _ rfl))⟩
 generalize eC:G2.objs.size=C at *
 generalize eD:s₂.heap.objs.size=D at *
 have hfC:∀b∈fp,b<s₂.heap.objs.size:=fun b hb=>by
  obtain⟨o,e,_⟩:=T.obj 0 _ st2 b hb
  exact ao e
 have hfD:∀b∈fp,b≠D:=fun b hb=>by have:=hfC b hb;rw[eD] at this;exact cg this
 have hfC':∀b∈fp,b≠C:=fun b hb=>by have:=hfC b hb;rw[eD] at this;exact cg (bw this leC)
 have geD:s₂.heap.objs.size<=D:=by rw[eD];exact ai _
 have geC:s₂.heap.objs.size<=C:=by rw[eD];exact leC
 obtain⟨nn,hob⟩:=id accNew
 have J1:aQ (bX X N' scope C s₂ H₂ fp) [] (xF ix σ) H₂ { s₂ with heap:=h₁,toks:=s₂.toks+([]:List (Str×Value)).length }:=
  (aA5 S I2 f2 hfC geC geD neDC keepOld nsN hob (fun v z=>by cases z)).pins_of (fun p hp=>absurd hp (by simp))
 have nfsD:D∉jH X.stack:=fun hb=>by
  rcases cj.mp (I2.stkSub D hb) with z|z
  ·exact absurd I2.lt (by rw[<-z];exact ko.mpr geD)
  ·exact I2.nofs geD z
 have cOf:∀x c,(kI X.env scope.names).lookup x=some c->c≠D/\c≠C:=fun x c e=>by
  obtain⟨v,z⟩:=I2.cell x c (S.get I2 e)
  have:=z.lt
  rw[eD] at this
  exact⟨cg this,cg (bw this leC)⟩
 have fpk:∀{pl:List (Addr×Obj)}{H':Hp},(∀b∈fp,H' b=none)->(∀p∈pl,p.1∉fp)->∀b∈fp,lS (bX X N' scope C s₂ H₂ fp) pl H' b:=fun {pl H'} hn hp b hb =>
  ⟨hn b hb,hfC' b hb,fun z=>by
    rcases cj.mp (I2.stkSub b z) with q|q
    ·exact(f2 b hb).2.1 q
    ·exact(f2 b hb).2.2.1 q,
   .inl hb,fun x c e=>(f2 b hb).2.2.2.2.1 x c (S.get I2 e),fun p hp' z=>hp p (by simpa [bX] using hp') (by rw[z];exact hb)⟩
 have dpk:∀{H':Hp},H' D=none->∀b∈[D],lS (bX X N' scope C s₂ H₂ fp) [] H' b:=fun {H'} hn b hb=>by
  have e:b=D:=by simpa using hb
  subst e
  exact⟨hn,neDC,nfsD,.inr geD,fun x c e=>(cOf x c e).1,fun p hp=>absurd hp (by simp[bX])⟩
 have loop:codeAny (model X.prog X.w) X.A (.compLoop (.ListComp elt [⟨tg,iter,ifs,0⟩] scope pos) 0 (.ref it) (.ref D) (compEnvC scope (kI X.env scope.names) C X.env)) (RR (.ref D) C) { s₂ with heap:=h₁,toks:=s₂.toks+([]:List (Str×Value)).length }:=by
  refine aL7 (fun n s'=>∃i ys σ' H' its,aQ (bX X N' scope C s₂ H₂ fp) [] σ' H' s'/\tn i s'.heap/\(∀b∈fp,H' b=none)/\H' D=none/\s'.heap.PlainList D its.toArray/\bB ys its/\W i n ys σ' H') ?_ m0
   ⟨0,[],_,H₂,[],J1,T.keep _ _ _ st2 fun b _ o e=>keepOld b o e,fun b hb=>(f2 b hb).1,I2.hok.fresh geD,accNew,.nil,w0⟩
  rintro n s3 ⟨i,ys,σ3,H3,its,I3,st3,fr3,dn3,pl3,rv3,w3⟩
  obtain⟨nn3,hob3⟩:=id pl3
  have oD:∀b∈[D],∃o,s3.heap.get? b=some o/\∀v,o.data≠ .cell v:=fun b hb=>by
   have e:b=D:=by simpa using hb
   subst e
   exact⟨_,hob3,fun v z=>by cases z⟩
  have I3':aQ (bX X N' scope C s₂ H₂ fp) (iF [D] s3.heap) σ3 H3 s3:=by
   have:=I3.pinned (dpk dn3) oD
   simpa using this
  have pD:(D,({ cls:= .type "list",data:= .seq its.toArray nn3 }:Obj))∈iF [D] s3.heap:=hJ (by simp) hob3
  have npD:∀p∈iF [D] s3.heap,p.1∉fp:=fun p hp z=>by
   have e:p.1=D:=by simpa using (tX hp).1
   exact hfD _ z e
  obtain⟨hys,tt⟩:=turn i n ys σ3 H3 w3
  rcases tt with⟨stop,qn⟩|⟨go,N,hN,step⟩
  ·refine dv (T.done (bX X N' scope C s₂ H₂ fp) rfl rfl rfl hc i (iF [D] s3.heap) s3 σ3 H3 (fun _ _=>False) I3' (fpk fr3 npD) st3 stop) (fun r s4 ⟨hr,I4⟩=>?_) fun _ _ z=>z
   subst hr
   have g4:=(I4.pin _ (bx _ pD)).1
   refine hR _ _ _ ⟨D,H3,ys,rfl,dn3,aB8 I2 f2 geC geD I4 dn3 ⟨nn3,g4⟩ rv3 (cu hys),?_,?_,neDC,?_,?_,?_,?_,qn⟩
   ·obtain⟨m,hm,_⟩:=I4.loc
    exact⟨m,hm⟩
   ·exact I4.free
   ·exact dq (bw I2.lt geC)
   ·exact db I2.sz geC
   ·intro x c e z
    obtain⟨v,q⟩:=I2.cell x c e
    exact absurd (bw q.lt geC) (by rw[z];exact gk _)
   ·intro p hp z
    exact absurd (bw (ao (I2.pin p hp).1) geC) (by rw[z];exact gk _)
  ·refine dv (T.item (bX X N' scope C s₂ H₂ fp) rfl rfl rfl hc i (iF [D] s3.heap) s3 σ3 H3 (fun _ _=>False) I3' (fpk fr3 npD) st3 go) (fun r s4 ⟨u,hr,h4⟩=>?_) fun _ _ z=>z
   subst hr
   refine dv h4 (?_) fun _ _ z=>z;rintro _ s5 ⟨x,H5,I5,r5,y5,st5,fr5⟩
   have I5':=I5.pinned (fpk fr5 npD) (T.obj _ _ st5)
   refine dv (hg C s₂ H₂ fp _ s5 σ3 H5 x u _ I5' r5 (step x H5 y5)) (?_) fun _ _ z=>z;rintro _ s6 ⟨σ6,H6,I6,q6⟩
   refine dv (ht C s₂ H₂ fp _ s6 σ6 H6 _ I6 q6) (?_) fun _ _ z=>z;rintro b s7 ⟨H7,I7,q7⟩
   have fin:∀{s8:Shared}{σ8:St}{H8:Hp},aQ (bX X N' scope C s₂ H₂ fp) (iF [D] s3.heap++iF fp s5.heap) σ8 H8 s8->s8.heap.get? D=some { cls:= .type "list",data:= .seq its.toArray nn3 }/\H8 D=none /\
     tn (i+1) s8.heap/\∀b∈fp,H8 b=none:=fun {s8 σ8 H8} I8=>by
    have q:=I8.pin _ (bx _ (dj _ pD))
    refine⟨q.1,q.2.1,T.keep _ _ _ st5 fun b hb o e=>(I8.pin (b,o) (bx _ (bx _ (hJ hb e)))).1,fun b hb=>?_⟩
    obtain⟨o,e,d⟩:=T.obj _ _ st5 b hb
    exact(I8.pin (b,o) (bx _ (bx _ (hJ hb e)))).2.1
   cases b with
   |false =>
    obtain⟨m',hm,w7⟩:=hN _ _ _ q7
    obtain⟨a1,a2,a3,a4⟩:=fin I7
    exact⟨m',hm,i+1,ys,σ6,H7,its,I7.pins_of fun p hp=>absurd hp (by simp),a3,a4,a2,⟨nn3,a1⟩,rv3,w7⟩
   |true =>
    refine dv (he C s₂ H₂ fp _ s7 σ6 H7 _ I7 q7) (?_) fun _ _ z=>z;rintro v s8 ⟨y,H8,I8,r8,n8⟩
    obtain⟨m',hm,w8⟩:=hN _ _ _ n8
    obtain⟨a1,a2,a3,a4⟩:=fin I8
    have hsz:its.toArray.size<=sizeLine:=by
     have:=rv3.length
     rw[br]
     lia
    refine wpAny_list_append_plain (hsz:=hsz) ⟨nn3,a1⟩ fun h9 hl9 hs9=>?_
    have I9:aQ (bX X N' scope C s₂ H₂ fp) [] σ6 H8 { s8 with heap:=h9 }:=
     (I8.pins_of (pins':=[]) fun p hp=>absurd hp (by simp)).turned (t':=s8.toks) (fun b o hb e=>(hs9.2 b hb).trans e) a2 neDC (.inr geD) (fun x c e=>(cOf x c e).1) fun p hp=>absurd hp (by simp[bX])
    refine⟨m',hm,i+1,ys++[y],σ6,H8,its++[v],I9,T.keep _ _ _ a3 fun b hb o e=>(hs9.2 b (hfD b hb)).trans e,a4,a2,?_,rv3.append (.cons r8 .nil),w8⟩
    have e:(its++[v]).toArray=its.toArray.push v:=by simp
    rw[e];exact hl9
 exact codeAny_compStart_list loop (T.self _ 0 _ _ _ (T.keep _ _ _ st2 fun b _ o e=>keepOld b o e) loop)
theorem cU(N':List Str)(ix:List (Option Nat))(hi:PI X tg iter wi)(hg:∀C s₂ H₂ fp,PG (bX X N' scope C s₂ H₂ fp) tg g)(ht:∀C s₂ H₂ fp,aQ1 (bX X N' scope C s₂ H₂ fp) ifs tc)
  (he:∀C s₂ H₂ fp,PE (bX X N' scope C s₂ H₂ fp) elt te) (S:autoParam (vX X.N X.env.scope scope N' ix=true) Rq0._auto_1) (hc:autoParam (X.calm=true) Rq0._auto_1) (hs:autoParam (∀x,foldedSetIterable iter X.env x=pure x) Rq4._auto_1) :
  PE X (.ListComp elt [⟨tg,iter,ifs,0⟩] scope pos) (bB0 wi ix g tc te):=by
 intro pins s σ H Q I h
 have S:=gW.of S
 rw[eval_ListComp]
 refine uw (use:=none) (cl:=kI X.env scope.names) rfl hs (mO fun y hy e=>I.ok.has y.1 (S.free y hy e)) S.kind S.loc (cL (hi pins s σ H _ I h) fun xv s₁ h₁=>cL h₁ fun itv s₂ h₂=>?_)
 obtain⟨it,fp,tn,J,H₂,rfl,I2,T,st2,f2,w⟩:=h₂
 refine uM (RR:=fun acc C=>compPost (model X.prog X.w) X.A X.xe none (EP X pins σ Q) acc C) S hc hg ht he I2 T st2 f2 w fun acc C s' ce=>?_
 obtain⟨D,H',ys,rfl,dn,J',hm,cn,dc,c1,c2,c3,c4,kf⟩:=ce
 obtain⟨m,hm⟩:=hm
 refine⟨m,hm,fun h' hs'=>⟨.ref D,_,J'.turned (t':=s'.toks) (fun b o hb e=>(hs'.2 b hb).trans e) (by rw[aH dc.symm];exact cn) c1 (.inr c2) c3 c4,rfl,kf D dn⟩⟩
theorem aI2(N':List Str)(ix:List (Option Nat)){i:Nat}{x:Str}{pos' spos:Pos}(hN:X.N.Nodup)(hxi:X.N[i]?=some x)(hx:Loc X.env.scope x)(hi:PI X tg iter wi)(hg:∀C s₂ H₂ fp,PG (bX X N' scope C s₂ H₂ fp) tg g)(ht:∀C s₂ H₂ fp,aQ1 (bX X N' scope C s₂ H₂ fp) ifs tc)
  (he:∀C s₂ H₂ fp,PE (bX X N' scope C s₂ H₂ fp) elt te) (S:autoParam (vX X.N X.env.scope scope N' ix=true) Rq0._auto_1) (hc:autoParam (X.calm=true) Rq0._auto_1) (hs:autoParam (∀x,foldedSetIterable iter X.env x=pure x) Rq4._auto_1)
  (hsw:autoParam (swapsWith (.ListComp elt [⟨tg,iter,ifs,0⟩] scope pos) (some (.Name x pos')) spos.line X.env=pure true) Rq0._auto_1) (hf:autoParam (X.fn x=true\/X.env.scope.names.lookup x=some .local) Rq2._auto_1) :
  PS X (.Assign [.Name x pos'] (.ListComp elt [⟨tg,iter,ifs,0⟩] scope pos) spos) (aY4 (bB0 wi ix g tc te) (sN i)):=by
 intro pins s σ H D I h
 have S:=gW.of S
 rw[exec_Assign_Name_used _ _ _ _ hsw]
 refine aa (ua (aa ?_))
 show wpAny _ X.A (do let _ <-comprehension (.ListComp elt [⟨tg,iter,ifs,0⟩] scope pos) scope X.env _ (newList []) false (eval iter X.env) (some (assign (.Name x pos') X.env))) _ _ s
 refine aa (dv (uw (use:=some (assign (.Name x pos') X.env)) (cl:=kI X.env scope.names) (Q:=fun _ s'=>SP X pins D .next s') rfl hs (mO fun y hy e=>I.ok.has y.1 (S.free y hy e)) S.kind S.loc
  (cL (hi pins s σ H _ I h) fun xv s₁ h₁=>cL h₁ fun itv s₂ h₂=>?_)) (fun _ s' hq=>aq (aq hq)) fun _ _ e=>e)
 obtain⟨it,fp,tn,J,H₂,rfl,I2,T,st2,f2,w⟩:=h₂
 refine uM (RR:=fun acc C=>compPost (model X.prog X.w) X.A X.xe (some (assign (.Name x pos') X.env)) (fun _ s'=>SP X pins D .next s') acc C) S hc hg ht he I2 T st2 f2 w fun acc C s' ce=>?_
 obtain⟨D',H',ys,rfl,dn,J',hm,cn,dc,c1,c2,c3,c4,kf⟩:=ce
 obtain⟨m,hm⟩:=hm
 show wpAny _ X.A (assign (.Name x pos') X.env (.ref D')) _ _ _
 refine yq (tQ (v:= .ref D') J' hN hxi hx rfl (fun s2 J2 hsb=>?_) hf)
 obtain⟨a,hsb,ha⟩:=hsb
 have hCa:C≠a:=by
  rcases ha with z|z
  ·rw[z];exact c1
  ·exact(c3 x a z).symm
 refine⟨m,hm.sameBut hsb hCa,fun h' hs'=>?_⟩
 exact⟨_,_,J2.turned (t':=s2.toks) (fun b o hb e=>(hs'.2 b hb).trans e) (by rw[aH dc.symm];exact cn) c1 (.inr c2) c3 c4,kf D' dn⟩
theorem dI{K:PySem.W.Frag}{a:Addr}{xs:List V}{Kf:List V->Hp->Prop}{σ0:St}{H1:Hp}(Pv:Nat->List V->St->Hp->Prop)(hz:xs.length<sizeLine)(h0:Pv 0 [] σ0 H1)(hb:∀i ys σ H,Pv i ys σ H->ys.length<=i)(hl:∀i ys σ H,i<=xs.length->Pv i ys σ H->bG K H a xs)
  (hs:∀i x ys σ H,xs[i]?=some x->Pv i ys σ H->g x σ H fun σ2 H2=>tc σ2 H2 fun b H3=>if b=true then te σ2 H3 fun y H4=>Pv (i+1) (ys++[y]) σ2 H4 else Pv (i+1) ys σ2 H3) (hd:∀ys σ H,Pv xs.length ys σ H->Kf ys H):rQ (Itl K a) g tc te Kf σ0 H1:=by
 refine⟨fun i m ys σ H=>m=xs.length-i/\i<=xs.length/\Pv i ys σ H,⟨xs.length,by simp,bo _,h0⟩,?_⟩
 rintro i m ys σ H ⟨rfl,hi,p⟩
 have q:=hl i ys σ H hi p
 refine⟨cq (hb _ _ _ _ p) (cq hi hz),?_⟩
 by_cases hlt:i<xs.length
 ·refine .inr ⟨⟨xs,xs[i],q,by simp[hlt]⟩,Pv (i+1),fun ys' σ' H' p'=>⟨xs.length-(i+1),iw hlt (io i),rfl,hlt,p'⟩,fun x H' y=>?_⟩
  obtain⟨e,y⟩:=y
  subst e
  exact hs i x ys σ _ (y xs q) p
 ·have e:i=xs.length:=by lia
  subst e
  exact .inl ⟨⟨xs,q,ai _⟩,hd ys σ H p⟩
theorem yS{K:PySem.W.Frag}{a:Addr}{xs:List V}{Kf:List V->Hp->Prop}{σ0:St}{H1:Hp}(Pv:Nat->List V->St->Hp->Prop)(hz:xs.length<sizeLine)(h0:Pv 0 [] σ0 H1)(hb:∀i ys σ H,Pv i ys σ H->ys.length<=i)(hl:∀i ys σ H,i<=xs.length->Pv i ys σ H->aU K H a xs)
  (hs:∀i x ys σ H,xs[i]?=some x->Pv i ys σ H->g x σ H fun σ2 H2=>tc σ2 H2 fun b H3=>if b=true then te σ2 H3 fun y H4=>Pv (i+1) (ys++[y]) σ2 H4 else Pv (i+1) ys σ2 H3) (hd:∀ys σ H,Pv xs.length ys σ H->Kf ys H):rQ (Itt K a) g tc te Kf σ0 H1:=by
 refine⟨fun i m ys σ H=>m=xs.length-i/\i<=xs.length/\Pv i ys σ H,⟨xs.length,by simp,bo _,h0⟩,?_⟩
 rintro i m ys σ H ⟨rfl,hi,p⟩
 have q:=hl i ys σ H hi p
 refine⟨cq (hb _ _ _ _ p) (cq hi hz),?_⟩
 by_cases hlt:i<xs.length
 ·refine .inr ⟨⟨xs,xs[i],q,by simp[hlt]⟩,Pv (i+1),fun ys' σ' H' p'=>⟨xs.length-(i+1),iw hlt (io i),rfl,hlt,p'⟩,fun x H' y=>?_⟩
  obtain⟨e,y⟩:=y
  subst e
  exact hs i x ys σ _ (y xs q) p
 ·have e:i=xs.length:=by lia
  subst e
  exact .inl ⟨⟨xs,q,ai _⟩,hd ys σ H p⟩
theorem jY{lo:Int}{n:Nat}{Kf:List V->Hp->Prop}{σ0:St}{H1:Hp}(Pv:Nat->List V->St->Hp->Prop)(hz:n<sizeLine)(h0:Pv 0 [] σ0 H1)(hb:∀i ys σ H,Pv i ys σ H->ys.length<=i)
  (hs:∀i ys σ H,i<n->Pv i ys σ H->g (.int (lo+i)) σ H fun σ2 H2=>tc σ2 H2 fun b H3=>if b=true then te σ2 H3 fun y H4=>Pv (i+1) (ys++[y]) σ2 H4 else Pv (i+1) ys σ2 H3) (hd:∀ys σ H,Pv n ys σ H->Kf ys H):rQ (Itr lo n) g tc te Kf σ0 H1:=by
 refine⟨fun i m ys σ H=>m=n-i/\i<=n/\Pv i ys σ H,⟨n,by simp,bo _,h0⟩,?_⟩
 rintro i m ys σ H ⟨rfl,hi,p⟩
 refine⟨cq (hb _ _ _ _ p) (cq hi hz),?_⟩
 by_cases hlt:i<n
 ·refine .inr ⟨hlt,Pv (i+1),fun ys' σ' H' p'=>⟨n-(i+1),iw hlt (io i),rfl,hlt,p'⟩,fun x H' y=>?_⟩
  obtain⟨e,y⟩:=y
  subst e y
  exact hs i ys σ _ hlt p
 ·have e:i=n:=by lia
  subst e
  exact .inl ⟨ai _,hd ys σ H p⟩
end
theorem aR9:typeLookup (.type "list_reverseiterator") "__len__"=pure none:=by rw[rc,mi];kernel_rfl
theorem bL7:typeLookup (.type "list_reverseiterator") "__length_hint__"=pure (some (.builtin "list_reverseiterator.__length_hint__")):=by rw[rc,mi];kernel_rfl
abbrev newL:Obj:={ cls:= .type "list",data:= .seq #[] }
section
variable {prog:Program}{w:World}{A:Around}{E:Value->Shared->Prop}{Q:Value->Shared->Prop}{s:Shared}{it p:Addr}{items:Array Value}
theorem yR(hh:A.handled=none)(ne:p≠it)(hi:s.heap.IsRevIter it p ((items.size:Int)-1))(hp:s.heap.IsList p items)(hz:items.size<=sizeLine)
  (k:∀t got c,(∀b o,b≠it->s.heap.get? b=some o->t.heap.get? b=some o)->t.gens=s.gens->t.os=s.os ->
   t.heap.get? s.heap.objs.size=some { cls:= .type "list",dict:=none,data:= .seq got c,slots:= #[] }->got.toList=items.toList.reverse->Q (.ref s.heap.objs.size) t) :
  wpAny (model prog w) A (call (.type "list") [.ref it]) Q E s:=by
 let W:=(xo (prog:=prog) (w:=w) (A:=A.in1.in1) hh it p ne items).toS
 have st0:0<=items.size/\s.heap.IsRevIter it p ((items.size:Int)-1-((0:Nat):Int))/\s.heap.IsList p items:=⟨bo _,by simpa using hi,hp⟩
 have itLt:it<s.heap.objs.size:=by
  obtain⟨o,e,_⟩:=hi
  exact ao e
 have pLt:p<s.heap.objs.size:=by
  obtain⟨o,e,_⟩:=hp
  exact ao e
 have fresh:s.heap.objs.size∉[it,p]:=fun m=>by
  rcases cj.mp m with z|z
  ·exact gk _ (z ▸ itLt)
  ·exact gk _ ((au.mp z) ▸ pLt)
 have neS:s.heap.objs.size≠it:=fun z=>fresh (by rw[z];exact az)
 refine callType_codes (Q₁:=fun o t=>o= .ref s.heap.objs.size/\t={ s with heap:=s.heap.push newL }) F.called_list (yz _) za (code_list_new _ ⟨rfl,rfl⟩) ?_
 rintro _ _ ⟨rfl,rfl⟩
 have hS:(s.heap.push newL).get? s.heap.objs.size=some newL:=bc _ rfl
 refine⟨⟨_,hS,rfl⟩,yd _ _,?_⟩
 refine aa (m:=Builtin.List.listItems (.ref s.heap.objs.size)) (aa (gm hS rfl (aq ?_)))
 refine aa (m:=updateSeq s.heap.objs.size fun _=> #[]) (ot hS rfl (aa (vz ?_)))
 have hS2:=fg (Obj.mapSeq fun _=>(#[]:Array Value)) hS rfl
 have older:∀b o,s.heap.get? b=some o->((s.heap.push newL).update s.heap.objs.size (Obj.mapSeq fun _=>(#[]:Array Value))).get? b=some o:=fun b o e =>
  (iq _ _ (dq (ao e))).trans (ac _ e)
 have st1:=W.frame 0 s ((s.heap.push newL).update s.heap.objs.size (Obj.mapSeq fun _=>(#[]:Array Value))) s.toks st0 (ai _) fun b _ o e=>older b o e
 have ty:∀i t,(fun(i:Nat) (t:Shared)=>i<=items.size/\t.heap.IsRevIter it p ((items.size:Int)-1-(i:Int))/\t.heap.IsList p items) i t->t.TypeIs (.ref it) "list_reverseiterator":=fun i t z=>z.2.1.typeIs
 unfold Builtin.List.listExtendWith
 refine aa (yb (ty 0 _ st1) ?_)
 have same:Builtin.List.listSameRef (.ref s.heap.objs.size) (.ref it)=false:=by simp[Builtin.List.listSameRef,neS]
 rw[ay (by rw[same];decide)]
 refine aa (W.self 0 _ _ _ st1 (aa (ij ?_)))
 unfold Builtin.List.listLengthHint
 refine aa (oq (ty 0 _ st1) aR9 ?_)
 refine aa (m:=specialOf (Value.ref it) (Str.ofString "__length_hint__")) (oq (ty 0 _ st1) bL7 ?_)
 generalize hid:("list_reverseiterator.__length_hint__": String)=id0
 wp_delta
 rw[show splitId id0=some ("list_reverseiterator","__length_hint__") from by subst hid;decide]
 subst hid
 refine aa (ux (b:=true) (ty 0 _ st1) (by rw[isSubtype_type];kernel_rfl) (aq ?_))
 rw[ay (by decide)]
 refine aq ⟨uc F.plain_extend_loop _,codeAny_extend_loopS W hz _ fresh _ items.size 0 _ _ _ rfl (bo _) st1 hS2 (ItemsOf.nil _) fun t got c mv at' its=>⟨rfl,?_⟩⟩
 refine k t got c (fun b o hb e=>mv.heap b o (fun m=>?_) (older b o e)) mv.gens mv.os at' ?_
 ·rcases cj.mp m with z|z
  ·exact absurd (ao e) (by rw[z];exact gk _)
  ·exact hb (au.mp z)
 ·obtain⟨len,each⟩:=its
  refine List.ext_getElem? fun j=>?_
  by_cases hj:j<items.size
  ·have g:got[j]?=some got[j]:=ou (by lia)
   rw[wo (by simpa using hj),mh,mh,g, <-each j _ g]
   simp
  ·rw[qj (by simp;lia),qj (by simp;lia)]
end
def aQ5(K:PySem.W.Frag)(te:TE):TE:=fun σ H Q=>te σ H fun x H1=>∃a ys,x= .ref a/\bG K H1 a ys/\∀l,H1 l=none->Q (.ref l) (aO H1 l (.lst ys.reverse))
theorem qQ{X:Cx}{e:Expr}{te:TE}{p1 p2 pos1 pos2:Pos}(he:PE X e te)(g1:Gl X "list")(m1:X.mg "list"=none)(g2:Gl X "reversed")(m2:X.mg "reversed"=none)(hc:autoParam (X.calm=true) Rq0._auto_1)
  (hs1:autoParam (starEach [.Call (.Name "reversed" p2) [e] [] pos2] X.env=[(false,eval (.Call (.Name "reversed" p2) [e] [] pos2) X.env)]) Rq0._auto_1) (hs2:autoParam (starEach [e] X.env=[(false,eval e X.env)]) Rq0._auto_1) :
  PE X (.Call (.Name "list" p1) [.Call (.Name "reversed" p2) [e] [] pos2] [] pos1) (aQ5 X.K te):=by
 intro pins s σ H Q I h
 refine eo (gF I g1 m1 ly ?_)
 refine ef ?_ hs1 rfl
 rw[hs1]
 refine gq (eo (gF I g2 m2 ud ?_))
 refine ef ?_ hs2 rfl
 rw[hs2]
 refine gq (cL (he pins s σ H _ I h) ?_);rintro u s1 ⟨x,H1,I1,r1,a,ys,ex,hq,q⟩;refine jf ?_
 subst ex
 cases r1
 obtain⟨its,rv,pl,hz⟩:=I1.list hq
 have il:=pl.isList
 refine ye il (jf ?_)
 have I2:aQ X pins σ H1 { s1 with heap:=s1.heap.push (revObj a ((its.toArray.size:Int)-1)) }:=I1.kept (t':=s1.toks) fun b o e=>ac _ e
 have aLt:a<s1.heap.objs.size:=by
  obtain⟨o,e,_⟩:=il
  exact ao e
 have len:=rv.length
 obtain⟨f0,f1,f2,f3,f4,f5⟩:lS X pins H1 s1.heap.objs.size:=I1.fpOk (ai _) (I1.hok.fresh (ai _))
 refine yR (p:=a) (items:=its.toArray) (I.ok.hd hc) (cg aLt) ⟨_,bc _ rfl,rfl,rfl⟩ (il.at fun o e=>ac _ e) (by rw[br];lia) ?_
 intro t got c keep gens os at' eg
 obtain⟨D,eD⟩:∃D,(s1.heap.push (revObj a ((its.toArray.size:Int)-1))).objs.size=D:=⟨_,rfl⟩
 have hD:(s1.heap.push (revObj a ((its.toArray.size:Int)-1))).objs.size<=D:=yf eD
 dsimp only at at' ⊢
 rw[eD] at at' ⊢
 have fD:H1 D=none:=I2.hok.fresh hD
 have neT:∀b u,H1 b=some u->b≠s1.heap.objs.size:=fun b u e z=>by rw[z,f0] at e;cases e
 refine⟨.ref D,aO H1 D (.lst ys.reverse),I2.call' (ch:=[s1.heap.objs.size]) os ⟨fun b o e n _ hx=>keep b o (fun z=>hx (by simp[z])) e,fun b o e n _ hx=>⟨o.slots,keep b o (fun z=>hx (by simp[z])) e⟩,fun b o e n _=>?_,fun b o e hx=>⟨o,keep b o (fun z=>hx (by simp[z])) e⟩,fun b xs e=>?_,fun b o u e=>?_,fun b ps e=>⟨#[],?_⟩⟩ (fun b u e=>?_) (by rw[gens];exact I2.bare) (fun b hb=>?_),rfl,q D fD⟩
 ·rw[aH (fun z=>absurd (ao e) (by rw[z];exact ko.mpr hD))];exact n
 ·rw[aH (aI e fD)];exact e
 ·rw[aH (aI e fD)];exact e
 ·rw[aH (aI e fD),e];simp
 ·by_cases hb:b=D
  ·subst hb
   rw[aC] at e
   cases e
   have at2:t.heap.get? b=some { cls:= .type "list",dict:=none,data:= .seq its.reverse.toArray c,slots:= #[] }:=by
    rw[at', <-mz (xs:=got),eg]
   exact⟨by rw[ib];exact hz,its.reverse,c,bB.reverse rv,at2⟩
  ·rw[aH hb] at e
   refine(I2.hok b u e).stay (fun c' v hc' q'=>keep c' v ?_ q') (fun c' q'=>by rw[aH (aI q' fD)];exact q') fun c' xs q'=>by rw[aH (aI q' fD)];exact q'
   rcases hc' with z|z
   ·rw[z];exact neT b u e
   ·exact neT c' _ z
 ·have z:b=s1.heap.objs.size:=by simpa using hb
  subst z
  exact⟨f3,f1,f4,f5⟩
def cI8(i j:Int):Prop:=0<j/\j<2^250
theorem rV{X:Cx}:kH X (binaryOp .FloorDiv) (rI cI8 fun i j=> .int (i / j)):=opI fun i j _ _ _ _ _ hc q=>by
 obtain⟨h0,h1⟩:=hc
 refine yg (by lia) ?_ (.inl (oz ?_))
 ·rw[nt i (by lia)];exact q
 ·have h2:j.natAbs<2^250:=by
   have e:((j.natAbs:Nat):Int)=j:=xc (by lia)
   have:((j.natAbs:Nat):Int)<((2^250:Nat):Int):=by rw[e];exact_mod_cast h1
   exact Int.ofNat_lt.mp this
  have h3:j.natAbs≠0:=by lia
  have h4:j.natAbs.log2<250:=(zj h3).mpr h2
  exact bw h4 (by decide)
def dY(sd n:Int)(l:Addr):List (Key×V):=[(.inr "seed",.int sd),(.inr "number",.int n),(.inr "left",.ref l)]
theorem ksn:¬((Sum.inr ("seed": Str):Key)=Sum.inr ("number": Str)):=by decide
theorem ksl:¬((Sum.inr ("seed": Str):Key)=Sum.inr ("left": Str)):=by decide
theorem knl:¬((Sum.inr ("number": Str):Key)=Sum.inr ("left": Str)):=by decide
theorem kns:¬((Sum.inr ("number": Str):Key)=Sum.inr ("seed": Str)):=by decide
theorem kls:¬((Sum.inr ("left": Str):Key)=Sum.inr ("seed": Str)):=by decide
theorem kln:¬((Sum.inr ("left": Str):Key)=Sum.inr ("number": Str)):=by decide
theorem aK0(sd n:Int)(l:Addr):cD (dY sd n l) (Sum.inr "seed": Key)=some (.int sd):=by unfold dY;rw[cE rfl]
theorem wW(sd n:Int)(l:Addr):cD (dY sd n l) (Sum.inr "number": Key)=some (.int n):=by unfold dY;rw[bR ksn,cE rfl]
theorem aJ4(sd n:Int)(l:Addr):cD (dY sd n l) (Sum.inr "left": Key)=some (.ref l):=by unfold dY;rw[bR ksl,bR knl,cE rfl]
theorem aQ6(sd n v:Int)(l:Addr):dB (dY sd n l) (Sum.inr "seed": Key) (.int v)=dY v n l:=by
 unfold dB dY
 simp
 exact⟨fun z=>absurd (fm Sum.inr z) kns,fun z=>absurd (fm Sum.inr z) kls⟩
theorem zQ(sd n v:Int)(l:Addr):dB (dY sd n l) (Sum.inr "number": Key) (.int v)=dY sd v l:=by
 unfold dB dY
 simp
 exact⟨fun z=>absurd (fm Sum.inr z) ksn,fun z=>absurd (fm Sum.inr z) kln⟩
structure bU(H:Hp)(d l:Addr)(sd n:Int)(ls:List Int):Prop where
 dc:H d=some (.dK (dY sd n l))
 lc:H l=some (.lst (ls.map V.int))
 s0:0<=sd
 s1:sd<2147483647
 n0:0<=n
 l0:∀x∈ls,0<=x
def dN(H:Hp)(d l:Addr):Prop:=∃sd n ls,bU H d l sd n ls
theorem bU.ne{H:Hp}{d l:Addr}{sd n:Int}{ls:List Int}(D:bU H d l sd n ls):d≠l:=gH D.dc D.lc (by intro z;cases z)
def eO(d l:Addr)(H H':Hp):Prop:=∀b o,H b=some o->b≠d->b≠l->H' b=some o
theorem eO.refl{d l:Addr}(H:Hp):eO d l H H:=fun _ _ e _ _=>e
theorem eO.trans{d l:Addr}{H H1 H2:Hp}(a:eO d l H H1)(b:eO d l H1 H2):eO d l H H2:=fun c o e h1 h2=>b c o (a c o e h1 h2) h1 h2
theorem eO.of{d l:Addr}{H H':Hp}(s:aR H H'):eO d l H H':=fun c o e _ _=>s c o e
theorem eO.upd_d{d l:Addr}{H:Hp}{o:HO}:eO d l H (aO H d o):=fun b u e h1 _=>by rw[aH h1];exact e
theorem eO.upd_l{d l:Addr}{H:Hp}{o:HO}:eO d l H (aO H l o):=fun b u e _ h1=>by rw[aH h1];exact e
theorem aB{H:Hp}{p:Addr}(h:H p=none)(o:HO):aR H (aO H p o):=fun b u q=>by rw[aH (aI q h)];exact q
theorem bU.seed{H:Hp}{d l:Addr}{sd n:Int}{ls:List Int}(D:bU H d l sd n ls){v:Int}(h0:0<=v)(h1:v<2147483647):bU (aO H d (.dK (dY v n l))) d l v n ls:=
 ⟨aC,by rw[aH D.ne.symm];exact D.lc,h0,h1,D.n0,D.l0⟩
theorem bU.number{H:Hp}{d l:Addr}{sd n:Int}{ls:List Int}(D:bU H d l sd n ls){v:Int}(h0:0<=v):bU (aO H d (.dK (dY sd v l))) d l sd v ls:=
 ⟨aC,by rw[aH D.ne.symm];exact D.lc,D.s0,D.s1,h0,D.l0⟩
theorem bU.left{H:Hp}{d l:Addr}{sd n:Int}{ls ls':List Int}(D:bU H d l sd n ls)(h:∀x∈ls',0<=x):bU (aO H l (.lst (ls'.map V.int))) d l sd n ls':=
 ⟨by rw[aH D.ne];exact D.dc,aC,D.s0,D.s1,D.n0,h⟩
theorem bU.out{H H':Hp}{d l:Addr}{sd n:Int}{ls:List Int}(D:bU H d l sd n ls)(s:aR H H'):bU H' d l sd n ls:=⟨s _ _ D.dc,s _ _ D.lc,D.s0,D.s1,D.n0,D.l0⟩
theorem dN.same{H H':Hp}{d l:Addr}(D:dN H d l)(s:aR H H'):dN H' d l:=by obtain⟨sd,n,ls,q⟩:=D;exact⟨sd,n,ls,q.out s⟩
theorem bU.gs{H:Hp}{d l:Addr}{sd n:Int}{ls:List Int}(D:bU H d l sd n ls):fE H d (.str "seed") (some (.int sd)):=by rw[<-aK0 sd n l];exact fE.k (k:=Sum.inr "seed") D.dc
theorem bU.gn{H:Hp}{d l:Addr}{sd n:Int}{ls:List Int}(D:bU H d l sd n ls):fE H d (.str "number") (some (.int n)):=by rw[<-wW sd n l];exact fE.k (k:=Sum.inr "number") D.dc
theorem bU.gl{H:Hp}{d l:Addr}{sd n:Int}{ls:List Int}(D:bU H d l sd n ls):fE H d (.str "left") (some (.ref l)):=by rw[<-aJ4 sd n l];exact fE.k (k:=Sum.inr "left") D.dc
theorem bU.ps{H:Hp}{d l:Addr}{sd n:Int}{ls:List Int}(D:bU H d l sd n ls)(v:Int):kF H d (.str "seed") (.int v) (aO H d (.dK (dY v n l))):=by
 rw[<-aQ6 sd n v l];exact kF.k (k:=Sum.inr "seed") D.dc (aN (by show 3<=1000;decide))
theorem bU.pn{H:Hp}{d l:Addr}{sd n:Int}{ls:List Int}(D:bU H d l sd n ls)(v:Int):kF H d (.str "number") (.int v) (aO H d (.dK (dY sd v l))):=by
 rw[<-zQ sd n v l];exact kF.k (k:=Sum.inr "number") D.dc (aN (by show 3<=1000;decide))
inductive spDraw(vs:List V)(H:Hp)(Q:VK)(z1:XK):Prop
 |mk:∀(d l:Addr) (m:Int),(vs=[.ref d,.int m])->(dN H d l)->(0<m)->(m<2^64)->(∀(r:Int) (H':Hp),0<=r->r<m->dN H' d l->eO d l H H'->Q (.int r) H')->spDraw vs H Q z1
inductive aC0(K:PySem.W.Frag)(vs:List V)(H:Hp)(Q:VK)(z1:XK):Prop
 |mk:∀(a:Addr) (ns:List Int) (b:Int),(vs=[.ref a,.int b])->(bG K H a (ns.map V.int))->(ns.length<=63)->(0<=b)->(b<=1000)->(∀(d l:Addr) (H':Hp),H d=none->H l=none->dN H' d l->aR H H'->Q (.ref d) H')->aC0 K vs H Q z1
theorem nI{ns:List Int}{i:Nat}{y:V}(h:(ns.map V.int)[i]?=some y):∃z,y=V.int z/\ns[i]?=some z:=by
 rw[cm] at h
 cases e:ns[i]? with
 |none=>rw[e] at h;cases h
 |some z=>rw[e] at h;exact⟨z,(di h).symm,rfl⟩
section
variable {X:Cx}{pins:List (Addr×Obj)}{σ:St}{H:Hp}{s:Shared}
end
section
variable {X:Cx}
theorem wF:fG X (.builtin "isinstance") (fun xs H Q=>∃x n t b,xs=[x,.ty n]/\pF X.K H x t/\PySem.W.kitOne X.K t (.type n)=some b/\Q (.bl b) H):=by
 intro pins s σ H xs us Q I r h
 obtain⟨x,n,t,b,rfl,ty,e,q⟩:=h
 obtain⟨u,w',rfl,ru,rw'⟩:=nX r
 cases rw'
 exact aL8 I ru ty e fun tk=>⟨.bl b,H,I.tok tk,rfl,q⟩
theorem wP(hc:autoParam (X.calm=true) Rq0._auto_1):fG X (.builtin "all") (fun xs H Q=>∃(p:Addr) (bs:List Bool),xs=[.ref p]/\bG X.K H p (bs.map V.bl)/\Q (.bl (bs.all id)) H):=by
 intro pins s σ H xs us Q I r h
 obtain⟨p,bs,rfl,hq,q⟩:=h
 obtain⟨u,rfl,ru⟩:=nZ r
 cases ru
 obtain⟨its,rv,pl,hz⟩:=I.list hq
 have lp:p<s.heap.objs.size:=by
  obtain⟨o,e,_⟩:=pl.isList
  exact ao e
 refine call_all_walk (ma pl.isList ⟨s.heap.objs.size,_,_,_,_,_,fun i=>bs.getD i true,rfl,Walks.list (A:=X.A.in1) (I.ok.hd hc) s.heap.objs.size p (cg lp) its.toArray,⟨⟨_,bc _ rfl,rfl,rfl⟩,pl.isList.at fun o e=>ac _ e⟩,?_,?_⟩)
 ·intro i v s1 Q1 E1 hv hq1
  have hi:its[i]?=some v:=by simpa using hv
  have hl:=rv.length
  rw[ae] at hl
  have hb:i<bs.length:=by
   have:=(ap.mp hi).1
   lia
  obtain⟨u,hu,ru⟩:=rv.get (i:=i) (x:=V.bl bs[i]) (by rw[cm,ak hb];rfl)
  rw[hi] at hu
  cases hu
  cases ru
  have e:bs.getD i true=bs[i]:=by simp[List.getD,hb]
  dsimp only at hq1
  rw[e] at hq1
  exact ii hq1
 ·intro h' tk hk
  have kept:∀b o,s.heap.get? b=some o->h'.get? b=some o:=fun b o e=>hk b o (by
   intro z
   have z:b=s.heap.objs.size:=by simpa using z
   exact absurd (ao e) (by rw[z];exact gk _)) (ac _ e)
  refine⟨.bl (bs.all id),H,I.kept kept,?_,q⟩
  show Value.bool _=Value.bool _
  have hl:=rv.length
  rw[ae] at hl
  have e:((List.range its.toArray.size).all fun i=>bs.getD i true)=bs.all id:=by
   rw[br, <-hl]
   clear q hq rv pl hk hz hl
   rw[oo,na,na]
   constructor
   ·intro h b hb
    obtain⟨i,hi,e⟩:=xu hb
    have:=h i (wf.mpr hi)
    simp[List.getD,hi] at this
    rw[<-e];exact this
   ·intro h i hi
    have hi:=wf.mp hi
    simp[List.getD,hi]
    exact h _ (qg hi)
  rw[e]
end
section
variable {X:Cx}(K:PySem.W.Frag)
theorem oW(hK:autoParam (X.K=K) Rq0._auto_1):IxR X (xD K):=by subst hK;exact aG
theorem inK(hK:autoParam (X.K=K) Rq0._auto_1):kH X (compareOp .In) (rIn K false):=by subst hK;exact eX
end
theorem bI{c A B:Prop}[Decidable c](hc:c)(h:A):if c then A else B:=by rw[bv hc];exact h
theorem aW{c A B:Prop}[Decidable c](hc:¬c)(h:B):if c then A else B:=by rw[ay hc];exact h
def gT(lo:Int)(n:Nat):List Int:=(List.range n).map fun(i:Nat)=>lo+(i:Int)
theorem jU(lo:Int)(n:Nat):(gT lo n).length=n:=by simp[gT]
theorem zK{lo:Int}{n i:Nat}(h:i<n):(gT lo n)[i]?=some (lo+i):=by
 unfold gT
 rw[cm,List.getElem?_range h]
 rfl
theorem aI3:∀{xs:List V}{us:List Value},xs.length=us.length->(∀(i:Nat) (x:V) (u:Value),xs[i]?=some x->us[i]?=some u->bC x u)->bB xs us
 |[],[],_,_=> .nil
 |[],_::_,h,_=>by simp at h
 |_::_,[],h,_=>by simp at h
 |x::xs,u::us,h,k=> .cons (k 0 x u rfl rfl) (aI3 (by simpa using h) fun i y w e1 e2=>k (i+1) y w (by simpa using e1) (by simpa using e2))
def aY6(ta:TA):TE:=fun σ H Q=>ta σ H fun vs H1=>∃i j:Int,vs=[.int i,.int j]/\(-(2^62)<=i/\i<2^62/\ -(2^62)<=j/\j<2^62)/\(j-i).toNat<=sizeLine /\
 ∀l,H1 l=none->Q (.ref l) (aO H1 l (.lst ((gT i (j-i).toNat).map V.int)))
theorem zG{X:Cx}{a b:Expr}{ta:TA}{p1 p2 pos1 pos2:Pos}(g1:Gl X "list")(m1:X.mg "list"=none)(g2:Gl X "range")(m2:X.mg "range"=none)(ha:PA X [a,b] ta)(hc:autoParam (X.calm=true) Rq0._auto_1)
  (hs1:autoParam (starEach [.Call (.Name "range" p2) [a,b] [] pos2] X.env=[(false,eval (.Call (.Name "range" p2) [a,b] [] pos2) X.env)]) Rq0._auto_1)
  (hs:autoParam (starEach [a,b] X.env=[(false,eval a X.env),(false,eval b X.env)]) Rq0._auto_1) (hs2:autoParam (starEach [b] X.env=[(false,eval b X.env)]) Rq0._auto_1) :
  PE X (.Call (.Name "list" p1) [.Call (.Name "range" p2) [a,b] [] pos2] [] pos1) (aY6 ta):=by
 intro pins s σ H Q I h
 refine eo (gF I g1 m1 ly ?_)
 refine ef ?_ hs1 rfl
 rw[hs1]
 refine gq (eo (gF I g2 m2 boot_range ?_))
 refine ef (cL (ha pos2 pins s σ H _ I h) fun us s1 ⟨vs,H1,I1,r1,q1⟩=>?_) (by rw[hs,hs2]) (by rw[hs2];rfl)
 obtain⟨i,j,e,⟨q1,q2,q3,q4⟩,hz,q⟩:=q1
 subst e
 obtain⟨u,w',rfl,⟨t,rfl⟩,⟨t',rfl⟩⟩:=nX r1
 refine call_range_2 (jf ?_)
 have I2:aQ X pins σ H1 { s1 with heap:=s1.heap.push { cls:= .type "range",data:= .fields #[.int i t,.int j t',.int 1 s1.toks] },toks:=s1.toks+1 }:=I1.kept fun b o e=>ac _ e
 refine call_list_range (n:=(j-i).toNat) (I.ok.hd hc) (IsRange.new ..) (small_one q1 q2 q3 q4) (by rw[rangeSize_one];split<;>lia) (by rw[nz] at hz;lia) fun h' tk acc' c' keep at' its=>?_
 have hl:acc'.size=(j-i).toNat:=its.1
 refine⟨.ref _,aO H1 _ (.lst ((gT i (j-i).toNat).map V.int)),I2.laid (t':=tk) keep (ai _) ⟨by rw[ae,jU];exact hz,acc'.toList,c',?_,by rw[mz];exact at'⟩,rfl,q _ (I2.hok.fresh (ai _))⟩
 refine aI3 (by rw[ae,jU,jh,hl]) fun k x u e1 e2=>?_
 obtain⟨t2,rfl⟩:=its.2 k u (by simpa using e2)
 obtain⟨z,rfl,hk⟩:=nI e1
 have hlt:k<(j-i).toNat:=by
  have:=(ap.mp hk).1
  rwa [jU] at this
 rw[zK hlt] at hk
 cases hk
 exact⟨t2,by rw[lm]⟩
section
variable {X:Cx}
theorem cD3{es:List Expr}{k:Nat}{t:TGs}{n:Nat}{pos:Pos}(K:PySem.W.Frag)(hc:X.calm=true)(h:PGs X es t)(hK:autoParam (X.K=K) Rq0._auto_1)
  (hn:autoParam ((assignEach es X.env).length=n) Rq0._auto_1) (hst:autoParam ((assignEach es X.env).findIdx? (·.1)=none) Rq0._auto_1):PG X (.Tuple es k pos) (bQ0 K n t):=by subst hK;exact lH hc h hn hst
end
def xY(i:Int):Prop:= -(2^250)<i/\i<2^250
def cB2(i j:Int):Prop:=xY i/\xY j
theorem xY.bits{i:Int}(h:xY i):Builtin.Int.intBits i<=2^20:=by
 have h1:i.natAbs<2^250:=by
  have:=h.1;have:=h.2;lia
 exact db (pw h1) (by decide)
theorem vS{X:Cx}:kH X (binaryOp .Mult) (rI cB2 fun i j=> .int (i*j)):=opI fun _ _ _ _ _ _ _ hc q=>mul_int q (zn hc.1.bits hc.2.bits)
section
variable {X:Cx}
end
section
variable {X:Cx}{pins:List (Addr×Obj)}{σ:St}{H:Hp}{s:Shared}{h':Heap}
theorem aQ.turnedNew{T:Addr}{o:HO}{rs:List Addr}{t':Nat}(I:aQ X pins σ H s)(hf:∀b∈rs,lS X pins H b)(k:∀b u,b∉rs->s.heap.get? b=some u->h'.get? b=some u)
  (hp:s.heap.objs.size<=T) (new:bW X.prog X.w (aO H T o) h' T o):aQ X pins σ (aO H T o) { s with heap:=h',toks:=t' }:=by
 have fT:H T=none:=I.hok.fresh hp
 have nT:∀b u,s.heap.get? b=some u->b≠T:=fun b u e z=>absurd (ao e) (by rw[z];exact ko.mpr hp)
 have nrs:∀b u,H b=some u->b∉rs:=fun b u e z=>by rw[(hf b z).1] at e;cases e
 refine I.step (g':=s.gens) (d':=s.drawn) (ch:=rs) (fun b hb=>⟨(hf b hb).2.2.2.1,(hf b hb).2.1,(hf b hb).2.2.2.2.1,(hf b hb).2.2.2.2.2⟩) (fun b u _ _ hc e _=>k b u hc e) (fun b u _ _ hc e _=>⟨u.slots,k b u hc e⟩)
  (fun b u _ e n=>by rw[aH (nT b u e)];exact n) (fun b u hc e=>⟨u,k b u hc e⟩) (fun b xs e=>by rw[aH (aI e fT)];exact e) (fun b u v e=>by rw[aH (aI e fT)];exact e)
  (fun b ps e=>⟨#[],by rw[aH (aI e fT),e];simp⟩) (fun m hm=>?_) (fun b u e=>?_) I.bare
 ·obtain⟨u,es,ep,hu,r⟩:=hm
  exact⟨u,es,ep,k _ u (fun z=>(hf _ z).2.1 rfl) hu,r⟩
 ·by_cases hb:b=T
  ·subst hb
   rw[aC] at e
   cases e
   exact new
  ·rw[aH hb] at e
   refine(I.hok b u e).stay (fun c v hc q=>k c v ?_ q) (fun c q=>by rw[aH (aI q fT)];exact q) fun c xs q=>by rw[aH (aI q fT)];exact q
   rcases hc with z|z
   ·rw[z];exact nrs b u e
   ·exact nrs c _ z
theorem aQ.turnedL{rs:List Addr}{t':Nat}(I:aQ X pins σ H s)(hf:∀b∈rs,lS X pins H b)(k:∀b u,b∉rs->s.heap.get? b=some u->h'.get? b=some u):aQ X pins σ H { s with heap:=h',toks:=t' }:=by
 have nrs:∀b u,H b=some u->b∉rs:=fun b u e z=>by rw[(hf b z).1] at e;cases e
 refine I.step (g':=s.gens) (d':=s.drawn) (ch:=rs) (fun b hb=>⟨(hf b hb).2.2.2.1,(hf b hb).2.1,(hf b hb).2.2.2.2.1,(hf b hb).2.2.2.2.2⟩) (fun b u _ _ hc e _=>k b u hc e) (fun b u _ _ hc e _=>⟨u.slots,k b u hc e⟩)
  (fun b u _ _ n=>n) (fun b u hc e=>⟨u,k b u hc e⟩) (fun b xs e=>e) (fun b u v e=>e) (fun b ps e=>⟨#[],by rw[e];simp⟩) (fun m hm=>?_) (fun b u e=>?_) I.bare
 ·obtain⟨u,es,ep,hu,r⟩:=hm
  exact⟨u,es,ep,k _ u (fun z=>(hf _ z).2.1 rfl) hu,r⟩
 ·refine(I.hok b u e).stay (fun c v hc q=>k c v ?_ q) (fun c q=>q) fun c xs q=>q
  rcases hc with z|z
  ·rw[z];exact nrs b u e
  ·exact nrs c _ z
end
section
variable {prog:Program}{w:World}{A:Around}{E:Value->Shared->Prop}{s:Shared}
theorem bD5{J t:Addr}{i:Nat}{its:Array Value}{v:Value}{Q:Value->Shared->Prop}(a1:s.heap.IsTupleIter J t i)(a2:s.heap.IsTuple t its)(a3:its[i]?=some v)
  (k:∀g,g.IsTupleIter J t (i+1)->Heap.SameBut J s.heap g->Q v { s with heap:=g }):wpAny (model prog w) A (Builtin.SmallTypes.nextOf (.ref J)) Q E s:=by
 obtain⟨oJ,e1,e2,e3⟩:=id a1
 obtain⟨oT,e4,_,m,e5⟩:=a2
 unfold Builtin.SmallTypes.nextOf
 refine aa (fw (name:=Str.ofString "__next__") a1.typeIs kh (ip kh a1.typeIs sy ?_ (sr _)))
 show wpAny _ _ (field (.ref J) 0>>=_) _ _ s
 refine aa (dr e1 e3 (x:= .ref t) rfl ?_)
 refine(show wpAny _ _ (if (Value.ref t==Value.none)=true then _ else _) _ _ s from ?_)
 rw[ay (show ¬((Value.ref t==Value.none)=true) by exact bt)]
 show wpAny _ _ (field (.ref J) 1>>=_) _ _ s
 refine aa (dr e1 e3 (x:= .int i 0) rfl ?_)
 refine(show wpAny _ _ (seqItems? (.ref t)>>=_) _ _ s from aa (gm e4 e5 ?_))
 simp only[Int.toNat_natCast,a3]
 refine aa (mj e1 e3 (by simp) (aq ⟨v,rfl,aq (k _ ?_ (oj ..))⟩))
 exact⟨_,fg _ e1 (jy (im e3 _)),(uj ..).trans e2,by rw[im e3];simp[rawInt]⟩
theorem aA4{J t:Addr}{i:Nat}{its:Array Value}{Q:Value->Shared->Prop}(hh:A.handled=none)(a1:s.heap.IsTupleIter J t i)(a2:s.heap.IsTuple t its)(a3:its[i]?=none)
  (k:∀g e,Heap.ExtBut J s.heap g->(∃o,g.get? e=some o/\o.cls= .type "StopIteration")->E (.ref e) { s with heap:=g }):wpAny (model prog w) A (Builtin.SmallTypes.nextOf (.ref J)) Q E s:=by
 obtain⟨oJ,e1,e2,e3⟩:=id a1
 obtain⟨oT,e4,_,m,e5⟩:=a2
 unfold Builtin.SmallTypes.nextOf
 refine aa (fw (name:=Str.ofString "__next__") a1.typeIs kh (ip kh a1.typeIs sy ?_ (sr _)))
 show wpAny _ _ (field (.ref J) 0>>=_) _ _ s
 refine aa (dr e1 e3 (x:= .ref t) rfl ?_)
 refine(show wpAny _ _ (if (Value.ref t==Value.none)=true then _ else _) _ _ s from ?_)
 rw[ay (show ¬((Value.ref t==Value.none)=true) by exact bt)]
 show wpAny _ _ (field (.ref J) 1>>=_) _ _ s
 refine aa (dr e1 e3 (x:= .int i 0) rfl ?_)
 refine(show wpAny _ _ (seqItems? (.ref t)>>=_) _ _ s from aa (gm e4 e5 ?_))
 simp only[Int.toNat_natCast,a3]
 refine aa (qv (aa (mj e1 e3 (by simp) ?_)))
 refine(show wpAny _ _ (newExc (.type "StopIteration") []>>=_) _ _ _ from aa ?_)
 simp only[newExc,newTuple]
 refine aa (fz ?_ (by size_fits))
 refine aa (m:=firstArgMember _ _) (wpAny_of_eq (a:=Value.none) (by first|exact rfl|(simp only[firstArgMember];rfl)) ?_)
 refine fz ?_ (by size_fits)
 simp only[raiseNew]
 refine aa (wpAny_handled ?_)
 first|rw[hh]|rw[show A.in1.handled=none from hh]
 refine aa (aq (wpAny_throw ?_))
 exact k _ _ (((oj ..).extBut.push _).push _) ⟨_,bc _ rfl,rfl⟩
structure aE0(g:Heap)(n l1 l2:Addr)(i:Nat):Prop where
 z:IsZip g (n+4) (n+2) (n+3) .none
 I:IsPair g (n+2) (.ref n) (.ref (n+1))
 O:∃a b,IsPair g (n+3) a b
 i1:g.IsTupleIter n l1 i
 i2:g.IsTupleIter (n+1) l2 i
theorem bB7{n l1 l2:Addr}{i:Nat}{xs ys:Array Value}{x y:Value}{Q:Option Value->Shared->Prop}(o1:∀j,j<5->l1≠n+j)(o2:∀j,j<5->l2≠n+j)(Z:aE0 s.heap n l1 l2 i)
  (t1:s.heap.IsTuple l1 xs) (t2:s.heap.IsTuple l2 ys) (ex:xs[i]?=some x) (ey:ys[i]?=some y)
  (k:∀g,IsZip g (n+4) (n+2) (n+3) (rawInt s.heap.objs.size)->IsPair g (n+3) x y->g.IsTupleIter n l1 (i+1)->g.IsTupleIter (n+1) l2 (i+1)->IsPair g s.heap.objs.size x y ->
   (∀c o,c≠n+4->c≠n+3->c≠n->c≠n+1->s.heap.get? c=some o->g.get? c=some o)->Q (some (.ref s.heap.objs.size)) { s with heap:=g }) :
  wpAny (model prog w) A (pyNext (.ref (n+4))) Q E s:=by
 obtain⟨hz,hI,⟨a,b,hO⟩,h1,h2⟩:=Z
 have d0:n≠n+4/\n+1≠n+4/\n+2≠n+4/\n+3≠n+4/\n+3≠n/\n+3≠n+1/\n+1≠n:=by refine⟨?_,?_,?_,?_,?_,?_,?_⟩<;>(intro z;exact absurd z (by simp))
 obtain⟨d1,d2,d3,d4,d5,d6,d7⟩:=d0
 have l10:=o1 0 (by decide);have l11:=o1 1 (by decide);have l13:=o1 3 (by decide);have l14:=o1 4 (by decide)
 have l20:=o2 0 (by decide);have l21:=o2 1 (by decide);have l23:=o2 3 (by decide);have l24:=o2 4 (by decide)
 have hT:s.TypeIs (.ref (n+4)) "zip":=⟨_,hz,rfl⟩
 unfold pyNext
 refine aa (nu (fw (name:=Str.ofString "__next__") hT re (ip re hT zo ?_ (zb _))))
 refine(show wpAny _ _ (field (.ref (n+4)) 2>>=_) _ _ _ from aa (dr hz rfl (x:= .bool false) rfl ?_))
 refine(show wpAny _ _ (field (.ref (n+4)) 3>>=_) _ _ _ from aa (dr hz rfl (x:= .ref (n+2)) rfl ?_))
 refine aa (gm hI rfl ?_)
 refine(show wpAny _ _ (Builtin.SmallTypes.ownedTupleIsFree (.ref (n+4))>>=_) _ _ _ from aa ?_)
 unfold Builtin.SmallTypes.ownedTupleIsFree
 refine aa (dr hz rfl (x:= .none) rfl (aq ?_))
 simp only[if_true]
 refine aa (qv (aa (dr hz rfl (x:= .ref (n+3)) rfl (aa (jr hz (by simp) fun g1 z1 s1=>?_)))))
 have z1:IsZip g1 (n+4) (n+2) (n+3) .ellipsis:=z1
 refine aa ?_
 simp only[List.zipIdx_cons,List.zipIdx_nil,List.forIn_cons,List.forIn_nil]
 refine aa (aa (ue (show wpAny _ _ (Builtin.SmallTypes.nextOf (.ref n)>>=_) _ _ _ from aa (bD5 (h1.at fun o e=>s1.extBut _ _ d1 e) (t1.at fun o e=>s1.extBut _ _ l14 e) ex fun g2 j2 s2=>aq ?_))))
 have O2:IsPair g2 (n+3) a b:=s2.extBut _ _ d5 (s1.extBut _ _ d4 hO)
 refine aa (gm O2 rfl (aa (xf O2 fun g3 O3 s3=>?_)))
 have O3:IsPair g3 (n+3) x b:=O3
 refine aa (vz (aq ?_))
 refine aa (aa (ue (show wpAny _ _ (Builtin.SmallTypes.nextOf (.ref (n+1))>>=_) _ _ _ from aa (bD5 (h2.at fun o e=>s3.extBut _ _ d6.symm (s2.extBut _ _ d7 (s1.extBut _ _ d2 e))) (t2.at fun o e=>s3.extBut _ _ l23 (s2.extBut _ _ l20 (s1.extBut _ _ l24 e))) ey fun g4 j4 s4=>aq ?_))))
 have O4:IsPair g4 (n+3) x b:=s4.extBut _ _ d6 O3
 refine aa (gm O4 rfl (aa (xf O4 fun g5 O5 s5=>?_)))
 have O5:IsPair g5 (n+3) x y:=O5
 refine aa (vz (aq (aq ?_)))
 refine aa (gm O5 rfl (aa (wpAny_newTuple ?_)))
 have sz:g5.objs.size=s.heap.objs.size:=by rw[s5.1,s4.1,s3.1,s2.1,s1.1]
 have z5:IsZip g5 (n+4) (n+2) (n+3) .ellipsis:=s5.extBut _ _ d4.symm (s4.extBut _ _ d2.symm (s3.extBut _ _ d4.symm (s2.extBut _ _ d1.symm z1)))
 have k5:∀c o,c≠n+4->c≠n+3->c≠n->c≠n+1->s.heap.get? c=some o->g5.get? c=some o:=fun c o c1 c2 c3 c4 e=>s5.extBut _ _ c2 (s4.extBut _ _ c4 (s3.extBut _ _ c2 (s2.extBut _ _ c3 (s1.extBut _ _ c1 e))))
 have j5:g5.IsTupleIter n l1 (i+1):=j2.at fun o e=>s5.extBut _ _ d5.symm (s4.extBut _ _ d7.symm (s3.extBut _ _ d5.symm e))
 have m5:g5.IsTupleIter (n+1) l2 (i+1):=j4.at fun o e=>s5.extBut _ _ d6.symm e
 have zlt:n+4<g5.objs.size:=ao z5
 refine(show wpAny _ _ (Builtin.SmallTypes.ownedTupleHandOut (.ref (n+4)) (.ref g5.objs.size)>>=_) _ _ _ from aa ?_)
 unfold Builtin.SmallTypes.ownedTupleHandOut
 have z6:IsZip (g5.push { cls:= .type "tuple",data:= .seq #[x,y] }) (n+4) (n+2) (n+3) .ellipsis:=ac _ z5
 refine aa (jr z6 (by simp) fun g7 z7 s7=>?_)
 have z7:IsZip g7 (n+4) (n+2) (n+3) (rawInt g5.objs.size):=z7
 refine jr z7 (by simp) fun g8 z8 s8=>?_
 have z8:IsZip g8 (n+4) (n+2) (n+3) (rawInt g5.objs.size):=z8
 have up:∀c o,c≠n+4->g5.get? c=some o->g8.get? c=some o:=fun c o c1 e=>s8.extBut _ _ c1 (s7.extBut _ _ c1 (ac _ e))
 have T8:IsPair g8 g5.objs.size x y:=s8.extBut _ _ (dq zlt) (s7.extBut _ _ (dq zlt) (bc _ rfl))
 rw[sz] at z8 T8
 refine aq ⟨_,rfl,aq ?_⟩
 refine(show Q (some (.ref g5.objs.size)) _ from ?_)
 rw[sz]
 exact k g8 z8 (up _ _ d4 O5) (j5.at fun o e=>up _ o d1 e) (m5.at fun o e=>up _ o d2 e) T8 fun c o c1 c2 c3 c4 e=>up c o c1 (k5 c o c1 c2 c3 c4 e)
theorem aR5{n l1 l2:Addr}{i:Nat}{xs:Array Value}{Q:Option Value->Shared->Prop}(hh:A.handled=none)(o1:∀j,j<5->l1≠n+j)(Z:aE0 s.heap n l1 l2 i)
  (t1:s.heap.IsTuple l1 xs) (ex:xs[i]?=none)
  (k:∀g,(∀c o,c≠n+4->c≠n->s.heap.get? c=some o->g.get? c=some o)->Q none { s with heap:=g }):wpAny (model prog w) A (pyNext (.ref (n+4))) Q E s:=by
 obtain⟨hz,hI,⟨a,b,hO⟩,h1,h2⟩:=Z
 have d1:n≠n+4:=by intro z;exact absurd z (by simp)
 have l14:=o1 4 (by decide)
 have hT:s.TypeIs (.ref (n+4)) "zip":=⟨_,hz,rfl⟩
 unfold pyNext
 refine aa (nu (fw (name:=Str.ofString "__next__") hT re (ip re hT zo ?_ (zb _))))
 refine(show wpAny _ _ (field (.ref (n+4)) 2>>=_) _ _ _ from aa (dr hz rfl (x:= .bool false) rfl ?_))
 refine(show wpAny _ _ (field (.ref (n+4)) 3>>=_) _ _ _ from aa (dr hz rfl (x:= .ref (n+2)) rfl ?_))
 refine aa (gm hI rfl ?_)
 refine(show wpAny _ _ (Builtin.SmallTypes.ownedTupleIsFree (.ref (n+4))>>=_) _ _ _ from aa ?_)
 unfold Builtin.SmallTypes.ownedTupleIsFree
 refine aa (dr hz rfl (x:= .none) rfl (aq ?_))
 simp only[if_true]
 refine aa (qv (aa (dr hz rfl (x:= .ref (n+3)) rfl (aa (jr hz (by simp) fun g1 z1 s1=>?_)))))
 have z1:IsZip g1 (n+4) (n+2) (n+3) .ellipsis:=z1
 refine aa ?_
 simp only[List.zipIdx_cons,List.zipIdx_nil,List.forIn_cons,List.forIn_nil]
 refine aa (aa (ue (show wpAny _ _ (Builtin.SmallTypes.nextOf (.ref n)>>=_) _ _ _ from aa (aA4 hh (h1.at fun o e=>s1.extBut _ _ d1 e) (t1.at fun o e=>s1.extBut _ _ l14 e) ex fun g2 e s2 he=>?_))))
 obtain⟨oe,hoe,hce⟩:=he
 have z2:IsZip g2 (n+4) (n+2) (n+3) .ellipsis:=s2 _ _ d1.symm z1
 have ez:e≠n+4:=fun q=>by subst q;rw[z2] at hoe;cases hoe;simp at hce
 refine jr z2 (by simp) fun g3 _ s3=>?_
 refine aa (ux (T:="StopIteration") (b:=true) ⟨oe,s3.extBut _ _ ez hoe,hce⟩ isSubtype_stop ?_)
 exact aq (k _ fun c o c1 c2 q=>s3.extBut _ _ c1 (s2 _ _ c2 (s1.extBut _ _ c1 q)))
end
abbrev zA(g:Heap)(l1:Addr):Heap:=g.push { cls:= .type "tuple_iterator",data:= .fields #[.ref l1,.int 0 0] }
abbrev zB(g:Heap)(l1 l2:Addr):Heap:=(zA g l1).push { cls:= .type "tuple_iterator",data:= .fields #[.ref l2,.int 0 0] }
abbrev zC(g:Heap)(l1 l2:Addr):Heap:=(zB g l1 l2).push { cls:= .type "tuple",data:= .seq #[.ref g.objs.size,.ref (zA g l1).objs.size] }
abbrev zD(g:Heap)(l1 l2:Addr):Heap:=(zC g l1 l2).push { cls:= .type "tuple",data:= .seq #[.none,.none] }
abbrev zE(g:Heap)(l1 l2:Addr):Heap:=(zD g l1 l2).push { cls:= .type "zip",data:= .fields #[.none,.bool false,.bool false,.ref (zB g l1 l2).objs.size,.ref (zC g l1 l2).objs.size] }
theorem bF3(l1 l2:Addr)(xs ys:Array Value):Meets (Builtin.«zip.__new__» ⟨[.type "zip",.ref l1,.ref l2],[]⟩) (fun _ R s=>s.heap.IsTuple l1 xs/\s.heap.IsTuple l2 ys /\
   R (.ok (.ret (.ref (zD s.heap l1 l2).objs.size))) { s with heap:=zE s.heap l1 l2 }):=
 .of_wp fun prog w A R s h=>by
  obtain⟨q,g,d,tk,os⟩:=s;obtain⟨t1,t2,h⟩:=h
  have hS:=PySem.sub_zip
  have T1:Heap.IsTuple (Shared.heap ⟨q,g,d,tk,os⟩) l1 xs:=t1
  have T2:Heap.IsTuple (Shared.heap ⟨q.push { cls:= .type "tuple_iterator",data:= .fields #[.ref l1,.int 0 0] },g,d,tk,os⟩) l2 ys:=t2.at fun o e=>ac _ e
  wp_walk using sx T1,sx T2
  exact⟨_,rfl,h⟩
section
variable {prog:Program}{w:World}{A:Around}{E:Value->Shared->Prop}{s:Shared}
theorem aL5{l1 l2:Addr}{xs ys:Array Value}{Q:Value->Shared->Prop}(t1:s.heap.IsTuple l1 xs)(t2:s.heap.IsTuple l2 ys)
  (k:∀g,aE0 g s.heap.objs.size l1 l2 0->(∀c o,s.heap.get? c=some o->g.get? c=some o)->Q (.ref (s.heap.objs.size+4)) { s with heap:=g }) :
  wpAny (model prog w) A (call (.type "zip") [.ref l1,.ref l2]) Q E s:=by
 refine callType_new F.called_zip (by decide) (zp _ _) (F.newCall_zip_2 _ _) (fun obj=>xg obj _ _) F.entry_zip_new (bF3 l1 l2 xs ys) ⟨t1,t2,?_⟩
 have n1:(zA s.heap l1).objs.size=s.heap.objs.size+1:=by rw[ir]
 have n2:(zB s.heap l1 l2).objs.size=s.heap.objs.size+2:=by rw[ir,n1]
 have n3:(zC s.heap l1 l2).objs.size=s.heap.objs.size+3:=by rw[ir,n2]
 have n4:(zD s.heap l1 l2).objs.size=s.heap.objs.size+4:=by rw[ir,n3]
 have b5:(zE s.heap l1 l2).get? (zD s.heap l1 l2).objs.size=some _:=bc _ rfl
 have b4:(zE s.heap l1 l2).get? (zC s.heap l1 l2).objs.size=some _:=ac _ (bc _ rfl)
 have b3:(zE s.heap l1 l2).get? (zB s.heap l1 l2).objs.size=some _:=ac _ (ac _ (bc _ rfl))
 have b2:(zE s.heap l1 l2).get? (zA s.heap l1).objs.size=some _:=ac _ (ac _ (ac _ (bc _ rfl)))
 have b1:(zE s.heap l1 l2).get? s.heap.objs.size=some _:=ac _ (ac _ (ac _ (ac _ (bc _ rfl))))
 show _/\_
 rw[n2,n3,n4] at b5
 rw[n1,n2] at b3
 rw[n3] at b4
 rw[n1] at b2
 rw[n4]
 exact⟨⟨_,b5,rfl⟩,k _ ⟨b5,b3,⟨_,_,b4⟩,⟨_,b1,rfl,rfl⟩,⟨_,b2,rfl,rfl⟩⟩ fun c o q=>ac _ (ac _ (ac _ (ac _ (ac _ q))))⟩
end
def Itz(K : PySem.W.Frag)(a b : Addr) : It:=
  ⟨fun i H => ∃xs ys,aU K H a xs /\ aU K H b ys /\ xs.length = ys.length /\ i<xs.length,
   fun i H x H' => ∃t,H t = none /\ x = .ref t /\ ∀xs ys,aU K H a xs -> aU K H b ys -> ∃u v,xs[i]? = some u /\ ys[i]? = some v /\ H' = aO H t (.tup [u,v]),
   fun i H => ∃xs,aU K H a xs /\ xs.length <= i⟩
theorem bD1{P:Program}{w:World}{K:PySem.W.Frag}{elts:List Expr}{x1:Nat}{pos:Pos}(a b n:Addr)(ha:a<n)(hb:b<n) :
  aB0 P w K (.Tuple elts x1 pos) (Itz K a b) [n,n+1,n+2,n+3,n+4] (n+4) (fun i h=>aE0 h n a b i) where
 mem:=by simp
 obj:=fun i h Z c hc=>by
  obtain⟨hz,hI,⟨u,v,hO⟩,⟨o1,e1,c1,d1⟩,⟨o2,e2,c2,d2⟩⟩:=Z
  simp only[List.mem_cons,List.not_mem_nil,or_false] at hc
  rcases hc with rfl|rfl|rfl|rfl|rfl
  ·exact⟨_,e1,fun v z=>by rw[d1] at z;cases z⟩
  ·exact⟨_,e2,fun v z=>by rw[d2] at z;cases z⟩
  ·exact⟨_,hI,fun v z=>by cases z⟩
  ·exact⟨_,hO,fun v z=>by cases z⟩
  ·exact⟨_,hz,fun v z=>by cases z⟩
 keep:=fun i h h' Z k=>⟨k _ (by simp) _ Z.z,k _ (by simp) _ Z.I,let⟨u,v,q⟩:=Z.O;⟨u,v,k _ (by simp) _ q⟩,Z.i1.at fun o e=>k _ (by simp) o e,Z.i2.at fun o e=>k _ (by simp) o e⟩
 item:=by
  intro X hP hw hK hc i pins s σ H E I hf Z hg
  subst hP hw hK
  obtain⟨xs,ys,q1,q2,hl,hi⟩:=hg
  obtain⟨is1,r1,p1,_⟩:=I.tuple q1
  obtain⟨is2,r2,p2,_⟩:=I.tuple q2
  obtain⟨u,hu,ru⟩:=r1.get (i:=i) (x:=xs[i]) (by simp[hi])
  obtain⟨v,hv,rv⟩:=r2.get (i:=i) (x:=ys[i]'(by lia)) (by simp[show i<ys.length by lia])
  refine bB7 (fun j _=>cg (bw ha (gy ..))) (fun j _=>cg (bw hb (gy ..))) Z (show s.heap.IsTuple a is1.toArray from p1) (show s.heap.IsTuple b is2.toArray from p2)
   (x:=u) (y:=v) (by simpa using hu) (by simpa using hv) fun g z1 O1 j1 m1 T1 k1=>⟨_,rfl,wpAny_letOwnedTupleGo_zip z1 fun g2 z2 sb=>?_⟩
  have nT:s.heap.objs.size≠n+4:=dq (ao Z.z)
  have kk:∀c o,c∉[n,n+1,n+2,n+3,n+4]->s.heap.get? c=some o->g2.get? c=some o:=fun c o hc e=>by
   simp only[List.mem_cons,List.not_mem_nil,or_false,not_or] at hc
   exact(sb.2 c hc.2.2.2.2).trans (k1 c o hc.2.2.2.2 hc.2.2.2.1 hc.1 hc.2.1 e)
  have TT:IsPair g2 s.heap.objs.size u v:=(sb.2 _ nT).trans T1
  have d:∀j,j<4->n+j≠n+4:=fun j hj z=>absurd (Nat.add_left_cancel z) (cg hj)
  have I2:=I.turnedNew (T:=s.heap.objs.size) (o:= .tup [xs[i],ys[i]'(by lia)]) (rs:=[n,n+1,n+2,n+3,n+4]) (t':=s.toks) hf kk (ai _) ⟨by show 2<=sizeLine;decide,[u,v],.cons ru (.cons rv .nil),⟨_,TT,rfl,_,rfl,rfl⟩⟩
  refine⟨.ref s.heap.objs.size,_,I2,rfl,⟨_,I.fresh,rfl,fun xs' ys' w1 w2=>⟨xs[i],ys[i]'(by lia),?_,?_,rfl⟩⟩,⟨z2,(sb.2 _ (d 2 (by decide))).trans (k1 _ _ (d 2 (by decide)) (by simp) (by simp) (by simp) Z.I),⟨u,v,(sb.2 _ (d 3 (by decide))).trans O1⟩,j1.at fun o e=>(sb.2 _ (d 0 (by decide))).trans e,m1.at fun o e=>(sb.2 _ (d 1 (by decide))).trans e⟩,fun c hc=>?_⟩
  ·rw[I.tuple_inj w1 q1];simp[hi]
  ·rw[I.tuple_inj w2 q2];simp[show i<ys.length by lia]
  ·rw[aH (fun z=>?_)]
   ·exact(hf c hc).1
   ·obtain⟨o,e,_⟩:∃o,s.heap.get? c=some o/\True:=by
     obtain⟨hz,hI,⟨u',v',hO⟩,⟨o1,e1,c1,d1⟩,⟨o2,e2,c2,d2⟩⟩:=Z
     simp only[List.mem_cons,List.not_mem_nil,or_false] at hc
     rcases hc with rfl|rfl|rfl|rfl|rfl
     ·exact⟨_,e1,trivial⟩
     ·exact⟨_,e2,trivial⟩
     ·exact⟨_,hI,trivial⟩
     ·exact⟨_,hO,trivial⟩
     ·exact⟨_,hz,trivial⟩
    exact absurd (ao e) (by rw[z];exact gk _)
 done:=by
  intro X hP hw hK hc i pins s σ H E I hf Z hg
  subst hP hw hK
  obtain⟨xs,q1,hx⟩:=hg
  obtain⟨is1,r1,p1,_⟩:=I.tuple q1
  have hl:=r1.length
  refine aR5 (I.ok.hd hc) (fun j _=>cg (bw ha (gy ..))) Z (show s.heap.IsTuple a is1.toArray from p1) (by simp;lia) fun g k=>⟨rfl,I.turnedL (rs:=[n,n+1,n+2,n+3,n+4]) (t':=s.toks) hf fun c o hc e=>?_⟩
  simp only[List.mem_cons,List.not_mem_nil,or_false,not_or] at hc
  exact k c o hc.2.2.2.2 hc.1 e
 self:=fun _ _ _ _ _ Z h=>uy Z.z h
def cK6(K:PySem.W.Frag)(ta:TA):TI:=fun σ H R=>ta σ H fun vs H1=>∃a b,vs=[.ref a,.ref b]/\(∃xs,aU K H1 a xs)/\(∃ys,aU K H1 b ys)/\R (Itz K a b) H1
theorem bR7{X:Cx}{a b:Expr}{ta:TA}{p pos:Pos}{elts:List Expr}{x1:Nat}{tpos:Pos}(hg:Gl X "zip")(hm:X.mg "zip"=none)(ha:PA X [a,b] ta)(hs:autoParam (starEach [a,b] X.env=[(false,eval a X.env),(false,eval b X.env)]) Rq0._auto_1)(hs2:autoParam (starEach [b] X.env=[(false,eval b X.env)]) Rq0._auto_1) :
  PI X (.Tuple elts x1 tpos) (.Call (.Name "zip" p) [a,b] [] pos) (cK6 X.K ta):=by
 intro pins s σ H R I h
 refine eo (gF I hg hm wp (ef (cL (ha pos pins s σ H _ I h) fun us s1 ⟨vs,H1,I1,r1,q1⟩=>?_) (by rw[hs,hs2]) (by rw[hs2];rfl)))
 obtain⟨a',b',rfl,⟨xs,q1⟩,⟨ys,q2⟩,q⟩:=q1
 obtain⟨u,v,rfl,ru,rv⟩:=nX r1
 cases ru
 cases rv
 obtain⟨is1,_,p1,_⟩:=I1.tuple q1
 obtain⟨is2,_,p2,_⟩:=I1.tuple q2
 have la:a'<s1.heap.objs.size:=by obtain⟨o,e,_⟩:=p1;exact ao e
 have lb:b'<s1.heap.objs.size:=by obtain⟨o,e,_⟩:=p2;exact ao e
 refine aL5 (show s1.heap.IsTuple a' is1.toArray from p1) (show s1.heap.IsTuple b' is2.toArray from p2) fun g Z k=>uy Z.z ?_
 have I2:aQ X pins σ H1 { s1 with heap:=g }:=I1.kept (t':=s1.toks) k
 refine⟨s1.heap.objs.size+4,_,_,Itz X.K a' b',H1,rfl,I2,bD1 a' b' s1.heap.objs.size la lb,Z,fun c hc=>?_,q⟩
 have hge:s1.heap.objs.size<=c:=by
  simp only[List.mem_cons,List.not_mem_nil,or_false] at hc
  rcases hc with rfl|rfl|rfl|rfl|rfl
  ·exact ai _
  all_goals exact gy ..
 exact I1.fpOk hge (I1.hok.fresh hge)
section
variable {g:TG}{tc:TT}{te:TE}
theorem aR7{K:PySem.W.Frag}{a b:Addr}{xs ys:List V}{Kf:List V->Hp->Prop}{σ0:St}{H1:Hp}(Pv:Nat->List V->St->Hp->Prop)(hz:xs.length<sizeLine)(hxy:xs.length=ys.length)(h0:Pv 0 [] σ0 H1)(hb:∀i zs σ H,Pv i zs σ H->zs.length<=i)
  (hl:∀i zs σ H,i<=xs.length->Pv i zs σ H->aU K H a xs/\aU K H b ys)
  (hs:∀i x y zs σ H t,xs[i]?=some x->ys[i]?=some y->Pv i zs σ H->H t=none->g (.ref t) σ (aO H t (.tup [x,y])) fun σ2 H2=>tc σ2 H2 fun b H3=>if b=true then te σ2 H3 fun v H4=>Pv (i+1) (zs++[v]) σ2 H4 else Pv (i+1) zs σ2 H3)
  (hd:∀zs σ H,Pv xs.length zs σ H->Kf zs H):rQ (Itz K a b) g tc te Kf σ0 H1:=by
 refine⟨fun i m zs σ H=>m=xs.length-i/\i<=xs.length/\Pv i zs σ H,⟨xs.length,by simp,bo _,h0⟩,?_⟩
 rintro i m zs σ H ⟨rfl,hi,p⟩
 obtain⟨q1,q2⟩:=hl i zs σ H hi p
 refine⟨cq (hb _ _ _ _ p) (cq hi hz),?_⟩
 by_cases hlt:i<xs.length
 ·refine .inr ⟨⟨xs,ys,q1,q2,hxy,hlt⟩,Pv (i+1),fun zs' σ' H' p'=>⟨xs.length-(i+1),iw hlt (io i),rfl,hlt,p'⟩,fun x H' y=>?_⟩
  obtain⟨t,ht,rfl,w⟩:=y
  obtain⟨u,v,e1,e2,rfl⟩:=w xs ys q1 q2
  exact hs i u v zs σ H t e1 e2 p ht
 ·have e:i=xs.length:=by lia
  subst e
  exact .inl ⟨⟨xs,q1,ai _⟩,hd zs σ H p⟩
end
section
variable {X:Cx}{tg:Expr}
inductive rSlS(x:V)(lo:Option Int)(hi:Option Int)(H:Hp)(Q:VK):Prop
 |mk:∀z,(x= .str z)->(z.length<=sizeLine)->(Q (.str (Txt.slice z lo hi)) H)->rSlS x lo hi H Q
theorem aU4:SlR X rSlS:=by
 intro pins s σ H x v vl vu lo hi sl Q I rx hs pl pu h
 obtain⟨z,rfl,hz,q⟩:=h
 obtain⟨t,rfl⟩:=rx
 refine⟨"str",_,F.slot_str_getitem.lookup,zy _ _ _,?_⟩
 have fin:∀{lo hi:Option Int},Q (.str (Txt.slice z lo hi)) H->∀t' k,EP X pins σ Q (.str (Txt.slice z lo hi) t') { s with toks:=k }:=fun q t' k=>⟨.str _,H,I.tok k,⟨_,rfl⟩,q⟩
 cases pl with
 |none =>
  cases pu with
  |none=>exact kz (l:=none) (u:=none) (st:=none) hs rfl (rf ⟨db (pd z _ _) hz,fin q⟩)
  |int j u=>exact kz (l:=none) (u:=some (j,u)) (st:=none) hs rfl (rf ⟨db (pd z _ _) hz,fin q⟩)
 |int i u' =>
  cases pu with
  |none=>exact kz (l:=some (i,u')) (u:=none) (st:=none) hs rfl (rf ⟨db (pd z _ _) hz,fin q⟩)
  |int j u=>exact kz (l:=some (i,u')) (u:=some (j,u)) (st:=none) hs rfl (rf ⟨db (pd z _ _) hz,fin q⟩)
theorem sE:∀{ys:List Str}{us:List Value},bB (ys.map V.str) us->StrsAre us ys
 |[],_,r=>by
  cases r
  exact .nil
 |y::ys,_,r=>by
  cases r with
  |cons r1 r2 =>
   obtain⟨t,rfl⟩:=r1
   exact .cons y t (sE r2)
inductive bO1(K:PySem.W.Frag)(x:V)(vs:List V)(H:Hp)(Q:VK):Prop
 |mk:∀(sep:Str) (p:Addr) (ys:List Str),(x= .str sep)->(vs=[.ref p])->(bG K H p (ys.map V.str))->((ys.map (·.length)).sum+ys.length*sep.length<=16777216)->(Q (.str (Txt.join sep ys)) H)->bO1 K x vs H Q
theorem bF0:MtR X "str.join" (bO1 X.K):=by
 intro pins s σ H x xs v us Q I rx rs h
 obtain⟨sep,p,ys,rfl,rfl,hq,hz,q⟩:=h
 obtain⟨t,rfl⟩:=rx
 obtain⟨u,rfl,ru⟩:=rs.one
 cases ru
 obtain⟨its,rv,pl,_⟩:=I.list hq
 exact join_list pl.isList (by simpa using sE rv) hz fun t' k=>⟨.str _,H,I.tok k,⟨_,rfl⟩,q⟩
end
section
variable {X:Cx}
theorem zH:kH X (binaryOp .Mult) (fun x y H Q=>∃(z:Str) (n:Int),x= .str z/\y= .int n/\z.length=1/\(n=0\/n=1)/\Q (.str (if n=0 then Str.empty else z)) H):=by
 intro pins s σ H x y v u Q I rx ry h
 obtain⟨z,n,rfl,rfl,hz,hn,q⟩:=h
 obtain⟨t,rfl⟩:=rx
 obtain⟨t',rfl⟩:=ry
 rcases hn with rfl|rfl
 ·exact PySem.P.mul_str_none (by decide) (by decide) ⟨.str _,H,I.tok _,⟨_,rfl⟩,q⟩
 ·refine PySem.P.mul_str (by decide) (fun _ c=>absurd c (by simp)) (fun _ c=>absurd c (by simp)) ?_
  rw[ay (by decide),bv (by simp)]
  exact⟨.str z,H,I,⟨_,rfl⟩,q⟩
end
theorem aZ9{κ:Type}:∀{kvs:List (κ×V)}{vs:List (κ×Value)}{i:Nat}{k:κ}{v:V},KV kvs vs->kvs[i]?=some (k,v)->∃u,vs[i]?=some (k,u)/\bC v u
 |_,_,_,_,_,.nil,e=>by simp at e
 |_,_,0,_,_,.cons r _,e=>by
  simp at e
  subst e
  obtain⟨r1,r2⟩:=r
  exact⟨_,by simp;exact wy r1.symm rfl,r2⟩
 |_,_,i+1,_,_,.cons _ r,e=>by
  obtain⟨u,e1,e2⟩:=aZ9 (i:=i) r (by simpa using e)
  exact⟨u,by simpa using e1,e2⟩
theorem bH1{k:Key}{u:Value}(h:nK k u=true):bC (kV k) u:=by
 rcases cJ h with⟨i,t,rfl,rfl⟩|⟨x,t,rfl,rfl⟩
 ·exact⟨t,rfl⟩
 ·exact⟨t,rfl⟩
section
variable {X:Cx}
variable {g:TG}{tc:TT}{te:TE}
end
open PySem.AutoSeq1 (wpAny_loadPart')
section
variable {prog:Program}{w:World}{A:Around}{E:Value->Shared->Prop}{s:Shared}
end
def cE6(i j:Int):Prop:=0<j/\j<2^200*2^200
theorem wU{X:Cx}:kH X (binaryOp .FloorDiv) (rI cE6 fun i j=> .int (i / j)):=opI fun i j _ _ _ _ _ hc q=>by
 obtain⟨h0,h1⟩:=hc
 refine yg (by lia) ?_ (.inl (oz ?_))
 ·rw[nt i (by lia)];exact q
 ·have h2:j.natAbs<2^200*2^200:=by lia
  rw[<-Nat.pow_add] at h2
  have h3:j.natAbs≠0:=by lia
  have h4:j.natAbs.log2<200+200:=(zj h3).mpr h2
  exact bw h4 (by decide)
open PySem PySem.Spec PyProof.Rows
section
variable {prog:Program}{w:World}{A:Around}{E:Value->Shared->Prop}{s:Shared}
end
section
variable {X:Cx}{pins:List (Addr×Obj)}{σ:St}{H:Hp}{s:Shared}{a:Addr}{y v:V}{u r:Value}{A:Around}{E:Value->Shared->Prop}
end
section
variable {X:Cx}{pins:List (Addr×Obj)}{σ:St}{H:Hp}{s:Shared}{A:Around}{E:Value->Shared->Prop}
end
open PySem PySem.Spec PyProof.Rows PySem.W
section
variable {n:Nat}(h0:0<n)
include h0
end
open PySem PySem.Spec PyProof.Rows PySem.W HT
section
variable {prog:Program}{w:World}{A:Around}{E:Value->Shared->Prop}{s:Shared}
end
open PySem PySem.Spec PyProof.Rows
section
variable {prog:Program}{w:World}{A:Around}{E:Value->Shared->Prop}{s:Shared}
theorem aV9{J t:Addr}{i:Nat}{its:Array Value}{v:Value}{Q:Value->Shared->Prop}(a1:s.heap.IsListIter J t i)(a2:s.heap.IsList t its)(a3:its[i]?=some v)
  (k:∀g,g.IsListIter J t (i+1)->Heap.SameBut J s.heap g->Q v { s with heap:=g }):wpAny (model prog w) A (Builtin.SmallTypes.nextOf (.ref J)) Q E s:=by
 obtain⟨oJ,e1,e2,e3⟩:=id a1
 obtain⟨oT,e4,_,m,e5⟩:=a2
 unfold Builtin.SmallTypes.nextOf
 refine aa (fw (name:=Str.ofString "__next__") a1.typeIs ph (ip ph a1.typeIs xw ?_ (yh _)))
 show wpAny _ _ (field (.ref J) 0>>=_) _ _ s
 refine aa (dr e1 e3 (x:= .ref t) rfl ?_)
 refine(show wpAny _ _ (if (Value.ref t==Value.none)=true then _ else _) _ _ s from ?_)
 rw[ay (show ¬((Value.ref t==Value.none)=true) by exact bt)]
 show wpAny _ _ (field (.ref J) 1>>=_) _ _ s
 refine aa (dr e1 e3 (x:= .int i 0) rfl ?_)
 refine(show wpAny _ _ (seqItems? (.ref t)>>=_) _ _ s from aa (gm e4 e5 ?_))
 simp only[Int.toNat_natCast,a3]
 refine aa (mj e1 e3 (by simp) (aq ⟨v,rfl,aq (k _ ?_ (oj ..))⟩))
 exact⟨_,fg _ e1 (jy (im e3 _)),(uj ..).trans e2,by rw[im e3];simp[rawInt]⟩
theorem aB5{J t:Addr}{i:Nat}{its:Array Value}{Q:Value->Shared->Prop}(hh:A.handled=none)(a1:s.heap.IsListIter J t i)(a2:s.heap.IsList t its)(a3:its[i]?=none)
  (k:∀g e,Heap.ExtBut J s.heap g->(∃o,g.get? e=some o/\o.cls= .type "StopIteration")->E (.ref e) { s with heap:=g }):wpAny (model prog w) A (Builtin.SmallTypes.nextOf (.ref J)) Q E s:=by
 obtain⟨oJ,e1,e2,e3⟩:=id a1
 obtain⟨oT,e4,_,m,e5⟩:=a2
 unfold Builtin.SmallTypes.nextOf
 refine aa (fw (name:=Str.ofString "__next__") a1.typeIs ph (ip ph a1.typeIs xw ?_ (yh _)))
 show wpAny _ _ (field (.ref J) 0>>=_) _ _ s
 refine aa (dr e1 e3 (x:= .ref t) rfl ?_)
 refine(show wpAny _ _ (if (Value.ref t==Value.none)=true then _ else _) _ _ s from ?_)
 rw[ay (show ¬((Value.ref t==Value.none)=true) by exact bt)]
 show wpAny _ _ (field (.ref J) 1>>=_) _ _ s
 refine aa (dr e1 e3 (x:= .int i 0) rfl ?_)
 refine(show wpAny _ _ (seqItems? (.ref t)>>=_) _ _ s from aa (gm e4 e5 ?_))
 simp only[Int.toNat_natCast,a3]
 refine aa (qv (aa (mj e1 e3 (by simp) ?_)))
 refine(show wpAny _ _ (newExc (.type "StopIteration") []>>=_) _ _ _ from aa ?_)
 simp only[newExc,newTuple]
 refine aa (fz ?_ (by size_fits))
 refine aa (m:=firstArgMember _ _) (wpAny_of_eq (a:=Value.none) (by first|exact rfl|(simp only[firstArgMember];rfl)) ?_)
 refine fz ?_ (by size_fits)
 simp only[raiseNew]
 refine aa (wpAny_handled ?_)
 first|rw[hh]|rw[show A.in1.handled=none from hh]
 refine aa (aq (wpAny_throw ?_))
 exact k _ _ (((oj ..).extBut.push _).push _) ⟨_,bc _ rfl,rfl⟩
structure cN1(g:Heap)(n l1 l2:Addr)(i:Nat):Prop where
 z:IsZip g (n+4) (n+2) (n+3) .none
 I:IsPair g (n+2) (.ref n) (.ref (n+1))
 O:∃a b,IsPair g (n+3) a b
 i1:g.IsListIter n l1 i
 i2:g.IsListIter (n+1) l2 i
end
abbrev yA(g:Heap)(l1:Addr):Heap:=g.push { cls:= .type "list_iterator",data:= .fields #[.ref l1,.int 0 0] }
abbrev yB(g:Heap)(l1 l2:Addr):Heap:=(yA g l1).push { cls:= .type "list_iterator",data:= .fields #[.ref l2,.int 0 0] }
abbrev yC(g:Heap)(l1 l2:Addr):Heap:=(yB g l1 l2).push { cls:= .type "tuple",data:= .seq #[.ref g.objs.size,.ref (yA g l1).objs.size] }
abbrev yD(g:Heap)(l1 l2:Addr):Heap:=(yC g l1 l2).push { cls:= .type "tuple",data:= .seq #[.none,.none] }
abbrev yE(g:Heap)(l1 l2:Addr):Heap:=(yD g l1 l2).push { cls:= .type "zip",data:= .fields #[.none,.bool false,.bool false,.ref (yB g l1 l2).objs.size,.ref (yC g l1 l2).objs.size] }
theorem aV5(l1 l2:Addr)(xs ys:Array Value):Meets (Builtin.«zip.__new__» ⟨[.type "zip",.ref l1,.ref l2],[]⟩) (fun _ R s=>s.heap.IsList l1 xs/\s.heap.IsList l2 ys /\
   R (.ok (.ret (.ref (yD s.heap l1 l2).objs.size))) { s with heap:=yE s.heap l1 l2 }):=
 .of_wp fun prog w A R s h=>by
  obtain⟨q,g,d,tk,os⟩:=s;obtain⟨t1,t2,h⟩:=h
  have hS:=PySem.sub_zip
  have T1:Heap.IsList (Shared.heap ⟨q,g,d,tk,os⟩) l1 xs:=t1
  have T2:Heap.IsList (Shared.heap ⟨q.push { cls:= .type "list_iterator",data:= .fields #[.ref l1,.int 0 0] },g,d,tk,os⟩) l2 ys:=t2.at fun o e=>ac _ e
  wp_walk using ma T1,ma T2
  exact⟨_,rfl,h⟩
section
variable {prog:Program}{w:World}{A:Around}{E:Value->Shared->Prop}{s:Shared}
theorem aM0{l1 l2:Addr}{xs ys:Array Value}{Q:Value->Shared->Prop}(t1:s.heap.IsList l1 xs)(t2:s.heap.IsList l2 ys)
  (k:∀g,cN1 g s.heap.objs.size l1 l2 0->(∀c o,s.heap.get? c=some o->g.get? c=some o)->Q (.ref (s.heap.objs.size+4)) { s with heap:=g }) :
  wpAny (model prog w) A (call (.type "zip") [.ref l1,.ref l2]) Q E s:=by
 refine callType_new F.called_zip (by decide) (zp _ _) (F.newCall_zip_2 _ _) (fun obj=>xg obj _ _) F.entry_zip_new (aV5 l1 l2 xs ys) ⟨t1,t2,?_⟩
 have n1:(yA s.heap l1).objs.size=s.heap.objs.size+1:=by rw[ir]
 have n2:(yB s.heap l1 l2).objs.size=s.heap.objs.size+2:=by rw[ir,n1]
 have n3:(yC s.heap l1 l2).objs.size=s.heap.objs.size+3:=by rw[ir,n2]
 have n4:(yD s.heap l1 l2).objs.size=s.heap.objs.size+4:=by rw[ir,n3]
 have b5:(yE s.heap l1 l2).get? (yD s.heap l1 l2).objs.size=some _:=bc _ rfl
 have b4:(yE s.heap l1 l2).get? (yC s.heap l1 l2).objs.size=some _:=ac _ (bc _ rfl)
 have b3:(yE s.heap l1 l2).get? (yB s.heap l1 l2).objs.size=some _:=ac _ (ac _ (bc _ rfl))
 have b2:(yE s.heap l1 l2).get? (yA s.heap l1).objs.size=some _:=ac _ (ac _ (ac _ (bc _ rfl)))
 have b1:(yE s.heap l1 l2).get? s.heap.objs.size=some _:=ac _ (ac _ (ac _ (ac _ (bc _ rfl))))
 show _/\_
 rw[n2,n3,n4] at b5
 rw[n1,n2] at b3
 rw[n3] at b4
 rw[n1] at b2
 rw[n4]
 exact⟨⟨_,b5,rfl⟩,k _ ⟨b5,b3,⟨_,_,b4⟩,⟨_,b1,rfl,rfl⟩,⟨_,b2,rfl,rfl⟩⟩ fun c o q=>ac _ (ac _ (ac _ (ac _ (ac _ q))))⟩
end
section
variable {g:TG}{tc:TT}{te:TE}
end
theorem wV(val:Nat->Int):∀k i,i<=k->val i<=val (argBest (fun i j=>decide (val i > val j)) k)
 |0,i,h=>by
  have:i=0:=by lia
  subst this
  exact ji _
 |k+1,i,h=>by
  have ih:=wV val k
  rw[argBest]
  split
  ·rename_i c
   have c:=af c
   by_cases e:i=k+1
   ·rw[e];exact ji _
   ·have:=ih i (by lia)
    lia
  ·rename_i c
   have c:¬val (k+1) > val _:=fun z=>c (ag z)
   by_cases e:i=k+1
   ·rw[e];exact Int.not_lt.mp c
   ·exact ih i (by lia)
section
variable {X:Cx}
inductive aP5(K:PySem.W.Frag)(x:V)(y:V)(H:Hp)(Q:VK):Prop
 |mk:∀a b xs ys,(x= .ref a)->(y= .ref b)->(aU K H a xs)->(aU K H b ys)->(ys≠[])->(xs.length+ys.length<=sizeLine)->((xs=[]->Q (.ref b) H))->((xs≠[]->∀p,H p=none->Q (.ref p) (aO H p (.tup (xs++ys)))))->aP5 K x y H Q
theorem bI9:kH X (binaryOp .Add) (aP5 X.K):=by
 intro pins s σ H x y v u Q I rx ry h
 by_cases c:∃a xs,x= .ref a/\aU X.K H a xs/\xs≠[]
 ·obtain⟨a',xs',e,ha',hx⟩:=c
  obtain⟨a,b,xs,ys,rfl,rfl,ha,hb,hy,hz,q1,q2⟩:=h
  have e:=V.ref.inj e
  rw[<-e] at ha'
  have:=I.tuple_inj ha ha'
  subst this
  exact aF6 pins s σ H _ _ v u Q I rx ry ⟨_,b,xs,ys,rfl,rfl,ha,hb,hx,hz,fun z=>absurd z hy,fun _=>q2 hx⟩
 ·obtain⟨a,b,xs,ys,rfl,rfl,ha,hb,hy,hz,q1,q2⟩:=h
  have hx:xs=[]:=Decidable.byContradiction fun z=>c ⟨a,xs,rfl,ha,z⟩
  subst hx
  cases rx
  cases ry
  obtain⟨its,r1,p1,_⟩:=I.tuple ha
  obtain⟨its2,r2,p2,_⟩:=I.tuple hb
  cases r1
  obtain⟨⟨cls,dd,data,sl⟩,ho,hc,n,hd⟩:=id p1
  obtain⟨⟨cls2,dd2,data2,sl2⟩,ho2,hc2,n2,hd2⟩:=id p2
  simp only at hc hd hc2 hd2
  subst hc hd hc2 hd2
  exact uu ⟨_,ho,rfl⟩ ⟨_,ho2,rfl⟩ qf ub lv kx (kr _ _)
   (tuple_addW0 a b _ its2.toArray n n2 dd dd2 sl sl2 (by simp)) ⟨ho,ho2,.ref b,H,I,rfl,q1 rfl⟩
end
theorem aA0{X:Cx}(hc:autoParam (X.calm=true) Rq0._auto_1):fG X (.builtin "max") (fun xs H Q=>∃(p:Addr) (ns:List Int),xs=[.ref p]/\bG X.K H p (ns.map V.int)/\ns≠[]/\∀i∈ns,(∀n∈ns,n<=i)->Q (.int i) H):=by
 intro pins s σ H xs us Q I r h
 obtain⟨p,ns,rfl,hq,hne,q⟩:=h
 obtain⟨u,rfl,ru⟩:=nZ r
 cases ru
 obtain⟨its,rv,pl,hz⟩:=I.list hq
 have it:=pl.isList
 have lp:p<s.heap.objs.size:=by
  obtain⟨o,e,_⟩:=it
  exact ao e
 have hl:=rv.length
 rw[ae] at hl
 have val:∀i v,its.toArray[i]?=some v->∃t,v=Value.int (ns.getD i 0) t:=fun i v hv=>by
  have hi:its[i]?=some v:=by simpa using hv
  have hb:i<ns.length:=by
   have:=(ap.mp hi).1
   lia
  obtain⟨u,hu,ru⟩:=rv.get (i:=i) (x:=V.int ns[i]) (by rw[cm,ak hb];rfl)
  rw[hi] at hu
  cases hu
  obtain⟨t,e⟩:=ru
  exact⟨t,by rw[e];simp[List.getD,hb]⟩
 have hpos:0<its.toArray.size:=by
  rw[br, <-hl]
  cases ns with
  |nil=>exact absurd rfl hne
  |cons _ _=>simp
 refine call_max_walk (ma it ⟨s.heap.objs.size,_,_,_,_,_,_,rfl,Walks.list (A:=X.A.in1) (I.ok.hd hc) s.heap.objs.size p (cg lp) its.toArray,⟨⟨_,bc _ rfl,rfl,rfl⟩,it.at fun o e=>ac _ e⟩,?_,hpos,CmpOf.ints_gt (fun i=>ns.getD i 0) val,?_⟩)
 ·intro b hb
  rw[ir]
  rcases cj.mp hb with z|z
  ·rw[z];exact io _
  ·have z:b=p:=by simpa using z
   rw[z];exact ui lp
 ·intro v h' tk hv hk
  have kept:∀b o,s.heap.get? b=some o->h'.get? b=some o:=fun b o e=>hk b o (by
   intro z
   have z:b=s.heap.objs.size:=by simpa using z
   exact absurd (ao e) (by rw[z];exact gk _)) (ac _ e)
  have hv2:its.toArray[argBest (fun i j=>decide (ns.getD i 0 > ns.getD j 0)) (its.toArray.size-1)]?=some v:=hv
  have hin:argBest (fun i j=>decide (ns.getD i 0 > ns.getD j 0)) (its.toArray.size-1)<ns.length:=by
   have:its[argBest (fun i j=>decide (ns.getD i 0 > ns.getD j 0)) (its.toArray.size-1)]?=some v:=by simpa using hv2
   have:=(ap.mp this).1
   lia
  obtain⟨t,rfl⟩:=val _ _ hv
  refine⟨.int _,H,I.kept kept,⟨t,rfl⟩,q _ ?_ fun n hn=>?_⟩
  ·rw[fq,ak hin]
   exact qg hin
  obtain⟨i,hi,e⟩:=xh.mp hn
  have:=wV (fun i=>ns.getD i 0) (its.toArray.size-1) i (by rw[br, <-hl];lia)
  rw[show ns.getD i 0=n by simp[List.getD,hi,e]] at this
  exact this
theorem gR{K:PySem.W.Frag}{a:Addr}{xs:List V}{g:TG}{tb:TS}{D:jD}{σ:St}{H:Hp}(Pv:Nat->St->Hp->Prop)(h0:Pv 0 σ H)(hl:∀i σ H,i<=xs.length->Pv i σ H->bG K H a xs)
  (hs:∀(D':jD),∀i x σ H,xs[i]?=some x->Pv i σ H->g x σ H fun σ2 H2=>tb { D' with nx:=Pv (i+1),ct:=Pv (i+1),bk:=D'.nx } σ2 H2) (hd:∀σ H,Pv xs.length σ H->D.nx σ H) :
  ∃W:Nat->Nat->St->Hp->Prop,(∃m,W 0 m σ H)/\∀i m σ H,W i m σ H ->
   ((Itl K a).stop i H/\D.nx σ H)\/((Itl K a).go i H/\∃N:St->Hp->Prop,(∀σ' H',N σ' H'->∃m',m'<m/\W (i+1) m' σ' H')/\∀x H',(Itl K a).yld i H x H'->g x σ H' fun σ2 H2=>tb { D with nx:=N,ct:=N,bk:=D.nx } σ2 H2):=wC Pv h0 hl (hs D) hd
theorem wB{K:PySem.W.Frag}{a:Addr}{xs:List V}{g:TG}{tb:TS}{D:jD}{σ:St}{H:Hp}(Pv:Nat->St->Hp->Prop)(h0:Pv 0 σ H)(hl:∀i σ H,i<=xs.length->Pv i σ H->aU K H a xs)
  (hs:∀(D':jD),∀i x σ H,xs[i]?=some x->Pv i σ H->g x σ H fun σ2 H2=>tb { D' with nx:=Pv (i+1),ct:=Pv (i+1),bk:=D'.nx } σ2 H2) (hd:∀σ H,Pv xs.length σ H->D.nx σ H) :
  ∃W:Nat->Nat->St->Hp->Prop,(∃m,W 0 m σ H)/\∀i m σ H,W i m σ H ->
   ((Itt K a).stop i H/\D.nx σ H)\/((Itt K a).go i H/\∃N:St->Hp->Prop,(∀σ' H',N σ' H'->∃m',m'<m/\W (i+1) m' σ' H')/\∀x H',(Itt K a).yld i H x H'->g x σ H' fun σ2 H2=>tb { D with nx:=N,ct:=N,bk:=D.nx } σ2 H2):=bK7 Pv h0 hl (hs D) hd
theorem aA2{lo:Int}{n:Nat}{g:TG}{tb:TS}{D:jD}{σ:St}{H:Hp}(Pv:Nat->St->Hp->Prop)(h0:Pv 0 σ H)
  (hs:∀(D':jD),∀i σ H,i<n->Pv i σ H->g (.int (lo+i)) σ H fun σ2 H2=>tb { D' with nx:=Pv (i+1),ct:=Pv (i+1),bk:=D'.nx } σ2 H2) (hd:∀σ H,Pv n σ H->D.nx σ H) :
  ∃W:Nat->Nat->St->Hp->Prop,(∃m,W 0 m σ H)/\∀i m σ H,W i m σ H ->
   ((Itr lo n).stop i H/\D.nx σ H)\/((Itr lo n).go i H/\∃N:St->Hp->Prop,(∀σ' H',N σ' H'->∃m',m'<m/\W (i+1) m' σ' H')/\∀x H',(Itr lo n).yld i H x H'->g x σ H' fun σ2 H2=>tb { D with nx:=N,ct:=N,bk:=D.nx } σ2 H2):=jJ Pv h0 (hs D) hd
def bT(n:Nat)(i:Int):Prop:=i.natAbs<2^n
theorem bT.mono{m n:Nat}{i:Int}(h:bT m i)(le:m<=n):bT n i:=bw h (xi (by decide) le)
theorem bT.mul{m n:Nat}{i j:Int}(h:bT m i)(k:bT n j):bT (m+n) (i*j):=by
 unfold bT at *
 rw[Int.natAbs_mul,Nat.pow_add]
 exact Nat.mul_lt_mul'' h k
theorem bT.add{n:Nat}{i j:Int}(h:bT n i)(k:bT n j):bT (n+1) (i+j):=by
 unfold bT at *
 rw[Nat.pow_succ]
 have:=Int.natAbs_add_le i j
 lia
theorem bT.pow{n:Nat}{i:Int}(h:bT n i):∀k:Nat,bT (n*k+1) (i^k)
 |0=>by unfold bT;rw[mq,Nat.mul_zero];decide
 |k+1=>by
  rw[js]
  exact((bT.pow h k).mul h).mono (by rw[Nat.mul_succ];lia)
theorem bT.of{n:Nat}{i:Int}(h0:0<=i)(h1:i<2^n):bT n i:=by
 unfold bT
 have e:((i.natAbs:Nat):Int)=i:=xc h0
 have:((i.natAbs:Nat):Int)<((2^n:Nat):Int):=by rw[e];exact_mod_cast h1
 exact Int.ofNat_lt.mp this
def cG0(i j:Int):Prop:=∃m n,bT m i/\bT n j/\m<=100000/\n<=100000
theorem eZ{X:Cx}:kH X (binaryOp .Mult) (rI cG0 fun i j=> .int (i*j)):=opI fun _ _ _ _ _ _ _ hc q=>by
 obtain⟨m,n,a,b,hm,hn⟩:=hc
 exact mul_int q (zn (db (pw a) (db hm (by decide))) (db (pw b) (db hn (by decide))))
def cJ4(i j:Int):Prop:=0<j/\∃n,bT n j/\n<=8990
theorem xP{X:Cx}:kH X (binaryOp .FloorDiv) (rI cJ4 fun i j=> .int (i / j)):=opI fun i j _ _ _ _ _ hc q=>by
 obtain⟨h0,n,h1,hn⟩:=hc
 refine yg (by lia) ?_ (.inl (oz ?_))
 ·rw[nt i (by lia)];exact q
 ·have h3:j.natAbs≠0:=by lia
  exact bw ((zj h3).mpr h1) (db hn (by decide))
section
variable {X:Cx}
end
section
variable {prog:Program}{w:World}{A:Around}{E:Value->Shared->Prop}{s:Shared}
end
section
variable {X:Cx}{pos:Pos}
end
def ItR(K:PySem.W.Frag)(a:Addr)(n:Nat):It:=
 ⟨fun i H=>∃xs,bG K H a xs/\xs.length=n/\i<n,fun i H x H'=>H'=H/\∀ys,bG K H a ys->ys.reverse[i]?=some x,fun i H=>∃xs,bG K H a xs/\xs.length=n/\n<=i⟩
theorem aN8{P:Program}{w:World}{K:PySem.W.Frag}{tg:Expr}(a it:Addr)(n:Nat)(ne:a≠it):aB0 P w K tg (ItR K a n) [it] it (fun i h=>i<=n/\h.IsRevIter it a ((n:Int)-1-(i:Int))) where
 mem:=by simp
 obj:=fun i h st b hb=>by
  have e:b=it:=by simpa using hb
  subst e
  obtain⟨_,o,e,c,d⟩:=st
  exact⟨o,e,fun v z=>by rw[d] at z;cases z⟩
 keep:=fun i h h' st k=>⟨st.1,let⟨o,e,r⟩:=st.2;⟨o,k it (by simp) o e,r⟩⟩
 item:=by
  intro X hP hw hK hc i pins s σ H E I hf st hg
  subst hP hw hK
  obtain⟨xs,hq,hn,hi⟩:=hg
  obtain⟨its,rv,p,hz⟩:=I.list hq
  have hl:=rv.length
  have sz:its.toArray.size=n:=by rw[br];lia
  obtain⟨f0,f1,f2,f3,f4,f5⟩:=hf it (by simp)
  have Wk:=xo (prog:=X.prog) (w:=X.w) (A:=X.A) (I.ok.hd hc) it a ne its.toArray
  refine Wk.item i s _ _ (by lia) ⟨by lia,by rw[sz];exact st.2,p.isList⟩ fun v h' tk pv st' kp=>?_
  have I1:aQ X pins σ H { s with heap:=h',toks:=tk }:=I.turned (t':=tk) (fun b o hb e=>kp b o (by simpa using hb) e) f0 f1 f3 f4 f5
  have hx:i<xs.reverse.length:=by rw[ib];lia
  obtain⟨u,hu,ru⟩:=rv.get (show xs[xs.length-1-i]?=some (xs[xs.length-1-i]'(by lia)) from ak (by lia))
  obtain⟨o,e,c,d⟩:=id st'.2.1
  have ev:v=u:=by
   have:its.toArray[its.toArray.size-1-i]?=some v:=pv
   rw[sz, <-hn] at this
   have t2:its[xs.length-1-i]?=some v:=by simpa using this
   rw[hu] at t2
   exact(di t2).symm
  subst ev
  refine⟨_,rfl,go_of (s:={ s with heap:=h',toks:=tk }) e c d (by decide) ⟨xs[xs.length-1-i]'(by lia),H,I1,ru,⟨rfl,fun ys hy=>?_⟩,⟨by lia,by have:=st'.2.1;rw[sz] at this;exact this⟩,fun b hb=>(hf b hb).1⟩⟩
  rw[I.list_inj hy hq,wo (by lia)]
  exact ak (by lia)
 done:=by
  intro X hP hw hK hc i pins s σ H E I hf st hg
  subst hP hw hK
  obtain⟨xs,hq,hn,hi⟩:=hg
  obtain⟨its,rv,p,hz⟩:=I.list hq
  have hl:=rv.length
  have sz:its.toArray.size=n:=by rw[br];lia
  obtain⟨f0,f1,f2,f3,f4,f5⟩:=hf it (by simp)
  have Wk:=xo (prog:=X.prog) (w:=X.w) (A:=X.A) (I.ok.hd hc) it a ne its.toArray
  have ei:i=n:=by have:=st.1;lia
  refine Wk.done s _ _ ⟨ai _,by rw[sz, <-ei];have:=st.2;rw[<-ei] at this;exact this,p.isList⟩ fun h' tk kp=>⟨rfl,I.turned (t':=tk) (fun b o hb e=>kp b o (by simpa using hb) e) f0 f1 f3 f4 f5⟩
 self:=fun _ _ _ _ _ st h=>xj st.2 h
def cN2(K:PySem.W.Frag)(te:TE):TI:=fun σ H R=>te σ H fun x H1=>∃a ys,x= .ref a/\bG K H1 a ys/\R (ItR K a ys.length) H1
theorem aO9{X:Cx}{tg:Expr}{e:Expr}{te:TE}{p2 pos2:Pos}(he:PE X e te)(g2:Gl X "reversed")(m2:X.mg "reversed"=none)(hs2:autoParam (starEach [e] X.env=[(false,eval e X.env)]) Rq0._auto_1) :
  PI X tg (.Call (.Name "reversed" p2) [e] [] pos2) (cN2 X.K te):=by
 intro pins s σ H R I h
 refine eo (gF I g2 m2 ud (ef ?_ hs2 rfl))
 rw[hs2]
 refine gq (cL (he pins s σ H _ I h) ?_);rintro u s1 ⟨x,H1,I1,r1,a,ys,ex,hq,q⟩;refine jf ?_
 subst ex
 cases r1
 obtain⟨its,rv,pl,hz⟩:=I1.list hq
 have il:=pl.isList
 have len:=rv.length
 have sz:its.toArray.size=ys.length:=by rw[br];lia
 have aLt:a<s1.heap.objs.size:=by
  obtain⟨o,e,_⟩:=il
  exact ao e
 refine ye il ?_
 have st:(s1.heap.push (revObj a ((its.toArray.size:Int)-1))).IsRevIter s1.heap.objs.size a ((ys.length:Int)-1-((0:Nat):Int)):=by
  rw[sz,Int.natCast_zero,Int.sub_zero]
  exact⟨_,bc _ rfl,rfl,rfl⟩
 refine xj st ?_
 refine⟨s1.heap.objs.size,[s1.heap.objs.size],_,ItR X.K a ys.length,H1,rfl,I1.kept (t':=s1.toks) fun b o e=>ac _ e,aN8 a _ ys.length (cg aLt),⟨bo _,st⟩,fun b hb=>?_,q⟩
 have e:b=s1.heap.objs.size:=by simpa using hb
 subst e
 exact I1.fpOk (ai _) (I1.hok.fresh (ai _))
theorem xB{g:TG}{tc:TT}{te:TE}{K:PySem.W.Frag}{a:Addr}{xs:List V}{Kf:List V->Hp->Prop}{σ0:St}{H1:Hp}(Pv:Nat->List V->St->Hp->Prop)(hz:xs.length<sizeLine)(h0:Pv 0 [] σ0 H1)(hb:∀i ys σ H,Pv i ys σ H->ys.length<=i)(hl:∀i ys σ H,i<=xs.length->Pv i ys σ H->bG K H a xs)
  (hs:∀i x ys σ H,xs.reverse[i]?=some x->Pv i ys σ H->g x σ H fun σ2 H2=>tc σ2 H2 fun b H3=>if b=true then te σ2 H3 fun y H4=>Pv (i+1) (ys++[y]) σ2 H4 else Pv (i+1) ys σ2 H3) (hd:∀ys σ H,Pv xs.length ys σ H->Kf ys H):rQ (ItR K a xs.length) g tc te Kf σ0 H1:=by
 refine⟨fun i m ys σ H=>m=xs.length-i/\i<=xs.length/\Pv i ys σ H,⟨xs.length,rfl,bo _,h0⟩,?_⟩
 rintro i m ys σ H ⟨rfl,le,p⟩
 have q:=hl i ys σ H le p
 refine⟨cq (hb _ _ _ _ p) (cq le hz),?_⟩
 by_cases c:i<xs.length
 ·exact .inr ⟨⟨xs,q,rfl,c⟩,Pv (i+1),fun ys' σ' H' p'=>⟨xs.length-(i+1),iw c (io i),rfl,c,p'⟩,fun x H' ⟨e,y⟩=>by
   subst e
   exact hs i x ys σ _ (y xs q) p⟩
 ·obtain rfl:i=xs.length:=by lia
  exact .inl ⟨⟨xs,q,rfl,ai _⟩,hd ys σ H p⟩
section
variable {X:Cx}
inductive rCatA(x:V)(y:V)(H:Hp)(Q:VK):Prop
 |mk:∀a b xs ys,(x= .ref a)->(y= .ref b)->(H a=some (.tup xs))->(H b=some (.tup ys))->(xs.length+ys.length<=sizeLine)->(∀r H',aR H H'->H' r=some (.tup (xs++ys))->Q (.ref r) H')->rCatA x y H Q
theorem iN:kH X (binaryOp .Add) rCatA:=by
 intro pins s σ H x y v u Q I rx ry h
 obtain⟨a,b,xs,ys,rfl,rfl,ha,hb,hz,q⟩:=h
 by_cases hx:xs=[]
 ·subst hx
  cases rx
  cases ry
  obtain⟨its,r1,p1,_⟩:=I.tuple (aU.of ha)
  obtain⟨its2,r2,p2,_⟩:=I.tuple (aU.of hb)
  cases r1
  obtain⟨⟨cls,dd,data,sl⟩,ho,hc,n,hd⟩:=id p1
  obtain⟨⟨cls2,dd2,data2,sl2⟩,ho2,hc2,n2,hd2⟩:=id p2
  simp only at hc hd hc2 hd2
  subst hc hd hc2 hd2
  exact uu ⟨_,ho,rfl⟩ ⟨_,ho2,rfl⟩ qf ub lv kx (kr _ _)
   (tuple_addW0 a b _ its2.toArray n n2 dd dd2 sl sl2 (by simp)) ⟨ho,ho2,.ref b,H,I,rfl,q b H (aR.refl _) hb⟩
 ·refine aF6 pins s σ H _ _ v u Q I rx ry ⟨a,b,xs,ys,rfl,rfl,aU.of ha,aU.of hb,hx,hz,fun e=>?_,fun _ p hp=>q p _ (aB hp _) aC⟩
  subst e
  exact q a H (aR.refl _) (by rw[gv];exact ha)
end
section
variable {prog:Program}{w:World}{A:Around}{E:Value->Shared->Prop}{s:Shared}
end
section
variable {X:Cx}{pins:List (Addr×Obj)}{σ:St}{H:Hp}{s:Shared}{A:Around}{E:Value->Shared->Prop}
end
section
variable {prog:Program}{w:World}{K:Type} [DecidableEq K] {knd:KeyKind prog w K}{A:Around}{E:Value->Shared->Prop}{s:Shared}
end
section
variable {X:Cx}
end
theorem uL{X:Cx}{j:Nat}{p p2:Pos}:PE X (.UnaryOp .USub (.Constant (.int 1) j p) p2) (tC (.int (-1))):=fun pins s σ H Q I h =>
 aD8 (X:=X) vK aD pins s σ H Q I ⟨1,rfl,h⟩
section
variable {X:Cx}
inductive bM6(t:TT)(σ:St)(H:Hp)(Q:(Bool->Hp->Prop)):Prop
 |mk:∀P:Bool->Hp->Prop,(t σ H P)->(∀b G,P b G->Q b G)->bM6 t σ H Q
theorem gL{e:Expr}{t:TT}(h:PT X e t):PT X e (bM6 t):=by
 intro pins s σ H Q I ⟨P,h1,h2⟩
 refine cL (h pins s σ H P I h1) ?_;rintro b s' ⟨G,I',p⟩;exact⟨G,I',h2 b G p⟩
inductive bN4(t:TS)(D:jD)(σ:St)(H:Hp):Prop
 |mk:∀P:St->Hp->Prop,(t { D with nx:=P } σ H)->(∀σ' G,P σ' G->D.nx σ' G)->bN4 t D σ H
theorem qM{st:Stmt}{t:TS}(h:PS X st t):PS X st (bN4 t):=by
 intro pins s σ H D I ⟨P,h1,h2⟩
 refine cL (h pins s σ H _ I h1) fun f s' q=>?_
 cases f with
 |next =>
  obtain⟨σ',G,I',p⟩:=q
  exact⟨σ',G,I',h2 σ' G p⟩
 |ret v=>exact q
 |brk=>exact q
 |cont=>exact q
end
section
variable {X:Cx}{o e:Expr}{es:List Expr}{to:TE}{t:TA}{name:Str}{apos cpos:Pos}{T id:String}{r:V->List V->Hp->VK->Prop}
end
section
variable {prog:Program}{w:World}{A:Around}{R:Result->Shared->Prop}{I:Addr}{fp wr:List Addr}{G:Array GenState->Array GenState->Prop}{n:Nat}{P:Nat->Value->Prop}{St:Nat->Shared->Prop}
end
section
variable {prog:Program}{w:World}{A:Around}{E:Value->Shared->Prop}{s:Shared}
end
section
variable {X:Cx}
end
section
variable {prog:Program}{w:World}{A:Around}{E:Value->Shared->Prop}{s:Shared}{a:Addr}{S:Key->Bool}{n:Nat}{led:Bool}
end
theorem bB2{vs:List V}{us:List Value}(hl:us.length=vs.length)(h:∀(j:Nat) (u:Value),us[j]?=some u->∃v,vs[j]?=some v/\bC v u):bB vs us:=by
 induction vs generalizing us with
 |nil=>cases us with
  |nil=>exact .nil
  |cons _ _=>simp at hl
 |cons v vs ih=>cases us with
  |nil=>simp at hl
  |cons u us =>
   obtain⟨v',e,r⟩:=h 0 u rfl
   cases e
   exact .cons r (ih (by simpa using hl) fun j w e=>h (j+1) w (by simpa using e))
theorem yI{prog:Program}{w:World}{A:Around}{E:Value->Shared->Prop}{s:Shared}{T:String}{r d:Addr}{n:Nat}{P:Nat->Value->Prop}{OK:Heap->Prop}{R:List Value->Shared->Prop}
  (K:PySem.W.KdlSrc prog w T r d n P OK) (hh:A.handled=none) (hok:OK s.heap) (hn:n<=sizeLine)
  (h:∀(h':Heap) (tk:Nat) (acc:Array Value),(∀b o,s.heap.get? b=some o->h'.get? b=some o)->s.heap.objs.size<=h'.objs.size->ItemsOf P acc n->R acc.toList { s with heap:=h',toks:=tk }) :
  wpAny (model prog w) A (collect (.ref r)) R E s:=by
 let L:=s.heap.objs.size
 let G:Result->Shared->Prop:=fun q s'=>∃(g:Heap) (tk:Nat) (acc:Array Value) (c:Nat),q= .ok (.ret (.ref L))/\s'={ s with heap:=g,toks:=tk }/\(∀b o,s.heap.get? b=some o->g.get? b=some o)/\g.get? L=some { cls:= .type "list",dict:=none,data:= .seq acc c,slots:= #[] }/\ItemsOf P acc n
 unfold collect
 refine aa (wpAny_runValue (rg entry_proto_collect' ?_))
 rw[ng PySem.F.plain_proto_collect _]
 refine(show wpAny _ A.in1 (newList []>>=fun l=>again (.builtin "list.__iadd__" ⟨[l,.ref r],[]⟩)) _ _ s from aa (fz (aq ⟨uc vh _,rg entry_list_iadd' ?_⟩)))
 rw[ng vh _]
 have lt:=K.there _ hok
 refine(show wpAny _ A.in1 (Builtin.List.listExtendWith (.ref L) (.ref r) (.ref L)) _ _ _ from dv (PySem.W.kdl_extend (A:=A) (R:=G) (s:={ s with heap:=s.heap.push { cls:= .type "list",data:= .seq ([]:List Value).toArray } }) K hh (K.keep _ _ hok fun b _ o e=>ac _ e) L (dq lt.1) (dq lt.2) (.ref L) 0 (bc _ rfl)
  (fun g tk acc c hk hS ha=>⟨g,tk,acc,c,rfl,rfl,fun b o e=>hk b o (cg (ao e)) (ac _ e),hS,ha⟩) hn) (fun f s' x=>?_) (by rintro e s' ⟨_,_,_,_,z,_⟩;exact nomatch z))
 have last:∀(g:Heap) (tk:Nat) (acc:Array Value) (c:Nat),(∀b o,s.heap.get? b=some o->g.get? b=some o)->g.get? L=some { cls:= .type "list",dict:=none,data:= .seq acc c,slots:= #[] }->ItemsOf P acc n ->
   wpAny (model prog w) A (load L>>=fun o=>match o.data with | .seq xs _=>pure xs.toList|_=>unsupported "internal:collect") R E { s with heap:=g,toks:=tk }:=
  fun g tk acc c hk hS ha=>aa (wpAny_load hS (aq (h g tk acc hk (cu (ao hS)) ha)))
 cases f with
 |done f =>
  obtain⟨g,tk,acc,c,e,rfl,hk,hS,ha⟩:=x
  cases e
  exact last g tk acc c hk hS ha
 |again c₁ =>
  refine⟨x.1,md x.2 fun q s₂ y=>?_⟩
  obtain⟨g,tk,acc,c,rfl,rfl,hk,hS,ha⟩:=y
  exact last g tk acc c hk hS ha
section
variable {prog:Program}{w:World}{A:Around}{E:Value->Shared->Prop}{s:Shared}
end
section
variable {prog:Program}{w:World}{A:Around}{E:Value->Shared->Prop}{s:Shared}{a:Addr}{o:Obj}{es:Array (Int×Value)}{ep:Nat}{t:SetTable}
end
section
variable {prog:Program}{w:World}{A:Around}{E:Value->Shared->Prop}{s:Shared}{a it tp:Addr}{o:Obj}{es:Array (Int×Value)}{ep:Nat}{t:SetTable}
end
section
variable {prog:Program}{w:World}{A:Around}{E:Value->Shared->Prop}{s:Shared}{d it:Addr}{o:Obj}{es:Array DictEntry}{ep i:Nat}
end
section
variable {prog:Program}{w:World}{A:Around}{E:Value->Shared->Prop}{s:Shared}
end
section
variable {X:Cx}
end
section
variable {X:Cx}
end
open PySem PySem.Spec PyProof.Rows PySem.MeetsSeq
section
variable {prog:Program}{w:World}{A:Around}{E:Value->Shared->Prop}{s:Shared}
end
section
variable {prog:Program}{w:World}{A:Around}{E:Value->Shared->Prop}{s:Shared}
end
section
variable {prog:Program}{w:World}{A:Around}{R:Result->Shared->Prop}{I:Addr}{fp wr:List Addr}{n:Nat}{P:Nat->Value->Prop}{St:Nat->Heap->Prop}{B:Heap}
end
open PySem PySem.Spec PyProof.Rows
section
variable {prog:Program}{w:World}{A:Around}{E:Value->Shared->Prop}{s:Shared}{a it tp:Addr}{o:Obj}{es:Array (Int×Value)}{ep:Nat}{t:SetTable}
end
section
variable {prog:Program}{w:World}{A:Around}{E:Value->Shared->Prop}{s:Shared}{a tp:Addr}{o:Obj}{es:Array (Int×Value)}{ep:Nat}{t:SetTable}
end
theorem aQ.draw{X:Cx}{pins:List (Addr×Obj)}{σ:St}{H:Hp}{s:Shared}(I:aQ X pins σ H s)(d':Drawn):aQ X pins σ H { s with drawn:=d' }:=
 ⟨I.ok,I.os,I.bare,I.base,I.loc,I.cell,I.free,I.freeC,I.pin,I.hok,I.len⟩
section
variable {prog:Program}{w:World}{A:Around}{E:Value->Shared->Prop}{s:Shared}{a:Addr}{o:Obj}{es:Array (Int×Value)}{ep:Nat}{t:SetTable}
end
section
variable {prog:Program}{w:World}{A:Around}{R:Result->Shared->Prop}{I:Addr}{fp wr:List Addr}{G:Array GenState->Array GenState->Prop}{n:Nat}{P:Nat->Value->Prop}{St:Nat->Shared->Prop}{led:Bool}
end
section
variable {prog:Program}{w:World}{A:Around}{E:Value->Shared->Prop}{s:Shared}
end
theorem qS:∀{ts:List Str}{us:List Value},bB (ts.map V.str) us->∀(i:Nat) (v:Value),us[i]?=some v->∃x t,ts[i]?=some x/\v= .str x t
 |[],_,h,i,v,e=>by cases h;simp at e
 |x::r,_,h,i,v,e=>by
  rw[en] at h
  cases h with
  |cons h1 h2 =>
   cases i with
   |zero =>
    simp only[List.getElem?_cons_zero,Option.some.injEq] at e
    subst e
    obtain⟨t,rfl⟩:=h1
    exact⟨x,t,rfl,rfl⟩
   |succ i=>exact qS h2 i v (by simpa using e)
def leS(a b:Str):Prop:=a.cps.toList<=b.cps.toList
theorem bZ5{a b:Str}(h:ltCps b.cps.toList a.cps.toList=false):leS a b:=by
 rw[ltCps_eq] at h
 exact List.not_lt.mp (of_decide_eq_false h)
theorem aJ6{a b c:Str}(h:leS a b)(k:leS b c):leS a c:=List.le_trans h k
theorem vD{a b:Str}(h:leS a b)(k:leS b a):a=b:=by
 have e:a.cps.toList=b.cps.toList:=List.le_antisymm h k
 cases a
 cases b
 exact fm Str.mk (zq.mp e)
theorem uI:∀(p:Str) (l:List Str),risingS p l=true->(p::l).Pairwise leS
 |p,[],_=>by simp
 |p,x::r,h=>by
  have h:(!ltCps x.cps.toList p.cps.toList&&risingS x r)=true:=h
  rw[my] at h
  have ih:=uI x r h.2
  have px:leS p x:=bZ5 (by simpa using h.1)
  refine yi.mpr ⟨fun y hy=>?_,ih⟩
  rcases cj.mp hy with e|e
  ·rw[e];exact px
  ·exact aJ6 px ((yi.mp ih).1 y e)
theorem uJ{l:List Str}(h:sortedS l=true):l.Pairwise leS:=by
 cases l with
 |nil=>exact yy
 |cons p r=>exact uI p r h
theorem wM{l m:List Str}(nl:l.Nodup)(nm:m.Nodup)(h:∀x,x∈l↔x∈m)(sl:sortedS l=true)(sm:sortedS m=true):l=m:=
 List.Perm.eq_of_pairwise (le:=leS) (fun _ _ _ _ x y=>vD x y) (uJ sl) (uJ sm) ((List.perm_ext_iff_of_nodup nl nm).mpr fun x=>h x)
theorem oE:∀{vs:List Value}{ss:List Str},StrsAre vs ss->bB (ss.map V.str) vs
 |[],[],_=> .nil
 |v::vs,x::ss,h=>by
  have e:=h.all v az
  have q:=h.strs
  rw[en] at q
  obtain⟨y,t,rfl⟩:=e
  injection q with q1 q2
  cases q1
  refine .cons ⟨t,rfl⟩ (oE ?_)
  have:=strsAre_map vs fun v hv=>h.all v (av _ hv)
  rw[q2] at this
  exact this
 |[],_::_,h=>by have:=h.strs;simp at this
 |_::_,[],h=>by have:=h.strs;simp at this
section
variable {X:Cx}{k:Nat}
theorem aI6{pins:List (Addr×Obj)}{σ:St}{H:Hp}{s:Shared}{Q:VK}{h':Heap}{d':Drawn}{t:Nat}{vs:List Value}{ss:List Str}(I:aQ X pins σ H s)(hS:StrsAre vs ss)(h64:vs.length<64)(keep:∀b o,s.heap.get? b=some o->h'.get? b=some o)(le:s.heap.objs.size<=h'.objs.size)
  (q:∀ts':List Str,ts'.Perm ss->sortedS ts'=true->∀l,H l=none->Q (.ref l) (aO H l (.lst (ts'.map V.str)))) :
  wpAny (model X.prog X.w) X.A.in1 (newList vs>>=fun l=>holding [l] (call (.builtin "list.sort") [l] [])>>=fun _=>ret l) (fun fin s'=>∃v,fin= .done (.ret v)/\EP X pins σ Q v s') X.xe { s with heap:=h',drawn:=d',toks:=t }:=by
 refine aa (wpAny_newList ?_ (by rw[nz];lia))
 have hoL:(h'.push (seqObj "list" vs.toArray 0)).get? h'.objs.size=some (seqObj "list" vs.toArray 0):=bc _ rfl
 refine aa (ij (ip slot_list_sort ⟨_,hoL,rfl⟩ entry_list_sort (list_sort_treeK strKind_oneLt hoL hS.keysOf (fun v₁ v₂ cS e=>keyKind_strs (by rw[<-e];exact hS)) h64 fun st' hp hs=>⟨_,rfl,?_⟩) (args_list_sort _)))
 obtain⟨ss',a1,a2,a3⟩:=sorted_out_str hS hp hs
 refine aq ⟨_,rfl,?_⟩
 obtain⟨e,he⟩:=sortedHeap_at (h:=h'.push (seqObj "list" vs.toArray 0)) (vs:=vs) (out:=(arrOf st').map (·.2)) hoL
 refine⟨.ref h'.objs.size,_,(I.draw d').laid (t':=t) (o:= .lst (ss'.map V.str)) (fun b o z=>?_) le ?_,rfl,q ss' a2 a3 _ (I.hok.fresh le)⟩
 ·have z':=keep b o z
  have hlt:=ao z'
  rw[sortedHeap_old (cg hlt) (by rw[size_push'];exact ui hlt)]
  exact ac _ z'
 ·refine⟨?_,((arrOf st').map (·.2)).toList,e,oE a1,by rw[mz];exact he⟩
  rw[ae,a2.length_eq, <-hS.strs,ae]
  exact cu (aN (by lia))
theorem xQ(hr:cY k X.A):fG X (.builtin "sorted") (fun xs H Q=>∃(d:Addr) (kvs:List (Key×V)) (ts:List Str),xs=[.ref d]/\H d=some (.dK kvs)/\kvs.map (fun e=>kV e.1)=ts.map V.str/\kvs.length<64 /\
  ∀ts':List Str,ts'.Perm ts->sortedS ts'=true->∀l,H l=none->Q (.ref l) (aO H l (.lst (ts'.map V.str)))):=by
 intro pins s σ H xs us Q I r h
 obtain⟨d,kvs,ts,rfl,hd,hk,hz,q⟩:=h
 obtain⟨u,rfl,ru⟩:=nZ r
 cases ru
 obtain⟨z,lo,vs,rel,o,es,ep,h1,h2,h3,h4,h5,h6⟩:=aG9 I.hok hd
 have hl:kvs.length=vs.length:=lg rel
 have sl:vs.length<=sizeLine:=by rw[<-hl];exact z
 refine Calls.call_function_entry kind_sorted plain_sorted entry_sorted (args_sorted1 _) ?_
 unfold Builtin.«sorted»
 refine aa (m:=checkCount "sorted" 1 1 _) (aq ?_)
 refine aa (yI (A:=X.A.in1) (PySem.W.kdl_dict (knd:=bY X.prog X.w) (kvs:=vs) (ep:=ep) lo) hr.hd ⟨o,es,h1,h2,h3,h4,h5,h6⟩ sl fun h' tk acc hkeep le hacc=>?_)
 have al:acc.toList.length=vs.length:=by rw[jh];exact hacc.1
 have hV:bB (ts.map V.str) acc.toList:=by
  refine bB2 (by rw[al, <-hk,ae,hl]) fun j u e=>?_
  obtain⟨k,x,e1,e2⟩:=hacc.2 j u (by rw[<-mh];exact e)
  have hj:j<kvs.length:=by rw[hl];exact(ap.mp e1).1
  obtain⟨u',e3,_⟩:=aZ9 (i:=j) (k:=kvs[j].1) (v:=kvs[j].2) rel (by simp[hj])
  rw[e1] at e3
  cases e3
  refine⟨kV kvs[j].1,?_,bH1 e2⟩
  rw[<-hk,cm,ak hj]
  rfl
 have hS:StrsAre acc.toList ts:=by
  have a1:=strsAre_map acc.toList fun v hv=>by
   obtain⟨i,hi,rfl⟩:=xu hv
   obtain⟨x,t,_,q⟩:=qS hV i _ (ak hi)
   exact⟨x,t,q⟩
  have a2:acc.toList.map strOf=ts:=by
   refine List.ext_getElem (by rw[ae];have:=hV.length;rw[ae] at this;exact this.symm) fun i p q'=>?_
   have hi:i<acc.toList.length:=by simpa using p
   obtain⟨x,t,e,q⟩:=qS hV i _ (ak hi)
   rw[List.getElem_map,q]
   rw[ak q'] at e
   exact(di e).symm
  rw[a2] at a1
  exact a1
 have:=aI6 (d':=s.drawn) (t:=tk) I hS (by rw[al, <-hl];exact hz) hkeep le q
 exact this
end
def cA2(td ty tx:TE):TE:=fun σ H Q=>td σ H fun x H1=>∃a,x= .ref a/\IsD H1 a/\ty σ H1 fun y H2=>tx σ H2 fun z H3=>∃kvs k,H3 a=some (.dK kvs)/\y=kV k/\kvs.length<sizeLine /\
 (∀v,cD kvs k=some v->Q v H3)/\(cD kvs k=none->Q z (aO H3 a (.dK (dB kvs k z))))
theorem aT8{X:Cx}{pins:List (Addr×Obj)}{σ:St}{H:Hp}{s:Shared}{a:Addr}{kvs:List (Key×V)}{k:Key}{x:V}{u r:Value}{A:Around}{E:Value->Shared->Prop}{Q:VK}(I:aQ X pins σ H s)(e:H a=some (.dK kvs))(ry:bC (kV k) u)(rx:bC x r)(hz:kvs.length<sizeLine)
  (h1:∀v,cD kvs k=some v->Q v H) (h2:cD kvs k=none->Q x (aO H a (.dK (dB kvs k x)))):wpAny (model X.prog X.w) A (call (.builtin "dict.setdefault") [.ref a,u,r]) (EP X pins σ Q) E s:=by
 obtain⟨z,hd,vs,rel,dd⟩:=aG9 I.hok e
 refine ya su dd.typeIs PySem.F.entry_dict_setdefault (PySem.F.args_dict_setdefault_3 _ _ _) (kt_meets_setdefault (bY X.prog X.w) a (rA ry) hd r) ⟨vs,dd,by rw[<-rel.length];exact z,fun v' hv=>?_,fun hn h' dd' hs=>?_⟩
 ·cases l:cD kvs k with
  |none =>
   have q:valueAt vs k=none:=jM.none_of (by rw[<-l];exact rel.val k)
   rw[q] at hv;cases hv
  |some v =>
   obtain⟨w',hw,rw'⟩:=jM.some_of (v:=v) (o:=valueAt vs k) (by rw[<-l];exact rel.val k)
   rw[hw] at hv
   cases hv
   exact⟨v,H,I.tok _,rw',h1 v l⟩
 ·cases l:cD kvs k with
  |some v =>
   obtain⟨w',hw,rw'⟩:=jM.some_of (v:=v) (o:=valueAt vs k) (by rw[<-l];exact rel.val k)
   rw[hn] at hw;cases hw
  |none =>
   have hl:(dB kvs k x).length<=sizeLine:=by have:=eU kvs k x;lia
   have he:∃q,h'.get? a=some q:=by obtain⟨q,_,_,hq,_⟩:=dd';exact⟨q,hq⟩
   exact⟨x,_,qG I (by rw[e];exact jm) hs he (aB1 hl hd (rel.put k rx) dd'),rx,h2 l⟩
theorem bK5{X:Cx}{o e f:Expr}{apos cpos:Pos}{td ty tx:TE}(ho:PE X o td)(he:PE X e ty)(hf:PE X f tx)(m:M2 X o "setdefault" apos e f cpos):PE X (.Call (.Attribute o "setdefault" apos) [e,f] [] cpos) (cA2 td ty tx):=by
 intro pins s σ H Q I h
 refine yw m.base m.few m.line vg su PySem.F.type_dict_setdefault (cL (ho pins s σ H _ I h) ?_);rintro u s1 ⟨x,H1,I1,rx,a,ex,d,q1⟩
 subst ex
 obtain rfl:u=Value.ref a:=rx
 obtain⟨t1,t2,_⟩:=bC8 I1 d
 refine⟨t1,t2,?_⟩
 rw[m.trees]
 refine lq rfl (qz (gq (cL (he pins s1 σ H1 _ I1 q1) ?_)));rintro iv s2 ⟨y,H2,I2,ry,q2⟩;refine gq (cL (hf pins s2 σ H2 _ I2 q2) ?_);rintro fv s3 ⟨z,H3,I3,rz,kvs,k,ea,ey,hz,q3,q4⟩;refine jf ?_
 subst ey
 exact aT8 I3 ea ry rz hz q3 q4
end L2
namespace PySem
namespace F
end F
end PySem
namespace PySem
section
variable {prog:Program}{w:World}{A:Around}{E:Value->Shared->Prop}{s:Shared}
end
end PySem
namespace L2
open PySem PySem.Spec PyProof.Rows
section
variable {prog:Program}{w:World}{A:Around}{E:Value->Shared->Prop}{Q:Value->Shared->Prop}{s:Shared}{it p:Addr}{items:Array Value}
end
open PySem
theorem sF{H:Hp}{l:Addr}(h:H l=none)(o:HO):∃H2,aO H l o=H2/\aR H H2/\H2 l=some o:=⟨_,rfl,aB h o,aC⟩
theorem jT:1<=sizeLine:=by decide
theorem dA:2<=sizeLine:=by decide
end L2
namespace Mine
open PySem L2
def gI(a b:Int):Int:=(Nat.gcd a.toNat b.toNat:Nat)
def dW(a b:Int):Int:=a / gI a b
def dE(a b:Int):Int:=b / gI a b
theorem vQ{a b:Int}(hb:1<=b):0<gI a b:=by
 have:0<Nat.gcd a.toNat b.toNat:=uz _ (by lia);unfold gI;lia
theorem bP4{a b c:Int}(ha:0<=a)(hb:0<=b)(hc:0<=c):gI (c*a) (c*b)=c*gI a b:=by
 obtain⟨x,rfl⟩:=dw ha;obtain⟨y,rfl⟩:=dw hb;obtain⟨z,rfl⟩:=dw hc;unfold gI;rw[<-rh, <-rh,dz,dz,dz,dz,Nat.gcd_mul_left,rh]
theorem aD5{a b c:Int}(ha:0<=a)(hb:1<=b)(hc:1<=c):dW (c*a) (c*b)=dW a b/\dE (c*a) (c*b)=dE a b:=by
 unfold dW dE;rw[bP4 ha (by lia) (by lia),vi _ _ (by lia),vi _ _ (by lia)];exact⟨rfl,rfl⟩
theorem zJ{a b c d:Int}(ha:0<=a)(hb:1<=b)(hc:0<=c)(hd:1<=d)(h:a*d=c*b):dW a b=dW c d/\dE a b=dE c d:=by
 have e1:=aD5 ha hb hd;have e2:=aD5 hc hd hb;have q1:d*a=b*c:=by rw[mw d a,h,mw]
 have q2:d*b=b*d:=mw _ _;rw[q1,q2] at e1;exact⟨e1.1.symm.trans e2.1,e1.2.symm.trans e2.2⟩
theorem aE7{a b:Int}(ha:0<=a):gI a b ∣ a:=by
 obtain⟨x,rfl⟩:=dw ha;unfold gI;rw[dz];exact vj.mpr (Nat.gcd_dvd_left _ _)
theorem uR{a b:Int}(hb:0<=b):gI a b ∣ b:=by
 obtain⟨x,rfl⟩:=dw hb;unfold gI;rw[dz];exact vj.mpr (zc _ _)
theorem oO{a b:Int}(ha:0<=a)(hb:1<=b):dW a b*b=a*dE a b:=by
 have h1:=ku (aE7 (b:=b) ha);have h2:=ku (uR (a:=a) (b:=b) (by lia));unfold dW dE;generalize a / gI a b=x at h1 ⊢;generalize b / gI a b=y at h2 ⊢;rw[<-h1, <-h2];generalize gI (x*gI a b) (y*gI a b)=g
 grind
theorem fU{a b:Int}(ha:0<=a):0<=dW a b:=Int.ediv_nonneg ha (by unfold gI;lia)
theorem jR{a b:Int}(hb:1<=b):1<=dE a b:=by
 have h2:=ku (uR (a:=a) (b:=b) (by lia));have g:=vQ (a:=a) hb;unfold dE;generalize b / gI a b=y at h2 ⊢
 by_cases z:0<y
 ·lia
 ·have:=de (show 0<= -y by lia) (pf g);rw[Int.neg_mul] at this;lia
theorem aF2{a b:Int}(ha:0<=a)(hb:1<=b):dW a b<=a:=zr _ ha
theorem aH5{a b:Int}(hb:1<=b):dE a b<=b:=zr _ (by lia)
theorem bK2{a b:Int}(ha:0<=a)(hb:1<=b):dW (dW a b) (dE a b)=dW a b/\dE (dW a b) (dE a b)=dE a b:=by
 have:=zJ (fU (b:=b) ha) (jR (a:=a) hb) ha hb (by rw[oO ha hb]);exact this
def shN(p q:Int)(n:Nat):Int:=(q-p)*p^n
def sS(p q:Int)(n:Nat):Int:=(q+p)*q^n
def vZ(p q:Int)(n:Nat):Int:=q*p^n
def tN(p q k:Int):Int:=if 0<=k then vZ p q k.toNat else sS p q (1-k).toNat-vZ p q (1-k).toNat
def tD(p q k:Int):Int:=if 0<=k then sS p q k.toNat else sS p q (1-k).toNat
theorem zW{p q:Int}(hp:0<=p)(h:p<=q):∀n:Nat,p^n<=q^n
 |0=>by simp
 |n+1=>by
  rw[js,js];exact pj (zW hp h n) h hp (ik (by lia))
theorem aD9{p q:Int}(hp:1<=p)(h:p<q)(n:Nat):vZ p q n<=sS p q n:=by
 unfold vZ sS;have h1:=zW (p:=p) (q:=q) (by lia) (by lia) n;have h2:0<=p^n:=ik (by lia);exact pj (by lia) h1 h2 (by lia)
theorem aE6{p q:Int}(hp:1<=p)(h:p<q)(n:Nat):1<=sS p q n:=by
 have h1:0<q^n:=wb (by lia);have:=jj (show 0<q+p by lia) h1;unfold sS;lia
theorem bO2{p q:Int}(hp:1<=p)(h:p<q)(n:Nat):0<=vZ p q n:=de (by lia) (ik (by lia))
theorem cA1{p q:Int}(hp:1<=p)(h:p<q)(k:Int):0<=tN p q k:=by
 unfold tN;split
 ·exact bO2 hp h _
 ·have:=aD9 hp h (1-k).toNat;lia
theorem bZ1{p q:Int}(hp:1<=p)(h:p<q)(k:Int):1<=tD p q k:=by
 unfold tD;split<;>exact aE6 hp h _
theorem bT6{a b:Int}(ha:a<=b)(hb:1<=b):dW a b<=dE a b:=Int.ediv_le_ediv (vQ hb) ha
theorem xE{x y:Int}(hx:0<=x)(hy:0<y):gI y (x % y)=gI x y:=by
 obtain⟨m,rfl⟩:=dw hx;obtain⟨n,rfl⟩:=dw (pf hy);unfold gI;rw[<-Int.natCast_emod,dz,dz,dz,yj m n,Nat.gcd_rec n m,yj]
theorem aH9{x:Int}(hx:0<=x):gI x 0=x:=by
 unfold gI;simp;lia
theorem bM2{a b:Int}(hb:1<=b):gI a b<=b:=by
 have:Nat.gcd a.toNat b.toNat<=b.toNat:=Nat.gcd_le_right _ (by lia);unfold gI;lia
theorem bI5{a:Int}{n:Nat}(h0:0<=a)(h9:a<=9)(hn:n<=21):0<=a^n/\a^n<2^67:=by
 refine⟨ik h0,?_⟩;have h1:=zW h0 h9 n;obtain⟨m,hm⟩:∃m,n+m=21:=⟨21-n,by lia⟩
 have h2:(9:Int)^21=9^n*9^m:=by rw[<-hm,Int.pow_add]
 have h3:(1:Int)<=9^m:=by have:(0:Int)<9^m:=wb (by decide);lia
 have h4:(0:Int)<=9^n:=ik (by decide);have h5:(9:Int)^n*1<=9^n*9^m:=si h3 h4;have h6:(9:Int)^21<2^67:=by decide
 lia
theorem vN{a b:Int}{m n:Nat}(a0:0<=a)(a1:a<2^m)(b0:0<=b)(b1:b<2^n):0<=a*b/\a*b<2^(m+n):=by
 refine⟨de a0 b0,?_⟩;rw[Int.pow_add];have hp:(0:Int)<2^n:=wb (by decide);have h1:a*b<=a*2^n:=si (pf b1) a0;have h2:a*2^n<2^m*2^n:=Int.mul_lt_mul_of_pos_right a1 hp;lia
structure wT(p q:Int):Prop where
 p1:1<=p
 pq:p<q
 q9:q<=9
def fW(H:Hp)(p:Addr)(a b:Int):Prop:=H p=some (.tup [.int a,.int b])
theorem ix0(a b:Int):lP [V.int a,V.int b] 0=some (.int a):=rfl
theorem yU(a b:Int):lP [V.int a,V.int b] 1=some (.int b):=rfl
def cD8(a b:Int):List V:=[.int (dW a b),.int (dE a b)]
def B72(a:Int):Prop:=0<=a/\a<2^180
theorem B72.below{a:Int}(h:B72 a):xY a:=⟨by have:=h.1;lia,by have:=h.2;lia⟩
theorem cH7{p q:Int}(s:wT p q){n:Nat}(hn:n<=21):B72 (shN p q n)/\B72 (sS p q n)/\B72 (vZ p q n):=by
 obtain⟨h1,h2,h3⟩:=s;have e1:=bI5 (a:=p) (by lia) (by lia) hn;have e2:=bI5 (a:=q) (by lia) (by lia) hn;have q1:=vN (a:=q-p) (m:=5) (by lia) (by lia) e1.1 e1.2;have q2:=vN (a:=q+p) (m:=5) (by lia) (by lia) e2.1 e2.2;have q3:=vN (a:=q) (m:=5) (by lia) (by lia) e1.1 e1.2;have up:(2:Int)^(5+67)<2^180:=by decide
 exact⟨⟨q1.1,va q1.2 up⟩,⟨q2.1,va q2.2 up⟩,⟨q3.1,va q3.2 up⟩⟩
theorem bR3{a b:Int}(ha:B72 a)(hb:B72 b)(h1:1<=b):B72 (dW a b)/\B72 (dE a b):=by
 have q1:=fU (b:=b) ha.1;have q2:=jR (a:=a) h1;have q3:=aF2 ha.1 h1;have q4:=aH5 (a:=a) h1;have:=ha.2;have:=hb.2;exact⟨⟨q1,by lia⟩,⟨by lia,by lia⟩⟩
theorem bG7{H H':Hp}{d l p:Addr}{xs:List V}(D:dN H d l)(o:eO d l H H')(h:H p=some (.tup xs)):H' p=some (.tup xs):=by
 obtain⟨sd,n,ls,D⟩:=D;exact o _ _ h (gH h D.dc (by intro z;cases z)) (gH h D.lc (by intro z;cases z))
inductive spGcd(vs:List V)(H:Hp)(Q:VK)(z1:XK):Prop
 |mk:∀a b:Int,(vs=[.int a,.int b])->(0<=a)->(0<=b)->(Q (.int (gI a b)) H)->spGcd vs H Q z1
inductive spLow(vs:List V)(H:Hp)(Q:VK)(z1:XK):Prop
 |mk:∀a b:Int,(vs=[.int a,.int b])->(0<=a)->(1<=b)->(b<2^200*2^200)->(∀p,H p=none->Q (.ref p) (aO H p (.tup (cD8 a b))))->spLow vs H Q z1
inductive spMinus(vs:List V)(H:Hp)(Q:VK)(z1:XK):Prop
 |mk:∀(p q:Addr) (a b c d:Int),(vs=[.ref p,.ref q])->(fW H p a b)->(fW H q c d)->(B72 a)->(B72 b)->(B72 c)->(B72 d)->(1<=b)->(1<=d)->(c*b<=a*d)->(∀r,H r=none->Q (.ref r) (aO H r (.tup (cD8 (a*d-c*b) (b*d)))))->spMinus vs H Q z1
inductive aU5(lo hi:Int)(f g:Int->Int->Int->Int)(vs:List V)(H:Hp)(Q:VK)(z1:XK):Prop
 |mk:∀(st:Addr) (p q k:Int),(vs=[.ref st,.int k])->(fW H st p q)->(wT p q)->(lo<=k)->(k<=hi)->(∀H' r,aR H H'->fW H' r (dW (f p q k) (g p q k)) (dE (f p q k) (g p q k))->Q (.ref r) H')->aU5 lo hi f g vs H Q z1
def dL{α:Type}(R:V->α->Prop):List V->List α->Prop
 |[],[]=>True
 |v::vs,a::as=>R v a/\dL R vs as
 |_,_=>False
theorem dL.mono{α:Type}{R R':V->α->Prop}(h:∀v a,R v a->R' v a):∀{vs:List V}{as:List α},dL R vs as->dL R' vs as
 |[],[],_=>trivial
 |_::_,_::_,⟨e,r⟩=>⟨h _ _ e,dL.mono h r⟩
 |[],_::_,z=>z.elim
 |_::_,[],z=>z.elim
theorem dL.append{α:Type}{R:V->α->Prop}:∀{vs ws:List V}{as bs:List α},dL R vs as->dL R ws bs->dL R (vs++ws) (as++bs)
 |[],_,[],_,_,r=>r
 |_::_,_,_::_,_,⟨e,r⟩,r2=>⟨e,dL.append r r2⟩
 |[],_,_::_,_,z,_=>z.elim
 |_::_,_,[],_,z,_=>z.elim
theorem dL.length{α:Type}{R:V->α->Prop}:∀{vs:List V}{as:List α},dL R vs as->vs.length=as.length
 |[],[],_=>rfl
 |_::_,_::_,⟨_,r⟩=>by simp[dL.length r]
 |[],_::_,z=>z.elim
 |_::_,[],z=>z.elim
def TS(H H':Hp):Prop:=∀a xs,H a=some (.tup xs)->H' a=some (.tup xs)
theorem TS.of{H H':Hp}(s:aR H H'):TS H H':=fun _ _ e=>s _ _ e
theorem TS.trans{H H1 H2:Hp}(a:TS H H1)(b:TS H1 H2):TS H H2:=fun c o h=>b c o (a c o h)
theorem TS.lst{H:Hp}{l:Addr}{xs ys:List V}(h:H l=some (.lst xs)):TS H (aO H l (.lst ys)):=fun a o e=>by
 rw[aH (gH e h (by intro z;cases z))];exact e
theorem TS.out{H H':Hp}{d l:Addr}(D:dN H d l)(o:eO d l H H'):TS H H':=fun p xs h=>bG7 D o h
theorem cV{H H1:Hp}{l:Addr}{ys:List V}(s:aR H H1)(h:H l=none):aR H (aO H1 l (.lst ys)):=fun b o e=>by
 rw[aH (aI e h)];exact s b o e
theorem bE{α:Type}{l:List α}{i:Nat}{x:α}(h:l[i]?=some x):l.take (i+1)=l.take i++[x]:=by
 rw[List.take_succ,h];rfl
structure jD(lo hi:Int):Prop where
 a:0<=lo
 b:lo<=hi
 c:hi<=9
theorem bX9{z:Str}{r:Int}(h0:0<=r)(h1:r<(z.length:Int)):∃c,lP z.cps.toList r=some c:=by
 have hk:r.toNat<z.cps.toList.length:=by
  rw[jh];exact(Int.toNat_lt h0).mpr h1
 have e2:((r.toNat:Nat):Int)=r:=ie h0;have q:lP z.cps.toList ((r.toNat:Nat):Int)=some z.cps.toList[r.toNat]:=kC (ak hk);rw[e2] at q;exact⟨_,q⟩
theorem wE:∀{zs:List Str},(∀z∈zs,z.length=1)->(zs.map (·.length)).sum=zs.length
 |[],_=>rfl
 |z::r,h=>by
  have h1:=h z az;have h2:=wE fun y hy=>h y (av z hy)
  simp only[List.map_cons,List.sum_cons,List.length_cons,h1,h2];lia
theorem rF(sep:Str):∀(ys:List Str) (a:Array Nat),(ys.foldl (fun acc p=>acc++sep.cps++p.cps) a).size=a.size+(ys.map (·.length)).sum+ys.length*sep.length
 |[],a=>by simp
 |y::r,a=>by
  rw[ja,rF sep r];simp only[Array.size_append,List.map_cons,List.sum_cons,List.length_cons,Nat.add_mul,Nat.one_mul];have e1:sep.cps.size=sep.length:=rfl;have e2:y.cps.size=y.length:=rfl;lia
theorem aX6(sep:Str)(ys:List Str):(Txt.join sep ys).length<=(ys.map (·.length)).sum+ys.length*sep.length:=by
 cases ys with
 |nil=>exact bo _
 |cons y r =>
  show(List.foldl (fun acc p=>acc++sep.cps++p.cps) y.cps r).size<=_;rw[rF];simp only[List.map_cons,List.sum_cons,List.length_cons,Nat.add_mul,Nat.one_mul];have e2:y.cps.size=y.length:=rfl;lia
def yP:List Str:=["kinds","ladder","flat","choose","first","let","tell","when","else","times","end","of"]
theorem pG:∀xs:List Str,(xs.map V.str).all lZ=true
 |[]=>rfl
 |_::r=>pG r
structure nJ(H:Hp)(d l ls:Addr)(ts:List V):Prop where
 deal:dN H d l
 ne:ls≠l
 lst:H ls=some (.lst ts)
theorem nJ.new{H:Hp}{d l ls:Addr}(D:dN H d l)(h:H ls=none):nJ (aO H ls (.lst [])) d l ls []:=by
 obtain⟨sd,n,l',q⟩:=id D;exact⟨D.same (aB h _),(aI q.lc h).symm,aC⟩
theorem nJ.app{H:Hp}{d l ls:Addr}{ts:List V}(S:nJ H d l ls ts)(us:List V):nJ (aO H ls (.lst us)) d l ls us:=by
 refine⟨?_,S.ne,aC⟩;obtain⟨sd,n,l',q⟩:=S.deal;exact⟨sd,n,l',⟨by rw[aH (gH q.dc S.lst (by intro z;cases z))];exact q.dc,by rw[aH S.ne.symm];exact q.lc,q.s0,q.s1,q.n0,q.l0⟩⟩
end Mine
namespace HT
open PySem PySem.Spec PyProof.Rows L2
section
variable {prog:Program}{w:World}{A:Around}{E:Value->Shared->Prop}{s:Shared}
end
end HT
namespace L2
open PySem PySem.Spec PyProof.Rows
abbrev mM(h:Heap)(z TI TO:Addr)(T:Addr)(f:Bool):Prop:=
 h.get? z=some { cls:= .type "zip",dict:=none,data:= .fields #[rawInt T,.bool f,.bool false,.ref TI,.ref TO],slots:= #[] }
section
variable {prog:Program}{w:World}{A:Around}{E:Value->Shared->Prop}{s:Shared}
theorem tO{z TI TO T:Addr}{f:Bool}{o:Obj}{Q:Bool->Shared->Prop}(hz:mM s.heap z TI TO T f)(hT:s.heap.get? T=some o)
  (k:∀h',mM h' z TI TO T true->Heap.SameBut z s.heap h'->Q false { s with heap:=h' }):wpAny (model prog w) A (Builtin.SmallTypes.ownedTupleIsFree (.ref z)) Q E s:=by
 unfold Builtin.SmallTypes.ownedTupleIsFree;refine aa (dr hz rfl (x:=rawInt T) rfl ?_);show wpAny _ _ (loadIfAlive ((T:Int).toNat)>>=_) _ _ _;rw[dz];refine aa (W.kdx_alive hT ?_);simp only[Option.isNone_some,Bool.false_eq_true,if_false];refine aa (dr hz rfl (x:= .bool f) rfl ?_)
 cases f with
 |true =>
  rw[ay (show ¬((Value.bool true != Value.bool true)=true) from bt)];exact aq (k _ hz (Heap.SameBut.refl _ _))
 |false =>
  rw[bv (show(Value.bool false != Value.bool true)=true from rfl)];refine aa (jr hz (by simp) fun h3 he3 hs3=>?_);exact aq (k h3 he3 hs3)
theorem aM1{z TI TO i1 i2 l1 l2 T:Addr}{f:Bool}{o:Obj}{k1 k2:Nat}{xs ys:Array Value}{x y:Value}{Q:Value->Shared->Prop}(D:ZipApart z TI TO i1 i2 l1 l2)
  (hz:mM s.heap z TI TO T f) (hT:s.heap.get? T=some o) (hTI:IsPair s.heap TI (.ref i1) (.ref i2))
  (h1:s.heap.IsListIter i1 l1 k1) (h2:s.heap.IsListIter i2 l2 k2) (hl1:s.heap.IsList l1 xs) (hl2:s.heap.IsList l2 ys) (hx:xs[k1]?=some x) (hy:ys[k2]?=some y)
  (hQ:∀h',mM h' z TI TO T true->h'.IsListIter i1 l1 (k1+1)->h'.IsListIter i2 l2 (k2+1)->IsPair h' s.heap.objs.size x y->h'.objs.size=s.heap.objs.size+1 ->
   (∀c o,c≠z->c≠i1->c≠i2->s.heap.get? c=some o->h'.get? c=some o)->Q (.ref s.heap.objs.size) { s with heap:=h' }) :
  wpAny (model prog w) A (Builtin.«zip.__next__» ⟨[.ref z],[]⟩) (fun fin s'=>∃v,fin= .done (.ret v)/\Q v s') E s:=by
 show wpAny _ _ (field (.ref z) 2>>=_) _ _ _;refine aa (dr hz rfl (x:= .bool false) rfl ?_);show wpAny _ _ (field (.ref z) 3>>=_) _ _ _;refine aa (dr hz rfl (x:= .ref TI) rfl ?_);refine aa (gm hTI rfl ?_);show wpAny _ _ (Builtin.SmallTypes.ownedTupleIsFree (.ref z)>>=_) _ _ _;refine aa (tO hz hT fun h1' hz1 hs1=>?_);simp only[Bool.false_eq_true,if_false];refine aa ?_;simp only[<-Array.forIn_toList,List.forIn_cons,List.forIn_nil];refine aa (aa (ij ?_));show wpAny _ _ (Builtin.SmallTypes.nextOf (.ref i1)>>=_) _ _ _;refine aa (aV9 (h1.extBut hs1.extBut D.i1z) (hl1.extBut hs1.extBut D.l1z) hx fun h2' a1 s2=>aq ?_);refine aq ?_;refine aa (aa (ij ?_));show wpAny _ _ (Builtin.SmallTypes.nextOf (.ref i2)>>=_) _ _ _;refine aa (aV9 ((h2.extBut hs1.extBut D.i2z).extBut s2.extBut D.i12.symm) ((hl2.extBut hs1.extBut D.l2z).extBut s2.extBut D.l2i1) hy fun h3' a2 s3=>aq ?_)
 refine aq (aq ?_);refine aa (wpAny_newTuple (hsz:=dA) ?_);have hsz:h3'.objs.size=s.heap.objs.size:=by rw[s3.1,s2.1,hs1.1]
 have kp:∀c o,c≠z->c≠i1->c≠i2->s.heap.get? c=some o->h3'.get? c=some o:=fun c o c1 c3 c4 e=>s3.extBut _ _ c4 (s2.extBut _ _ c3 (hs1.extBut _ _ c1 e))
 have z3:mM h3' z TI TO T true:=s3.extBut _ _ D.i2z.symm (s2.extBut _ _ D.i1z.symm hz1);have e1:h3'.IsListIter i1 l1 (k1+1):=a1.extBut s3.extBut D.i12;refine aq ⟨_,rfl,?_⟩;show Q (.ref h3'.objs.size) _;rw[hsz];refine hQ _ (ac _ z3) (e1.at fun o e=>ac _ e) (a2.at fun o e=>ac _ e) ?_ (by rw[ir,hsz]) fun c o c1 c2 c3 e=>ac _ (kp c o c1 c2 c3 e)
 rw[<-hsz];exact bc _ rfl
theorem aX1{z TI TO i1 i2 l1 l2 T:Addr}{f:Bool}{o:Obj}{k1:Nat}{xs:Array Value}{Q:Fin->Shared->Prop}(hh:A.handled=none)(D:ZipApart z TI TO i1 i2 l1 l2)
  (hz:mM s.heap z TI TO T f) (hT:s.heap.get? T=some o) (hTI:IsPair s.heap TI (.ref i1) (.ref i2))
  (h1:s.heap.IsListIter i1 l1 k1) (hl1:s.heap.IsList l1 xs) (hx:xs[k1]?=none)
  (hE:∀h' e,(∀c o,c≠z->c≠i1->c≠i2->s.heap.get? c=some o->h'.get? c=some o)->(∃o,h'.get? e=some o/\o.cls= .type "StopIteration")->E (.ref e) { s with heap:=h' }) :
  wpAny (model prog w) A (Builtin.«zip.__next__» ⟨[.ref z],[]⟩) Q E s:=by
 show wpAny _ _ (field (.ref z) 2>>=_) _ _ _;refine aa (dr hz rfl (x:= .bool false) rfl ?_);show wpAny _ _ (field (.ref z) 3>>=_) _ _ _;refine aa (dr hz rfl (x:= .ref TI) rfl ?_);refine aa (gm hTI rfl ?_);show wpAny _ _ (Builtin.SmallTypes.ownedTupleIsFree (.ref z)>>=_) _ _ _;refine aa (tO hz hT fun h1' hz1 hs1=>?_);simp only[Bool.false_eq_true,if_false];refine aa ?_;simp only[<-Array.forIn_toList,List.forIn_cons,List.forIn_nil];refine aa (aa (ij ?_));show wpAny _ _ (Builtin.SmallTypes.nextOf (.ref i1)>>=_) _ _ _;refine aa (aB5 hh (h1.extBut hs1.extBut D.i1z) (hl1.extBut hs1.extBut D.l1z) hx fun g e s2 he=>?_);exact hE g e (fun c o c1 c3 _ x=>s2 _ _ c3 (hs1.extBut _ _ c1 x)) he
structure ZoB(h:Heap)(TI i1 i2 l1 l2:Addr)(i:Nat)(xs ys:Array Value):Prop where
 I:IsPair h TI (.ref i1) (.ref i2)
 i1:h.IsListIter i1 l1 i
 i2:h.IsListIter i2 l2 i
 l1:h.IsList l1 xs
 l2:h.IsList l2 ys
def aB2(h:Heap)(z TI TO i1 i2 l1 l2 S:Addr)(i:Nat)(xs ys:Array Value):Prop:=
 ZoB h TI i1 i2 l1 l2 i xs ys/\((i=0/\IsZip h z TI TO .none/\∃a b,IsPair h TO a b)\/∃T f o,mM h z TI TO T f/\h.get? T=some o/\T≠z/\T≠i1/\T≠i2/\T≠S)
theorem aB2.keep{h h':Heap}{z TI TO i1 i2 l1 l2 S:Addr}{i:Nat}{xs ys:Array Value}(x:aB2 h z TI TO i1 i2 l1 l2 S i xs ys)(hk:∀b o,b≠S->h.get? b=some o->h'.get? b=some o)
  (n1:z≠S) (n2:TI≠S) (n3:TO≠S) (n4:i1≠S) (n5:i2≠S) (n6:l1≠S) (n7:l2≠S):aB2 h' z TI TO i1 i2 l1 l2 S i xs ys:=by
 obtain⟨b,c⟩:=x;refine⟨⟨hk _ _ n2 b.I,b.i1.at fun o e=>hk _ o n4 e,b.i2.at fun o e=>hk _ o n5 e,b.l1.at fun o e=>hk _ o n6 e,b.l2.at fun o e=>hk _ o n7 e⟩,?_⟩;rcases c with⟨e,a,u,v,w⟩|⟨T,f,o,a,b,c1,c2,c3,c4⟩
 ·exact .inl ⟨e,hk _ _ n1 a,u,v,hk _ _ n3 w⟩
 ·exact .inr ⟨T,f,o,hk _ _ n1 a,hk _ _ c4 b,c1,c2,c3,c4⟩
theorem bJ0{z TI TO i1 i2 l1 l2 S:Addr}{i:Nat}{xs ys:Array Value}{x y:Value}{Q:Option Value->Shared->Prop}(D:ZipApart z TI TO i1 i2 l1 l2)(hst:aB2 s.heap z TI TO i1 i2 l1 l2 S i xs ys)(hS:S<s.heap.objs.size)
  (hx:xs[i]?=some x) (hy:ys[i]?=some y)
  (hQ:∀h',aB2 h' z TI TO i1 i2 l1 l2 S (i+1) xs ys->IsPair h' s.heap.objs.size x y->h'.objs.size=s.heap.objs.size+1 ->
   (∀c o,c≠z->c≠TO->c≠i1->c≠i2->s.heap.get? c=some o->h'.get? c=some o)->Q (some (.ref s.heap.objs.size)) { s with heap:=h' }) :
  wpAny (model prog w) A (pyNext (.ref z)) Q E s:=by
 obtain⟨b,c⟩:=hst;have li1:i1<s.heap.objs.size:=by obtain⟨_,e,_⟩:=b.i1;exact ao e
 have li2:i2<s.heap.objs.size:=by obtain⟨_,e,_⟩:=b.i2;exact ao e
 rcases c with⟨rfl,hz,u,v,hTO⟩|⟨T,f,o,hz,hT,c1,c2,c3,c4⟩
 ·refine wpAny_pyNext_zip_item D hz b.I hTO b.i1 b.i2 b.l1 b.l2 hx hy fun h' a1 a2 a3 a4 a5 a6 a7=>?_
  have lz:z<s.heap.objs.size:=ao hz;exact hQ h' ⟨⟨a7 _ _ D.TIz D.TITO D.TIi1 D.TIi2 b.I,a3,a4,b.l1.at fun o e=>a7 _ o D.l1z D.l1TO D.l1i1 D.l1i2 e,b.l2.at fun o e=>a7 _ o D.l2z D.l2TO D.l2i1 D.l2i2 e⟩,
   .inr ⟨_,false,_,a1,a5,dq lz,dq li1,dq li2,dq hS⟩⟩ a5 a6 a7
 ·have hT':s.TypeIs (.ref z) "zip":=⟨_,hz,rfl⟩
  unfold pyNext;refine aa (nu (fw (name:=Str.ofString "__next__") hT' mx
   (ip mx hT' wc
    (aM1 D hz hT b.I b.i1 b.i2 b.l1 b.l2 hx hy fun h' a1 a3 a4 a5 a6 a7=>aq ?_) (vk _))))
  exact hQ h' ⟨⟨a7 _ _ D.TIz D.TIi1 D.TIi2 b.I,a3,a4,b.l1.at fun o e=>a7 _ o D.l1z D.l1i1 D.l1i2 e,b.l2.at fun o e=>a7 _ o D.l2z D.l2i1 D.l2i2 e⟩,
   .inr ⟨T,true,o,a1,a7 _ _ c1 c2 c3 hT,c1,c2,c3,c4⟩⟩ a5 a6 fun c o d1 _ d3 d4 e=>a7 c o d1 d3 d4 e
theorem bE8{z TI TO i1 i2 l1 l2 S:Addr}{i:Nat}{xs ys:Array Value}{Q:Option Value->Shared->Prop}(hh:A.handled=none)(D:ZipApart z TI TO i1 i2 l1 l2)(hst:aB2 s.heap z TI TO i1 i2 l1 l2 S i xs ys)(hx:xs[i]?=none)
  (hQ:∀h',(∀c o,c≠z->c≠TO->c≠i1->c≠i2->s.heap.get? c=some o->h'.get? c=some o)->Q none { s with heap:=h' }):wpAny (model prog w) A (pyNext (.ref z)) Q E s:=by
 obtain⟨b,c⟩:=hst;rcases c with⟨rfl,hz,u,v,hTO⟩|⟨T,f,o,hz,hT,c1,c2,c3,c4⟩
 ·exact wpAny_pyNext_zip_end hh D hz b.I hTO b.i1 b.i2 b.l1 b.l2 (.inl hx) hQ
 ·have hT':s.TypeIs (.ref z) "zip":=⟨_,hz,rfl⟩
  unfold pyNext;refine aa (nu (fw (name:=Str.ofString "__next__") hT' mx
   (ip mx hT' wc (aX1 hh D hz hT b.I b.i1 b.l1 hx fun h' e hk he=>?_) (vk _))))
  obtain⟨o,ho,hc⟩:=he;refine aa (ux (T:="StopIteration") (b:=true) ⟨o,ho,hc⟩ isSubtype_stop ?_);exact aq (hQ _ fun c o d1 _ d3 d4 e=>hk c o d1 d3 d4 e)
end
structure ZoG(xs ys:Array Value)(lo:Addr)(h:Heap)(as:List Addr):Prop where
 above:∀a∈as,lo<a
 nd:as.Nodup
 pairs:∀(j:Nat) (a:Addr),as[j]?=some a->∃x y,xs[j]?=some x/\ys[j]?=some y/\IsPair h a x y
section
variable {prog:Program}{w:World}{A:Around}{s:Shared}{R:Result->Shared->Prop}{xs ys:Array Value}
theorem bG4{S z TI TO i1 i2 l1 l2:Addr}(hh:A.handled=none)(D:ZipApart z TI TO i1 i2 l1 l2)(hn:xs.size<=sizeLine)(hxy:xs.size=ys.size)(res:Value){h₁:Heap}{lo:Addr}(gz:z<=lo)(gS:S<=lo)(gO:TO<=lo)(g1:i1<=lo)(g2:i2<=lo)
  (n1:z≠S) (n2:TI≠S) (n3:TO≠S) (n4:i1≠S) (n5:i2≠S) (n6:l1≠S) (n7:l2≠S)
  (hR:∀h' tk acc c as,(∀b o,b≠S->b≠z->b≠TO->b≠i1->b≠i2->h₁.get? b=some o->h'.get? b=some o)->h'.get? S=some { cls:= .type "list",dict:=none,data:= .seq acc c,slots:= #[] }->as.length=xs.size->ZoG xs ys lo h' as ->
   acc.toList=as.map Value.ref->R (.ok (.ret res)) { s with heap:=h',toks:=tk }) :
  ∀(k i:Nat) (h:Heap) (tk c:Nat) (acc:Array Value) (as:List Addr),xs.size-i=k->i<=xs.size->aB2 h z TI TO i1 i2 l1 l2 S i xs ys->(∀b o,b≠S->b≠z->b≠TO->b≠i1->b≠i2->h₁.get? b=some o->h.get? b=some o) ->
   h.get? S=some { cls:= .type "list",dict:=none,data:= .seq acc c,slots:= #[] }->acc.toList=as.map Value.ref->as.length=i->ZoG xs ys lo h as->lo<h.objs.size ->
   codeAny (model prog w) A (.builtin "list.extend.loop" ⟨[.ref S,.ref z,res],[]⟩) R { s with heap:=h,toks:=tk }:=by
 intro k
 induction k with
 |zero =>
  intro i h tk c acc as hk hi hst hkeep hS hacc hal hG hIs;refine rg uk ?_;rw[ng kq _];show wpAny _ A.in1 (pyNext (.ref z)>>=_) _ _ _;refine aa (bE8 (s:={ s with heap:=h,toks:=tk }) (A:=A.in1) hh D hst (Array.getElem?_eq_none (by lia)) fun h' he=>?_);refine aq (hR h' tk acc c as (fun b o m1 m2 m3 m4 m5 e=>he b o m2 m3 m4 m5 (hkeep b o m1 m2 m3 m4 m5 e)) (he S _ n1.symm n3.symm n4.symm n5.symm hS) (by lia) ⟨hG.above,hG.nd,fun j a hj=>?_⟩ hacc);obtain⟨x,y,e1,e2,e3⟩:=hG.pairs j a hj;have la:=hG.above a (bj hj);exact⟨x,y,e1,e2,he a _ (dq (cq gz la)) (dq (cq gO la)) (dq (cq g1 la)) (dq (cq g2 la)) e3⟩
 |succ k ih =>
  intro i h tk c acc as hk hi hst hkeep hS hacc hal hG hIs;have hlt:i<xs.size:=by lia
  have hx:xs[i]?=some xs[i]:=ou hlt;have hy:ys[i]?=some (ys[i]'(by lia)):=ou (by lia);have hsz:acc.size=i:=by rw[<-jh,hacc,ae,hal]
  refine rg uk ?_;rw[ng kq _];show wpAny _ A.in1 (pyNext (.ref z)>>=_) _ _ _;refine aa (bJ0 (s:={ s with heap:=h,toks:=tk }) (S:=S) D hst (ao hS) hx hy fun h' hst' ht hz hkp=>?_)
  dsimp only at ht hz hkp ⊢
  have hS':=hkp S _ n1.symm n3.symm n4.symm n5.symm hS;have up:∀b o,b≠S->h'.get? b=some o->(h'.update S (Obj.mapSeq (·.push (Value.ref h.objs.size)))).get? b=some o:=fun b o hb e=>(iq _ _ (Ne.symm hb)).trans e
  have hSl:S<h.objs.size:=ao hS;show wpAny _ A.in1 (updateSeq S (·.push (Value.ref h.objs.size))>>=_) _ _ _;refine aa ?_;refine ot hS' rfl (aq ⟨uc kq _,ih (i+1) _ tk _ (acc.push (Value.ref h.objs.size)) (as++[h.objs.size]) (by lia) hlt (hst'.keep up n1 n2 n3 n4 n5 n6 n7)
   (fun b o m1 m2 m3 m4 m5 e=>up b o m1 (hkp b o m2 m3 m4 m5 (hkeep b o m1 m2 m3 m4 m5 e))) (fg _ hS' rfl) (by rw[Array.toList_push,hacc,cy];rfl) (by rw[aj,hal];rfl) ⟨?_,?_,?_⟩ ?_⟩) (by rw[hsz];lia) (by show(acc.push (Value.ref h.objs.size)).size<=sizeLine+1;rw[Array.size_push,hsz];lia)
  ·intro a ha;rcases bz.mp ha with ha|ha
   ·exact hG.above a ha
   ·rw[au.mp ha];exact hIs
  ·rw[ki];refine⟨hG.nd,by simp,fun a ha b hb=>?_⟩;rw[au.mp hb];obtain⟨j,hj⟩:=List.mem_iff_getElem?.mp ha;obtain⟨_,_,_,_,e⟩:=hG.pairs j a hj;exact cg (ao e)
  ·intro j b hj;rcases Nat.lt_trichotomy j as.length with h1|h1|h1
   ·rw[km h1] at hj;obtain⟨x',y',e1,e2,e3⟩:=hG.pairs j b hj;have la:=hG.above b (bj hj);exact⟨x',y',e1,e2,up b _ (dq (cq gS la)) (hkp b _ (dq (cq gz la)) (dq (cq gO la)) (dq (cq g1 la)) (dq (cq g2 la)) e3)⟩
   ·subst h1;have hb:h.objs.size=b:=by simpa using hj
    subst hb;exact⟨_,_,by rw[hal];exact hx,by rw[hal];exact hy,up _ _ (dq hSl) ht⟩
   ·have hnone:(as++[h.objs.size])[j]?=none:=qj (by rw[aj,fh];lia);rw[hnone] at hj;cases hj
  ·have e:(h'.update S (Obj.mapSeq (·.push (Value.ref h.objs.size)))).get? h.objs.size=_:=up _ _ (dq hSl) ht;exact Nat.lt_trans hIs (ao e)
end
theorem aU0:typeLookup (.type "zip") "__len__"=pure none:=by rw[rc,mi];kernel_rfl
theorem aK8:typeLookup (.type "zip") "__length_hint__"=pure none:=by rw[rc,mi];kernel_rfl
section
variable {prog:Program}{w:World}{A:Around}{E:Value->Shared->Prop}{s:Shared}{xs ys:Array Value}
theorem xA{n l1 l2:Nat}{Q:Value->Shared->Prop}(hh:A.handled=none)(hn:xs.size<=sizeLine)(hxy:xs.size=ys.size)
  (hz:IsZip s.heap (n+4) (n+2) (n+3) .none) (hI:IsPair s.heap (n+2) (.ref n) (.ref (n+1))) (hO:∃a b,IsPair s.heap (n+3) a b) (h1:s.heap.IsListIter n l1 0) (h2:s.heap.IsListIter (n+1) l2 0)
  (t1:s.heap.IsList l1 xs) (t2:s.heap.IsList l2 ys) (o1:l1<n) (o2:l2<n)
  (k:∀t acc c as,(∀(b:Addr) o,(∀j:Nat,j<5->b≠(n+j:Nat))->s.heap.get? b=some o->t.heap.get? b=some o)->t.gens=s.gens->t.os=s.os->t.drawn=s.drawn ->
   t.heap.get? s.heap.objs.size=some { cls:= .type "list",dict:=none,data:= .seq acc c,slots:= #[] }->as.length=xs.size->ZoG xs ys s.heap.objs.size t.heap as->acc.toList=as.map Value.ref->Q (.ref s.heap.objs.size) t) :
  wpAny (model prog w) A (call (.type "list") [.ref (n+4)]) Q E s:=by
 obtain⟨oa,ob,hO⟩:=hO;have zl:n+4<s.heap.objs.size:=ao hz;have e:∀i j:Nat,i≠j->(n+i:Nat)≠n+j:=fun i j h z=>by lia
 have f1:∀i:Nat,l1≠n+i:=fun i z=>by lia
 have f2:∀i:Nat,l2≠n+i:=fun i z=>by lia
 have b:∀i:Nat,i<=4->(n+i:Nat)<s.heap.objs.size:=fun i h=>by lia
 have c1:l1<s.heap.objs.size:=by lia
 have c2:l2<s.heap.objs.size:=by lia
 have D:ZipApart (n+4) (n+2) (n+3) n (n+1) l1 l2:=⟨e 2 4 (by decide),e 3 4 (by decide),e 0 4 (by decide),e 1 4 (by decide),e 2 3 (by decide),e 2 0 (by decide),e 2 1 (by decide),e 3 0 (by decide),e 3 1 (by decide),e 0 1 (by decide),f1 4,f1 3,f1 0,f1 1,f2 4,f2 3,f2 0,f2 1⟩
 have nb:∀i:Nat,i<=4->(n+i:Nat)≠s.heap.objs.size:=fun i h=>cg (b i h)
 refine callType_codes (Q₁:=fun o t=>o= .ref s.heap.objs.size/\t={ s with heap:=s.heap.push newL }) F.called_list (yz _) za (code_list_new _ ⟨rfl,rfl⟩) ?_;rintro _ _ ⟨rfl,rfl⟩;have hS:(s.heap.push newL).get? s.heap.objs.size=some newL:=bc _ rfl;refine⟨⟨_,hS,rfl⟩,yd _ _,?_⟩;refine aa (m:=Builtin.List.listItems (.ref s.heap.objs.size)) (aa (gm hS rfl (aq ?_)));refine aa (m:=updateSeq s.heap.objs.size fun _=> #[]) (ot hS rfl (aa (vz ?_)));have hS2:=fg (Obj.mapSeq fun _=>(#[]:Array Value)) hS rfl;have older:∀b o,s.heap.get? b=some o->((s.heap.push newL).update s.heap.objs.size (Obj.mapSeq fun _=>(#[]:Array Value))).get? b=some o:=fun b o e =>
  (iq _ _ (dq (ao e))).trans (ac _ e)
 have hTz:Shared.TypeIs { s with heap:=(s.heap.push newL).update s.heap.objs.size (Obj.mapSeq fun _=>(#[]:Array Value)) } (.ref (n+4)) "zip":=⟨_,older _ _ hz,rfl⟩
 have fin:∀(h:Heap) (tk c:Nat),(∀b o,b≠s.heap.objs.size->s.heap.get? b=some o->h.get? b=some o)->h.get? s.heap.objs.size=some { cls:= .type "list",dict:=none,data:= .seq #[] c,slots:= #[] } ->
   codeAny (model prog w) A.in1 (.builtin "list.extend.loop" ⟨[.ref s.heap.objs.size,.ref (n+4),.none],[]⟩) (wants (fun r s2=>r=Value.none/\Q (.ref s.heap.objs.size) s2) E) { s with heap:=h,toks:=tk }:=by
  intro h tk c hk hSh;refine bG4 (prog:=prog) (w:=w) (A:=A.in1) (R:=wants (fun r s2=>r=Value.none/\Q (.ref s.heap.objs.size) s2) E) (s:=s) (xs:=xs) (ys:=ys) (h₁:=s.heap) (lo:=s.heap.objs.size) (S:=s.heap.objs.size) hh D hn hxy .none (cu (b 4 (by decide))) (ai _) (cu (b 3 (by decide))) (cu (b 0 (by decide))) (cu (b 1 (by decide))) (nb 4 (by decide)) (nb 2 (by decide)) (nb 3 (by decide)) (nb 0 (by decide)) (nb 1 (by decide)) (cg c1) (cg c2)
   (fun h' tk' acc c' as hk' hS' hl hG hacc=>⟨rfl,k _ acc c' as (fun a o hb e'=>hk' a o (cg (ao e')) (hb 4 (by decide)) (hb 3 (by decide)) (hb 0 (by decide)) (hb 1 (by decide)) e') rfl rfl rfl hS' hl hG hacc⟩)
   xs.size 0 h tk c #[] [] (Nat.sub_zero _) (bo _) ⟨⟨hk _ _ (nb 2 (by decide)) hI,h1.at fun o e=>hk _ o (nb 0 (by decide)) e,h2.at fun o e=>hk _ o (nb 1 (by decide)) e,t1.at fun o e=>hk _ o (cg c1) e,t2.at fun o e=>hk _ o (cg c2) e⟩,.inl ⟨rfl,hk _ _ (nb 4 (by decide)) hz,_,_,hk _ _ (nb 3 (by decide)) hO⟩⟩
   (fun b o m1 _ _ _ _ e=>hk b o m1 e) hSh rfl rfl ⟨(fun _ ha=>nomatch ha),sq,(fun j a hj=>by simp at hj)⟩ (ao hSh)
 unfold Builtin.List.listExtendWith;refine aa (yb hTz ?_);have same:Builtin.List.listSameRef (.ref s.heap.objs.size) (.ref (n+4))=false:=by simp[Builtin.List.listSameRef];exact fun z=>nb 4 (by decide) z.symm
 rw[ay (by rw[same];decide)];refine aa (uy (older _ _ hz) (aa (ij ?_)));unfold Builtin.List.listLengthHint;refine aa (oq hTz aU0 ?_);refine aa (m:=specialOf (Value.ref (n+4)) (Str.ofString "__length_hint__")) (oq hTz aK8 ?_);refine aq ?_;refine wpAny_ite_split (fun _=>?_) (fun hab=>absurd (by decide) hab);refine aa (qv ?_);refine aa ?_;show wpAny _ _ (updateSeq s.heap.objs.size (·.push .none)>>=fun _=>updateSeq s.heap.objs.size (·.pop)) _ _ _;refine aa (ot hS2 rfl ?_);have hS3:=fg (Obj.mapSeq (·.push Value.none)) hS2 rfl;refine ot (hz:=by seq_fits) hS3 rfl ?_;have hS4:=fg (Obj.mapSeq (·.pop)) hS3 rfl;exact aq ⟨uc kq _,fin _ _ _ (fun b o hb e=>(iq _ _ (Ne.symm hb)).trans ((iq _ _ (Ne.symm hb)).trans (older b o e))) hS4⟩
end
theorem zO:∀{l:List Nat}{i:Nat}(h:i<l.length),l.Nodup->l.idxOf l[i]=i
 |[],_,h,_=>absurd h (Nat.not_lt_zero _)
 |a::l,0,_,_=>by simp
 |a::l,i+1,h,nd=>by
  obtain⟨n1,n2⟩:=fk.mp nd;have hl:i<l.length:=by simpa using h
  have ne:(a==l[i])=false:=by
   rw[oh];exact fun z=>n1 (by rw[z];exact qg hl)
  rw[List.getElem_cons_succ,List.idxOf_cons,ne,zO hl n2];rfl
def kZ(H:Hp)(D:Addr)(as:List Addr)(xs ys:List V):Hp:=fun b=>if b=D then some (.lst (as.map V.ref)) else if b∈as then some (.tup [xs.getD (as.idxOf b) .non,ys.getD (as.idxOf b) .non]) else H b
def aX4(K:W.Frag)(ta:TA):TE:=fun σ H Q=>ta σ H fun vs H1=>∃(a b:Addr) (xs ys:List V),vs=[V.ref a,V.ref b]/\bG K H1 a xs/\bG K H1 b ys/\xs.length=ys.length /\
 ∀(r:Addr) (zs:List V) (H':Hp),(∀c o,H1 c=some o->H' c=some o)->H1 r=none->H' r=some (.lst zs)->zs.length=xs.length->(∀(i:Nat) (x y:V),xs[i]?=some x->ys[i]?=some y->∃q,zs[i]?=some (V.ref q)/\H' q=some (.tup [x,y]))->Q (V.ref r) H'
theorem zS{X:Cx}{a b:Expr}{ta:TA}{p1 p2 pos1 pos2:Pos}(g1:Gl X "list")(m1:X.mg "list"=none)(g2:Gl X "zip")(m2:X.mg "zip"=none)(ha:PA X [a,b] ta)(hc:autoParam (X.calm=true) Rq0._auto_1)
  (hs1:autoParam (starEach [.Call (.Name "zip" p2) [a,b] [] pos2] X.env=[(false,eval (.Call (.Name "zip" p2) [a,b] [] pos2) X.env)]) Rq0._auto_1) (hs:autoParam (starEach [a,b] X.env=[(false,eval a X.env),(false,eval b X.env)]) Rq0._auto_1) (hs2:autoParam (starEach [b] X.env=[(false,eval b X.env)]) Rq0._auto_1) :
  PE X (.Call (.Name "list" p1) [.Call (.Name "zip" p2) [a,b] [] pos2] [] pos1) (aX4 X.K ta):=by
 intro pins s σ H Q I h;refine eo (gF I g1 m1 ly ?_);refine ef ?_ hs1 rfl;rw[hs1];refine gq (eo (gF I g2 m2 wp (ef (cL (ha pos2 pins s σ H _ I h) fun us s1 ⟨vs,H1,I1,r1,q1⟩=>?_) (by rw[hs,hs2]) (by rw[hs2];rfl))));obtain⟨a',b',xs,ys,rfl,q1,q2,hl,q⟩:=q1;obtain⟨u,v,rfl,ru,rv⟩:=nX r1
 cases ru
 cases rv
 obtain⟨is1,v1,p1,z1⟩:=I1.list q1;obtain⟨is2,v2,p2,z2⟩:=I1.list q2;have la:a'<s1.heap.objs.size:=by obtain⟨_,_,e,_⟩:=p1;exact ao e
 have lb:b'<s1.heap.objs.size:=by obtain⟨_,_,e,_⟩:=p2;exact ao e
 have n1:=v1.length;have n2:=v2.length;refine aM0 p1.isList p2.isList fun g Z k0=>jf ?_
 have I2:aQ X pins σ H1 { s1 with heap:=g }:=I1.kept (t':=s1.toks) k0;obtain⟨hz,hI,hO,hi1,hi2⟩:=Z;have fp:∀j:Nat,j<5->lS X pins H1 (s1.heap.objs.size+j):=fun j _=>I1.fpOk (gy ..) (I1.hok.fresh (gy ..))
 refine xA (n:=s1.heap.objs.size) (l1:=a') (l2:=b') (xs:=is1.toArray) (ys:=is2.toArray) (I.ok.hd hc) (by rw[br];lia) (by rw[br,br];lia) hz hI hO hi1 hi2 (p1.isList.at fun o e=>k0 _ o e) (p2.isList.at fun o e=>k0 _ o e) la lb ?_;intro t acc c as keep gens os drawn at' al G eacc;obtain⟨D,eD⟩:∃D,g.objs.size=D:=⟨_,rfl⟩
 have hD:g.objs.size<=D:=yf eD
 dsimp only at at' keep G ⊢
 rw[eD] at at' G ⊢;have fD:H1 D=none:=I2.hok.fresh hD;have fA:∀x∈as,H1 x=none:=fun x hx=>I2.hok.fresh (cu (cq hD (G.above x hx)))
 have ndA:∀x∈as,x≠D:=fun x hx=>dq (G.above x hx)
 have neT:∀b u,H1 b=some u->∀j:Nat,j<5->b≠(s1.heap.objs.size+j:Nat):=fun b u e j hj z=>by rw[z,(fp j hj).1] at e;cases e
 have old:∀b u,H1 b=some u->kZ H1 D as xs ys b=some u:=fun b u e=>by
  unfold kZ;rw[ay (aI e fD),ay (fun hb=>by rw[fA b hb] at e;cases e)];exact e
 have non:∀b o,g.get? b=some o->H1 b=none->kZ H1 D as xs ys b=none:=fun b o e n=>by
  have lt:=ao e;unfold kZ;rw[ay (fun z=>absurd lt (by rw[z];exact ko.mpr hD)),ay (fun hb=>absurd lt (ko.mpr (cu (cq hD (G.above b hb)))))];exact n
 have alen:as.length=xs.length:=by rw[al,br];lia
 have atA:∀(i:Nat) (x y:V),xs[i]?=some x->ys[i]?=some y->∃q,as[i]?=some q/\kZ H1 D as xs ys q=some (.tup [x,y]):=fun i x y hx hy=>by
  have il:i<as.length:=by rw[alen];exact(ap.mp hx).1
  refine⟨as[i],ak il,?_⟩;have m:as[i]∈as:=qg il;unfold kZ;rw[ay (ndA _ m),bv m,zO il G.nd,fq,fq,hx,hy];rfl
 have out5:∀{b:Addr},b∉[s1.heap.objs.size+0,s1.heap.objs.size+1,s1.heap.objs.size+2,s1.heap.objs.size+3,s1.heap.objs.size+4]->∀j:Nat,j<5->b≠(s1.heap.objs.size+j:Nat):=fun {b} hb j hj z=>by
  refine hb ?_;rw[z];obtain rfl|rfl|rfl|rfl|rfl:j=0\/j=1\/j=2\/j=3\/j=4:=by lia
  all_goals simp
 refine⟨.ref D,kZ H1 D as xs ys,I2.call' (ch:=[s1.heap.objs.size+0,s1.heap.objs.size+1,s1.heap.objs.size+2,s1.heap.objs.size+3,s1.heap.objs.size+4]) os ⟨fun b o e n _ hx=>keep b o ?_ e,fun b o e n _ hx=>⟨o.slots,keep b o ?_ e⟩,fun b o e n _=>non b o e n,fun b o e hx=>⟨o,keep b o ?_ e⟩,fun b xs e=>old _ _ e,fun b o u e=>old _ _ e,fun b ps e=>⟨#[],?_⟩⟩ (fun b u e=>?_) (by rw[gens];exact I2.bare) (fun b hb=>?_),rfl,q D (as.map V.ref) _ old fD (by unfold kZ;rw[bv rfl]) (by rw[ae,alen]) fun i x y hx hy=>?_⟩
 ·exact out5 hx
 ·exact out5 hx
 ·exact out5 hx
 ·rw[old _ _ e];simp
 ·by_cases hb:b=D
  ·subst hb;unfold kZ at e;rw[bv rfl] at e
   cases e
   refine⟨by rw[ae,alen];exact z1,as.map Value.ref,c,?_,?_⟩
   ·have:∀l:List Addr,bB (l.map V.ref) (l.map Value.ref):=fun l=>by
     induction l with
     |nil=>exact .nil
     |cons x l ih=>exact .cons rfl ih
    exact this as
   ·rw[at', <-mz (xs:=acc),eacc]
  ·by_cases ha:b∈as
   ·unfold kZ at e;rw[ay hb,bv ha] at e
    cases e
    obtain⟨i,il,ei⟩:=xh.mp ha;obtain⟨x,y,e1,e2,e3⟩:=G.pairs i b (by rw[ak il,ei]);have ix:as.idxOf b=i:=by rw[<-ei];exact zO il G.nd
    have e1':is1[i]?=some x:=by simpa using e1
    have e2':is2[i]?=some y:=by simpa using e2
    obtain⟨x',g1',r1'⟩:∃x',xs[i]?=some x'/\bC x' x:=by
     have hl1:i<xs.length:=by rw[<-alen];exact il
     obtain⟨u,hu,ru⟩:=v1.get (i:=i) (x:=xs[i]) (ak hl1);rw[e1'] at hu;cases hu;exact⟨_,ak hl1,ru⟩
    obtain⟨y',g2',r2'⟩:∃y',ys[i]?=some y'/\bC y' y:=by
     have hl2:i<ys.length:=by rw[<-hl, <-alen];exact il
     obtain⟨u,hu,ru⟩:=v2.get (i:=i) (x:=ys[i]) (ak hl2);rw[e2'] at hu;cases hu;exact⟨_,ak hl2,ru⟩
    rw[ix,fq,fq,g1',g2'];exact⟨dA,[x,y],.cons r1' (.cons r2' .nil),⟨_,e3,rfl,_,rfl,rfl⟩⟩
   ·have e':H1 b=some u:=by
     unfold kZ at e;rw[ay hb,ay ha] at e;exact e
    refine(I2.hok b u e').stay (fun c' v hc' q'=>keep c' v ?_ q') (fun c' q'=>old _ _ q') fun c' xs q'=>old _ _ q'
    rcases hc' with z|z
    ·rw[z];exact neT b u e'
    ·exact neT c' _ z
 ·obtain⟨j,hj,rfl⟩:∃j:Nat,j<5/\b=s1.heap.objs.size+j:=by
   simp only[List.mem_cons,List.not_mem_nil,or_false] at hb;rcases hb with z|z|z|z|z
   ·exact⟨0,by decide,z⟩
   ·exact⟨1,by decide,z⟩
   ·exact⟨2,by decide,z⟩
   ·exact⟨3,by decide,z⟩
   ·exact⟨4,by decide,z⟩
  obtain⟨f0,f1,f2,f3,f4,f5⟩:=fp j hj;exact⟨f3,f1,f4,f5⟩
 ·obtain⟨q,e1,e2⟩:=atA i x y hx hy;exact⟨q,by rw[cm,e1];rfl,e2⟩
end L2
namespace Mine
open PySem L2
inductive Tm where
 |num (p:Addr) (n:Int)
 |nam (p:Addr) (x:Str)
 |op (p:Addr) (s:Str) (a b:Tm)
def Tm.p:Tm->Addr
 |.num p _=>p
 |.nam p _=>p
 |.op p _ _ _=>p
def Tm.names:Tm->List Str
 |.num _ _=>[]
 |.nam _ x=>[x]
 |.op _ _ a b=>a.names++b.names
def Tm.size:Tm->Nat
 |.op _ _ a b=>1+a.size+b.size
 |_=>1
def cI9:List Str:=["+","-","*","<","="]
def Tm.ok:Tm->Prop
 |.num _ n=>0<=n/\n<1000
 |.nam _ _=>True
 |.op _ s a b=>s∈cI9/\a.ok/\b.ok
def Tm.fine(t:Tm):Prop:=t.ok/\t.size<=100
def pV(H:Hp):Tm->Prop
 |.num p n=>H p=some (.tup [.str "num",.int n])
 |.nam p x=>H p=some (.tup [.str "name",.str x])
 |.op p s a b=>H p=some (.tup [.str "op",.str s,.ref a.p,.ref b.p])/\pV H a/\pV H b
theorem pV.ts{H H':Hp}(t:TS H H'):∀{a:Tm},pV H a->pV H' a
 |.num _ _,h=>t _ _ h
 |.nam _ _,h=>t _ _ h
 |.op _ _ _ _,⟨h,ha,hb⟩=>⟨t _ _ h,pV.ts t ha,pV.ts t hb⟩
def Tm.w:Tm->Str
 |.num _ _=>"num"
 |.nam _ _=>"name"
 |.op _ _ _ _=>"op"
def Tm.rest:Tm->List V
 |.num _ n=>[.int n]
 |.nam _ x=>[.str x]
 |.op _ s a b=>[.str s,.ref a.p,.ref b.p]
theorem pV.at{H:Hp}:∀{t:Tm},pV H t->H t.p=some (.tup (.str t.w::t.rest))
 |.num _ _,h=>h
 |.nam _ _,h=>h
 |.op _ _ _ _,h=>h.1
theorem Tm.size_pos:∀t:Tm,1<=t.size
 |.num _ _=>ai _
 |.nam _ _=>ai _
 |.op _ _ _ _=>by unfold Tm.size;lia
def Tm.pre:Tm->List Tm
 |.num p n=>[.num p n]
 |.nam p x=>[.nam p x]
 |.op p s a b=> .op p s a b::(a.pre++b.pre)
theorem Tm.pre_len:∀t:Tm,t.pre.length=t.size
 |.num _ _=>rfl
 |.nam _ _=>rfl
 |.op _ _ a b=>by simp only[Tm.pre,Tm.size,List.length_cons,List.length_append,Tm.pre_len a,Tm.pre_len b];lia
theorem pV.pre{H:Hp}:∀{t:Tm},pV H t->∀u∈t.pre,pV H u
 |.num _ _,h,u,hu=>by rw[au.mp hu];exact h
 |.nam _ _,h,u,hu=>by rw[au.mp hu];exact h
 |.op _ _ _ _,h,u,hu=>by
  rcases cj.mp hu with e|e
  ·rw[e];exact h
  ·rcases bz.mp e with e|e
   ·exact pV.pre h.2.1 u e
   ·exact pV.pre h.2.2 u e
inductive wA where
 |lad (p q lo hi:Int)
 |fla (r lo hi:Int)
 |cho (p q lo hi:Int)
 |fst (pa qa pb qb mk lo hi:Int)
def wA.wd:wA->Str
 |.lad .. =>"ladder"
 |.fla .. =>"flat"
 |.cho .. =>"choose"
 |.fst .. =>"first"
def wA.one:wA->Bool
 |.lad .. =>true
 |.fla .. =>true
 |.cho .. =>false
 |.fst .. =>false
structure sX(p q:Int):Prop where
 st:wT p q
 co:Nat.gcd p.toNat q.toNat=1
def wA.Ok:wA->Prop
 |.lad p q _ _=>sX p q
 |.fla r _ _=>0<=r/\r<=4
 |.cho p q _ _=>sX p q
 |.fst pa qa pb qb mk _ hi=>sX pa qa/\sX pb qb/\0<=hi-mk/\hi-mk<=9
structure TD where
 vs:List V
 T:wA
 wss:List (List Int)
 kd:Nat
def pY(H:Hp)(v:V)(ws:List Int):Prop:=∃a,v= .ref a/\H a=some (.tup (ws.map V.int))
theorem pY.ts{H H':Hp}{v:V}{ws:List Int}(t:TS H H')(h:pY H v ws):pY H' v ws:=by obtain⟨a,e,q⟩:=h;exact⟨a,e,t _ _ q⟩
def aY5(H:Hp)(d:TD):Prop:=match d.T with
 |.lad p q lo hi=>∃w ws st,d.vs=[.ref w,.ref st,.int lo,.int hi]/\d.wss=[ws]/\H w=some (.tup (ws.map V.int))/\fW H st p q
 |.fla r lo hi=>∃w ws,d.vs=[.ref w,.int r,.int lo,.int hi]/\d.wss=[ws]/\H w=some (.tup (ws.map V.int))
 |.cho p q lo hi=>∃sm us st,d.vs=[.ref sm,.ref st,.int lo,.int hi]/\H sm=some (.tup us)/\dL (pY H) us d.wss/\fW H st p q
 |.fst pa qa pb qb mk lo hi=>∃sm us sa sb,d.vs=[.int mk,.ref sa,.ref sb,.ref sm,.int lo,.int hi]/\H sm=some (.tup us)/\dL (pY H) us d.wss/\fW H sa pa qa/\fW H sb pb qb
theorem aY5.ts{H H':Hp}(t:TS H H'){d:TD}(h:aY5 H d):aY5 H' d:=by
 obtain⟨vs,T,wss,kd⟩:=d
 cases T with
 |lad p q lo hi=>obtain⟨w,ws,st,a,b,c,e⟩:=h;exact⟨w,ws,st,a,b,t _ _ c,t _ _ e⟩
 |fla r lo hi=>obtain⟨w,ws,a,b,c⟩:=h;exact⟨w,ws,a,b,t _ _ c⟩
 |cho p q lo hi=>obtain⟨sm,us,st,a,b,c,e⟩:=h;exact⟨sm,us,st,a,t _ _ b,c.mono fun _ _ z=>z.ts t,t _ _ e⟩
 |fst pa qa pb qb mk lo hi=>obtain⟨sm,us,sa,sb,a,b,c,e,f⟩:=h;exact⟨sm,us,sa,sb,a,t _ _ b,c.mono fun _ _ z=>z.ts t,t _ _ e,t _ _ f⟩
structure aT9(d:TD):Prop where
 l1:1<=d.wss.length
 l4:d.wss.length<=4
 ws:∀ws∈d.wss,ws.length=d.kd/\∀y∈ws,0<=y/\y<=3
inductive Rw where
 |thr (p:Addr) (w x:Str) (vs:List V) (am:TD)
 |lt (p:Addr) (x:Str) (t:Tm)
 |tell (p:Addr) (t:Tm)
 |when (p pa pb:Addr) (t:Tm) (a b:List Rw)
 |times (p pb:Addr) (n:Int) (b:List Rw)
def Rw.p:Rw->Addr
 |.thr p _ _ _ am=>p
 |.lt p _ _=>p
 |.tell p _=>p
 |.when p _ _ _ _ _=>p
 |.times p _ _ _=>p
def dR:List Str:=["ladder","flat","choose","first"]
def TD.amiss(d:TD):Bool:=match d.T with
 |.lad _ _ lo hi=>decide (hi<lo)
 |.fla _ lo hi=>decide (hi<lo)
 |.cho _ _ lo hi=>decide (hi<lo)
 |.fst _ _ pb qb m lo hi=>decide (hi<=lo\/¬(lo<=m/\m<=hi)\/qb<2*pb)
structure kQ(H:Hp)(w:Str)(vs:List V)(d:TD):Prop where
 vs:vs=d.vs
 wd:w=d.T.wd
 ok:d.T.Ok
 at':aY5 H d
 ws:aT9 d
theorem kQ.ts{H H':Hp}(t:TS H H'){w:Str}{vs:List V}{d:TD}(h:kQ H w vs d):kQ H' w vs d:=⟨h.vs,h.wd,h.ok,h.at'.ts t,h.ws⟩
theorem wA.wd_in:∀T:wA,T.wd∈dR
 |.lad .. =>by show("ladder": Str)∈dR;decide
 |.fla .. =>by show("flat": Str)∈dR;decide
 |.cho .. =>by show("choose": Str)∈dR;decide
 |.fst .. =>by show("first": Str)∈dR;decide
theorem kQ.w{H:Hp}{w:Str}{vs:List V}{d:TD}(h:kQ H w vs d):w∈dR:=by rw[h.wd];exact wA.wd_in _
mutual
def dO(H:Hp):Rw->Prop
 |.thr p w x vs am=>H p=some (.tup (.str w :: .str x::vs))/\kQ H w vs am
 |.lt p x t=>H p=some (.tup [.str "let",.str x,.ref t.p])/\pV H t/\t.fine
 |.tell p t=>H p=some (.tup [.str "tell",.ref t.p])/\pV H t/\t.fine
 |.when p pa pb t a b=>H p=some (.tup [.str "when",.ref t.p,.ref pa,.ref pb])/\pV H t/\t.fine/\H pa=some (.tup (a.map fun r=>V.ref r.p))/\H pb=some (.tup (b.map fun r=>V.ref r.p))/\aS H a/\aS H b
 |.times p pb n b=>H p=some (.tup [.str "times",.int n,.ref pb])/\H pb=some (.tup (b.map fun r=>V.ref r.p))/\aS H b
def aS(H:Hp):List Rw->Prop
 |[]=>True
 |r::rs=>dO H r/\aS H rs
end
mutual
theorem dO.ts{H H':Hp}(t:TS H H'):∀(r:Rw),dO H r->dO H' r
 |.thr _ _ _ _ _,⟨h,k⟩=>⟨t _ _ h,k.ts t⟩
 |.lt _ _ _,⟨h,h2,h3⟩=>⟨t _ _ h,h2.ts t,h3⟩
 |.tell _ _,⟨h,h2,h3⟩=>⟨t _ _ h,h2.ts t,h3⟩
 |.when _ _ _ _ a b,⟨h,h2,h3,h4,h5,h6,h7⟩=>⟨t _ _ h,h2.ts t,h3,t _ _ h4,t _ _ h5,aS.ts t a h6,aS.ts t b h7⟩
 |.times _ _ _ b,⟨h,h2,h3⟩=>⟨t _ _ h,t _ _ h2,aS.ts t b h3⟩
theorem aS.ts{H H':Hp}(t:TS H H'):∀(rs:List Rw),aS H rs->aS H' rs
 |[],_=>trivial
 |r::rs,⟨h,k⟩=>⟨dO.ts t r h,aS.ts t rs k⟩
end
theorem aS.app{H:Hp}:∀{rs qs:List Rw},aS H rs->aS H qs->aS H (rs++qs)
 |[],_,_,h=>h
 |_::_,_,⟨h,k⟩,h2=>⟨h,aS.app k h2⟩
theorem aS.mem{H:Hp}:∀{rs:List Rw},aS H rs->∀r∈rs,dO H r
 |[],_,_,h=>absurd h bu
 |r::rs,⟨h,k⟩,x,hx=>by
  rcases cj.mp hx with e|e
  ·rw[e];exact h
  ·exact aS.mem k x e
def Rw.w:Rw->Str
 |.thr _ w _ _ am=>w
 |.lt _ _ _=>"let"
 |.tell _ _=>"tell"
 |.when _ _ _ _ _ _=>"when"
 |.times _ _ _ _=>"times"
def Rw.rest:Rw->List V
 |.thr _ _ x vs am=> .str x::vs
 |.lt _ x t=>[.str x,.ref t.p]
 |.tell _ t=>[.ref t.p]
 |.when _ pa pb t _ _=>[.ref t.p,.ref pa,.ref pb]
 |.times _ pb n _=>[.int n,.ref pb]
theorem dO.at{H:Hp}:∀{r:Rw},dO H r->H r.p=some (.tup (.str r.w::r.rest))
 |.thr _ _ _ _ _,h=>h.1
 |.lt _ _ _,h=>h.1
 |.tell _ _,h=>h.1
 |.when _ _ _ _ _ _,h=>h.1
 |.times _ _ _ _,h=>h.1
mutual
def Rw.cnt:Rw->Nat
 |.when _ _ _ _ a b=>1+(aZ a+aZ b)
 |.times _ _ _ b=>1+aZ b
 |.thr _ _ _ _ _=>1
 |.lt _ _ _=>1
 |.tell _ _=>1
def aZ:List Rw->Nat
 |[]=>0
 |r::rs=>r.cnt+aZ rs
end
theorem jQ:∀(rs qs:List Rw),aZ (rs++qs)=aZ rs+aZ qs
 |[],qs=>by simp[aZ]
 |r::rs,qs=>by simp only[List.cons_append,aZ,jQ rs qs];lia
theorem Rw.cnt_pos:∀r:Rw,1<=r.cnt
 |.thr _ _ _ _ _=>ai _
 |.lt _ _ _=>ai _
 |.tell _ _=>ai _
 |.when _ _ _ _ _ _=>by unfold Rw.cnt;lia
 |.times _ _ _ _=>by unfold Rw.cnt;lia
theorem iP:∀rs:List Rw,rs.length<=aZ rs
 |[]=>bo _
 |r::rs=>by have:=iP rs;have:=r.cnt_pos;simp only[List.length_cons,aZ];lia
def Rw.kids:Rw->List Rw
 |.when _ _ _ _ a b=>a++b
 |.times _ _ _ b=>b
 |.thr _ _ _ _ _=>[]
 |.lt _ _ _=>[]
 |.tell _ _=>[]
theorem aO3:∀r:Rw,r.cnt=1+aZ r.kids
 |.when _ _ _ _ a b=>by simp only[Rw.cnt,Rw.kids,jQ]
 |.times _ _ _ b=>by simp only[Rw.cnt,Rw.kids]
 |.thr _ _ _ _ _=>by simp only[Rw.cnt,Rw.kids,aZ]
 |.lt _ _ _=>by simp only[Rw.cnt,Rw.kids,aZ]
 |.tell _ _=>by simp only[Rw.cnt,Rw.kids,aZ]
theorem dO.kids{H:Hp}:∀{r:Rw},dO H r->aS H r.kids
 |.when _ _ _ _ _ _,h=>aS.app h.2.2.2.2.2.1 h.2.2.2.2.2.2
 |.times _ _ _ _,h=>h.2.2
 |.thr _ _ _ _ _,_=>trivial
 |.lt _ _ _,_=>trivial
 |.tell _ _,_=>trivial
abbrev Stp:=Str×Rw×Nat
mutual
def dQ(k:Nat):Rw->List Stp
 |.when p pa pb t a b=>(("row": Str),Rw.when p pa pb t a b,k)::(dS (k+1) a++[(("else": Str),Rw.when p pa pb t a b,k)]++dS (k+1+aZ a) b++[(("end": Str),Rw.when p pa pb t a b,k)])
 |.times p pb n b=>(("row": Str),Rw.times p pb n b,k)::(dS (k+1) b++[(("end": Str),Rw.times p pb n b,k)])
 |.thr p w x vs am=>[(("row": Str),.thr p w x vs am,k)]
 |.lt p x t=>[(("row": Str),.lt p x t,k)]
 |.tell p t=>[(("row": Str),.tell p t,k)]
def dS(k:Nat):List Rw->List Stp
 |[]=>[]
 |r::rs=>dQ k r++dS (k+r.cnt) rs
end
theorem aT5:¬(("else": Str)="row"):=by decide
theorem kL:¬(("end": Str)="row"):=by decide
mutual
theorem aW7:∀(r:Rw) (k:Nat),(dQ k r).length<=3*r.cnt
 |.when _ _ _ _ a b,k=>by have:=fK a (k+1);have:=fK b (k+1+aZ a);simp only[dQ,Rw.cnt,List.length_cons,List.length_append,List.length_nil];lia
 |.times _ _ _ b,k=>by have:=fK b (k+1);simp only[dQ,Rw.cnt,List.length_cons,List.length_append,List.length_nil];lia
 |.thr _ _ _ _ _,_=>by simp only[dQ,Rw.cnt,List.length_cons,List.length_nil];lia
 |.lt _ _ _,_=>by simp only[dQ,Rw.cnt,List.length_cons,List.length_nil];lia
 |.tell _ _,_=>by simp only[dQ,Rw.cnt,List.length_cons,List.length_nil];lia
theorem fK:∀(rs:List Rw) (k:Nat),(dS k rs).length<=3*aZ rs
 |[],_=>ai _
 |r::rs,k=>by have:=aW7 r k;have:=fK rs (k+r.cnt);simp only[dS,aZ,List.length_append];lia
end
mutual
def tel:Rw->Int
 |.thr _ _ _ _ _=>0
 |.lt _ _ _=>0
 |.tell _ _=>1
 |.when _ _ _ _ a _=>kT a
 |.times _ _ n b=>n*kT b
def kT:List Rw->Int
 |[]=>0
 |r::rs=>tel r+kT rs
end
section
variable {α σ:Type}(f:α->σ->Option σ)
def jB:List α->σ->Option σ
 |[],st=>some st
 |a::r,st=>(f a st).bind (jB r)
theorem fR:∀(l l2:List α) (st:σ),jB f (l++l2) st=(jB f l st).bind (jB f l2)
 |[],_,_=>rfl
 |a::r,l2,st=>by
  show(f a st).bind (jB f (r++l2))=((f a st).bind (jB f r)).bind (jB f l2)
  cases f a st with
  |none=>rfl
  |some s=>exact fR r l2 s
theorem bI1{l:List α}{s0 e:σ}(h:jB f l s0=some e){i:Nat}{a:α}(ha:l[i]?=some a){st:σ}(hs:jB f (l.take i) s0=some st):∃st',f a st=some st'/\jB f (l.take (i+1)) s0=some st':=by
 obtain⟨hi,rfl⟩:=ap.mp ha;have e1:l=l.take i++(l[i]::l.drop (i+1)):=by rw[List.getElem_cons_drop,jb]
 rw[e1,fR,hs] at h;have h:(f l[i] st).bind (jB f (l.drop (i+1)))=some e:=h
 cases q:f l[i] st with
 |none=>rw[q] at h;cases h
 |some st' =>
  refine⟨st',rfl,?_⟩;rw[List.take_succ,ak hi,fR,hs];show(f l[i] st).bind (jB f [])=_;rw[q];rfl
end
def Rw.sets:Rw->Option Str
 |.thr _ _ x _ _=>some x
 |.lt _ x _=>some x
 |.tell _ _=>none
 |.when _ _ _ _ _ _=>none
 |.times _ _ _ _=>none
def Rw.asked:Rw->List Str
 |.thr _ _ _ _ _=>[]
 |.lt _ _ t=>t.names
 |.tell _ t=>t.names
 |.when _ _ _ t _ _=>t.names
 |.times _ _ _ _=>[]
theorem bP2:¬(("end": Str)="else"):=by decide
def opW(s w:Str):Bool:=decide (s="else") || (decide (s="row")&&decide (w∈(["when","times"]:List Str)))
def fF(s:Stp):Bool:=opW s.1 s.2.1.w
theorem cC4:opW "row" "tell"=false:=by decide
theorem cH3:opW "row" "let"=false:=by decide
theorem cD5:opW "row" "when"=true:=by decide
theorem cE7:opW "row" "times"=true:=by decide
theorem cB0(w:Str):opW "else" w=true:=by
 unfold opW;rw[ag rfl];rfl
theorem bW3(w:Str):opW "end" w=false:=by
 unfold opW;rw[dh bP2,dh kL];rfl
theorem cB3{w:Str}(h:w∈dR):opW "row" w=false:=by
 simp only[dR,List.mem_cons,List.not_mem_nil,or_false] at h;rcases h with rfl|rfl|rfl|rfl<;>decide
mutual
def WdR:Rw->Prop
 |.thr _ w _ _ _=>w∈dR
 |.lt _ _ _=>True
 |.tell _ _=>True
 |.when _ _ _ _ a b=>WdL a/\WdL b
 |.times _ _ _ b=>WdL b
def WdL:List Rw->Prop
 |[]=>True
 |r::rs=>WdR r/\WdL rs
end
theorem aJ8{H H2:Hp}{d l a:Addr}(D2:dN H2 d l)(o:eO d l H H2)(h:H2 a=none):H a=none:=by
 cases q:H a with
 |none=>rfl
 |some u =>
  exfalso;obtain⟨sd,n,ls,z⟩:=D2
  by_cases h1:a=d
  ·rw[h1,z.dc] at h;cases h
  ·by_cases h2:a=l
   ·rw[h2,z.lc] at h;cases h
   ·rw[o a u q h1 h2] at h;cases h
theorem jO{H:Hp}{d l r:Addr}(D:dN H d l)(h:H r=none):r≠d/\r≠l:=by
 obtain⟨sd,n,ls,z⟩:=D;exact⟨(aI z.dc h).symm,(aI z.lc h).symm⟩
theorem aW0{H:Hp}{d l p:Addr}{xs ys:List V}(D:dN H d l)(h:H p=some (.lst xs))(n:p≠l):dN (aO H p (.lst ys)) d l:=by
 obtain⟨sd,k,ls,z⟩:=D;exact⟨sd,k,ls,⟨by rw[aH (gH z.dc h (by intro z;cases z))];exact z.dc,by rw[aH n.symm];exact z.lc,z.s0,z.s1,z.n0,z.l0⟩⟩
theorem aY{H H':Hp}{d l p:Addr}{xs:List V}(D:dN H d l)(h:H p=some (.lst xs))(n:p≠l)(o:eO d l H H'):H' p=some (.lst xs):=by
 obtain⟨sd,k,ls,z⟩:=D;exact o _ _ h (gH h z.dc (by intro z;cases z)) n
theorem bH0{H H2:Hp}{d l lf:Addr}{o:HO}(h:eO d l H H2)(hf:H lf=none):eO d l H (aO H2 lf o):=fun b u e h1 h2=>by
 rw[aH (aI e hf)];exact h b u e h1 h2
def dP(S:List Addr)(H H':Hp):Prop:=∀b o,H b=some o->b∉S->H' b=some o
theorem dP.refl{S:List Addr}(H:Hp):dP S H H:=fun _ _ e _=>e
theorem dP.trans{S:List Addr}{H H1 H2:Hp}(a:dP S H H1)(b:dP S H1 H2):dP S H H2:=fun c o e h=>b c o (a c o e h) h
theorem dP.of{S:List Addr}{H H':Hp}(s:aR H H'):dP S H H':=fun c o e _=>s c o e
theorem dP.out{d l sc:Addr}{H H':Hp}(o:eO d l H H'):dP [d,l,sc] H H':=fun b u e n=>o b u e (fun z=>n (by rw[z];exact az)) (fun z=>n (by rw[z];exact av _ az))
theorem dP.new{S:List Addr}{H H1:Hp}{p:Addr}{o:HO}(a:dP S H H1)(h:H p=none):dP S H (aO H1 p o):=fun b u e n=>by
 rw[aH (aI e h)];exact a b u e n
theorem dP.fresh{S:List Addr}{H H1:Hp}{p:Addr}(a:dP S H H1)(hS:∀b∈S,∃o,H1 b=some o)(h:H1 p=none):H p=none:=by
 cases q:H p with
 |none=>rfl
 |some u =>
  exfalso
  by_cases m:p∈S
  ·obtain⟨o,e⟩:=hS p m;rw[e] at h;cases h
  ·rw[a p u q m] at h;cases h
section
variable {H H':Hp}{d l sc nl:Addr}{many:Int}{xs:List Str}
end
mutual
def ScR(ks:List Str):Rw->List Str->Prop
 |.thr _ _ x _ am,k2=>k2=ks++[x]/\am.amiss=false
 |.lt _ x t,k2=>k2=ks++[x]/\∀y∈t.names,y∈ks
 |.tell _ t,k2=>k2=ks/\∀y∈t.names,y∈ks
 |.when _ _ _ t a b,k2=>(∀y∈t.names,y∈ks)/\∃k3 k4,mY ks a k3/\mY ks b k4/\k2=k3.filter (fun x=>decide (x∈k4))
 |.times _ _ _ b,k2=>mY ks b k2
def mY(ks:List Str):List Rw->List Str->Prop
 |[],k2=>k2=ks
 |r::rs,k2=>∃k1,ScR ks r k1/\mY k1 rs k2
end
theorem mY.app{ks k1 k2:List Str}{r:Rw}:∀{rs:List Rw}{ks:List Str},mY ks rs k1->ScR k1 r k2->mY ks (rs++[r]) k2
 |[],ks,h,h2=>by
  have h:k1=ks:=h;rw[h] at h2;exact⟨k2,h2,rfl⟩
 |q::rs,ks,⟨k3,h1,h2⟩,h3=>⟨k3,h1,mY.app (ks:=ks) h2 h3⟩
mutual
theorem ScR.len:∀(r:Rw) {ks k2:List Str},ScR ks r k2->k2.length<=ks.length+r.cnt
 |.thr _ _ x _ am,ks,k2,h=>by rw[h.1];simp[Rw.cnt]
 |.lt _ x t,ks,k2,h=>by rw[h.1];simp[Rw.cnt]
 |.tell _ t,ks,k2,h=>by rw[h.1];simp[Rw.cnt]
 |.when _ _ _ t a b,ks,k2,⟨_,k3,k4,h1,h2,h3⟩=>by
  have:=mY.len a h1;have:=qk (fun x=>decide (x∈k4)) k3;rw[h3];simp only[Rw.cnt];lia
 |.times _ _ _ b,ks,k2,h=>by
  have:=mY.len b (show mY ks b k2 from h);simp only[Rw.cnt];lia
theorem mY.len : ∀(rs : List Rw) {ks k2 : List Str},mY ks rs k2 -> k2.length <= ks.length + aZ rs
  |[],ks,k2,h=>by rw[show k2=ks from h];simp[aZ]
  | r::rs,ks,k2,⟨k1,h1,h2⟩ => by
    have:= ScR.len r h1;have:= mY.len rs h2;simp only[aZ];lia
end
mutual
def bN6:Rw->Prop
 |.thr _ _ _ _ _=>True
 |.lt _ _ _=>True
 |.tell _ _=>True
 |.when _ _ _ _ a b=>kT a=kT b/\fO a/\fO b
 |.times _ _ n b=>(0<=n/\n<=9/\0<=kT b/\kT b<=100)/\fO b
def fO:List Rw->Prop
 |[]=>True
 |r::rs=>bN6 r/\fO rs
end
theorem rY:∀(rs qs:List Rw),kT (rs++qs)=kT rs+kT qs
 |[],qs=>by simp[kT]
 |r::rs,qs=>by simp only[List.cons_append,kT,rY rs qs];lia
theorem fO.app:∀{rs qs:List Rw},fO rs->fO qs->fO (rs++qs)
 |[],_,_,h=>h
 |_::_,_,⟨h,k⟩,h2=>⟨h,fO.app k h2⟩
mutual
def Rw.dp:Rw->Nat
 |.when _ _ _ _ a b=>1+max (tG a) (tG b)
 |.times _ _ _ b=>1+tG b
 |.thr _ _ _ _ _=>0
 |.lt _ _ _=>0
 |.tell _ _=>0
def tG:List Rw->Nat
 |[]=>0
 |r::rs=>max r.dp (tG rs)
end
theorem vY{m:Nat}{r:Rw}:∀{rs:List Rw},tG rs<=m->r.dp<=m->tG (rs++[r])<=m
 |[],_,h=>by simp only[List.nil_append,tG];lia
 |q::rs,h,h2=>by
  simp only[tG] at h;have:=vY (rs:=rs) (m:=m) (r:=r) (by lia) h2;simp only[List.cons_append,tG];lia
def bA(rs:List Rw):List V:=rs.map fun r=>V.ref r.p
inductive spParts(vs:List V)(H:Hp)(Q:VK)(z1:XK):Prop
 |mk:∀t:Tm,(vs=[.ref t.p])->(pV H t)->(t.size<=900)->(∀(r:Addr) (H':Hp),aR H H'->H r=none->H' r=some (.lst (t.pre.map fun u=>V.ref u.p))->Q (.ref r) H')->spParts vs H Q z1
abbrev Stq:=Str×Rw
def kX(H:Hp)(z:V)(s:Stq):Prop:=∃q,z= .ref q/\H q=some (.tup [.str s.1,.ref s.2.p])
def pE(H:Hp)(z:V)(s:Stp):Prop:=∃q,z= .ref q/\H q=some (.tup [.str s.1,.ref s.2.1.p,.int s.2.2])
theorem kX.ts{H H':Hp}(t:TS H H'){z:V}{s:Stq}(h:kX H z s):kX H' z s:=by obtain⟨q,e,k⟩:=h;exact⟨q,e,t _ _ k⟩
theorem pE.ts{H H':Hp}(t:TS H H'){z:V}{s:Stp}(h:pE H z s):pE H' z s:=by obtain⟨q,e,k⟩:=h;exact⟨q,e,t _ _ k⟩
def eF:Rw->List Stq
 |.when p pa pb t a b=>a.map (fun r=>(("row": Str),r))++[(("else": Str),Rw.when p pa pb t a b)]++b.map (fun r=>(("row": Str),r))++[(("end": Str),Rw.when p pa pb t a b)]
 |.times p pb n b=>b.map (fun r=>(("row": Str),r))++[(("end": Str),Rw.times p pb n b)]
 |.thr _ _ _ _ _=>[]
 |.lt _ _ _=>[]
 |.tell _ _=>[]
inductive spAsS(vs:List V)(H:Hp)(Q:VK)(z1:XK):Prop
 |mk:∀(p:Addr) (rs:List Rw),(vs=[.ref p])->(H p=some (.tup (bA rs)))->(rs.length<=4000)->(∀(r:Addr) (zs:List V) (H':Hp),aR H H'->H' r=some (.lst zs)->dL (kX H') zs (rs.map fun r=>(("row": Str),r))->Q (.ref r) H')->spAsS vs H Q z1
inductive spInner(vs:List V)(H:Hp)(Q:VK)(z1:XK):Prop
 |mk:∀(r:Rw),(vs=[.ref r.p])->(dO H r)->(r.cnt<=4000)->(∀(q:Addr) (zs:List V) (H':Hp),aR H H'->H' q=some (.lst zs)->dL (kX H') zs (eF r)->Q (.ref q) H')->spInner vs H Q z1
inductive spSteps(vs:List V)(H:Hp)(Q:VK)(z1:XK):Prop
 |mk:∀(p:Addr) (rs:List Rw),(vs=[.ref p])->(H p=some (.tup (bA rs)))->(aS H rs)->(aZ rs<=4000)->(∀(r:Addr) (zs:List V) (H':Hp),aR H H'->H r=none->H' r=some (.lst zs)->dL (pE H') zs (dS 0 rs)->Q (.ref r) H')->spSteps vs H Q z1
def Tm.nm:Tm->Option Str
 |.nam _ x=>some x
 |_=>none
theorem Tm.pre_names:∀t:Tm,t.pre.filterMap Tm.nm=t.names
 |.num _ _=>rfl
 |.nam _ _=>rfl
 |.op p s a b=>by
  show List.filterMap Tm.nm (Tm.op p s a b::(a.pre++b.pre))=a.names++b.names;rw[pi (by rfl),qm,Tm.pre_names a,Tm.pre_names b]
inductive spNamesIn(vs:List V)(H:Hp)(Q:VK)(z1:XK):Prop
 |mk:∀t:Tm,(vs=[.ref t.p])->(pV H t)->(t.size<=900)->(∀(r:Addr) (H':Hp),aR H H'->H' r=some (.lst (t.names.map V.str))->Q (.ref r) H')->spNamesIn vs H Q z1
inductive spSetsN(vs:List V)(H:Hp)(Q:VK)(z1:XK):Prop
 |mk:∀r:Rw,(vs=[.ref r.p])->(dO H r)->(Q (.bl r.sets.isSome) H)->spSetsN vs H Q z1
inductive spAsked(vs:List V)(H:Hp)(Q:VK)(z1:XK):Prop
 |mk:∀r:Rw,(vs=[.ref r.p])->(dO H r)->(∀(q:Addr) (H':Hp),aR H H'->H' q=some (.lst (r.asked.map V.str))->Q (.ref q) H')->spAsked vs H Q z1
inductive spBegins(vs:List V)(H:Hp)(Q:VK)(z1:XK):Prop
 |mk:∀s:Stp,(vs=[.str s.1,.ref s.2.1.p])->(dO H s.2.1)->(∀H',aR H H'->Q (.bl (fF s)) H')->spBegins vs H Q z1
theorem iY{n:Nat}(h:n<=9000000):n<sizeLine:=by rw[nz];lia
theorem aH6:∀l:List Tm,l.length<=(l.flatMap Tm.pre).length
 |[]=>ai _
 |t::r=>by have:=aH6 r;have:=t.size_pos;rw[cf,kj,aj,Tm.pre_len];lia
theorem cL6:¬(V.str "num"=V.str "op"):=by decide
theorem cK8:¬(V.str "name"=V.str "op"):=by decide
theorem wOM:¬(V.str "op"=V.str "name"):=by decide
theorem wTW:¬(V.str "times"=V.str "when"):=by decide
theorem wLW:¬(V.str "let"=V.str "when"):=by decide
theorem wLT:¬(V.str "let"=V.str "times"):=by decide
theorem wEW:¬(V.str "tell"=V.str "when"):=by decide
theorem wET:¬(V.str "tell"=V.str "times"):=by decide
theorem bY8{w:Str}(h:w∈dR):¬(V.str w=V.str "when"):=fun z=>by
 have e:w="when":=by injection z
 rw[e] at h;exact absurd h (by decide)
theorem bR1{w:Str}(h:w∈dR):¬(V.str w=V.str "times"):=fun z=>by
 have e:w="times":=by injection z
 rw[e] at h;exact absurd h (by decide)
theorem iV{v:V}{r:List V}:lP (v::r) 0=some v:=by
 unfold lP ixN;rw[bv (ji 0),bv (by rw[cf];lia)];rfl
theorem bD(rs:List Rw):(bA rs).length=rs.length:=ae _
theorem vO{rs:List Rw}{i:Nat}{v:V}(h:(bA rs)[i]?=some v):∃r,v= .ref r.p/\rs[i]?=some r:=by
 unfold bA at h;rw[cm] at h
 cases e:rs[i]? with
 |none=>rw[e] at h;cases h
 |some r=>rw[e] at h;exact⟨r,(di h).symm,rfl⟩
theorem eA(rs qs:List Rw):bA (rs++qs)=bA rs++bA qs:=cy ..
theorem iZ{α:Type}{R:V->α->Prop}:∀{vs:List V}{as:List α}{i:Nat}{v:V},dL R vs as->vs[i]?=some v->∃a,as[i]?=some a/\R v a
 |[],[],i,v,_,h=>by cases h
 |v::vs,a::as,0,_,⟨e,_⟩,h=>by cases h;exact⟨a,rfl,e⟩
 |v::vs,a::as,i+1,x,⟨_,r⟩,h=>by
  obtain⟨b,h1,h2⟩:=iZ (i:=i) (v:=x) r (by simpa using h);exact⟨b,by simpa using h1,h2⟩
 |[],_::_,_,_,z,_=>z.elim
 |_::_,[],_,_,z,_=>z.elim
theorem qI{α:Type}{R:V->α->Prop}:∀{vs:List V}{as:List α},dL R vs as->dL R vs.reverse as.reverse
 |[],[],_=>trivial
 |v::vs,a::as,⟨e,r⟩=>by
  rw[gj,gj];exact dL.append (qI r) ⟨e,trivial⟩
 |[],_::_,z=>z.elim
 |_::_,[],z=>z.elim
theorem rK{α:Type}{R:V->α->Prop}:∀{as:List α}{vs:List V}{a:α},dL R vs (as++[a])->∃us v,vs=us++[v]/\dL R us as/\R v a
 |[],[v],a,⟨e,_⟩=>⟨[],v,rfl,trivial,e⟩
 |[],_::_::_,_,⟨_,z⟩=>z.elim
 |[],[],_,z=>z.elim
 |b::bs,[],_,z=>z.elim
 |b::bs,v::vs,a,⟨e,r⟩=>by
  obtain⟨us,u,h1,h2,h3⟩:=rK (as:=bs) r;exact⟨v::us,u,by rw[h1];rfl,⟨e,h2⟩,h3⟩
theorem vB:∀{rs:List Rw}{r:Rw},r∈rs->r.cnt<=aZ rs
 |[],_,h=>absurd h bu
 |q::rs,r,h=>by
  simp only[aZ];rcases cj.mp h with e|e
  ·rw[e];lia
  ·have:=vB e;lia
theorem aM2:∀{r:Rw}{s:Stq},s∈eF r->s.2=r\/s.2∈r.kids
 |.when p pa pb t a b,s,h=>by
  simp only[eF,List.mem_append,List.mem_map,List.mem_singleton] at h;rcases h with((⟨x,hx,e⟩|e)|⟨x,hx,e⟩)|e
  ·right;rw[<-e];exact dj _ hx
  ·left;rw[e]
  ·right;rw[<-e];exact bx _ hx
  ·left;rw[e]
 |.times p pb n b,s,h=>by
  simp only[eF,List.mem_append,List.mem_map,List.mem_singleton] at h;rcases h with⟨x,hx,e⟩|e
  ·right;rw[<-e];exact hx
  ·left;rw[e]
 |.thr _ _ _ _ _,_,h=>absurd h bu
 |.lt _ _ _,_,h=>absurd h bu
 |.tell _ _,_,h=>absurd h bu
theorem aX8{H:Hp}{r:Rw}(h:dO H r)(hc:r.cnt<=4000){s:Stq}(m:s∈eF r):dO H s.2/\s.2.cnt<=4000:=by
 rcases aM2 m with e|e
 ·rw[e];exact⟨h,hc⟩
 ·have:=vB e;have:=aO3 r;exact⟨h.kids.mem _ e,by lia⟩
theorem gY(w:Str)(xs:List Str):yL (.str w) (xs.map V.str)=decide (w∈xs):=by
 unfold yL;rw[List.any_map]
 induction xs with
 |nil=>rfl
 |cons x r ih =>
  rw[nj,ih];have e:(eqV (V.str x) (V.str w))=decide (x=w):=rfl;show(eqV (V.str x) (V.str w) || _)=_;rw[e]
  by_cases c:x=w
  ·simp[c]
  ·have c2:¬w=x:=fun z=>c z.symm
   simp[c,c2]
theorem iE(xs:List Str):(xs.map V.str).all lZ=true:=pG xs
theorem uU{xs:List Str}{i:Nat}{v:V}(h:(xs.map V.str)[i]?=some v):∃x,v= .str x/\xs[i]?=some x:=by
 rw[cm] at h
 cases e:xs[i]? with
 |none=>rw[e] at h;cases h
 |some r=>rw[e] at h;exact⟨r,(di h).symm,rfl⟩
theorem bX1{r:Int}(h0:0<=r)(h1:r<5):∃c,lP ("+-*<=": Str).cps.toList r=some c/\(⟨#[c]⟩:Str)∈cI9:=by
 have:r=0\/r=1\/r=2\/r=3\/r=4:=by lia
 rcases this with rfl|rfl|rfl|rfl|rfl
 ·exact⟨43,rfl,by decide⟩
 ·exact⟨45,rfl,by decide⟩
 ·exact⟨42,rfl,by decide⟩
 ·exact⟨60,rfl,by decide⟩
 ·exact⟨61,rfl,by decide⟩
theorem aU2{α:Type}{xs:List α}{r:Int}(h0:0<=r)(h1:r<(xs.length:Int)):∃v,xs[r.toNat]?=some v/\lP xs r=some v:=by
 have hk:r.toNat<xs.length:=by lia
 refine⟨_,ak hk,?_⟩;have q:=kC (ak hk);rw[ie h0] at q;exact q
theorem bJ9{H H1 H2:Hp}{d l sc:Addr}(o:eO d l H H1)(n:H sc=none)(o2:dP [d,l,sc] H1 H2):eO d l H H2:=fun b u e h1 h2=>by
 refine o2 b u (o b u e h1 h2) fun m=>?_
 simp only[List.mem_cons,List.not_mem_nil,or_false] at m;rcases m with m|m|m
 ·exact h1 m
 ·exact h2 m
 ·rw[m,n] at e;cases e
def dM:List Stp->Nat
 |[]=>0
 |s::r=>(if s.1="row" then s.2.1.cnt else 0)+dM r
def eK(k:Nat):List Stp->List Stp
 |[]=>[]
 |s::r=>if s.1="row" then dQ k s.2.1++eK (k+s.2.1.cnt) r else s::eK k r
def rC(k:Nat)(s:Stq):Stp:=(s.1,s.2,k)
theorem iC:∀(l m:List Stp) (k:Nat),eK k (l++m)=eK k l++eK (k+dM l) m
 |[],m,k=>by simp only[List.nil_append,eK,dM,Nat.add_zero]
 |s::r,m,k=>by
  simp only[List.cons_append,eK,dM]
  by_cases c:s.1="row"
  ·rw[bv c,bv c,bv c,iC r m,gc,xp]
  ·rw[ay c,ay c,ay c,iC r m,rj,uq]
theorem jI:∀(rs:List Rw) (k j:Nat),eK k (rs.map fun r=>rC j (("row": Str),r))=dS k rs/\dM (rs.map fun r=>rC j (("row": Str),r))=aZ rs
 |[],k,j=>⟨by simp only[List.map_nil,eK,dS],by simp only[List.map_nil,dM,aZ]⟩
 |r::rs,k,j=>by
  have h:=jI rs (k+r.cnt) j;simp only[List.map_cons,eK,dM,dS,aZ,rC,if_true];exact⟨fm _ h.1,fm _ h.2⟩
theorem wQ{s:Stp}{k:Nat}{r:List Stp}(h:s.1="row"):eK k (s::r)=dQ k s.2.1++eK (k+s.2.1.cnt) r:=by rw[eK,bv h]
theorem kJ{s:Stp}{k:Nat}{r:List Stp}(h:¬s.1="row"):eK k (s::r)=s::eK k r:=by rw[eK,ay h]
theorem fM:∀(l m:List Stp),dM (l++m)=dM l+dM m
 |[],m=>by simp only[List.nil_append,dM,Nat.zero_add]
 |s::r,m=>by simp only[List.cons_append,dM,fM r m,Nat.add_assoc]
theorem nV{s:Stp}(h:¬s.1="row"):dM [s]=0:=by simp only[dM,if_neg h]
theorem qO(k:Nat)(rs:List Rw):((rs.map fun r=>(("row": Str),r)).map (rC k))=rs.map fun r=>rC k (("row": Str),r):=by rw[rn];rfl
theorem yN:∀(r:Rw) (k:Nat),dQ k r=(("row": Str),r,k)::eK (k+1) ((eF r).map (rC k))/\1+dM ((eF r).map (rC k))=r.cnt
 |.when p pa pb t a b,k=>by
  obtain⟨h1,h2⟩:=jI a (k+1) k;obtain⟨h3,h4⟩:=jI b (k+1+aZ a) k;simp only[eF,List.map_append,qO,List.map_cons,List.map_nil];have e1:¬(rC k (("else": Str),Rw.when p pa pb t a b)).1="row":=aT5;have e2:¬(rC k (("end": Str),Rw.when p pa pb t a b)).1="row":=kL;refine⟨?_,?_⟩
  ·rw[iC,iC,iC,fM,nV e1,h2,h1];simp only[Nat.add_zero];rw[h3,kJ e1,kJ e2];simp only[eK,dQ];rfl
  ·rw[fM,fM,fM,nV e1,nV e2,h2,h4];simp only[Rw.cnt];lia
 |.times p pb n b,k=>by
  obtain⟨h1,h2⟩:=jI b (k+1) k;simp only[eF,List.map_append,qO,List.map_cons,List.map_nil];have e2:¬(rC k (("end": Str),Rw.times p pb n b)).1="row":=kL;refine⟨?_,?_⟩
  ·rw[iC,h1,kJ e2];simp only[eK,dQ];rfl
  ·rw[fM,nV e2,h2];simp only[Rw.cnt];lia
 |.thr p w x vs am,k=>⟨by simp only[dQ,eF,List.map_nil,eK],by simp only[eF,List.map_nil,dM,Rw.cnt]⟩
 |.lt p x t,k=>⟨by simp only[dQ,eF,List.map_nil,eK],by simp only[eF,List.map_nil,dM,Rw.cnt]⟩
 |.tell p t,k=>⟨by simp only[dQ,eF,List.map_nil,eK],by simp only[eF,List.map_nil,dM,Rw.cnt]⟩
theorem aJ9{s:Stp}{k:Nat}{r:List Stp}(h:s.1="row"):eK k (s::r)=(("row": Str),s.2.1,k)::eK (k+1) ((eF s.2.1).map (rC k)++r):=by
 obtain⟨h1,h2⟩:=yN s.2.1 k;rw[wQ h,h1,iC,uq, <-h2]
 congr 3
 lia
theorem bC9(r:Rw)(k:Nat):1<=(dQ k r).length:=by rw[(yN r k).1];simp
theorem nB:∀(l:List Stp) (k:Nat),l.length<=(eK k l).length
 |[],k=>ai _
 |s::r,k=>by
  by_cases c:s.1="row"
  ·have:=nB r (k+s.2.1.cnt);have:=bC9 s.2.1 k;rw[wQ c,cf,aj];lia
  ·have:=nB r k;rw[kJ c,cf,cf];lia
def kU(H:Hp)(z:V)(s:Stp):Prop:=∃q m,z= .ref q/\H q=some (.tup [.str s.1,.ref s.2.1.p,.int m])/\(¬s.1="row"->m=(s.2.2:Int))
theorem kU.ts{H H':Hp}(t:TS H H'){z:V}{s:Stp}(h:kU H z s):kU H' z s:=by
 obtain⟨q,m,e,k,l⟩:=h;exact⟨q,m,e,t _ _ k,l⟩
mutual
theorem dO.wd{H:Hp}:∀(r:Rw),dO H r->WdR r
 |.thr _ _ _ _ _,h=>h.2.w
 |.lt _ _ _,_=>trivial
 |.tell _ _,_=>trivial
 |.when _ _ _ _ a b,h=>⟨aS.wd a h.2.2.2.2.2.1,aS.wd b h.2.2.2.2.2.2⟩
 |.times _ _ _ b,h=>aS.wd b h.2.2
theorem aS.wd{H:Hp}:∀(rs:List Rw),aS H rs->WdL rs
 |[],_=>trivial
 |r::rs,h=>⟨dO.wd r h.1,aS.wd rs h.2⟩
end
mutual
theorem aN6:∀(r:Rw) {H:Hp}(k:Nat),dO H r->∀s∈dQ k r,dO H s.2.1
 |.thr p w x vs am,H,k,h,s,hs=>by
  simp only[dQ,List.mem_singleton] at hs;rw[hs];exact h
 |.lt p x t,H,k,h,s,hs=>by
  simp only[dQ,List.mem_singleton] at hs;rw[hs];exact h
 |.tell p t,H,k,h,s,hs=>by
  simp only[dQ,List.mem_singleton] at hs;rw[hs];exact h
 |.when p pa pb t a b,H,k,h,s,hs=>by
  simp only[dQ,List.mem_cons,List.mem_append,List.mem_singleton,List.not_mem_nil,or_false] at hs;rcases hs with e|((e|e)|e)|e
  ·rw[e];exact h
  ·exact iW a _ h.2.2.2.2.2.1 s e
  ·rw[e];exact h
  ·exact iW b _ h.2.2.2.2.2.2 s e
  ·rw[e];exact h
 |.times p pb n b,H,k,h,s,hs=>by
  simp only[dQ,List.mem_cons,List.mem_append,List.mem_singleton,List.not_mem_nil,or_false] at hs;rcases hs with e|e|e
  ·rw[e];exact h
  ·exact iW b _ h.2.2 s e
  ·rw[e];exact h
theorem iW:∀(rs:List Rw) {H:Hp}(k:Nat),aS H rs->∀s∈dS k rs,dO H s.2.1
 |[],H,k,h,s,hs=>by simp only[dS] at hs;cases hs
 |r::rs,H,k,h,s,hs=>by
  simp only[dS,List.mem_append] at hs;rcases hs with e|e
  ·exact aN6 r k h.1 s e
  ·exact iW rs _ h.2 s e
end
theorem bE0(a b:Str):(a++b).cps=a.cps++b.cps:=rfl
theorem bS6{r:Nat}(h:r<26):lP ("abcdefghijklmnopqrstuvwxyz": Str).cps.toList (r:Int)=some (97+r):=by
 have:r=0\/r=1\/r=2\/r=3\/r=4\/r=5\/r=6\/r=7\/r=8\/r=9\/r=10\/r=11\/r=12\/r=13\/r=14\/r=15\/r=16\/r=17\/r=18\/r=19\/r=20\/r=21\/r=22\/r=23\/r=24\/r=25:=by lia
 rcases this with rfl|rfl|rfl|rfl|rfl|rfl|rfl|rfl|rfl|rfl|rfl|rfl|rfl|rfl|rfl|rfl|rfl|rfl|rfl|rfl|rfl|rfl|rfl|rfl|rfl|rfl<;>decide
def bW1(tn:Int)(k:Nat):Nat:=97+((tn+7*(k:Int)) % 26).toNat
theorem bE9(tn:Int)(k:Nat):lP ("abcdefghijklmnopqrstuvwxyz": Str).cps.toList ((tn+7*(0+(k:Int))) % 26)=some (bW1 tn k):=by
 have h0:0<=(tn+7*(k:Int)) % 26:=jo _ (by decide);have h1:(tn+7*(k:Int)) % 26<26:=jt _ (by decide);have e:((tn+7*(0+(k:Int))) % 26)=(((tn+7*(k:Int)) % 26).toNat:Int):=by rw[rq,ie h0]
 rw[e,bS6 (by lia)];rfl
def wdK(a b:Str)(tn:Int)(k:Nat):Str:=a++(⟨#[bW1 tn k]⟩:Str)++b
theorem cG9:("q": Str).length=1:=by decide
theorem aR6{r:Rw}(h:WdR r):(decide (r.w∈dR) || decide (r.w="let"))=r.sets.isSome:=by
 cases r with
 |thr p w x vs am =>
  have h:w∈dR:=h;show(decide (w∈dR) || _)=true;rw[ag h];rfl
 |lt p x t=>show(_ || decide (("let": Str)="let"))=true;simp
 |tell p t=>show(decide (("tell": Str)∈dR) || decide (("tell": Str)="let"))=false;decide
 |when p pa pb t a b=>show(decide (("when": Str)∈dR) || decide (("when": Str)="let"))=false;decide
 |times p pb n b=>show(decide (("times": Str)∈dR) || decide (("times": Str)="let"))=false;decide
theorem at1{v u:V}{r:List V}:lP (v::u::r) 1=some u:=by
 unfold lP ixN;rw[bv (by decide),bv (by simp only[List.length_cons];lia)];rfl
theorem wMN:¬(V.str "num"=V.str "name"):=by decide
theorem wTL:¬(V.str "tell"=V.str "let"):=by decide
theorem wWL:¬(V.str "when"=V.str "let"):=by decide
theorem wML:¬(V.str "times"=V.str "let"):=by decide
theorem bQ2{w:Str}(h:w∈dR):¬(V.str w=V.str "let"):=fun z=>by
 have e:w="let":=by injection z
 rw[e] at h;exact absurd h (by decide)
theorem bW9{w:Str}(h:w∈dR):¬(yL (V.str w) [.str "tell",.str "when"]=true):=by
 rw[show([V.str "tell",V.str "when"]:List V)=(["tell","when"]:List Str).map V.str from rfl,gY];simp only[dR,List.mem_cons,List.not_mem_nil,or_false] at h;rcases h with rfl|rfl|rfl|rfl<;>decide
theorem Tm.names_len:∀t:Tm,t.names.length<=t.size
 |.num _ _=>bo _
 |.nam _ _=>ai _
 |.op _ _ a b=>by have:=a.names_len;have:=b.names_len;simp only[Tm.names,Tm.size,List.length_append];lia
theorem bF1{H:Hp}:∀{r:Rw}{x:Str},dO H r->r.sets=some x->∃us,H r.p=some (.tup (.str r.w :: .str x::us))
 |.thr p w y vs am,x,h,e=>by cases e;exact⟨vs,h.1⟩
 |.lt p y t,x,h,e=>by cases e;exact⟨_,h.1⟩
 |.tell _ _,_,_,e=>by cases e
 |.when _ _ _ _ _ _,_,_,e=>by cases e
 |.times _ _ _ _,_,_,e=>by cases e
theorem nU{a b:Int}(ha:1<=a)(hb:1<=b):1<=a*b:=by
 have:=pj ha hb (by decide) (by lia);lia
theorem aB9:∀{rs:List Rw}{r:Rw},r∈rs->r.dp<=tG rs
 |[],_,h=>absurd h bu
 |q::rs,r,h=>by
  simp only[tG];rcases cj.mp h with e|e
  ·rw[e];lia
  ·have:=aB9 e;lia
end Mine
namespace L2
open PySem PySem.Spec PyProof.Rows
section
variable {prog:Program}{w:World}
variable {A:Around}{E:Value->Shared->Prop}{s:Shared}
end
section
variable {P:Program}{w:World}{H:Hp}{h:Heap}{a:Addr}
end
section
variable {P:Program}{w:World}{H:Hp}{h:Heap}{a:Addr}
end
section
variable {X:Cx}{pins:List (Addr×Obj)}{σ:St}{H:Hp}{s:Shared}{a:Addr}{y v:V}{u r:Value}{o:Option V}{A:Around}{E:Value->Shared->Prop}
end
section
variable {X:Cx}{o i e value:Expr}{pos pos' tpos:Pos}{td ty tv:TE}{k:Nat}
end
section
variable {X:Cx}
end
section
variable {prog:Program}{w:World}{A:Around}{E:Value->Shared->Prop}{s:Shared}{d it v:Addr}{o:Obj}{es:Array DictEntry}{ep i:Nat}
end
open PySem PySem.Spec PyProof.Rows PySem.MeetsSeq
section
variable {X:Cx}{pins:List (Addr×Obj)}{σ:St}{H:Hp}{s:Shared}
end
open PySem PySem.Spec PyProof.Rows
section
variable {prog:Program}{w:World}{A:Around}{d it v:Addr}{o:Obj}{es:Array DictEntry}{ep:Nat}
end
section
variable {X:Cx}{pins:List (Addr×Obj)}{σ:St}{H:Hp}{s:Shared}{d:Addr}{vs:List V}
end
section
variable {X:Cx}
end
section
variable {X:Cx}{pins:List (Addr×Obj)}{σ:St}{H:Hp}{s:Shared}{A:Around}{E:Value->Shared->Prop}
end
section
variable {X:Cx}{o i e value:Expr}{pos pos' tpos:Pos}{td ty tv:TE}{k:Nat}
end
section
variable {prog:Program}{w:World}{K:Type} [DecidableEq K] {knd:HeapKind prog w K}{A:Around}{E:Value->Shared->Prop}{s:Shared}{d a:Addr}{xs:List (K×Addr×Value)}{k:K}
end
section
variable {X:Cx}{pins:List (Addr×Obj)}{σ:St}{H:Hp}{s:Shared}{A:Around}{E:Value->Shared->Prop}
end
section
variable {X:Cx}{o e f:Expr}{apos cpos:Pos}{td ty tx:TE}
end
section
variable {prog:Program}{w:World}{A:Around}{E:Value->Shared->Prop}{s:Shared}{d:Addr}{o:Obj}{es:Array DictEntry}{ep:Nat}{hh:Int}{Q:Option Nat->Shared->Prop}
end
section
variable {prog:Program}{w:World}{K:Type} [DecidableEq K] {knd:HeapKind prog w K}{A:Around}{E:Value->Shared->Prop}{s:Shared}{d a:Addr}{xs:List (K×Addr×Value)}{k:K}
end
section
variable {X:Cx}{o e f:Expr}{apos cpos:Pos}{td ty tx:TE}{k:Nat}
end
section
variable {X:Cx}{pins:List (Addr×Obj)}{σ:St}{H:Hp}{s:Shared}{A:Around}{E:Value->Shared->Prop}
end
section
variable {prog:Program}{w:World}{A:Around}{d it:Addr}{o:Obj}{es:Array DictEntry}{ep:Nat}
end
section
variable {X:Cx}
end
open PySem PySem.Spec PyProof.Rows PySem.MeetsSeq
def yG(x y:V):Prop:=(∃i,x= .int i/\y= .int i)\/(∃z,x= .str z/\y= .str z)\/∃a,x= .ref a/\y= .ref a
def Deq(H:Hp):Nat->V->V->Prop
 |0,x,y=>yG x y
 |n+1,x,y=>yG x y\/∃a b xs ys,x= .ref a/\y= .ref b/\H a=some (.tup xs)/\H b=some (.tup ys)/\Paired (Deq H n) xs ys
theorem aH2(n:Nat):(List.range n).all (fun _=>true)=true:=na.mpr fun _ _=>rfl
theorem oQ{α β:Type}{F:α->β->Prop}:∀{xs:List α}{ys:List β}{i:Nat}{a:α}{b:β},Paired F xs ys->xs[i]?=some a->ys[i]?=some b->F a b
 |_,_,i,_,_,.nil,h,_=>by simp at h
 |_,_,0,_,_,.cons r _,h1,h2=>by simp at h1 h2;subst h1 h2;exact r
 |_,_,i+1,_,_,.cons _ t,h1,h2=>oQ (i:=i) t (by simpa using h1) (by simpa using h2)
section
variable {X:Cx}{pins:List (Addr×Obj)}{σ:St}{H:Hp}{s:Shared}
theorem pL{A:Around}{k j:Key}{u v:Value}(hx:nK k u=true)(hy:nK j v=true):SeqAt.EqAt A s u v (decide (k=j)):=fun prog w E Q q=>(bY prog w).eqBool (a:=k) (b:=j) hx hy q
theorem aG1{A:Around}{x y:V}{u v:Value}(h:yG x y)(rx:bC x u)(ry:bC y v):SeqAt.EqAt A s u v true:=by
 rcases h with⟨i,rfl,rfl⟩|⟨z,rfl,rfl⟩|⟨a,rfl,rfl⟩
 ·obtain⟨t1,rfl⟩:=rx;obtain⟨t2,rfl⟩:=ry;have:=pL (s:=s) (A:=A) (oY i t1) (oY i t2)
  rwa [ag rfl] at this
 ·obtain⟨t1,rfl⟩:=rx;obtain⟨t2,rfl⟩:=ry;have:=pL (s:=s) (A:=A) (oU z t1) (oU z t2)
  rwa [ag rfl] at this
 ·cases rx
  cases ry
  exact vn _
theorem aN9(I:aQ X pins σ H s):∀(n:Nat) (A:Around) {x y:V}{u v:Value},Deq H n x y->bC x u->bC y v->A.units+n+1<cLine->SeqAt.EqAt A s u v true
 |0,A,_,_,_,_,h,rx,ry,_=>aG1 h rx ry
 |n+1,A,x,y,u,v,h,rx,ry,hu=>by
  rcases h with h|⟨a,b,xs,ys,rfl,rfl,ha,hb,p⟩
  ·exact aG1 h rx ry
  cases rx
  cases ry
  by_cases e:a=b
  ·subst e;exact vn _
  obtain⟨its,r1,p1,_⟩:=I.tuple (aU.of ha);obtain⟨its2,r2,p2,_⟩:=I.tuple (aU.of hb);have l1:=r1.length;have l2:=r2.length;have l3:=lg p;have g:=SeqAt.RcAt.tuples (A:=A) (s:=s) (e:=fun _=>true) p1 p2 (by lia) fun j h1 h2=>?_
  ·have ee:((List.range (min its.toArray.size its2.toArray.size)).all (fun _=>true)&&its.toArray.size==its2.toArray.size)=true:=by
    rw[aH2,xq,br,br, <-l1, <-l2,l3];simp
   rw[ee] at g;exact SeqAt.EqAt.of_refs e g
  ·have hj:j<xs.length:=by rw[l1];simpa using h1
   have hj2:j<ys.length:=by rw[<-l3];exact hj
   obtain⟨w1,g1,q1⟩:=r1.get (ak hj);obtain⟨w2,g2,q2⟩:=r2.get (ak hj2);have e1:its.toArray[j]=w1:=by have:=(ap.mp g1).2;simpa using this
   have e2:its2.toArray[j]=w2:=by have:=(ap.mp g2).2;simpa using this
   rw[e1,e2];exact aN9 I n A.in1 (oQ p (ak hj) (ak hj2)) q1 q2 (by show A.units+1+n+1<cLine;lia)
inductive cF8(K:W.Frag)(b:Bool)(x:V)(y:V)(H:Hp)(Q:VK):Prop
 |mk:∀p q xs ys n,(x= .ref p)->(y= .ref q)->(aU K H p xs)->(aU K H q ys)->(Paired (Deq H n) xs ys)->(n<=40)->(Q (.bl b) H)->cF8 K b x y H Q
theorem aJ3{k:Nat}(hr:cY k X.A):kH X (compareOp .NotEq) (cF8 X.K false):=by
 intro pins s σ H x y v u Q I rx ry h;obtain⟨a,b,xs,ys,n,rfl,rfl,ha,hb,p,hn,q⟩:=h
 cases rx
 cases ry
 obtain⟨its,r1,p1,_⟩:=I.tuple ha;obtain⟨its2,r2,p2,_⟩:=I.tuple hb;have l1:=r1.length;have l2:=r2.length;have l3:=lg p;have hu:=hr.units;have g:=SeqAt.RcNeAt.tuples (A:=X.A) (s:=s) (e:=fun _=>true) p1 p2 (by lia) fun j h1 h2=>?_
 ·refine g _ _ _ _ ⟨.bl _,H,I,rfl,?_⟩;rw[show(!((List.range (min its.toArray.size its2.toArray.size)).all (fun _=>true)&&its.toArray.size==its2.toArray.size))=false by
   rw[aH2,xq,br,br, <-l1, <-l2,l3];simp]
  exact q
 ·have hj:j<xs.length:=by rw[l1];simpa using h1
  have hj2:j<ys.length:=by rw[<-l3];exact hj
  obtain⟨w1,g1,q1⟩:=r1.get (ak hj);obtain⟨w2,g2,q2⟩:=r2.get (ak hj2);have e1:its.toArray[j]=w1:=by have:=(ap.mp g1).2;simpa using this
  have e2:its2.toArray[j]=w2:=by have:=(ap.mp g2).2;simpa using this
  rw[e1,e2];exact aN9 I n X.A.in1 (oQ p (ak hj) (ak hj2)) q1 q2 (by show X.A.units+1+n+1<cLine;lia)
end
end L2
namespace Mine
open PySem L2
def mE(ν:Str->Str):Tm->Tm->Prop
 |.num _ n,t=>∃p,t= .num p n
 |.nam _ x,t=>∃p,t= .nam p (ν x)
 |.op _ s a b,t=>∃p a' b',t= .op p s a' b'/\mE ν a a'/\mE ν b b'
abbrev UR:=Str->List V->List V->Prop
mutual
def oM(U:UR)(ν:Str->Str):Rw->Rw->Prop
 |.thr _ w x us am,r=>∃p us',r= .thr p w (ν x) us' am/\U w us us'
 |.lt _ x t,r=>∃p t',r= .lt p (ν x) t'/\mE ν t t'
 |.tell _ t,r=>∃p t',r= .tell p t'/\mE ν t t'
 |.when _ _ _ t a b,r=>∃p pa pb t' a' b',r= .when p pa pb t' a' b'/\mE ν t t'/\lJ U ν a a'/\lJ U ν b b'
 |.times _ _ n b,r=>∃p pb b',r= .times p pb n b'/\lJ U ν b b'
def lJ(U:UR)(ν:Str->Str):List Rw->List Rw->Prop
 |[],qs=>qs=[]
 |r::rs,qs=>∃q qs',qs=q::qs'/\oM U ν r q/\lJ U ν rs qs'
end
mutual
def aL1:Rw->Prop
 |.thr _ _ _ _ _=>True
 |.lt _ _ t=>t.size<=7
 |.tell _ t=>t.size<=7
 |.when _ _ _ t a b=>t.size<=7/\jV a/\jV b
 |.times _ _ _ b=>jV b
def jV:List Rw->Prop
 |[]=>True
 |r::rs=>aL1 r/\jV rs
end
theorem jV.app:∀{rs qs:List Rw},jV rs->jV qs->jV (rs++qs)
 |[],_,_,h=>h
 |_::_,_,⟨h,k⟩,h2=>⟨h,jV.app k h2⟩
mutual
def eG:Rw->List Rw
 |.when p pa pb t a b=> .when p pa pb t a b::(cK a++cK b)
 |.times p pb n b=> .times p pb n b::cK b
 |.thr p w x vs am=>[.thr p w x vs am]
 |.lt p x t=>[.lt p x t]
 |.tell p t=>[.tell p t]
def cK:List Rw->List Rw
 |[]=>[]
 |r::rs=>eG r++cK rs
end
mutual
theorem aH3:∀(r:Rw),(eG r).length=r.cnt
 |.when _ _ _ _ a b=>by have:=dG a;have:=dG b;simp only[eG,Rw.cnt,List.length_cons,List.length_append];lia
 |.times _ _ _ b=>by have:=dG b;simp only[eG,Rw.cnt,List.length_cons];lia
 |.thr _ _ _ _ _=>by simp only[eG,Rw.cnt,List.length_cons,List.length_nil]
 |.lt _ _ _=>by simp only[eG,Rw.cnt,List.length_cons,List.length_nil]
 |.tell _ _=>by simp only[eG,Rw.cnt,List.length_cons,List.length_nil]
theorem dG:∀(rs:List Rw),(cK rs).length=aZ rs
 |[]=>by simp only[cK,aZ,List.length_nil]
 |r::rs=>by have:=aH3 r;have:=dG rs;simp only[cK,aZ,List.length_append];lia
end
theorem iO:∀(rs qs:List Rw),cK (rs++qs)=cK rs++cK qs
 |[],qs=>by simp[cK]
 |r::rs,qs=>by simp only[List.cons_append,cK,iO rs qs,List.append_assoc]
def eI(s:Stp):Bool:=decide (s.1="row")
mutual
theorem aK1:∀(r:Rw) (k:Nat),((dQ k r).filter eI).map (·.2.1)=eG r
 |.when p pa pb t a b,k=>by
  simp only[dQ,eG];rw[dm (p:=eI) (by unfold eI;exact ag rfl),ju,ju,ju,dy (p:=eI) (by unfold eI;simp[aT5]),dy (p:=eI) (by unfold eI;simp[kL])];simp only[List.filter_nil,List.append_nil,List.map_cons,List.map_append,fJ a,fJ b]
 |.times p pb n b,k=>by
  simp only[dQ,eG];rw[dm (p:=eI) (by unfold eI;exact ag rfl),ju,dy (p:=eI) (by unfold eI;simp[kL])];simp only[List.filter_nil,List.append_nil,List.map_cons,fJ b]
 |.thr _ _ _ _ _,_=>by simp only[dQ,eG];rw[dm (p:=eI) (by unfold eI;exact ag rfl)];rfl
 |.lt _ _ _,_=>by simp only[dQ,eG];rw[dm (p:=eI) (by unfold eI;exact ag rfl)];rfl
 |.tell _ _,_=>by simp only[dQ,eG];rw[dm (p:=eI) (by unfold eI;exact ag rfl)];rfl
theorem fJ:∀(rs:List Rw) (k:Nat),((dS k rs).filter eI).map (·.2.1)=cK rs
 |[],_=>rfl
 |r::rs,k=>by simp only[dS,cK,List.filter_append,List.map_append,aK1 r,fJ rs]
end
mutual
theorem bJ4{H:Hp}:∀{r:Rw},dO H r->∀q∈eG r,dO H q
 |.when _ _ _ _ a b,h,q,hq=>by
  rcases cj.mp hq with e|e
  ·rw[e];exact h
  rcases bz.mp e with e|e
  ·exact gM h.2.2.2.2.2.1 q e
  ·exact gM h.2.2.2.2.2.2 q e
 |.times _ _ _ b,h,q,hq=>by
  rcases cj.mp hq with e|e
  ·rw[e];exact h
  ·exact gM h.2.2 q e
 |.thr _ _ _ _ _,h,q,hq=>by rw[au.mp hq];exact h
 |.lt _ _ _,h,q,hq=>by rw[au.mp hq];exact h
 |.tell _ _,h,q,hq=>by rw[au.mp hq];exact h
theorem gM{H:Hp}:∀{rs:List Rw},aS H rs->∀q∈cK rs,dO H q
 |[],_,q,hq=>absurd hq bu
 |r::rs,h,q,hq=>by
  rcases bz.mp hq with e|e
  ·exact bJ4 h.1 q e
  ·exact gM h.2 q e
end
def pU(rs:List Rw):List Str:=(cK rs).filterMap Rw.sets
def rnm(r:Rw):List Str:=r.sets.toList++r.asked
def qE(rs:List Rw):List Str:=(cK rs).flatMap rnm
theorem vM(rs qs:List Rw):pU (rs++qs)=pU rs++pU qs:=by unfold pU;rw[iO,qm]
theorem bE3(rs qs:List Rw):qE (rs++qs)=qE rs++qE qs:=by unfold qE;rw[iO,ig]
theorem aX5(r:Rw)(rs:List Rw):pU (r::rs)=pU [r]++pU rs:=by rw[<-vM];rfl
theorem aZ3(r:Rw)(rs:List Rw):qE (r::rs)=qE [r]++qE rs:=by rw[<-bE3];rfl
theorem yM{p pa pb:Addr}{t:Tm}{a b:List Rw}:pU [.when p pa pb t a b]=pU a++pU b:=by
 simp only[pU,cK,eG,List.append_nil,List.filterMap_cons,Rw.sets,List.filterMap_append]
theorem tY{p pb:Addr}{n:Int}{b:List Rw}:pU [.times p pb n b]=pU b:=by
 simp only[pU,cK,eG,List.append_nil,List.filterMap_cons,Rw.sets]
theorem aQ8{p pa pb:Addr}{t:Tm}{a b:List Rw}:qE [.when p pa pb t a b]=t.names++(qE a++qE b):=by
 simp only[qE,cK,eG,List.append_nil,List.flatMap_cons,List.flatMap_append,rnm,Rw.sets,Rw.asked,Option.toList,List.nil_append]
theorem aL3{p pb:Addr}{n:Int}{b:List Rw}:qE [.times p pb n b]=qE b:=by
 simp only[qE,cK,eG,List.append_nil,List.flatMap_cons,rnm,Rw.sets,Rw.asked,Option.toList,List.nil_append]
def Clo(ks:List Str)(rs:List Rw)(k2:List Str):Prop:=(∀y∈qE rs,y∈ks\/y∈pU rs)/\∀y∈k2,y∈ks\/y∈pU rs
mutual
theorem ScR.clo:∀{r:Rw}{ks k2:List Str},ScR ks r k2->Clo ks [r] k2
 |.thr _ _ x _ _,ks,k2,h=>by
  refine⟨fun y hy=> .inr hy,fun y hy=>?_⟩;rw[h.1] at hy;exact bz.mp hy
 |.lt p x t,ks,k2,h=>by
  refine⟨fun y hy=>?_,fun y hy=>?_⟩
  ·have e:qE [Rw.lt p x t]=[x]++t.names:=by simp[qE,cK,eG,rnm,Rw.sets,Rw.asked]
   rw[e] at hy;rcases bz.mp hy with z|z
   ·exact .inr z
   ·exact .inl (h.2 y z)
  ·rw[h.1] at hy;exact bz.mp hy
 |.tell p t,ks,k2,h=>by
  refine⟨fun y hy=>?_,fun y hy=>by rw[h.1] at hy;exact .inl hy⟩;have e:qE [Rw.tell p t]=t.names:=by simp[qE,cK,eG,rnm,Rw.sets,Rw.asked]
  rw[e] at hy;exact .inl (h.2 y hy)
 |.when p pa pb t a b,ks,k2,⟨hn,k3,k4,h3,h4,h5⟩=>by
  have c3:=mY.clo h3;have c4:=mY.clo h4;unfold Clo;rw[aQ8,yM];refine⟨fun y hy=>?_,fun y hy=>?_⟩
  ·rcases bz.mp hy with z|z
   ·exact .inl (hn y z)
   rcases bz.mp z with z|z
   ·exact(c3.1 y z).imp_right fun q=>dj _ q
   ·exact(c4.1 y z).imp_right fun q=>bx _ q
  ·rw[h5,qt] at hy;exact(c3.2 y hy.1).imp_right fun q=>dj _ q
 |.times p pb n b,ks,k2,h=>by
  have c:=mY.clo (rs:=b) h;unfold Clo;rw[aL3,tY];exact c
theorem mY.clo:∀{rs:List Rw}{ks k2:List Str},mY ks rs k2->Clo ks rs k2
 |[],ks,k2,h=>⟨fun y hy=>absurd hy bu,fun y hy=>by rw[show k2=ks from h] at hy;exact .inl hy⟩
 |r::rs,ks,k2,⟨k1,h1,h2⟩=>by
  have c1:=ScR.clo h1;have c2:=mY.clo h2;unfold Clo;rw[aZ3,aX5];have up:∀y,y∈k1\/y∈pU rs->y∈ks\/y∈pU [r]++pU rs:=fun y hy=>by
   rcases hy with z|z
   ·exact(c1.2 y z).imp_right fun q=>dj _ q
   ·exact .inr (bx _ z)
  refine⟨fun y hy=>?_,fun y hy=>up y (c2.2 y hy)⟩;rcases bz.mp hy with z|z
  ·exact(c1.1 y z).imp_right fun q=>dj _ q
  ·exact up y (c2.1 y z)
end
abbrev UEq:UR:=fun _ a b=>a=b
theorem mE.idn:∀t:Tm,mE id t t
 |.num p n=>⟨p,rfl⟩
 |.nam p x=>⟨p,rfl⟩
 |.op p s a b=>⟨p,a,b,rfl,mE.idn a,mE.idn b⟩
section
variable {U U' D:UR}{ν:Str->Str}
end
def Few(m:Nat)(T:List Str):Prop:=∃D:List Str,D.length<=m/\∀x∈T,x∈D
theorem Few.sub{m:Nat}{T S:List Str}(h:Few m T)(k:∀x∈S,x∈T):Few m S:=by obtain⟨D,l,q⟩:=h;exact⟨D,l,fun x hx=>q x (k x hx)⟩
theorem Few.len{m:Nat}{T:List Str}(h:T.length<=m):Few m T:=⟨T,h,fun _ z=>z⟩
section
variable {ν:Str->Str}{K1 K2 N1 N2:List Str}
end
def okV(v:V):Prop:=yG v v
theorem iK{H:Hp}{x y:V}(h:yG x y):∀n,Deq H n x y
 |0=>h
 |_+1=> .inl h
theorem pX(x:Str):yG (.str x) (.str x):= .inr (.inl ⟨x,rfl,rfl⟩)
theorem tE(x:Int):yG (.int x) (.int x):= .inl ⟨x,rfl,rfl⟩
theorem aI7(x:Addr):yG (.ref x) (.ref x):= .inr (.inr ⟨x,rfl,rfl⟩)
theorem lI{H:Hp}{ν:Str->Str}:∀{t t1 t2:Tm}(n:Nat),mE ν t t1->mE ν t t2->pV H t1->pV H t2->t.size<=n->Deq H n (.ref t1.p) (.ref t2.p)
 |.num _ m,_,_,n,⟨p,e⟩,⟨q,f⟩,h1,h2,hn=>by
  subst e f
  cases n with
  |zero=>exact absurd hn (by simp[Tm.size])
  |succ n=>exact .inr ⟨p,q,_,_,rfl,rfl,h1,h2,.cons (iK (pX _) n) (.cons (iK (tE _) n) .nil)⟩
 |.nam _ x,_,_,n,⟨p,e⟩,⟨q,f⟩,h1,h2,hn=>by
  subst e f
  cases n with
  |zero=>exact absurd hn (by simp[Tm.size])
  |succ n=>exact .inr ⟨p,q,_,_,rfl,rfl,h1,h2,.cons (iK (pX _) n) (.cons (iK (pX _) n) .nil)⟩
 |.op _ s a b,_,_,n,⟨p,a1,b1,e,ea,eb⟩,⟨q,a2,b2,f,fa,fb⟩,h1,h2,hn=>by
  subst e f;simp only[Tm.size] at hn
  cases n with
  |zero=>exact absurd hn (by lia)
  |succ n=>exact .inr ⟨p,q,_,_,rfl,rfl,h1.1,h2.1,.cons (iK (pX _) n) (.cons (iK (pX _) n) (.cons (lI n ea fa h1.2.1 h2.2.1 (by lia)) (.cons (lI n eb fb h1.2.2 h2.2.2 (by lia)) .nil)))⟩
def sW(d:Nat):Nat:=2*d+9
mutual
theorem aY2{H:Hp}{U:UR}{ν:Str->Str}(hU:∀(n:Nat) w us a b,2<=n->U w us a->U w us b->Paired (Deq H n) a b):∀{r r1 r2:Rw}(n:Nat),oM U ν r r1->oM U ν r r2->dO H r1->dO H r2->aL1 r->sW r.dp<=n->Deq H n (.ref r1.p) (.ref r2.p)
 |.thr _ w x us am,_,_,n+1,⟨p,u1,e,k1⟩,⟨q,u2,f,k2⟩,h1,h2,z,hn=>by
  subst e f;simp only[sW,Rw.dp] at hn;exact .inr ⟨p,q,_,_,rfl,rfl,h1.1,h2.1,.cons (iK (pX _) n) (.cons (iK (pX _) n) (hU n _ _ _ _ (by lia) k1 k2))⟩
 |.lt _ x t,_,_,n+1,⟨p,t1,e,a⟩,⟨q,t2,f,b⟩,h1,h2,z,hn=>by
  subst e f;have z:t.size<=7:=z;simp only[sW,Rw.dp] at hn;exact .inr ⟨p,q,_,_,rfl,rfl,h1.1,h2.1,.cons (iK (pX _) n) (.cons (iK (pX _) n) (.cons (lI n a b h1.2.1 h2.2.1 (by lia)) .nil))⟩
 |.tell _ t,_,_,n+1,⟨p,t1,e,a⟩,⟨q,t2,f,b⟩,h1,h2,z,hn=>by
  subst e f;have z:t.size<=7:=z;simp only[sW,Rw.dp] at hn;exact .inr ⟨p,q,_,_,rfl,rfl,h1.1,h2.1,.cons (iK (pX _) n) (.cons (lI n a b h1.2.1 h2.2.1 (by lia)) .nil)⟩
 |.when _ _ _ t a b,_,_,n+2,⟨p,pa,pb,t1,a1,b1,e,et,ea,eb⟩,⟨q,qa,qb,t2,a2,b2,f,ft,fa,fb⟩,h1,h2,z,hn=>by
  subst e f;have z1:t.size<=7:=z.1;simp only[sW,Rw.dp] at hn;obtain⟨g1,g2,_,g4,g5,g6,g7⟩:=h1;obtain⟨k1,k2,_,k4,k5,k6,k7⟩:=h2;refine .inr ⟨p,q,_,_,rfl,rfl,g1,k1,.cons (iK (pX _) _) (.cons (lI _ et ft g2 k2 (by lia)) (.cons (.inr ⟨pa,qa,_,_,rfl,rfl,g4,k4,?_⟩) (.cons (.inr ⟨pb,qb,_,_,rfl,rfl,g5,k5,?_⟩) .nil)))⟩
  ·exact kO hU n ea fa g6 k6 z.2.1 (by simp only[sW];lia)
  ·exact kO hU n eb fb g7 k7 z.2.2 (by simp only[sW];lia)
 |.times _ _ m b,_,_,n+2,⟨p,pb,b1,e,eb⟩,⟨q,qb,b2,f,fb⟩,h1,h2,z,hn=>by
  subst e f;simp only[sW,Rw.dp] at hn;obtain⟨g1,g2,g3⟩:=h1;obtain⟨k1,k2,k3⟩:=h2;refine .inr ⟨p,q,_,_,rfl,rfl,g1,k1,.cons (iK (pX _) _) (.cons (iK (tE _) _) (.cons (.inr ⟨pb,qb,_,_,rfl,rfl,g2,k2,?_⟩) .nil))⟩;exact kO hU (rs:=b) n eb fb g3 k3 z (by simp only[sW];lia)
 |.thr _ _ _ _ _,_,_,0,_,_,_,_,_,hn=>absurd hn (by simp[sW])
 |.lt _ _ _,_,_,0,_,_,_,_,_,hn=>absurd hn (by simp[sW])
 |.tell _ _,_,_,0,_,_,_,_,_,hn=>absurd hn (by simp[sW])
 |.when _ _ _ _ _ _,_,_,0,_,_,_,_,_,hn=>absurd hn (by simp[sW])
 |.when _ _ _ _ _ _,_,_,1,_,_,_,_,_,hn=>absurd hn (by simp only[sW];lia)
 |.times _ _ _ _,_,_,0,_,_,_,_,_,hn=>absurd hn (by simp[sW])
 |.times _ _ _ _,_,_,1,_,_,_,_,_,hn=>absurd hn (by simp only[sW];lia)
theorem kO{H:Hp}{U:UR}{ν:Str->Str}(hU:∀(n:Nat) w us a b,2<=n->U w us a->U w us b->Paired (Deq H n) a b):∀{rs r1 r2:List Rw}(n:Nat),lJ U ν rs r1->lJ U ν rs r2->aS H r1->aS H r2->jV rs->sW (tG rs)<=n->PySem.Paired (Deq H n) (r1.map fun r=>V.ref r.p) (r2.map fun r=>V.ref r.p)
 |[],_,_,n,e,f,_,_,_,_=>by rw[show _=[] from e,show _=[] from f];exact .nil
 |r::rs,_,_,n,⟨q1,s1,e,a1,b1⟩,⟨q2,s2,f,a2,b2⟩,h1,h2,z,hn=>by
  subst e f;simp only[sW,tG] at hn;exact .cons (aY2 hU n a1 a2 h1.1 h2.1 z.1 (by simp only[sW];lia)) (kO hU n b1 b2 h1.2 h2.2 z.2 (by simp only[sW];lia))
end
theorem qU{H:Hp}{n:Nat}:∀{us:List V},(∀u∈us,okV u)->Paired (Deq H n) us us
 |[],_=> .nil
 |u::us,h=> .cons (iK (h u az) n) (qU fun v hv=>h v (av _ hv))
end Mine
namespace L2
open PySem PySem.Spec PyProof.Rows
theorem cN{α:Type}{n:Nat}{us:List α}(h:us.length=n+1):∃u r,us=u::r/\r.length=n:=by
 cases us with
 |nil=>cases h
 |cons u r=>exact⟨u,r,rfl,Nat.succ.inj h⟩
section
variable {K:W.Frag}{x qual:Str}{st:Stmt}{f:Addr}{fd:FuncData}{p1 p2 p3 p4 p5:Str}
theorem oI.b1(F:oI K x qual st f fd)(h:∀(kV doc pm:Value) (an:Option Addr) (cdv ct u1:Value),bindArgs (W.fnOf x qual (bO st) (bF st) (aK st) .none kV doc pm an cdv ct) ⟨[u1],[]⟩=pure [(p1,u1)]):gJ K fd [p1] []:=by
 refine F.binds fun kV doc pm an cdv ct us h0=>?_
 obtain⟨u1,r1,rfl,h1⟩:=cN (n:=0) h0
 cases je.mp h1
 exact h kV doc pm an cdv ct u1
theorem oI.b2(F:oI K x qual st f fd)(h:∀(kV doc pm:Value) (an:Option Addr) (cdv ct u1 u2:Value),bindArgs (W.fnOf x qual (bO st) (bF st) (aK st) .none kV doc pm an cdv ct) ⟨[u1,u2],[]⟩=pure [(p1,u1),(p2,u2)]):gJ K fd [p1,p2] []:=by
 refine F.binds fun kV doc pm an cdv ct us h0=>?_
 obtain⟨u1,r1,rfl,h1⟩:=cN (n:=1) h0;obtain⟨u2,r2,rfl,h2⟩:=cN (n:=0) h1
 cases je.mp h2
 exact h kV doc pm an cdv ct u1 u2
theorem oI.b3(F:oI K x qual st f fd)(h:∀(kV doc pm:Value) (an:Option Addr) (cdv ct u1 u2 u3:Value),bindArgs (W.fnOf x qual (bO st) (bF st) (aK st) .none kV doc pm an cdv ct) ⟨[u1,u2,u3],[]⟩=pure [(p1,u1),(p2,u2),(p3,u3)]):gJ K fd [p1,p2,p3] []:=by
 refine F.binds fun kV doc pm an cdv ct us h0=>?_
 obtain⟨u1,r1,rfl,h1⟩:=cN (n:=2) h0;obtain⟨u2,r2,rfl,h2⟩:=cN (n:=1) h1;obtain⟨u3,r3,rfl,h3⟩:=cN (n:=0) h2
 cases je.mp h3
 exact h kV doc pm an cdv ct u1 u2 u3
theorem oI.b4(F:oI K x qual st f fd)(h:∀(kV doc pm:Value) (an:Option Addr) (cdv ct u1 u2 u3 u4:Value),bindArgs (W.fnOf x qual (bO st) (bF st) (aK st) .none kV doc pm an cdv ct) ⟨[u1,u2,u3,u4],[]⟩=pure [(p1,u1),(p2,u2),(p3,u3),(p4,u4)]):gJ K fd [p1,p2,p3,p4] []:=by
 refine F.binds fun kV doc pm an cdv ct us h0=>?_
 obtain⟨u1,r1,rfl,h1⟩:=cN (n:=3) h0;obtain⟨u2,r2,rfl,h2⟩:=cN (n:=2) h1;obtain⟨u3,r3,rfl,h3⟩:=cN (n:=1) h2;obtain⟨u4,r4,rfl,h4⟩:=cN (n:=0) h3
 cases je.mp h4
 exact h kV doc pm an cdv ct u1 u2 u3 u4
theorem oI.b5(F:oI K x qual st f fd)(h:∀(kV doc pm:Value) (an:Option Addr) (cdv ct u1 u2 u3 u4 u5:Value),bindArgs (W.fnOf x qual (bO st) (bF st) (aK st) .none kV doc pm an cdv ct) ⟨[u1,u2,u3,u4,u5],[]⟩=pure [(p1,u1),(p2,u2),(p3,u3),(p4,u4),(p5,u5)]):gJ K fd [p1,p2,p3,p4,p5] []:=by
 refine F.binds fun kV doc pm an cdv ct us h0=>?_
 obtain⟨u1,r1,rfl,h1⟩:=cN (n:=4) h0;obtain⟨u2,r2,rfl,h2⟩:=cN (n:=3) h1;obtain⟨u3,r3,rfl,h3⟩:=cN (n:=2) h2;obtain⟨u4,r4,rfl,h4⟩:=cN (n:=1) h3;obtain⟨u5,r5,rfl,h5⟩:=cN (n:=0) h4
 cases je.mp h5
 exact h kV doc pm an cdv ct u1 u2 u3 u4 u5
end
section
variable {K:W.Frag}{x qual:Str}{st:Stmt}{f:Addr}{fd:FuncData}{p1 p2 p3 p4 p5 p6:Str}
end
section
variable {P:Program}{w:World}{K:W.Frag}{mg:Str->Option Value}{base:Heap}
def Cl(P:Program)(w:World)(K:W.Frag)(mg:Str->Option Value)(base:Heap)(n:Nat)(sp:Sp)(x:Str):Prop:=∃f d ps,mI P w K mg base qL n f d ps sp/\gJ K d ps []/\W.keepIn K (.ref f)=true/\mg x=some (.ref f)
def eQ(P:Program)(w:World)(K:W.Frag)(mg:Str->Option Value)(base:Heap)(x q:Str)(st:Stmt)(n:Nat)(ps:List Str)(sp:Sp):Prop:=∀{f:Addr}{d:FuncData},oI K x q st f d->mI P w K mg base qL n f d ps sp
theorem fS{x q:Str}{st:Stmt}{k:Nat}{ps:List Str}{sp:Sp}(N:List Str)
  (hb:∀{f:Addr}{cdv:Value}{A:Around}{outer:List Env}{s:Shared}{vs:List V}{E:XK}(H:Hp) (Q:VK),N.Nodup->cY k (A.deeper (envOfC q (aK st) s.heap.objs.size f cdv))->sp vs H Q E ->
   ∃t,pS (kG qL P w K mg base N q (aK st) f cdv A outer s H E).nox (bF st) t/\t { nx:=fun _ H'=>Q .non H',rt:=Q } (eT N vs) H)
  (len:∀vs H Q E,sp vs H Q E->vs.length=ps.length:=by intro _ _ _ _ h;first|(cases h;subst_vars;rfl)|((repeat obtain⟨_,h⟩:=h);subst_vars;rfl))
  (S:autoParam (eM N ps (aK st)) Rq6._auto_1):eQ P w K mg base x q st (k+1) ps sp:=
 fun F=>F.ok S len fun _ _ _ _ H _ Q _ hr h=>hb H Q S.nd hr h
def yJ(K:W.Frag)(x q:Str)(st:Stmt)(f:Addr):Prop:=∃(oc:Value) (od:Option Addr) (kV dc pm:Value) (an:Option Addr) (cd ct:Value) (sl:Array (Option Value)),K.lookup f=some ⟨oc,od,.func (W.fnOf x q (bO st) (bF st) (aK st) .none kV dc pm an cd ct),sl⟩/\W.codeIn K cd q=true/\W.keepIn K (.ref f)=true
def TopAt(K:W.Frag)(x:Str)(st:Stmt):Prop:=∃f,W.nsIn K mainGlobals x=some (some (.ref f))/\yJ K x x st f
theorem yJ.of{x q:Str}{st:Stmt}{f:Addr}{oc:Value}{od:Option Addr}{kV dc pm:Value}{an:Option Addr}{cd ct:Value}{sl:Array (Option Value)}(l:K.lookup f=some ⟨oc,od,.func (W.fnOf x q (bO st) (bF st) (aK st) .none kV dc pm an cd ct),sl⟩)(c:W.codeIn K cd q=true)(k:W.keepIn K (.ref f)=true):yJ K x q st f:=⟨_,_,_,_,_,_,_,_,_,l,c,k⟩
theorem TopAt.of{x:Str}{st:Stmt}{f:Addr}{oc:Value}{od:Option Addr}{kV dc pm:Value}{an:Option Addr}{cd ct:Value}{sl:Array (Option Value)}(a:W.nsIn K mainGlobals x=some (some (.ref f)))(l:K.lookup f=some ⟨oc,od,.func (W.fnOf x x (bO st) (bF st) (aK st) .none kV dc pm an cd ct),sl⟩)(c:W.codeIn K cd x=true)(k:W.keepIn K (.ref f)=true):TopAt K x st:=⟨_,a,.of l c k⟩
theorem yJ.fn{x q:Str}{st:Stmt}{f:Addr}:yJ K x q st f->∃d,oI K x q st f d
 |⟨_,_,_,_,_,_,_,_,_,l,c,k⟩=>⟨_,zF l c k⟩
structure Zx(P:Program)(w:World)(K:W.Frag)(mg:Str->Option Value)(base:Heap):Prop where
 ns:∀x u,W.nsIn K mainGlobals x=some (some u)->mg x=some u
 no:∀x,W.nsIn K mainGlobals x=some none->mg x=none
theorem Zx.of{h:Heap}(X:K.In h)(G:h.Ns mainGlobals mg):Zx P w K mg base:=⟨fun _ _ e=>W.mg_of X G e,fun _ e=>W.mg_none_of X G e⟩
variable {x p1 p2 p3 p4 p5 p6:Str}{st:Stmt}{n:Nat}{sp:Sp}
theorem Zx.cl(Z:Zx P w K mg base)(t:TopAt K x st){ps:List Str}(ok:eQ P w K mg base x x st n ps sp)(b:∀{f d},oI K x x st f d->gJ K d ps []):Cl P w K mg base n sp x:=by
 obtain⟨_,a,t⟩:=t;obtain⟨_,F⟩:=t.fn;exact⟨_,_,_,ok F,b F,F.kp,Z.ns _ _ a⟩
theorem Zx.c1(Z:Zx P w K mg base)(t:TopAt K x st)(ok:eQ P w K mg base x x st n [p1] sp)(h:autoParam (∀(kV doc pm:Value) (an:Option Addr) (cdv ct u1:Value),bindArgs (W.fnOf x x (bO st) (bF st) (aK st) .none kV doc pm an cdv ct) ⟨[u1],[]⟩=pure [(p1,u1)]) Rq3._auto_1):Cl P w K mg base n sp x:=Z.cl t ok fun F=>F.b1 h
theorem Zx.c2(Z:Zx P w K mg base)(t:TopAt K x st)(ok:eQ P w K mg base x x st n [p1,p2] sp)(h:autoParam (∀(kV doc pm:Value) (an:Option Addr) (cdv ct u1 u2:Value),bindArgs (W.fnOf x x (bO st) (bF st) (aK st) .none kV doc pm an cdv ct) ⟨[u1,u2],[]⟩=pure [(p1,u1),(p2,u2)]) Rq3._auto_1):Cl P w K mg base n sp x:=Z.cl t ok fun F=>F.b2 h
theorem Zx.c3(Z:Zx P w K mg base)(t:TopAt K x st)(ok:eQ P w K mg base x x st n [p1,p2,p3] sp)(h:autoParam (∀(kV doc pm:Value) (an:Option Addr) (cdv ct u1 u2 u3:Value),bindArgs (W.fnOf x x (bO st) (bF st) (aK st) .none kV doc pm an cdv ct) ⟨[u1,u2,u3],[]⟩=pure [(p1,u1),(p2,u2),(p3,u3)]) Rq3._auto_1):Cl P w K mg base n sp x:=Z.cl t ok fun F=>F.b3 h
theorem Zx.c4(Z:Zx P w K mg base)(t:TopAt K x st)(ok:eQ P w K mg base x x st n [p1,p2,p3,p4] sp)(h:autoParam (∀(kV doc pm:Value) (an:Option Addr) (cdv ct u1 u2 u3 u4:Value),bindArgs (W.fnOf x x (bO st) (bF st) (aK st) .none kV doc pm an cdv ct) ⟨[u1,u2,u3,u4],[]⟩=pure [(p1,u1),(p2,u2),(p3,u3),(p4,u4)]) Rq3._auto_1):Cl P w K mg base n sp x:=Z.cl t ok fun F=>F.b4 h
theorem Zx.c5(Z:Zx P w K mg base)(t:TopAt K x st)(ok:eQ P w K mg base x x st n [p1,p2,p3,p4,p5] sp)(h:autoParam (∀(kV doc pm:Value) (an:Option Addr) (cdv ct u1 u2 u3 u4 u5:Value),bindArgs (W.fnOf x x (bO st) (bF st) (aK st) .none kV doc pm an cdv ct) ⟨[u1,u2,u3,u4,u5],[]⟩=pure [(p1,u1),(p2,u2),(p3,u3),(p4,u4),(p5,u5)]) Rq3._auto_1):Cl P w K mg base n sp x:=Z.cl t ok fun F=>F.b5 h
theorem okn{q:Str}{k:Nat}{ps:List Str}:eQ P w K mg base x q st k ps (fun _ _ _ _=>False):=fun _=>⟨fun _ _ _ _ h=>h.elim,fun _ _ _ _ _ _ _ _ _ _ _ _ _ h=>h.elim⟩
end
section
variable {X:Cx}{x:Str}{p pos pos':Pos}{e:Expr}{es:List Expr}{t:TA}{te:TE}
theorem bN{k:Nat}{sp:Sp}(C:Cl X.prog X.w X.K X.mg X.base k sp x){n:Nat}(hr:cY n X.A)(ha:PA X (e::es) t)(hn:autoParam (k<=n) Rq5._auto_1)(hg:autoParam (Gl X x) Rq0._auto_1)(hdb:autoParam ((x==("__debug__": Str))=false) Rq1._auto_1)(he:autoParam (starEach (e::es) X.env=(false,eval e X.env)::starEach es X.env) Rq0._auto_1)
  (hpl:autoParam ((backTo pos (starEach es X.env)).any (·.1)=false) Rq0._auto_1):PE X (.Call (.Name x p) (e::es) [] pos) (pR sp [] E0 t):=by obtain⟨_,_,_,g,b,k,m⟩:=C;exact aF0 g (hr.mono hn) hg m k b .nil cE3 ha hdb he hpl
theorem dX(i:Nat){cS:List Stmt}{u:TS}(hN:X.N.Nodup)(he:PE X e te)(h2:pS X cS u)(hi:autoParam (X.N[i]?=some x) Rq0._auto_1)(hx:autoParam (Loc X.env.scope x) Rq8._auto_1)(hs:autoParam (swapsWith e (some (.Name x pos')) pos.line X.env=pure false) Rq0._auto_1)
  (hf:autoParam (X.fn x=true\/X.env.scope.names.lookup x=some .local) Rq2._auto_1):pS X (.Assign [.Name x pos'] e pos::cS) (aV4 (aY4 te (sN i)) u):=aF (gD hN hi hx he hs hf) h2
theorem psz(i:Nat)(hN:X.N.Nodup)(he:PE X e te)(hi:autoParam (X.N[i]?=some x) Rq0._auto_1)(hx:autoParam (Loc X.env.scope x) Rq8._auto_1)(hs:autoParam (swapsWith e (some (.Name x pos')) pos.line X.env=pure false) Rq0._auto_1)
  (hf:autoParam (X.fn x=true\/X.env.scope.names.lookup x=some .local) Rq2._auto_1):PS X (.Assign [.Name x pos'] e pos) (aY4 te (sN i)):=gD hN hi hx he hs hf
theorem gG(i:Nat)(hN:X.N.Nodup:=by dsimp only[bX];decide)(hi:autoParam (X.N[i]?=some x) Rq0._auto_1)(hx:autoParam (Loc X.env.scope x) Rq8._auto_1)(hf:autoParam (X.fn x=true\/X.env.scope.names.lookup x=some .local) Rq2._auto_1):PG X (.Name x pos) (sN i):=qC hN hi hx hf
theorem pfr{tg iter:Expr}{body:List Stmt}{wi:TI}{g:TG}{tb:TS}(hi:PI X tg iter wi)(hg:PG X tg g)(hb:pS X body tb)(hp:PassesOwn (model X.prog X.w) X.A X.env X.xe:=by exact jg)(hc:autoParam (X.calm=true) Rq0._auto_1)
  (hs:autoParam (∀x,foldedSetIterable iter X.env x=pure x) Rq4._auto_1):PS X (.For tg iter body [] pos) (cA0 wi g tb):=aN1 hp hc hi hg hb hs
variable {id T:String}{r:List V->Hp->VK->Prop}
theorem tL(hc:fG X (.builtin id) r)(hm:X.mg x=none)(hv:bootBuiltins x=some (.builtin id))(ha:PA X (e::es) t)(hg:autoParam (Gl X x) Rq0._auto_1)(hn:autoParam (x≠"__name__") Rq1._auto_1)(hdb:autoParam ((x==("__debug__": Str))=false) Rq1._auto_1)
  (he:autoParam (starEach (e::es) X.env=(false,eval e X.env)::starEach es X.env) Rq0._auto_1) (hpl:autoParam ((backTo pos (starEach es X.env)).any (·.1)=false) Rq0._auto_1):PE X (.Call (.Name x p) (e::es) [] pos) (tCB r t):=iA hc hg hm hv ha hn hdb he hpl
theorem pct(hc:fG X (.type T) r)(hm:X.mg x=none)(hv:bootBuiltins x=some (.type T))(ha:PA X (e::es) t)(hg:autoParam (Gl X x) Rq0._auto_1)(hn:autoParam (x≠"__name__") Rq1._auto_1)(hdb:autoParam ((x==("__debug__": Str))=false) Rq1._auto_1)
  (he:autoParam (starEach (e::es) X.env=(false,eval e X.env)::starEach es X.env) Rq0._auto_1) (hpl:autoParam ((backTo pos (starEach es X.env)).any (·.1)=false) Rq0._auto_1):PE X (.Call (.Name x p) (e::es) [] pos) (tCB r t):=aL9 hc hg hm hv ha hn hdb he hpl
variable {a b:Expr}{ta tb:TE}
theorem bK{r:R2}(hr:IxR X r)(ha:PE X a ta)(hb:PE X b tb)(hs:autoParam (aG0 b) Rq9._auto_1):PE X (.Subscript a b pos) (wN r ta tb):=cC8 hr ha hb hs
theorem fY{op:CmpOp}{r:R2}(ho:kH X (compareOp op) r)(ha:PE X a ta)(hb:PE X b tb)(hm:autoParam (behindInMarks op b=false) Rq10._auto_1):PT X (.Compare a [op] [b] pos) (uA (wN r ta tb)):=nS ho ha hb hm
theorem pec{op:CmpOp}{r:R2}(ho:kH X (compareOp op) r)(ha:PE X a ta)(hb:PE X b tb)(hm:autoParam (behindInMarks op b=false) Rq10._auto_1):PE X (.Compare a [op] [b] pos) (wN r ta tb):=bH2 ho ha hb hm
theorem yV(hu:X.A.units+1<cLine)(ho:PE X a ta)(hi:PE X b tb)(hs:autoParam (bS7 b) Rq9._auto_1):PE X (.Subscript a b pos) (bC1 ta tb):=iQ hu ho hi hs
theorem pdp{tv:TE}(hu:X.A.units+1<cLine)(ho:PE X a ta)(hi:PE X b tb)(hv:PE X e tv)(hs:autoParam (swapsWith e (some (.Subscript a b pos')) pos.line X.env=pure false) Rq0._auto_1):PS X (.Assign [.Subscript a b pos'] e pos) (aX2 ta tb tv):=qK hu ho hi hv hs
theorem aP(ha:PE X a ta)(h:autoParam (starEach [a] X.env=[(false,eval a X.env)]) Rq0._auto_1):PA X [a] (iX ta tNil):=aA ha bS h
theorem pgl{v:Addr}(hm:X.mg x=some (.ref v))(hg:autoParam (Gl X x) Rq0._auto_1)(hd:autoParam ((x==("__debug__": Str))=false) Rq1._auto_1):PE X (.Name x pos) (tC (.ref v)):=fP hg hm rfl hd
end
open PySem PySem.Spec PyProof.Rows PySem.W
def Fz(a:Addr)(o:Obj):HO:= .frz o (.ext fun h=>h.get? a=some o)
theorem cI0{P:Program}{w:World}{H:Hp}{h:Heap}{a:Addr}{o:Obj}(e:h.get? a=some o):bW P w H h a (Fz a o):=⟨e,e,⟨_,e⟩,fun _ _ p k=>k _ p⟩
structure xR(H:Hp)(f:Addr)(ar:Arguments)(body:Expr)(sc:Scope)(cl:List (Str×Addr))(qual:Str)(c:Addr):Prop where
 ex:∃(pm ctv:Value) (oc:Obj) (vs:Array Value) (t:Tok),H f=some (Fz f (kla_obj "<lambda>" qual ar body sc cl pm c ctv))/\H c=some (Fz c oc)/\oc.data= .fields vs/\vs[1]?=some (.str qual t)
theorem xR.un{fs ex:List Addr}{H H':Hp}{h h':Heap}{f:Addr}{ar:Arguments}{body:Expr}{sc:Scope}{cl:List (Str×Addr)}{qual:Str}{c:Addr}(L:xR H f ar body sc cl qual c)(u:Un fs ex H H' h h'):xR H' f ar body sc cl qual c:=by
 obtain⟨pm,ctv,oc,vs,t,e1,e2,r⟩:=L.ex;exact⟨pm,ctv,oc,vs,t,u.frzs _ _ _ e1,u.frzs _ _ _ e2,r⟩
structure aC1(s:Shared)(fs:List Addr)(H:Hp)(sc:Scope)(cl:List (Str×Addr))(cv:List (Str×V)):Prop where
 inj:∀x y d,cl.lookup x=some d->cl.lookup y=some d->x=y
 at_:∀x d,cl.lookup x=some d->H d=none/\d∉fs/\∃v,s.heap.IsCell d v
 val:∀x v,(x,v)∈cv->∃d u,cl.lookup x=some d/\s.heap.IsCell d (some u)/\bC v u
 has:∀x,sc.names.lookup x=some .free->∃d,cl.lookup x=some d
structure rJ(p1 p2:Str)(cn:List Str)(sc:Scope):Prop where
 kind:sc.kind= .function
 co:sc.isCoroutine=false
 gen:sc.isGenerator=false
 ne:p1≠p2
 l1:sc.names.lookup p1=some .local
 l2:sc.names.lookup p2=some .local
 cap:∀x∈cn,sc.names.lookup x=some .free
 nocell:∀y∈sc.names,y.2≠ .cell
def xW(P:Program)(w:World)(K:W.Frag)(mg:Str->Option Value)(base:Heap)(N:List Str)(qual:Str)(scope:Scope)(f c:Addr)(cl:List (Str×Addr))(A:Around)(outer:List Env)(s:Shared)(H:Hp):Cx where
 prog:=P
 w:=w
 K:=K
 mg:=mg
 base:=base
 A:=A.deeper (envX qual scope s.heap.objs.size f (.ref c) cl)
 N:=N
 s₀:=s
 H₀:=H
 env:=envX qual scope s.heap.objs.size f (.ref c) cl
 outer:=outer
 stack:=envX qual scope s.heap.objs.size f (.ref c) cl::outer
 ex:=[]
 calm:=true
 fn:=fun _=>false
 pn:=[]
 xe:=fun _ _=>False
theorem bI4{P:Program}{w:World}{K:W.Frag}{mg:Str->Option Value}{base:Heap}{k:Nat}{A:Around}{outer:List Env}{s:Shared}{H:Hp}{f c:Addr}{ar:Arguments}{body:Expr}{sc:Scope}{cl:List (Str×Addr)}{cv:List (Str×V)}{qual p1 p2:Str}{a b:V}{us:List Value}{te:TE}{Q:VK}
  (hr:cY (k+1) A) (e0:xX P w K mg base A outer s H) (L:xR H f ar body sc cl qual c) (C:aC1 s (jH outer) H sc cl cv) (S:rJ p1 p2 (cv.map (·.1)) sc) (r:bB [a,b] us)
  (hbi:∀pm ctv u v,bindArgs (kla_fn "<lambda>" qual ar body sc cl pm (.ref c) ctv) ⟨[u,v],[]⟩=pure [(p1,u),(p2,v)])
  (h:PE (xW P w K mg base (p1::p2::cv.map (·.1)) qual sc f c cl A outer s H) body te) (q:te (some a::some b::cv.map (fun p=>some p.2)) H Q) :
  codeAny (model P w) A (.call (.ref f) ⟨us,[]⟩) (CR qL outer P w H s Q E0) s:=by
 obtain⟨u1,u2,rfl,r1,r2⟩:=nX r;obtain⟨pm,ctv,oc,vs,t,hf,hc,hd,hv⟩:=L.ex;have of:=(e0.hok _ _ hf).1;have occ:=(e0.hok _ _ hc).1;have lim:s.heap.NoLimit:=e0.mod.nolimit.keeps fun b o e=>(e0.bs b o e).1
 refine kla_callFunE hr.depth of rfl S.co S.gen rfl ⟨c,oc,vs,t,rfl,occ,hd,hv⟩ ?_;rw[hbi];refine aq (xb S.nocell (fun y hy=>?_) (fun h₁ hns hsb=>?_) S.kind)
 ·simp only[List.mem_cons,List.not_mem_nil,or_false] at hy;rcases hy with rfl|rfl
  ·exact S.l1
  ·exact S.l2
 have hk₁:∀b o,s.heap.get? b=some o->h₁.get? b=some o:=fun b o e=>hsb.extBut b o (cg (ao e)) (ac _ e)
 refine⟨lim.keeps hk₁,?_⟩;show codeAny _ _ (.expr body (envX qual sc s.heap.objs.size f (.ref c) cl)) _ _;refine kla_codeExpr (dv (h [] _ _ H Q ?_ q) (by rintro v s' ⟨x,H',J,rv,z⟩;exact⟨x,H',J.os,J.bare,J.base,J.hok,rv,z⟩) fun _ _ z=>z.elim);have noA:∀b:Addr,b∉(xW P w K mg base (p1::p2::cv.map (·.1)) qual sc f c cl A outer s H).ex:=fun b z=>absurd (show b∈([]:List Addr) from z) (by simp)
 have free:∀y,sc.names.lookup y=some .free->∃d,cl.lookup y=some d:=C.has;refine⟨⟨e0.mod,S.kind,rfl,rfl,ai _,C.inj,fun y hy=>?_,fun y d z _=>(by cases z),fun _=>hr.hd,qx e0.frames,.inr ⟨rfl,rfl⟩,fun b z=>absurd z (noA b),e0.bs,e0.bsz,fun b _ _=>noA b,fun b z=>absurd z (noA b),e0.funs,e0.frf⟩,
  rfl,e0.bare,Un.kept hk₁,⟨_,hns,fun i x v e1 e2 e3=>?_⟩,fun y d e=>?_,e0.hok.fresh (ai _),fun y d e=>(C.at_ y d e).1,fun p hp=>absurd (show p∈([]:List (Addr×Obj)) from hp) (by simp),e0.hok.kept hk₁,?_⟩
 ·have hy:sc.names.lookup y=some .cell\/sc.names.lookup y=some .free:=hy;rcases hy with hy|hy
  ·exact absurd rfl (S.nocell _ (ia hy))
  ·exact free y hy
 ·match i with
  |0 =>
   cases e1
   cases e2
   refine⟨u1,r1,.inl ⟨S.l1,?_⟩⟩;have n:(p1==p2)=false:=by simpa using S.ne
   simp[List.lookup_cons,n]
  |1 =>
   cases e1
   cases e2
   refine⟨u2,r2,.inl ⟨S.l2,?_⟩⟩;simp[List.lookup_cons]
  |i+2 =>
   have e1:(cv.map (·.1))[i]?=some x:=e1;have e2:(cv.map (fun p=>some p.2))[i]?=some (some v):=e2;rw[cm] at e1 e2
   cases g:cv[i]? with
   |none=>rw[g] at e1;cases e1
   |some p =>
    rw[g] at e1 e2
    cases e1
    cases e2
    obtain⟨d,u,l,ic,rv⟩:=C.val p.1 p.2 (bj g);exact⟨u,rv,.inr ⟨.inr (S.cap _ (iy (bj g))),d,l,ic.keeps hk₁⟩⟩
 ·obtain⟨v,ic⟩:=(C.at_ y d e).2.2;exact⟨v,ic.keeps hk₁⟩
 ·simp[xW]
section
variable {X:Cx}{i k:Nat}{x:Str}{f c:Addr}{ar:Arguments}{body:Expr}{sc:Scope}{cl:List (Str×Addr)}{cv:List (Str×V)}{qual p1 p2:Str}{p pos:Pos}{e:Expr}{es:List Expr}{t:TA}{te:TE}
theorem aC1.on{s:Shared}{σ:St}{H:Hp}{pins:List (Addr×Obj)}(C:aC1 X.s₀ X.fs X.H₀ sc cl cv)(hx:X.ex=[])(I:aQ X pins σ H s):aC1 s (jH X.stack) H sc cl cv:=by
 have kp:∀d o,X.s₀.heap.get? d=some o->X.H₀ d=none->d∉X.fs->s.heap.get? d=some o:=fun d o e n z=>I.base.keep d o e n z (by rw[hx];simp)
 have ic:∀d v,X.H₀ d=none->d∉X.fs->X.s₀.heap.IsCell d v->s.heap.IsCell d v:=fun d v n z ⟨o,e,q⟩=>⟨o,kp d o e n z,q⟩
 refine⟨C.inj,fun y d e=>?_,fun y v hm=>?_,C.has⟩
 ·obtain⟨n,z,v,hc⟩:=C.at_ y d e;have hc':=hc;obtain⟨o,g,q⟩:=hc';refine⟨I.base.free d o g n (by rw[hx];simp),fun m=>?_,v,ic d v n z hc⟩;rcases cj.mp (I.stkSub d m) with w|w
  ·have:=ao g;rw[w] at this;exact absurd this (ko.mpr I.ok.above)
  ·exact z w
 ·obtain⟨d,u,l,hc,rv⟩:=C.val y v hm;obtain⟨n,z,_⟩:=C.at_ y d l;exact⟨d,u,l,ic d _ n z hc,rv⟩
def aW5(i:Nat)(f:Addr)(cv:List (Str×V))(te:TE)(t:TA):TE:=fun σ H Q=>σ[i]?=some (some (.ref f))/\t σ H fun vs H1=>∃a b,vs=[a,b]/\te (some a::some b::cv.map (fun p=>some p.2)) H1 Q
theorem bG0{f:Addr}{o:Obj}{fd:FuncData}(hd:o.data= .func fd)(h:Heap)(e:h.get? f=some o){M:Model}:∃k,(k=Keeper.frame\/k=Keeper.machine\/k=Keeper.boundFrame)/\Looks M h (keeperOf (.ref f)) k:=by
 obtain⟨a,b,d,sl⟩:=o
 cases hd
 exact⟨.frame,.inl rfl,(Looks.ld (part:=none) e).andThen .now⟩
theorem aU1(L:xR X.H₀ f ar body sc cl qual c)(C:aC1 X.s₀ X.fs X.H₀ sc cl cv)(S:rJ p1 p2 (cv.map (·.1)) sc)(hr:cY (k+1) X.A)
  (hbi:∀pm ctv u v,bindArgs (kla_fn "<lambda>" qual ar body sc cl pm (.ref c) ctv) ⟨[u,v],[]⟩=pure [(p1,u),(p2,v)])
  (h:∀s H,PE (xW X.prog X.w X.K X.mg X.base (p1::p2::cv.map (·.1)) qual sc f c cl X.A X.stack s H) body te) (ha:PA X (e::es) t) (hi:autoParam (X.N[i]?=some x) Rq0._auto_1) (hl:autoParam (Vis X.env.scope x) Rq7._auto_1) (hx:autoParam (X.ex=[]) Rq0._auto_1)
  (hdb:autoParam ((x==("__debug__": Str))=false) Rq1._auto_1) (hcd:autoParam ((x==("__classdict__": Str))=false) Rq1._auto_1) (he:autoParam (starEach (e::es) X.env=(false,eval e X.env)::starEach es X.env) Rq0._auto_1) (hpl:autoParam ((backTo pos (starEach es X.env)).any (·.1)=false) Rq0._auto_1) :
  PE X (.Call (.Name x p) (e::es) [] pos) (aW5 i f cv te t):=by
 intro pins s σ H Q I ⟨hf,q⟩;refine eo ?_;refine dv (aZ1 (pos:=p) hi hl hdb hcd pins s σ H (fun v H'=>v= .ref f/\H'=H) I ⟨_,hf,rfl,rfl⟩) (fun uf s1 ⟨v,H1,I1,rv,e1,e2⟩=>?_) fun _ _ z=>z
 subst e1;subst e2;obtain rfl:uf=Value.ref f:=rv;obtain⟨pm,ctv,oc,vs',tq,hf0,r0⟩:=L.ex;have hh:wpAny (model X.prog X.w) X.A (spliced (backTo pos (starEach (e::es) X.env))) (fun us s2=>s2.heap.get? f=some (kla_obj "<lambda>" qual ar body sc cl pm c ctv)/\wpAny (model X.prog X.w) X.A (call (.ref f) ([]++us)) (EP X pins σ Q) X.xe s2) X.xe s1:=by
  refine cL (ha pos pins s1 σ _ _ I1 q) ?_;rintro us s2 ⟨vs,H2,I2,r,a,b,ev,z⟩
  subst ev;have L2:=L.un I2.base;have g2:H2 f=some (Fz f (kla_obj "<lambda>" qual ar body sc cl pm c ctv)):=I2.base.frzs _ _ _ hf0;refine⟨(I2.hok _ _ g2).1,?_⟩;refine qw (md (bI4 hr I2.env0 L2 (C.on hx I2) S r hbi (h s2 H2) z) fun r s' hq=>?_)
  cases r with
  |error e=>exact hq.elim
  |ok fl =>
   cases fl with
   |ret u=>exact I2.after hq
   |next=>exact False.elim hq
   |brk=>exact False.elim hq
   |cont=>exact False.elim hq
 rw[he] at hh ⊢;exact callWith_of (P:=fun h=>h.get? f=some (kla_obj "<lambda>" qual ar body sc cl pm c ctv)) (by show((false || (backTo pos (starEach es X.env)).any (·.1)) || false)=false;rw[hpl];rfl) (fun h g=>bG0 rfl h g) (PySem.Calls.evalArgs_plain hh)
end
structure aB4(base:Heap)(mg:Str->Option Value)(c P:Addr):Prop where
 hd:CodeHd base c P
 bi:∃bm o,mg "__builtins__"=some (.ref bm)/\bm≠builtinsNs/\base.get? bm=some o/\o.cls= .type "module"/\o.dict=some builtinsNs/\o.data= .plain
def nE(H:Hp)(P:Addr)(pos:Pos)(q:Str):Prop:=H P=some (.tbl #[])\/∃(c:Addr) (oc:Obj) (vs:Array Value) (t:Tok),H P=some (.tbl #[rawInt pos.line,rawInt pos.col,.ref c])/\H c=some (Fz c oc)/\oc.data= .fields vs/\vs[1]?=some (.str q t)
def gK(P:Addr)(H H':Hp):Prop:=∀a o,H a=some o->a≠P->H' a=some o
theorem gK.refl{P:Addr}{H:Hp}:gK P H H:=fun _ _ e _=>e
theorem gK.trans{P:Addr}{H H1 H2:Hp}(a:gK P H H1)(b:gK P H1 H2):gK P H H2:=fun c o e n=>b c o (a c o e n) n
theorem gK.of{P:Addr}{H H':Hp}(s:aR H H'):gK P H H':=fun a o e _=>s a o e
theorem nE.is{H:Hp}{P:Addr}{pos:Pos}{q:Str}(h:nE H P pos q):∃ps,H P=some (.tbl ps):=by
 rcases h with h|⟨_,_,_,_,h,_⟩<;>exact⟨_,h⟩
theorem nE.same{H H':Hp}{P:Addr}{pos:Pos}{q:Str}(h:nE H P pos q)(s:aR H H'):nE H' P pos q:=by
 rcases h with h|⟨c,oc,vs,t,h1,h2,r⟩
 ·exact .inl (s _ _ h)
 ·exact .inr ⟨c,oc,vs,t,s _ _ h1,s _ _ h2,r⟩
theorem gK.ts{P:Addr}{H H':Hp}{ps:Array Value}(h:gK P H H')(e:H P=some (.tbl ps)):∀(p:Addr) (xs:List V),H p=some (.tup xs)->H' p=some (.tup xs):=fun p xs z=>h p _ z (fun y=>by rw[y,e] at z;cases z)
def cM1(P:Addr)(pos:Pos)(ar:Arguments)(body:Expr)(sc:Scope)(cl:List (Str×Addr))(q:Str):TE:=fun _ H Q=>nE H P pos q /\
 ∀f c H',nE H' P pos q->gK P H H'->H f=none->xR H' f ar body sc cl q c->Q (.ref f) H'
section
variable {X:Cx}{c P:Addr}{ar:Arguments}{body:Expr}{sc:Scope}{pos:Pos}
theorem aQ3{pins:List (Addr×Obj)}{σ:St}{H:Hp}{s:Shared}{ps ps':Array Value}{news:List (Addr×Obj)}{h':Heap}{tk:Tok}(I:aQ X pins σ H s)(hP:H P=some (.tbl ps))(hx:Heap.ExtBut P s.heap h')(hps:h'.get? P=some (tabObj (ps++ps')))
  (hn:∀p∈news,s.heap.objs.size<=p.1/\h'.get? p.1=some p.2) :
  ∃H',aQ X pins σ H' { s with heap:=h',toks:=tk }/\gK P H H'/\H' P=some (.tbl (ps++ps'))/\∀p∈news,H' p.1=some (Fz p.1 p.2):=by
 have nP:∀b,H b=none->b≠P:=fun b n z=>by rw[z,hP] at n;cases n
 have fr:∀b o,H b=some o->∀p∈news,b≠p.1:=fun b o e p hp z=>by rw[z,I.hok.fresh (hn p hp).1] at e;cases e
 have ltf:∀b o,s.heap.get? b=some o->∀p∈news,b≠p.1:=fun b o e p hp z=>by
  have:=ao e;rw[z] at this;exact absurd this (ko.mpr (hn p hp).1)
 let H':Hp:=fun b=>if b=P then some (.tbl (ps++ps')) else if (news.find? (fun p=>p.1==b)).isSome then (news.find? (fun p=>p.1==b)).map (fun p=>Fz p.1 p.2) else H b
 have hP':H' P=some (.tbl (ps++ps')):=bv rfl;have old:∀b,b≠P->(∀p∈news,b≠p.1)->H' b=H b:=fun b n k=>by
  show(if b=P then _ else _)=_;rw[ay n,ay];rw[zd];rintro⟨p,hp,z⟩;exact k p hp (by simpa using Eq.symm (by simpa using z))
 have newP:∀p∈news,p.1≠P:=fun p hp z=>by
  have:=I.hok.lt hP;rw[<-z] at this;exact absurd this (ko.mpr (hn p hp).1)
 have new':∀p∈news,∃o,h'.get? p.1=some o/\H' p.1=some (Fz p.1 o)/\o=p.2:=fun p hp=>by
  have hs:(news.find? (fun q=>q.1==p.1)).isSome=true:=by
   rw[zd];exact⟨p,hp,by simp⟩
  obtain⟨q,hq⟩:=jn.mp hs;have hq1:q.1=p.1:=by simpa using List.find?_some hq
  have hq2:=List.mem_of_find?_eq_some hq;have g1:=(hn p hp).2;have g2:=(hn q hq2).2;rw[hq1,g1] at g2;have z:=di g2;refine⟨p.2,g1,?_,rfl⟩;show(if p.1=P then _ else _)=_;rw[ay (newP p hp),bv hs,hq];show some (Fz q.1 q.2)=_;rw[hq1,z]
 have off:gK P H H':=fun b o e n=>by rw[old b n (fr b o e)];exact e
 have kp:∀b o,b≠P->s.heap.get? b=some o->h'.get? b=some o:=fun b o n e=>hx b o n e
 refine⟨H',I.un ⟨fun b o e n _ _=>kp b o (nP b n) e,fun b o e n _ _=>⟨o.slots,kp b o (nP b n) e⟩,fun b o e n _=>by rw[old b (nP b n) (ltf b o e)];exact n,fun b o e _=>?_,fun b xs e=>off b _ e (fun z=>by rw[z,hP] at e;cases e),fun b o u e=>off b _ e (fun z=>by rw[z,hP] at e;cases e),fun b qs e=>?_⟩ (fun b u e=>?_),off,hP',fun p hp=>?_⟩
 ·by_cases z:b=P
  ·rw[z];exact⟨_,hps⟩
  ·exact⟨o,kp b o z e⟩
 ·by_cases z:b=P
  ·subst z;rw[hP] at e
   cases e
   exact⟨ps',hP'⟩
  ·exact⟨#[],by rw[off b _ e z];simp⟩
 ·by_cases z:b=P
  ·subst z;rw[hP'] at e
   cases e
   exact hps
  ·by_cases hm:∃p∈news,b=p.1
   ·obtain⟨p,hp,rfl⟩:=hm;obtain⟨o,g,hh,_⟩:=new' p hp;rw[hh] at e
    cases e
    exact cI0 g
   ·have e':H b=some u:=by rw[<-old b z (fun p hp w=>hm ⟨p,hp,w⟩)];exact e
    refine(I.hok b u e').stay (fun b' u' w g=>kp b' u' (fun y=>?_) g) (fun b' w=>off b' _ w (fun y=>by rw[y,hP] at w;cases w)) fun b' xs w=>off b' _ w (fun y=>by rw[y,hP] at w;cases w)
    rcases w with rfl|w
    ·exact z y
    ·rw[y,hP] at w;cases w
 ·obtain⟨o,g,hh,rfl⟩:=new' p hp;exact hh
theorem bU7(B:aB4 X.base X.mg c P)(hc:X.env.code= .ref c)(hfr:∀y∈sc.names,y.2= .free->X.env.kindOf y.1=some .cell\/X.env.kindOf y.1=some .free)(hdf:autoParam (defaultsOf ar X.env=([],[])) Rq0._auto_1) :
  PE X (.Lambda ar body sc pos) (cM1 P pos ar body sc (kI X.env sc.names) (X.env.qual++"<lambda>")):=by
 intro pins s σ H Q I ⟨hT,q⟩;have hge:=I.ok.glob;have hg:s.heap.Ns mainGlobals X.mg:=I.mod.glob.keeps I.bk;have C:CodeHd s.heap c P:=B.hd.keeps I.bk;obtain⟨ps,hP⟩:=hT.is;have oP:s.heap.get? P=some (tabObj ps):=I.hok P _ hP;have nb:∀b o,X.base.get? b=some o->b≠P:=fun b o e z=>by
  have:=(I.bs b o e).2;rw[z,hP] at this
  cases this
 obtain⟨bm,ob,b1,b2,b3,b4,b5,b6⟩:=B.bi;obtain⟨og,eg,epg,g1,g2,_⟩:=I.mod.glob;have hgP:mainGlobals≠P:=nb _ _ g1;have hbG:bm≠mainGlobals:=fun z=>by
  rw[z,g1] at b3
  cases b3
  rw[g2] at b6
  cases b6
 have HB:s.heap.BuiltinsAt X.mg P:=⟨bm,ob,b1,b2,hbG,nb _ _ b3,I.bk _ _ b3,b4,b5,b6⟩
 have hcl:closureFor sc X.env=pure (kI X.env sc.names):=mO fun y hy e=>I.ok.has y.1 (hfr y hy e)
 refine kla_eval hdf ?_;rcases hT with h0|⟨c',oc,vs,t,h0,h1,h2,h3⟩
 ·rw[h0] at hP
  cases hP
  refine kla_makeFunction (mg:=X.mg) hcl hge hg hc C oP trivial rfl hgP HB fun c' ctv h' tk hx hge' hlt hrec htb=>?_
  obtain⟨c₂,oc,vs,t,e2,hoc,hd,hv⟩:=hrec
  cases e2
  have hx2:Heap.ExtBut P s.heap (h'.push (kla_obj "<lambda>" (X.env.qual++"<lambda>") ar body sc (kI X.env sc.names) ((X.mg "__name__").getD .none) c' ctv)):=fun b o n e=>ac _ (hx b o n e)
  obtain⟨H',I',off,hP',nw⟩:=aQ3 (ps':= #[rawInt pos.line,rawInt pos.col,.ref c']) (news:=[(h'.objs.size,kla_obj "<lambda>" (X.env.qual++"<lambda>") ar body sc (kI X.env sc.names) ((X.mg "__name__").getD .none) c' ctv),(c',oc)]) (tk:=tk) I h0 hx2 (ac _ htb) (fun p hp=>by
   simp only[List.mem_cons,List.not_mem_nil,or_false] at hp;rcases hp with rfl|rfl
   ·exact⟨db hge' (cu hlt),bc _ rfl⟩
   ·exact⟨hge',ac _ hoc⟩)
  have n1:=nw _ az;have n2:=nw _ (av _ az);refine⟨.ref h'.objs.size,H',I',rfl,q _ c' H' (.inr ⟨c',oc,vs,t,?_,n2,hd,hv⟩) off (I.hok.fresh (db hge' (cu hlt))) ⟨_,ctv,oc,vs,t,n1,n2,hd,hv⟩⟩;rw[hP'];simp
 ·rw[h0] at hP
  cases hP
  refine kla_makeFunctionHit (mg:=X.mg) hcl hge hg hc C oP trivial (cv:= .ref c') ?_ HB fun ctv h' tk hk hsz=>?_
  ·simp[codeAmong,rawInt]
  have hx2:Heap.ExtBut P s.heap (h'.push (kla_obj "<lambda>" (X.env.qual++"<lambda>") ar body sc (kI X.env sc.names) ((X.mg "__name__").getD .none) c' ctv)):=fun b o n e=>ac _ (hk b o e)
  obtain⟨H',I',off,hP',nw⟩:=aQ3 (ps':= #[]) (news:=[(h'.objs.size,kla_obj "<lambda>" (X.env.qual++"<lambda>") ar body sc (kI X.env sc.names) ((X.mg "__name__").getD .none) c' ctv)]) (tk:=tk) I h0 hx2 (ac _ (by rw[yk];exact hk _ _ oP)) (fun p hp=>by
   simp only[List.mem_cons,List.not_mem_nil,or_false] at hp
   cases hp
   exact⟨hsz,bc _ rfl⟩)
  have n1:=nw _ az;have nc:c'≠P:=fun z=>by rw[z,h0] at h1;cases h1
  have n2:=off _ _ h1 nc;refine⟨.ref h'.objs.size,H',I',rfl,q _ c' H' (.inr ⟨c',oc,vs,t,?_,n2,h2,h3⟩) off (I.hok.fresh hsz) ⟨_,ctv,oc,vs,t,n1,n2,h2,h3⟩⟩;rw[hP',yk]
end
section
variable {P:Program}{w:World}{K:W.Frag}{mg:Str->Option Value}{base:Heap}
structure wO(P:Program)(w:World)(K:W.Frag)(mg:Str->Option Value)(base:Heap)(k:Nat) where
 ar:Arguments
 body:Expr
 sc:Scope
 p1:Str
 p2:Str
 cn:List Str
 te:TE
 S:rJ p1 p2 cn sc
 hb:∀(qual:Str) (cl:List (Str×Addr)) (pm ctv:Value) (c:Addr) (u v:Value),bindArgs (kla_fn "<lambda>" qual ar body sc cl pm (.ref c) ctv) ⟨[u,v],[]⟩=pure [(p1,u),(p2,v)]
 h:∀(qual:Str) (f c:Addr) (cl:List (Str×Addr)) (A:Around) (outer:List Env) (s:Shared) (H:Hp),cY k (A.deeper (envX qual sc s.heap.objs.size f (.ref c) cl))->PE (xW P w K mg base (p1::p2::cn) qual sc f c cl A outer s H) body te
def aE8{k:Nat}(Λ:wO P w K mg base k)(cv:List V)(s:Shared)(fs:List Addr)(H:Hp)(f:Addr):Prop:=
 ∃(cl:List (Str×Addr)) (qual:Str) (c:Addr) (cw:List (Str×V)),xR H f Λ.ar Λ.body Λ.sc cl qual c/\aC1 s fs H Λ.sc cl cw/\cw.map (·.1)=Λ.cn/\cw.map (·.2)=cv
structure bN8(P:Program)(w:World)(K:W.Frag)(mg:Str->Option Value)(base:Heap)(k:Nat)(f:Addr)(fd:FuncData)(ps:List Str)(Z:Shared->List Addr->Hp->Addr->Prop)(sp:Sp):Prop where
 len:∀vs H Q E,sp vs H Q E->vs.length=ps.length
 run:∀(A:Around) (outer:List Env) (s:Shared) (H:Hp) (args:Args) (us:List Value) (vs:List V) (g:Addr) (Q:VK) (E:XK),cY k A->xX P w K mg base A outer s H->BindsTo s fd args (ps.zip us)->bB vs us->vs[1]?=some (.ref g)->Z s (jH outer) H g->sp vs H Q E ->
  codeAny (model P w) A (.call (.ref f) args) (CR qL outer P w H s Q E) s
def bR0(P:Program)(w:World)(K:W.Frag)(mg:Str->Option Value)(base:Heap)(x q:Str)(st:Stmt)(n k:Nat)(ps:List Str)(sp:TE->List V->Sp):Prop:=
 ∀{f:Addr}{d:FuncData},oI K x q st f d->∀(Λ:wO P w K mg base k) (cv:List V),bN8 P w K mg base n f d ps (aE8 Λ cv) (sp Λ.te cv)
theorem cM3{x q:Str}{st:Stmt}{k j:Nat}{ps:List Str}{sp:TE->List V->Sp}(N:List Str)
  (hb:∀{f:Addr}{cdv:Value}{A:Around}{outer:List Env}{s:Shared}{vs:List V}{g:Addr}{E:XK}(Λ:wO P w K mg base j) (cv:List V) (H:Hp) (Q:VK),N.Nodup->cY k (A.deeper (envOfC q (aK st) s.heap.objs.size f cdv))->vs[1]?=some (.ref g)->aE8 Λ cv s (jH outer) H g->sp Λ.te cv vs H Q E ->
   ∃t,pS (kG qL P w K mg base N q (aK st) f cdv A outer s H E).nox (bF st) t/\t { nx:=fun _ H'=>Q .non H',rt:=Q } (eT N vs) H)
  (len:∀te cv vs H Q E,sp te cv vs H Q E->vs.length=ps.length)
  (S:autoParam (eM N ps (aK st)) Rq6._auto_1):bR0 P w K mg base x q st (k+1) j ps sp:=by
 intro f d F Λ cv;obtain⟨oc,od,kV,doc,pm,an,cdv,ct,osl,rfl,lk,hcd⟩:=F.ex;refine⟨len _ _,fun A outer s H args us vs g Q E hr e0 hb' r hg hz hsp=>?_⟩;have hl:=len _ _ _ _ _ _ hsp;have KX:K.In s.heap:=e0.mod.kin.keeps fun b o e=>(e0.bs b o e).1
 have lim:s.heap.NoLimit:=e0.mod.nolimit.keeps fun b o e=>(e0.bs b o e).1
 have hkind:∀y∈ps.zip us,(aK st).names.lookup y.1=some .local\/((aK st).names.lookup y.1=some .cell/\((cellsFrom (s.heap.objs.size+1) (aK st).names []).lookup y.1).isSome=true):=fun⟨n,v⟩ hy=>by
  rcases S.par n (jw hy).1 with q|q
  ·exact .inl q
  ·exact .inr ⟨q,vb _ _ _ (.inl q)⟩
 refine mf hr.depth (KX _ _ lk) rfl S.co S.gen rfl (ym KX hcd) (hb' _ _ _ _ ?_);refine kg S.kind hkind fun env he s1 x=>?_
 subst he;refine⟨lim.keeps x.toInCall.keep,uo ?_⟩;obtain⟨t,ht,hq⟩:=hb Λ cv H Q S.nd (hr.deeper _) hg hz hsp;have I:aQ (kG qL P w K mg base N q (aK st) f cdv A outer s H E) [] (eT N vs) H s1:=lQ S hr.hd e0 hl r x;refine dv (ht.nox [] s1 (eT N vs) H _ I hq) (fun fl s' hs=>?_) fun e s' hs=>hs
 have fin:∀{σ':St}{H':Hp}{v:V}{u:Value},aQ (kG qL P w K mg base N q (aK st) f cdv A outer s H E) [] σ' H' s'->bC v u->Q v H'->CE outer P w H s Q u s':=
  fun {σ' H' v u} J rv q=>⟨v,H',J.os,J.bare,J.base,J.hok,rv,q⟩
 cases fl with
 |ret u =>
  obtain⟨v,σ',H',J,rv,q⟩:=hs;exact fin J rv q
 |next =>
  obtain⟨σ',H',J,q⟩:=hs;exact fin (v:=V.non) (u:=Value.none) J rfl q
 |brk =>
  obtain⟨_,_,_,q⟩:=hs;exact False.elim q
 |cont =>
  obtain⟨_,_,_,q⟩:=hs;exact False.elim q
def ClZ(P:Program)(w:World)(K:W.Frag)(mg:Str->Option Value)(base:Heap)(n k:Nat)(sp:TE->List V->Sp)(x:Str):Prop:=∃f d ps,(∀(Λ:wO P w K mg base k) (cv:List V),bN8 P w K mg base n f d ps (aE8 Λ cv) (sp Λ.te cv))/\gJ K d ps []/\W.keepIn K (.ref f)=true/\mg x=some (.ref f)
theorem Zx.z2{x p1 p2:Str}{st:Stmt}{n k:Nat}{sp:TE->List V->Sp}(Z:Zx P w K mg base)(t:TopAt K x st)(ok:bR0 P w K mg base x x st n k [p1,p2] sp)(h:autoParam (∀(kV doc pm:Value) (an:Option Addr) (cdv ct u1 u2:Value),bindArgs (W.fnOf x x (bO st) (bF st) (aK st) .none kV doc pm an cdv ct) ⟨[u1,u2],[]⟩=pure [(p1,u1),(p2,u2)]) Rq3._auto_1):ClZ P w K mg base n k sp x:=by
 obtain⟨_,a,t⟩:=t;obtain⟨_,F⟩:=t.fn;exact⟨_,_,_,ok F,F.b2 h,F.kp,Z.ns _ _ a⟩
def TopAtT(K:W.Frag)(x:Str)(st:Stmt)(c:Addr):Prop:=∃f oc od kV dc pm an ct sl,W.nsIn K mainGlobals x=some (some (.ref f))/\K.lookup f=some ⟨oc,od,.func (W.fnOf x x (bO st) (bF st) (aK st) .none kV dc pm an (.ref c) ct),sl⟩/\W.codeIn K (.ref c) x=true/\W.keepIn K (.ref f)=true
theorem TopAtT.of{x:Str}{st:Stmt}{f c:Addr}{oc:Value}{od:Option Addr}{kV dc pm:Value}{an:Option Addr}{ct:Value}{sl:Array (Option Value)}(a:W.nsIn K mainGlobals x=some (some (.ref f)))(l:K.lookup f=some ⟨oc,od,.func (W.fnOf x x (bO st) (bF st) (aK st) .none kV dc pm an (.ref c) ct),sl⟩)(c':W.codeIn K (.ref c) x=true)(k:W.keepIn K (.ref f)=true):TopAtT K x st c:=⟨f,oc,od,kV,dc,pm,an,ct,sl,a,l,c',k⟩
end
section
variable {X:Cx}{x:Str}{p pos:Pos}{e:Expr}{es:List Expr}{t:TA}
theorem aQ.lamC{s:Shared}{σ:St}{H:Hp}{pins:List (Addr×Obj)}{sc:Scope}{cw:List (Str×V)}(I:aQ X pins σ H s)(hfn:X.fn=fun _=>true)(hfr:∀y∈sc.names,y.2= .free->X.env.kindOf y.1=some .cell)(hcap:∀y∈cw,sc.names.lookup y.1=some .free)
  (hv:∀y∈cw,∃j:Nat,X.N[j]?=some y.1/\σ[j]?=some (some y.2)):aC1 s (jH X.stack) H sc (kI X.env sc.names) cw:=by
 have hs:∀y∈sc.names,y.2= .free->∃c,X.env.cells.lookup y.1=some c:=fun y hy e=>I.ok.has y.1 (.inl (hfr y hy e))
 have g:∀z d,(kI X.env sc.names).lookup z=some d->X.env.cells.lookup z=some d:=fun z d h=>by
  rcases aB7 sc.names [] hs h with q|q
  ·exact absurd q (by simp)
  ·exact q
 refine⟨fun a b d h1 h2=>I.ok.inj a b d (g _ _ h1) (g _ _ h2),fun a d h=>⟨I.freeC a d (g _ _ h),fun m=>?_,I.cell a d (g _ _ h)⟩,fun a v hm=>?_,fun a h=>qR sc.names [] (.inl (ia h))⟩
 ·rcases cj.mp (I.stkSub d m) with z|z
  ·exact I.cne a d (g _ _ h) z
  ·obtain⟨_,o,ho,_⟩:=I.ok.funs.mem z;exact absurd (ao ho) (ko.mpr (I.ok.cab a d (by rw[hfn]) (g _ _ h)))
 ·have hf:=hcap _ hm;obtain⟨j,h1,h2⟩:=hv _ hm;have hm':=ia hf;have hk:=hfr _ hm' rfl;obtain⟨m,_,hl⟩:=I.loc;obtain⟨u,r,l⟩:=hl j a v h1 h2 (.inr (.inl hk));obtain⟨d,hd⟩:=qR (env:=X.env) (x:=a) sc.names [] (.inl hm');have hd2:=g _ _ hd;rcases l with⟨k,_⟩|⟨_,c,e,ic⟩
  ·have:=hk.symm.trans k
   cases this
  ·rw[hd2] at e
   cases e
   exact⟨d,u,hd,ic,r⟩
def bZ4{P:Program}{w:World}{K:W.Frag}{mg:Str->Option Value}{base:Heap}{k:Nat}(N:List Str)(cl:List (Str×Addr))(Λ:wO P w K mg base k)(sp:TE->List V->Sp)(t:TA):TE:=fun σ H Q=>t σ H fun vs H1=>∃(f c:Addr) (q:Str) (cw:List (Str×V)),vs[1]?=some (.ref f)/\xR H1 f Λ.ar Λ.body Λ.sc cl q c/\cw.map (·.1)=Λ.cn/\(∀y∈cw,∃j:Nat,N[j]?=some y.1/\σ[j]?=some (some y.2))/\sp Λ.te (cw.map (·.2)) vs H1 Q E0
theorem cM2{k j n:Nat}{sp:TE->List V->Sp}(C:ClZ X.prog X.w X.K X.mg X.base k j sp x)(Λ:wO X.prog X.w X.K X.mg X.base j)(hr:cY n X.A)(ha:PA X (e::es) t)(hfr:∀y∈Λ.sc.names,y.2= .free->X.env.kindOf y.1=some .cell)(hfn:autoParam (X.fn=(fun _=>true)) Rq0._auto_1)(hn:autoParam (k<=n) Rq5._auto_1)(hg:autoParam (Gl X x) Rq0._auto_1)(hdb:autoParam ((x==("__debug__": Str))=false) Rq1._auto_1)
  (he:autoParam (starEach (e::es) X.env=(false,eval e X.env)::starEach es X.env) Rq0._auto_1) (hpl:autoParam ((backTo pos (starEach es X.env)).any (·.1)=false) Rq0._auto_1) :
  PE X (.Call (.Name x p) (e::es) [] pos) (bZ4 X.N (kI X.env Λ.sc.names) Λ sp t):=by
 intro pins s σ H Q I h;obtain⟨f,d,ps,F,b,kp,m⟩:=C;refine eo (nA I hg m ?_ hdb);refine W.callWith_K (h₀:=X.base) I.ok.mod.kin kp (cL (ha pos pins s σ H _ I h) ?_) he hpl;rintro us s1 ⟨vs,H1,I1,r,g,c,q,cw,h1,h2,h3,h4,h5⟩;refine⟨I1.kIn,?_⟩;have hl:(us++[]).length=ps.length:=by rw[gv, <-r.length];exact(F Λ _).len _ _ _ _ h5
 have bd:=b s1 us I1.kIn hl;rw[gv] at bd;have hcap:∀y∈cw,Λ.sc.names.lookup y.1=some .free:=fun y hy=>Λ.S.cap _ (by rw[<-h3];exact iy hy)
 refine qw (md ((F Λ _).run X.A X.stack s1 H1 ⟨us,[]⟩ us vs g Q E0 (hr.mono hn) I1.env0 bd r h1 ⟨_,q,c,cw,h2,I1.lamC hfn hfr hcap h4,h3,rfl⟩ h5) fun r s' hq=>?_)
 cases r with
 |error e=>exact hq.elim
 |ok fl =>
  cases fl with
  |ret u=>exact I1.after hq
  |next=>exact False.elim hq
  |brk=>exact False.elim hq
  |cont=>exact False.elim hq
theorem cG8{k j:Nat}{i:Nat}{f:Addr}{cv:List V}(Λ:wO X.prog X.w X.K X.mg X.base j)(L:aE8 Λ cv X.s₀ X.fs X.H₀ f)(hr:cY (k+1) X.A)(ha:PA X (e::es) t)(hj:autoParam (j<=k) Rq5._auto_1)(hi:autoParam (X.N[i]?=some x) Rq0._auto_1)(hl:autoParam (Vis X.env.scope x) Rq7._auto_1)(hx:autoParam (X.ex=[]) Rq0._auto_1)
  (hdb:autoParam ((x==("__debug__": Str))=false) Rq1._auto_1) (hcd:autoParam ((x==("__classdict__": Str))=false) Rq1._auto_1) (he:autoParam (starEach (e::es) X.env=(false,eval e X.env)::starEach es X.env) Rq0._auto_1) (hpl:autoParam ((backTo pos (starEach es X.env)).any (·.1)=false) Rq0._auto_1) :
  PE X (.Call (.Name x p) (e::es) [] pos) (fun σ H Q=>σ[i]?=some (some (.ref f))/\t σ H fun vs H1=>∃a b,vs=[a,b]/\Λ.te (some a::some b::cv.map some) H1 Q):=by
 obtain⟨cl,qual,c,cw,l1,l2,l3,l4⟩:=L;have hm:∀l:List (Str×V),l.map (fun p=>some p.2)=(l.map (·.2)).map some:=fun l=>by simp
 have:=aU1 (p:=p) (pos:=pos) (te:=Λ.te) (t:=t) (i:=i) (x:=x) (e:=e) (es:=es) l1 l2 (by rw[l3];exact Λ.S) hr (fun pm ctv u v=>Λ.hb qual cl pm ctv c u v) (fun s H=>by rw[l3];exact Λ.h qual f c cl X.A X.stack s H ((hr.deeper _).mono hj)) ha hi hl hx hdb hcd he hpl;unfold aW5 at this;rw[hm,l4] at this;exact this
end
def aO1(Ps:List Addr)(H:Hp):Prop:=(∀P∈Ps,H P=some (.tbl #[]))/\∀b,H b=none\/(∃o xs,H b=some (.frz o (.lst xs)))\/b∈Ps
theorem aK6{P:Program}{w:World}{K:W.Frag}{mg mb:Str->Option Value}{CX:CXT}{k:Nat}{fa a:Addr}{fd:FuncData}{x:Str}{sp:Sp}{s₁:Shared}{vs:List Value}{ns:List Int}{ts:List (Addr×Addr)}
  (KX:K.In s₁.heap) (hT:∀q∈ts,CodeHd s₁.heap q.1 q.2/\s₁.heap.get? q.2=some (tabObj #[])) (hK:noTabs K=true) (hns:s₁.heap.Ns mainGlobals mg) (hb:s₁.heap.Ns builtinsNs mb) (hbb:∀x:Str,x≠"__name__"->mb x=bootBuiltins x) (hlim:s₁.heap.NoLimit)
  (hbm:∃bm o,mg "__builtins__"=some (.ref bm)/\bm≠builtinsNs/\s₁.heap.get? bm=some o/\o.cls= .type "module"/\o.dict=some builtinsNs/\o.data= .plain) (hg:s₁.gens= #[])
  (ha:s₁.heap.get? a=some { cls:= .type "list",data:= .seq vs.toArray }) (hi:IntsAre vs ns) (hl:ns.length<=sizeLine) (hr:cY k callerA)
  (F:∀base:Heap,K.In base->base.Ns mainGlobals mg->(∀q∈ts,aB4 base mg q.1 q.2)->mI P w K mg base CX k fa fd [x] sp) (hbind:∀(s:Shared) (u:Value),BindsTo s fd ⟨[u],[]⟩ [(x,u)])
  (hsp:∀H:Hp,aO1 (ts.map (·.2)) H->bG K H a (ns.map V.int)->sp [.ref a] H (fun v _=>v= .bl true) fun _ _ _=>False)
  (hCX:∀H e s',CX [] H s₁ (fun _ _ _=>False) e s'->False) :
  codeAny (model P w) callerA (.call (.ref fa) ⟨[.ref a],[]⟩) (fun r s'=>r= .ok (.ret (.bool true))/\OldK s₁.heap s'.heap/\s'.os=s₁.os/\AllBare s'.gens) s₁:=by
 have rv:=tJ hi;have lenV:=hi.length;have aT:a∉ts.map (·.2):=fun hm=>by
  obtain⟨q,hq,e⟩:=fj.mp hm;have:=(hT q hq).2;rw[e,ha] at this
  cases this
 have core:∀H:Hp,aO1 (ts.map (·.2)) H->bG K H a (ns.map V.int)->kA P w H s₁.heap->(∀b,H b≠none->b=a\/b∈ts.map (·.2))->(H a≠none->K.lookup a=none) ->
   codeAny (model P w) callerA (.call (.ref fa) ⟨[.ref a],[]⟩) (fun r s'=>r= .ok (.ret (.bool true))/\OldK s₁.heap s'.heap/\s'.os=s₁.os/\AllBare s'.gens) s₁:=by
  intro H hO hS hok hA hKa;have base_of:∀{b:Addr}{o:Obj},s₁.heap.get? b=some o->H b=none->(sY s₁.heap H).get? b=some o:=fun e n=>bB9 e n
  have noT:∀{b:Addr}{o:Obj},s₁.heap.get? b=some o->o≠tabObj #[]->b≠a->H b=none:=fun {b o} e d n=>by
   cases q:H b with
   |none=>rfl
   |some u =>
    rcases hA b (by rw[q];simp) with e'|e'
    ·exact absurd e' n
    ·obtain⟨q',hq',e2⟩:=fj.mp e';have:=(hT q' hq').2;rw[e2,e] at this
     cases this
     exact absurd rfl d
  have noA:∀{b:Addr}{o:Obj}{es:Array DictEntry}{ep:Nat},s₁.heap.get? b=some o->o.data= .dict es ep->H b=none:=fun {b o es ep} e d =>
   noT e (fun z=>by rw[z] at d;cases d) fun z=>by
    subst z;rw[ha] at e;cases e;have d':Data.seq vs.toArray _=Data.dict es ep:=d
    cases d'
  have nsK:∀{b:Addr}{m:Str->Option Value},s₁.heap.Ns b m->(sY s₁.heap H).Ns b m:=fun {b m} ⟨o,es,ep,e,d,r⟩=>⟨o,es,ep,base_of e (noA e d),d,r⟩
  have hKb:K.In (sY s₁.heap H):=fun b o e=>base_of (KX b o e) (by
   by_cases n:b=a
   ·subst n
    cases q:H b with
    |none=>rfl
    |some u=>rw[hKa (by rw[q];simp)] at e;cases e
   ·refine noT (KX b o e) (fun z=>?_) n;have h2:=na.mp hK (b,o) (mem_of_lookupK e);subst z;exact absurd (show false=true from h2) bt)
  have hM:Mod K mg (sY s₁.heap H):=⟨hKb,nsK hns,⟨mb,nsK hb,hbb⟩,let⟨mc,h1,h2⟩:=hlim;⟨mc,nsK h1,h2⟩⟩
  have hB:∀q∈ts,aB4 (sY s₁.heap H) mg q.1 q.2:=fun q hq=>by
   obtain⟨o,vs',file,tf,flags,tg,inF,text,tt,e1,r1,r2,r3,r4,r5,r6,r7,r8,hne⟩:=(hT q hq).1;obtain⟨bm,ob,b1,b2,b3,b4,b5,b6⟩:=hbm;refine⟨⟨o,vs',file,tf,flags,tg,inF,text,tt,base_of e1 (noT e1 (fun z=>by rw[z] at r1;cases r1) fun z=>by rw[z,ha] at e1;cases e1;injection r1 with z;exact absurd z (by decide)),r1,r2,r3,r4,r5,r6,r7,r8,hne⟩,⟨bm,ob,b1,b2,base_of b3 (noT b3 (fun z=>by rw[z] at b4;cases b4) fun z=>by rw[z,ha] at b3;cases b3;injection b4 with z;exact absurd z (by decide)),b4,b5,b6⟩⟩
  have e0:xX P w K mg (sY s₁.heap H) callerA [] s₁ H:=⟨rfl,hM,fun b o e=>bK9 e,yf (aJ1 _ _),trivial,fun b hb=>absurd (show b∈([]:List Addr) from hb) (by simp),hok,.of_eq hg⟩
  refine md ((F _ hKb (nsK hns) hB).run callerA [] s₁ H ⟨[.ref a],[]⟩ [.ref a] [.ref a] _ _ hr e0 (hbind s₁ (.ref a)) (.cons rfl .nil) (hsp H hO hS)) fun r s' h=>?_
  cases r with
  |error e=>exact(hCX H e s' h).elim
  |ok fl =>
   cases fl with
   |next=>exact False.elim h
   |brk=>exact False.elim h
   |cont=>exact False.elim h
   |ret u =>
    obtain⟨v,H',os,bare,un,hok',r',q⟩:=h;have q':v= .bl true:=q;subst q';obtain rfl:u=Value.bool true:=r';have keep:∀b o,b∉ts.map (·.2)->s₁.heap.get? b=some o->s'.heap.get? b=some o:=fun b o hb e=>by
     cases q:H b with
     |none=>exact un.keep b o e q (by intro z;exact absurd (show b∈([]:List Addr) from z) (by simp)) (by simp)
     |some u =>
      rcases hO.2 b with z|⟨ob,xs,z⟩|z
      ·rw[q] at z;cases z
      ·have z2:=un.frzs b ob _ z;obtain⟨e1,_⟩:=hok b _ z;obtain⟨e2,_⟩:=hok' b _ z2;rw[e] at e1;cases e1;exact e2
      ·exact absurd z hb
    have grown:∀b o,b∈ts.map (·.2)->s₁.heap.get? b=some o->isCodeTable s₁.heap b/\o=tabObj #[]/\∃ps,s'.heap.get? b=some (tabObj ps):=fun b o hb e=>by
     obtain⟨q,hq,rfl⟩:=fj.mp hb;have e2:=(hT q hq).2;rw[e] at e2;obtain⟨more,e3⟩:=un.tbls _ _ (hO.1 _ hb);exact⟨((hT q hq).1.tab (hT q hq).2).isCodeTable,di e2,_,hok' _ _ e3⟩
    refine⟨rfl,⟨fun b o e=>?_,fun b o e=>?_⟩,os,bare⟩
    ·by_cases hb:b∈ts.map (·.2)
     ·obtain⟨ht,rfl,ps,hP⟩:=grown b o hb e;exact .inr (.inl ⟨ht,rfl, #[],ps,rfl,by rw[Array.empty_append];exact hP⟩)
     ·exact .inl (keep b o hb e)
    ·by_cases hb:b∈ts.map (·.2)
     ·obtain⟨_,_,ps,hP⟩:=grown b o hb e;exact⟨_,hP⟩
     ·exact⟨o,keep b o hb e⟩
 have tabOk:∀(H:Hp) b,b∈ts.map (·.2)->bW P w H s₁.heap b (.tbl #[]):=fun H b hb=>by
  obtain⟨q,hq,rfl⟩:=fj.mp hb;exact(hT q hq).2
 cases hk:K.lookup a with
 |some o =>
  have e:=KX a o hk;rw[ha] at e
  cases e
  refine core (fun b=>if b∈ts.map (·.2) then some (.tbl #[]) else none) ⟨fun b hb=>bv hb,fun b=>?_⟩ (.inr ⟨_,vs.toArray,_,hk,rfl,rfl,rfl,by rw[br,lenV];exact hl,by simpa using rv⟩) (fun b u z=>?_) (fun b z=>?_) fun z=>absurd (ay aT) z
  ·by_cases hb:b∈ts.map (·.2)
   ·exact .inr (.inr hb)
   ·exact .inl (ay hb)
  ·by_cases hb:b∈ts.map (·.2)
   ·have z':=(bv hb).symm.trans z
    cases z'
    exact tabOk _ b hb
   ·have z':=(ay hb).symm.trans z
    cases z'
  ·by_cases hb:b∈ts.map (·.2)
   ·exact .inr hb
   ·exact absurd (ay hb) z
 |none =>
  refine core (fun b=>if b∈ts.map (·.2) then some (.tbl #[]) else if b=a then some (.frz { cls:= .type "list",data:= .seq vs.toArray } (.lst (ns.map V.int))) else none) ⟨fun b hb=>bv hb,fun b=>?_⟩ (.inl (.inr ⟨{ cls:= .type "list",data:= .seq vs.toArray },(ay aT).trans (bv rfl)⟩)) (fun b u z=>?_) (fun b z=>?_) fun _=>hk
  ·by_cases hb:b∈ts.map (·.2)
   ·exact .inr (.inr hb)
   ·by_cases hb2:b=a
    ·exact .inr (.inl ⟨_,_,(ay hb).trans (bv hb2)⟩)
    ·exact .inl ((ay hb).trans (ay hb2))
  ·by_cases hb:b∈ts.map (·.2)
   ·have z':=(bv hb).symm.trans z
    cases z'
    exact tabOk _ b hb
   ·have z:=(ay hb).symm.trans z
    by_cases hb2:b=a
    ·have z':=(bv hb2).symm.trans z
     cases z'
     subst hb2;exact⟨ha,by rw[ae];exact hl,vs,_,rv,ha⟩
    ·have z':=(ay hb2).symm.trans z
     cases z'
  ·by_cases hb:b∈ts.map (·.2)
   ·exact .inr hb
   ·by_cases hb2:b=a
    ·exact .inl hb2
    ·exact absurd ((ay hb).trans (ay hb2)) z
theorem walkT_of{l:W.OpenLaw}{n k:Nat}{q:Program}{loose:List Str}{XP:(Str->Option Value)->Heap->Prop}{YP:World->Heap->Prop}{d:DefRec}{K:Params->W.Frag}{sp:World->Sp}{x:Str}{ts:List (Addr×Addr)}
  (hn:l.most=some n) (hn2:n<=sizeLine) (hdf:d.params.defaults=[]) (hr:cY k callerA)
  (hY:∀(w:World) (h:Heap),YP w h->(K w.params).In h/\∀P∈ts.map (·.2),h.get? P=some (tabObj #[]))
  (hK:∀w:World,noTabs (K w.params)=true) (hH:∀(w:World) (q),q∈ts->codeHdIn (K w.params) q.1 q.2=true)
  (F:∀(w:World) (mg:Str->Option Value) (fa:Addr) (h:Heap),(K w.params).In h->h.Ns mainGlobals mg->mg d.name=some (.ref fa) ->
   ∃fd:FuncData,(∀(s:Shared) (u:Value),BindsTo s fd ⟨[u],[]⟩ [(x,u)]) /\
    ∀base:Heap,(K w.params).In base->base.Ns mainGlobals mg->(∀q∈ts,aB4 base mg q.1 q.2)->mI l.prog w (K w.params) mg base qL k fa fd [x] (sp w))
  (hsp:∀(w:World) (H:Hp) (a:Addr) (ns:List Int),ns.length<=n->aO1 (ts.map (·.2)) H->bG (K w.params) H a (ns.map V.int)->sp w [.ref a] H (fun v _=>v= .bl true) fun _ _ _=>False) :
  W.WalkO q loose XP YP l.row.toRowW d [] (fun f vs=>PySem.call f vs):=by
 refine Att.attach_call hn hdf fun w s₀ s₁ mg mb fa o pm cd doc a vs ns G Y ho hd hcd hmg hobj hints hlen hg=>?_
 obtain⟨KX,Y2⟩:=hY w _ Y;obtain⟨fd,hb,hF⟩:=F w mg fa _ KX G.T.g hmg;obtain⟨bm,ob,a1,a2,a3,a4,a5,a6⟩:=G.T.bmain;exact aK6 KX (fun q hq=>⟨codeHd_of_K KX (hH w q hq),Y2 _ (iy hq)⟩) (hK w) G.T.g G.T.b G.T.builtins G.T.nolimit ⟨bm,ob,a1,a2,a3,a4,a5,a6⟩ hg hobj hints (db hlen hn2) hr hF hb (fun H hO hS=>hsp w H a ns hlen hO hS) fun H e s' z=>z
end L2
namespace Mine
open PySem L2
section
variable (Chg:Nat->Rw->List Rw->Prop)
mutual
def Reb(k:Nat):Rw->List Rw->Prop
 |.when _ _ _ t a b,o=>∃p pa pb a' b',aD0 (k+1) a a'/\aD0 (k+1+aZ a) b b'/\Chg k (.when p pa pb t a' b') o
 |.times _ _ n b,o=>∃p pb b',aD0 (k+1) b b'/\Chg k (.times p pb n b') o
 |.thr p w x us am,o=>Chg k (.thr p w x us am) o
 |.lt p x t,o=>Chg k (.lt p x t) o
 |.tell p t,o=>Chg k (.tell p t) o
def aD0(k:Nat):List Rw->List Rw->Prop
 |[],o=>o=[]
 |r::rs,o=>∃o1 o2,Reb k r o1/\aD0 (k+r.cnt) rs o2/\o=o1++o2
end
abbrev BSt:=List (List Rw)
def cA4(r:Rw)(k:Nat)(c d:BSt):Prop:=match r with
 |.when _ _ _ t _ _=>∃B2 B1 B st p pa pb o,c=B2::B1::B::st/\Chg k (.when p pa pb t B1 B2) o/\d=(B++o)::st
 |.times _ _ n _=>∃B1 B st p pb o,c=B1::B::st/\Chg k (.times p pb n B1) o/\d=(B++o)::st
 |.thr _ _ _ _ _=>False
 |.lt _ _ _=>False
 |.tell _ _=>False
def fQ(s:Stp)(c d:BSt):Prop:=
 if fF s=true then d=[]::c
 else if s.1="row" then ∃B st o,c=B::st/\Chg s.2.2 s.2.1 o/\d=(B++o)::st
 else cA4 Chg s.2.1 s.2.2 c d
def gP:List Stp->BSt->BSt->Prop
 |[],c,d=>c=d
 |s::l,c,d=>∃e,fQ Chg s c e/\gP l e d
variable {Chg}
theorem gP.app:∀{l m:List Stp}{c d:BSt},gP Chg (l++m) c d->∃e,gP Chg l c e/\gP Chg m e d
 |[],_,c,_,h=>⟨c,rfl,h⟩
 |_::_,_,_,_,⟨e,h,k⟩=>let⟨g,a,b⟩:=gP.app k;⟨g,⟨e,h,a⟩,b⟩
theorem gP.snoc{s:Stp}{e:BSt}:∀{l:List Stp}{c d:BSt},gP Chg l c d->fQ Chg s d e->gP Chg (l++[s]) c e
 |[],c,d,h,k=>⟨e,by rw[show c=d from h];exact k,rfl⟩
 |_::_,_,_,⟨g,h,k⟩,j=>⟨g,h,gP.snoc k j⟩
theorem fQ.mono{Chg':Nat->Rw->List Rw->Prop}(h:∀n r o,Chg n r o->Chg' n r o){s:Stp}{c d:BSt}(k:fQ Chg s c d):fQ Chg' s c d:=by
 unfold fQ at k ⊢
 split at k
 ·rw[bv ‹_›];exact k
 ·rw[ay ‹_›]
  split at k
  ·rw[bv ‹_›];obtain⟨B,st,o,e,q,f⟩:=k;exact⟨B,st,o,e,h _ _ _ q,f⟩
  ·rw[ay ‹_›]
   cases hr:s.2.1 with
   |when p pa pb t a b =>
    rw[hr] at k;obtain⟨B2,B1,B,st,p',pa',pb',o,e,q,f⟩:=k;exact⟨B2,B1,B,st,p',pa',pb',o,e,h _ _ _ q,f⟩
   |times p pb n b =>
    rw[hr] at k;obtain⟨B1,B,st,p',pb',o,e,q,f⟩:=k;exact⟨B1,B,st,p',pb',o,e,h _ _ _ q,f⟩
   |thr p w x us am=>rw[hr] at k;exact k.elim
   |lt p x t=>rw[hr] at k;exact k.elim
   |tell p t=>rw[hr] at k;exact k.elim
theorem gP.mono{Chg':Nat->Rw->List Rw->Prop}(h:∀n r o,Chg n r o->Chg' n r o):∀{l:List Stp}{c d:BSt},gP Chg l c d->gP Chg' l c d
 |[],_,_,k=>k
 |_::_,_,_,⟨e,a,b⟩=>⟨e,a.mono h,gP.mono h b⟩
theorem vA{w:Str}{r:Rw}{k:Nat}{c d:BSt}(h:fQ Chg (w,r,k) c d)(o:opW w r.w=true):d=[]::c:=by
 unfold fQ at h;rw[bv (show fF (w,r,k)=true from o)] at h;exact h
theorem aC3{r:Rw}{k:Nat}{c d:BSt}(h:fQ Chg ("row",r,k) c d)(o:opW "row" r.w=false):∃B st o,c=B::st/\Chg k r o/\d=(B++o)::st:=by
 unfold fQ at h;rw[ay (show ¬fF (("row": Str),r,k)=true by rw[show fF (("row": Str),r,k)=false from o];exact bt),bv rfl] at h;exact h
theorem aP3{r:Rw}{k:Nat}{c d:BSt}(h:fQ Chg ("end",r,k) c d):cA4 Chg r k c d:=by
 unfold fQ at h;rw[ay (show ¬fF (("end": Str),r,k)=true by rw[show fF (("end": Str),r,k)=false from bW3 _];exact bt),ay kL] at h;exact h
mutual
theorem bI8:∀(r:Rw) (k:Nat) {B:List Rw}{st d:BSt},WdR r->gP Chg (dQ k r) (B::st) d->∃o,Reb Chg k r o/\d=(B++o)::st
 |.thr p w x us am,k,B,st,d,hw,h=>by
  simp only[dQ] at h;obtain⟨e,h,q⟩:=h;obtain⟨B',st',o,e1,e2,e3⟩:=aC3 h (cB3 hw)
  cases e1
  exact⟨o,e2,by rw[<-e3];exact(show e=d from q).symm⟩
 |.lt p x t,k,B,st,d,hw,h=>by
  simp only[dQ] at h;obtain⟨e,h,q⟩:=h;obtain⟨B',st',o,e1,e2,e3⟩:=aC3 h cH3
  cases e1
  exact⟨o,e2,by rw[<-e3];exact(show e=d from q).symm⟩
 |.tell p t,k,B,st,d,hw,h=>by
  simp only[dQ] at h;obtain⟨e,h,q⟩:=h;obtain⟨B',st',o,e1,e2,e3⟩:=aC3 h cC4
  cases e1
  exact⟨o,e2,by rw[<-e3];exact(show e=d from q).symm⟩
 |.when p pa pb t a b,k,B,st,d,hw,h=>by
  simp only[dQ] at h;obtain⟨e0,h0,h⟩:=h;have z0:=vA h0 cD5;subst z0;obtain⟨e3,h,h3⟩:=gP.app h;obtain⟨e2,h,h2⟩:=gP.app h;obtain⟨e1,h1,h⟩:=gP.app h;obtain⟨oa,ra,rfl⟩:=jP a (k+1) hw.1 h1;obtain⟨e4,h4,q4⟩:=h;have z4:=vA h4 (cB0 _);subst z4;have q4:[]::([]++oa)::B::st=e2:=q4;subst q4;obtain⟨ob,rb,rfl⟩:=jP b (k+1+aZ a) hw.2 h2;obtain⟨e5,h5,q5⟩:=h3;obtain⟨B2,B1,B',st',p',pa',pb',o,c1,c2,c3⟩:=aP3 h5
  cases c1
  exact⟨o,⟨p',pa',pb',_,_,ra,rb,c2⟩,by rw[<-c3];exact(show e5=d from q5).symm⟩
 |.times p pb n b,k,B,st,d,hw,h=>by
  simp only[dQ] at h;obtain⟨e0,h0,h⟩:=h;have z0:=vA h0 cE7;subst z0;obtain⟨e1,h1,h3⟩:=gP.app h;obtain⟨ob,rb,rfl⟩:=jP b (k+1) hw h1;obtain⟨e5,h5,q5⟩:=h3;obtain⟨B1,B',st',p',pb',o,c1,c2,c3⟩:=aP3 h5
  cases c1
  exact⟨o,⟨p',pb',_,rb,c2⟩,by rw[<-c3];exact(show e5=d from q5).symm⟩
theorem jP:∀(rs:List Rw) (k:Nat) {B:List Rw}{st d:BSt},WdL rs->gP Chg (dS k rs) (B::st) d->∃o,aD0 Chg k rs o/\d=(B++o)::st
 |[],k,B,st,d,_,h=>⟨[],rfl,by rw[gv];exact(show B::st=d from h).symm⟩
 |r::rs,k,B,st,d,hw,h=>by
  simp only[dS] at h;obtain⟨e,h1,h2⟩:=gP.app h;obtain⟨o1,r1,rfl⟩:=bI8 r k hw.1 h1;obtain⟨o2,r2,rfl⟩:=jP rs (k+r.cnt) hw.2 h2;exact⟨o1++o2,⟨o1,o2,r1,r2,rfl⟩,by rw[gc]⟩
end
end
inductive spRb(te:TE)(cv:List V)(vs:List V)(H:Hp)(Q:VK)(z1:XK):Prop
 |mk:∀(p f:Addr) (rs:List Rw) (Chg:Hp->Nat->Rw->List Rw->Prop) (Rq:Hp->Rw->Prop),(vs=[.ref p,.ref f])->(H p=some (.tup (bA rs)))->(aS H rs)->(aZ rs<=4000)->((∀G G' n r o,TS G G'->Chg G n r o->Chg G' n r o))->((∀q∈cK rs,∀G,TS H G->Rq G q))->((∀G p pa pb t a b,Rq G (.when p pa pb t a b)))->((∀G p pb n b,Rq G (.times p pb n b)))->((∀(r:Rw) (n:Nat) (G:Hp) (W:VK),aR H G->dO G r->Rq G r->(∀(l:Addr) (o:List Rw) (G':Hp),aR G G'->G' l=some (.lst (bA o))->aS G' o->Chg G' n r o->o.length<=1->W (.ref l) G')->te (some (.ref r.p)::some (.int n)::cv.map some) G W))->(∀(q:Addr) (o:List Rw) (H':Hp),aR H H'->H' q=some (.tup (bA o))->aS H' o->aD0 (Chg H') 0 rs o->Q (.ref q) H')->spRb te cv vs H Q z1
structure PgL(H:Hp)(p:Addr)(ks:List Str)(rs:List Rw)(m:Nat):Prop where
 ex:∃pk pr,H p=some (.tup [.ref pk,.ref pr])/\H pk=some (.tup (ks.map V.str))/\H pr=some (.tup (bA rs))
 rows:aS H rs
 cnt:aZ rs<=73*m
 sc:∃k2,mY [] rs k2
 tk:fO rs
 t1:1<=kT rs
 k1:1<=ks.length
 k3:ks.length<=3
 dp:tG rs<=2
 tz:jV rs
 few:Few (9*m) (qE rs)
 m4:m<=3
theorem PgL.ts{H H':Hp}{p:Addr}{ks:List Str}{rs:List Rw}{m:Nat}(t:TS H H')(P:PgL H p ks rs m):PgL H' p ks rs m:=
 ⟨let⟨pk,pr,a,b,c⟩:=P.ex;⟨pk,pr,t _ _ a,t _ _ b,t _ _ c⟩,aS.ts t rs P.rows,P.cnt,P.sc,P.tk,P.t1,P.k1,P.k3,P.dp,P.tz,P.few,P.m4⟩
structure xM where
 P:Addr
 pos:Pos
 q:Str
theorem aM8{k:Key}{w:V}:∀{ks:List Key}{vs:List V}{i:Nat},ks.Nodup->ks[i]?=some k->vs.length=ks.length->(ks.zip vs).map (fun kv=>if kv.1=k then (kv.1,w) else kv)=ks.zip (vs.set i w)
 |[],_,i,_,h,_=>by simp at h
 |a::ks,[],_,_,_,h=>by simp at h
 |a::ks,v::vs,0,nd,h,hl=>by
  have e:a=k:=by simpa using h
  subst e;have nd:=fk.mp nd;have:(ks.zip vs).map (fun kv=>if kv.1=a then (kv.1,w) else kv)=ks.zip vs:=by
   refine(List.map_congr_left (g:=id) (l:=ks.zip vs) fun kv hkv=>?_).trans (List.map_id _);exact ay fun e:kv.1=a=>nd.1 (by rw[<-e];exact(jw (a:=kv.1) (b:=kv.2) hkv).1)
  simp only[List.zip_cons_cons,List.map_cons,if_pos,List.set_cons_zero,this]
 |a::ks,v::vs,i+1,nd,h,hl=>by
  have nd:=fk.mp nd;have h:ks[i]?=some k:=by simpa using h
  have ne:¬a=k:=fun e=>nd.1 (by rw[e];exact bj h)
  simp only[List.zip_cons_cons,List.map_cons,if_neg ne,List.set_cons_succ,aM8 (w:=w) nd.2 h (by simpa using hl)]
theorem rD{k:Key}:∀{ks:List Key}{vs:List V}{i:Nat},ks.Nodup->ks[i]?=some k->vs.length=ks.length->cD (ks.zip vs) k=vs[i]?
 |[],_,i,_,h,_=>by simp at h
 |a::ks,[],_,_,_,h=>by simp at h
 |a::ks,v::vs,0,nd,h,hl=>by
  have e:a=k:=by simpa using h
  subst e;rw[yn,cE rfl];rfl
 |a::ks,v::vs,i+1,nd,h,hl=>by
  have nd:=fk.mp nd;have h:ks[i]?=some k:=by simpa using h
  have ne:¬a=k:=fun e=>nd.1 (by rw[e];exact bj h)
  rw[yn,bR ne,rD nd.2 h (by simpa using hl)];rfl
theorem aS3{k:Key}{w:V}{ks:List Key}{vs:List V}{i:Nat}(nd:ks.Nodup)(h:ks[i]?=some k)(hl:vs.length=ks.length):dB (ks.zip vs) k w=ks.zip (vs.set i w):=by
 unfold dB;rw[bv,aM8 nd h hl];rw[hZ,rD nd h hl];have:i<vs.length:=by rw[hl];exact(ap.mp h).1
 rw[ak this];rfl
theorem uK:∀{more acc:List (Key×V)},((acc++more).map (·.1)).Nodup->gZ acc more=acc++more
 |[],acc,_=>by simp[gZ]
 |(k,v)::more,acc,nd=>by
  have e:dB acc k v=acc++[(k,v)]:=nR _ (by
   cases q:cD acc k with
   |none=>rfl
   |some u =>
    exfalso;have a:=hZ k acc;rw[q] at a;obtain⟨p,hp,hk⟩:=List.any_eq_true.mp a;have hk:=af hk;rw[cy,en,ki] at nd;exact nd.2.2 _ (iy hp) _ az hk)
  show gZ (dB acc k v) more=_;rw[e,uK (by rw[gc];exact nd),gc];rfl
def tI:List Key:=(["kinds","names","room","by","left","wide"]:List Str).map Sum.inr
theorem rM:tI.Nodup:=by decide
def iU(kd:Int)(nl:Addr)(room by_ left wd:Int):List (Key×V):=tI.zip [.int kd,.ref nl,.int room,.int by_,.int left,.int wd]
structure We(H:Hp)(d l sc nl:Addr)(kd wd:Int)(xs:List Str)(rm bb:Int):Prop where
 deal:dN H d l
 scn:∃left,H sc=some (.dK (iU kd nl rm bb left wd))
 nms:H nl=some (.lst (xs.map V.str))
 ne1:sc≠d
 ne2:nl≠l
 x1:1<=xs.length
 x2:xs.length<=9
 m1:1<=kd
 m2:kd<=3
 w1:1<=wd
 w2:wd<=9
 r0:0<=rm
 b1:1<=bb
section
variable {H H':Hp}{d l sc nl:Addr}{kd wd rm bb:Int}{xs:List Str}
theorem We.sl(W:We H d l sc nl kd wd xs rm bb):sc≠l:=by
 obtain⟨_,e⟩:=W.scn;obtain⟨sd,k,ls,z⟩:=W.deal;exact gH e z.lc (by intro z;cases z)
theorem We.out(W:We H d l sc nl kd wd xs rm bb)(D:dN H' d l)(o:eO d l H H'):We H' d l sc nl kd wd xs rm bb:=
 ⟨D,let⟨c,e⟩:=W.scn;⟨c,o _ _ e W.ne1 W.sl⟩,aY W.deal W.nms W.ne2 o,W.ne1,W.ne2,W.x1,W.x2,W.m1,W.m2,W.w1,W.w2,W.r0,W.b1⟩
theorem We.same(W:We H d l sc nl kd wd xs rm bb)(s:aR H H'):We H' d l sc nl kd wd xs rm bb:=
 ⟨W.deal.same s,let⟨c,e⟩:=W.scn;⟨c,s _ _ e⟩,s _ _ W.nms,W.ne1,W.ne2,W.x1,W.x2,W.m1,W.m2,W.w1,W.w2,W.r0,W.b1⟩
theorem We.put(W:We H d l sc nl kd wd xs rm bb)(room by_ left:Int)(h0:0<=room)(h1:1<=by_):We (aO H sc (.dK (iU kd nl room by_ left wd))) d l sc nl kd wd xs room by_:=by
 obtain⟨_,e⟩:=W.scn;obtain⟨sd,k,ls,z⟩:=id W.deal;have n1:=W.ne1;have n2:=W.sl;refine⟨⟨sd,k,ls,⟨by rw[aH n1.symm];exact z.dc,by rw[aH n2.symm];exact z.lc,z.s0,z.s1,z.n0,z.l0⟩⟩,⟨_,aC⟩,?_,n1,W.ne2,W.x1,W.x2,W.m1,W.m2,W.w1,W.w2,h0,h1⟩;rw[aH (gH W.nms e (by intro z;cases z))];exact W.nms
theorem jL{room by_ left:Int}(e:H sc=some (.dK (iU kd nl room by_ left wd)))(i:Nat){x:Str}{v:V}(h:tI[i]?=some (Sum.inr x))(hv:([.int kd,.ref nl,.int room,.int by_,.int left,.int wd]:List V)[i]?=some v):fE H sc (.str x) (some v):=by
 rw[<-hv, <-rD (k:=Sum.inr x) rM h rfl];exact fE.k (k:=Sum.inr x) e
theorem qV{room by_ left:Int}(e:H sc=some (.dK (iU kd nl room by_ left wd)))(i:Nat){x:Str}{v:V}(h:tI[i]?=some (Sum.inr x)):kF H sc (.str x) v (aO H sc (.dK (tI.zip (([.int kd,.ref nl,.int room,.int by_,.int left,.int wd]:List V).set i v)))):=by
 rw[<-aS3 (k:=Sum.inr x) rM h rfl];exact kF.k (k:=Sum.inr x) e (aN (by show 6<=1000;decide))
theorem We.gKinds(W:We H d l sc nl kd wd xs rm bb):fE H sc (.str "kinds") (some (.int kd)):=by obtain⟨_,e⟩:=W.scn;exact jL e 0 rfl rfl
theorem We.gNames(W:We H d l sc nl kd wd xs rm bb):fE H sc (.str "names") (some (.ref nl)):=by obtain⟨_,e⟩:=W.scn;exact jL e 1 rfl rfl
theorem We.gRoom(W:We H d l sc nl kd wd xs rm bb):fE H sc (.str "room") (some (.int rm)):=by obtain⟨_,e⟩:=W.scn;exact jL e 2 rfl rfl
theorem We.gBy(W:We H d l sc nl kd wd xs rm bb):fE H sc (.str "by") (some (.int bb)):=by obtain⟨_,e⟩:=W.scn;exact jL e 3 rfl rfl
theorem We.gLeft(W:We H d l sc nl kd wd xs rm bb):∃v,fE H sc (.str "left") (some (.int v)):=by obtain⟨_,e⟩:=W.scn;exact⟨_,jL e 4 rfl rfl⟩
theorem We.gWide(W:We H d l sc nl kd wd xs rm bb):fE H sc (.str "wide") (some (.int wd)):=by obtain⟨_,e⟩:=W.scn;exact jL e 5 rfl rfl
theorem We.off(W:We H d l sc nl kd wd xs rm bb)(o:HO):dP [d,l,sc] H (aO H sc o):=fun b u e n=>by
 rw[aH fun z=>n (by rw[z];simp)];exact e
theorem We.pRoom(W:We H d l sc nl kd wd xs rm bb)(v:Int)(h0:0<=v):∃H',kF H sc (.str "room") (.int v) H'/\We H' d l sc nl kd wd xs v bb/\dP [d,l,sc] H H':=by obtain⟨_,e⟩:=W.scn;exact⟨_,qV e 2 rfl,W.put _ _ _ h0 W.b1,W.off _⟩
theorem We.pBy(W:We H d l sc nl kd wd xs rm bb)(v:Int)(h1:1<=v):∃H',kF H sc (.str "by") (.int v) H'/\We H' d l sc nl kd wd xs rm v/\dP [d,l,sc] H H':=by obtain⟨_,e⟩:=W.scn;exact⟨_,qV e 3 rfl,W.put _ _ _ W.r0 h1,W.off _⟩
theorem We.pLeft(W:We H d l sc nl kd wd xs rm bb)(v:Int):∃H',kF H sc (.str "left") (.int v) H'/\We H' d l sc nl kd wd xs rm bb/\dP [d,l,sc] H H':=by obtain⟨_,e⟩:=W.scn;exact⟨_,qV e 4 rfl,W.put _ _ _ W.r0 W.b1,W.off _⟩
theorem We.ts(W:We H d l sc nl kd wd xs rm bb)(o:dP [d,l,sc] H H'):TS H H':=fun p ys h=>by
 obtain⟨_,e⟩:=W.scn;obtain⟨sd,k,ls,z⟩:=W.deal;refine o _ _ h fun m=>?_
 simp only[List.mem_cons,List.not_mem_nil,or_false] at m;rcases m with m|m|m
 ·rw[m,z.dc] at h;cases h
 ·rw[m,z.lc] at h;cases h
 ·rw[m,e] at h;cases h
theorem We.keep(W:We H d l sc nl kd wd xs rm bb){p:Addr}{ys:List V}(h:H p=some (.lst ys))(n:p≠l)(o:dP [d,l,sc] H H'):H' p=some (.lst ys):=by
 obtain⟨_,e⟩:=W.scn;obtain⟨sd,k,ls,z⟩:=W.deal;refine o _ _ h fun m=>?_
 simp only[List.mem_cons,List.not_mem_nil,or_false] at m;rcases m with m|m|m
 ·rw[m,z.dc] at h;cases h
 ·exact n m
 ·rw[m,e] at h;cases h
theorem We.lst(W:We H d l sc nl kd wd xs rm bb){p:Addr}{ys zs:List V}(h:H p=some (.lst ys))(n:p≠l)(n2:p≠nl):We (aO H p (.lst zs)) d l sc nl kd wd xs rm bb:=by
 obtain⟨c,e⟩:=W.scn;exact⟨aW0 W.deal h n,⟨c,by rw[aH (gH e h (by intro z;cases z))];exact e⟩,by rw[aH n2.symm];exact W.nms,W.ne1,W.ne2,W.x1,W.x2,W.m1,W.m2,W.w1,W.w2,W.r0,W.b1⟩
theorem We.all(W:We H d l sc nl kd wd xs rm bb):∀b∈[d,l,sc],∃o,H b=some o:=by
 obtain⟨_,e⟩:=W.scn;obtain⟨sd,k,ls,z⟩:=W.deal;intro b m;simp only[List.mem_cons,List.not_mem_nil,or_false] at m;rcases m with m|m|m
 ·exact⟨_,by rw[m];exact z.dc⟩
 ·exact⟨_,by rw[m];exact z.lc⟩
 ·exact⟨_,by rw[m];exact e⟩
theorem We.new(W:We H d l sc nl kd wd xs rm bb){p:Addr}(h:H p=none):p≠d/\p≠l/\p≠sc/\p≠nl:=by
 obtain⟨_,e⟩:=W.scn;have:=jO W.deal h;exact⟨this.1,this.2,(fun z=>by rw[z,e] at h;cases h),(fun z=>by rw[z,W.nms] at h;cases h)⟩
end
mutual
def lY:Rw->Nat
 |.thr _ _ _ _ _=>1
 |.lt _ _ _=>0
 |.tell _ _=>0
 |.when _ _ _ _ a b=>iL a+iL b
 |.times _ _ n b=>n.toNat*iL b
def iL:List Rw->Nat
 |[]=>0
 |r::rs=>lY r+iL rs
end
theorem nO:∀(rs qs:List Rw),iL (rs++qs)=iL rs+iL qs
 |[],qs=>by simp[iL]
 |r::rs,qs=>by simp only[List.cons_append,iL,nO rs qs];lia
def KdR(kd:Int):Rw->Prop
 |.thr _ _ _ _ d=>(d.kd:Int)=kd
 |.lt _ _ _=>True
 |.tell _ _=>True
 |.when _ _ _ _ _ _=>True
 |.times _ _ n _=>1<=n/\n<=3
def xT(kd:Int)(rs:List Rw):Prop:=∀r∈cK rs,KdR kd r
theorem xT.app{kd:Int}{rs qs:List Rw}(a:xT kd rs)(b:xT kd qs):xT kd (rs++qs):=fun r h=>by
 rw[iO] at h;rcases bz.mp h with e|e
 ·exact a r e
 ·exact b r e
theorem xT.nil{kd:Int}:xT kd []:=fun r h=>absurd h bu
theorem aU8:∀r:Rw,eG r=r::cK r.kids
 |.when _ _ _ _ a b=>by simp only[eG,Rw.kids,iO]
 |.times _ _ _ b=>by simp only[eG,Rw.kids]
 |.thr _ _ _ _ _=>by simp only[eG,Rw.kids,cK]
 |.lt _ _ _=>by simp only[eG,Rw.kids,cK]
 |.tell _ _=>by simp only[eG,Rw.kids,cK]
theorem xT.one{kd:Int}{r:Rw}(a:KdR kd r)(b:xT kd r.kids):xT kd [r]:=fun q h=>by
 have e:cK [r]=eG r++[]:=rfl;rw[e,gv,aU8] at h;rcases cj.mp h with e|e
 ·rw[e];exact a
 ·exact b q e
inductive spSumE(vs:List V)(H:Hp)(Q:VK)(z1:XK):Prop
 |mk:∀(d l:Addr) (m:Int),(vs=[.ref d,.int m])->(dN H d l)->(0<=m)->(m<=3)->(∀(p:Addr) (ws:List Int) (H':Hp),dN H' d l->eO d l H H'->H' p=some (.tup (ws.map V.int))->ws.length=m.toNat->(∀y∈ws,0<=y/\y<=3)->Q (.ref p) H')->spSumE vs H Q z1
inductive spStpE(vs:List V)(H:Hp)(Q:VK)(z1:XK):Prop
 |mk:∀(d l:Addr) (m:Int),(vs=[.ref d,.int m])->(dN H d l)->((m=1\/m=2))->(∀(p:Addr) (a b:Int) (H':Hp),dN H' d l->eO d l H H'->fW H' p a b->sX a b->(m=2->2*a<=b)->Q (.ref p) H')->spStpE vs H Q z1
inductive spThrE(vs:List V)(H:Hp)(Q:VK)(z1:XK):Prop
 |mk:∀(d l sc nl:Addr) (kd wd rm bb:Int) (xs:List Str) (x:Str),(vs=[.ref d,.ref sc,.str x])->(We H d l sc nl kd wd xs rm bb)->(∀(p:Addr) (w:Str) (us:List V) (dd:TD) (H':Hp),dN H' d l->eO d l H H'->H' p=some (.tup (.str w :: .str x::us))->kQ H' w us dd->dd.amiss=false->(dd.kd:Int)=kd->Q (.ref p) H')->spThrE vs H Q z1
def cap:Nat->Int
 |0=>2
 |n+1=>2*cap n+2
inductive aS0(n:Nat)(vs:List V)(H:Hp)(Q:VK)(z1:XK):Prop
 |mk:∀(d l kn:Addr) (ks:List Str) (room:Int),(vs=[.ref d,.ref kn,.int room])->(dN H d l)->(H kn=some (.lst (ks.map V.str)))->(kn≠l)->(ks.length<=1000)->(1<=room)->(room<=cap n)->(∀(t:Tm) (H':Hp),dN H' d l->eO d l H H'->pV H' t->t.ok->(∀x∈t.names,x∈ks)->(t.size:Int)<=room->Q (.ref t.p) H')->aS0 n vs H Q z1
def sM:Nat->Sp
 |0=>fun _ _ _ _=>False
 |n+1=>aS0 n
def bP6(kd:Int)(ks:List Str)(x:Str)(r:Rw):Prop:=(∃p w us d,r= .thr p w x us d/\d.amiss=false/\(d.kd:Int)=kd)\/∃p t,r= .lt p x t/\(∀y∈t.names,y∈ks)/\t.size<=7
inductive spSetE(vs:List V)(H:Hp)(Q:VK)(z1:XK):Prop
 |mk:∀(d l sc nl kn:Addr) (kd wd rm bb:Int) (xs ks:List Str),(vs=[.ref d,.ref sc,.ref kn])->(We H d l sc nl kd wd xs rm bb)->(H kn=some (.lst (ks.map V.str)))->(kn≠l)->(ks.length<=500)->(∀(p kn':Addr) (r:Rw) (x:Str) (r2:Int) (H':Hp),We H' d l sc nl kd wd xs r2 bb->bb*(lY r:Int)+r2<=rm->dP [d,l,sc] H H'->H' p=some (.tup [.ref r.p,.int 0,.ref kn'])->dO H' r->bP6 kd ks x r->x∈xs->H kn'=none->H' kn'=some (.lst ((ks++[x]).map V.str))->Q (.ref p) H')->spSetE vs H Q z1
def lU:Nat->Nat
 |0=>1
 |1=>4
 |_=>12
def tbE:Nat->Nat
 |0=>1
 |1=>1
 |_=>6
structure RwE(kd:Int)(ks:List Str)(xs:List Str)(r:Rw)(k2:List Str)(tells:Int)(m:Nat):Prop where
 sc:ScR ks r k2
 tl:tel r=tells
 tk:bN6 r
 t0:0<=tells
 t1:tells<=tbE m
 ct:r.cnt<=lU m
 dp:r.dp<=m
 tz:aL1 r
 kd:xT kd [r]
 st:∀y∈pU [r],y∈xs
structure sR(kd:Int)(ks:List Str)(xs:List Str)(rs:List Rw)(k2:List Str)(tells:Int)(m n:Nat):Prop where
 sc:mY ks rs k2
 tl:kT rs=tells
 tk:fO rs
 t0:0<=tells
 t1:tells<=(n*tbE m:Nat)
 ct:aZ rs<=n*lU m
 dp:tG rs<=m
 tz:jV rs
 kd:xT kd rs
 st:∀y∈pU rs,y∈xs
inductive vR(m:Nat)(vs:List V)(H:Hp)(Q:VK)(z1:XK):Prop
 |mk:∀(d l sc nl kn:Addr) (kd wd rm bb:Int) (xs ks:List Str) (deep:Int),(vs=[.ref d,.ref sc,.ref kn,.int deep])->(We H d l sc nl kd wd xs rm bb)->(H kn=some (.lst (ks.map V.str)))->(kn≠l)->(ks.length+lU m<=200)->(m<=2)->(deep=2-(m:Int))->((m=2->bb=1))->(∀(p kn':Addr) (r:Rw) (k2:List Str) (tells r2:Int) (H':Hp),We H' d l sc nl kd wd xs r2 bb->bb*(lY r:Int)+r2<=rm->dP [d,l,sc] H H'->H' p=some (.tup [.ref r.p,.int tells,.ref kn'])->dO H' r->RwE kd ks xs r k2 tells m->(kn'=kn\/H kn'=none)->H' kn'=some (.lst (k2.map V.str))->Q (.ref p) H')->vR m vs H Q z1
def bA4:Nat->Sp
 |0=>fun _ _ _ _=>False
 |m+1=>vR m
inductive oZ(m:Nat)(vs:List V)(H:Hp)(Q:VK)(z1:XK):Prop
 |mk:∀(d l sc nl kn:Addr) (kd wd rm bb:Int) (xs ks:List Str) (deep:Int) (n:Nat),(vs=[.ref d,.ref sc,.ref kn,.int deep,.int n])->(We H d l sc nl kd wd xs rm bb)->(H kn=some (.lst (ks.map V.str)))->(kn≠l)->(ks.length+n*lU m<=200)->(m<=2)->(n<=6)->(deep=2-(m:Int))->((m=2->bb=1))->(∀(p pr kn':Addr) (rs:List Rw) (k2:List Str) (tells r2:Int) (H':Hp),We H' d l sc nl kd wd xs r2 bb->bb*(iL rs:Int)+r2<=rm->dP [d,l,sc] H H'->H' p=some (.tup [.ref pr,.int tells,.ref kn'])->H' pr=some (.tup (bA rs))->aS H' rs->sR kd ks xs rs k2 tells m n->(kn'=kn\/H kn'=none)->H' kn'=some (.lst (k2.map V.str))->Q (.ref p) H')->oZ m vs H Q z1
def bN7:Nat->Sp
 |0=>fun _ _ _ _=>False
 |m+1=>oZ m
def yZ:Nat->Sp
 |0=>fun _ _ _ _=>False
 |m+1=>fun vs H Q _=>∃(d l sc nl kn:Addr) (kd wd rm bb:Int) (xs ks:List Str) (deep:Int),vs=[.ref d,.ref sc,.ref kn,.int deep]/\We H d l sc nl kd wd xs rm bb/\H kn=some (.lst (ks.map V.str))/\kn≠l/\ks.length+lU (m+1)<=200/\m<=1/\deep=1-(m:Int) /\
 ∀(p kn':Addr) (r:Rw) (k2:List Str) (tells r2:Int) (H':Hp),We H' d l sc nl kd wd xs r2 bb->bb*(lY r:Int)+r2<=rm->dP [d,l,sc] H H'->H' p=some (.tup [.ref r.p,.int tells,.ref kn'])->dO H' r->RwE kd ks xs r k2 tells (m+1)->H kn'=none->H' kn'=some (.lst (k2.map V.str))->Q (.ref p) H'
inductive spPrgE(vs:List V)(H:Hp)(Q:VK)(z1:XK):Prop
 |mk:∀(d l kl nl:Addr) (ks xs:List Str),(vs=[.ref d,.ref kl,.ref nl,.int 6])->(dN H d l)->(H kl=some (.lst (ks.map V.str)))->(kl≠l)->(1<=ks.length)->(ks.length<=3)->(H nl=some (.lst (xs.map V.str)))->(nl≠l)->(1<=xs.length)->(xs.length<=9)->(∀(p:Addr) (rs:List Rw) (H':Hp),dN H' d l->eO d l H H'->PgL H' p ks rs 1->xT (ks.length:Int) rs->iL rs<=6->(∀y∈qE rs,y∈xs)->Q (.ref p) H')->spPrgE vs H Q z1
def aL6(a b:Str)(tn:Int)(ws:List Str):Prop:=∀k w,ws[k]?=some w->w=wdK a b tn k\/w=wdK a b tn k++"q"
theorem aK3{a b:Str}{tn:Int}{i:Nat}{ws:List Str}(h:aL6 a b tn ws)(hl:ws.length=i){w:Str}(hw:w=wdK a b tn i\/w=wdK a b tn i++"q"):aL6 a b tn (ws++[w]):=fun k v hv=>by
 by_cases c:k<ws.length
 ·rw[km c] at hv;exact h k v hv
 ·rw[ke (by lia)] at hv;have:k-ws.length=0:=by
   have:=(ap.mp hv).1;simp only[List.length_cons,List.length_nil] at this;lia
  rw[this] at hv;have hv:w=v:=by simpa using hv
  rw[<-hv,show k=i from by lia];exact hw
theorem bQ5{x y:Str}(h:x.cps.toList=y.cps.toList):x=y:=by
 cases x;cases y
 exact fm Str.mk (zq.mp h)
theorem aX0(x:Str):x++Str.empty=x:=bQ5 (by rw[bE0,Array.toList_append];exact gv _)
theorem lX(z:Str)(lo hi:Option Int):(Txt.slice z lo hi).length<=(Builtin.Str.strSliceIndices lo hi 1 z.length).length:=by
 unfold Txt.slice
 split
 ·rename_i q
  have q:(Builtin.Str.strSliceIndices lo hi 1 z.length).length=z.length:=by simpa using q
  lia
 ·exact vc _ _
theorem bG9{z:Str}{j:Int}(h:z.length<=6)(j0:0<=j)(j1:j<(z.length:Int)+1):(Txt.slice z none (some j)).length+(Txt.slice z (some j) none).length<=6:=by
 obtain⟨i,rfl⟩:=dw j0;have key:∀n:Nat,n<7->∀i:Nat,i<n+1->(Builtin.Str.strSliceIndices none (some (i:Int)) 1 n).length+(Builtin.Str.strSliceIndices (some (i:Int)) none 1 n).length<=6:=by decide
 have:=key z.length (by lia) i (by lia);have a:=lX z none (some (i:Int));have b:=lX z (some (i:Int)) none;lia
inductive spNamesE(vs:List V)(H:Hp)(Q:VK)(z1:XK):Prop
 |mk:∀(d l:Addr) (m:Int),(vs=[.ref d,.int m])->(dN H d l)->(0<=m)->(m<=9)->(∀(p:Addr) (ws:List Str) (a b:Str) (tn:Int) (H':Hp),dN H' d l->eO d l H H'->H p=none->H' p=some (.lst (ws.map V.str))->ws.length=m.toNat->a.length+b.length<=6->aL6 a b tn ws->Q (.ref p) H')->spNamesE vs H Q z1
section
variable {ks k1 k2 k3 k4 xs:List Str}{m n i:Nat}{a b rs:List Rw}{r:Rw}{x:Str}{t u kd:Int}
theorem bC2{i j:Nat}{σ:St}{H:Hp}{Q:VK}{deep:Int}{d l:Addr}(h3:σ[i]?=some (some (.int deep)))(h0:σ[j]?=some (some (.ref d)))(D:dN H d l)(k:∀(e:Bool) (H2:Hp),dN H2 d l->eO d l H H2->(e=true->deep=0)->Q (.bl e) H2):bM7 (wN rEq (iS i) (tC (.int 0))) (wN rEq (pR spDraw [] E0 (iX (iS j) (iX (tC (.int 2)) tNil))) (tC (.int 1))) σ H Q:=by
 refine⟨_,h3,rfl,_,rfl,?_⟩
 by_cases c:deep=0
 ·subst c;exact bI (ag rfl) ⟨_,h0,d,l,2,rfl,D,by decide,by decide,fun x H2 _ _ D2 o2=>⟨rfl,k _ H2 D2 o2 fun _=>rfl⟩⟩
 ·have e:decide (V.int deep=V.int 0)=false:=dh fun z=>c (by injection z)
  rw[e];exact aW (by simp) (k false H D (eO.refl _) fun z=>nomatch z)
theorem mW(m:Nat):1<=lU m:=by
 rcases m with _|_|m<;>simp only[lU]<;>lia
theorem bI3(m:Nat):1<=tbE m:=by
 rcases m with _|_|m<;>simp only[tbE]<;>lia
theorem bP6.row(h:bP6 kd ks x r)(hx:x∈xs):RwE kd ks xs r (ks++[x]) 0 m:=by
 have:=mW m;rcases h with⟨p,w,us,d,rfl,ha,hk⟩|⟨p,t,rfl,nm,sz⟩
 ·refine⟨⟨rfl,ha⟩,rfl,trivial,ji _,by lia,this,bo _,trivial,.one hk .nil,fun y hy=>?_⟩;have:y=x:=by simpa [pU,cK,eG,Rw.sets] using hy
  rw[this];exact hx
 ·refine⟨⟨rfl,nm⟩,rfl,trivial,ji _,by lia,this,bo _,sz,.one trivial .nil,fun y hy=>?_⟩;have:y=x:=by simpa [pU,cK,eG,Rw.sets] using hy
  rw[this];exact hx
theorem aP2{p:Addr}{t:Tm}(nm:∀y∈t.names,y∈ks)(sz:t.size<=7):RwE kd ks xs (.tell p t) ks 1 m:=by
 have:=mW m;have:=bI3 m;refine⟨⟨rfl,nm⟩,rfl,trivial,by decide,by lia,by assumption,bo _,sz,.one trivial .nil,fun y hy=>?_⟩;exact absurd hy (by simp[pU,cK,eG,Rw.sets])
theorem sR.nil:sR kd ks xs [] ks 0 m 0:=⟨rfl,rfl,trivial,ji _,by lia,bo _,bo _,trivial,.nil,(fun y hy=>by exact absurd hy (by simp[pU,cK]))⟩
theorem sR.mono(h:sR kd ks xs rs k2 t m i)(hi:i<=n):sR kd ks xs rs k2 t m n:=
 ⟨h.sc,h.tl,h.tk,h.t0,yo h.t1 (Int.ofNat_le.mpr (jp _ hi)),db h.ct (jp _ hi),h.dp,h.tz,h.kd,h.st⟩
theorem sR.snoc(h:sR kd ks xs rs k1 t m i)(g:RwE kd k1 xs r k2 u m):sR kd ks xs (rs++[r]) k2 (t+u) m (i+1):=by
 have e1:(i+1)*tbE m=i*tbE m+tbE m:=se _ _;have e2:(i+1)*lU m=i*lU m+lU m:=se _ _;have h1:=h.t0;have h2:=h.t1;have h3:=h.ct;have g1:=g.t0;have g2:=g.t1;have g3:=g.ct;refine⟨mY.app (ks:=ks) h.sc g.sc,?_,fO.app h.tk ⟨g.tk,trivial⟩,by lia,by lia,?_,vY h.dp g.dp,jV.app h.tz ⟨g.tz,trivial⟩,h.kd.app g.kd,fun y hy=>?_⟩
 ·rw[rY,h.tl];simp only[kT];rw[g.tl];lia
 ·rw[jQ];simp only[aZ];lia
 ·rw[vM] at hy;rcases bz.mp hy with z|z
  ·exact h.st y z
  ·exact g.st y z
theorem aY7(hm:m<=1)(h1:n<=2)(h2:m=0->n<=1):n*lU m<=lU (m+1)/\n*tbE m<=2/\n*lU m+n*tbE m+2<=lU (m+1):=by
 have:m=0\/m=1:=by lia
 rcases this with rfl|rfl
 ·have:=h2 rfl;simp only[lU,tbE];lia
 ·simp only[lU,tbE];lia
theorem sR.when{p pa pb:Addr}{tt:Tm}{nb:Nat}(A:sR kd ks xs a k3 t m n)(B:sR kd ks xs b k4 t 0 nb)(hb:(nb:Int)<=1+t)(hm:m<=1)(h1:n<=2)(h2:m=0->n<=1)(nm:∀y∈tt.names,y∈ks)(sz:tt.size<=7):RwE kd ks xs (.when p pa pb tt a b) (k3.filter fun x=>decide (x∈k4)) t (m+1):=by
 obtain⟨c1,c2,c3⟩:=aY7 hm h1 h2;have a1:=A.t1;have a2:=A.ct;have a3:=A.dp;have b2:=B.ct;have b3:=B.dp;have e:nb*lU 0=nb:=Nat.mul_one _;refine⟨⟨nm,k3,k4,A.sc,B.sc,rfl⟩,A.tl,⟨by rw[A.tl,B.tl],A.tk,B.tk⟩,A.t0,?_,?_,?_,⟨sz,A.tz,B.tz⟩,.one trivial (A.kd.app B.kd),fun y hy=>?_⟩
 ·have:m=0\/m=1:=by lia
  rcases this with rfl|rfl
  ·have:=h2 rfl;simp only[tbE] at a1 ⊢;lia
  ·simp only[tbE] at a1 ⊢;lia
 ·simp only[Rw.cnt];lia
 ·simp only[Rw.dp];lia
 ·rw[yM] at hy;rcases bz.mp hy with z|z
  ·exact A.st y z
  ·exact B.st y z
theorem sR.times{p pb:Addr}{j:Int}(B:sR kd ks xs b k2 t 1 n)(h1:n<=2)(j1:1<=j)(j3:j<=3):RwE kd ks xs (.times p pb j b) k2 (j*t) 2:=by
 have b0:=B.t0;have b1:=B.t1;have b2:=B.ct;have b3:=B.dp;simp only[lU,tbE] at b1 b2;have hj:j=1\/j=2\/j=3:=by lia
 refine⟨B.sc,by show j*kT b=_;rw[B.tl],⟨⟨by lia,by lia,by rw[B.tl];exact b0,by rw[B.tl];lia⟩,B.tk⟩,?_,?_,?_,?_,B.tz,.one ⟨j1,j3⟩ B.kd,fun y hy=>?_⟩
 ·rcases hj with rfl|rfl|rfl<;>lia
 ·simp only[tbE];rcases hj with rfl|rfl|rfl<;>lia
 ·simp only[Rw.cnt,lU];lia
 ·simp only[Rw.dp];lia
 ·rw[tY] at hy;exact B.st y hy
end
end Mine
namespace L2
open PySem PySem.Spec PyProof.Rows
section
variable {X:Cx}
end
end L2
namespace Mine
open PySem L2
theorem cJ7{a b:V}{r:List V}:kS (a::b::r) (some 2) none=r:=by
 show((a::b::r).drop (min 2 (r.length+1+1))).take (r.length+1+1-min 2 (r.length+1+1))=r;rw[vp (by lia)];simp
theorem cJ8{a b:V}{r:List V}:¬(HT.sIx (a::b::r).length 0 (some 2)=0/\HT.sIx (a::b::r).length (a::b::r).length none=(a::b::r).length):=by
 show ¬(min 2 (r.length+1+1)=0/\_);rw[vp (by lia)];exact fun z=>absurd z.1 (by decide)
def pZ(d:Addr)(H G:Hp):Prop:=∀c u,H c=some u->c≠d->G c=some u
theorem pZ.refl{d:Addr}{H:Hp}:pZ d H H:=fun _ _ e _=>e
theorem pZ.trans{d:Addr}{H G F:Hp}(a:pZ d H G)(b:pZ d G F):pZ d H F:=fun c u e n=>b c u (a c u e n) n
theorem pZ.of{d:Addr}{H G:Hp}(s:aR H G):pZ d H G:=fun c u e _=>s c u e
theorem pZ.upd{d:Addr}{H:Hp}{o:HO}:pZ d H (aO H d o):=fun c u e n=>(aH n).trans e
theorem pZ.same{d:Addr}{H H1 G:Hp}(a:pZ d H1 G)(s:aR H H1)(h:H d=none):aR H G:=fun c u e=>a c u (s c u e) (fun z=>by rw[z,h] at e;cases e)
theorem aS9{rs:List Rw}{i:Nat}{v:V}(h:(bA rs)[i]?=some v):∃q,rs[i]?=some q/\v= .ref q.p:=by
 unfold bA at h;rw[cm] at h
 cases e:rs[i]? with
 |none=>rw[e] at h;cases h
 |some q=>rw[e] at h;exact⟨q,rfl,(di h).symm⟩
theorem aF5{α:Type}{R:V->α->Prop}{v:V}{a:α}(r:R v a):∀{vs:List V}{as:List α},dL R vs as->dL R (vs++[v]) (as++[a])
 |[],[],_=>⟨r,trivial⟩
 |[],_::_,h=>h.elim
 |_::_,[],h=>h.elim
 |_::_,_::_,⟨h,k⟩=>⟨h,aF5 r k⟩
end Mine
namespace L2
open PySem
theorem bV6{X:Cx}(K:W.Frag)(hK:autoParam (X.K=K) Rq0._auto_1):fG X (.type "tuple") (fun xs H Q=>∃p ys,xs=[.ref p]/\((bG K H p ys/\∀l,H l=none->Q (.ref l) (aO H l (.tup ys)))\/(aU K H p ys/\Q (.ref p) H))):=by subst hK;exact bQ
end L2
namespace Mine
open PySem L2
def bd(s:Stp)(n:Nat):Option Nat:=
 if fF s=true then some (n+1) else if s.1="row" then (if 1<=n then some n else none)
 else match s.2.1 with
  |.when _ _ _ _ _ _=>if 3<=n then some (n-2) else none
  |.times _ _ _ _=>if 2<=n then some (n-1) else none
  |.thr _ _ _ _ _=>none
  |.lt _ _ _=>none
  |.tell _ _=>none
theorem uN{w:Str}{r:Rw}{k n:Nat}(o:opW w r.w=true):bd (w,r,k) n=some (n+1):=by
 unfold bd;rw[bv (show fF (w,r,k)=true from o)]
theorem zI{r:Rw}{k n:Nat}(o:opW "row" r.w=false)(h:1<=n):bd (("row": Str),r,k) n=some n:=by
 unfold bd;rw[ay (show ¬fF (("row": Str),r,k)=true by rw[show fF (("row": Str),r,k)=false from o];exact bt),bv rfl,bv h]
theorem pJ{s:Stp}{n m:Nat}(h:bd s n=some m):jB bd [s] n=some m:=by show(bd s n).bind some=_;rw[h];rfl
theorem bF6{p pa pb:Addr}{t:Tm}{a b:List Rw}{k n:Nat}(h:3<=n):bd (("end": Str),Rw.when p pa pb t a b,k) n=some (n-2):=by
 unfold bd;rw[ay (show ¬fF (("end": Str),Rw.when p pa pb t a b,k)=true by rw[show fF (("end": Str),Rw.when p pa pb t a b,k)=false from bW3 _];exact bt),ay kL];exact bv h
theorem aY1{p pb:Addr}{m:Int}{b:List Rw}{k n:Nat}(h:2<=n):bd (("end": Str),Rw.times p pb m b,k) n=some (n-1):=by
 unfold bd;rw[ay (show ¬fF (("end": Str),Rw.times p pb m b,k)=true by rw[show fF (("end": Str),Rw.times p pb m b,k)=false from bW3 _];exact bt),ay kL];exact bv h
mutual
theorem bL4:∀(r:Rw) (k n:Nat),WdR r->1<=n->jB bd (dQ k r) n=some n
 |.thr p w x us am,k,n,hw,hn=>pJ (zI (cB3 hw) hn)
 |.lt p x t,k,n,_,hn=>pJ (zI cH3 hn)
 |.tell p t,k,n,_,hn=>pJ (zI cC4 hn)
 |.when p pa pb t a b,k,n,hw,hn=>by
  simp only[dQ];show(bd _ n).bind (jB bd _)=_;rw[uN cD5];show jB bd _ (n+1)=_;rw[fR,fR,fR,kM a (k+1) (n+1) hw.1 (by lia)];rw[jc,pJ (uN (cB0 _)),jc,kM b _ (n+1+1) hw.2 (by lia),jc];exact pJ (bF6 (by lia))
 |.times p pb m b,k,n,hw,hn=>by
  simp only[dQ];show(bd _ n).bind (jB bd _)=_;rw[uN cE7];show jB bd _ (n+1)=_;rw[fR,kM b (k+1) (n+1) hw (by lia)];rw[jc];exact pJ (aY1 (by lia))
theorem kM:∀(rs:List Rw) (k n:Nat),WdL rs->1<=n->jB bd (dS k rs) n=some n
 |[],k,n,_,_=>rfl
 |r::rs,k,n,hw,hn=>by
  simp only[dS];rw[fR,bL4 r k n hw.1 hn];exact kM rs _ n hw.2 hn
end
def mP(G:Hp)(n:Nat):List Addr->BSt->Prop
 |[],[]=>True
 |a::as,B::st=>(G a=some (.lst (bA B))/\aS G B/\B.length<=n)/\mP G n as st
 |[],_::_=>False
 |_::_,[]=>False
theorem mP.len{G:Hp}{n:Nat}:∀{as:List Addr}{c:BSt},mP G n as c->as.length=c.length
 |[],[],_=>rfl
 |_::_,_::_,⟨_,h⟩=>by rw[cf,cf,mP.len h]
 |[],_::_,h=>h.elim
 |_::_,[],h=>h.elim
theorem mP.at{G G':Hp}{n m:Nat}(t:TS G G')(hm:n<=m):∀{as:List Addr}{c:BSt},mP G n as c->(∀a∈as,∀o,G a=some o->G' a=some o)->mP G' m as c
 |[],[],_,_=>trivial
 |a::_,_::_,⟨⟨h1,h2,h3⟩,h⟩,k=>⟨⟨k a az _ h1,aS.ts t _ h2,by lia⟩,mP.at t hm h fun b hb=>k b (av _ hb)⟩
 |[],_::_,h,_=>h.elim
 |_::_,[],h,_=>h.elim
theorem mP.split{G:Hp}{n:Nat}{D:BSt}:∀{C:BSt}{as:List Addr},mP G n as (C++D)->∃xs ys,as=xs++ys/\mP G n xs C/\mP G n ys D
 |[],as,h=>⟨[],as,rfl,trivial,h⟩
 |_::C,a::as,⟨h,k⟩=>by
  obtain⟨xs,ys,e,p,q⟩:=mP.split (C:=C) k;exact⟨a::xs,ys,by rw[e];rfl,⟨h,p⟩,q⟩
 |_::_,[],h=>h.elim
theorem mP.app{G:Hp}{n:Nat}{D:BSt}{ys:List Addr}(q:mP G n ys D):∀{C:BSt}{xs:List Addr},mP G n xs C->mP G n (xs++ys) (C++D)
 |[],[],_=>q
 |_::_,_::_,⟨h,k⟩=>⟨h,mP.app q k⟩
 |[],_::_,h=>h.elim
 |_::_,[],h=>h.elim
theorem mP.rev{G:Hp}{n:Nat}:∀{C:BSt}{xs:List Addr},mP G n xs C->mP G n xs.reverse C.reverse
 |[],[],_=>trivial
 |B::C,a::xs,⟨h,k⟩=>by
  rw[gj,gj];exact mP.app (D:=[B]) (ys:=[a]) ⟨h,trivial⟩ (mP.rev k)
 |[],_::_,h=>h.elim
 |_::_,[],h=>h.elim
theorem mP.get{G:Hp}{n:Nat}{a:Addr}:∀{C:BSt}{xs:List Addr}{i:Nat},mP G n xs C->xs[i]?=some a->∃B,C[i]?=some B/\G a=some (.lst (bA B))/\aS G B/\B.length<=n
 |B::C,b::xs,0,⟨h,k⟩,e=>by cases e;exact⟨B,rfl,h⟩
 |B::C,b::xs,i+1,⟨h,k⟩,e=>mP.get (C:=C) (xs:=xs) (i:=i) k e
 |[],[],i,_,e=>by cases e
 |[],_::_,_,h,_=>h.elim
 |_::_,[],_,h,_=>h.elim
def zN(G:Hp)(v:V)(B:List Rw):Prop:=∃t,v= .ref t/\G t=some (.tup (bA B))/\aS G B
theorem zN.ts{G G':Hp}(t:TS G G'){v:V}{B:List Rw}(h:zN G v B):zN G' v B:=by obtain⟨a,e,k,r⟩:=h;exact⟨a,e,t _ _ k,aS.ts t _ r⟩
theorem aV7{G:Hp}{c:BSt}{s:Stp}{m:Nat}(hr:dO G s.2.1)(ho:¬fF s=true)(hn:¬s.1="row")(hb:bd s c.length=some m) :
  ∃(Bs:List (List Rw)) (B:List Rw) (st:BSt) (x y:V) (us:List V),c=Bs.reverse++(B::st)/\Bs.length=us.length/\(us.length=1\/us.length=2)/\m=(B::st).length/\G s.2.1.p=some (.tup (x::y::us)) /\
   ∀(q:Addr) (ys:List V) (G':Hp),G' q=some (.tup (x::y::ys))->dL (zN G') ys Bs->TS G G'->∃r',r'.p=q/\dO G' r'/\(∀Rq:Rw->Prop,(∀p pa pb t a b,Rq (.when p pa pb t a b))->(∀p pb n b,Rq (.times p pb n b))->Rq r')/\∀(Chg:Nat->Rw->List Rw->Prop) o,Chg s.2.2 r' o->fQ Chg s c ((B++o)::st):=by
 obtain⟨w,r,k⟩:=s;unfold bd at hb;rw[ay ho,ay hn] at hb
 cases r with
 |thr p w x us am=>cases hb
 |lt p x t=>cases hb
 |tell p t=>cases hb
 |when p pa pb t a b =>
  have hb:(if 3<=c.length then some (c.length-2) else none)=some m:=hb
  by_cases c3:3<=c.length
  ·rw[bv c3] at hb;obtain⟨B2,B1,B,st,rfl⟩:∃B2 B1 B st,c=B2::B1::B::st:=by
    match c,c3 with
    |B2::B1::B::st,_=>exact⟨_,_,_,_,rfl⟩
   cases hb
   refine⟨[B1,B2],B,st,_,_,[.ref pa,.ref pb],rfl,rfl,.inr rfl,rfl,hr.1,fun q ys G' hq tw tt=>?_⟩
   match ys,tw with
   |[v1,v2],⟨⟨t1,e1,h1,r1⟩,⟨t2,e2,h2,r2⟩,_⟩ =>
    subst e1 e2;refine⟨.when q t1 t2 t B1 B2,rfl,⟨hq,hr.2.1.ts tt,hr.2.2.1,h1,h2,r1,r2⟩,fun Rq h1 _=>h1 _ _ _ _ _ _,fun Chg o ho'=>?_⟩;unfold fQ;rw[ay ho,ay hn];exact⟨B2,B1,B,st,q,t1,t2,o,rfl,ho',rfl⟩
  ·rw[ay c3] at hb;cases hb
 |times p pb j b =>
  have hb:(if 2<=c.length then some (c.length-1) else none)=some m:=hb
  by_cases c3:2<=c.length
  ·rw[bv c3] at hb;obtain⟨B1,B,st,rfl⟩:∃B1 B st,c=B1::B::st:=by
    match c,c3 with
    |B1::B::st,_=>exact⟨_,_,_,rfl⟩
   cases hb
   refine⟨[B1],B,st,_,_,[.ref pb],rfl,rfl,.inl rfl,rfl,hr.1,fun q ys G' hq tw tt=>?_⟩
   match ys,tw with
   |[v1],⟨⟨t1,e1,h1,r1⟩,_⟩ =>
    subst e1;refine⟨.times q t1 j B1,rfl,⟨hq,h1,r1⟩,fun Rq _ h2=>h2 _ _ _ _,fun Chg o ho'=>?_⟩;unfold fQ;rw[ay ho,ay hn];exact⟨B1,B,st,q,t1,o,rfl,ho',rfl⟩
  ·rw[ay c3] at hb;cases hb
theorem bH6{ys zs:List V}{m:Nat}(hm:zs.length=m)(h:1<=m):kS (ys++zs) (some (-(m:Int))) none=zs:=by
 have e:HT.sIx (ys++zs).length 0 (some (-(m:Int)))=ys.length:=by
  show(if -(m:Int)<0 then (-(m:Int)+((ys++zs).length:Int)).toNat else _)=_;rw[bv (by lia),aj];lia
 unfold kS;rw[e,List.drop_left];show zs.take ((ys++zs).length-ys.length)=zs;rw[aj,vm,dk]
theorem aJ0{ys zs:List V}{m:Nat}(hm:zs.length=m)(h:1<=m):kS (ys++zs) none (some (-(m:Int)))=ys:=by
 have e:HT.sIx (ys++zs).length (ys++zs).length (some (-(m:Int)))=ys.length:=by
  show(if -(m:Int)<0 then (-(m:Int)+((ys++zs).length:Int)).toNat else _)=_;rw[bv (by lia),aj];lia
 unfold kS;rw[e];show((ys++zs).drop 0).take (ys.length-0)=ys;rw[List.drop_zero,Nat.sub_zero,List.take_left]
theorem aG8{S:List Addr}{H G:Hp}{b:Addr}(k:dP S H G)(h:G b=none):b∈S\/H b=none:=by
 by_cases c:b∈S
 ·exact .inl c
 ·refine .inr ?_
  cases e:H b with
  |none=>rfl
  |some u=>rw[k b u e c] at h;cases h
theorem mP.mem{G:Hp}{n:Nat}:∀{as:List Addr}{c:BSt},mP G n as c->∀a∈as,∃o,G a=some o
 |[],[],_,_,h=>absurd h bu
 |b::_,_::_,⟨h1,h⟩,a,m=>by
  rcases cj.mp m with rfl|m
  ·exact⟨_,h1.1⟩
  ·exact mP.mem h a m
 |[],_::_,h,_,_=>h.elim
 |_::_,[],h,_,_=>h.elim
theorem cK3{a b c:V}{r:List V}:kS (a::b::c::r) none (some 2)=[a,b]:=by
 show((a::b::c::r).drop 0).take (min 2 (r.length+1+1+1)-0)=_;rw[vp (by lia)];rfl
theorem cE5{a b c:V}{r:List V}:¬(HT.sIx (a::b::c::r).length 0 none=0/\HT.sIx (a::b::c::r).length (a::b::c::r).length (some 2)=(a::b::c::r).length):=by
 show ¬(0=0/\min 2 (r.length+1+1+1)=r.length+1+1+1);lia
theorem qN{ys:List V}{x:V}:lP (ys++[x]) (-1)=some x:=by
 unfold lP ixN;rw[ay (by decide),bv (by rw[aj,fh];lia)];show(ys++[x])[(-1+((ys++[x]).length:Int)).toNat]?=some x;rw[show(-1+((ys++[x]).length:Int)).toNat=ys.length from by rw[aj,fh];lia,ke (ai _),Nat.sub_self];rfl
theorem uZ{S:List Addr}{H G:Hp}{b:Addr}{o:HO}(k:dP S H G)(h:b∈S\/H b=none):dP S H (aO G b o):=fun c u e n=>by
 have:c≠b:=fun z=>by
  rcases h with h|h
  ·exact n (by rw[z];exact h)
  ·rw[z,h] at e;cases e
 exact(aH this).trans (k c u e n)
def Rw.tm:Rw->List Tm
 |.thr _ _ _ _ _=>[]
 |.lt _ _ t=>[t]
 |.tell _ t=>[t]
 |.when _ _ _ t _ _=>[t]
 |.times _ _ _ _=>[]
def Rw.told:Rw->List Str
 |.thr _ _ _ _ _=>[]
 |.lt _ _ _=>[]
 |.tell _ t=>t.names
 |.when _ _ _ t _ _=>t.names
 |.times _ _ _ _=>[]
def Rw.lets(x:Str):Rw->List Str
 |.thr _ _ _ _ _=>[]
 |.lt _ y t=>if y=x then t.names else []
 |.tell _ _=>[]
 |.when _ _ _ _ _ _=>[]
 |.times _ _ _ _=>[]
def OkR(xs:List Str)(r:Rw):Prop:=∀t∈r.tm,t.size<=7/\∀y∈t.names,y∈xs
def OkL(xs:List Str)(rs:List Rw):Prop:=∀r∈cK rs,OkR xs r
mutual
def zU:Rw->Nat
 |.thr _ _ _ _ _=>0
 |.lt _ _ _=>0
 |.tell _ _=>0
 |.when _ _ _ _ a b=>1+max (mV a) (mV b)
 |.times _ _ _ b=>1+mV b
def mV:List Rw->Nat
 |[]=>0
 |r::rs=>max (zU r) (mV rs)
end
theorem xH{H:Hp}:∀{rs:List Rw},(∀q∈rs,dO H q)->aS H rs
 |[],_=>trivial
 |r::rs,h=>⟨h r az,xH fun q hq=>h q (av _ hq)⟩
structure jW(H:Hp)(p:Addr)(xs:List Str)(rs:List Rw):Prop where
 ex:∃v pr,H p=some (.tup [v,.ref pr])/\H pr=some (.tup (bA rs))
 kn:∃(pk:Addr) (ks:List Str) (w:V),H p=some (.tup [.ref pk,w])/\H pk=some (.tup (ks.map V.str))/\1<=ks.length/\ks.length<=3/\xT (ks.length:Int) rs
 ld:iL rs<=6
 rows:aS H rs
 cnt:aZ rs<=1300
 dp:mV rs<=3
 ok:OkL xs rs
 xl:xs.length<=12
theorem jW.ts{H H':Hp}{p:Addr}{xs:List Str}{rs:List Rw}(t:TS H H')(P:jW H p xs rs):jW H' p xs rs:=
 ⟨let⟨v,pr,a,c⟩:=P.ex;⟨v,pr,t _ _ a,t _ _ c⟩,let⟨pk,ks,w,a,b,c⟩:=P.kn;⟨pk,ks,w,t _ _ a,t _ _ b,c⟩,P.ld,aS.ts t rs P.rows,P.cnt,P.dp,P.ok,P.xl⟩
inductive spRowsP(vs:List V)(H:Hp)(Q:VK)(z1:XK):Prop
 |mk:∀(p:Addr) (xs:List Str) (rs:List Rw),(vs=[.ref p])->(jW H p xs rs)->(∀(r:Addr) (H':Hp),aR H H'->H r=none->H' r=some (.lst (bA (cK rs)))->Q (.ref r) H')->spRowsP vs H Q z1
theorem aS.flat{H:Hp}:∀(rs:List Rw),aS H rs->aS H (cK rs)
 |rs,h=>xH (gM h)
inductive oX(fl:List Rw):Str->Prop where
 |base {r:Rw}{x:Str}(h:r∈fl) (m:x∈r.told):oX fl x
 |step {p:Addr}{y x:Str}{t:Tm}(h:Rw.lt p y t∈fl) (n:oX fl y) (m:x∈t.names):oX fl x
def BhV(H:Hp)(kvs:List (Key×V))(fl:List Rw)(x:Str):Prop:=(cD kvs (Sum.inr x:Key)=none/\fl.flatMap (Rw.lets x)=[])\/∃l,cD kvs (Sum.inr x:Key)=some (.ref l)/\H l=some (.lst ((fl.flatMap (Rw.lets x)).map V.str))
def Bh(H:Hp)(d:Addr)(fl:List Rw):Prop:=∃kvs,H d=some (.dK kvs)/\∀x,BhV H kvs fl x
theorem Bh.same{H H':Hp}(s:aR H H'){d:Addr}{fl:List Rw}(h:Bh H d fl):Bh H' d fl:=by
 obtain⟨kvs,e,a⟩:=h;refine⟨kvs,s _ _ e,fun x=>?_⟩;rcases a x with h|⟨l,h1,h2⟩
 ·exact .inl h
 ·exact .inr ⟨l,h1,s _ _ h2⟩
inductive spNB(vs:List V)(H:Hp)(Q:VK)(z1:XK):Prop
 |mk:∀(lr:Addr) (xs:List Str) (fl:List Rw),(vs=[.ref lr])->(H lr=some (.lst (bA fl)))->(aS H fl)->((∀r∈fl,OkR xs r))->(fl.length<=1300)->(∀(d:Addr) (H':Hp),aR H H'->H d=none->Bh H' d fl->Q (.ref d) H')->spNB vs H Q z1
structure NdS(rs:List Rw)(ss:List Str):Prop where
 nd:ss.Nodup
 st:PyProof.Rows.sortedS ss=true
 mem:∀x,x∈ss↔oX (cK rs) x
theorem NdS.eq{rs:List Rw}{ss ts:List Str}(a:NdS rs ss)(b:NdS rs ts):ss=ts:=wM a.nd b.nd (fun x=>(a.mem x).trans (b.mem x).symm) a.st b.st
inductive spNeeded(vs:List V)(H:Hp)(Q:VK)(z1:XK):Prop
 |mk:∀(p:Addr) (xs:List Str) (rs:List Rw),(vs=[.ref p])->(jW H p xs rs)->(∀(r:Addr) (ss:List Str) (H':Hp),aR H H'->H' r=some (.tup (ss.map V.str))->NdS rs ss->Q (.ref r) H')->spNeeded vs H Q z1
def idl(ss:List Str)(r:Rw):Bool:=match r.sets with
 |some x=> !decide (x∈ss)
 |none=>false
inductive spIsI(vs:List V)(H:Hp)(Q:VK)(z1:XK):Prop
 |mk:∀(r:Rw) (np:Addr) (ss:List Str),(vs=[.ref r.p,.ref np])->(dO H r)->(H np=some (.tup (ss.map V.str)))->(Q (.bl (idl ss r)) H)->spIsI vs H Q z1
theorem aG6{n:Nat}(h:n<16777216):n<sizeLine:=by rw[nz];exact h
theorem OkR.asked{xs:List Str}{r:Rw}(h:OkR xs r):r.asked.length<=7/\∀y∈r.asked,y∈xs:=by
 cases r with
 |lt p x t=>have:=h t (au.mpr rfl);have:=t.names_len;exact⟨by show t.names.length<=7;lia,(h t (au.mpr rfl)).2⟩
 |tell p t=>have:=h t (au.mpr rfl);have:=t.names_len;exact⟨by show t.names.length<=7;lia,(h t (au.mpr rfl)).2⟩
 |when p pa pb t a b=>have:=h t (au.mpr rfl);have:=t.names_len;exact⟨by show t.names.length<=7;lia,(h t (au.mpr rfl)).2⟩
 |times p pb n b=>exact⟨bo _,fun y hy=>absurd hy bu⟩
 |thr p w x us vs=>exact⟨bo _,fun y hy=>absurd hy bu⟩
theorem aM9(r:Rw):∀x∈r.told,x∈r.asked:=by
 cases r<;>intro x h<;>first|exact h|exact absurd h bu
theorem bB8(r:Rw):r.told.length<=r.asked.length:=by
 cases r<;>first|exact ai _|exact bo _
theorem aR8(x:Str)(r:Rw):(r.lets x).length<=r.asked.length:=by
 cases r with
 |lt p z t=>simp only[Rw.lets,Rw.asked];split;exact ai _;exact bo _
 |_=>exact bo _
theorem uY{α:Type}{f:Rw->List α}{c:Nat}:∀{fl:List Rw},(∀r∈fl,(f r).length<=c)->(fl.flatMap f).length<=c*fl.length
 |[],_=>bo _
 |r::rs,h=>by
  have:=uY (f:=f) (c:=c) (fl:=rs) fun q hq=>h q (av _ hq)
  have:=h r az;rw[kj,aj,cf,Nat.mul_succ];lia
theorem bK3{α:Type}{f:Rw->List α}{fl:List Rw}{i:Nat}{r:Rw}(h:fl[i]?=some r):(fl.take (i+1)).flatMap f=(fl.take i).flatMap f++f r:=by
 rw[bE h,ig];simp
theorem tV{xs:List Str}{fl:List Rw}(ok:∀r∈fl,OkR xs r):(fl.flatMap Rw.told).length<=7*fl.length:=uY fun r h=>db (bB8 r) (ok r h).asked.1
theorem pA{xs:List Str}{fl:List Rw}(ok:∀r∈fl,OkR xs r)(x:Str):(fl.flatMap (Rw.lets x)).length<=7*fl.length:=uY fun r h=>db (aR8 x r) (ok r h).asked.1
theorem wR{xs:List Str}{fl:List Rw}(ok:∀r∈fl,OkR xs r){x:Str}(h:oX fl x):x∈xs:=by
 cases h with
 |base h m=>exact(ok _ h).asked.2 _ (aM9 _ _ m)
 |step h n m=>exact(ok _ h).asked.2 _ m
theorem aL4{fl:List Rw}{y x:Str}(n:oX fl y)(h:x∈fl.flatMap (Rw.lets y)):oX fl x:=by
 obtain⟨r,hr,hx⟩:=jq.mp h
 cases r with
 |lt p z t =>
  simp only[Rw.lets] at hx
  split at hx
  ·rename_i e;subst e;exact .step hr n hx
  ·exact absurd hx bu
 |_=>exact absurd hx bu
theorem aM5{fl:List Rw}{x:Str}(h:x∈fl.flatMap Rw.told):oX fl x:=by obtain⟨_,hr,hx⟩:=jq.mp h;exact  .base hr hx
structure WL(fl:List Rw)(fs ws:List Str):Prop where
 need:∀x,x∈fs\/x∈ws->oX fl x
 base:∀x∈fl.flatMap Rw.told,x∈fs\/x∈ws
 more:∀y∈fs,∀x∈fl.flatMap (Rw.lets y),x∈fs\/x∈ws
 nd:fs.Nodup
theorem WL.init(fl:List Rw):WL fl [] (fl.flatMap Rw.told):=⟨fun x h=>by
 rcases h with h|h
 ·exact absurd h bu
 ·exact aM5 h,fun x h=> .inr h,fun y h=>absurd h bu,sq⟩
theorem WL.skip{fl:List Rw}{fs ws:List Str}{x:Str}(h:WL fl fs (ws++[x]))(m:x∈fs):WL fl fs ws:=by
 have key:∀y,(y∈fs\/y∈ws++[x])->y∈fs\/y∈ws:=fun y hy=>by
  rcases hy with e|e
  ·exact .inl e
  ·rcases bz.mp e with e|e
   ·exact .inr e
   ·rw[au.mp e];exact .inl m
 exact⟨fun y hy=>h.need y (by rcases hy with e|e;exact .inl e;exact .inr (dj _ e)),fun y hy=>key y (h.base y hy),fun z hz y hy=>key y (h.more z hz y hy),h.nd⟩
theorem WL.take{fl:List Rw}{fs ws:List Str}{x:Str}(h:WL fl fs (ws++[x]))(m:x∉fs):WL fl (fs++[x]) (ws++fl.flatMap (Rw.lets x)):=by
 have nx:oX fl x:=h.need x (.inr (by simp));have key:∀y,(y∈fs\/y∈ws++[x])->y∈fs++[x]\/y∈ws++fl.flatMap (Rw.lets x):=fun y hy=>by
  rcases hy with e|e
  ·exact .inl (dj _ e)
  ·rcases bz.mp e with e|e
   ·exact .inr (dj _ e)
   ·exact .inl (bx _ e)
 refine⟨fun y hy=>?_,fun y hy=>key y (h.base y hy),fun z hz y hy=>?_,?_⟩
 ·rcases hy with e|e
  ·rcases bz.mp e with e|e
   ·exact h.need y (.inl e)
   ·rw[au.mp e];exact nx
  ·rcases bz.mp e with e|e
   ·exact h.need y (.inr (dj _ e))
   ·exact aL4 nx e
 ·rcases bz.mp hz with e|e
  ·exact key y (h.more z e y hy)
  ·rw[au.mp e] at hy;exact .inr (bx _ hy)
 ·rw[ki];refine⟨h.nd,by simp,fun a ha b hb e=>m ?_⟩;rw[<-au.mp hb, <-e];exact ha
theorem WL.done{fl:List Rw}{fs:List Str}(h:WL fl fs [])(x:Str):x∈fs↔oX fl x:=by
 refine⟨fun m=>h.need x (.inl m),fun n=>?_⟩;have key:∀y,(y∈fs\/y∈([]:List Str))->y∈fs:=fun y hy=>by
  rcases hy with e|e
  ·exact e
  ·exact absurd e bu
 induction n with
 |base h1 m=>exact key _ (h.base _ (jq.mpr ⟨_,h1,m⟩))
 |step h1 _ m ih=>exact key _ (h.more _ ih _ (jq.mpr ⟨_,h1,by simp only[Rw.lets];rw[bv trivial];exact m⟩))
def pot(fl:List Rw)(xs fs:List Str):Nat:=((xs.filter fun x=> !decide (x∈fs)).map fun x=>(fl.flatMap (Rw.lets x)).length).sum
theorem xL(fl:List Rw)(fs:List Str)(x:Str):∀xs:List Str,pot fl xs (fs++[x])<=pot fl xs fs
 |[]=>ai _
 |z::r=>by
  have ih:=xL fl fs x r;unfold pot at ih ⊢
  by_cases c:z∈fs
  ·rw[dy (by simp[c]),dy (by simp[c])];exact ih
  ·by_cases d:z=x
   ·rw[dy (by simp[d]),dm (by simp[c])];rw[en,lh];lia
   ·rw[dm (by simp[c,d]),dm (by simp[c])];rw[en,lh,en,lh];lia
theorem yT(fl:List Rw){fs:List Str}{x:Str}(hf:x∉fs):∀{xs:List Str},x∈xs->pot fl xs (fs++[x])+(fl.flatMap (Rw.lets x)).length<=pot fl xs fs
 |[],h=>absurd h bu
 |z::r,h=>by
  have mo:=xL fl fs x r
  by_cases d:z=x
  ·unfold pot at mo ⊢;rw[dy (by simp[d]),dm (by simp[d,hf])];rw[en,lh,d];lia
  ·have ih:=yT fl hf (xs:=r) (by rcases cj.mp h with e|e;exact absurd e.symm d;exact e);unfold pot at ih ⊢
   by_cases c:z∈fs
   ·rw[dy (by simp[c]),dy (by simp[c])];exact ih
   ·rw[dm (by simp[c,d]),dm (by simp[c])];rw[en,lh,en,lh];lia
theorem aP8{ys:List Str}{fl:List Rw}(ok:∀r∈fl,OkR ys r)(fs:List Str):∀xs:List Str,pot fl xs fs<=xs.length*(7*fl.length)
 |[]=>bo _
 |z::r=>by
  have ih:=aP8 ok fs r;have:=pA ok z;unfold pot at ih ⊢;rw[cf,se]
  by_cases c:z∈fs
  ·rw[dy (by simp[c])];lia
  ·rw[dm (by simp[c]),en,lh];lia
theorem aD1{α:Type}[DecidableEq α]:∀{ds xs:List α},ds.Nodup->(∀x∈ds,x∈xs)->ds.length<=xs.length
 |[],_,_,_=>bo _
 |d::ds,xs,nd,h=>by
  have hd:=h d az;have nd':=fk.mp nd;have:=aD1 (ds:=ds) (xs:=xs.erase d) nd'.2 fun x hx=>(List.mem_erase_of_ne (fun e=>nd'.1 (by rw[<-e];exact hx))).mpr (h x (av _ hx))
  have:=List.length_erase_of_mem hd;have:=List.length_pos_of_mem hd;rw[cf];lia
theorem bT4{H:Hp}{r:Rw}(h:dO H r)(c:r.w="let"):∃p x t,r= .lt p x t:=by
 cases r with
 |lt p x t=>exact⟨p,x,t,rfl⟩
 |thr p w x us vs =>
  have hw:w∈dR:=kQ.w h.2;have c:w="let":=c;rw[c] at hw;exact absurd hw (by decide)
 |tell p t=>exact absurd (show("tell": Str)="let" from c) (by decide)
 |when p pa pb t a b=>exact absurd (show("when": Str)="let" from c) (by decide)
 |times p pb n b=>exact absurd (show("times": Str)="let" from c) (by decide)
theorem aS2{r:Rw}(c:¬r.w="let")(x:Str):r.lets x=[]:=by
 cases r with
 |lt p y t=>exact absurd rfl c
 |_=>rfl
theorem bK8{H:Hp}{r:Rw}(h:dO H r)(c:r.w∈(["tell","when"]:List Str)):r.told=r.asked:=by
 cases r with
 |lt p y t=>exact absurd (show("let": Str)∈(["tell","when"]:List Str) from c) (by decide)
 |thr p w x us vs=>rfl
 |tell p t=>rfl
 |when p pa pb t a b=>rfl
 |times p pb n b=>rfl
theorem aQ9{r:Rw}(c:¬r.w∈(["tell","when"]:List Str)):r.told=[]:=by
 cases r with
 |tell p t=>exact absurd (show("tell": Str)∈(["tell","when"]:List Str) from az) c
 |when p pa pb t a b=>exact absurd (show("when": Str)∈(["tell","when"]:List Str) from av _ az) c
 |_=>rfl
structure BI(H G:Hp)(d:Addr)(kvs:List (Key×V))(fl:List Rw)(n:Nat):Prop where
 sm:aR H G
 nd:H d=none
 dc:G d=some (.dK kvs)
 ln:kvs.length<=n
 vl:∀x:Str,(cD kvs (Sum.inr x:Key)=none/\fl.flatMap (Rw.lets x)=[])\/∃l,cD kvs (Sum.inr x:Key)=some (.ref l)/\G l=some (.lst ((fl.flatMap (Rw.lets x)).map V.str))/\H l=none
 inj:∀(x y:Str) (l:Addr),cD kvs (Sum.inr x:Key)=some (.ref l)->cD kvs (Sum.inr y:Key)=some (.ref l)->x=y
theorem BI.same{H G G':Hp}{d:Addr}{kvs:List (Key×V)}{fl:List Rw}{n:Nat}(b:BI H G d kvs fl n)(s:aR G G'):BI H G' d kvs fl n:=
 ⟨b.sm.trans s,b.nd,s _ _ b.dc,b.ln,fun x=>by
  rcases b.vl x with h|⟨l,h1,h2,h3⟩
  ·exact .inl h
  ·exact .inr ⟨l,h1,s _ _ h2,h3⟩,b.inj⟩
theorem BI.bh{H G:Hp}{d:Addr}{kvs:List (Key×V)}{fl:List Rw}{n:Nat}(b:BI H G d kvs fl n):Bh G d fl:=⟨kvs,b.dc,fun x=>by
 rcases b.vl x with h|⟨l,h1,h2,_⟩
 ·exact .inl h
 ·exact .inr ⟨l,h1,h2⟩⟩
theorem aF8{α:Type}(f:Rw->List α)(fl:List Rw)(r:Rw):(fl++[r]).flatMap f=fl.flatMap f++f r:=by
 rw[ig];simp
theorem BI.skip{H G:Hp}{d:Addr}{kvs:List (Key×V)}{fl:List Rw}{n:Nat}{r:Rw}(b:BI H G d kvs fl n)(h:∀x,r.lets x=[]):BI H G d kvs (fl++[r]) (n+1):=
 ⟨b.sm,b.nd,b.dc,ze b.ln,fun x=>by rw[aF8,h x,gv];exact b.vl x,b.inj⟩
theorem BI.more{H G:Hp}{d l:Addr}{kvs:List (Key×V)}{fl:List Rw}{p:Addr}{x:Str}{t:Tm}{n:Nat}(b:BI H G d kvs fl n)(e:cD kvs (Sum.inr x:Key)=some (.ref l)) :
  BI H (aO G l (.lst ((fl.flatMap (Rw.lets x)).map V.str++t.names.map V.str))) d kvs (fl++[.lt p x t]) n:=by
 have hx:G l=some (.lst ((fl.flatMap (Rw.lets x)).map V.str))/\H l=none:=by
  rcases b.vl x with⟨h,_⟩|⟨l',h1,h2,h3⟩
  ·rw[h] at e;cases e
  ·rw[h1] at e;cases e;exact⟨h2,h3⟩
 refine⟨cV b.sm hx.2,b.nd,?_,b.ln,fun y=>?_,b.inj⟩
 ·rw[aH (gH b.dc hx.1 (by intro z;cases z))];exact b.dc
 ·rw[aF8]
  by_cases c:y=x
  ·subst c;refine .inr ⟨l,e,?_,hx.2⟩;rw[aC,show(Rw.lt p y t).lets y=t.names from bv rfl,cy]
  ·rw[show(Rw.lt p x t).lets y=[] from ay (fun z=>c z.symm),gv];rcases b.vl y with h|⟨l',h1,h2,h3⟩
   ·exact .inl h
   ·refine .inr ⟨l',h1,?_,h3⟩;rw[aH (fun z=>c (b.inj y x l (by rw[<-z];exact h1) e))];exact h2
theorem BI.new{H G:Hp}{d l:Addr}{kvs:List (Key×V)}{fl:List Rw}{x:Str}{n:Nat}(b:BI H G d kvs fl n)(hl:G l=none)(e:cD kvs (Sum.inr x:Key)=none) :
  BI H (aO (aO G l (.lst [])) d (.dK (dB kvs (Sum.inr x:Key) (.ref l)))) d (dB kvs (Sum.inr x:Key) (.ref l)) fl (n+1):=by
 have n0:H l=none:=b.sm.free hl;have ne:d≠l:=aI b.dc hl;refine⟨fun a o h=>?_,b.nd,aC,?_,fun y=>?_,fun y z l' h1 h2=>?_⟩
 ·rw[aH (aI h b.nd),aH (aI h n0)];exact b.sm _ _ h
 ·have:=eU kvs (Sum.inr x:Key) (.ref l);have:=b.ln;lia
 ·rw[lN]
  by_cases c:y=x
  ·subst c;have ev:fl.flatMap (Rw.lets y)=[]:=by
    rcases b.vl y with⟨_,h⟩|⟨l',h1,_⟩
    ·exact h
    ·rw[h1] at e;cases e
   refine .inr ⟨l,bv rfl,?_,n0⟩;rw[aH ne.symm,aC,ev];rfl
  ·rw[ay (fun z=>c (pz z))];rcases b.vl y with h|⟨l',h1,h2,h3⟩
   ·exact .inl h
   ·refine .inr ⟨l',h1,?_,h3⟩;rw[aH (gH h2 b.dc (by intro z;cases z)),aH (aI h2 hl)];exact h2
 ·have fr:∀w,cD kvs (Sum.inr w:Key)=some (.ref l)->False:=fun w h=>by
   rcases b.vl w with⟨h1,_⟩|⟨l2,h1,h2,_⟩
   ·rw[h1] at h;cases h
   ·rw[h1] at h;cases h;rw[h2] at hl;cases hl
  rw[lN] at h1 h2
  by_cases c:y=x
  ·by_cases c2:z=x
   ·rw[c,c2]
   ·rw[bv (by rw[c])] at h1;rw[ay (fun q=>c2 (pz q))] at h2
    cases h1
    exact(fr z h2).elim
  ·rw[ay (fun q=>c (pz q))] at h1
   by_cases c2:z=x
   ·rw[bv (by rw[c2])] at h2
    cases h2
    exact(fr y h1).elim
   ·rw[ay (fun q=>c2 (pz q))] at h2;exact b.inj y z l' h1 h2
def xG(fs:List Str):List (Key×V):=fs.map fun x=>((Sum.inr x:Key),V.bl true)
theorem yW(x:Str):∀fs:List Str,cD (xG fs) (Sum.inr x:Key)=if x∈fs then some (.bl true) else none
 |[]=>rfl
 |y::r=>by
  show cD (((Sum.inr y:Key),V.bl true)::xG r) (Sum.inr x:Key)=_
  by_cases c:y=x
  ·rw[cE (by rw[c]),bv (by rw[c];exact az)]
  ·rw[bR (fun z=>c (pz z)),yW x r];have:x∈y::r↔x∈r:=by rw[cj];exact⟨fun h=>by rcases h with e|e;exact absurd e.symm c;exact e,.inr⟩
   simp only[this]
theorem bU8{fs:List Str}{x:Str}(h:x∉fs):dB (xG fs) (Sum.inr x:Key) (.bl true)=xG (fs++[x]):=by
 rw[nR _ (by rw[yW,ay h])];unfold xG;rw[cy];rfl
theorem bD7(fs:List Str):(xG fs).map (fun e=>kV e.1)=fs.map V.str:=by
 unfold xG;rw[rn];rfl
theorem aX9(fs:List Str):(xG fs).length=fs.length:=ae _
theorem BI.up{H G:Hp}{d:Addr}{kvs:List (Key×V)}{fl:List Rw}{n m:Nat}(b:BI H G d kvs fl n)(h:n<=m):BI H G d kvs fl m:=⟨b.sm,b.nd,b.dc,db b.ln h,b.vl,b.inj⟩
theorem aD2{xs:List Str}{fl:List Rw}{i:Nat}{x:Str}{t:Tm}{p:Addr}(ok:∀r∈fl,OkR xs r)(hn:fl.length<=1300)(h:OkR xs (.lt p x t)):(((fl.take i).flatMap (Rw.lets x)).map V.str).length+(t.names.map V.str).length<=sizeLine:=by
 have h1:=pA (fl:=fl.take i) (fun r hr=>ok r (sf hr)) x;have h2:=h.asked.1;have h2:t.names.length<=7:=h2;rw[du] at h1;rw[ae,ae];exact cu (aG6 (by lia))
theorem bM1{H:Hp}{a:Addr}{kvs:List (Key×V)}(e:H a=some (.dK kvs)):IsD H a:= .inl ⟨_,.inl e⟩
theorem aN7{ss:List Str}{r:Rw}{x:Str}(h:r.sets=some x):idl ss r= !decide (x∈ss):=by unfold idl;rw[h]
theorem aS6{ss:List Str}{r:Rw}(h:r.sets=none):idl ss r=false:=by unfold idl;rw[h]
theorem aC7(x:Str)(ss:List Str):(!yL (V.str x) (ss.map V.str))= !decide (x∈ss):=by rw[gY]
theorem jW.okf{H:Hp}{p:Addr}{xs:List Str}{rs:List Rw}(P:jW H p xs rs):∀r∈cK rs,OkR xs r:=P.ok
theorem jW.fl{H:Hp}{p:Addr}{xs:List Str}{rs:List Rw}(P:jW H p xs rs):(cK rs).length<=1300:=by rw[dG];exact P.cnt
theorem aN3{α:Type}{l:List α}(h:1<=l.length):∃a r,l=a::r:=by
 cases l with
 |nil=>cases h
 |cons a r=>exact⟨a,r,rfl⟩
abbrev Fr:=Int×Int
abbrev Prc:=Fr×Fr
def dH(c w:Int):Fr:=(dW c w,dE c w)
theorem aE5{a b c d:Int}(ha:0<=a)(hb:1<=b)(hc:0<=c)(hd:1<=d)(h:a*d=c*b):dH a b=dH c d:=by
 have e:=zJ ha hb hc hd h;unfold dH;rw[e.1,e.2]
def tF(u e:Fr):Fr:=dH (u.1*e.2+e.1*u.2) (u.2*e.2)
def gU(u e:Fr):Fr:=dH (u.1*e.1) (u.2*e.2)
structure mQ(u:Fr):Prop where
 a:0<=u.1
 b:1<=u.2
 l:dH u.1 u.2=u
theorem iD{a b:Int}(ha:0<=a)(hb:1<=b):mQ (dH a b):=by
 have e:=bK2 ha hb;refine⟨fU ha,jR hb,?_⟩;show(dW (dW a b) (dE a b),dE (dW a b) (dE a b))=(dW a b,dE a b)
 rw[e.1,e.2]
theorem aH8:mQ (1,1):=⟨by decide,by decide,by decide⟩
theorem qW:mQ (0,1):=⟨by decide,by decide,by decide⟩
theorem bJ8{u e:Fr}(hu:mQ u)(he:mQ e):mQ (gU u e):=by
 refine iD (de hu.a he.a) ?_;have:=jj (show 0<u.2 by have:=hu.b;lia) (show 0<e.2 by have:=he.b;lia);lia
theorem bD8{u e:Fr}(hu:mQ u)(he:mQ e):mQ (tF u e):=by
 have a1:=hu.a;have a2:=hu.b;have b1:=he.a;have b2:=he.b;have m1:=de a1 (show 0<=e.2 by lia);have m2:=de b1 (show 0<=u.2 by lia);have:=jj (show 0<u.2 by lia) (show 0<e.2 by lia);exact iD (by lia) (by lia)
theorem bF9{u:Fr}(h:mQ u):gU u (1,1)=u:=by
 show dH (u.1*1) (u.2*1)=u;rw[lm,lm];exact h.l
theorem bG2{u:Fr}(h:mQ u):gU (1,1) u=u:=by
 show dH (1*u.1) (1*u.2)=u;rw[we,we];exact h.l
theorem bB3{u:Fr}(h:mQ u):tF u (0,1)=u:=by
 show dH (u.1*1+0*u.2) (u.2*1)=u;rw[lm,lm,Int.zero_mul,Int.add_zero];exact h.l
theorem aP6{u:Fr}(h:mQ u):tF (0,1) u=u:=by
 show dH (0*u.2+u.1*1) (1*u.2)=u;rw[lm,we,Int.zero_mul,rq];exact h.l
structure fV(n:Nat)(u:Fr):Prop where
 a:0<=u.1
 b:1<=u.2
 ba:bT n u.1
 bb:bT n u.2
theorem fV.mono{m n:Nat}{u:Fr}(h:fV m u)(l:m<=n):fV n u:=⟨h.a,h.b,h.ba.mono l,h.bb.mono l⟩
theorem sI{n:Nat}{a w:Int}(a0:0<=a)(a1:bT n a)(w1:1<=w)(w2:bT n w):fV n (dH a w):=by
 have p1:=fU (b:=w) a0;have p2:=jR (a:=a) w1;have p3:=aF2 (b:=w) a0 w1;have p4:=aH5 (a:=a) w1;refine⟨p1,p2,cq ?_ a1,cq ?_ w2⟩
 ·show(dW a w).natAbs<=a.natAbs;lia
 ·show(dE a w).natAbs<=w.natAbs;lia
theorem cB5{m n:Nat}{u e:Fr}(hu:fV m u)(he:fV n e):fV (m+n) (gU u e):=by
 refine sI (de hu.a he.a) (hu.ba.mul he.ba) ?_ (hu.bb.mul he.bb);have:=jj (show 0<u.2 by have:=hu.b;lia) (show 0<e.2 by have:=he.b;lia);lia
theorem cD7{m n:Nat}{u e:Fr}(hu:fV m u)(he:fV n e):fV (m+n+1) (tF u e):=by
 have a1:=hu.a;have a2:=hu.b;have b1:=he.a;have b2:=he.b;have m1:=de a1 (show 0<=e.2 by lia);have m2:=de b1 (show 0<=u.2 by lia);have:=jj (show 0<u.2 by lia) (show 0<e.2 by lia);exact sI (by lia) ((hu.ba.mul he.bb).add ((he.ba.mul hu.bb).mono (by lia))) (by lia) ((hu.bb.mul he.bb).mono (by lia))
def free:Prc:=((1,1),(0,1))
structure cO(p:Prc):Prop where
 f:mQ p.1
 r:mQ p.2
theorem fB:cO free:=⟨aH8,qW⟩
def iR(acc p:Prc):Prc:=(gU acc.1 p.1,tF acc.2 p.2)
def fN(ps:List Prc):Prc:=ps.foldl iR free
theorem sL(ps:List Prc)(p:Prc):fN (ps++[p])=iR (fN ps) p:=by unfold fN;rw[zf];rfl
theorem lA{a p:Prc}(h:cO a)(k:cO p):cO (iR a p):=⟨bJ8 h.f k.f,bD8 h.r k.r⟩
theorem xV:∀{ps:List Prc}{a:Prc},cO a->(∀p∈ps,cO p)->cO (ps.foldl iR a)
 |[],_,h,_=>h
 |p::ps,a,h,k=>by
  rw[ja];exact xV (ps:=ps) (lA h (k p az)) fun q hq=>k q (av _ hq)
theorem qA{ps:List Prc}(h:∀p∈ps,cO p):cO (fN ps):=xV fB h
def kD(a b:Fr):Fr:=if a.1*b.2<b.1*a.2 then b else a
def nM(a b:Prc):Prc:=(kD a.1 b.1,kD a.2 b.2)
theorem iH(a b:Fr):kD a b=a\/kD a b=b:=by unfold kD;split;exact .inr rfl;exact .inl rfl
theorem aZ6{a b:Prc}(h:cO a)(k:cO b):cO (nM a b):=by
 refine⟨?_,?_⟩
 ·show mQ (kD a.1 b.1);rcases iH a.1 b.1 with e|e<;>rw[e];exact h.f;exact k.f
 ·show mQ (kD a.2 b.2);rcases iH a.2 b.2 with e|e<;>rw[e];exact h.r;exact k.r
def gE(n:Nat)(a:Prc):Prc:=((a.1.1^n,a.1.2^n),dH (a.2.1*n) (a.2.2*1))
theorem aD3{x y:Int}(hx:0<=x)(hy:1<=y)(h:dH x y=(x,y))(n:Nat):dH (x^n) (y^n)=(x^n,y^n):=by
 obtain⟨a,rfl⟩:=dw hx;obtain⟨b,rfl⟩:=dw (show 0<=y by lia);have b0:0<b:=by lia
 have g1:Nat.gcd a b=1:=by
  have e:dE (a:Int) (b:Int)=(b:Int):=(Prod.mk.inj h).2;unfold dE gI at e;rw[dz,dz, <-Int.natCast_ediv] at e;have e:b / Nat.gcd a b=b:=Int.ofNat_inj.mp e;have gp:0<Nat.gcd a b:=uz _ b0;have d:=zc a b;have m:=Nat.div_mul_cancel d;rw[e] at m;have:b*Nat.gcd a b=b*1:=by rw[m,Nat.mul_one]
  exact Nat.eq_of_mul_eq_mul_left b0 this
 have g2:Nat.gcd (a^n) (b^n)=1:=by
  have:Nat.Coprime a b:=g1;exact Nat.Coprime.pow n n this
 unfold dH dW dE gI;rw[<-Int.natCast_pow, <-Int.natCast_pow,dz,dz,g2];simp
theorem aG3{a:Prc}(h:cO a):∀n:Nat,fN (List.replicate n a)=gE n a
 |0=>by
  show free=_;unfold gE free;have e:dH (a.2.1*((0:Nat):Int)) (a.2.2*1)=(0,1):=by
   have:=aE5 (a:=a.2.1*((0:Nat):Int)) (b:=a.2.2*1) (c:=0) (d:=1) (by lia) (by have:=h.r.b;lia) (by decide) (by decide) (by simp);rw[this];decide
  rw[e,mq,mq]
 |n+1=>by
  rw[sh,sL,aG3 h n];have h1:=h.f.a;have h2:=h.f.b;have h3:=h.r.a;have h4:=h.r.b;unfold iR gE;refine wy ?_ ?_
  ·show gU (a.1.1^n,a.1.2^n) a.1=(a.1.1^(n+1),a.1.2^(n+1))
   show dH (a.1.1^n*a.1.1) (a.1.2^n*a.1.2)=_;rw[<-js, <-js];exact aD3 h1 h2 h.f.l (n+1)
  ·show tF (dH (a.2.1*(n:Int)) (a.2.2*1)) a.2=dH (a.2.1*((n+1:Nat):Int)) (a.2.2*1);have n0:=de h3 (show 0<=(n:Int) by lia);have r:=oO (a:=a.2.1*(n:Int)) (b:=a.2.2*1) n0 (by lia);have q1:=fU (b:=a.2.2*1) n0;have q2:=jR (a:=a.2.1*(n:Int)) (show 1<=a.2.2*1 by lia);show dH (dW (a.2.1*(n:Int)) (a.2.2*1)*a.2.2+a.2.1*dE (a.2.1*(n:Int)) (a.2.2*1)) (dE (a.2.1*(n:Int)) (a.2.2*1)*a.2.2)=_;generalize dW (a.2.1*(n:Int)) (a.2.2*1)=x at *;generalize dE (a.2.1*(n:Int)) (a.2.2*1)=y at *;have m1:=de q1 (show 0<=a.2.2 by lia);have m2:=de h3 (show 0<=y by lia);have m3:=jj (show 0<y by lia) (show 0<a.2.2 by lia);refine aE5 (by lia) (by lia) (de h3 (by lia)) (by lia) ?_;rw[vq];rw[lm] at r ⊢;generalize (n:Int)=N at *
   grind
def bI0(ns:List Int):Int:=ns.foldl max 0
theorem pK:∀(ns:List Int) (a:Int),a<=ns.foldl max a/\(∀n∈ns,n<=ns.foldl max a)/\(ns.foldl max a=a\/ns.foldl max a∈ns)
 |[],a=>⟨ji _,fun _ h=>absurd h bu,.inl rfl⟩
 |m::ns,a=>by
  obtain⟨h1,h2,h3⟩:=pK ns (max a m);rw[ja];refine⟨by lia,fun n hn=>?_,?_⟩
  ·rcases cj.mp hn with rfl|hn
   ·lia
   ·exact h2 n hn
  ·rcases h3 with e|e
   ·rcases(show max a m=a\/max a m=m by lia) with z|z
    ·left;rw[e,z]
    ·right;rw[e,z];exact az
   ·exact .inr (av _ e)
theorem bE2{ns:List Int}(h0:∀n∈ns,0<=n){i:Int}(hi:i∈ns)(hb:∀n∈ns,n<=i):i=bI0 ns:=by
 obtain⟨h1,h2,h3⟩:=pK ns 0;have a:=h2 i hi;have b:=h0 i hi;unfold bI0;rcases h3 with e|e
 ·lia
 ·have:=hb _ e;lia
def wK(d:TD)(k:Nat):Int:=bI0 (d.wss.map fun ws=>ws.getD k 0)
theorem bM9{d:TD}(h:aT9 d)(k:Nat):0<=wK d k/\wK d k<=3:=by
 obtain⟨h1,h2,h3⟩:=pK (d.wss.map fun ws=>ws.getD k 0) 0;refine⟨h1,?_⟩;unfold wK bI0;rcases h3 with e|e
 ·lia
 ·obtain⟨ws,hw,e2⟩:=fj.mp e;rw[<-e2,fq]
  cases q:ws[k]? with
  |none=>exact by decide
  |some y=>exact((h.ws ws hw).2 y (bj q)).2
def pW(T:wA)(w:Int):Prc:=if w=0 then free else match T with
 |.lad p q _ _=>((q^w.toNat,p^w.toNat),(0,1))
 |.fla r _ _=>((1,1),dH (if 2*r+1<w then 2*r+1 else w) (2*r+1))
 |.cho p q _ _=>((q^w.toNat,p^w.toNat),(0,1))
 |.fst pa qa pb qb mk _ hi=>(dH (qa^w.toNat*qb^(2*w).toNat) (pa^w.toNat*pb^(2*w).toNat),dH (tN pa qa (hi-w-mk)) (tD pa qa (hi-w-mk)))
theorem pw1{p:Int}(h:1<=p)(n:Nat):1<=p^n:=by have:0<p^n:=wb (by lia);lia
theorem b4{p:Int}(h0:0<=p)(h9:p<=9):bT 4 p:= .of h0 (by lia)
theorem pwb{p:Int}(h0:0<=p)(h9:p<=9){n:Nat}(hn:n<=6):bT 25 (p^n):=(bT.pow (b4 h0 h9) n).mono (by lia)
theorem sX.low{p q:Int}(c:sX p q):dH q p=(q,p):=by
 have p1:=c.st.p1;have pq:=c.st.pq;unfold dH dW dE gI;rw[yj,c.co];simp
theorem cL5{p q k:Int}(s:wT p q)(k0: -3<=k)(k9:k<=9):bT 42 (tD p q k)/\1<=tD p q k/\0<=tN p q k/\tN p q k<=tD p q k:=by
 have p1:=s.p1;have pq:=s.pq;have q9:=s.q9;have sb:∀n:Nat,n<=9->bT 42 (sS p q n):=fun n hn=>by
  unfold sS;exact((bT.of (n:=5) (i:=q+p) (by lia) (by lia)).mul (bT.pow (b4 (p:=q) (by lia) q9) n)).mono (by lia)
 refine⟨?_,bZ1 p1 pq k,cA1 p1 pq k,?_⟩
 ·unfold tD
  split
  ·exact sb _ (by lia)
  ·exact sb _ (by lia)
 ·unfold tN tD
  split
  ·exact aD9 p1 pq _
  ·have:=bO2 p1 pq (1-k).toNat;lia
theorem bY3{T:wA}(h:T.Ok){w:Int}(w0:0<=w)(w3:w<=3):cO (pW T w)/\fV 60 (pW T w).1/\fV 60 (pW T w).2:=by
 have b1:fV 60 ((1,1):Fr):=⟨by decide,by decide,by unfold bT;decide,by unfold bT;decide⟩
 have b0:fV 60 ((0,1):Fr):=⟨by decide,by decide,by unfold bT;decide,by unfold bT;decide⟩
 unfold pW
 split
 ·exact⟨fB,b1,b0⟩
 have lc:∀{p q:Int},sX p q->mQ (q^w.toNat,p^w.toNat)/\fV 60 (q^w.toNat,p^w.toNat):=fun {p q} c=>by
  have p1:=c.st.p1;have pq:=c.st.pq;have q9:=c.st.q9;have e:=aD3 (x:=q) (y:=p) (by lia) p1 c.low w.toNat;exact⟨⟨ik (by lia),pw1 p1 _,e⟩,⟨ik (by lia),pw1 p1 _,(pwb (by lia) q9 (by lia)).mono (by decide),(pwb (by lia) (by lia) (by lia)).mono (by decide)⟩⟩
 cases T with
 |lad p q lo hi=>have c:=lc h;exact⟨⟨c.1,qW⟩,c.2,b0⟩
 |cho p q lo hi=>have c:=lc h;exact⟨⟨c.1,qW⟩,c.2,b0⟩
 |fla r lo hi =>
  obtain⟨r0,r4⟩:=h;have m0:0<=(if 2*r+1<w then 2*r+1 else w)/\(if 2*r+1<w then 2*r+1 else w)<=3:=by split<;>lia
  refine⟨⟨aH8,iD m0.1 (by lia)⟩,b1,sI m0.1 (.of m0.1 (by lia)) (by lia) (.of (by lia) (by lia))⟩
 |fst pa qa pb qb mk lo hi =>
  obtain⟨ca,cb,k0,k9⟩:=h;have p1:=ca.st.p1;have pq:=ca.st.pq;have q9:=ca.st.q9;have p1':=cb.st.p1;have pq':=cb.st.pq;have q9':=cb.st.q9;have t:=cL5 ca.st (k:=hi-w-mk) (by lia) (by lia);have m1:0<=qa^w.toNat*qb^(2*w).toNat:=de (ik (by lia)) (ik (by lia));have m2:1<=pa^w.toNat*pb^(2*w).toNat:=by
   have:=jj (show 0<pa^w.toNat by have:=pw1 p1 w.toNat;lia) (show 0<pb^(2*w).toNat by have:=pw1 p1' (2*w).toNat;lia);lia
  have bn:bT 60 (tN pa qa (hi-w-mk)):=cq (show(tN pa qa (hi-w-mk)).natAbs<=(tD pa qa (hi-w-mk)).natAbs by lia) (t.1.mono (by decide));exact⟨⟨iD m1 m2,iD t.2.2.1 t.2.1⟩,sI m1 (((pwb (by lia) q9 (by lia)).mul (pwb (by lia) q9' (by lia))).mono (by decide)) m2 (((pwb (by lia) (by lia) (by lia)).mul (pwb (by lia) (by lia) (by lia))).mono (by decide)),sI t.2.2.1 bn t.2.1 (t.1.mono (by decide))⟩
mutual
def lT(ss:List Str)(k:Nat):Rw->Prc
 |.thr _ _ x _ d=>if x∈ss then pW d.T (wK d k) else free
 |.lt _ _ _=>free
 |.tell _ _=>free
 |.when _ _ _ _ a b=>nM (fN (xK ss k a)) (fN (xK ss k b))
 |.times _ _ n b=>gE n.toNat (fN (xK ss k b))
def xK(ss:List Str)(k:Nat):List Rw->List Prc
 |[]=>[]
 |r::rs=>lT ss k r::xK ss k rs
end
theorem mR(ss:List Str)(k:Nat):∀rs:List Rw,xK ss k rs=rs.map (lT ss k)
 |[]=>rfl
 |r::rs=>by simp only[xK,List.map_cons,mR ss k rs]
def iT(ss:List Str)(k:Nat)(rs:List Rw):Prc:=fN (xK ss k rs)
def bdL(n:Nat):Nat:=80*n-10
structure PB(n:Nat)(p:Prc):Prop where
 z:n=0->p=free
 f:1<=n->fV (bdL n) p.1
 r:1<=n->fV (bdL n) p.2
theorem fb1{n:Nat}(h:1<=n):fV n ((1,1):Fr)/\fV n ((0,1):Fr):=by
 have b:∀i:Int,i.natAbs<=1->bT n i:=fun i hi=>by
  unfold bT;have:2^1<=2^n:=xi (by decide) h;lia
 exact⟨⟨by decide,by decide,b _ (by decide),b _ (by decide)⟩,⟨by decide,by decide,b _ (by decide),b _ (by decide)⟩⟩
theorem PB.up{m n:Nat}{p:Prc}(h:PB m p)(l:m<=n)(n1:1<=n):fV (bdL n) p.1/\fV (bdL n) p.2:=by
 by_cases c:m=0
 ·rw[h.z c];have:=fb1 (n:=bdL n) (by unfold bdL;lia);exact⟨this.1,this.2⟩
 ·exact⟨(h.f (by lia)).mono (by unfold bdL;lia),(h.r (by lia)).mono (by unfold bdL;lia)⟩
theorem PB.step{m n:Nat}{a p:Prc}(ha:PB m a)(hp:PB n p)(ra:cO a)(rp:cO p):PB (m+n) (iR a p):=by
 by_cases c:n=0
 ·have e:iR a p=a:=by rw[hp.z c];exact wy (bF9 ra.f) (bB3 ra.r)
  rw[e,c];exact ha
 ·by_cases d:m=0
  ·have e:iR a p=p:=by rw[ha.z d];exact wy (bG2 rp.f) (aP6 rp.r)
   rw[e,d,rj];exact hp
  ·have b1:=ha.f (by lia);have b2:=ha.r (by lia);have b3:=hp.f (by lia);have b4:=hp.r (by lia);exact⟨fun z=>absurd z (by lia),fun _=>(cB5 b1 b3).mono (by unfold bdL;lia),fun _=>(cD7 b2 b4).mono (by unfold bdL;lia)⟩
theorem qH:PB 0 free:=⟨fun _=>rfl,fun h=>absurd h (by decide),fun h=>absurd h (by decide)⟩
theorem PB.when{m n:Nat}{a b:Prc}(ha:PB m a)(hb:PB n b):PB (m+n) (nM a b):=by
 refine⟨fun z=>?_,fun h=>?_,fun h=>?_⟩
 ·rw[ha.z (by lia),hb.z (by lia)];unfold nM kD free;decide
 ·rcases iH a.1 b.1 with e|e
  ·show fV _ (kD a.1 b.1);rw[e];exact(ha.up (by lia) h).1
  ·show fV _ (kD a.1 b.1);rw[e];exact(hb.up (by lia) h).1
 ·rcases iH a.2 b.2 with e|e
  ·show fV _ (kD a.2 b.2);rw[e];exact(ha.up (by lia) h).2
  ·show fV _ (kD a.2 b.2);rw[e];exact(hb.up (by lia) h).2
theorem aR0{m:Nat}{a:Prc}(ha:PB m a)(ra:cO a):∀n:Nat,PB (n*m) (fN (List.replicate n a))/\cO (fN (List.replicate n a))
 |0=>by rw[Nat.zero_mul];exact⟨qH,fB⟩
 |n+1=>by
  obtain⟨i1,i2⟩:=aR0 ha ra n;rw[sh,sL,se];exact⟨i1.step ha i2 ra,lA i2 ra⟩
theorem pbz{ps:List Prc}{n:Nat}(h:∀(a:Prc) (m:Nat),cO a->PB m a->PB (m+n) (ps.foldl iR a)):PB n (fN ps):=by
 have:=h free 0 fB qH;rw[rj] at this;exact this
mutual
theorem fZ{H:Hp}(ss:List Str)(k:Nat):∀(r:Rw),dO H r->cO (lT ss k r)/\PB (lY r) (lT ss k r)
 |.thr p w x us d,h=>by
  have wk:=bM9 h.2.ws k;have t:=bY3 h.2.ok wk.1 wk.2;simp only[lT,lY]
  split
  ·exact⟨t.1,fun z=>absurd z (by decide),fun _=>t.2.1.mono (by decide),fun _=>t.2.2.mono (by decide)⟩
  ·exact⟨fB,fun z=>absurd z (by decide),fun _=>(fb1 (by decide)).1,fun _=>(fb1 (by decide)).2⟩
 |.lt _ _ _,_=>by simp only[lT,lY];exact⟨fB,qH⟩
 |.tell _ _,_=>by simp only[lT,lY];exact⟨fB,qH⟩
 |.when _ _ _ _ a b,h=>by
  have i:=pM ss k a h.2.2.2.2.2.1;have j:=pM ss k b h.2.2.2.2.2.2;simp only[lT,lY];exact⟨aZ6 (qA i.1) (qA j.1),(pbz i.2).when (pbz j.2)⟩
 |.times _ _ n b,h=>by
  have i:=pM ss k b h.2.2;have s:=qA i.1;simp only[lT,lY];rw[<-aG3 s];have r:=aR0 (pbz i.2) s n.toNat;exact⟨r.2,r.1⟩
theorem pM{H:Hp}(ss:List Str)(k:Nat):∀(rs:List Rw),aS H rs->(∀p∈xK ss k rs,cO p)/\∀(a:Prc) (m:Nat),cO a->PB m a->PB (m+iL rs) ((xK ss k rs).foldl iR a)
 |[],_=>by simp only[xK,iL];exact⟨fun _ z=>absurd z bu,fun a m _ h=>h⟩
 |r::rs,⟨h,hs⟩=>by
  have i:=fZ ss k r h;have j:=pM ss k rs hs;simp only[xK,iL];refine⟨fun p hp=>?_,fun a m ra pa=>?_⟩
  ·rcases cj.mp hp with rfl|hp
   ·exact i.1
   ·exact j.1 p hp
  ·rw[ja, <-xp];exact j.2 _ _ (lA ra i.1) (pa.step i.2 ra i.1)
end
theorem gC{H:Hp}(ss:List Str)(k:Nat){rs:List Rw}(h:aS H rs):cO (iT ss k rs)/\PB (iL rs) (iT ss k rs):=⟨qA (pM ss k rs h).1,pbz (pM ss k rs h).2⟩
inductive Pt where
 |rows (p:Addr) (rs:List Rw)
 |row (r:Rw)
def Pt.p:Pt->Addr
 |.rows p _=>p
 |.row r=>r.p
def PtH(H:Hp):Pt->Prop
 |.rows p rs=>H p=some (.tup (bA rs))/\aS H rs
 |.row r=>dO H r
theorem PtH.ts{H H':Hp}(t:TS H H'):∀{e:Pt},PtH H e->PtH H' e
 |.rows _ rs,h=>⟨t _ _ h.1,aS.ts t rs h.2⟩
 |.row r,h=>dO.ts t r h
def Pt.kids:Pt->List Pt
 |.rows _ rs=>rs.map Pt.row
 |.row (.when _ pa pb _ a b)=>[.rows pa a,.rows pb b]
 |.row (.times _ pb _ b)=>[.rows pb b]
 |.row (.thr _ _ _ _ _)=>[]
 |.row (.lt _ _ _)=>[]
 |.row (.tell _ _)=>[]
def Pt.pr(ss:List Str)(k:Nat):Pt->Prc
 |.rows _ rs=>iT ss k rs
 |.row r=>lT ss k r
def Pt.ld:Pt->Nat
 |.rows _ rs=>iL rs
 |.row r=>lY r
abbrev Plc:=List Int
abbrev PP:=Plc×Pt
def jS(pl:Plc)(i:Nat):List Pt->List PP
 |[]=>[]
 |c::cs=>(pl++[(i:Int)],c)::jS pl (i+1) cs
def eE(e:PP):List PP:=jS e.1 0 e.2.kids
theorem wZ(pl:Plc):∀(i:Nat) (cs:List Pt),(jS pl i cs).length=cs.length
 |_,[]=>rfl
 |i,_::cs=>by simp only[jS,List.length_cons,wZ pl (i+1) cs]
theorem aD4(pl:Plc):∀(i j:Nat) (cs:List Pt),(jS pl i cs)[j]?=(cs[j]?).map fun c=>(pl++[((i+j:Nat):Int)],c)
 |_,_,[]=>by simp[jS]
 |i,0,c::cs=>by simp[jS]
 |i,j+1,c::cs=>by
  simp only[jS,List.getElem?_cons_succ];rw[aD4 pl (i+1) j cs,show i+1+j=i+(j+1) by lia]
mutual
def cZ(pl:Plc):Rw->List PP
 |.when p pa pb t a b=>(cQ (pl++[0]) 0 a++[(pl++[0],.rows pa a)])++(cQ (pl++[1]) 0 b++[(pl++[1],.rows pb b)])++[(pl,.row (.when p pa pb t a b))]
 |.times p pb n b=>(cQ (pl++[0]) 0 b++[(pl++[0],.rows pb b)])++[(pl,.row (.times p pb n b))]
 |.thr p w x us d=>[(pl,.row (.thr p w x us d))]
 |.lt p x t=>[(pl,.row (.lt p x t))]
 |.tell p t=>[(pl,.row (.tell p t))]
def cQ(pl:Plc)(i:Nat):List Rw->List PP
 |[]=>[]
 |r::rs=>cZ (pl++[(i:Int)]) r++cQ pl (i+1) rs
end
def dZ:PP->List PP
 |(pl,.rows p rs)=>cQ pl 0 rs++[(pl,.rows p rs)]
 |(pl,.row r)=>cZ pl r
theorem wG(pl:Plc):∀(i:Nat) (rs:List Rw),cQ pl i rs=(jS pl i (rs.map Pt.row)).flatMap dZ
 |_,[]=>by simp only[cQ,List.map_nil,jS,List.flatMap_nil]
 |i,r::rs=>by simp only[cQ,List.map_cons,jS,List.flatMap_cons,wG pl (i+1) rs,dZ]
theorem nC:∀e:PP,dZ e=(eE e).flatMap dZ++[e]
 |(pl,.rows p rs)=>by simp only[dZ,eE,Pt.kids];rw[wG]
 |(pl,.row (.when p pa pb t a b))=>by simp[dZ,cZ,eE,Pt.kids,jS]
 |(pl,.row (.times p pb n b))=>by simp[dZ,cZ,eE,Pt.kids,jS]
 |(pl,.row (.thr _ _ _ _ _))=>by simp[dZ,cZ,eE,Pt.kids,jS]
 |(pl,.row (.lt _ _ _))=>by simp[dZ,cZ,eE,Pt.kids,jS]
 |(pl,.row (.tell _ _))=>by simp[dZ,cZ,eE,Pt.kids,jS]
theorem xJ(e:PP):1<=(dZ e).length:=by rw[nC];simp
theorem aY8:∀l:List PP,l.length<=(l.flatMap dZ).length
 |[]=>ai _
 |t::r=>by have:=aY8 r;have:=xJ t;rw[cf,kj,aj];lia
mutual
theorem bD2(pl:Plc):∀r:Rw,(cZ pl r).length<=3*r.cnt
 |.when p pa pb t a b=>by have:=jF (pl++[0]) 0 a;have:=jF (pl++[1]) 0 b;simp only[cZ,Rw.cnt,List.length_append,List.length_cons,List.length_nil];lia
 |.times p pb n b=>by have:=jF (pl++[0]) 0 b;simp only[cZ,Rw.cnt,List.length_append,List.length_cons,List.length_nil];lia
 |.thr _ _ _ _ _=>by simp only[cZ,Rw.cnt,List.length_cons,List.length_nil];lia
 |.lt _ _ _=>by simp only[cZ,Rw.cnt,List.length_cons,List.length_nil];lia
 |.tell _ _=>by simp only[cZ,Rw.cnt,List.length_cons,List.length_nil];lia
theorem jF(pl:Plc)(i:Nat):∀rs:List Rw,(cQ pl i rs).length<=3*aZ rs
 |[]=>by simp[cQ]
 |r::rs=>by have:=bD2 (pl++[(i:Int)]) r;have:=jF pl (i+1) rs;simp only[cQ,aZ,List.length_append];lia
end
def oH(L:List PP):Prop:=∀A e B,L=A++e::B->∀c∈eE e,c∈A
theorem oH.nil:oH []:=fun A e B h=>by simp at h
theorem oH.app{L M:List PP}(a:oH L)(b:oH M):oH (L++M):=fun A e B h c hc=>by
 rcases List.append_eq_append_iff.mp h with⟨as,h1,h2⟩|⟨bs,h1,h2⟩
 ·rw[h1];exact bx _ (b as e B h2 c hc)
 ·cases bs with
  |nil =>
   simp only[List.append_nil,List.nil_append] at h1 h2;rw[<-h1];have:=b [] e B h2.symm c hc;exact absurd this bu
  |cons x bs =>
   simp only[List.cons_append,List.cons.injEq] at h2;rw[<-h2.1] at h1;exact a A e bs h1 c hc
theorem sO(e:PP):e∈dZ e:=by rw[nC];simp
theorem oH.flat:∀{l:List PP},(∀e∈l,oH (dZ e))->oH (l.flatMap dZ)
 |[],_=>oH.nil
 |e::l,h=>by
  rw[kj];exact(h e az).app (oH.flat fun x hx=>h x (av _ hx))
theorem oH.ord{e:PP}(h:∀c∈eE e,oH (dZ c)):oH (dZ e):=by
 have fl:=oH.flat h;intro A x B hx c hc;rw[nC] at hx;rcases wq B with rfl|⟨B',b,rfl⟩
 ·obtain⟨h1,h2⟩:=zt hx rfl;have h2:e=x:=by simpa using h2
  rw[<-h1];rw[<-h2] at hc;exact jq.mpr ⟨c,hc,sO c⟩
 ·have hx':(eE e).flatMap dZ++[e]=(A++x::B')++[b]:=by rw[hx];simp
  obtain⟨h1,_⟩:=zt hx' rfl;exact fl A x B' h1 c hc
mutual
theorem cM9:∀(r:Rw) (pl:Plc),oH (dZ (pl,.row r))
 |.when p pa pb t a b,pl=>oH.ord fun c hc=>by
  simp only[eE,Pt.kids,jS,List.mem_cons,List.not_mem_nil,or_false] at hc;rcases hc with rfl|rfl
  ·exact oH.ord fun c hc=>yK a _ 0 c hc
  ·exact oH.ord fun c hc=>yK b _ 0 c hc
 |.times p pb n b,pl=>oH.ord fun c hc=>by
  simp only[eE,Pt.kids,jS,List.mem_cons,List.not_mem_nil,or_false] at hc;rw[hc];exact oH.ord fun c hc=>yK b _ 0 c hc
 |.thr _ _ _ _ _,pl=>oH.ord fun c hc=>absurd hc bu
 |.lt _ _ _,pl=>oH.ord fun c hc=>absurd hc bu
 |.tell _ _,pl=>oH.ord fun c hc=>absurd hc bu
theorem yK:∀(rs:List Rw) (pl:Plc) (i:Nat),∀c∈jS pl i (rs.map Pt.row),oH (dZ c)
 |[],_,_,c,hc=>absurd hc bu
 |r::rs,pl,i,c,hc=>by
  simp only[List.map_cons,jS] at hc;rcases cj.mp hc with rfl|hc
  ·exact cM9 r _
  ·exact yK rs pl (i+1) c hc
end
theorem bH9(pl:Plc)(p:Addr)(rs:List Rw):oH (dZ (pl,.rows p rs)):=oH.ord fun c hc=>yK rs pl 0 c hc
def Ext(pl:Plc)(e:PP):Prop:=∃s,e.1=pl++s
mutual
theorem cI5:∀(r:Rw) (pl:Plc),∀e∈cZ pl r,Ext pl e
 |.when p pa pb t a b,pl,e,h=>by
  simp only[cZ,List.mem_append,List.mem_cons,List.not_mem_nil,or_false] at h;rcases h with((h|h)|(h|h))|h
  ·obtain⟨s,hs⟩:=sK a _ 0 e h;exact⟨[0]++s,by rw[hs.1,gc]⟩
  ·rw[h];exact⟨[0],rfl⟩
  ·obtain⟨s,hs⟩:=sK b _ 0 e h;exact⟨[1]++s,by rw[hs.1,gc]⟩
  ·rw[h];exact⟨[1],rfl⟩
  ·rw[h];exact⟨[],by simp⟩
 |.times p pb n b,pl,e,h=>by
  simp only[cZ,List.mem_append,List.mem_cons,List.not_mem_nil,or_false] at h;rcases h with(h|h)|h
  ·obtain⟨s,hs⟩:=sK b _ 0 e h;exact⟨[0]++s,by rw[hs.1,gc]⟩
  ·rw[h];exact⟨[0],rfl⟩
  ·rw[h];exact⟨[],by simp⟩
 |.thr _ _ _ _ _,pl,e,h=>by simp only[cZ,List.mem_cons,List.not_mem_nil,or_false] at h;rw[h];exact⟨[],by simp⟩
 |.lt _ _ _,pl,e,h=>by simp only[cZ,List.mem_cons,List.not_mem_nil,or_false] at h;rw[h];exact⟨[],by simp⟩
 |.tell _ _,pl,e,h=>by simp only[cZ,List.mem_cons,List.not_mem_nil,or_false] at h;rw[h];exact⟨[],by simp⟩
theorem sK:∀(rs:List Rw) (pl:Plc) (i:Nat),∀e∈cQ pl i rs,∃s,e.1=pl++s/\∃(j:Nat) (u:Plc),i<=j/\s=(j:Int)::u
 |[],_,_,e,h=>by simp only[cQ] at h;exact absurd h bu
 |r::rs,pl,i,e,h=>by
  simp only[cQ,List.mem_append] at h;rcases h with h|h
  ·obtain⟨s,hs⟩:=cI5 r _ e h;exact⟨(i:Int)::s,by rw[hs,gc];rfl,i,s,ai _,rfl⟩
  ·obtain⟨s,h1,j,u,h2,h3⟩:=sK rs pl (i+1) e h;exact⟨s,h1,j,u,by lia,h3⟩
end
def fX(l:List PP):List Plc:=l.map (·.1)
theorem bC7(a b:List PP):fX (a++b)=fX a++fX b:=cy
theorem rP{a b:List PP}(ha:(fX a).Nodup)(hb:(fX b).Nodup)(h:∀x∈a,∀y∈b,x.1≠y.1):(fX (a++b)).Nodup:=by
 rw[bC7,ki];refine⟨ha,hb,fun u hu v hv=>?_⟩;obtain⟨x,hx,rfl⟩:=fj.mp hu;obtain⟨y,hy,rfl⟩:=fj.mp hv;exact h x hx y hy
theorem oS(e:PP):(fX [e]).Nodup:=by simp[fX]
theorem aU9{pl s:Plc}(h:pl++s=pl):s=[]:=by
 have:=fm List.length h;rw[aj] at this;exact sj (by lia)
theorem qJ{pl:Plc}{p:Addr}{rs:List Rw}(h:(fX (cQ pl 0 rs)).Nodup):(fX (cQ pl 0 rs++[(pl,.rows p rs)])).Nodup:=rP h (oS _) fun x hx y hy=>by
 rw[au.mp hy];obtain⟨s,h1,j,u,_,h3⟩:=sK rs pl 0 x hx;intro e;have e:x.1=pl:=e;rw[h1] at e;have:=aU9 e;rw[h3] at this
 cases this
theorem kW{pl:Plc}{p:Addr}{rs:List Rw}:∀e∈cQ pl 0 rs++[(pl,.rows p rs)],Ext pl e:=fun e he=>by
 rcases bz.mp he with h|h
 ·obtain⟨s,h1,_⟩:=sK rs pl 0 e h;exact⟨s,h1⟩
 ·rw[au.mp h];exact⟨[],by simp⟩
theorem aT0{pl:Plc}{i j:Int}(h:i≠j){x y:PP}(hx:Ext (pl++[i]) x)(hy:Ext (pl++[j]) y):x.1≠y.1:=by
 obtain⟨s,hs⟩:=hx;obtain⟨t,ht⟩:=hy;rw[hs,ht,gc,gc];intro e;have:=List.append_cancel_left e;simp only[List.cons_append,List.cons.injEq] at this;exact h this.1
theorem aA6{pl:Plc}{i:Int}{x:PP}{e:Pt}(hx:Ext (pl++[i]) x):x.1≠((pl,e):PP).1:=by
 obtain⟨s,hs⟩:=hx;rw[hs,gc];intro e;have:=aU9 e
 cases this
mutual
theorem ndR:∀(r:Rw) (pl:Plc),(fX (cZ pl r)).Nodup
 |.when p pa pb t a b,pl=>by
  simp only[cZ];refine rP (rP (qJ (bB4 a _ 0)) (qJ (bB4 b _ 0)) fun x hx y hy=>aT0 (by decide) (kW x hx) (kW y hy)) (oS _) fun x hx y hy=>?_
  rw[au.mp hy];rcases bz.mp hx with h|h
  ·exact aA6 (kW x h)
  ·exact aA6 (kW x h)
 |.times p pb n b,pl=>by
  simp only[cZ];refine rP (qJ (bB4 b _ 0)) (oS _) fun x hx y hy=>?_
  rw[au.mp hy];exact aA6 (kW x hx)
 |.thr _ _ _ _ _,pl=>by simp only[cZ];exact oS _
 |.lt _ _ _,pl=>by simp only[cZ];exact oS _
 |.tell _ _,pl=>by simp only[cZ];exact oS _
theorem bB4:∀(rs:List Rw) (pl:Plc) (i:Nat),(fX (cQ pl i rs)).Nodup
 |[],_,_=>by simp only[cQ];exact sq
 |r::rs,pl,i=>by
  simp only[cQ];refine rP (ndR r _) (bB4 rs pl (i+1)) fun x hx y hy=>?_
  obtain⟨s,h1,j,u,h2,h3⟩:=sK rs pl (i+1) y hy;exact aT0 (pl:=pl) (i:=(i:Int)) (j:=(j:Int)) (by lia) (cI5 r _ x hx) ⟨u,by rw[h1,h3,gc];rfl⟩
end
theorem bY7(pl:Plc)(p:Addr)(rs:List Rw):(fX (dZ (pl,.rows p rs))).Nodup:=qJ (bB4 rs pl 0)
mutual
theorem bS3{H:Hp}:∀(r:Rw) (pl:Plc),dO H r->∀e∈cZ pl r,PtH H e.2
 |.when p pa pb t a b,pl,h,e,he=>by
  simp only[cZ,List.mem_append,List.mem_cons,List.not_mem_nil,or_false] at he;rcases he with((he|he)|(he|he))|he
  ·exact mS a _ 0 h.2.2.2.2.2.1 e he
  ·rw[he];exact⟨h.2.2.2.1,h.2.2.2.2.2.1⟩
  ·exact mS b _ 0 h.2.2.2.2.2.2 e he
  ·rw[he];exact⟨h.2.2.2.2.1,h.2.2.2.2.2.2⟩
  ·rw[he];exact h
 |.times p pb n b,pl,h,e,he=>by
  simp only[cZ,List.mem_append,List.mem_cons,List.not_mem_nil,or_false] at he;rcases he with(he|he)|he
  ·exact mS b _ 0 h.2.2 e he
  ·rw[he];exact⟨h.2.1,h.2.2⟩
  ·rw[he];exact h
 |.thr _ _ _ _ _,pl,h,e,he=>by simp only[cZ,List.mem_cons,List.not_mem_nil,or_false] at he;rw[he];exact h
 |.lt _ _ _,pl,h,e,he=>by simp only[cZ,List.mem_cons,List.not_mem_nil,or_false] at he;rw[he];exact h
 |.tell _ _,pl,h,e,he=>by simp only[cZ,List.mem_cons,List.not_mem_nil,or_false] at he;rw[he];exact h
theorem mS{H:Hp}:∀(rs:List Rw) (pl:Plc) (i:Nat),aS H rs->∀e∈cQ pl i rs,PtH H e.2
 |[],_,_,_,e,he=>by simp only[cQ] at he;exact absurd he bu
 |r::rs,pl,i,⟨h,hs⟩,e,he=>by
  simp only[cQ,List.mem_append] at he;rcases he with he|he
  ·exact bS3 r _ h e he
  ·exact mS rs pl (i+1) hs e he
end
theorem bM8{H:Hp}{pl:Plc}{p:Addr}{rs:List Rw}(h:H p=some (.tup (bA rs)))(hs:aS H rs):∀e∈dZ (pl,.rows p rs),PtH H e.2:=fun e he=>by
 rcases bz.mp he with z|z
 ·exact mS rs pl 0 hs e z
 ·rw[au.mp z];exact⟨h,hs⟩
mutual
theorem bE6{kd:Int}:∀(r:Rw) (pl:Plc),(∀q∈eG r,KdR kd q)->∀e∈cZ pl r,e.2.ld<=lY r/\e.1.length<=pl.length+2*zU r/\(∀q,e.2= .row q->q∈eG r)
 |.when p pa pb t a b,pl,hk,e,he=>by
  simp only[eG] at hk;simp only[cZ,List.mem_append,List.mem_cons,List.not_mem_nil,or_false] at he;have ha:∀q∈cK a,KdR kd q:=fun q hq=>hk q (av _ (dj _ hq))
  have hb:∀q∈cK b,KdR kd q:=fun q hq=>hk q (av _ (bx _ hq))
  rcases he with((he|he)|(he|he))|he
  ·have:=kY a (pl++[0]) 0 ha e he;simp only[lY,zU,eG];rw[aj,fh] at this;exact⟨by lia,by lia,fun q hq=>av _ (dj _ (this.2.2 q hq))⟩
  ·rw[he];simp only[lY,zU,eG,Pt.ld,List.length_append,List.length_singleton];exact⟨by lia,by lia,fun q hq=>by cases hq⟩
  ·have:=kY b (pl++[1]) 0 hb e he;simp only[lY,zU,eG];rw[aj,fh] at this;exact⟨by lia,by lia,fun q hq=>av _ (bx _ (this.2.2 q hq))⟩
  ·rw[he];simp only[lY,zU,eG,Pt.ld,List.length_append,List.length_singleton];exact⟨by lia,by lia,fun q hq=>by cases hq⟩
  ·rw[he];exact⟨ai _,gy _ _,fun q hq=>by cases hq;simp[eG]⟩
 |.times p pb n b,pl,hk,e,he=>by
  simp only[eG] at hk;simp only[cZ,List.mem_append,List.mem_cons,List.not_mem_nil,or_false] at he;have hb:∀q∈cK b,KdR kd q:=fun q hq=>hk q (av _ hq)
  have hn:1<=n/\n<=3:=hk _ az;have le:iL b<=n.toNat*iL b:=by
   have:=jp (iL b) (show 1<=n.toNat by lia);lia
  rcases he with(he|he)|he
  ·have:=kY b (pl++[0]) 0 hb e he;simp only[lY,zU,eG];rw[aj,fh] at this;exact⟨by lia,by lia,fun q hq=>av _ (this.2.2 q hq)⟩
  ·rw[he];simp only[lY,zU,eG,Pt.ld,List.length_append,List.length_singleton];exact⟨by lia,by lia,fun q hq=>by cases hq⟩
  ·rw[he];exact⟨ai _,gy _ _,fun q hq=>by cases hq;simp[eG]⟩
 |.thr _ _ _ _ _,pl,_,e,he=>by simp only[cZ,List.mem_cons,List.not_mem_nil,or_false] at he;rw[he];exact⟨ai _,gy _ _,fun q hq=>by cases hq;simp[eG]⟩
 |.lt _ _ _,pl,_,e,he=>by simp only[cZ,List.mem_cons,List.not_mem_nil,or_false] at he;rw[he];exact⟨ai _,gy _ _,fun q hq=>by cases hq;simp[eG]⟩
 |.tell _ _,pl,_,e,he=>by simp only[cZ,List.mem_cons,List.not_mem_nil,or_false] at he;rw[he];exact⟨ai _,gy _ _,fun q hq=>by cases hq;simp[eG]⟩
theorem kY{kd:Int}:∀(rs:List Rw) (pl:Plc) (i:Nat),(∀q∈cK rs,KdR kd q)->∀e∈cQ pl i rs,e.2.ld<=iL rs/\e.1.length<=pl.length+1+2*mV rs/\(∀q,e.2= .row q->q∈cK rs)
 |[],_,_,_,e,he=>by simp only[cQ] at he;exact absurd he bu
 |r::rs,pl,i,hk,e,he=>by
  simp only[cK] at hk;simp only[cQ,List.mem_append] at he;simp only[iL,mV,cK];rcases he with he|he
  ·have:=bE6 r (pl++[(i:Int)]) (fun q hq=>hk q (dj _ hq)) e he;rw[aj,fh] at this;exact⟨by lia,by lia,fun q hq=>dj _ (this.2.2 q hq)⟩
  ·have:=kY rs pl (i+1) (fun q hq=>hk q (bx _ hq)) e he;exact⟨by lia,by lia,fun q hq=>bx _ (this.2.2 q hq)⟩
end
theorem aA9{kd:Int}{p:Addr}{rs:List Rw}(hk:xT kd rs):∀e∈dZ ([],.rows p rs),e.2.ld<=iL rs/\e.1.length<=1+2*mV rs/\(∀q,e.2= .row q->KdR kd q):=fun e he=>by
 rcases bz.mp he with z|z
 ·have:=kY rs [] 0 hk e z;rw[jx,rj] at this;exact⟨this.1,this.2.1,fun q hq=>hk q (this.2.2 q hq)⟩
 ·rw[au.mp z];exact⟨ai _,by show 0<=_;lia,fun q hq=>by cases hq⟩
def cH(K:W.Frag)(H:Hp)(p:Addr)(u:Fr):Prop:=aU K H p [.int u.1,.int u.2]
theorem aU.ts{K:W.Frag}{H H':Hp}(s:aR H H'){a:Addr}{xs:List V}:aU K H a xs->aU K H' a xs
 |.inl (.inl h)=> .inl (.inl (s _ _ h))
 |.inl (.inr ⟨o,h⟩)=> .inl (.inr ⟨o,s _ _ h⟩)
 |.inr h=> .inr h
theorem cH.of{K:W.Frag}{H:Hp}{p:Addr}{a b:Int}(h:fW H p a b):cH K H p (a,b):=aU.of h
theorem cH.ofU{K:W.Frag}{H:Hp}{p:Addr}{u:Fr}(h:H p=some (.tup [.int u.1,.int u.2])):cH K H p u:=aU.of h
theorem cH.s{K:W.Frag}{H H':Hp}(s:aR H H'){p:Addr}{u:Fr}(h:cH K H p u):cH K H' p u:=aU.ts s h
def fL(K:W.Frag)(H:Hp)(v:V)(P:Prc):Prop:=∃a x y,v= .ref a/\aU K H a [.ref x,.ref y]/\cH K H x P.1/\cH K H y P.2
theorem fL.s{K:W.Frag}{H H':Hp}(s:aR H H'){v:V}{P:Prc}:fL K H v P->fL K H' v P
 |⟨a,x,y,e,h,h1,h2⟩=>⟨a,x,y,e,aU.ts s h,h1.s s,h2.s s⟩
def FrK(K:W.Frag)(H:Hp)(v:V)(u:Fr):Prop:=∃a,v= .ref a/\cH K H a u
theorem FrK.s{K:W.Frag}{H H':Hp}(s:aR H H'){v:V}{u:Fr}:FrK K H v u->FrK K H' v u
 |⟨a,e,h⟩=>⟨a,e,h.s s⟩
inductive spLowX(vs:List V)(H:Hp)(Q:VK)(z1:XK):Prop
 |mk:∀a b:Int,(vs=[.int a,.int b])->(0<=a)->(1<=b)->((∃n,bT n b/\n<=8990))->(∀p,H p=none->Q (.ref p) (aO H p (.tup [.int (dH a b).1,.int (dH a b).2])))->spLowX vs H Q z1
inductive pB(K:W.Frag)(vs:List V)(H:Hp)(Q:VK)(z1:XK):Prop
 |mk:∀(p q:Addr) (u e:Fr),(vs=[.ref p,.ref q])->(cH K H p u)->(cH K H q e)->(fV 1000 u)->(fV 1000 e)->(∀r,H r=none->Q (.ref r) (aO H r (.tup [.int (gU u e).1,.int (gU u e).2])))->pB K vs H Q z1
inductive aC6(K:W.Frag)(vs:List V)(H:Hp)(Q:VK)(z1:XK):Prop
 |mk:∀(p q:Addr) (u e:Fr),(vs=[.ref p,.ref q])->(cH K H p u)->(cH K H q e)->(fV 1000 u)->(fV 1000 e)->(∀r,H r=none->Q (.ref r) (aO H r (.tup [.int (tF u e).1,.int (tF u e).2])))->aC6 K vs H Q z1
inductive uW(K:W.Frag)(vs:List V)(H:Hp)(Q:VK)(z1:XK):Prop
 |mk:∀(p q:Addr) (u e:Fr),(vs=[.ref p,.ref q])->(cH K H p u)->(cH K H q e)->(fV 1000 u)->(fV 1000 e)->(Q (.bl (decide (u.1*e.2<e.1*u.2))) H)->uW K vs H Q z1
inductive rO(K:W.Frag)(vs:List V)(H:Hp)(Q:VK)(z1:XK):Prop
 |mk:∀(p:Addr) (u:Fr) (k:Int),(vs=[.ref p,.int k])->(cH K H p u)->(bT 1000 u.1)->(bT 1000 u.2)->(0<=k)->(k<=21)->(∀r,H r=none->Q (.ref r) (aO H r (.tup [.int (u.1^k.toNat),.int (u.2^k.toNat)])))->rO K vs H Q z1
inductive spTPow(vs:List V)(H:Hp)(Q:VK)(z1:XK):Prop
 |mk:∀(st:Addr) (p q k:Int),(vs=[.ref st,.int k])->(fW H st p q)->(wT p q)->(0<=k)->(k<=6)->(∀H' r,aR H H'->fW H' r (q^k.toNat) (p^k.toNat)->Q (.ref r) H')->spTPow vs H Q z1
def aJ5(k:Nat):Rw->Prc
 |.thr _ _ _ _ d=>pW d.T (wK d k)
 |.lt _ _ _=>free
 |.tell _ _=>free
 |.when _ _ _ _ _ _=>free
 |.times _ _ _ _=>free
inductive spOne4(vs:List V)(H:Hp)(Q:VK)(z1:XK):Prop
 |mk:∀T:wA,(vs=[.str T.wd])->(∀H',aR H H'->Q (.bl T.one) H')->spOne4 vs H Q z1
inductive spPlc4(vs:List V)(H:Hp)(Q:VK)(z1:XK):Prop
 |mk:∀T:wA,(vs=[.str T.wd])->(Q (.int (if T.wd="first" then 5 else 2)) H)->spPlc4 vs H Q z1
inductive spSumT(vs:List V)(H:Hp)(Q:VK)(z1:XK):Prop
 |mk:∀p w x us d,(vs=[.ref p])->(dO H (.thr p w x us d))->(∀H' t us,aR H H'->H' t=some (.tup us)->dL (pY H') us d.wss->Q (.ref t) H')->spSumT vs H Q z1
inductive aS4(K:W.Frag)(vs:List V)(H:Hp)(Q:VK)(z1:XK):Prop
 |mk:∀p w x us d,∀k:Nat,(vs=[.ref p,.int k])->(dO H (.thr p w x us d))->(k<d.kd)->(∀H' v,aR H H'->fL K H' v (pW d.T (wK d k))->Q v H')->aS4 K vs H Q z1
inductive aR2(K:W.Frag)(vs:List V)(H:Hp)(Q:VK)(z1:XK):Prop
 |mk:∀r,∀k:Nat,(vs=[.ref r.p,.int k])->(dO H r)->((∀p w x us d,r= .thr p w x us d->k<d.kd))->(∀H' v,aR H H'->fL K H' v (aJ5 k r)->Q v H')->aR2 K vs H Q z1
def SqB(ps:List Prc):Prop:=(∀p∈ps,fV 1000 p.1/\fV 1000 p.2)/\∀i,fV 1000 (fN (ps.take i)).1/\fV 1000 (fN (ps.take i)).2
inductive aP4(K:W.Frag)(vs:List V)(H:Hp)(Q:VK)(z1:XK):Prop
 |mk:∀l us ps,(vs=[.ref l])->(H l=some (.lst us))->(us.length<=4000)->(dL (fL K H) us ps)->(SqB ps)->(∀H' v,aR H H'->fL K H' v (fN ps)->Q v H')->aP4 K vs H Q z1
def grL:List Fr->Fr
 |[]=>(0,1)
 |f::fs=>(f::fs).foldl kD f
inductive bC6(K:W.Frag)(vs:List V)(H:Hp)(Q:VK)(z1:XK):Prop
 |mk:∀l us fs,(vs=[.ref l])->(H l=some (.lst us))->(1<=fs.length)->(fs.length<=1000)->(dL (FrK K H) us fs)->((∀f∈fs,fV 1000 f))->(∀v,FrK K H v (grL fs)->Q v H)->bC6 K vs H Q z1
inductive aR4(K:W.Frag)(vs:List V)(H:Hp)(Q:VK)(z1:XK):Prop
 |mk:∀l us ps,(vs=[.ref l])->(H l=some (.lst us))->(1<=ps.length)->(ps.length<=1000)->(dL (fL K H) us ps)->((∀p∈ps,fV 1000 p.1/\fV 1000 p.2))->(∀H' v,aR H H'->fL K H' v (grL (ps.map (·.1)),grL (ps.map (·.2)))->Q v H')->aR4 K vs H Q z1
def Pt.isRow:Pt->Bool
 |.rows _ _=>false
 |.row _=>true
inductive spIsRow(vs:List V)(H:Hp)(Q:VK)(z1:XK):Prop
 |mk:∀e:Pt,(vs=[.ref e.p])->(PtH H e)->(Q (.bl e.isRow) H)->spIsRow vs H Q z1
def lW(cs:List Pt):List V:=cs.map fun c=>V.ref c.p
inductive spPRI(vs:List V)(H:Hp)(Q:VK)(z1:XK):Prop
 |mk:∀e:Pt,(vs=[.ref e.p])->(PtH H e)->(∀r H',aR H H'->H r=none->H' r=some (.lst (lW e.kids))->Q (.ref r) H')->spPRI vs H Q z1
def wD(H:Hp)(v:V)(pl:Plc):Prop:=∃a,v= .ref a/\H a=some (.tup (pl.map V.int))
theorem wD.ts{H H':Hp}(t:TS H H'){v:V}{pl:Plc}:wD H v pl->wD H' v pl
 |⟨a,e,h⟩=>⟨a,e,t _ _ h⟩
inductive spPlRI(vs:List V)(H:Hp)(Q:VK)(z1:XK):Prop
 |mk:∀(e:PP) (q:Addr),(vs=[.ref q,.ref e.2.p])->(H q=some (.tup (e.1.map V.int)))->(e.1.length<=100)->(e.2.kids.length<=4000)->(PtH H e.2)->(∀r zs H',aR H H'->H r=none->H' r=some (.lst zs)->dL (wD H') zs ((eE e).map (·.1))->Q (.ref r) H')->spPlRI vs H Q z1
def vI(H:Hp)(z:V)(e:PP):Prop:=∃q a,z= .ref q/\H q=some (.tup [.ref a,.ref e.2.p])/\H a=some (.tup (e.1.map V.int))
theorem vI.ts{H H':Hp}(t:TS H H'){z:V}{e:PP}:vI H z e->vI H' z e
 |⟨q,a,e1,h1,h2⟩=>⟨q,a,e1,t _ _ h1,t _ _ h2⟩
inductive spPlOf(vs:List V)(H:Hp)(Q:VK)(z1:XK):Prop
 |mk:∀p rs kd,(vs=[.ref p])->(H p=some (.tup (bA rs)))->(aS H rs)->(aZ rs<=1300)->(mV rs<=3)->(xT kd rs)->(∀r zs H',aR H H'->H' r=some (.lst zs)->dL (vI H') zs (dZ ([],.rows p rs))->Q (.ref r) H')->spPlOf vs H Q z1
def Pt.made:Pt->Bool
 |.rows _ _=>true
 |.row (.when _ _ _ _ _ _)=>true
 |.row (.times _ _ _ _)=>true
 |.row (.thr _ _ _ _ _)=>false
 |.row (.lt _ _ _)=>false
 |.row (.tell _ _)=>false
inductive aE3(K:W.Frag)(vs:List V)(H:Hp)(Q:VK)(z1:XK):Prop
 |mk:∀(e:Pt) (l:Addr) (us:List V) (ss:List Str) (k:Nat) (kd:Int),(vs=[.ref e.p,.ref l])->(PtH H e)->(e.made=true)->(e.ld<=6)->((∀q,e= .row q->KdR kd q))->(e.kids.length<=4000)->(H l=some (.lst us))->(dL (fL K H) us (e.kids.map (Pt.pr ss k)))->(∀H' v,aR H H'->fL K H' v (e.pr ss k)->Q v H')->aE3 K vs H Q z1
def KnN(H:Hp)(p:Addr)(rs:List Rw)(n:Nat):Prop:=∃(pk:Addr) (ks:List Str) (w:V),H p=some (.tup [.ref pk,w])/\H pk=some (.tup (ks.map V.str))/\ks.length=n/\1<=n/\n<=3/\xT (n:Int) rs
theorem KnN.ts{H H':Hp}(t:TS H H'){p:Addr}{rs:List Rw}{n:Nat}:KnN H p rs n->KnN H' p rs n
 |⟨pk,ks,w,a,b,c⟩=>⟨pk,ks,w,t _ _ a,t _ _ b,c⟩
inductive aQ0(K:W.Frag)(vs:List V)(H:Hp)(Q:VK)(z1:XK):Prop
 |mk:∀(p:Addr) (xs:List Str) (rs:List Rw) (k n:Nat),(vs=[.ref p,.int k])->(jW H p xs rs)->(KnN H p rs n)->(k<n)->(∀H' d kvs ss v,aR H H'->H' d=some (.dT kvs)->NdS rs ss->cD kvs ([]:List Key)=some v->fL K H' v (iT ss k rs)->Q (.ref d) H')->aQ0 K vs H Q z1
inductive bD3(K:W.Frag)(vs:List V)(H:Hp)(Q:VK)(z1:XK):Prop
 |mk:∀(p:Addr) (xs:List Str) (rs:List Rw) (k n:Nat),(vs=[.ref p,.int k])->(jW H p xs rs)->(KnN H p rs n)->(k<n)->(∀H' ss v,aR H H'->NdS rs ss->fL K H' v (iT ss k rs)->Q v H')->bD3 K vs H Q z1
theorem bH4{H:Hp}{d:TD}{x:Str}(h:aY5 H d):∃a,lP (.str d.T.wd :: .str x::d.vs) (if d.T.wd="first" then 5 else 2)=some a /\
  ((d.T.one=true/\∃w ws,a= .ref w/\H w=some (.tup (ws.map V.int))/\d.wss=[ws])\/(d.T.one=false/\∃sm us,a= .ref sm/\H sm=some (.tup us)/\dL (pY H) us d.wss)):=by
 obtain⟨vs,T,wss,kd⟩:=d
 cases T with
 |lad p q lo hi =>
  obtain⟨w,ws,st,e,e2,h1,_⟩:=h;refine⟨.ref w,?_,.inl ⟨rfl,w,ws,rfl,h1,e2⟩⟩;show lP (.str "ladder" :: .str x::vs) (if ("ladder": Str)="first" then 5 else 2)=_;rw[ay (show ¬(("ladder": Str)="first") by decide),show vs=_ from e];rfl
 |fla r lo hi =>
  obtain⟨w,ws,e,e2,h1⟩:=h;refine⟨.ref w,?_,.inl ⟨rfl,w,ws,rfl,h1,e2⟩⟩;show lP (.str "flat" :: .str x::vs) (if ("flat": Str)="first" then 5 else 2)=_;rw[ay (show ¬(("flat": Str)="first") by decide),show vs=_ from e];rfl
 |cho p q lo hi =>
  obtain⟨sm,us,st,e,h1,h2,_⟩:=h;refine⟨.ref sm,?_,.inr ⟨rfl,sm,us,rfl,h1,h2⟩⟩;show lP (.str "choose" :: .str x::vs) (if ("choose": Str)="first" then 5 else 2)=_;rw[ay (show ¬(("choose": Str)="first") by decide),show vs=_ from e];rfl
 |fst pa qa pb qb mk lo hi =>
  obtain⟨sm,us,sa,sb,e,h1,h2,_⟩:=h;refine⟨.ref sm,?_,.inr ⟨rfl,sm,us,rfl,h1,h2⟩⟩;show lP (.str "first" :: .str x::vs) (if ("first": Str)="first" then 5 else 2)=_;rw[bv rfl,show vs=_ from e];rfl
theorem bR4:∀T:wA,yL (V.str T.wd) [.str "ladder",.str "flat"]=T.one
 |.lad .. =>by show yL (V.str "ladder") [.str "ladder",.str "flat"]=true;decide
 |.fla .. =>by show yL (V.str "flat") [.str "ladder",.str "flat"]=true;decide
 |.cho .. =>by show yL (V.str "choose") [.str "ladder",.str "flat"]=false;decide
 |.fst .. =>by show yL (V.str "first") [.str "ladder",.str "flat"]=false;decide
theorem nFL:¬(V.str "ladder"=V.str "flat"):=by decide
theorem nFC:¬(V.str "choose"=V.str "flat"):=by decide
theorem nFF:¬(V.str "first"=V.str "flat"):=by decide
theorem nIL:¬(V.str "ladder"=V.str "first"):=by decide
theorem nIC:¬(V.str "choose"=V.str "first"):=by decide
theorem cE2{d:TD}(h:aT9 d){k:Nat}{i:Int}(hi:i∈d.wss.map fun ws=>ws.getD k 0)(hb:∀n∈d.wss.map (fun ws=>ws.getD k 0),n<=i):i=wK d k:=by
 refine bE2 (fun n hn=>?_) hi hb;obtain⟨ws,hw,rfl⟩:=fj.mp hn;rw[fq]
 cases q:ws[k]? with
 |none=>exact ji _
 |some y=>exact((h.ws ws hw).2 y (bj q)).1
theorem cI2{ws:List Int}{k:Nat}(h:k<ws.length):(ws.map V.int)[k]?=some (.int (ws.getD k 0)):=by
 rw[cm,fq,ak h];rfl
theorem bP0{d:TD}(h:aT9 d)(k:Nat):(d.wss.map fun ws=>ws.getD k 0)≠[]:=fun z=>by
 have e:=fm List.length z;rw[ae] at e;have l:=h.l1;rw[jx] at e;lia
theorem bL8{H:Hp}{us:List V}{wss:List (List Int)}(tw:dL (pY H) us wss)(k:Nat):(wss.map fun ws=>ws.getD k 0).take us.length=wss.map fun ws=>ws.getD k 0:=by
 rw[tw.length, <-ae (f:=fun ws:List Int=>ws.getD k 0) (as:=wss),dk]
theorem bG1{f:Fr}{fs:List Fr}{i:Nat}{g:Fr}(h:fs[i]?=some g):(fs.take (i+1)).foldl kD f=kD ((fs.take i).foldl kD f) g:=by
 rw[bE h,zf];rfl
theorem cI7{n:Nat}:∀{fs:List Fr}{f:Fr},fV n f->(∀g∈fs,fV n g)->fV n (fs.foldl kD f)
 |[],_,h,_=>h
 |g::fs,f,h,k=>by
  rw[ja];refine cI7 ?_ fun x hx=>k x (av _ hx)
  rcases iH f g with e|e
  ·rw[e];exact h
  ·rw[e];exact k g az
theorem cG4{X:Cx}(K:W.Frag)(hK:autoParam (X.K=K) Rq0._auto_1):kH X (binaryOp .Add) (aP5 K):=by subst hK;exact bI9
theorem nTW:¬(V.str "times"=V.str "when"):=by decide
theorem nLW:¬(V.str "let"=V.str "when")/\¬(V.str "let"=V.str "times"):=by decide
theorem nEW:¬(V.str "tell"=V.str "when")/\¬(V.str "tell"=V.str "times"):=by decide
theorem aT7{H:Hp}{w:Str}{us:List V}{d:TD}(h:kQ H w us d):¬(V.str w=V.str "when")/\¬(V.str w=V.str "times"):=by
 rw[h.wd]
 cases d.T with
 |lad _ _ _ _=>show ¬(V.str "ladder"=V.str "when")/\¬(V.str "ladder"=V.str "times");decide
 |fla _ _ _=>show ¬(V.str "flat"=V.str "when")/\¬(V.str "flat"=V.str "times");decide
 |cho _ _ _ _=>show ¬(V.str "choose"=V.str "when")/\¬(V.str "choose"=V.str "times");decide
 |fst _ _ _ _ _ _ _=>show ¬(V.str "first"=V.str "when")/\¬(V.str "first"=V.str "times");decide
theorem bK0(rs:List Rw):lW (rs.map Pt.row)=bA rs:=by
 unfold lW bA;rw[rn];rfl
theorem jN(cs:List Pt):(lW cs).length=cs.length:=by unfold lW;rw[ae]
theorem jG(e:PP):(eE e).length=e.2.kids.length:=wZ _ _ _
theorem vE{e:PP}{i:Nat}{c:Pt}(h:e.2.kids[i]?=some c):(eE e)[i]?=some (e.1++[(i:Int)],c):=by
 unfold eE;rw[aD4,h,rj];rfl
theorem pL{e:PP}{i:Nat}(h:i<e.2.kids.length):((eE e).map (·.1))[i]?=some (e.1++[(i:Int)]):=by
 rw[cm,vE (ak h)];rfl
theorem yY{n:Nat}{p:Prc}(h:PB n p)(l:n<=6):fV 1000 p.1/\fV 1000 p.2:=⟨(h.up l (by decide)).1.mono (by decide),(h.up l (by decide)).2.mono (by decide)⟩
theorem aS.take{H:Hp}:∀{rs:List Rw}(i:Nat),aS H rs->aS H (rs.take i)
 |[],i,_=>by rw[List.take_nil];trivial
 |r::rs,0,_=>trivial
 |r::rs,i+1,⟨h,k⟩=>⟨h,aS.take i k⟩
theorem bJ3(rs:List Rw)(i:Nat):iL (rs.take i)<=iL rs:=by
 have:=nO (rs.take i) (rs.drop i);rw[jb] at this;lia
theorem aO5:∀{rs:List Rw}{r:Rw},r∈rs->lY r<=iL rs
 |_::rs,r,h=>by
  simp only[iL];rcases cj.mp h with rfl|h
  ·lia
  ·have:=aO5 h;lia
theorem bU4{H:Hp}{ss:List Str}{k:Nat}{rs:List Rw}(h:aS H rs)(l:iL rs<=6):SqB (xK ss k rs):=by
 refine⟨fun p hp=>?_,fun i=>?_⟩
 ·rw[mR] at hp;obtain⟨r,hr,rfl⟩:=fj.mp hp;have:=aO5 hr;exact yY (fZ ss k r (h.mem r hr)).2 (by lia)
 ·have e:(xK ss k rs).take i=xK ss k (rs.take i):=by rw[mR,mR,xr]
  rw[e];have:=bJ3 rs i;exact yY (gC ss k (h.take i)).2 (by lia)
theorem bG3(f:Fr):kD f f=f:=by unfold kD;split<;>rfl
theorem aF1(a b:Fr):grL [a,b]=kD a b:=by
 show kD (kD a a) b=_;rw[bG3]
theorem bV2{ss:List Str}{k:Nat}{r:Rw}(h:idl ss r=true):lT ss k r=free:=by
 unfold idl at h
 cases r with
 |thr p w x us d =>
  have:x∉ss:=fun z=>by simp[Rw.sets,z] at h
  simp only[lT,if_neg this]
 |lt _ _ _=>simp only[lT]
 |tell _ _=>simp[Rw.sets] at h
 |when _ _ _ _ _ _=>simp[Rw.sets] at h
 |times _ _ _ _=>simp[Rw.sets] at h
theorem bZ3{ss:List Str}{k:Nat}{r:Rw}(h:idl ss r=false)(hk:(Pt.row r).kids=[]):lT ss k r=aJ5 k r:=by
 unfold idl at h
 cases r with
 |thr p w x us d =>
  have:x∈ss:=by simpa [Rw.sets] using h
  simp only[lT,if_pos this,aJ5]
 |lt _ _ _=>simp only[lT,aJ5]
 |tell _ _=>simp only[lT,aJ5]
 |when _ _ _ _ _ _=>simp[Pt.kids] at hk
 |times _ _ _ _=>simp[Pt.kids] at hk
theorem aT1{r:Rw}(h:(Pt.row r).kids≠[]):(Pt.row r).made=true:=by
 cases r with
 |thr _ _ _ _=>exact absurd rfl h
 |lt _ _ _=>exact absurd rfl h
 |tell _ _=>exact absurd rfl h
 |when _ _ _ _ _ _=>rfl
 |times _ _ _ _=>rfl
def kyP(pl:Plc):List Key:=pl.map Sum.inl
theorem aN5(pl:Plc):(kyP pl).map kV=pl.map V.int:=by
 unfold kyP;rw[rn];rfl
theorem bQ9{a b:Plc}(h:kyP a=kyP b):a=b:=by
 unfold kyP at h;exact(List.map_inj_right (fun x y e=>by injection e)).mp h
def pQ(K:W.Frag)(H:Hp)(kvs:List (List Key×V))(ss:List Str)(k:Nat)(L:List PP):Prop:=∀e∈L,∃v,cD kvs (kyP e.1)=some v/\fL K H v (e.2.pr ss k)
def nW(d:Addr)(H H':Hp):Prop:=∀a o,a≠d->H a=some o->H' a=some o
theorem nW.refl(d:Addr)(H:Hp):nW d H H:=fun _ _ _ h=>h
theorem nW.trans{d:Addr}{H H1 H2:Hp}(a:nW d H H1)(b:nW d H1 H2):nW d H H2:=fun c o n h=>b c o n (a c o n h)
theorem nW.of{d:Addr}{H H':Hp}(s:aR H H'):nW d H H':=fun c o _ h=>s c o h
theorem nW.upd{d:Addr}{H:Hp}{o:HO}:nW d H (aO H d o):=fun c u n h=>by rw[aH n];exact h
theorem nW.same{d:Addr}{H H1 H2:Hp}(s:aR H H1)(o:nW d H1 H2)(h:H d=none):aR H H2:=fun c u e=>o c u (aI e h) (s c u e)
theorem nW.ts{d:Addr}{H H':Hp}{kvs:List (List Key×V)}(o:nW d H H')(h:H d=some (.dT kvs)):TS H H':=fun a xs e=>o a _ (fun z=>by rw[z,h] at e;cases e) e
theorem aU.off{K:W.Frag}{d:Addr}{H H':Hp}{kvs:List (List Key×V)}(o:nW d H H')(h:H d=some (.dT kvs)){a:Addr}{xs:List V}:aU K H a xs->aU K H' a xs
 |.inl (.inl e)=> .inl (.inl (o _ _ (fun z=>by rw[z,h] at e;cases e) e))
 |.inl (.inr ⟨u,e⟩)=> .inl (.inr ⟨u,o _ _ (fun z=>by rw[z,h] at e;cases e) e⟩)
 |.inr e=> .inr e
theorem fL.off{K:W.Frag}{d:Addr}{H H':Hp}{kvs:List (List Key×V)}(o:nW d H H')(h:H d=some (.dT kvs)){v:V}{P:Prc}:fL K H v P->fL K H' v P
 |⟨a,x,y,e,h0,h1,h2⟩=>⟨a,x,y,e,aU.off o h h0,aU.off o h h1,aU.off o h h2⟩
theorem bH5{α:Type}{l:List α}{i:Nat}{x:α}(h:l.Nodup)(hi:l[i]?=some x):x∉l.take i:=fun z=>by
 have il:=(ap.mp hi).1;have e:=jb i l;rw[<-e] at h;refine(ki.mp h).2.2 x z x ?_ rfl;rw[ow il,(ap.mp hi).2];exact az
theorem pQ.put{K:W.Frag}{H H':Hp}{kvs:List (List Key×V)}{ss:List Str}{k i:Nat}{L:List PP}{e:PP}{v:V}{d:Addr}
  (h:pQ K H kvs ss k (L.take i)) (nd:(fX L).Nodup) (he:L[i]?=some e) (o:nW d H H') (hd:H d=some (.dT kvs)) (hv:fL K H' v (e.2.pr ss k)):pQ K H' (dB kvs (kyP e.1) v) ss k (L.take (i+1)):=fun c hc=>by
 rw[bE he] at hc;rcases bz.mp hc with z|z
 ·obtain⟨w,h1,h2⟩:=h c z;refine⟨w,?_,h2.off o hd⟩;rw[lN,ay fun q=>?_]
  ·exact h1
  ·have q:=bQ9 q;have n:=bH5 (i:=i) nd (show(fX L)[i]?=some e.1 by unfold fX;rw[cm,he];rfl);refine n ?_;rw[<-q];unfold fX;rw[<-xr];exact fj.mpr ⟨c,z,rfl⟩
 ·rw[au.mp z];exact⟨v,by rw[lN,bv rfl],hv⟩
theorem bV7{L:List PP}(h:oH L){i:Nat}{e:PP}(he:L[i]?=some e):∀c∈eE e,c∈L.take i:=fun c hc=>by
 have il:=(ap.mp he).1;have e1:=jb i L;rw[ow il,(ap.mp he).2] at e1;exact h _ _ _ e1.symm c hc
theorem aE2(r:Rw):1<=r.cnt:=by cases r<;>simp only[Rw.cnt]<;>lia
theorem lF:∀rs:List Rw,rs.length<=aZ rs
 |[]=>bo _
 |r::rs=>by have:=aE2 r;have:=lF rs;simp only[aZ,List.length_cons];lia
mutual
theorem klR(pl:Plc):∀r:Rw,∀e∈cZ pl r,e.2.kids.length<=r.cnt+2
 |.when p pa pb t a b,e,he=>by
  have la:=lF a;have lb:=lF b;simp only[cZ,List.mem_append,List.mem_cons,List.not_mem_nil,or_false] at he;simp only[Rw.cnt];rcases he with((he|rfl)|he|rfl)|rfl
  ·have:=aS1 (pl++[0]) 0 a e he;lia
  ·show(a.map Pt.row).length<=_;rw[ae];lia
  ·have:=aS1 (pl++[1]) 0 b e he;lia
  ·show(b.map Pt.row).length<=_;rw[ae];lia
  ·show 2<=_;lia
 |.times p pb n b,e,he=>by
  have lb:=lF b;simp only[cZ,List.mem_append,List.mem_cons,List.not_mem_nil,or_false] at he;simp only[Rw.cnt];rcases he with(he|rfl)|rfl
  ·have:=aS1 (pl++[0]) 0 b e he;lia
  ·show(b.map Pt.row).length<=_;rw[ae];lia
  ·show 1<=_;lia
 |.thr _ _ _ _ _,e,he=>by simp only[cZ,List.mem_cons,List.not_mem_nil,or_false] at he;rw[he];exact bo _
 |.lt _ _ _,e,he=>by simp only[cZ,List.mem_cons,List.not_mem_nil,or_false] at he;rw[he];exact bo _
 |.tell _ _,e,he=>by simp only[cZ,List.mem_cons,List.not_mem_nil,or_false] at he;rw[he];exact bo _
theorem aS1(pl:Plc)(i:Nat):∀rs:List Rw,∀e∈cQ pl i rs,e.2.kids.length<=aZ rs+2
 |[],e,he=>by simp only[cQ] at he;exact absurd he bu
 |r::rs,e,he=>by
  simp only[cQ,List.mem_append] at he;simp only[aZ];rcases he with he|he
  ·have:=klR (pl++[(i:Int)]) r e he;lia
  ·have:=aS1 pl (i+1) rs e he;lia
end
theorem aO7{pl:Plc}{p:Addr}{rs:List Rw}:∀e∈dZ (pl,.rows p rs),e.2.kids.length<=aZ rs+2:=fun e he=>by
 rcases bz.mp he with z|z
 ·exact aS1 pl 0 rs e z
 ·rw[au.mp z];show(rs.map Pt.row).length<=_;rw[ae];have:=lF rs;lia
theorem aD7{pl:Plc}{p:Addr}{rs:List Rw}:(dZ (pl,.rows p rs)).length<=3*aZ rs+1:=by
 have:=jF pl 0 rs;show(cQ pl 0 rs++[(pl,Pt.rows p rs)]).length<=_;rw[aj,fh];lia
theorem bC5{α:Type}{R:V->α->Prop}:∀{vs:List V}{as:List α},vs.length=as.length->(∀(i:Nat) v a,vs[i]?=some v->as[i]?=some a->R v a)->dL R vs as
 |[],[],_,_=>trivial
 |v::vs,a::as,l,h=>⟨h 0 v a rfl rfl,bC5 (by simpa using l) fun i x y hx hy=>h (i+1) x y (by simpa using hx) (by simpa using hy)⟩
 |[],_::_,l,_=>by simp at l
 |_::_,[],l,_=>by simp at l
theorem bH3{K:W.Frag}{H:Hp}{us:List V}{P:Prc}(h:dL (fL K H) us [P]):∃a,us=[.ref a]/\∃x y,aU K H a [.ref x,.ref y]/\cH K H x P.1/\cH K H y P.2:=by
 have l:=h.length
 cases us with
 |nil=>cases l
 |cons u r =>
  cases r with
  |nil =>
   obtain⟨⟨a,x,y,e,h1,h2,h3⟩,_⟩:=h;exact⟨a,by rw[e],x,y,h1,h2,h3⟩
  |cons _ _=>simp at l
end Mine
namespace L2
open PySem PySem.Spec PyProof.Rows
section
variable {prog:Program}{w:World}{A:Around}{E:Value->Shared->Prop}{h:Heap}{g:Array GenState}{d:Drawn}{t:Nat}{os:OsState}
variable {nm q:Str}{C N fI:Addr}{bs bm bmB bmN:List Value}{hdct:Bool}{sn:List Str}{sub:List Value}{ab:Bool}{col:Option Bool}{dd:Option Addr}{k0 k1 k2 k3 k5:Option Value}{B Bn newId nid inN initId:String}
end
def eY(K:W.Frag)(N:Addr):Bool:=match K.lookup N with
 |some ⟨_,_,.dict es _,_⟩=>es.toList.all fun e=>match e.key with | .str _ _=>true|_=>false
 |_=>false
theorem rZ{K:W.Frag}{h:Heap}{N:Addr}(X:K.In h)(e:eY K N=true):∃m,h.Ns N m:=by
 unfold eY at e
 split at e
 ·rename_i c dd es ep sl ho
  refine⟨_,_,es,ep,X _ _ ho,rfl,fun x hx=>?_,fun _=>rfl⟩;have q:=na.mp e x (by simpa using hx)
  cases hk:x.key with
  |str n t=>exact⟨n,t,rfl⟩
  |_=>rw[hk] at q;cases q
 ·cases e
def XN(a C:Addr):HO:= .ext fun h=>∃o,h.get? a=some o/\o.cls= .ref C/\W.notCls o=true/\o.dict=none
def XD(a C dx:Addr):HO:= .ext fun h=>∃o,h.get? a=some o/\o.cls= .ref C/\W.notCls o=true/\o.dict=some dx
def XM(a:Addr)(fs:List (Str×V)):HO:= .ext fun h=>∃mA,h.Ns1 a mA/\(∀f,jM (fs.lookup f) (mA f))/\PySem.Within mA (fs.map (·.1))
section
variable {P:Program}{w:World}{H:Hp}{h:Heap}{a C dx:Addr}{fs:List (Str×V)}
theorem cE0(e:∃o,h.get? a=some o/\o.cls= .ref C/\W.notCls o=true/\o.dict=none):bW P w H h a (XN a C):=
 ⟨e,let⟨o,q,_⟩:=e;⟨o,q⟩,(by rintro _ _ ⟨o,q,r⟩ k;exact⟨o,k o q,r⟩)⟩
end
abbrev aH4(C D:Addr):List Value:=[.ref C,.ref D,.type "ValueError",.type "Exception",.type "BaseException",.type "object"]
structure eV(K:W.Frag)(C D:Addr):Prop where
 at_:∃cd,W.clsIn K C=some cd/\cd.hasDict=true/\cd.mro=aH4 C D
 sa:W.findIn K (.ref C) "__setattr__"=some (some (.builtin "object.__setattr__"))
 ga:W.findIn K (.ref C) "__getattribute__"=some (some (.builtin "BaseException.__getattribute__"))
 gh:W.findIn K (.ref C) "__getattr__"=some none
section
variable {prog:Program}{w:World}{A:Around}{E:Value->Shared->Prop}{R:Result->Shared->Prop}{s:Shared}{K:W.Frag}{x C D:Addr}{ox:Obj}{od:Option Obj}{name:Str}{v:Value}{tk:Tok}
theorem eV.sub{M:Model}{h:Heap}(W:eV K C D)(X:K.In h){T:Value}{b:Bool}(e:(aH4 C D).contains T=b):PySem.W.Looks M h (isSubtype (.ref C) T) b:=by
 obtain⟨cd,hc,_,hm⟩:=W.at_;refine PySem.W.looks_mroIn X ?_;unfold PySem.W.mroIn;rw[hc,jc,hm,ay (by simp),e]
end
section
variable {prog:Program}{w:World}{A:Around}{E:Value->Shared->Prop}{R:Result->Shared->Prop}{s:Shared}{K:W.Frag}{x C D:Addr}{ox:Obj}{od:Option Obj}{name:Str}{v:Value}{tk:Tok}
theorem cM8(X:K.In s.heap)(I:PySem.W.InstAt s.heap x ox C od)(W:eV K C D)
  (h:wpAny (model prog w) A.in1 (Builtin.«object.__getattribute__» ⟨[.ref x,.str name tk],[]⟩) (fun fin s'=>match fin with | .done f=>R (.ok f) s' | .again c'=>c'.quiet=true/\codeAny (model prog w) A c' R s') (fun e s'=>R (.error e) s') s) :
  codeAny (model prog w) A (.call (.builtin "BaseException.__getattribute__") ⟨[.ref x,.str name tk],[]⟩) R s:=by
 have base:PySem.W.Looks (model prog w) s.heap (isInstance (.ref x) (.type "BaseException")) true:=I.type.andThen (W.sub X (by simp));exact codeAny_call_builtin PySem.F.excAttr_ValueError.ga.plain PySem.F.entry_bexc_ga
  (@PySem.W.check_slot (model prog w) _ _ s "BaseException.__getattribute__" "BaseException" "__getattribute__" (.ref x) [.str name tk] [] _ (by decide) (by decide) base (PySem.F.args_bexc_ga _ _) h)
theorem xby{Q:Value->Shared->Prop}{fill expr:Bool}(X:K.In s.heap)(I:PySem.W.InstAt s.heap x ox C od)(W:eV K C D)(hh:PySem.W.handedIn v=true)
  (h:∀P:Value->Shared->Prop,P v s->wpAny (model prog w) A.in1 (Builtin.«object.__getattribute__» ⟨[.ref x,.str name tk],[]⟩) (fun fin s'=>match fin with | .done (.ret u)=>P u s'|_=>False) (fun _ _=>False) s)
  (q:Q v s):wpAny (model prog w) A (getAttrBy (.ref x) (.str name tk) fill expr) Q E s:=by
 obtain⟨hp,g,d,t,os⟩:=s;have L0:=I.type (M:=model prog w);have L1:=xk (M:=model prog w) X W.ga;have L2:=xk (M:=model prog w) X W.gh;unfold getAttrBy;refine ij (aa (L0.at (aa (L1.at ?_))));show wpAny _ _ (getAttrByItsOwn _ _ _ _ _ _) _ _ _;refine aa (L2.at (aa (nu (ij ?_))));have e0:callGetattribute (.ref x) (.str name tk) (.builtin "BaseException.__getattribute__") expr=boundAndCalled (.builtin "BaseException.__getattribute__") (.ref x) (.str name tk):=by cases expr<;>rfl
 rw[e0];unfold boundAndCalled;rw[PySem.F.excAttr_ValueError.ga.bind];refine aa (aq (qw (cM8 X I W (dv (h (fun u s'=>wpAny (model prog w) A (handedOut u) Q E s') ?_) (fun fin s' z=>?_) fun _ _ z=>z.elim))))
 ·rw[PySem.W.handedOut_of hh];exact aq q
 ·rcases fin with(_|_|_|_)|_<;>first|exact z|exact z.elim
end
structure XIs(K:W.Frag)(C:Addr):Prop where
 at_:W.findIn K (.ref C) "__class__"=some (some (.builtin "object.__class__"))
 get:W.specialIn K (.builtin "object.__class__") "__get__"=some (some (.builtin "getset_descriptor.__get__"))
 tk:W.takesIn K (.builtin "object.__class__")=some true
section
variable {prog:Program}{w:World}{A:Around}{E:Value->Shared->Prop}{R:Result->Shared->Prop}{s:Shared}{K:W.Frag}{x C D:Addr}{ox:Obj}{od:Option Obj}{name:Str}{v:Value}{tk:Tok}
theorem aU6(W:eV K C D)(Z:XIs K C):PySem.W.findObj K C od "__class__"=some (.bind (.builtin "getset_descriptor.__get__") (.builtin "object.__class__")):=by
 obtain⟨cd,hc,_⟩:=W.at_;unfold PySem.W.findObj;rw[hc,jc,Z.at_,jc];simp[Z.get,Z.tk]
theorem eV.obj(W:eV K C D):PySem.W.mroIn K C (.type "object")=some true:=by
 obtain⟨cd,hc,_,hm⟩:=W.at_;unfold PySem.W.mroIn;rw[hc,jc,hm,ay (by simp)];simp
theorem cL8{Q:Option Value->Shared->Prop}(X:K.In s.heap)(I:PySem.W.InstAt s.heap x ox C od)(W:eV K C D)(Z:XIs K C)(h:Q (some (.ref C)) { s with toks:=s.toks+1 }):wpAny (model prog w) A (getAttr? (.ref x) "__class__") Q E s:=by
 obtain⟨hp,g,d,t,os⟩:=s;unfold getAttr? getAttrBy?;refine aa (wpAny_mkText (aa (nu (xby (s:=⟨hp,g,d,t+1,os⟩) (v:= .ref C) X I W rfl (fun P p=>?_) (aq h)))));have L0:=I.type (M:=model prog w);have L3:=PySem.W.looks_find (M:=model prog w) X I (aU6 (od:=od) W Z);refine aa (aq (aa (aq (aa (L0.at (aa (L3.at ?_)))))));show wpAny _ _ (holding [.builtin "object.__class__"] (call (.builtin "getset_descriptor.__get__") [.builtin "object.__class__",.ref x,.ref C])>>=ret) _ _ _;exact aa (ij (qw (PySem.W.class_get (s:=⟨hp,g,d,t+1,os⟩) X I W.obj (aq p))))
theorem eV.isT{M:Model}{h:Heap}(W:eV K C D)(X:K.In h):PySem.W.Looks M h (isType (.ref C)) true:=by
 obtain⟨cd,hc,_⟩:=W.at_;unfold PySem.W.clsIn at hc
 split at hc
 ·rename_i ho
  intro A' Q' E' s' k q;unfold isType loadHead;exact aa (wpAny_loadPart (k _ _ (X _ _ ho)) (aq q))
 ·cases hc
theorem aA8(W:eV K C D)(Z:XIs K C):PySem.W.KitX K (.ref x) (.ref C) (fun h=>∃ox od,PySem.W.InstAt h x ox C od) where
 ty:=fun _ _ _ ⟨_,_,I⟩=>I.type
 it:=fun _ _ X _=>W.isT X
 ne:=fun h tp dd its n sl X htp=>by
  obtain⟨cd,hc,_⟩:=W.at_;refine zg.mpr fun q=>?_
  cases Value.ref.inj (beq_iff_eq.mp q)
  unfold PySem.W.clsIn at hc
  split at hc
  ·rename_i ho
   cases(X _ _ ho).symm.trans htp
  ·cases hc
 ca:=fun X ⟨_,_,I⟩ k=>cL8 X I W Z k
end
def XAt(H:Hp)(a C:Addr):Prop:=H a=some (XN a C)\/∃dx fs,H a=some (XD a C dx)/\H dx=some (XM dx fs)
section
variable {X:Cx}{pins:List (Addr×Obj)}{σ:St}{H:Hp}{s:Shared}{a C D dx:Addr}{fs:List (Str×V)}{f:Str}{v:V}{A:Around}{E:Value->Shared->Prop}
theorem bX7(I:aQ X pins σ H s)(e:H a=some (XN a C)):∃o,s.heap.get? a=some o/\o.cls= .ref C/\W.notCls o=true/\o.dict=none:=
 (show bW X.prog X.w H s.heap a (XN a C) from I.hok a _ e).1
theorem bY1(I:aQ X pins σ H s)(e:H a=some (XD a C dx)):∃o,s.heap.get? a=some o/\o.cls= .ref C/\W.notCls o=true/\o.dict=some dx:=
 (show bW X.prog X.w H s.heap a (XD a C dx) from I.hok a _ e).1
theorem cE1(I:aQ X pins σ H s)(e:H dx=some (XM dx fs)):∃mA,s.heap.Ns1 dx mA/\(∀f,jM (fs.lookup f) (mA f))/\PySem.Within mA (fs.map (·.1)):=
 (show bW X.prog X.w H s.heap dx (XM dx fs) from I.hok dx _ e).1
theorem aC8(I:aQ X pins σ H s)(e:XAt H a C):∃ox od,W.InstAt s.heap a ox C od:=by
 rcases e with e|⟨dx,fs,e,e'⟩
 ·obtain⟨o,h1,h2,h3,h4⟩:=bX7 I e;exact⟨o,none,h1,h2,h3,by rw[h4];trivial⟩
 ·obtain⟨o,h1,h2,h3,h4⟩:=bY1 I e;obtain⟨mA,n,_⟩:=cE1 I e';obtain⟨od,ho,_⟩:=tS n;exact⟨o,some od,h1,h2,h3,by rw[h4];exact ho⟩
theorem rG:fG X (.builtin "isinstance") (fun xs H Q=>∃a c C D b,xs=[.ref a,c]/\(∃C',c= .ref C'/\PySem.W.kitOne X.K (.ref C) (.ref C')=some b\/∃n,c= .ty n/\PySem.W.kitOne X.K (.ref C) (.type n)=some b)/\XAt H a C/\eV X.K C D/\XIs X.K C/\Q (.bl b) H):=by
 intro pins s σ H xs us Q I r h;obtain⟨a,c,C,D,b,rfl,e,x,W,Z,q⟩:=h;obtain⟨u,w',rfl,ru,rw'⟩:=nX r
 cases ru
 have fin:∀tk,EP X pins σ Q (.bool b) { s with toks:=tk }:=fun tk=>⟨.bl b,H,I.tok tk,rfl,q⟩
 obtain⟨C',e⟩:=e;rcases e with⟨rfl,e⟩|⟨n,rfl,e⟩
 ·cases rw'
  exact gg (aA8 W Z) I.kIn (aC8 I x) e (fun z=>nomatch z) fin
 ·cases rw'
  exact gg (aA8 W Z) I.kIn (aC8 I x) e (fun z=>nomatch z) fin
end
theorem bM5{K:W.Frag}{h:Heap}{a:Addr}{m:Str->Option Value}{n:Str}{r:Option Value}(X:K.In h)(G:h.Ns a m)(e:W.nsIn K a n=some r):m n=r:=by
 obtain⟨o,es,ep,ho,hd,_,hf⟩:=G;rw[<-hf];unfold nsFind findBy;rw[<-xz];unfold W.nsIn at e
 split at e
 ·rename_i q
  have z:=(X _ _ q).symm.trans ho
  cases z
  cases hd
  split at e
  ·rename_i he
   cases e
   rw[he];rfl
  ·rename_i he
   split at e
   ·cases e
   ·cases e
    rw[he];rfl
 ·cases e
section
variable {prog:Program}{w:World}{A:Around}{E:Value->Shared->Prop}{h:Heap}{g:Array GenState}{d:Drawn}{t:Nat}{os:OsState}
variable {nm q:Str}{C N fI:Addr}{bs bm bmB bmN:List Value}{hdct:Bool}{sn:List Str}{sub:List Value}{ab:Bool}{col:Option Bool}{dd:Option Addr}{k0 k1 k2 k3 k5:Option Value}{B Bn newId nid inN initId:String}
end
abbrev veB:List Value:=[.type "ValueError",.type "Exception",.type "BaseException",.type "object"]
structure XMk(K:W.Frag)(C D:Addr)(i:Option Value):Prop where
 kp:W.keepIn K (.ref C)=true
 cls:∃(nm q:Str) (N:Addr) (bs:List Value) (hdct:Bool) (sn:List Str) (sub:List Value) (ab:Bool) (col:Option Bool) (dd:Option Addr) (k0 k1 k2 k3 k5:Option Value) (Bn newId inN:String) (bmN:List Value),ExcBaseFacts Bn newId inN bmN/\veB.contains (.type Bn)=true /\
  K.lookup C=some (excClassObj nm q C N bs (.ref D::veB) hdct sn sub ab col dd k0 k1 k2 k3 k5 newId)/\eY K N=true/\W.nsIn K N "__init__"=some i
 up:∃(c0:Value) (dd:Option Addr) (cd:ClassData) (sl:Array (Option Value)),K.lookup D=some ⟨c0,dd,.cls cd,sl⟩/\eY K cd.ns=true/\W.nsIn K cd.ns "__init__"=some none
theorem XMk.tail{K:W.Frag}{C D:Addr}{i:Option Value}{h:Heap}(M:XMk K C D i)(X:K.In h):OwnTail h veB (.ref D::veB):=by
 obtain⟨c0,dd,cd,sl,l,tx,n⟩:=M.up;obtain⟨m,hm⟩:=rZ X tx;exact .own (X _ _ l) hm (bM5 X hm n) .base
section
variable {X:Cx}{CX:CXT}{k:Nat}{f C D:Addr}{fd:FuncData}{ps:List Str}{sp:Sp}{E:XK}{x:Str}{p pos:Pos}{e:Expr}{es:List Expr}{t:TA}
end
theorem eV.subIn{K:PySem.W.Frag}{C D:Addr}(W:eV K C D)(T:Value):PySem.W.subIn K (.ref C) T=some ((aH4 C D).contains T):=by
 obtain⟨cd,hc,_,hm⟩:=W.at_;show PySem.W.mroIn K C T=_;unfold PySem.W.mroIn;rw[hc,jc,hm,ay (by simp)]
theorem bF8:W.kitMeta "ValueError"=true:=by decide
theorem bL2{K:W.Frag}{C D N:Addr}{nm q:Str}{bs:List Value}{sn:List Str}{sub:List Value}{ab:Bool}{col:Option Bool}{dd:Option Addr}{k0 k1 k2 k3 k5:Option Value}{newId:String}
  (l:K.lookup C=some (excClassObj nm q C N bs (.ref D::veB) true sn sub ab col dd k0 k1 k2 k3 k5 newId)) (sa:W.findIn K (.ref C) "__setattr__"=some (some (.builtin "object.__setattr__")))
  (ga:W.findIn K (.ref C) "__getattribute__"=some (some (.builtin "BaseException.__getattribute__"))) (gh:W.findIn K (.ref C) "__getattr__"=some none):eV K C D:=
 ⟨⟨_,by unfold W.clsIn;rw[l],rfl,rfl⟩,sa,ga,gh⟩
theorem cJ2{K:W.Frag}{C D N:Addr}{nm q:Str}{bs:List Value}{sn:List Str}{sub:List Value}{ab:Bool}{col:Option Bool}{dd:Option Addr}{k0 k1 k2 k3 k5 i:Option Value}
  {c0:Value}{dd':Option Addr}{cd:ClassData}{sl:Array (Option Value)}
  (l:K.lookup C=some (excClassObj nm q C N bs (.ref D::veB) true sn sub ab col dd k0 k1 k2 k3 k5 "ValueError.__new__")) (kp:W.keepIn K (.ref C)=true) (tx:eY K N=true) (ni:W.nsIn K N "__init__"=some i)
  (lD:K.lookup D=some ⟨c0,dd',.cls cd,sl⟩) (tD:eY K cd.ns=true) (nD:W.nsIn K cd.ns "__init__"=some none):XMk K C D i:=
 ⟨kp,⟨nm,q,N,bs,true,sn,sub,ab,col,dd,k0,k1,k2,k3,k5,_,_,_,_,ug,by simp,l,tx,ni⟩,⟨c0,dd',cd,sl,lD,tD,nD⟩⟩
theorem aE1{K:W.Frag}{N:Addr}{oc:Value}{od:Option Addr}{es:Array DictEntry}{n:Nat}{sl:Array (Option Value)}(l:K.lookup N=some ⟨oc,od,.dict es n,sl⟩)(h:(es.toList.all fun e=>match e.key with | .str _ _=>true|_=>false)=true):eY K N=true:=by
 unfold eY;rw[l];exact h
open PySem PySem.Spec PyProof.Rows PySem.W
def aF9(h:Heap)(x C:Addr)(tb:Value):Prop:=∃o vs,h.get? x=some o/\o.cls= .ref C/\o.dict= .none/\o.data= .fields vs/\vs[1]?=some tb
def rL(h:Heap)(x T C:Addr)(fl:Value):Prop:=aF9 h x C (.ref T)/\T≠x/\∃o ts,h.get? T=some o/\o.data= .fields ts/\ts[3]?=some fl
structure Kp(fs ch:List Addr)(h h':Heap):Prop where
 k:∀b o,h.get? b=some o->b∉fs->b∉ch->h'.get? b=some o
 f:∀b o,h.get? b=some o->b∈fs->b∉ch->∃sl,h'.get? b=some { o with slots:=sl }
theorem Kp.any{fs ch:List Addr}{h h':Heap}(a:Kp fs ch h h'){b:Addr}{o:Obj}(e:h.get? b=some o)(n:b∉ch):∃sl,h'.get? b=some { o with slots:=sl }:=by
 by_cases c:b∈fs
 ·exact a.f b o e c n
 ·exact⟨o.slots,a.k b o e c n⟩
theorem Kp.trans{fs ch:List Addr}{h h1 h2:Heap}(a:Kp fs ch h h1)(b:Kp fs ch h1 h2):Kp fs ch h h2:=
 ⟨fun c o e n m=>b.k c o (a.k c o e n m) n m,fun c o e n m=>by
  obtain⟨sl,e1⟩:=a.f c o e n m;obtain⟨sl2,e2⟩:=b.f c _ e1 n m;exact⟨sl2,e2⟩⟩
theorem Kp.mono{fs ch ch':List Addr}{h h':Heap}(a:Kp fs ch h h')(s:∀b∈ch,b∈ch'):Kp fs ch' h h':=⟨fun b o e n m=>a.k b o e n fun z=>m (s b z),fun b o e n m=>a.f b o e n fun z=>m (s b z)⟩
theorem Kp.kept{fs:List Addr}{h h':Heap}(k:∀b o,h.get? b=some o->h'.get? b=some o):Kp fs [] h h':=⟨fun b o e _ _=>k b o e,fun b o e _ _=>⟨o.slots,k b o e⟩⟩
theorem Kp.drop{fs ch:List Addr}{h h':Heap}(a:Kp fs ch h h')(n:∀b∈ch,h.get? b= .none):Kp fs [] h h':=by
 have q:∀b o,h.get? b=some o->b∉ch:=fun b o e z=>by rw[n b z] at e;cases e
 exact⟨fun b o e hn _=>a.k b o e hn (q b o e),fun b o e hn _=>a.f b o e hn (q b o e)⟩
theorem aP9{base:Heap}:∀{l:List Env}{h h':Heap},h.FunFrames base l->(∀b∈jH l,∀o,h.get? b=some o->∃sl,h'.get? b=some { o with slots:=sl })->h'.FunFrames base l
 |[],_,_,_,_=>by rw[Heap.FunFrames.eq_1];trivial
 |env::l,h,h',ff,k=>by
  rw[Heap.FunFrames.eq_2] at ff ⊢;obtain⟨h1,⟨L,o,h2,h3,h4,h5⟩,h6⟩:=ff;obtain⟨sl,e⟩:=k L (lj.mpr ⟨env,az,h2⟩) o h4;refine⟨h1,⟨L,_,h2,h3,e,h5⟩,aP9 h6 fun b hb=>k b ?_⟩;obtain⟨env',h7,h8⟩:=lj.mp hb;exact lj.mpr ⟨env',av _ h7,h8⟩
section
variable {M:Model}{A:Around}{E:Value->Shared->Prop}{s:Shared}{base:Heap}{env:Env}{outer:List Env}{L x T C:Addr}{Q:Unit->Shared->Prop}
theorem kN{fs:List Addr}{fl:Value}(hT:T∉fs)(F:rL s.heap x T C fl)(q:∀h',Kp fs [T] s.heap h'->rL h' x T C .none->Q () { s with heap:=h' }):wpAny M A (setFlight (.ref x) .none) Q E s:=by
 obtain⟨⟨o,vs,e1,e2,e3,e4,e5⟩,ne,oT,ts,f1,f2,f3⟩:=F;have sz:3<ts.size:=(nv.mp f3).1;refine wpAny_setFlight_none e1 e4 e5 f1 f2 sz (q _ ⟨fun b u e _ n=>?_,fun b u e hb n=>⟨u.slots,?_⟩⟩ ⟨⟨o,vs,?_,e2,e3,e4,e5⟩,ne,_,_,fg _ f1 (jy (im f2 _)),im f2 _,?_⟩)
 ·rw[gi _ _ _ _ (by simpa using n)];exact e
 ·rw[gi _ _ _ _ (by simpa using n)];exact e
 ·rw[gi _ _ _ _ ne.symm];exact e1
 ·simp[sz]
theorem aQ7{head:Value}{hadNext:Bool}{tb:Value}(hA:A.frames=some (env::outer))(ff:s.heap.FunFrames base (env::outer))(hf:env.frame=some L)(ex:aF9 s.heap x C tb)
  (q:∀h' T,Kp (jH (env::outer)) [x] s.heap h'->s.heap.get? T= .none->T∉jH (env::outer)->rL h' x T C (rawInt L)->Q () { s with heap:=h' }) :
  wpAny M A (do
   let a <-PySem.frameOf env
   let pl <-entryPlaceOf L hadNext
   let b <-EntryCells.newEntry head a Value.none (rawInt L) Value.none pl
   setField (Value.ref x) 1 b) Q E s:=by
 obtain⟨o,vs,e1,e2,e3,e4,e5⟩:=ex;have nx:x∉jH (env::outer):=fun z=>by
  obtain⟨_,u,hu,hd⟩:=ff.mem z;rw[e1] at hu
  cases hu
  exact hd _ e4
 have sz:1<vs.size:=(nv.mp e5).1;refine aa (wpAny_frameOf_fun hA ff hf fun h1 so=>?_);obtain⟨z1,k1,sl1⟩:=so;refine aa (wpAny_entryPlaceOf fun pl hpl=>?_);refine aa (fz ?_ (hpl.sizeOk5 _ _ _ _ _));have ex1:(h1.push { cls:= .type "traceback",dict:= .none,data:= .fields ([head,Value.ref L,Value.none,rawInt L,Value.none]++if pl.isEmpty=true then List.replicate 6 Value.none else pl).toArray }).get? x=some o:=ac _ ((k1 x nx).trans e1);refine mj ex1 e4 sz ?_;have lt1:x<h1.objs.size:=ao ((k1 x nx).trans e1);have neT:h1.objs.size≠x:=dq lt1;have fT:s.heap.get? h1.objs.size= .none:=by rw[z1];exact ww (ai _)
 refine q _ h1.objs.size ⟨fun b u e hn n=>?_,fun b u e hb n=>?_⟩ fT (fun z=>?_) ⟨⟨_,_,fg _ ex1 (jy (im e4 _)),(uj ..).trans e2,?_,im e4 _,by simp[sz]⟩,neT,{ cls:= .type "traceback",dict:= .none,data:= .fields ([head,Value.ref L,Value.none,rawInt L,Value.none]++if pl.isEmpty=true then List.replicate 6 Value.none else pl).toArray },_,?_,rfl,?_⟩
 ·rw[gi _ _ _ _ (by simpa using n)];exact ac _ ((k1 b hn).trans e)
 ·obtain⟨sl,e'⟩:=sl1 b u e;refine⟨sl,?_⟩;rw[gi _ _ _ _ (by simpa using n)];exact ac _ e'
 ·obtain⟨_,u,hu,_⟩:=ff.mem z;rw[fT] at hu
  cases hu
 ·obtain⟨c,d,da,sl⟩:=o
  dsimp only at e3 e4
  subst e3 e4;rfl
 ·rw[gi _ _ _ _ neT];exact bc _ rfl
 ·simp
theorem bA5(hA:A.frames=some (env::outer))(ff:s.heap.FunFrames base (env::outer))(hf:env.frame=some L)(ex:aF9 s.heap x C .none)
  (q:∀h' T,Kp (jH (env::outer)) [x] s.heap h'->s.heap.get? T= .none->T∉jH (env::outer)->rL h' x T C (rawInt L)->Q () { s with heap:=h' }):wpAny M A (noteFrame (.ref x) env) Q E s:=by
 obtain⟨o,vs,e1,e2,e3,e4,e5⟩:=id ex;unfold noteFrame;rw[hf];refine aa (dr e1 e4 e5 ?_);rw[ay (by simp)];exact aQ7 hA ff hf ex q
theorem bG5(hA:A.frames=some (env::outer))(ff:s.heap.FunFrames base (env::outer))(hf:env.frame=some L)(hT:T∉jH (env::outer))(F:rL s.heap x T C .none)
  (q:∀h' T',Kp (jH (env::outer)) [x,T] s.heap h'->s.heap.get? T'= .none->T'∉jH (env::outer)->rL h' x T' C (rawInt L)->Q () { s with heap:=h' }):wpAny M A (noteFrame (.ref x) env) Q E s:=by
 obtain⟨⟨o,vs,e1,e2,e3,e4,e5⟩,ne,oT,ts,f1,f2,f3⟩:=id F;have sz:3<ts.size:=(nv.mp f3).1;unfold noteFrame;rw[hf];refine aa (dr e1 e4 e5 ?_);rw[bv (by simp)];refine aa (dr f1 f2 f3 ?_);rw[ay (by simp[rawInt])];refine aa (mj f1 f2 sz ?_);have k1:Kp (jH (env::outer)) [T] s.heap (s.heap.update T (Obj.mapFields fun y=>y.setIfInBounds 3 Value.none)):=⟨fun b u e _ n=>by rw[gi _ _ _ _ (by simpa using n)];exact e,fun b u e hb n=>⟨u.slots,by rw[gi _ _ _ _ (by simpa using n)];exact e⟩⟩
 have x1:(s.heap.update T (Obj.mapFields fun y=>y.setIfInBounds 3 Value.none)).get? x=some o:=by rw[gi _ _ _ _ ne.symm];exact e1
 have n1:∀b,s.heap.get? b≠ .none->(s.heap.update T (Obj.mapFields fun y=>y.setIfInBounds 3 Value.none)).get? b≠ .none:=fun b hb=>by
  by_cases c:b=T
  ·subst c;rw[fg _ f1 (jy (im f2 _))];simp
  ·rw[gi _ _ _ _ c];exact hb
 have ff1:(s.heap.update T (Obj.mapFields fun y=>y.setIfInBounds 3 Value.none)).FunFrames base (env::outer):=aP9 ff fun b hb u e=>k1.f b u e hb (by simpa using fun z:b=T=>hT (z ▸ hb))
 generalize s.heap.update T (Obj.mapFields fun y=>y.setIfInBounds 3 Value.none)=h1 at k1 x1 n1 ff1 ⊢;refine aQ7 (s:={ s with heap:=h1 }) (tb:= .ref T) hA ff1 hf ⟨o,vs,x1,e2,e3,e4,e5⟩ fun h' T' k2 t1 t2 F2=>q h' T' ((k1.mono (by simp)).trans (k2.mono (by simp))) ?_ t2 F2
 cases z:s.heap.get? T' with
 |none=>rfl
 |some u=>exact absurd t1 (n1 T' (by rw[z];simp))
end
theorem bW.got{P:Program}{w:World}{H:Hp}{h:Heap}{a:Addr}{o:HO}(x:bW P w H h a o):∃ob,h.get? a=some ob:=by
 cases o with
 |lst xs=>obtain⟨_,_,_,_,e⟩:=x;exact⟨_,e⟩
 |tup xs=>obtain⟨_,_,_,o,e,_⟩:=x;exact⟨_,e⟩
 |dK kvs=>obtain⟨_,_,_,_,o,_,_,e,_⟩:=x;exact⟨_,e⟩
 |dT kvs=>obtain⟨_,_,_,_,o,_,_,e,_⟩:=x;exact⟨_,e⟩
 |set S n=>obtain⟨o,_,_,_,e,_⟩:=x;exact⟨_,e⟩
 |ins C dx fs=>obtain⟨_,_,_,e,_⟩:=x;exact⟨_,e⟩
 |own y=>obtain⟨_,e⟩:=x;exact⟨_,e⟩
 |xd fs=>obtain⟨_,⟨_,_,_,e,_⟩,_⟩:=x;exact⟨_,e⟩
 |rng lo hi=>obtain⟨_,_,_,e⟩:=x;exact⟨_,e⟩
 |frz ob u=>obtain⟨e,_⟩:=x;exact⟨_,e⟩
 |tbl ps=>exact⟨_,(show h.get? a=some _ from x)⟩
 |met f y=>exact⟨_,(show h.get? a=some _ from x)⟩
 |ext φ=>obtain⟨_,⟨_,e⟩,_⟩:=x;exact⟨_,e⟩
theorem kA.none{P:Program}{w:World}{H:Hp}{h:Heap}{a:Addr}(x:kA P w H h)(e:h.get? a= .none):H a= .none:=by
 cases q:H a with
 |none=>rfl
 |some u =>
  obtain⟨o,z⟩:=(x a u q).got;rw[e] at z
  cases z
section
variable {X:Cx}{pins:List (Addr×Obj)}{σ:St}{H:Hp}{s:Shared}
theorem jC(hs:X.stack=X.env::X.outer)(hf:X.env.frame=some X.env.locals){b:Addr}:b∈jH X.stack↔b=X.env.locals\/b∈jH X.outer:=by
 rw[hs];unfold jH;rw[oi,hf];simp
def CX1(P:Program)(w:World):CXT:=fun outer H s E e s'=>∃(x T C:Addr) (H':Hp),e= .ref x/\s'.os=s.os/\AllBare s'.gens/\Un (jH outer) [] H H' s.heap s'.heap/\kA P w H' s'.heap /\
 s.heap.get? x= .none/\s.heap.get? T= .none/\H' x= .none/\H' T= .none/\rL s'.heap x T C .none/\E (.ref C) .none H'
theorem aQ.hokK(I:aQ X pins σ H s){h':Heap}{ch:List Addr}(k:Kp (jH X.stack) ch s.heap h')(n:∀b∈ch,H b= .none):kA X.prog X.w H h':=fun b u e=>by
 have nf:∀c v,H c=some v->c∉jH X.stack/\c∉ch:=fun c v e=>⟨fun z=>(by rw[I.stkFree c z] at e;cases e),fun z=>(by rw[n c z] at e;cases e)⟩
 refine(I.hok b u e).stay (fun c v hc q=>?_) (fun c q=>q) fun c xs q=>q
 rcases hc with z|z
 ·rw[z] at q ⊢;exact k.k _ _ q (nf b u e).1 (nf b u e).2
 ·exact k.k _ _ q (nf c _ z).1 (nf c _ z).2
theorem aC2{E:XK}{x C:Addr}{h1:Heap}{E':Value->Shared->Prop}(I:aQ X pins σ H s)(hs:X.stack=X.env::X.outer)(hf:X.env.frame=some X.env.locals)(hex:X.ex=[])(made:s.heap.MadeExcOf h1 x (.ref C) [])(hE:E (.ref C) .none H) :
  wpAny (model X.prog X.w) X.A (leaving X.env (.ref x)) (fun _ s''=>CX1 X.prog X.w X.outer X.H₀ X.s₀ E (.ref x) s'') E' { s with heap:=h1 }:=by
 have ff0:=I.stack;have k0:Kp (jH X.stack) [] s.heap h1:=Kp.kept made.keeps;have ff:h1.FunFrames X.base (X.env::X.outer):=by
  rw[<-hs];exact aP9 ff0 fun b hb o e=>k0.f b o e hb (by simp)
 obtain⟨t,ex,_⟩:=made.there;unfold leaving;refine aa (bA5 (s:={ s with heap:=h1 }) (by rw[I.ok.frames,hs]) ff hf ⟨_,_,ex,rfl,rfl,rfl,rfl⟩ fun h2 T k1 t1 t2 F=>?_);refine kN (s:={ s with heap:=h2 }) t2 F fun h3 k2 F3=>?_
 rw[<-hs] at k1 k2 t2;have sT:s.heap.get? T= .none:=by
  cases q:s.heap.get? T with
  |none=>rfl
  |some o=>rw[made.keeps _ _ q] at t1;cases t1
 have kk:Kp (jH X.stack) [] s.heap h3:=((k0.mono (ch':=[x,T]) (by simp)).trans ((k1.mono (by simp)).trans (k2.mono (by simp)))).drop (by
  intro b hb;rcases cj.mp hb with z|z
  ·rw[z];exact made.new
  ·have z:b=T:=by simpa using z
   rw[z];exact sT)
 have none0:∀b,s.heap.get? b= .none->X.s₀.heap.get? b= .none:=fun b e=>by
  cases q:X.s₀.heap.get? b with
  |none=>rfl
  |some o =>
   obtain⟨o',z⟩:=I.base.there b o q (by rw[hex];simp);rw[e] at z
   cases z
 have neL:∀b o,X.s₀.heap.get? b=some o->b≠X.env.locals:=fun b o e=>cg (bw (ao e) I.ok.above)
 refine⟨x,T,C,H,rfl,I.os,I.bare,⟨fun b o e hn nb _=>?_,fun b o e hn hb _=>?_,fun b o e hn hx=>I.base.free b o e hn (by rw[hex];simp),fun b o e _=>?_,I.base.tups,I.base.frzs,I.base.tbls⟩,I.hokK kk (by simp),none0 x made.new,none0 T sT,kA.none I.hok made.new,kA.none I.hok sT,F3,hE⟩
 ·have e1:=I.base.keep b o e hn nb (by rw[hex];simp);exact kk.k b o e1 (fun z=>by
   rcases(jC hs hf).mp z with z|z
   ·exact neL b o e z
   ·exact nb z) (by simp)
 ·obtain⟨sl,e1⟩:=I.base.slot b o e hn hb (by rw[hex];simp);obtain⟨sl',e2⟩:=kk.f b _ e1 ((jC hs hf).mpr (.inr hb)) (by simp);exact⟨sl',e2⟩
 ·obtain⟨o',e1⟩:=I.base.there b o e (by rw[hex];simp);obtain⟨sl,e2⟩:=kk.any e1 (by simp);exact⟨_,e2⟩
theorem aJ2{P:Program}{w:World}{K:W.Frag}{mg:Str->Option Value}{base:Heap}{N:List Str}{qual:Str}{scope:Scope}{f:Addr}{cd:Value}{A:Around}{outer:List Env}{s:Shared}{H:Hp}{E:XK}
  {nm:Str}{C D:Addr}{np cpos pos:Pos}(hg:Gl (kG (CX1 P w) P w K mg base N qual scope f cd A outer s H E) nm) (hm:mg nm=some (.ref C)) (M:XMk K C D .none) (hdb:autoParam ((nm==("__debug__": Str))=false) Rq1._auto_1) :
  PS (kG (CX1 P w) P w K mg base N qual scope f cd A outer s H E) (.Raise (some (.Call (.Name nm np) [] [] cpos)) .none pos) (fun _ _ H1=>E (.ref C) .none H1):=by
 intro pins s1 σ H1 D' I h;obtain⟨nm',q,Nn,bs,hdct,sn,sub,ab,col,dd,k0,k1,k2,k3,k5,Bn,newId,inN,bmN,eb,hc,hl,tx,ni⟩:=M.cls;have hh:(A.deeper (envOfC qual scope s.heap.objs.size f cd)).handled= .none:=I.ok.hd rfl;have kin:=I.kIn;obtain⟨mN,hN⟩:=rZ kin tx;refine wpAny_Raise_call_subU (nm:=nm') (q:=q) (bs:=bs) (hdct:=hdct) (sn:=sn) (sub:=sub) (ab:=ab) (col:=col) (dd:=dd) (k0:=k0) (k1:=k1) (k2:=k2) (k3:=k3) (k5:=k5) (C:=C) (N:=Nn) (bm:= .ref D::veB) (bmB:=veB) (mN:=mN) eb hc ug (by rw[List.contains_cons,show veB.contains (Value.type "BaseException")=true by decide,Bool.or_true]) hh rfl (bM5 kin hN ni) ?_;refine cL (fP (v:= .ref C) hg hm rfl hdb pins s1 σ H1 (fun v H2=>v= .ref C/\H2=H1) I ⟨rfl,rfl⟩) ?_;rintro u s2 ⟨v,H2,I2,r,rfl,rfl⟩
 cases r
 refine⟨rfl,?_⟩;refine aq ⟨rfl,bo _,?_,?_,M.tail I2.kIn,fun h' x made=>?_⟩
 ·exact I2.kIn _ _ hl
 ·obtain⟨o',lk⟩:∃o',K.lookup Nn=some o':=by
   cases hk:K.lookup Nn with
   |none=>unfold eY at tx;rw[hk] at tx;cases tx
   |some o'=>exact⟨o',rfl⟩
  obtain⟨o,es,ep,ho,r⟩:=hN;have e1:s1.heap.get? Nn=some o':=kin _ _ lk;rw[e1] at ho
  cases ho
  exact⟨_,es,ep,I2.kIn _ _ lk,r⟩
 ·exact aC2 I2 rfl rfl rfl made h
end
structure bV3(X:Cx)(pins:List (Addr×Obj))(x:Addr):Prop where
 s0:X.s₀.heap.get? x= .none
 loc:x≠X.env.locals
 cel:∀y c,X.env.cells.lookup y=some c->c≠x
 pin:∀p∈X.pn++pins,p.1≠x
 fr:x∉jH X.stack
section
variable {X:Cx}{pins:List (Addr×Obj)}{σ:St}{H:Hp}{s:Shared}{x:Addr}
theorem aQ.away(I:aQ X pins σ H s)(hex:X.ex=[])(e:s.heap.get? x= .none):bV3 X pins x where
 s0:=by
  cases q:X.s₀.heap.get? x with
  |none=>rfl
  |some o =>
   obtain⟨o',z⟩:=I.base.there x o q (by rw[hex];simp);rw[e] at z;cases z
 loc:=fun z=>by
  obtain⟨m,⟨o,es,ep,ho,_⟩,_⟩:=I.loc;rw[<-z,e] at ho;cases ho
 cel:=fun y c hc z=>by
  obtain⟨v,o,ho,_⟩:=I.cell y c hc;rw[z,e] at ho;cases ho
 pin:=fun p hp z=>by
  have:=(I.pin p hp).1;rw[z,e] at this;cases this
 fr:=fun z=>by
  obtain⟨_,o,ho,_⟩:=I.stack.mem z;rw[e] at ho;cases ho
theorem aQ.nopins(I:aQ X pins σ H s):aQ X [] σ H s:=⟨I.ok,I.os,I.bare,I.base,I.loc,I.cell,I.free,I.freeC,fun p hp=>I.pin p (by simp at hp ⊢;exact .inl hp),I.hok,I.len⟩
theorem aQ.move(I:aQ X pins σ H s)(hs:X.stack=X.env::X.outer)(hf:X.env.frame=some X.env.locals)(hex:X.ex=[]){h':Heap}{H':Hp}{ch:List Addr}(aw:∀b∈ch,bV3 X pins b)(k:Kp (jH X.stack) ch s.heap h')(hn:∀b,b∉ch->H' b=H b)(hc:∀b∈ch,H b= .none)
  (hok:kA X.prog X.w H' h'):aQ X pins σ H' { s with heap:=h' }:=by
 have ns0:∀b o,X.s₀.heap.get? b=some o->b∉ch:=fun b o e z=>by rw[(aw b z).s0] at e;cases e
 have neL:∀b o,X.s₀.heap.get? b=some o->b≠X.env.locals:=fun b o e=>cg (bw (ao e) I.ok.above)
 have nch:∀b u,H b=some u->b∉ch:=fun b u e z=>by rw[hc b z] at e;cases e
 have lnc:X.env.locals∉ch:=fun z=>(aw _ z).loc rfl
 have cell:∀y c v,X.env.cells.lookup y=some c->s.heap.IsCell c v->h'.IsCell c v:=fun y c v hy ⟨o,ho,hd⟩=>by
  obtain⟨sl,e⟩:=k.any ho (fun z=>(aw c z).cel y c hy rfl);exact⟨_,e,hd⟩
 refine⟨I.ok,I.os,I.bare,⟨fun b o e n nb nx=>?_,fun b o e n hb nx=>?_,fun b o e n nx=>?_,fun b o e nx=>?_,fun b xs e=>?_,fun b o u e=>?_,fun b ps e=>?_⟩,?_,fun y c hy=>?_,?_,fun y c hy=>?_,fun p hp=>?_,hok,I.len⟩
 ·exact k.k b o (I.base.keep b o e n nb nx) (fun z=>by
   rcases(jC hs hf).mp z with z|z
   ·exact neL b o e z
   ·exact nb z) (ns0 b o e)
 ·obtain⟨sl,e1⟩:=I.base.slot b o e n hb nx;obtain⟨sl',e2⟩:=k.f b _ e1 ((jC hs hf).mpr (.inr hb)) (ns0 b o e);exact⟨sl',e2⟩
 ·rw[hn b (ns0 b o e)];exact I.base.free b o e n nx
 ·obtain⟨o',e1⟩:=I.base.there b o e nx;obtain⟨sl,e2⟩:=k.any e1 (ns0 b o e);exact⟨_,e2⟩
 ·have q:=I.base.tups b xs e;rw[hn b (nch b _ q)];exact q
 ·have q:=I.base.frzs b o u e;rw[hn b (nch b _ q)];exact q
 ·obtain⟨more,q⟩:=I.base.tbls b ps e;exact⟨more,by rw[hn b (nch b _ q)];exact q⟩
 ·obtain⟨m,⟨o,es,ep,ho,r⟩,lk⟩:=I.loc;obtain⟨sl,e⟩:=k.any ho lnc;refine⟨m,⟨_,es,ep,e,r⟩,fun i y v h1 h2 h3=>?_⟩;obtain⟨u,ru,l⟩:=lk i y v h1 h2 h3;refine⟨u,ru,?_⟩;rcases l with l|⟨l1,c,l2,l3⟩
  ·exact .inl l
  ·exact .inr ⟨l1,c,l2,cell y c _ l2 l3⟩
 ·obtain⟨v,hv⟩:=I.cell y c hy;exact⟨v,cell y c v hy hv⟩
 ·rw[hn _ lnc];exact I.free
 ·rw[hn c fun z=>(aw c z).cel y c hy rfl];exact I.freeC y c hy
 ·obtain⟨p1,p2,p3,p4,p5⟩:=I.pin p hp;have pc:p.1∉ch:=fun z=>(aw _ z).pin p hp rfl
  refine⟨k.k _ _ p1 (fun z=>?_) pc,by rw[hn _ pc];exact p2,p3,p4,p5⟩;rcases(jC hs hf).mp z with z|z
  ·exact p3 z
  ·exact p4 z
theorem aQ.unset{i:Nat}{n:Str}{h':Heap}{u:Option Value}{m:Str->Option Value}(I:aQ X pins σ H s)(hN:X.N.Nodup)(hi:X.N[i]?=some n)(hl:X.env.kindOf n=some .local)(lk:∀(i:Nat) (x:Str) (v:V),X.N[i]?=some x->σ[i]?=some (some v)->Vis X.env.scope x->∃u,bC v u/\cG3 X.env s.heap m x u)
  (ns:h'.Ns X.env.locals (fun x=>if x=n then u else m x)) (sb:Heap.SameBut X.env.locals s.heap h'):aQ X pins (σ.set i .none) H { s with heap:=h' }:=by
 have kp:∀b o,b≠X.env.locals->s.heap.get? b=some o->h'.get? b=some o:=fun b o hb e=>(sb.2 b hb).trans e
 have neL:∀b o,X.s₀.heap.get? b=some o->b≠X.env.locals:=fun b o e=>cg (bw (ao e) I.ok.above)
 have cell:∀c v,s.heap.IsCell c v->h'.IsCell c v:=fun c v ⟨o,ho,hd⟩=>⟨o,kp c o (fun z=>by
  obtain⟨m',⟨o',es,ep,ho',hd',_⟩,_⟩:=I.loc;rw[z,ho'] at ho
  cases ho
  rw[hd'] at hd
  cases hd) ho,hd⟩
 refine⟨I.ok,I.os,I.bare,⟨fun b o e n nb nx=>kp b o (neL b o e) (I.base.keep b o e n nb nx),fun b o e n hb nx=>?_,I.base.free,fun b o e nx=>?_,I.base.tups,I.base.frzs,I.base.tbls⟩,⟨_,ns,fun j y v h1 h2 h3=>?_⟩,fun y c hy=>?_,I.free,I.freeC,fun p hp=>?_,fun b v e=>?_,by rw[List.length_set];exact I.len⟩
 ·obtain⟨sl,e1⟩:=I.base.slot b o e n hb nx;exact⟨sl,kp b _ (neL b o e) e1⟩
 ·obtain⟨o',e1⟩:=I.base.there b o e nx;exact⟨o',kp b o' (neL b o e) e1⟩
 ·by_cases c:j=i
  ·subst c;rw[List.getElem?_set_self'] at h2
   cases hq:σ[j]? with
   |none=>rw[hq] at h2;cases h2
   |some z=>rw[hq] at h2;cases h2
  ·rw[qu (fun z=>c z.symm)] at h2;obtain⟨w',rw',l⟩:=lk j y v h1 h2 h3;refine⟨w',rw',?_⟩;rcases l with⟨l1,l2⟩|⟨l1,cc,l2,l3⟩
   ·refine .inl ⟨l1,?_⟩;show(if y=n then u else m y)=some w';rw[ay (show ¬y=n from fun z=>c ?_)]
    ·exact l2
    ·rw[z] at h1;have a1:=(ap.mp h1)
     have a2:=(ap.mp hi)
     exact(zk hN).mp (a1.2.trans a2.2.symm)
   ·exact .inr ⟨l1,cc,l2,cell cc _ l3⟩
 ·obtain⟨v,hv⟩:=I.cell y c hy;exact⟨v,cell c v hv⟩
 ·obtain⟨p1,p2,p3,p4,p5⟩:=I.pin p hp;exact⟨kp _ _ p3 p1,p2,p3,p4,p5⟩
 ·refine(I.hok b v e).stay (fun c o hc q=>kp c o ?_ q) (fun c q=>q) fun c xs q=>q
  rcases hc with z|z
  ·rw[z];intro z2;rw[z2,I.free] at e;cases e
  ·intro z2;rw[z2,I.free] at z;cases z
abbrev Cx.hand(X:Cx)(x:Addr):Cx:={ X with A:=X.A.mark (some (.ref x)),calm:=false,xe:=fun _ _=>False }
theorem aQ.hand(I:aQ X pins σ H s)(x:Addr):aQ (X.hand x) pins σ H s:=
 ⟨⟨I.ok.mod,I.ok.kind,I.ok.glob,I.ok.blt,I.ok.above,I.ok.inj,I.ok.has,I.ok.cab,(fun z=>nomatch z),I.ok.frames,I.ok.stk,I.ok.exf,I.ok.bs,I.ok.bsz,I.ok.noex,I.ok.exfs,I.ok.funs,I.ok.frf⟩,I.os,I.bare,I.base,I.loc,I.cell,I.free,I.freeC,I.pin,I.hok,I.len⟩
theorem aQ.unhand{x:Addr}(ok:X.Ok)(I:aQ (X.hand x) pins σ H s):aQ X pins σ H s:=⟨ok,I.os,I.bare,I.base,I.loc,I.cell,I.free,I.freeC,I.pin,I.hok,I.len⟩
end
structure XUp(K:W.Frag)(D:Addr):Prop where
 ty:typeIn K (.ref D)=some (.type "type")
 cl:(clsIn K D).isSome=true
 be:subIn K (.ref D) (.type "BaseException")=some true
theorem aA1{K:W.Frag}:subIn K (.type "type") (.type "tuple")=some false:=by
 show Option.map _ (fastBuiltinMro "type")=_
 decide
theorem bE7{M:Model}{K:W.Frag}{h:Heap}{D:Addr}(c:(clsIn K D).isSome=true)(X:K.In h):Looks M h (isType (.ref D)) true:=by
 obtain⟨cd,hc⟩:=jn.mp c;unfold clsIn at hc
 split at hc
 ·rename_i ho
  intro A' Q' E' s' k q;unfold isType loadHead;exact aa (wpAny_loadPart (k _ _ (X _ _ ho)) (aq q))
 ·cases hc
theorem bZ2{M:Model}{A:Around}{E:Value->Shared->Prop}{s:Shared}{K:PySem.W.Frag}{x C D:Addr}{tb:Value}{Q:Bool->Shared->Prop}(kin:K.In s.heap)(U:XUp K D)(W:eV K C D)(e:aF9 s.heap x C tb)(q:Q true s):wpAny M A (excMatches (.ref x) (.ref D)) Q E s:=by
 obtain⟨o,vs,e1,e2,e3,e4,e5⟩:=e;have J:InstAt s.heap x o C .none:=⟨e1,e2,by unfold notCls;rw[e4],by rw[e3];trivial⟩
 unfold excMatches;refine aa ?_;unfold isInstance;refine aa ((looks_typeIn kin U.ty).here ((looks_subIn kin aA1).here ?_));rw[ay (by simp)];refine aa (aq ?_);refine aa ?_;rw[vo];refine aa ?_;unfold isExcClass;refine aa (aa ((bE7 U.cl kin).here ?_));rw[bv rfl];refine(looks_subIn kin U.be).here ?_;rw[ay (by simp)];refine aq ?_
 dsimp only
 rw[List.forIn_nil];refine aq (aa (J.type.here ?_));refine aa ?_;rw[vo];refine aa (aa ((looks_subIn kin (W.subIn (.ref D))).here ?_));rw[bv (by simp[aH4])];exact aq (aq (aq q))
section
variable {X:Cx}
def PS0(X:Cx)(st:Stmt)(t:TS):Prop:=∀(s:Shared) (σ:St) (H:Hp) (D:jD),aQ X [] σ H s->t D σ H->wpAny (model X.prog X.w) X.A (exec st X.env) (SP X [] D) X.xe s
def wY(X:Cx)(st:List Stmt)(t:TS):Prop:=∀(s:Shared) (σ:St) (H:Hp) (D:jD),aQ X [] σ H s->t D σ H->wpAny (model X.prog X.w) X.A (execs st X.env) (SP X [] D) X.xe s
theorem PS.p0{st:Stmt}{t:TS}(h:PS X st t):PS0 X st t:=fun s σ H D I q=>h [] s σ H D I q
theorem pS.p0{st:List Stmt}{t:TS}(h:pS X st t):wY X st t:=fun s σ H D I q=>h [] s σ H D I q
theorem aH0{st:Stmt}{cS:List Stmt}{t u:TS}(h1:PS0 X st t)(h2:wY X cS u):wY X (st::cS) (aV4 t u):=by
 intro s σ H D I h;refine um (cL (h1 s σ H { D with nx:=u D } I h) fun f s1 q=>?_)
 cases f with
 |next =>
  obtain⟨σ',H',I',q⟩:=q;exact h2 s1 σ' H' D I' q
 |ret v=>exact q
 |brk=>exact q
 |cont=>exact q
theorem wY.nox{st:List Stmt}{t:TS}(h:wY X.nox st t):wY X st t:=fun s σ H D I q =>
 dv (h s σ H D (I.wish _) q) (fun f s' z=>SP.unwish z) fun _ _ z=>z.elim
def cM4(K:W.Frag)(D:Addr)(i l:Nat)(tb:XK->TS)(th:TS):TS:=fun Dn σ H =>
 tb (fun cls _ H'=>∃C,cls= .ref C/\eV K C D/\∀(σ':St) (x:Addr),σ'.length=l->H' x= .none ->
  th { nx:=fun σ2 H2=>Dn.nx (σ2.set i .none) H2,rt:=Dn.rt } (σ'.set i (some (.ref x))) (aO H' x (XN x C))) Dn σ H
theorem bE4{i:Nat}{n nmT:Str}{D:Addr}{body suite:List Stmt}{b0:Stmt}{np hpos pos:Pos}{tb:XK->TS}{th:TS}(hs:X.stack=X.env::X.outer)(hf:X.env.frame=some X.env.locals)(hex:X.ex=[])(hN:X.N.Nodup)(hi:X.N[i]?=some n)
  (hl:X.env.scope.names.lookup n=some .local) (hk:X.env.kindOf n=some .local) (hg:Gl X nmT) (hm:X.mg nmT=some (.ref D)) (U:XUp X.K D)
  (hb:∀(Ex:Value->Shared->Prop) (E1:XK),sP (CX1 X.prog X.w) (X.wish Ex) E1->pS (X.wish Ex) body (tb E1)) (hh:∀x,pS (X.hand x) (b0::suite) th) (hdb:autoParam ((nmT==("__debug__": Str))=false) Rq1._auto_1) :
  PS0 X (.Try body [.ExceptHandler (some (.Name nmT np)) (some n) (b0::suite) hpos] [] [] pos) (cM4 X.K D i X.N.length tb th):=by
 intro s σ H Dn I h;have kf:=I.ok.kind;refine wpAny_Try_except ?_;refine dv (hb (fun e s₁=>wpAny (model X.prog X.w) X.A (noteFrame e X.env) (fun _ s₂=>wpAny (model X.prog X.w) X.A (setFlight e .none) (fun _ s₃=>wpAny (model X.prog X.w) X.A (handleBy e X.env [.ExceptHandler (some (.Name nmT np)) (some n) (b0::suite) hpos]) (SP X [] Dn) X.xe s₃) X.xe s₂) X.xe s₁) _ ?_ [] s σ H Dn (I.wish _) h) (fun f s1 q=>?_) fun _ _ z=>z
 ·intro pins' σ' H1 s1 e s2 I1 cx;obtain⟨x,T,C,H2,rfl,os,bare,un,hok,nx,nT,hx,hT,F,C',eC,W,q⟩:=cx
  cases eC
  have J1:aQ X [] σ' H1 s1:=I1.unwish.nopins;have ax:=J1.away hex nx;have aT:=J1.away hex nT;have J2:aQ X [] σ' H2 s2:=J1.call' os un hok bare fun b z=>absurd z (by simp)
  have fr2:=J2.stack;rw[hs] at fr2;have tf:=aT.fr;rw[hs] at tf;show wpAny _ _ (noteFrame (.ref x) X.env) _ _ s2;refine bG5 (s:=s2) (outer:=X.outer) (by rw[J2.ok.frames,hs]) fr2 hf tf F fun h3 T3 k3 t3 t3' F3=>?_
  refine kN (s:={ s2 with heap:=h3 }) t3' F3 fun h4 k4 F4=>?_
  have a3:=J2.away hex t3;rw[<-hs] at k3 k4;have k34:Kp (jH X.stack) [x,T,T3] s2.heap h4:=(k3.mono (by simp)).trans (k4.mono (by simp));have hT3:H2 T3= .none:=kA.none J2.hok t3;have cl:∀b∈[x,T,T3],H2 b= .none:=fun b hb=>by
   simp only[List.mem_cons,List.not_mem_nil,or_false] at hb;rcases hb with rfl|rfl|rfl
   ·exact hx
   ·exact hT
   ·exact hT3
  have aw:∀b∈[x,T,T3],bV3 X [] b:=fun b hb=>by
   simp only[List.mem_cons,List.not_mem_nil,or_false] at hb;rcases hb with rfl|rfl|rfl
   ·exact ax
   ·exact aT
   ·exact a3
  have J4:aQ X [] σ' H2 { s2 with heap:=h4 }:=J2.move hs hf hex aw k34 (fun b _=>rfl) cl (J2.hokK k34 cl);refine wpAny_handleBy_cons ?_ (fun z=>nomatch z);refine codeAny_handlers_test (nA (X:=X.hand x) (J4.hand x) hg hm ?_ hdb);refine bZ2 J4.kIn U W F4.1 ?_;refine codeAny_handlers_suite_as ?_;refine kN (s:={ s2 with heap:=h4 }) (fs:=jH X.stack) a3.fr F4 fun h5 k5 F5=>?_
  have J5:aQ X [] σ' H2 { s2 with heap:=h5 }:=J4.move hs hf hex (ch:=[T3]) (fun b hb=>aw b (by simp at hb ⊢;exact .inr (.inr hb))) k5 (fun b _=>rfl) (fun b hb=>cl b (by simp at hb ⊢;exact .inr (.inr hb))) (J4.hokK k5 fun b hb=>cl b (by simp at hb ⊢;exact .inr (.inr hb)));obtain⟨⟨o,vs,e1,e2,e3,e4,e5⟩,_⟩:=F5;have xn:∃o,h5.get? x=some o/\o.cls= .ref C/\notCls o=true/\o.dict= .none:=⟨o,e1,e2,by unfold notCls;rw[e4],e3⟩
  have hok6:kA X.prog X.w (aO H2 x (XN x C)) h5:=fun b u eb=>by
   by_cases c:b=x
   ·subst c;rw[aC] at eb
    cases eb
    exact cE0 xn
   ·rw[aH c] at eb;refine(J5.hok b u eb).stay (fun _ _ _ q=>q) (fun cc q=>?_) fun cc xs q=>?_
    ·rw[aH (fun z=>by rw[z,hx] at q;cases q)];exact q
    ·rw[aH (fun z=>by rw[z,hx] at q;cases q)];exact q
  have J6:aQ X [] σ' (aO H2 x (XN x C)) { s2 with heap:=h5 }:=J5.move hs hf hex (ch:=[x]) (fun b hb=>aw b (by simp at hb ⊢;exact .inl hb)) (Kp.mono (Kp.kept fun _ _ e=>e) (by simp)) (fun b hb=>aH (by simpa using hb)) (fun b hb=>cl b (by simp at hb ⊢;exact .inl hb)) hok6;refine gX (v:= .ref x) J6 hN hi (.inl hl) rfl (fun s7 J7=>?_) (.inr hl);refine dv (hh x [] s7 _ _ _ (J7.hand x) (q σ' x J6.len hx)) (fun f s8 q8=>?_) fun _ _ z=>z.elim
  have done:∀(σ2:St) (H8:Hp),aQ X [] σ2 H8 s8->∀{Q:Unit->Shared->Prop}{E:Value->Shared->Prop},(∀s9,aQ X [] (σ2.set i .none) H8 s9->Q () s9)->wpAny (model X.prog X.w) X.A (do bindName X.env n Value.none;unbindBehindTheSuite X.env n hpos) Q E s8:=fun σ2 H8 J8 Q E q9=>by
   refine aa (wj (gX (v:= .non) J8 hN hi (.inl hl) rfl (fun s9 J9=>?_) (.inr hl)));unfold unbindBehindTheSuite;obtain⟨m,hm9,lk⟩:=J9.loc;have il:i<σ2.length:=by rw[J8.len];exact(ap.mp hi).1
   obtain⟨u,ru,lk1⟩:=lk i n .non hi (by rw[qd il]) (.inl hl);have mn:m n=some u:=by
    rcases lk1 with⟨_,z⟩|⟨z,_⟩
    ·exact z
    ·rw[hk] at z;rcases z with z|z<;>cases z
   refine ue (wpAny_unbindName_local hk hm9 mn (by rw[kf];rfl) fun h9 u9 ns9 sb9=>?_);have:=J9.unset hN hi hk lk ns9 sb9;rw[List.set_set] at this;exact q9 _ this
  cases f with
  |next =>
   obtain⟨σ2,H8,J8,z⟩:=q8;exact done σ2 H8 (J8.unhand J6.ok) fun s9 J9=>⟨_,H8,J9,z⟩
  |ret v =>
   obtain⟨w',σ2,H8,J8,r,z⟩:=q8;exact done σ2 H8 (J8.unhand J6.ok) fun s9 J9=>⟨w',_,H8,J9,r,z⟩
  |brk =>
   obtain⟨_,_,_,z⟩:=q8;exact z.elim
  |cont =>
   obtain⟨_,_,_,z⟩:=q8;exact z.elim
 ·have q:=SP.unwish q
  cases f with
  |next=>exact om q
  |ret v=>exact q
  |brk=>exact q
  |cont=>exact q
end
theorem tU{K:W.Frag}{t:Value}:∀{its:List Value},(∀c∈its,kitOne K t c=some false)->kitAny K t its=some false
 |[],_=>rfl
 |c::r,h=>by
  have h1:=h c az;have h2:=tU fun x hx=>h x (av _ hx)
  simp[kitAny,h1,h2]
theorem qX:∀{cs:List Addr}{us:List Value},bB (cs.map V.ref) us->us=cs.map Value.ref
 |[],_,.nil=>rfl
 |c::cs,_,.cons r t=>by
  have r:_=Value.ref c:=r;rw[qX t,r];rfl
theorem bA9{X:Cx}:fG X (.builtin "isinstance") (fun xs H Q=>∃(a p C D:Addr) (cs:List Addr),xs=[.ref a,.ref p]/\aU X.K H p (cs.map V.ref)/\XAt H a C/\eV X.K C D/\XIs X.K C/\(∀c∈cs,kitOne X.K (.ref C) (.ref c)=some false)/\Q (.bl false) H):=by
 intro pins s σ H xs us Q I r h;obtain⟨a,p,C,D,cs,rfl,hq,x,W,Z,no,q⟩:=h;obtain⟨u,w',rfl,ru,rw'⟩:=nX r
 cases ru
 cases rw'
 obtain⟨its,rv,⟨⟨cls,dd,data,sl⟩,ho,hc,n,hd⟩,_⟩:=I.tuple hq;simp only at hc hd;subst hc hd;have e:=qX rv;subst e;refine kia_tup (aA8 W Z) I.kIn (aC8 I x) ho (tU fun c hc=>?_) (fun z=>nomatch z) fun tk=>⟨.bl false,H,I.tok tk,rfl,q⟩
 obtain⟨c',hc',rfl⟩:=fj.mp hc;exact no c' hc'
structure aG5(k:Nat)(A:Around):Prop where
 dp:A.depth+3*k+5<recursionLimit
 un:A.units+16*k+200<cLine
theorem cY.h{k:Nat}{A:Around}(r:cY k A)(e:Option Value):aG5 k (A.mark e):=⟨r.dp,r.un⟩
structure yF(P:Program)(w:World)(K:W.Frag)(mg:Str->Option Value)(base:Heap)(k:Nat)(f:Addr)(fd:FuncData)(ps:List Str)(sp:Sp):Prop where
 len:∀vs H Q E,sp vs H Q E->vs.length=ps.length
 run:∀(A:Around) (outer:List Env) (s:Shared) (H:Hp) (args:Args) (us:List Value) (vs:List V) (Q:VK) (E:XK),aG5 k A->xX P w K mg base A outer s H->BindsTo s fd args (ps.zip us)->bB vs us->sp vs H Q E ->
  codeAny (model P w) A (.call (.ref f) args) (CR qL outer P w H s Q E) s
abbrev cxH(P:Program)(w:World)(K:W.Frag)(mg:Str->Option Value)(base:Heap)(N:List Str)(qual:Str)(scope:Scope)(f:Addr)(cd:Value)(A:Around)(outer:List Env)(s:Shared)(H:Hp)(E:XK):Cx:=
 { kG qL P w K mg base N qual scope f cd A outer s H E with calm:=false,xe:=fun _ _=>False }
section
variable {P:Program}{w:World}{K:W.Frag}{mg:Str->Option Value}{base:Heap}
theorem oI.okH{x qual:Str}{st:Stmt}{f:Addr}{fd:FuncData}{N ps:List Str}{k:Nat}{sp:Sp}(F:oI K x qual st f fd)(S:eM N ps (aK st))(len:∀vs H Q E,sp vs H Q E->vs.length=ps.length)
  (hbody:∀(cdv:Value) (A:Around) (outer:List Env) (s:Shared) (H:Hp) (vs:List V) (Q:VK) (E:XK),sp vs H Q E ->
   ∃t,pS (cxH P w K mg base N qual (aK st) f cdv A outer s H E) (bF st) t/\t { nx:=fun _ H'=>Q .non H',rt:=Q } (eT N vs) H):yF P w K mg base (k+1) f fd ps sp:=by
 obtain⟨oc,od,kV,doc,pm,an,cdv,ct,osl,rfl,lk,hcd⟩:=F.ex;refine⟨len,fun A outer s H args us vs Q E hr e0 hb r hsp=>?_⟩;have hl:=len _ _ _ _ hsp;have KX:K.In s.heap:=e0.mod.kin.keeps fun b o e=>(e0.bs b o e).1
 have lim:s.heap.NoLimit:=e0.mod.nolimit.keeps fun b o e=>(e0.bs b o e).1
 have hkind:∀y∈ps.zip us,(aK st).names.lookup y.1=some .local\/((aK st).names.lookup y.1=some .cell/\((cellsFrom (s.heap.objs.size+1) (aK st).names []).lookup y.1).isSome=true):=fun⟨n,v⟩ hy=>by
  rcases S.par n (jw hy).1 with q|q
  ·exact .inl q
  ·exact .inr ⟨q,vb _ _ _ (.inl q)⟩
 refine mf (by have:=hr.dp;lia) (KX _ _ lk) rfl S.co S.gen rfl (ym KX hcd) (hb _ _ _ _ ?_);refine kg S.kind hkind fun env he s1 x=>?_
 subst he;refine⟨lim.keeps x.toInCall.keep,uo ?_⟩;obtain⟨t,ht,hq⟩:=hbody cdv A outer s H vs Q E hsp;have J:=lQ (CX:=qL) (E:=E) (A:={ A with handled:= .none }) S rfl (⟨e0.frames,e0.mod,e0.bs,e0.bsz,e0.funs,e0.frf,e0.hok,e0.bare⟩:xX P w K mg base { A with handled:= .none } outer s H) hl r x;have I:aQ (cxH P w K mg base N qual (aK st) f cdv A outer s H E) [] (eT N vs) H s1:=
  ⟨⟨J.ok.mod,J.ok.kind,J.ok.glob,J.ok.blt,J.ok.above,J.ok.inj,J.ok.has,J.ok.cab,(fun z=>nomatch z),qx e0.frames,J.ok.stk,J.ok.exf,J.ok.bs,J.ok.bsz,J.ok.noex,J.ok.exfs,J.ok.funs,J.ok.frf⟩,J.os,J.bare,J.base,J.loc,J.cell,J.free,J.freeC,J.pin,J.hok,J.len⟩
 refine dv (ht [] s1 (eT N vs) H _ I hq) (fun fl s' hs=>?_) fun e s' hs=>hs.elim
 have fin:∀{σ':St}{H':Hp}{v:V}{u:Value},aQ (cxH P w K mg base N qual (aK st) f cdv A outer s H E) [] σ' H' s'->bC v u->Q v H'->CE outer P w H s Q u s':=
  fun {σ' H' v u} J rv q=>⟨v,H',J.os,J.bare,J.base,J.hok,rv,q⟩
 cases fl with
 |ret u =>
  obtain⟨v,σ',H',J,rv,q⟩:=hs;exact fin J rv q
 |next =>
  obtain⟨σ',H',J,q⟩:=hs;exact fin (v:=V.non) (u:=Value.none) J rfl q
 |brk =>
  obtain⟨_,_,_,q⟩:=hs;exact False.elim q
 |cont =>
  obtain⟨_,_,_,q⟩:=hs;exact False.elim q
theorem oI.ok0{x qual:Str}{st:Stmt}{f:Addr}{fd:FuncData}{N ps:List Str}{k:Nat}{sp:Sp}(F:oI K x qual st f fd)(S:eM N ps (aK st))(len:∀vs H Q E,sp vs H Q E->vs.length=ps.length)
  (hbody:∀(cdv:Value) (A:Around) (outer:List Env) (s:Shared) (H:Hp) (vs:List V) (Q:VK) (E:XK),cY k (A.deeper (envOfC qual (aK st) s.heap.objs.size f cdv))->sp vs H Q E ->
   ∃t,wY (kG qL P w K mg base N qual (aK st) f cdv A outer s H E).nox (bF st) t/\t { nx:=fun _ H'=>Q .non H',rt:=Q } (eT N vs) H):mI P w K mg base qL (k+1) f fd ps sp:=by
 obtain⟨oc,od,kV,doc,pm,an,cdv,ct,osl,rfl,lk,hcd⟩:=F.ex;refine⟨len,fun A outer s H args us vs Q E hr e0 hb r hsp=>?_⟩;have hl:=len _ _ _ _ hsp;have KX:K.In s.heap:=e0.mod.kin.keeps fun b o e=>(e0.bs b o e).1
 have lim:s.heap.NoLimit:=e0.mod.nolimit.keeps fun b o e=>(e0.bs b o e).1
 have hkind:∀y∈ps.zip us,(aK st).names.lookup y.1=some .local\/((aK st).names.lookup y.1=some .cell/\((cellsFrom (s.heap.objs.size+1) (aK st).names []).lookup y.1).isSome=true):=fun⟨n,v⟩ hy=>by
  rcases S.par n (jw hy).1 with q|q
  ·exact .inl q
  ·exact .inr ⟨q,vb _ _ _ (.inl q)⟩
 refine mf hr.depth (KX _ _ lk) rfl S.co S.gen rfl (ym KX hcd) (hb _ _ _ _ ?_);refine kg S.kind hkind fun env he s1 x=>?_
 subst he;refine⟨lim.keeps x.toInCall.keep,uo ?_⟩;obtain⟨t,ht,hq⟩:=hbody cdv A outer s H vs Q E (hr.deeper _) hsp;have I:aQ (kG qL P w K mg base N qual (aK st) f cdv A outer s H E) [] (eT N vs) H s1:=lQ S hr.hd e0 hl r x;refine dv (ht.nox s1 (eT N vs) H _ I hq) (fun fl s' hs=>?_) fun e s' hs=>hs
 have fin:∀{σ':St}{H':Hp}{v:V}{u:Value},aQ (kG qL P w K mg base N qual (aK st) f cdv A outer s H E) [] σ' H' s'->bC v u->Q v H'->CE outer P w H s Q u s':=
  fun {σ' H' v u} J rv q=>⟨v,H',J.os,J.bare,J.base,J.hok,rv,q⟩
 cases fl with
 |ret u =>
  obtain⟨v,σ',H',J,rv,q⟩:=hs;exact fin J rv q
 |next =>
  obtain⟨σ',H',J,q⟩:=hs;exact fin (v:=V.non) (u:=Value.none) J rfl q
 |brk =>
  obtain⟨_,_,_,q⟩:=hs;exact False.elim q
 |cont =>
  obtain⟨_,_,_,q⟩:=hs;exact False.elim q
end
section
variable {X:Cx}{k:Nat}{f:Addr}{fd:FuncData}{ps:List Str}{sp:Sp}{x:Str}{p pos:Pos}{e:Expr}{es:List Expr}{t:TA}
theorem bA0(F:yF X.prog X.w X.K X.mg X.base k f fd ps sp)(hr:aG5 k X.A)(hg:Gl X x)(hm:X.mg x=some (.ref f))(hk:W.keepIn X.K (.ref f)=true)(hb:gJ X.K fd ps [])
  (ha:PA X (e::es) t) (hdb:autoParam ((x==("__debug__": Str))=false) Rq1._auto_1) (he:autoParam (starEach (e::es) X.env=(false,eval e X.env)::starEach es X.env) Rq0._auto_1) (hpl:autoParam ((backTo pos (starEach es X.env)).any (·.1)=false) Rq0._auto_1) :
  PE X (.Call (.Name x p) (e::es) [] pos) (pR sp [] E0 t):=by
 intro pins s σ H Q I h;refine eo (nA I hg hm ?_ hdb);refine W.callWith_K (h₀:=X.base) I.ok.mod.kin hk (cL (ha pos pins s σ H _ I h) ?_) he hpl;rintro us s1 ⟨vs,H1,I1,r,q⟩;refine⟨I1.kIn,?_⟩;have r2:bB (vs++[]) (us++[]):=r.append .nil;have hl:(us++[]).length=ps.length:=by rw[<-r2.length];exact F.len _ _ _ _ q
 refine qw (md (F.run X.A X.stack s1 H1 ⟨us,[]⟩ (us++[]) (vs++[]) Q E0 hr I1.env0 (hb s1 us I1.kIn hl) r2 q) fun r s' hq=>?_)
 cases r with
 |error e=>exact hq.elim
 |ok fl =>
  cases fl with
  |ret u=>exact I1.after hq
  |next=>exact False.elim hq
  |brk=>exact False.elim hq
  |cont=>exact False.elim hq
end
open PySem PySem.Spec PyProof.Rows
section
variable {P:Program}{w:World}{H:Hp}{h:Heap}{a C dx:Addr}
end
section
variable {X:Cx}{pins:List (Addr×Obj)}{σ:St}{H:Hp}{s:Shared}{a C dx:Addr}{f:Str}
end
section
variable {X:Cx}{CX:CXT}{k:Nat}{f C D:Addr}{fd:FuncData}{ps:List Str}{sp:Sp}{E:XK}{x:Str}{p pos:Pos}{e:Expr}{es:List Expr}{t:TA}
end
open PySem PySem.Spec PyProof.Rows PySem.W
section
variable {M:Model}{A:Around}{E:Value->Shared->Prop}{s:Shared}{base:Heap}{env:Env}{outer:List Env}{L x T C dx:Addr}{Q:Unit->Shared->Prop}
end
section
variable {X:Cx}{pins:List (Addr×Obj)}{σ:St}{H:Hp}{s:Shared}
end
section
variable {M:Model}{A:Around}{E:Value->Shared->Prop}{env:Env}
variable {nm q:Str}{C N:Addr}{bs bm:List Value}{hdct:Bool}{sn:List Str}{sub:List Value}{ab:Bool}{col:Option Bool}{dd:Option Addr}{k0 k1 k2 k3 k5:Option Value}{newId:String}
end
section
variable {X:Cx}
end
section
variable {X:Cx}{f:Str}
end
section
variable {P:Program}{w:World}{K:W.Frag}{mg:Str->Option Value}{base:Heap}{N:List Str}{qual:Str}{scope:Scope}{f:Addr}{cd:Value}{A:Around}{outer:List Env}{s0:Shared}{H0:Hp}{E:XK}
end
section
variable {P:Program}{w:World}{K:W.Frag}{mg:Str->Option Value}{base:Heap}
end
open PySem PySem.Spec PyProof.Rows
section
variable {P:Program}{w:World}{K:W.Frag}{mg:Str->Option Value}{base:Heap}
theorem cL7{x q:Str}{st:Stmt}{k:Nat}{ps:List Str}{sp:Sp}(N:List Str)
  (hb:∀{f:Addr}{cdv:Value}{A:Around}{outer:List Env}{s:Shared}{vs:List V}{E:XK}(H:Hp) (Q:VK),N.Nodup->cY k (A.deeper (envOfC q (aK st) s.heap.objs.size f cdv))->sp vs H Q E ->
   ∃t,wY (kG qL P w K mg base N q (aK st) f cdv A outer s H E).nox (bF st) t/\t { nx:=fun _ H'=>Q .non H',rt:=Q } (eT N vs) H)
  (len:∀vs H Q E,sp vs H Q E->vs.length=ps.length:=by intro _ _ _ _ h;first|(cases h;subst_vars;rfl)|((repeat obtain⟨_,h⟩:=h);subst_vars;rfl))
  (S:autoParam (eM N ps (aK st)) Rq6._auto_1):eQ P w K mg base x q st (k+1) ps sp:=
 fun F=>F.ok0 S len fun _ _ _ _ H _ Q _ hr h=>hb H Q S.nd hr h
variable {x p1 p2:Str}{st:Stmt}{n:Nat}{sp:Sp}
end
section
variable {X:Cx}{x:Str}{p pos:Pos}{e:Expr}{es:List Expr}{t:TA}
end
section
variable {P:Program}{w:World}{K:W.Frag}{mg:Str->Option Value}{base:Heap}{N:List Str}{qual:Str}{scope:Scope}{f:Addr}{cd:Value}{A:Around}{outer:List Env}{s:Shared}{H:Hp}{E:XK}
end
structure lV(K:W.Frag)(R:Addr)(cs:List Addr)(D:Addr):Prop where
 over:eV K R D
 is:XIs K R
 ty:∀C∈cs,W.typeIn K (.ref C)=some (.type "type")
 cl:∀C∈cs,(W.clsIn K C).isSome=true
 nr:R∉cs
 nd:D∉cs
 dc:(W.clsIn K D).isSome=true
 dt:W.typeIn K (.ref D)=some (.type "type")
theorem lV.kit{K:W.Frag}{cs:List Addr}{R D C:Addr}(F:lV K R cs D)(h:C∈cs):W.kitOne K (.ref R) (.ref C)=some false:=by
 have e:¬R=C:=fun z=>F.nr (z ▸ h)
 have ne:C≠D:=fun z=>F.nd (z ▸ h)
 have b:(Value.ref R==Value.ref C)=false:=zg.mpr fun q=>e (Value.ref.inj (beq_iff_eq.mp q))
 obtain⟨cd,hc⟩:=jn.mp (F.cl C h);unfold W.kitOne;rw[b];unfold W.kitCls;simp[hc,F.ty C h,F.over.subIn,Ne.symm e,ne,e]
theorem lV.self{K:W.Frag}{cs:List Addr}{R D:Addr}(F:lV K R cs D):W.kitOne K (.ref R) (.ref R)=some true:=by
 unfold W.kitOne;simp
theorem lV.ve{K:W.Frag}{cs:List Addr}{R D:Addr}(F:lV K R cs D):W.kitOne K (.ref R) (.type "ValueError")=some true:=by
 unfold W.kitOne W.kitCls;simp[bF8,F.over.subIn]
theorem lV.up{K:W.Frag}{cs:List Addr}{R D:Addr}(F:lV K R cs D):W.kitOne K (.ref R) (.ref D)=some true:=by
 unfold W.kitOne W.kitCls;simp[F.dc,F.dt,F.over.subIn]
theorem bI6:bootBuiltins "ValueError"=some (.type "ValueError"):=by decide
section
variable {P:Program}{w:World}{K:W.Frag}{mg:Str->Option Value}{base:Heap}
def bO8(K:W.Frag)(x:Str)(st:Stmt)(f:Addr)(i:Int):Prop:=∃(oc:Value) (od:Option Addr) (T:Addr) (kV dc pm:Value) (an:Option Addr) (cd ct:Value) (sl:Array (Option Value)) (o:Obj) (n:Nat) (t:Tok),K.lookup f=some ⟨oc,od,.func (W.fnOf x x (bO st) (bF st) (aK st) (.ref T) kV dc pm an cd ct),sl⟩/\W.codeIn K cd x=true/\W.keepIn K (.ref f)=true/\K.lookup T=some o/\o.data= .seq #[.int i t] n
def bZ8(K:W.Frag)(x:Str)(st:Stmt)(i:Int):Prop:=∃f,W.nsIn K mainGlobals x=some (some (.ref f))/\bO8 K x st f i
end
section
variable {X:Cx}{x:Str}{p pos:Pos}{e:Expr}{es:List Expr}{t:TA}
end
section
variable {P:Program}{w:World}{K:W.Frag}{mg:Str->Option Value}{base:Heap}
section
variable {x p1 p2 p3 p4:Str}{st:Stmt}{n:Nat}{sp:Sp}{i:Int}(Z:Zx P w K mg base) (t:bZ8 K x st i)
include Z t
end
end
section
variable {X:Cx}{x:Str}{p pos:Pos}{e:Expr}{es:List Expr}{t:TA}
end
open PySem PySem.Spec PyProof.Rows PySem.W
section
variable {X:Cx}{pins:List (Addr×Obj)}{σ:St}{H:Hp}{s:Shared}
end
section
variable {X:Cx}{CX:CXT}{k:Nat}{f C:Addr}{fd:FuncData}{ps:List Str}{sp:Sp}{dvs:List V}{ds:List Value}{E:St->XK}{x m:Str}{p pos apos:Pos}{e o:Expr}{es:List Expr}{ta:TE}{t:TA}
end
def ClH(P:Program)(w:World)(K:W.Frag)(mg:Str->Option Value)(base:Heap)(n:Nat)(sp:Sp)(x:Str):Prop:=∃f d ps,yF P w K mg base n f d ps sp/\gJ K d ps []/\W.keepIn K (.ref f)=true/\mg x=some (.ref f)
theorem Zx.h1{P:Program}{w:World}{K:W.Frag}{mg:Str->Option Value}{base:Heap}{x p1:Str}{st:Stmt}{n:Nat}{sp:Sp}(Z:Zx P w K mg base)(t:TopAt K x st)(ok:∀{f:Addr}{d:FuncData},oI K x x st f d->yF P w K mg base n f d [p1] sp)(h:autoParam (∀(kV doc pm:Value) (an:Option Addr) (cdv ct u1:Value),bindArgs (W.fnOf x x (bO st) (bF st) (aK st) .none kV doc pm an cdv ct) ⟨[u1],[]⟩=pure [(p1,u1)]) Rq3._auto_1):ClH P w K mg base n sp x:=by
 obtain⟨_,a,t⟩:=t;obtain⟨_,F⟩:=t.fn;exact⟨_,_,_,ok F,F.b1 h,F.kp,Z.ns _ _ a⟩
section
variable {X:Cx}{x:Str}{p pos:Pos}{e:Expr}{es:List Expr}{t:TA}
theorem cL0{k:Nat}{sp:Sp}(C:ClH X.prog X.w X.K X.mg X.base k sp x){n:Nat}(hr:aG5 n X.A)(ha:PA X (e::es) t)(hn:autoParam (k<=n) Rq5._auto_1)(hg:autoParam (Gl X x) Rq0._auto_1)(hdb:autoParam ((x==("__debug__": Str))=false) Rq1._auto_1)(he:autoParam (starEach (e::es) X.env=(false,eval e X.env)::starEach es X.env) Rq0._auto_1)
  (hpl:autoParam ((backTo pos (starEach es X.env)).any (·.1)=false) Rq0._auto_1):PE X (.Call (.Name x p) (e::es) [] pos) (pR sp [] E0 t):=by obtain⟨_,_,_,F,b,k,m⟩:=C;exact bA0 F ⟨by have:=hr.dp;lia,by have:=hr.un;lia⟩ hg m k b ha hdb he hpl
end
open PySem PySem.Spec PyProof.Rows
section
variable {P:Program}{w:World}{K:W.Frag}{mg:Str->Option Value}{base:Heap}
def ClX(P:Program)(w:World)(K:W.Frag)(mg:Str->Option Value)(base:Heap)(n:Nat)(sp:Sp)(x:Str):Prop:=∃f d ps,mI P w K mg base (CX1 P w) n f d ps sp/\gJ K d ps []/\W.keepIn K (.ref f)=true/\mg x=some (.ref f)
end
section
variable {X:Cx}{x:Str}{p pos:Pos}{e:Expr}{es:List Expr}{t:TA}
theorem cJ6{k:Nat}{sp:Sp}{E:XK}(C:ClX X.prog X.w X.K X.mg X.base k sp x){n:Nat}(hr:cY n X.A)(hx:sP (CX1 X.prog X.w) X E)(ha:PA X (e::es) t)(hn:autoParam (k<=n) Rq5._auto_1)(hg:autoParam (Gl X x) Rq0._auto_1)(hdb:autoParam ((x==("__debug__": Str))=false) Rq1._auto_1)(he:autoParam (starEach (e::es) X.env=(false,eval e X.env)::starEach es X.env) Rq0._auto_1)
  (hpl:autoParam ((backTo pos (starEach es X.env)).any (·.1)=false) Rq0._auto_1):PE X (.Call (.Name x p) (e::es) [] pos) (pR sp [] E t):=by obtain⟨_,_,_,g,b,k,m⟩:=C;exact aF0 g (hr.mono hn) hg m k b .nil hx ha hdb he hpl
end
end L2
namespace Mine
open PySem L2
theorem bK6:∀x y:Fin 8,y.val<=x.val->1<=(1+y.val) / Nat.gcd (1+y.val) (2+x.val)/\(1+y.val) / Nat.gcd (1+y.val) (2+x.val)<(2+x.val) / Nat.gcd (1+y.val) (2+x.val)/\(2+x.val) / Nat.gcd (1+y.val) (2+x.val)<=9 /\
  Nat.gcd ((1+y.val) / Nat.gcd (1+y.val) (2+x.val)) ((2+x.val) / Nat.gcd (1+y.val) (2+x.val))=1/\(2*(1+y.val)<=2+x.val->2*((1+y.val) / Nat.gcd (1+y.val) (2+x.val))<=(2+x.val) / Nat.gcd (1+y.val) (2+x.val)):=by decide
theorem bL1{x y:Int}(x0:0<=x)(x8:x<8)(y0:0<=y)(yx:y<=x):sX (dW (1+y) (2+x)) (dE (1+y) (2+x))/\(2*(1+y)<=2+x->2*dW (1+y) (2+x)<=dE (1+y) (2+x)):=by
 obtain⟨a,rfl⟩:=dw x0;obtain⟨b,rfl⟩:=dw y0;obtain⟨h1,h2,h3,h4,h5⟩:=bK6 ⟨a,by lia⟩ ⟨b,by lia⟩ (by show b<=a;lia);have e1:dW (1+(b:Int)) (2+(a:Int))=(((1+b) / Nat.gcd (1+b) (2+a):Nat):Int):=by
  unfold dW gI;rw[show(1+(b:Int)).toNat=1+b from by lia,show(2+(a:Int)).toNat=2+a from by lia];simp
 have e2:dE (1+(b:Int)) (2+(a:Int))=(((2+a) / Nat.gcd (1+b) (2+a):Nat):Int):=by
  unfold dE gI;rw[show(1+(b:Int)).toNat=1+b from by lia,show(2+(a:Int)).toNat=2+a from by lia];simp
 rw[e1,e2]
 dsimp only at h1 h2 h3 h4 h5
 exact⟨⟨⟨by lia,by lia,by lia⟩,by rw[dz,dz];exact h4⟩,fun z=>by have:=h5 (by lia);lia⟩
mutual
theorem bU3:∀r:Rw,zU r=r.dp
 |.thr _ _ _ _ _=>rfl
 |.lt _ _ _=>rfl
 |.tell _ _=>rfl
 |.when _ _ _ _ a b=>by simp only[zU,Rw.dp,kB a,kB b]
 |.times _ _ _ b=>by simp only[zU,Rw.dp,kB b]
theorem kB:∀rs:List Rw,mV rs=tG rs
 |[]=>rfl
 |r::rs=>by simp only[mV,tG,bU3 r,kB rs]
end
mutual
theorem bO5:∀{r:Rw},aL1 r->∀q∈eG r,∀t∈q.tm,t.size<=7
 |.thr _ _ _ _ _,_,q,hq,t,ht=>by rw[au.mp hq] at ht;exact absurd ht bu
 |.lt _ _ _,h,q,hq,t,ht=>by rw[au.mp hq] at ht;rw[au.mp ht];exact h
 |.tell _ _,h,q,hq,t,ht=>by rw[au.mp hq] at ht;rw[au.mp ht];exact h
 |.when _ _ _ _ a b,h,q,hq,t,ht=>by
  rcases cj.mp hq with z|z
  ·rw[z] at ht;rw[au.mp ht];exact h.1
  ·rcases bz.mp z with z|z
   ·exact mX h.2.1 q z t ht
   ·exact mX h.2.2 q z t ht
 |.times _ _ _ b,h,q,hq,t,ht=>by
  rcases cj.mp hq with z|z
  ·rw[z] at ht;exact absurd ht bu
  ·exact mX h q z t ht
theorem mX:∀{rs:List Rw},jV rs->∀q∈cK rs,∀t∈q.tm,t.size<=7
 |[],_,q,hq,_,_=>absurd hq bu
 |r::rs,h,q,hq,t,ht=>by
  rcases bz.mp hq with z|z
  ·exact bO5 h.1 q z t ht
  ·exact mX h.2 q z t ht
end
theorem aV2{q:Rw}{t:Tm}(h:t∈q.tm):∀y∈t.names,y∈q.asked:=by
 cases q with
 |thr p w x us d=>exact absurd h bu
 |lt p x u=>rw[au.mp h];exact fun y hy=>hy
 |tell p u=>rw[au.mp h];exact fun y hy=>hy
 |when p pa pb u a b=>rw[au.mp h];exact fun y hy=>hy
 |times p pb n b=>exact absurd h bu
theorem bO9{xs:List Str}{rs:List Rw}(h:jV rs)(n:∀y∈qE rs,y∈xs):OkL xs rs:=fun q hq t ht =>
 ⟨mX h q hq t ht,fun y hy=>n y (jq.mpr ⟨q,hq,bx _ (aV2 ht y hy)⟩)⟩
theorem PgL.prg{H:Hp}{p:Addr}{ks xs:List Str}{rs:List Rw}(P:PgL H p ks rs 1)(kd:xT (ks.length:Int) rs)(ld:iL rs<=6)(n:∀y∈qE rs,y∈xs)(xl:xs.length<=9):jW H p xs rs:=by
 obtain⟨pk,pr,a,b,c⟩:=P.ex;have:=P.cnt;have:=P.dp;exact⟨⟨_,pr,a,c⟩,⟨pk,ks,_,a,b,P.k1,P.k3,kd⟩,ld,P.rows,by lia,by rw[kB];lia,bO9 P.tz n,by lia⟩
inductive aR1(n:Nat)(vs:List V)(H:Hp)(Q:VK)(z1:XK):Prop
 |mk:∀(p:Addr) (rs:List Rw),(vs=[.ref p])->(H p=some (.tup (bA rs)))->(aS H rs)->(tG rs<=n)->(aZ rs<=900)->(∀(l:Addr) (H':Hp),aR H H'->H' l=some (.lst (bA (cK rs)))->Q (.ref l) H')->aR1 n vs H Q z1
def xU:Nat->Sp
 |0=>fun _ _ _ _=>False
 |n+1=>aR1 n
inductive aS7(cR:Addr)(vs:List V)(H:Hp)(Q:VK)(z1:XK):Prop
 |mk:∀x,(vs=[.ref x])->(H x=some (XN x cR))->(∀H',aR H H'->Q (.bl true) H')->aS7 cR vs H Q z1
def kE(u v:Fr):Prop:=u.1*v.2<=v.1*u.2
theorem kE.refl(u:Fr):kE u u:=ji _
theorem kE.trans{u v w:Fr}(hu:0<u.2)(hv:0<v.2)(hw:0<w.2)(h:kE u v)(k:kE v w):kE u w:=by
 unfold kE at *;have h1:=gx h (pf hw);have h2:=gx k (pf hu);refine uh (a:=v.2) ?_ hv;have e1:u.1*w.2*v.2=u.1*v.2*w.2:=by grind
 have e2:v.1*u.2*w.2=v.1*w.2*u.2:=by grind
 have e3:w.1*v.2*u.2=w.1*u.2*v.2:=by grind
 lia
theorem bN0{a b:Int}(ha:0<=a)(hb:1<=b):(dH a b).1*b=a*(dH a b).2:=by
 show dW a b*b=a*dE a b;unfold dW dE;have h1:=ku (aE7 (b:=b) ha);have h2:=ku (uR (a:=a) (b:=b) (by lia));generalize hx:a / gI a b=x at h1 ⊢;generalize hy:b / gI a b=y at h2 ⊢;generalize gI a b=g at h1 h2;subst h1 h2
 grind
theorem vU{a b c d:Int}(ha:0<=a)(hb:1<=b)(hc:0<=c)(hd:1<=d)(h:a*d<=c*b):kE (dH a b) (dH c d):=by
 unfold kE;have x1:=bN0 ha hb;have x2:=bN0 hc hd;have r1:=iD ha hb;have r2:=iD hc hd;have y1:=r1.b;have y2:=r2.b;generalize dH a b=u at *;generalize dH c d=v at *;have bd:0<b*d:=jj (by lia) (by lia);refine uh (a:=b*d) ?_ bd;have e1:u.1*v.2*(b*d)=(a*d)*(u.2*v.2):=by
  have:u.1*v.2*(b*d)=(u.1*b)*(v.2*d):=by grind
  rw[this,x1];grind
 have e2:v.1*u.2*(b*d)=(c*b)*(u.2*v.2):=by
  have:v.1*u.2*(b*d)=(v.1*d)*(u.2*b):=by grind
  rw[this,x2];grind
 rw[e1,e2];exact gx h (de (by lia) (by lia))
theorem bF5{u e u' e':Fr}(hu:mQ u)(he:mQ e)(hu':mQ u')(he':mQ e')(h:kE u u')(k:kE e e'):kE (gU u e) (gU u' e'):=by
 refine vU (de hu.a he.a) (nU hu.b he.b) (de hu'.a he'.a) (nU hu'.b he'.b) ?_;unfold kE at h k;have e1:u.1*e.1*(u'.2*e'.2)=(u.1*u'.2)*(e.1*e'.2):=by grind
 have e2:u'.1*e'.1*(u.2*e.2)=(u'.1*u.2)*(e'.1*e.2):=by grind
 rw[e1,e2];exact pj h k (de he.a (by have:=he'.b;lia)) (de hu'.a (by have:=hu.b;lia))
theorem bI2{u e u' e':Fr}(hu:mQ u)(he:mQ e)(hu':mQ u')(he':mQ e')(h:kE u u')(k:kE e e'):kE (tF u e) (tF u' e'):=by
 have a1:=hu.b;have a2:=he.b;have a3:=hu'.b;have a4:=he'.b;have n1:=de hu.a (show 0<=e.2 by lia);have n2:=de he.a (show 0<=u.2 by lia);have n3:=de hu'.a (show 0<=e'.2 by lia);have n4:=de he'.a (show 0<=u'.2 by lia);refine vU (by lia) (nU a1 a2) (by lia) (nU a3 a4) ?_;unfold kE at h k;have e1:(u.1*e.2+e.1*u.2)*(u'.2*e'.2)=(u.1*u'.2)*(e.2*e'.2)+(e.1*e'.2)*(u.2*u'.2):=by grind
 have e2:(u'.1*e'.2+e'.1*u'.2)*(u.2*e.2)=(u'.1*u.2)*(e.2*e'.2)+(e'.1*e.2)*(u.2*u'.2):=by grind
 rw[e1,e2];have m1:=gx h (de (show 0<=e.2 by lia) (show 0<=e'.2 by lia));have m2:=gx k (de (show 0<=u.2 by lia) (show 0<=u'.2 by lia));lia
theorem cN0(a b:Fr):kE a (kD a b):=by
 unfold kD
 split
 ·unfold kE;lia
 ·exact kE.refl _
theorem cL3(a b:Fr):kE b (kD a b):=by
 unfold kD
 split
 ·exact kE.refl _
 ·unfold kE;lia
theorem aF4{a b:Int}(ha:0<=a)(h:a<=b):∀n:Nat,a^n<=b^n
 |0=>by rw[mq,mq];exact ji _
 |n+1=>by
  rw[js,js];exact pj (aF4 ha h n) h ha (ik (by lia))
theorem bC4{u e u' e':Fr}(hu:mQ u)(he:mQ e)(hu':mQ u')(he':mQ e')(h:kE u u')(k:kE e e'):kE (kD u e) (kD u' e'):=by
 have a1:=hu.b;have a2:=he.b;have a3:=hu'.b;have a4:=he'.b;have p:0<(kD u' e').2:=by rcases iH u' e' with z|z<;>rw[z]<;>lia
 rcases iH u e with z|z<;>rw[z]
 ·exact kE.trans (by lia) (by lia) p h (cN0 _ _)
 ·exact kE.trans (by lia) (by lia) p k (cL3 _ _)
theorem vV{u v:Fr}(hu:0<=u.1)(hu2:1<=u.2)(hv:0<=v.1)(hv2:1<=v.2)(h:kE u v)(n:Nat):kE (u.1^n,u.2^n) (v.1^n,v.2^n):=by
 unfold kE at *;show u.1^n*v.2^n<=v.1^n*u.2^n;rw[<-Int.mul_pow, <-Int.mul_pow];exact aF4 (de hu (by lia)) h n
structure sU(p q:Prc):Prop where
 f:kE p.1 q.1
 r:kE p.2 q.2
theorem sU.refl(p:Prc):sU p p:=⟨kE.refl _,kE.refl _⟩
theorem aW9{a p a' p':Prc}(ha:cO a)(hp:cO p)(ha':cO a')(hp':cO p')(h:sU a a')(k:sU p p'):sU (iR a p) (iR a' p'):=⟨bF5 ha.f hp.f ha'.f hp'.f h.f k.f,bI2 ha.r hp.r ha'.r hp'.r h.r k.r⟩
theorem xS{a p a' p':Prc}(ha:cO a)(hp:cO p)(ha':cO a')(hp':cO p')(h:sU a a')(k:sU p p'):sU (nM a p) (nM a' p'):=⟨bC4 ha.f hp.f ha'.f hp'.f h.f k.f,bC4 ha.r hp.r ha'.r hp'.r h.r k.r⟩
theorem uC{a a':Prc}(ha:cO a)(ha':cO a')(h:sU a a')(n:Nat):sU (gE n a) (gE n a'):=by
 refine⟨vV ha.f.a ha.f.b ha'.f.a ha'.f.b h.f n,?_⟩;have n0:(0:Int)<=n:=Int.natCast_nonneg _;refine vU (de ha.r.a n0) (by have:=ha.r.b;lia) (de ha'.r.a n0) (by have:=ha'.r.b;lia) ?_;have k:=h.r;unfold kE at k;have m:=gx k n0;have e1:a.2.1*n*(a'.2.2*1)=a.2.1*a'.2.2*n:=by grind
 have e2:a'.2.1*n*(a.2.2*1)=a'.2.1*a.2.2*n:=by grind
 lia
def bA3:List Prc->List Prc->Prop
 |[],[]=>True
 |p::ps,q::qs=>sU p q/\cO p/\cO q/\bA3 ps qs
 |_,_=>False
theorem yQ:∀{ps qs:List Prc}{a b:Prc},cO a->cO b->sU a b->bA3 ps qs->sU (ps.foldl iR a) (qs.foldl iR b)
 |[],[],_,_,_,_,h,_=>h
 |_::ps,_::qs,_,_,ha,hb,h,⟨k,r1,r2,t⟩=>by
  rw[ja,ja];exact yQ (ps:=ps) (qs:=qs) (lA ha r1) (lA hb r2) (aW9 ha r1 hb r2 h k) t
 |[],_::_,_,_,_,_,_,k=>k.elim
 |_::_,[],_,_,_,_,_,k=>k.elim
theorem qB{ps qs:List Prc}(h:bA3 ps qs):sU (fN ps) (fN qs):=yQ fB fB (sU.refl _) h
def Rw.sg:Rw->Nat×List Tm×List (Str×Tm)×Int
 |.thr _ _ _ _ d=>(0,[],[],d.kd)
 |.lt _ x t=>(1,[t],[(x,t)],0)
 |.tell _ t=>(2,[t],[],0)
 |.when _ _ _ t _ _=>(3,[t],[],0)
 |.times _ _ n _=>(4,[],[],n)
section
variable (j:Int) (L l:Rw)
mutual
def cC(k:Nat):Rw->Rw->Prop
 |.when _ _ _ t a b,q=>∃p pa pb a' b',q= .when p pa pb t a' b'/\cI (k+1) a a'/\cI (k+1+aZ a) b b'
 |.times _ _ n b,q=>∃p pb b',q= .times p pb n b'/\cI (k+1) b b'
 |.thr p w x us d,q=>if (k:Int)=j then .thr p w x us d=L/\q=l else q= .thr p w x us d
 |.lt p x t,q=>q= .lt p x t
 |.tell p t,q=>q= .tell p t
def cI(k:Nat):List Rw->List Rw->Prop
 |[],o=>o=[]
 |r::rs,o=>∃q qs,o=q::qs/\cC k r q/\cI (k+r.cnt) rs qs
end
def mG(n:Nat)(r:Rw)(o:List Rw):Prop:=if (n:Int)=j then o=[l] else o=[r]
end
def dF(j:Int)(L:Rw)(k:Nat)(fl:List Rw):Prop:=∀(i:Nat) (r:Rw),fl[i]?=some r->((k+i:Nat):Int)=j->r=L
theorem dF.left{j:Int}{L:Rw}{k:Nat}{a b:List Rw}(h:dF j L k (a++b)):dF j L k a:=fun i r hi e=>by
 have:i<a.length:=(ap.mp hi).1;exact h i r (by rw[km this];exact hi) e
theorem dF.right{j:Int}{L:Rw}{k:Nat}{a b:List Rw}(h:dF j L k (a++b)):dF j L (k+a.length) b:=fun i r hi e=>by
 exact h (a.length+i) r (by rw[ke (by lia),vm];exact hi) (by lia)
theorem dF.tail{j:Int}{L r:Rw}{k:Nat}{b:List Rw}(h:dF j L k (r::b)):dF j L (k+1) b:=dF.right (a:=[r]) h
theorem dF.hd{j:Int}{L r:Rw}{k:Nat}{b:List Rw}(h:dF j L k (r::b))(e:(k:Int)=j):r=L:=h 0 r rfl (by lia)
def Rw.isThr:Rw->Prop
 |.thr _ _ _ _ _=>True
 |.lt _ _ _=>False
 |.tell _ _=>False
 |.when _ _ _ _ _ _=>False
 |.times _ _ _ _=>False
mutual
theorem aS5{j:Int}{L l:Rw}(hL:L.isThr):∀(r:Rw) (k:Nat) {o:List Rw},dF j L k (eG r)->Reb (mG j l) k r o->∃q,o=[q]/\cC j L l k r q
 |.thr p w x us d,k,o,h,e=>by
  have e:mG j l k (.thr p w x us d) o:=e;unfold mG at e;unfold cC
  by_cases c:(k:Int)=j
  ·rw[bv c] at e;exact⟨l,e,by rw[bv c];exact⟨h.hd c,rfl⟩⟩
  ·rw[ay c] at e;exact⟨_,e,by rw[ay c]⟩
 |.lt p x t,k,o,h,e=>by
  have e:mG j l k (.lt p x t) o:=e;unfold mG at e;have c:¬(k:Int)=j:=fun c=>by have:=h.hd c;rw[<-this] at hL;exact hL
  rw[ay c] at e;exact⟨_,e,by unfold cC;rfl⟩
 |.tell p t,k,o,h,e=>by
  have e:mG j l k (.tell p t) o:=e;unfold mG at e;have c:¬(k:Int)=j:=fun c=>by have:=h.hd c;rw[<-this] at hL;exact hL
  rw[ay c] at e;exact⟨_,e,by unfold cC;rfl⟩
 |.when p pa pb t a b,k,o,h,⟨p',pa',pb',a',b',ra,rb,e⟩=>by
  unfold mG at e;have h:dF j L k (.when p pa pb t a b::(cK a++cK b)):=by unfold eG at h;exact h
  have c:¬(k:Int)=j:=fun c=>by have:=h.hd c;rw[<-this] at hL;exact hL
  rw[ay c] at e;have h2:=h.tail;have h3:=h2.right;rw[dG] at h3;exact⟨_,e,by unfold cC;exact⟨_,_,_,_,_,rfl,lO hL a _ h2.left ra,lO hL b _ h3 rb⟩⟩
 |.times p pb n b,k,o,h,⟨p',pb',b',rb,e⟩=>by
  unfold mG at e;have h:dF j L k (.times p pb n b::cK b):=by unfold eG at h;exact h
  have c:¬(k:Int)=j:=fun c=>by have:=h.hd c;rw[<-this] at hL;exact hL
  rw[ay c] at e;exact⟨_,e,by unfold cC;exact⟨_,_,_,rfl,lO hL b _ h.tail rb⟩⟩
theorem lO{j:Int}{L l:Rw}(hL:L.isThr):∀(rs:List Rw) (k:Nat) {o:List Rw},dF j L k (cK rs)->aD0 (mG j l) k rs o->cI j L l k rs o
 |[],_,_,_,e=>by unfold cI;exact e
 |r::rs,k,o,h,⟨o1,o2,h1,h2,e⟩=>by
  have h:dF j L k (eG r++cK rs):=h;have h3:=h.right;rw[aH3] at h3;obtain⟨q,e1,hq⟩:=aS5 hL r k h.left h1;unfold cI;exact⟨q,o2,by rw[e,e1];rfl,hq,lO hL rs _ h3 h2⟩
end
theorem aP0{L l:Rw}(hL:L.isThr)(h:l.sg=L.sg):l.isThr:=by
 cases L<;>first|exact hL.elim|skip
 cases l<;>first|trivial|(simp[Rw.sg] at h)
section
variable {j:Int}{L l:Rw}(hL:L.isThr) (hs:l.sg=L.sg)
include hL hs
mutual
theorem bF7:∀{r q:Rw}{k:Nat},cC j L l k r q->q.cnt=r.cnt/\lY q=lY r/\zU q=zU r/\(eG q).map Rw.sg=(eG r).map Rw.sg
 |.thr p w x us d,q,k,h=>by
  unfold cC at h
  split at h
  ·obtain⟨rfl,rfl⟩:=h;have t:=aP0 hL hs
   cases q<;>first|exact t.elim|skip
   exact⟨rfl,rfl,rfl,by simp only[eG,List.map_cons,List.map_nil,hs]⟩
  ·subst h;exact⟨rfl,rfl,rfl,rfl⟩
 |.lt p x t,q,k,h=>by unfold cC at h;subst h;exact⟨rfl,rfl,rfl,rfl⟩
 |.tell p t,q,k,h=>by unfold cC at h;subst h;exact⟨rfl,rfl,rfl,rfl⟩
 |.when p pa pb t a b,q,k,h=>by
  unfold cC at h;obtain⟨p',pa',pb',a',b',rfl,ha,hb⟩:=h;obtain⟨a1,a2,a3,a4⟩:=jX ha;obtain⟨b1,b2,b3,b4⟩:=jX hb;refine⟨?_,?_,?_,?_⟩
  ·simp only[Rw.cnt,a1,b1]
  ·simp only[lY,a2,b2]
  ·simp only[zU,a3,b3]
  ·simp only[eG,List.map_cons,List.map_append,a4,b4,Rw.sg]
 |.times p pb n b,q,k,h=>by
  unfold cC at h;obtain⟨p',pb',b',rfl,hb⟩:=h;obtain⟨b1,b2,b3,b4⟩:=jX hb;refine⟨?_,?_,?_,?_⟩
  ·simp only[Rw.cnt,b1]
  ·simp only[lY,b2]
  ·simp only[zU,b3]
  ·simp only[eG,List.map_cons,b4,Rw.sg]
theorem jX:∀{rs o:List Rw}{k:Nat},cI j L l k rs o->aZ o=aZ rs/\iL o=iL rs/\mV o=mV rs/\(cK o).map Rw.sg=(cK rs).map Rw.sg
 |[],o,k,h=>by unfold cI at h;subst h;exact⟨rfl,rfl,rfl,rfl⟩
 |r::rs,o,k,h=>by
  unfold cI at h;obtain⟨q,qs,rfl,h1,h2⟩:=h;obtain⟨a1,a2,a3,a4⟩:=bF7 h1;obtain⟨b1,b2,b3,b4⟩:=jX h2;refine⟨?_,?_,?_,?_⟩
  ·simp only[aZ,a1,b1]
  ·simp only[iL,a2,b2]
  ·simp only[mV,a3,b3]
  ·simp only[cK,List.map_append,a4,b4]
end
end
theorem bA2{fl fo:List Rw}(h:fo.map Rw.sg=fl.map Rw.sg){P:Rw->Prop}(hP:∀r q:Rw,q.sg=r.sg->P r->P q)(a:∀r∈fl,P r):∀q∈fo,P q:=fun q hq=>by
 have:q.sg∈fl.map Rw.sg:=by rw[<-h];exact iy hq
 obtain⟨r,hr,e⟩:=fj.mp this;exact hP r q e.symm (a r hr)
theorem cG7{kd:Int}:∀r q:Rw,q.sg=r.sg->KdR kd r->KdR kd q:=fun r q h k=>by
 cases r<;>cases q<;>simp[Rw.sg] at h<;>simp_all [KdR]
theorem cE8:∀r q:Rw,q.sg=r.sg->q.tm=r.tm:=fun r q h=>by
 cases r<;>cases q<;>simp[Rw.sg] at h<;>simp_all [Rw.tm]
theorem bJ2:∀r q:Rw,q.sg=r.sg->q.told=r.told:=fun r q h=>by
 cases r<;>cases q<;>simp[Rw.sg] at h<;>simp_all [Rw.told]
theorem aI1{fl fo:List Rw}(h:fo.map Rw.sg=fl.map Rw.sg){x:Str}(n:oX fo x):oX fl x:=by
 induction n with
 |@base r x hr m =>
  have:r.sg∈fl.map Rw.sg:=by rw[<-h];exact iy hr
  obtain⟨q,hq,e⟩:=fj.mp this;exact .base hq (by rw[bJ2 r q e];exact m)
 |@step p y x t hr n m ih =>
  have:(Rw.lt p y t).sg∈fl.map Rw.sg:=by rw[<-h];exact iy hr
  obtain⟨q,hq,e⟩:=fj.mp this
  cases q<;>simp[Rw.sg] at e
  obtain⟨rfl,rfl,_⟩:=e;exact .step hq ih m
end Mine
namespace L2
open PySem PySem.Spec PyProof.Rows
section
variable {P:Program}{w:World}{K:W.Frag}{mg:Str->Option Value}{base:Heap}
def bX4(P:Program)(w:World)(K:W.Frag)(mg:Str->Option Value)(base:Heap)(x q:Str)(st:Stmt)(n:Nat)(ps:List Str)(c:Addr)(sp:Sp):Prop:=∀{f:Addr}{d:FuncData},oI K x q st f d->d.code= .ref c->mI P w K mg base (CX1 P w) n f d ps sp
theorem cJ9{x q:Str}{st:Stmt}{k:Nat}{ps:List Str}{sp:Sp}{c:Addr}(N:List Str)
  (hb:∀{f:Addr}{A:Around}{outer:List Env}{s:Shared}{vs:List V}{E:XK}(H:Hp) (Q:VK),N.Nodup->cY k (A.deeper (envOfC q (aK st) s.heap.objs.size f (.ref c)))->sp vs H Q E ->
   ∃t,pS (kG (CX1 P w) P w K mg base N q (aK st) f (.ref c) A outer s H E) (bF st) t/\t { nx:=fun _ H'=>Q .non H',rt:=Q } (eT N vs) H)
  (len:∀vs H Q E,sp vs H Q E->vs.length=ps.length)
  (S:autoParam (eM N ps (aK st)) Rq6._auto_1):bX4 P w K mg base x q st (k+1) ps c sp:=by
 intro f d F hc;obtain⟨oc,od,kV,doc,pm,an,cdv,ct,osl,rfl,lk,hcd⟩:=F.ex;have hc:cdv= .ref c:=hc;subst hc;exact bN2 lk hcd S len fun A outer s H vs Q E hr hsp=>hb H Q S.nd hr hsp
theorem Zx.u3{x p1 p2 p3:Str}{st:Stmt}{n:Nat}{sp:Sp}{c:Addr}(Z:Zx P w K mg base)(t:TopAtT K x st c)(ok:bX4 P w K mg base x x st n [p1,p2,p3] c sp)(h:autoParam (∀(kV doc pm:Value) (an:Option Addr) (cdv ct u1 u2 u3:Value),bindArgs (W.fnOf x x (bO st) (bF st) (aK st) .none kV doc pm an cdv ct) ⟨[u1,u2,u3],[]⟩=pure [(p1,u1),(p2,u2),(p3,u3)]) Rq3._auto_1):ClX P w K mg base n sp x:=by
 obtain⟨f,oc,od,kV,dc,pm,an,ct,sl,a,l,c',k⟩:=t;have F:=zF l c' k;exact⟨_,_,_,ok F rfl,F.b3 h,F.kp,Z.ns _ _ a⟩
end
end L2
namespace Mine
open PySem L2
def lmX:Stmt->Option (Arguments×Expr×Scope×Pos)
 |st=>match bF st with
  |[_,_,_,.Return (some (.Tuple [_,.Call _ [_,.Lambda ar b sc pos] _ _] _ _)) _]=>some (ar,b,sc,pos)
  |_=>none
def lxP(st:Stmt):Pos:=match lmX st with|some (_,_,_,p)=>p|none=>⟨0,0,0,0⟩
def lxA(st:Stmt):Option Arguments:=(lmX st).map (·.1)
def lxB(st:Stmt):Expr:=match lmX st with|some (_,b,_,_)=>b|none=> .Constant .none 0 ⟨0,0,0,0⟩
def lxS(st:Stmt):Scope:=match lmX st with|some (_,_,s,_)=>s|none=>aK st
def exU(us:List V)(st:Addr):List V:=us.take 1++ .ref st::us.drop 2
def exT(a b:Int):wA->wA
 |.lad _ _ lo hi=> .lad a b lo hi
 |T=>T
def exD(d:TD)(st:Addr)(a b:Int):TD:=⟨exU d.vs st,exT a b d.T,d.wss,d.kd⟩
def sQ(L:Rw)(q st:Addr)(a b:Int):Rw:=match L with
 |.thr _ w x us d=> .thr q w x (exU us st) (exD d st a b)
 |r=>r
theorem vC{L:Rw}{q st:Addr}{a b:Int}:(sQ L q st a b).sg=L.sg:=by cases L<;>rfl
def pN(fl:List Rw)(j:Int)(L:Rw):Prop:=0<=j/\fl[j.toNat]?=some L/\L.w="ladder"
theorem pN.num{rs:List Rw}{j:Int}{L:Rw}(h:pN (cK rs) j L):dF j L 0 (cK rs):=fun i r hi e=>by
 have:i=j.toNat:=by lia
 rw[this,h.2.1] at hi;exact(di hi).symm
inductive aZ7(cF:Addr)(Lx:xM)(vs:List V)(H:Hp)(Q:VK)(E:XK):Prop
 |mk:∀(p st:Addr) (xs:List Str) (rs:List Rw) (j a b:Int),(vs=[.ref p,.int j,.ref st])->(nE H Lx.P Lx.pos Lx.q)->(jW H p xs rs)->(H st=some (.tup [.int a,.int b]))->(sX a b)->(((∃L:Rw,pN (cK rs) j L/\∀(r pk pr q qr:Addr) (o:List Rw) (H':Hp),gK Lx.P H H'->nE H' Lx.P Lx.pos Lx.q->H p=some (.tup [.ref pk,.ref pr])->H' r=some (.tup [.ref pk,.ref qr])->H' qr=some (.tup (bA o))->aS H' o->cI j L (sQ L q st a b) 0 rs o->Q (.ref r) H')\/((∀L,¬pN (cK rs) j L)/\∀H',aR H H'->E (.ref cF) .none H')))->aZ7 cF Lx vs H Q E
theorem oR{H:Hp}{L:Rw}(h:dO H L)(hw:L.w="ladder"):∃(p:Addr) (x:Str) (sm st0:Addr) (a0 b0 lo hi:Int) (ws:List Int) (kd:Nat),L= .thr p "ladder" x [.ref sm,.ref st0,.int lo,.int hi] ⟨[.ref sm,.ref st0,.int lo,.int hi],.lad a0 b0 lo hi,[ws],kd⟩/\H sm=some (.tup (ws.map V.int)):=by
 cases L with
 |lt p x t=>exact absurd hw (by show ¬("let": Str)="ladder";decide)
 |tell p t=>exact absurd hw (by show ¬("tell": Str)="ladder";decide)
 |when p pa pb t a b=>exact absurd hw (by show ¬("when": Str)="ladder";decide)
 |times p pb n b=>exact absurd hw (by show ¬("times": Str)="ladder";decide)
 |thr p w x us d =>
  have hw:w="ladder":=hw;subst hw;obtain⟨hp,ok⟩:=h;obtain⟨vs,T,wss,kd⟩:=d;have e1:=ok.vs;have e2:=ok.wd;have at':=ok.at';subst e1
  cases T with
  |lad a0 b0 lo hi =>
   obtain⟨sm,ws,st0,e3,e4,h1,h2⟩:=at'
   dsimp only at e3 e4
   subst e3 e4;exact⟨p,x,sm,st0,a0,b0,lo,hi,ws,kd,rfl,h1⟩
  |fla r lo hi=>exact absurd e2 (by show ¬("ladder": Str)="flat";decide)
  |cho p q lo hi=>exact absurd e2 (by show ¬("ladder": Str)="choose";decide)
  |fst pa qa pb qb mk lo hi=>exact absurd e2 (by show ¬("ladder": Str)="first";decide)
theorem nwX{H:Hp}{a:Addr}(h:H a=none)(o:HO):aR H (aO H a o)/\aO H a o a=some o:=⟨aB h o,aC⟩
theorem bL3{j:Int}{l r:Rw}{n:Nat}(e:(n:Int)=j):mG j l n r [l]:=by unfold mG;rw[bv e]
theorem bH8{j:Int}{l r:Rw}{n:Nat}(e:¬(n:Int)=j):mG j l n r [r]:=by unfold mG;rw[ay e]
theorem bH7{H H':Hp}{p r qr pk pr:Addr}{xs:List Str}{rs o:List Rw}{j:Int}{L l:Rw}(hL:L.isThr)(hs:l.sg=L.sg)(P:jW H p xs rs)(hp:H p=some (.tup [.ref pk,.ref pr]))(hk:∀ks:List Str,H pk=some (.tup (ks.map V.str))->H' pk=some (.tup (ks.map V.str)))(hr:H' r=some (.tup [.ref pk,.ref qr]))(hq:H' qr=some (.tup (bA o)))(ho:aS H' o)(ro:cI j L l 0 rs o):jW H' r xs o:=by
 obtain⟨e1,e2,e3,e4⟩:=jX hL hs ro;obtain⟨pk',ks,w,a,b,k1,k3,kd⟩:=P.kn;have ek:pk'=pk:=by
  have e:=a.symm.trans hp;injection e with e;injection e with e;injection e with e _;injection e
 subst ek;exact⟨⟨_,qr,hr,hq⟩,⟨pk',ks,_,hr,hk ks b,k1,k3,bA2 e4 cG7 kd⟩,by rw[e2];exact P.ld,ho,by rw[e1];exact P.cnt,by rw[e3];exact P.dp,bA2 e4 (fun r q e h=>by unfold OkR;rw[cE8 r q e];exact h) P.ok,P.xl⟩
theorem bD9{rs o:List Rw}{j:Int}{L l:Rw}(hL:L.isThr)(hs:l.sg=L.sg)(ro:cI j L l 0 rs o){ss:List Str}(h:NdS rs ss):NdS o ss:=by
 obtain⟨_,_,_,e4⟩:=jX hL hs ro;exact⟨h.nd,h.st,fun x=>(h.mem x).trans ⟨aI1 e4.symm,aI1 e4⟩⟩
def iM(up:Bool)(a b:Prc):Prop:=if up=true then sU a b else sU b a
theorem iM.refl(up:Bool)(a:Prc):iM up a a:=by unfold iM;split<;>exact sU.refl _
theorem aM3{up:Bool}{a p a' p':Prc}(ha:cO a)(hp:cO p)(ha':cO a')(hp':cO p')(h:iM up a a')(k:iM up p p'):iM up (nM a p) (nM a' p'):=by
 cases up
 ·exact xS ha' hp' ha hp h k
 ·exact xS ha hp ha' hp' h k
theorem zZ{up:Bool}{a a':Prc}(ha:cO a)(ha':cO a')(h:iM up a a')(n:Nat):iM up (gE n a) (gE n a'):=by
 cases up
 ·exact uC ha' ha h n
 ·exact uC ha ha' h n
def yO(up:Bool):List Prc->List Prc->Prop
 |[],[]=>True
 |p::ps,q::qs=>iM up p q/\cO p/\cO q/\yO up ps qs
 |_,_=>False
theorem sH:∀{ps qs:List Prc},yO true ps qs->bA3 ps qs
 |[],[],_=>trivial
 |_::_,_::_,⟨a,b,c,d⟩=>⟨a,b,c,sH d⟩
 |[],_::_,h=>h.elim
 |_::_,[],h=>h.elim
theorem qZ:∀{ps qs:List Prc},yO false ps qs->bA3 qs ps
 |[],[],_=>trivial
 |_::_,_::_,⟨a,b,c,d⟩=>⟨a,c,b,qZ d⟩
 |[],_::_,h=>h.elim
 |_::_,[],h=>h.elim
theorem rE{up:Bool}{ps qs:List Prc}(h:yO up ps qs):iM up (fN ps) (fN qs):=by
 cases up
 ·exact qB (qZ h)
 ·exact qB (sH h)
section
variable {H H':Hp}{ss:List Str}{k:Nat}{up:Bool}{j:Int}{L l:Rw}
mutual
theorem aV3(hp:iM up (lT ss k L) (lT ss k l)):∀{r q:Rw}{n:Nat},cC j L l n r q->dO H r->dO H' q->iM up (lT ss k r) (lT ss k q)/\cO (lT ss k r)/\cO (lT ss k q)
 |.thr p w x us d,q,n,h,h1,h2=>by
  refine⟨?_,(fZ ss k _ h1).1,(fZ ss k _ h2).1⟩;unfold cC at h
  split at h
  ·obtain⟨rfl,rfl⟩:=h;exact hp
  ·subst h;exact iM.refl _ _
 |.lt p x t,q,n,h,h1,h2=>by
  refine⟨?_,(fZ ss k _ h1).1,(fZ ss k _ h2).1⟩;unfold cC at h;subst h;exact iM.refl _ _
 |.tell p t,q,n,h,h1,h2=>by
  refine⟨?_,(fZ ss k _ h1).1,(fZ ss k _ h2).1⟩;unfold cC at h;subst h;exact iM.refl _ _
 |.when p pa pb t a b,q,n,h,h1,h2=>by
  refine⟨?_,(fZ ss k _ h1).1,(fZ ss k _ h2).1⟩;unfold cC at h;obtain⟨p',pa',pb',a',b',rfl,ha,hb⟩:=h;have A:=rE (jK hp ha h1.2.2.2.2.2.1 h2.2.2.2.2.2.1);have B:=rE (jK hp hb h1.2.2.2.2.2.2 h2.2.2.2.2.2.2);exact aM3 (gC ss k h1.2.2.2.2.2.1).1 (gC ss k h1.2.2.2.2.2.2).1 (gC ss k h2.2.2.2.2.2.1).1 (gC ss k h2.2.2.2.2.2.2).1 A B
 |.times p pb m b,q,n,h,h1,h2=>by
  refine⟨?_,(fZ ss k _ h1).1,(fZ ss k _ h2).1⟩;unfold cC at h;obtain⟨p',pb',b',rfl,hb⟩:=h;have g1:aS H b:=by have:=h1.2;exact this.2
  have g2:aS H' b':=by have:=h2.2;exact this.2
  exact zZ (gC ss k g1).1 (gC ss k g2).1 (rE (jK hp hb g1 g2)) _
theorem jK(hp:iM up (lT ss k L) (lT ss k l)):∀{rs o:List Rw}{n:Nat},cI j L l n rs o->aS H rs->aS H' o->yO up (xK ss k rs) (xK ss k o)
 |[],o,n,h,h1,h2=>by unfold cI at h;subst h;exact trivial
 |r::rs,o,n,h,h1,h2=>by
  unfold cI at h;obtain⟨q,qs,rfl,a,b⟩:=h;obtain⟨x,y,z⟩:=aV3 hp a h1.1 h2.1;exact⟨x,y,z,jK hp b h1.2 h2.2⟩
end
end
theorem bY4{up:Bool}{ss:List Str}{k:Nat}{p q st sm st0:Addr}{x:Str}{a0 b0 a b lo hi:Int}{ws:List Int}{kd:Nat}(h0:sX a0 b0)(h1:sX a b)(h:if up=true then a*b0<=a0*b else a0*b<=a*b0) :
  iM up (lT ss k (.thr p "ladder" x [.ref sm,.ref st0,.int lo,.int hi] ⟨[.ref sm,.ref st0,.int lo,.int hi],.lad a0 b0 lo hi,[ws],kd⟩)) (lT ss k (sQ (.thr p "ladder" x [.ref sm,.ref st0,.int lo,.int hi] ⟨[.ref sm,.ref st0,.int lo,.int hi],.lad a0 b0 lo hi,[ws],kd⟩) q st a b)):=by
 show iM up (if x∈ss then pW (.lad a0 b0 lo hi) _ else free) (if x∈ss then pW (.lad a b lo hi) _ else free)
 split
 ·have p1:=h0.st.p1;have p2:=h0.st.pq;have p3:=h1.st.p1;have p4:=h1.st.pq;show iM up (if wK _ k=0 then free else ((b0^(wK _ k).toNat,a0^(wK _ k).toNat),(0,1))) (if wK _ k=0 then free else ((b^(wK _ k).toNat,a^(wK _ k).toNat),(0,1)));have e:wK (exD ⟨[.ref sm,.ref st0,.int lo,.int hi],.lad a0 b0 lo hi,[ws],kd⟩ st a b) k=wK ⟨[.ref sm,.ref st0,.int lo,.int hi],.lad a0 b0 lo hi,[ws],kd⟩ k:=rfl;rw[e];generalize wK _ k=w
  split
  ·exact iM.refl _ _
  ·cases up
   ·have h:a0*b<=a*b0:=h;exact⟨vV (u:=(b,a)) (v:=(b0,a0)) (by show 0<=b;lia) (by show 1<=a;lia) (by show 0<=b0;lia) (by show 1<=a0;lia) (by show b*a0<=b0*a;rw[mw b,mw b0];exact h) _,kE.refl _⟩
   ·have h:a*b0<=a0*b:=h;exact⟨vV (u:=(b0,a0)) (v:=(b,a)) (by show 0<=b0;lia) (by show 1<=a0;lia) (by show 0<=b;lia) (by show 1<=a;lia) (by show b0*a<=b*a0;rw[mw b,mw b0];exact h) _,kE.refl _⟩
 ·exact iM.refl _ _
def noM(a b:Prc):Bool:=decide (a.1.1*b.1.2<=b.1.1*a.1.2)&&decide (a.2.1*b.2.2<=b.2.1*a.2.2)
theorem aM6{a b:Prc}(h:sU a b):noM a b=true:=by
 unfold noM;rw[ag (show a.1.1*b.1.2<=b.1.1*a.1.2 from h.f),ag (show a.2.1*b.2.2<=b.2.1*a.2.2 from h.r)];rfl
inductive bA6(K:W.Frag)(vs:List V)(H:Hp)(Q:VK)(z1:XK):Prop
 |mk:∀(v1 v2:V) (a b:Prc) (n:Nat),(vs=[v1,v2])->(fL K H v1 a)->(fL K H v2 b)->(n<=1000)->(fV n a.1)->(fV n a.2)->(fV n b.1)->(fV n b.2)->(∀H',aR H H'->Q (.bl (noM a b)) H')->bA6 K vs H Q z1
theorem vW{A B x:V}{i:Nat}(h:[A,B][i]?=some x):(i=0/\x=A)\/(i=1/\x=B):=by
 match i,h with
 |0,h=>exact .inl ⟨rfl,(di h).symm⟩
 |1,h=>exact .inr ⟨rfl,(di h).symm⟩
theorem cK1(p q:Bool):[p,q].all id=(p&&q):=by simp
theorem cK0{σ:St}(h:σ.length=5):∃v0 v1 v2 v3 v4,σ=[v0,v1,v2,v3,v4]:=by
 match σ,h with
 |[a,b,c,d,e],_=>exact⟨a,b,c,d,e,rfl⟩
inductive zP(Lx:xM)(vs:List V)(H:Hp)(Q:VK)(z1:XK):Prop
 |mk:∀(p st:Addr) (xs:List Str) (rs:List Rw) (j a b:Int),(vs=[.ref p,.int j,.ref st])->(nE H Lx.P Lx.pos Lx.q)->(jW H p xs rs)->(H st=some (.tup [.int a,.int b]))->(sX a b)->(((∃L:Rw,pN (cK rs) j L/\∀(r pk pr q qr:Addr) (o:List Rw) (H':Hp),gK Lx.P H H'->nE H' Lx.P Lx.pos Lx.q->H p=some (.tup [.ref pk,.ref pr])->H' r=some (.tup [.ref pk,.ref qr])->H' qr=some (.tup (bA o))->aS H' o->cI j L (sQ L q st a b) 0 rs o->Q (.ref r) H')\/((∀L,¬pN (cK rs) j L)/\∀H',aR H H'->Q (.str "refused") H')))->zP Lx vs H Q z1
end Mine
namespace L2
open PySem PySem.Spec PyProof.Rows PySem.MeetsSeq
end L2
namespace Mine
open PySem L2
section
variable {j:Int}{L l l':Rw}
mutual
theorem xC:∀{r q:Rw}{n:Nat},(j<(n:Int)\/((n+r.cnt:Nat):Int)<=j)->cC j L l n r q->cC j L l' n r q
 |.thr p w x us d,q,n,h,a=>by
  unfold cC at a ⊢;have c:¬(n:Int)=j:=by simp only[Rw.cnt] at h;lia
  rw[ay c] at a ⊢;exact a
 |.lt p x t,q,n,h,a=>by unfold cC at a ⊢;exact a
 |.tell p t,q,n,h,a=>by unfold cC at a ⊢;exact a
 |.when p pa pb t a b,q,n,h,z=>by
  unfold cC at z ⊢;obtain⟨p',pa',pb',a',b',e,h1,h2⟩:=z;simp only[Rw.cnt] at h;exact⟨p',pa',pb',a',b',e,iB (by lia) h1,iB (by lia) h2⟩
 |.times p pb m b,q,n,h,z=>by
  unfold cC at z ⊢;obtain⟨p',pb',b',e,h2⟩:=z;simp only[Rw.cnt] at h;exact⟨p',pb',b',e,iB (by lia) h2⟩
theorem iB:∀{rs o:List Rw}{n:Nat},(j<(n:Int)\/((n+aZ rs:Nat):Int)<=j)->cI j L l n rs o->cI j L l' n rs o
 |[],o,n,h,a=>by unfold cI at a ⊢;exact a
 |r::rs,o,n,h,a=>by
  unfold cI at a ⊢;obtain⟨q,qs,e,h1,h2⟩:=a;simp only[aZ] at h;exact⟨q,qs,e,xC (by lia) h1,iB (by lia) h2⟩
end
theorem rW:∀{rs o:List Rw}{n:Nat}{r q:Rw},cI j L l n rs o->cC j L l (n+aZ rs) r q->cI j L l n (rs++[r]) (o++[q])
 |[],o,n,r,q,a,b=>by
  unfold cI at a;subst a;show cI j L l n [r] [q];unfold cI;exact⟨q,[],rfl,b,by unfold cI;rfl⟩
 |x::rs,o,n,r,q,a,b=>by
  unfold cI at a;obtain⟨y,ys,e,h1,h2⟩:=a;subst e;show cI j L l n (x::(rs++[r])) (y::(ys++[q]));unfold cI;simp only[aZ] at b;exact⟨y,_,rfl,h1,rW h2 (by rw[xp];exact b)⟩
end
mutual
theorem nQ:∀r:Rw,oM UEq id r r
 |.thr p w x us d=>⟨p,us,rfl,rfl⟩
 |.lt p x t=>⟨p,t,rfl,mE.idn t⟩
 |.tell p t=>⟨p,t,rfl,mE.idn t⟩
 |.when p pa pb t a b=>⟨p,pa,pb,t,a,b,rfl,mE.idn t,jA a,jA b⟩
 |.times p pb n b=>⟨p,pb,b,rfl,jA b⟩
theorem jA:∀rs:List Rw,lJ UEq id rs rs
 |[]=>rfl
 |r::rs=>⟨r,rs,rfl,nQ r,jA rs⟩
end
mutual
theorem bC3{j:Int}{L l1 l2:Rw}(hl:oM UEq id l1 l2):∀{r q1 q2:Rw}{n:Nat},cC j L l1 n r q1->cC j L l2 n r q2->oM UEq id q1 q2
 |.thr p w x us d,q1,q2,n,a,b=>by
  unfold cC at a b
  by_cases c:(n:Int)=j
  ·rw[bv c] at a b;rw[a.2,b.2];exact hl
  ·rw[ay c] at a b;rw[a,b];exact nQ _
 |.lt p x t,q1,q2,n,a,b=>by unfold cC at a b;rw[a,b];exact nQ _
 |.tell p t,q1,q2,n,a,b=>by unfold cC at a b;rw[a,b];exact nQ _
 |.when p pa pb t x y,q1,q2,n,a,b=>by
  unfold cC at a b;obtain⟨p1,aP,pb1,a1,b1,e1,h1,k1⟩:=a;obtain⟨p2,pa2,pb2,a2,b2,e2,h2,k2⟩:=b;subst e1 e2;exact⟨p2,pa2,pb2,t,a2,b2,rfl,mE.idn t,lC hl h1 h2,lC hl k1 k2⟩
 |.times p pb m y,q1,q2,n,a,b=>by
  unfold cC at a b;obtain⟨p1,pb1,b1,e1,k1⟩:=a;obtain⟨p2,pb2,b2,e2,k2⟩:=b;subst e1 e2;exact⟨p2,pb2,b2,rfl,lC hl k1 k2⟩
theorem lC{j:Int}{L l1 l2:Rw}(hl:oM UEq id l1 l2):∀{rs o1 o2:List Rw}{n:Nat},cI j L l1 n rs o1->cI j L l2 n rs o2->lJ UEq id o1 o2
 |[],o1,o2,n,a,b=>by unfold cI at a b;rw[a,b];exact rfl
 |r::rs,o1,o2,n,a,b=>by
  unfold cI at a b;obtain⟨q1,qs1,e1,h1,k1⟩:=a;obtain⟨q2,qs2,e2,h2,k2⟩:=b;subst e1 e2;exact⟨q2,qs2,rfl,bC3 hl h1 h2,lC hl k1 k2⟩
end
theorem aK5{j:Int}{L:Rw}(F:Addr->Rw){qa qb:Addr}{rs o:List Rw}{k:Nat}{r q:Rw}(a:cI j L (F qa) k rs o)(b:cC j L (F qb) (k+aZ rs) r q):∃qc,cI j L (F qc) k (rs++[r]) (o++[q]):=by
 by_cases c:j<((k+aZ rs:Nat):Int)
 ·exact⟨qa,rW a (xC (.inl c) b)⟩
 ·exact⟨qb,rW (iB (.inr (by lia)) a) b⟩
theorem aJ7{j:Int}{L:Rw}(F:Addr->Rw){qa qb:Addr}{a b a' b':List Rw}{m:Nat}{p pa pb p' pa' pb':Addr}{t:Tm}(h:cI j L (F qa) (m+1) a a')(g:cI j L (F qb) (m+1+aZ a) b b'):∃qc,cC j L (F qc) m (.when p pa pb t a b) (.when p' pa' pb' t a' b'):=by
 by_cases c:j<((m+1+aZ a:Nat):Int)
 ·exact⟨qa,by unfold cC;exact⟨_,_,_,_,_,rfl,h,iB (.inl c) g⟩⟩
 ·exact⟨qb,by unfold cC;exact⟨_,_,_,_,_,rfl,iB (.inr (by lia)) h,g⟩⟩
inductive aZ4(n:Nat)(vs:List V)(H:Hp)(Q:VK)(z1:XK):Prop
 |mk:∀(p lc st:Addr) (rs:List Rw) (k:Nat) (j a b:Int) (L:Rw),(vs=[.ref p,.ref lc,.ref st])->(H p=some (.tup (bA rs)))->(aS H rs)->(tG rs<=n)->(aZ rs<=900)->(H lc=some (.lst [.int (j-k)]))->(H st=some (.tup [.int a,.int b]))->(sX a b)->(dF j L k (cK rs))->(L.w="ladder")->(∀(q qa:Addr) (o:List Rw) (H':Hp),gK lc H H'->H' q=some (.tup (bA o))->aS H' o->H' lc=some (.lst [.int (j-(k+aZ rs:Nat))])->cI j L (sQ L qa st a b) k rs o->Q (.ref q) H')->aZ4 n vs H Q z1
def aE9:Nat->Sp
 |0=>fun _ _ _ _=>False
 |n+1=>aZ4 n
theorem qP{P:Addr}{H H':Hp}{xs:List V}(h:gK P H H')(e:H P=some (.lst xs)):TS H H':=fun p ys z=>h p _ z (fun y=>by rw[y,e] at z;cases z)
theorem dP.up{S:List Addr}{H H1:Hp}{a:Addr}{o:HO}(h:dP S H H1)(m:a∈S):dP S H (aO H1 a o):=fun c u e n=>by rw[aH (fun z=>n (by rw[z];exact m))];exact h c u e n
theorem dF.sub{j:Int}{L:Rw}{k:Nat}{a b:List Rw}{r:Rw}(h:dF j L k (cK (a++r::b))):dF j L (k+aZ a) (eG r):=by
 rw[iO] at h;have h:=h.right;rw[dG] at h;exact dF.left (b:=cK b) h
theorem aR3{rs:List Rw}{i:Nat}{r:Rw}(h:rs[i]?=some r):aZ (rs.take (i+1))=aZ (rs.take i)+r.cnt:=by
 rw[bE h,jQ];simp only[aZ,Nat.add_zero]
theorem bS4{rs:List Rw}{i:Nat}:aZ (rs.take i)<=aZ rs:=by
 have h:=fm aZ (jb i rs);rw[jQ] at h;lia
theorem dP.ofP{S:List Addr}{H H1 H2:Hp}{P:Addr}(h:dP S H H1)(o:gK P H1 H2)(m:P∈S):dP S H H2:=fun c u e n=>o c u (h c u e n) (fun z=>n (by rw[z];exact m))
theorem cK5{L:Rw}(h:L.isThr){q st:Addr}{a b:Int}:(sQ L q st a b).p=q:=by cases L<;>first|exact h.elim|rfl
theorem bX3{L:Rw}(h:L.isThr){q q' st:Addr}{a b:Int}:oM UEq id (sQ L q st a b) (sQ L q' st a b):=by
 cases L<;>first|exact h.elim|exact⟨_,_,rfl,rfl⟩
theorem bM0{L:Rw}(h:L.w="ladder"):L.isThr:=by
 cases L with
 |lt p x t=>exact absurd h (by show ¬("let": Str)="ladder";decide)
 |tell p t=>exact absurd h (by show ¬("tell": Str)="ladder";decide)
 |when p pa pb t a b=>exact absurd h (by show ¬("when": Str)="ladder";decide)
 |times p pb n b=>exact absurd h (by show ¬("times": Str)="ladder";decide)
 |thr p w x us d=>trivial
theorem aG2{j:Int}{L l:Rw}:∀{rs o:List Rw}{n:Nat},cI j L l n rs o->o.length=rs.length
 |[],o,n,h=>by unfold cI at h;rw[h]
 |r::rs,o,n,h=>by
  unfold cI at h;obtain⟨q,qs,rfl,_,h2⟩:=h;rw[cf,cf,aG2 h2]
abbrev UOk:UR:=fun _ a b=>a=b/\∀u∈a,okV u
theorem bL6{H:Hp}{w:Str}{us:List V}{d:TD}(h:kQ H w us d):∀u∈us,okV u:=by
 obtain⟨vs,T,wss,kd⟩:=d;have e1:=h.vs;have a:=h.at';subst e1;have l4:∀{x y z v:V},okV x->okV y->okV z->okV v->∀u∈[x,y,z,v],okV u:=fun h1 h2 h3 h4 u hu=>by
  simp only[List.mem_cons,List.not_mem_nil,or_false] at hu;rcases hu with rfl|rfl|rfl|rfl<;>assumption
 cases T with
 |lad a0 b0 lo hi =>
  obtain⟨_,_,_,e,_⟩:=a;rw[show us=_ from e];exact l4 (aI7 _) (aI7 _) (tE _) (tE _)
 |fla r lo hi =>
  obtain⟨_,_,e,_⟩:=a;rw[show us=_ from e];exact l4 (aI7 _) (tE _) (tE _) (tE _)
 |cho p q lo hi =>
  obtain⟨_,_,_,e,_⟩:=a;rw[show us=_ from e];exact l4 (aI7 _) (aI7 _) (tE _) (tE _)
 |fst pa qa pb qb mk lo hi =>
  obtain⟨_,_,_,_,e,_⟩:=a;rw[show us=_ from e];intro u hu;simp only[List.mem_cons,List.not_mem_nil,or_false] at hu;rcases hu with rfl|rfl|rfl|rfl|rfl|rfl<;>first|exact tE _|exact aI7 _
mutual
theorem oM.uok{H:Hp}:∀{r q:Rw},oM UEq id r q->dO H r->oM UOk id r q
 |.thr _ _ _ _ _,_,⟨p,us,e,k⟩,h=>⟨p,us,e,k,bL6 h.2⟩
 |.lt _ _ _,_,e,_=>e
 |.tell _ _,_,e,_=>e
 |.when _ _ _ _ a b,_,⟨p,pa,pb,t,a',b',e,t',h,k⟩,o=>⟨p,pa,pb,t,a',b',e,t',lJ.uok h o.2.2.2.2.2.1,lJ.uok k o.2.2.2.2.2.2⟩
 |.times _ _ _ b,_,⟨p,pb,b',e,h⟩,o=>⟨p,pb,b',e,lJ.uok (rs:=b) h (show dO H (.times _ _ _ b) from o).2.2⟩
theorem lJ.uok{H:Hp}:∀{rs qs:List Rw},lJ UEq id rs qs->aS H rs->lJ UOk id rs qs
 |[],_,e,_=>e
 |r::rs,_,⟨q,s,e,h,k⟩,o=>⟨q,s,e,oM.uok h o.1,lJ.uok k o.2⟩
end
mutual
theorem aW4{j:Int}{L l:Rw}(hL:l.isThr):∀{r q:Rw}{n:Nat},cC j L l n r q->aL1 r->aL1 q
 |.thr p w x us d,q,n,h,_=>by
  unfold cC at h
  split at h
  ·rw[h.2];cases l<;>first|exact hL.elim|trivial
  ·rw[h];trivial
 |.lt p x t,q,n,h,o=>by unfold cC at h;rw[h];exact o
 |.tell p t,q,n,h,o=>by unfold cC at h;rw[h];exact o
 |.when p pa pb t a b,q,n,h,o=>by
  unfold cC at h;obtain⟨_,_,_,_,_,rfl,h1,h2⟩:=h;exact⟨o.1,lK hL h1 o.2.1,lK hL h2 o.2.2⟩
 |.times p pb m b,q,n,h,o=>by
  unfold cC at h;obtain⟨_,_,_,rfl,h2⟩:=h;exact lK hL (rs:=b) h2 o
theorem lK{j:Int}{L l:Rw}(hL:l.isThr):∀{rs o:List Rw}{n:Nat},cI j L l n rs o->jV rs->jV o
 |[],o,n,h,_=>by unfold cI at h;rw[h];trivial
 |r::rs,o,n,h,z=>by
  unfold cI at h;obtain⟨_,_,rfl,h1,h2⟩:=h;exact⟨aW4 hL h1 z.1,lK hL h2 z.2⟩
end
theorem bL5{H:Hp}{n:Nat}{w:Str}{us a b:List V}(h:UOk w us a)(g:UOk w us b):Paired (Deq H n) a b:=by
 rw[<-h.1, <-g.1];exact qU h.2
theorem bE1{H:Hp}{j:Int}{L l1 l2:Rw}{rs o1 o2:List Rw}(h1:l1.isThr)(hl:oM UEq id l1 l2)(a:cI j L l1 0 rs o1)(b:cI j L l2 0 rs o2)(r1:aS H o1)(r2:aS H o2)(z:jV rs)(d:tG o1<=2):Paired (Deq H 13) (o1.map fun r=>V.ref r.p) (o2.map fun r=>V.ref r.p):=
 kO (U:=UOk) (ν:=id) (rs:=o1) (fun n w us a b _ x y=>bL5 x y) 13 (lJ.uok (jA o1) r1) (lJ.uok (lC hl a b) r1) r1 r2 (lK h1 a z) (by unfold sW;lia)
theorem aL0{H:Hp}{L:Rw}(h:dO H L)(hw:L.w="ladder"):∃(st0:Addr) (a0 b0:Int) (us:List V),H L.p=some (.tup us)/\lP us 3=some (.ref st0)/\H st0=some (.tup [.int a0,.int b0])/\sX a0 b0 /\
  ∀(up:Bool) (ss:List Str) (k:Nat) (q st:Addr) (a b:Int),sX a b->(if up=true then a*b0<=a0*b else a0*b<=a*b0)->iM up (lT ss k L) (lT ss k (sQ L q st a b)):=by
 obtain⟨p0,x,sm,st0,a0,b0,lo,hi,ws,kd0,rfl,hsm⟩:=oR h hw;obtain⟨hp,ok⟩:=h;have c:sX a0 b0:=ok.ok;obtain⟨sm',ws',st',e,_,_,hst⟩:=ok.at';have e2:st'=st0:=by
  have e:[V.ref sm,V.ref st0,.int lo,.int hi]=[V.ref sm',V.ref st',.int lo,.int hi]:=e;injection e with _ e;injection e with e _;injection e with e;exact e.symm
 subst e2;exact⟨st',a0,b0,_,hp,rfl,hst,c,fun up ss k q st a b hc hle=>bY4 c hc hle⟩
theorem jW.kn0{H:Hp}{p pk:Addr}{v:V}{xs ks:List Str}{rs:List Rw}(P:jW H p xs rs)(hp:H p=some (.tup [.ref pk,v]))(hk:H pk=some (.tup (ks.map V.str))):KnN H p rs ks.length:=by
 obtain⟨pk',ks',w,a,b,k1,k3,kd⟩:=P.kn;have e:=a.symm.trans hp;injection e with e;injection e with e;injection e with e _;injection e with e
 subst e;have e2:=b.symm.trans hk;injection e2 with e2;injection e2 with e2
 have l:ks'.length=ks.length:=by have:=fm List.length e2;simpa using this
 exact⟨pk',ks',w,a,b,l,by lia,by lia,by rw[<-l];exact kd⟩
inductive aO2(Lx:xM)(vs:List V)(H:Hp)(Q:VK)(z1:XK):Prop
 |mk:∀(p st:Addr) (ks xs:List Str) (rs:List Rw) (j a b:Int),(vs=[.ref p,.int j,.ref st])->(nE H Lx.P Lx.pos Lx.q)->(PgL H p ks rs 1)->(jW H p xs rs)->(H st=some (.tup [.int a,.int b]))->(sX a b)->(∀H',gK Lx.P H H'->nE H' Lx.P Lx.pos Lx.q->Q (.bl true) H')->aO2 Lx vs H Q z1
inductive mU(K:W.Frag)(Lx:xM)(vs:List V)(H:Hp)(Q:VK)(z1:XK):Prop
 |mk:∀(a:Addr) (ns:List Int),(vs=[.ref a])->(bG K H a (ns.map V.int))->(ns.length<=63)->(H Lx.P=some (.tbl #[]))->(∀H',Q (.bl true) H')->mU K Lx vs H Q z1
theorem jE{H H':Hp}{d l P:Addr}{ps:Array Value}(D:dN H d l)(e:H P=some (.tbl ps))(o:eO d l H H'):H' P=some (.tbl ps):=by
 obtain⟨sd,k,ls,z⟩:=D;exact o _ _ e (fun h=>by rw[h,z.dc] at e;cases e) (fun h=>by rw[h,z.lc] at e;cases e)
def top(i:Nat):Stmt:=PySem.Challenge.pw_pairedthrows_k48_ladders_exchanged.main.body.getD i (.Pass ⟨0,0,0,0⟩)
abbrev cD6:Stmt:=top 11
abbrev cJ3:Stmt:=top 12
abbrev cD9:Stmt:=top 13
abbrev cA9:Stmt:=top 14
abbrev cJ0:Stmt:=top 15
abbrev cF9:Stmt:=top 16
abbrev bZ9:Stmt:=top 17
abbrev cF7:Stmt:=top 18
abbrev cJ1:Stmt:=top 19
abbrev cB1:Stmt:=top 20
abbrev cB8:Stmt:=top 21
abbrev cH8:Stmt:=top 22
abbrev cH5:Stmt:=top 23
abbrev cG1:Stmt:=top 24
abbrev cA3:Stmt:=top 25
abbrev cH9:Stmt:=top 26
abbrev cH0:Stmt:=top 28
abbrev yX:Stmt:=top 30
abbrev cC7:Stmt:=top 32
abbrev cF6:Stmt:=top 33
abbrev cD1:Stmt:=top 34
abbrev cB9:Stmt:=top 35
abbrev aU3:Stmt:=top 36
abbrev cF5:Stmt:=top 37
abbrev cA7:Stmt:=top 38
abbrev cF3:Stmt:=top 40
abbrev cI4:Stmt:=top 41
abbrev cI1:Stmt:=top 42
abbrev cG6:Stmt:=top 44
abbrev bN5:Stmt:=top 45
abbrev cJ5:Stmt:=top 48
abbrev cD0:Stmt:=top 49
abbrev cH2:Stmt:=top 50
abbrev cC1:Stmt:=top 51
abbrev cG2:Stmt:=top 52
abbrev cC0:Stmt:=top 53
abbrev cI3:Stmt:=top 54
abbrev cE4:Stmt:=top 55
abbrev cH1:Stmt:=top 56
abbrev bB6:Stmt:=top 58
abbrev aT3:Stmt:=top 59
abbrev bO0:Stmt:=top 60
abbrev aZ8:Stmt:=top 61
abbrev aW1:Stmt:=top 62
abbrev bA7:Stmt:=top 63
abbrev aW6:Stmt:=top 64
abbrev bB5:Stmt:=top 65
abbrev bO3:Stmt:=top 66
abbrev aQ4:Stmt:=top 67
abbrev bA8:Stmt:=top 68
abbrev aS8:Stmt:=top 69
abbrev aO8:Stmt:=top 70
abbrev aV0:Stmt:=top 71
abbrev bZ0:Stmt:=top 72
abbrev cH6:Stmt:=top 73
abbrev cH4:Stmt:=top 74
abbrev cC9:Stmt:=top 75
abbrev cB7:Stmt:=top 76
abbrev aY3:Stmt:=top 77
section
variable {P:Program}{w:World}{K:W.Frag}{mg:Str->Option Value}{base:Heap}
theorem vL:eM ["_law_deal_here","_law_many","_law_number","_law_one","_law_other"] ["_law_deal_here","_law_many"] (aK aT3):=by refine⟨rfl,rfl,rfl,?_,rfl,?_,?_⟩<;>decide
theorem bK1{f:Addr}{fd:FuncData}(F:oI K "_law_draw" "_law_draw" aT3 f fd)(ml:mg "len"=none):mI P w K mg base qL 1 f fd ["_law_deal_here","_law_many"] spDraw:=by
 refine F.ok vL (fun vs H Q E h=>?_) (fun cdv A outer s H vs Q E hr h=>?_)
 ·obtain⟨d,l,m,rfl,_⟩:=h;rfl
 obtain⟨d,l,m,rfl,⟨sd,n,ls,D⟩,hm0,hm1,k⟩:=h;have hu:=kK hr;refine⟨_,aF (iJ jg (hX (nS cA (iQ hu (pv 0) aJ (fun _ _=>rfl)) aD (pI _)) (gQ (nS lG (iA bM (by rfl) ml ge (aA (iQ hu (pv 0) aJ (fun _ _=>rfl)) bS)) aD (pI _)))).pt
   (aE (qK hu (pv 0) aJ (qY bq jz ka sJ (iQ hu (pv 0) aJ (fun _ _=>rfl))) rfl)))
  (aF (gD (i:=2) vL.nd rfl (iz rfl) (iQ hu (pv 0) aJ (fun _ _=>rfl)))
  (aF (bL (nS lG (pv 2) aD (pI _))
   (aF (qK hu (pv 0) aJ (aL rV (pv 2) (pv 1)) rfl) (aE (aM (aL iG (pv 2) (pv 1))))) aX)
  (aF (gD (i:=3) vL.nd rfl (iz rfl) (aL iG (aL bV (aL eR (iQ hu (pv 0) aJ (fun _ _=>rfl)) aD) aD) aD))
  (aF (qK hu (pv 0) aJ (aL iG (aL bV (aL eR (pv 3) aD) aD) aD) rfl)
  (aF (gD (i:=4) vL.nd rfl (iz rfl) (aL iG (aL eR (iQ hu (pv 0) aJ (fun _ _=>rfl)) (iQ hu (pv 0) aJ (fun _ _=>rfl))) aD))
  (aE (aM (aL iG (aL bV (aL eR (aL iG (aL eR (pv 3) (pv 3)) aD) aD) (pv 4)) (pv 1))))))))),?_⟩
 refine⟨fun j σ H1=>∃n' ls',σ=[some (.ref d),some (.int m),none,none,none]/\bU H1 d l sd n' ls'/\j=ls'.length/\eO d l H H1,⟨_,n,ls,rfl,D,rfl,eO.refl H⟩,?_⟩;rintro j σ H1 ⟨n',ls',rfl,D1,rfl,o1⟩;refine⟨_,rfl,d,_,rfl,D1.gn,rfl,_,rfl,?_⟩;refine pH (fun c=>?a) (fun c=>cA6 ?b)
 case' a=>refine⟨_,rfl,d,_,rfl,D1.gl,l,_,rfl,.inl (bG.of D1.lc),_,_,rfl,rfl,_,rfl,?_⟩
 case' a=>refine pH (fun c2=>?loop) (fun c2=>?b2)
 case loop =>
   have hl:0<ls'.length:=by
    have:=af c2
    simpa using this
   obtain⟨z,hz⟩:∃z,ls'[ls'.length-1]?=some z:=⟨ls'[ls'.length-1],by simp⟩
   have hz2:(ls'.map V.int)[(ls'.map V.int).length-1]?=some (.int z):=by rw[ae,cm,hz];rfl
   have z0:0<=z:=D1.l0 z (bj hz);have D2:bU (aO H1 l (.lst (ls'.dropLast.map V.int))) d l sd n' ls'.dropLast:=D1.left fun x hx=>D1.l0 x (List.dropLast_subset _ hx)
   refine⟨fun σ' H'=>σ'=[some (.ref d),some (.int m),none,none,none]/\bU H' d l sd z ls'.dropLast/\eO d l H H',fun σ' H' q=>⟨_,by rw[xa];lia,z,ls'.dropLast,q.1,q.2.1,rfl,q.2.2⟩,?_⟩;refine⟨_,rfl,d,_,rfl,D1.gl,.inl ⟨rfl,_,bG.of D1.lc⟩,l,_,_,rfl,rfl,D1.lc,hz2,?_⟩;have e:∀(o:List V),(ls'.map V.int).dropLast=o->aO H1 l (.lst (ls'.map V.int).dropLast)=aO H1 l (.lst o):=fun o e=>by rw[e]
   rw[e _ List.map_dropLast.symm];refine⟨_,rfl,d,_,rfl,D2.pn z,rfl,D2.number z0,o1.trans (eO.upd_l.trans eO.upd_d)⟩
 all_goals
  refine⟨_,rfl,d,_,rfl,D1.gn,?_⟩;refine⟨_,rfl,_,_,rfl,rfl,_,rfl,?_⟩;refine pH (fun c3=>?_) (fun c3=>?_)
  ·have hp:0<n':=af c3;refine⟨_,rfl,_,rfl,_,_,rfl,rfl,⟨hm0,by lia⟩,_,rfl,d,_,rfl,D1.pn (n' / m),?_⟩;refine⟨_,rfl,_,rfl,_,_,rfl,rfl,hm0,?_⟩;exact k _ _ (jo _ (by lia)) (jt _ hm0) ⟨_,_,_,D1.number (Int.ediv_nonneg (by lia) (by lia))⟩ (o1.trans eO.upd_d)
  ·
   have q1:(0:Int)<2147483647:=by decide
   refine⟨_,rfl,d,_,rfl,D1.gs,_,_,rfl,rfl,.inr ⟨by decide,by decide⟩,_,_,rfl,rfl,_,_,rfl,rfl,q1,?_⟩;have q2:(0:Int)<2147483587:=by decide
   refine⟨_,rfl,_,_,rfl,rfl,.inr ⟨by decide,by decide⟩,_,_,rfl,rfl,_,_,rfl,rfl,q2,_,rfl,d,_,rfl,D1.ps _,?_⟩;have D2:=D1.seed (v:=((sd*48271+5003) % 2147483647*39373+60013) % 2147483587) (by lia) (by lia);have q3:(0:Int)<2147483549:=by decide
   have q4:(0:Int)<2147483563:=by decide
   refine⟨_,rfl,d,_,rfl,D2.gs,_,rfl,d,_,rfl,D2.gs,_,_,rfl,rfl,.inr ⟨by lia,by lia⟩,_,_,rfl,rfl,q3,?_⟩;refine⟨_,rfl,_,rfl,_,_,rfl,rfl,.inr ⟨by lia,by lia⟩,_,_,rfl,rfl,q4,_,_,rfl,rfl,.inr ⟨by decide,by decide⟩,_,rfl,_,_,rfl,rfl,_,rfl,_,_,rfl,rfl,hm0,?_⟩;exact k _ _ (jo _ (by lia)) (jt _ hm0) ⟨_,_,_,D2⟩ (o1.trans eO.upd_d)
end
theorem zX(x n:Int)(l:Addr):gZ [] (dY x n l)=dY x n l:=by
 unfold gZ dY;simp only[List.foldl_cons,List.foldl_nil];have e1:dB ([]:List (Key×V)) (Sum.inr ("seed": Str)) (V.int x)=[(Sum.inr ("seed": Str),V.int x)]:=rfl;have e2:dB [(Sum.inr ("seed": Str),V.int x)] (Sum.inr ("number": Str):Key) (V.int n)=[(Sum.inr ("seed": Str),V.int x),(Sum.inr ("number": Str),V.int n)]:=nR _ (by rw[bR ksn,xN]);have e3:dB [(Sum.inr ("seed": Str),V.int x),(Sum.inr ("number": Str),V.int n)] (Sum.inr ("left": Str):Key) (V.ref l)=[(Sum.inr ("seed": Str),V.int x),(Sum.inr ("number": Str),V.int n)]++[(Sum.inr ("left": Str),V.ref l)]:=nR _ (by rw[bR ksl,bR knl,xN]);rw[e1,e2,e3];rfl
theorem bC0:(["_law_cell"]:List Str).Nodup:=by decide
theorem aW8(ns:List Int)(lo hi:Option Int):∃ms:List Int,kS (ns.map V.int) lo hi=ms.map V.int/\ms.length<=ns.length:=by
 refine⟨(ns.drop (HT.sIx ns.length 0 lo)).take (HT.sIx ns.length ns.length hi-HT.sIx ns.length 0 lo),?_,?_⟩
 ·unfold kS;rw[ae,xr,List.map_drop]
 ·rw[du,uv];lia
section
variable {P:Program}{w:World}{K:W.Frag}{mg:Str->Option Value}{base:Heap}
theorem rN:eM ["_law_script","_law_base","_law_cells","_law_number","_law_cell"] ["_law_script","_law_base"] (aK bB6):=by refine⟨rfl,rfl,rfl,?_,rfl,?_,?_⟩<;>decide
theorem bE5{f:Addr}{fd:FuncData}(F:oI K "_law_deal" "_law_deal" bB6 f fd)(mm:mg "max"=none)(mr:mg "reversed"=none)(ml:mg "list"=none):mI P w K mg base qL 1 f fd ["_law_script","_law_base"] (aC0 K):=by
 refine F.ok rN (fun vs H Q E h=>?_) (fun cdv A outer s H vs Q E hr h=>?_)
 ·obtain⟨a,ns,b,rfl,_⟩:=h;rfl
 obtain⟨a,ns,b,rfl,hS,hlen,hb0,hb1,k⟩:=h;refine⟨_,aF (aI2 ["_law_cell"] [none] (i:=2) rN.nd rfl (iz rfl) (cX (dC uX (pv 0) (dU (pv 1)) (dU aD)))
   (fun _ _ _ _=>qC (i:=0) bC0 rfl (iz rfl)) (fun _ _ _ _=>eS) (fun _ _ _ _=>iA (tR rfl) (by rfl) mm qo (aA (pv 0) (aA (aL fH aD (pv 0)) bS))))
  (aF (gD (i:=3) rN.nd rfl (iz rfl) (aL bV aD (aL eR aD (pv 1))))
  (aF (aN1 jg rfl (cX (pv 2)) (qC (i:=4) rN.nd rfl (iz rfl))
   (aE (gD (i:=3) rN.nd rfl (iz rfl) (aL iG (aL bV (aL bV (aL eR (pv 3) aD) (aL iG (pv 4) aD)) aD) aD))))
  (aE (aM (aF3 (fC aJ (pv 3) (fC aJ aD (fC aJ (qQ (cU ["_law_cell"] [none] (cX (pv 2))
   (fun _ _ _ _=>qC (i:=0) bC0 rfl (iz rfl)) (fun _ _ _ _=>vJ (nS aI0 (pv 0) (aL bD0 aD aD) (pI _))) (fun _ _ _ _=>pv 0)) (by rfl) ml (by rfl) mr) aG4))) rfl rfl (by decide) (by decide)))))),?_⟩
 refine⟨_,rfl,_,rfl,_,rfl,_,rfl,a,_,rfl,hS,fun p1 np1=>?_⟩;obtain⟨ms,em,hms⟩:=aW8 ns (some b) (some 63);have g1:aR H (aO H p1 (.lst (kS (ns.map V.int) (some b) (some 63)))):=aB np1 _;have hp1:bG K (aO H p1 (.lst (kS (ns.map V.int) (some b) (some 63)))) p1 (ms.map V.int):=by rw[em];exact bG.of aC
 generalize aO H p1 (.lst (kS (ns.map V.int) (some b) (some 63)))=H1 at g1 hp1 ⊢;refine⟨p1,rfl,⟨_,hp1⟩,dI (xs:=ms.map V.int) (fun i ys σ H2=>H2=H1/\(∃v,σ=[v])/\∃cs:List Int,ys=cs.map V.int/\cs.length=i/\∀x∈cs,0<=x)
  (by rw[ae];exact aN (by lia)) ⟨rfl,⟨_,rfl⟩,[],rfl,rfl,fun _ z=>nomatch z⟩ (fun i ys σ H2 ⟨_,_,cs,e1,e2,_⟩=>by rw[e1,ae];lia) (fun i ys σ H2 _ ⟨e,_⟩=>by rw[e];exact hp1) ?_ ?_⟩
 ·rintro i x ys σ H2 hx ⟨rfl,⟨v,rfl⟩,cs,rfl,rfl,h0⟩;obtain⟨z,rfl,_⟩:=nI hx;refine⟨_,rfl,_,rfl,_,_,rfl,rfl,_,_,rfl,rfl,⟨_,rfl⟩,cs++[if 0-z > z then 0-z else z],by rw[cy];rfl,by rw[aj];rfl,fun x hx=>?_⟩;rcases bz.mp hx with q|q
  ·exact h0 x q
  ·have e:x=if 0-z > z then 0-z else z:=by simpa using q
   rw[e];split<;>lia
 rintro ys σ H2 ⟨rfl,_,cs,rfl,hcs,h0⟩ p2 np2;have hm63:cs.length<=63:=by rw[ae] at hcs;lia
 have g2:aR H2 (aO H2 p2 (.lst (cs.map V.int))):=aB np2 _;have hp2:bG K (aO H2 p2 (.lst (cs.map V.int))) p2 (cs.map V.int):=bG.of aC;generalize aO H2 p2 (.lst (cs.map V.int))=H3 at g2 hp2 ⊢;refine⟨_,rfl,_,_,rfl,rfl,.inl ⟨by decide,by decide⟩,_,_,rfl,rfl,?_⟩;refine⟨_,rfl,p2,rfl,⟨_,hp2⟩,wC (K:=K) (a:=p2) (xs:=cs.map V.int) (fun i σ H4=>H4=H3/\∃(x:Int) (v:Option V),σ=[some (.ref a),some (.int b),some (.ref p2),some (.int x),v]/\0<=x/\x<2147483647)
  ⟨rfl,6271+11*b,none,rfl,by lia,by lia⟩ (fun i σ H4 _ ⟨e,_⟩=>by rw[e];exact hp2) ?_ ?_⟩
 ·rintro i y σ H4 hi ⟨rfl,x,v,rfl,x0,x1⟩;obtain⟨z,rfl,_⟩:=nI hi;have q1:(0:Int)<2147483579:=by decide
  have q2:(0:Int)<2147483647:=by decide
  refine⟨_,rfl,_,_,rfl,rfl,.inr ⟨by decide,by decide⟩,_,rfl,_,_,rfl,rfl,q1,_,_,rfl,rfl,_,_,rfl,rfl,_,_,rfl,rfl,q2,rfl,_,_,rfl,?_,?_⟩
  ·exact jo _ (by decide)
  ·exact jt _ q2
 rintro σ H4 ⟨rfl,x,v,rfl,x0,x1⟩;intro d nd;have g4:aR H4 (aO H4 d (.dK [])):=aB nd _;have hd4:aO H4 d (.dK []) d=some (.dK []):=aC;have hp4:=g4.seq hp2;refine⟨_,rfl,_,rfl,p2,rfl,⟨_,hp4⟩,?_⟩;generalize aO H4 d (.dK [])=H5 at g4 hd4 hp4 ⊢;refine dI (xs:=cs.map V.int) (fun i ys σ H6=>H6=H5/\(∃v,σ=[v])/\∃ls:List Int,ys=ls.map V.int/\ls.length<=i/\∀x∈ls,0<=x)
  (by rw[ae];exact aN (by lia)) ⟨rfl,⟨_,rfl⟩,[],rfl,ai _,fun _ z=>nomatch z⟩ (fun i ys σ H2 ⟨_,_,cs,e1,e2,_⟩=>by rw[e1,ae];lia) (fun i ys σ H2 _ ⟨e,_⟩=>by rw[e];exact hp4) ?_ ?_
 ·rintro i y ys σ H6 hy ⟨rfl,⟨v',rfl⟩,ls,rfl,hl,l0⟩;obtain⟨z,rfl,hz⟩:=nI hy;have z0:0<=z:=h0 z (bj hz);refine⟨_,rfl,_,_,rfl,rfl,⟨by decide,by decide,by decide⟩,_,_,rfl,rfl,_,rfl,?_⟩;refine pH (fun c=>?_) (fun c=>?_)
  ·refine⟨_,rfl,rfl,⟨_,rfl⟩,ls++[z],by rw[cy];rfl,by rw[aj];show ls.length+1<=i+1;lia,fun x hx=>?_⟩;rcases bz.mp hx with q|q
   ·exact l0 x q
   ·have e:x=z:=by simpa using q
    rw[e];exact z0
  ·exact⟨rfl,⟨_,rfl⟩,ls,rfl,ze hl,l0⟩
 rintro ys σ H6 ⟨rfl,_,ls,rfl,hl,l0⟩ p3 np3;have g5:aR H6 (aO H6 p3 (.lst (ls.map V.int))):=aB np3 _;refine⟨p3,_,rfl,bG.of aC,fun l nl=>?_⟩;generalize aO H6 p3 (.lst (ls.map V.int))=H7 at g5 nl ⊢;have g6:aR H7 (aO H7 l (.lst (ls.map V.int).reverse)):=aB nl _;have hd7:H7 d=some (.dK []):=g5 _ _ hd4;refine⟨g6 _ _ hd7,dY x 0 l,rfl,by show 3<=15;decide,?_⟩;have em:gZ [] (dY x 0 l)=dY x 0 l:=zX _ _ _;have neld:l≠d:=fun z=>by rw[z] at nl;rw[nl] at hd7;cases hd7
 refine k d l _ ?_ ?_ ⟨x,0,ls.reverse,⟨by rw[em];exact aC,by rw[aH neld,aC,vd],x0,x1,ji 0,fun y hy=>l0 y (by simpa using hy)⟩⟩ ?_
 ·exact(g1.trans g2).free nd
 ·exact(g1.trans (g2.trans (g4.trans g5))).free nl
 ·intro c o e;rw[aH (aI e ((g1.trans g2).free nd))];exact(g1.trans (g2.trans (g4.trans (g5.trans g6)))) c o e
theorem bP7  : eQ P w K mg base "parts_of" "parts_of" cA9 1 ["term"] spParts:=by
 refine fS ["term","parts","waiting","part"] fun H Q nd hr h=>?_
 obtain⟨t,rfl,ht,hz,k⟩:=h;have hu:=kK hr;refine⟨_,(dX 1 nd (bJ bS)
  (dX 2 nd (bJ (aP (pv 0)))
  (aF (iJ jg (lM (pv 2) (fun _=>rfl))
  (dX 3 nd (qY bq jz ka sJ (pv 2))
  (aF (bZ (eJ bq eh ej dD (pv 1) (aP (pv 3))))
  (aE (bL (fY cA (bK aG (pv 3) aD) aJ) (aE (bZ (eJ bq eu fc dJ (pv 2) (aP (bJ (aA (bK aG (pv 3) aD) (aP (bK aG (pv 3) aD)))))))) aX)))))
  (aE (aM (pv 1)))))),?_⟩
 refine⟨bo _,fun l1 hl1=>?_⟩;obtain⟨H1,e0,s1,h1⟩:=sF hl1 (.lst []);rw[e0];clear e0;refine⟨_,rfl,jT,fun l2 hl2=>?_⟩;have n2:=s1.free hl2;have ne:l2≠l1:=(aI h1 hl2).symm;have s2:=s1.trans (aB hl2 (.lst [.ref t.p]));have h12:aO H1 l2 (.lst [.ref t.p]) l1=some (.lst []):=by rw[aH ne.symm];exact h1
 have h2:aO H1 l2 (.lst [.ref t.p]) l2=some (.lst [.ref t.p]):=aC;generalize aO H1 l2 (.lst [.ref t.p])=H2 at s2 h12 h2 ⊢;refine⟨fun m σ G=>∃(ps stk:List Tm) (v3:Option V),σ=[some (.ref t.p),some (.ref l1),some (.ref l2),v3]/\aR H G/\G l1=some (.lst (ps.map fun u=>V.ref u.p))/\G l2=some (.lst (stk.reverse.map fun u=>V.ref u.p))/\ps++stk.flatMap Tm.pre=t.pre/\(∀u∈stk,pV H u)/\m=(stk.flatMap Tm.pre).length,
  ⟨_,[],[t],none,rfl,s2,h12,h2,by simp,fun u hu=>by rw[List.mem_singleton.mp hu];exact ht,rfl⟩,?_⟩
 rintro m σ G ⟨ps,stk,v3,rfl,s3,g1,g2,eq,hs,rfl⟩;refine⟨_,rfl,_,.inl ⟨_,bG.of g2,rfl⟩,?_⟩;have lt:=fm List.length eq;rw[aj,Tm.pre_len] at lt;have ls:stk.length<=(stk.flatMap Tm.pre).length:=aH6 stk
 cases stk with
 |nil =>
  refine aW (by simp) ?_;rw[zu,gv] at eq;exact⟨_,rfl,k l1 G s3 hl1 (by rw[<-eq];exact g1)⟩
 |cons u cS =>
  refine bI (by simp) ?_;have hu:=hs u az;have up:=u.size_pos;rw[kj,aj,Tm.pre_len] at lt;rw[cf,kj,aj,Tm.pre_len] at ls;refine⟨fun σ' G'=>∃(ps' stk':List Tm) (v3:Option V),σ'=[some (.ref t.p),some (.ref l1),some (.ref l2),v3]/\aR H G'/\G' l1=some (.lst (ps'.map fun u=>V.ref u.p))/\G' l2=some (.lst (stk'.reverse.map fun u=>V.ref u.p))/\ps'++stk'.flatMap Tm.pre=t.pre/\(∀u∈stk',pV H u)/\(stk'.flatMap Tm.pre).length+1=((u::cS).flatMap Tm.pre).length,
   (by rintro σ' G' ⟨ps',stk',v3',e1,e2,e3,e4,e5,e6,e7⟩;exact⟨_,by lia,ps',stk',v3',e1,e2,e3,e4,e5,e6,rfl⟩),?_⟩
  have er:(u::cS).reverse.map (fun u=>V.ref u.p)=cS.reverse.map (fun u=>V.ref u.p)++[V.ref u.p]:=by rw[gj,cy];rfl
  rw[er] at g2;refine⟨_,rfl,.inl ⟨rfl,_,bG.of g2⟩,l2,_,V.ref u.p,rfl,rfl,g2,by simp,?_⟩;rw[nh];have s4:=cV (ys:=cS.reverse.map fun u=>V.ref u.p) s3 n2;have g3:aO G l2 (.lst (cS.reverse.map fun u=>V.ref u.p)) l2=some (.lst (cS.reverse.map fun u=>V.ref u.p)):=aC;have g4:aO G l2 (.lst (cS.reverse.map fun u=>V.ref u.p)) l1=some (.lst (ps.map fun u=>V.ref u.p)):=by rw[aH ne.symm];exact g1
  generalize aO G l2 (.lst (cS.reverse.map fun u=>V.ref u.p))=G1 at s4 g3 g4 ⊢;refine⟨_,rfl,.inl ⟨rfl,_,bG.of g4⟩,_,rfl,l1,_,_,rfl,rfl,g4,aN (by rw[ae];lia),?_⟩;have s5:=cV (ys:=(ps++[u]).map fun u=>V.ref u.p) s4 hl1;have ea:(ps.map fun u=>V.ref u.p)++[V.ref u.p]=(ps++[u]).map fun u=>V.ref u.p:=by rw[cy];rfl
  rw[ea];have g5:aO G1 l1 (.lst ((ps++[u]).map fun u=>V.ref u.p)) l1=some (.lst ((ps++[u]).map fun u=>V.ref u.p)):=aC;have g6:aO G1 l1 (.lst ((ps++[u]).map fun u=>V.ref u.p)) l2=some (.lst (cS.reverse.map fun u=>V.ref u.p)):=by rw[aH ne];exact g3
  generalize aO G1 l1 (.lst ((ps++[u]).map fun u=>V.ref u.p))=G2 at s5 g5 g6 ⊢;have hu5:=hu.ts (.of s5);refine⟨_,rfl,u.p,_,_,.str u.w,rfl,rfl,aU.of hu5.at,iV,rfl,_,rfl,?_⟩
  cases u with
  |op p s a b =>
   refine bI (ag rfl) ?_;refine⟨_,rfl,.inl ⟨rfl,_,bG.of g6⟩,_,rfl,p,_,_,.ref b.p,rfl,rfl,aU.of hu5.1,rfl,_,rfl,p,_,_,.ref a.p,rfl,rfl,aU.of hu5.1,rfl,dA,fun l3 hl3=>?_⟩;have s6:=s5.trans (aB hl3 (.lst [.ref b.p,.ref a.p]));have n31:l1≠l3:=aI g5 hl3;have n32:l2≠l3:=aI g6 hl3;have g7:aO G2 l3 (.lst [.ref b.p,.ref a.p]) l3=some (.lst [.ref b.p,.ref a.p]):=aC;have g8:aO G2 l3 (.lst [.ref b.p,.ref a.p]) l1=_:=(aH n31).trans g5;have g9:aO G2 l3 (.lst [.ref b.p,.ref a.p]) l2=_:=(aH n32).trans g6;generalize aO G2 l3 (.lst [.ref b.p,.ref a.p])=G3 at s6 g7 g8 g9 ⊢;refine⟨l2,l3,_,_,rfl,rfl,g9,g7,by rw[ae,ib];have:=aN (n:=1000) (ai _);show cS.length+2<=_;lia,?_⟩;have ez:(cS.reverse.map fun u=>V.ref u.p)++[.ref b.p,.ref a.p]=(a::b::cS).reverse.map fun u=>V.ref u.p:=by simp
   rw[ez];refine⟨ps++[.op p s a b],a::b::cS,_,rfl,cV s6 n2,(aH ne.symm).trans g8,aC,?_,fun x hx=>?_,?_⟩
   ·rw[<-eq];simp[Tm.pre]
   ·rcases cj.mp hx with e|e
    ·rw[e];exact hu.2.1
    ·rcases cj.mp e with e|e
     ·rw[e];exact hu.2.2
     ·exact hs x (av _ e)
   ·simp[Tm.pre]<;>lia
  |num p n =>
   refine aW (fun z=>cL6 (af z)) ?_;refine⟨ps++[.num p n],cS,_,rfl,s5,g5,g6,?_,fun x hx=>hs x (av _ hx),?_⟩
   ·rw[<-eq];simp[Tm.pre]
   ·simp[Tm.pre]<;>lia
  |nam p n =>
   refine aW (fun z=>cK8 (af z)) ?_;refine⟨ps++[.nam p n],cS,_,rfl,s5,g5,g6,?_,fun x hx=>hs x (av _ hx),?_⟩
   ·rw[<-eq];simp[Tm.pre]
   ·simp[Tm.pre]<;>lia
theorem bY2(C_Prt:Cl P w K mg base 1 spParts "parts_of"):eQ P w K mg base "names_in" "names_in" cJ0 2 ["term"] spNamesIn:=by
 refine fS ["term"] fun H Q nd hr h=>?_
 obtain⟨t,rfl,ht,hz,k⟩:=h;have hu:=kK hr;refine⟨_,(aE (aM (cU ["part"] [none] (cX (bN C_Prt hr (aP (pv 0)))) (fun _ _ _ _=>(gG 0)) (fun _ _ _ _=>(vJ (fY cA (bK (oW K) (pv 0) aD) aJ))) (fun _ _ _ _=>(bK (oW K) (pv 0) aD))))),?_⟩;refine⟨_,rfl,t,rfl,ht,hz,fun r H1 s1 _ h1=>⟨r,rfl,⟨_,bG.of h1⟩,?_⟩⟩;have pl:=Tm.pre_len t;refine dI (K:=K) (a:=r) (xs:=t.pre.map fun u=>V.ref u.p) (fun i ys σ G=>G=H1/\(∃v,σ=[v])/\ys=((t.pre.take i).filterMap Tm.nm).map V.str)
  (iY (by rw[ae];lia)) ⟨rfl,⟨_,rfl⟩,rfl⟩ (fun i ys σ G ⟨_,_,e⟩=>by
   rw[e,ae];exact db (vc _ _) (by rw[du];lia)) (by rintro i ys σ G _ ⟨e,_⟩;rw[e];exact bG.of h1) ?_ ?_
 ·rintro i v ys σ G hv ⟨rfl,⟨v',rfl⟩,rfl⟩;obtain⟨u,hu,rfl⟩:∃u,t.pre[i]?=some u/\v=V.ref u.p:=by
   rw[cm] at hv
   cases e:t.pre[i]? with
   |none=>rw[e] at hv;cases hv
   |some u=>rw[e] at hv;exact⟨u,rfl,(di hv).symm⟩
  have hU:=(pV.pre ht u (bj hu)).ts (.of s1);refine⟨_,rfl,u.p,_,_,.str u.w,rfl,rfl,aU.of hU.at,iV,rfl,_,rfl,?_⟩;rw[bE hu,qm,cy]
  cases u with
  |nam p x=>exact bI (ag rfl) ⟨_,rfl,p,_,_,.str x,rfl,rfl,aU.of hU,rfl,rfl,⟨_,rfl⟩,rfl⟩
  |num p n=>exact aW (fun z=>wMN (af z)) ⟨rfl,⟨_,rfl⟩,by rw[pi (by rfl)];simp⟩
  |op p s a b=>exact aW (fun z=>wOM (af z)) ⟨rfl,⟨_,rfl⟩,by rw[pi (by rfl)];simp⟩
 ·rintro ys σ G ⟨rfl,_,rfl⟩ l hl;rw[ae,dk,Tm.pre_names];exact k l _ (s1.trans (aB hl _)) aC
theorem bT5{cT:Addr}(m_THROWS:mg "THROWS"=some (.ref cT))(hT:∀H,aU K H cT (dR.map V.str)):eQ P w K mg base "sets_name" "sets_name" cF9 1 ["row"] spSetsN:=by
 refine fS ["row"] fun H Q nd hr h=>?_
 obtain⟨r,rfl,hr0,k⟩:=h;refine⟨_,(aE (aM (bN9 (pec eX (bK aG (pv 0) aD) (pgl m_THROWS)) (mH (pec cA (bK aG (pv 0) aD) aJ))))),?_⟩;rw[<-aR6 (dO.wd r hr0)] at k;refine⟨_,rfl,r.p,_,_,.str r.w,rfl,rfl,aU.of hr0.at,iV,cT,_,rfl,.inr (hT _),rfl,iE _,_,rfl,?_⟩;have ei:yL (V.str r.w) (dR.map V.str)=decide (r.w∈dR):=gY _ _
 by_cases c:r.w∈dR
 ·refine bI (ei.trans (ag c)) ?_;rw[ag c] at k;exact k
 ·refine aW (fun z=>c (af (ei.symm.trans z))) ?_;rw[dh c,xm] at k;refine⟨_,rfl,r.p,_,_,.str r.w,rfl,rfl,aU.of hr0.at,iV,rfl,?_⟩;rw[show decide (V.str r.w=V.str "let")=decide (r.w="let") from by simp];exact k
theorem bX5(C_NmI:Cl P w K mg base 2 spNamesIn "names_in"):eQ P w K mg base "names_asked" "names_asked" bZ9 3 ["row"] spAsked:=by
 refine fS ["row"] fun H Q nd hr h=>?_
 obtain⟨r,rfl,hr0,k⟩:=h;refine⟨_,(aF (bL (fY cA (bK aG (pv 0) aD) aJ) (aE (aM (bN C_NmI hr (aP (bK aG (pv 0) aD))))) aX)
  (aF (bL (fY eX (bK aG (pv 0) aD) (aV (aA aJ (aP aJ)))) (aE (aM (bN C_NmI hr (aP (bK aG (pv 0) aD))))) aX)
  (aE (aM (bJ bS))))),?_⟩
 refine⟨_,rfl,r.p,_,_,.str r.w,rfl,rfl,aU.of hr0.at,iV,rfl,_,rfl,?_⟩;generalize hP:r.p=P
 cases r with
 |lt p x t =>
  obtain rfl:p=P:=hP;refine bI (ag rfl) ?_;refine⟨_,rfl,p,_,_,.ref t.p,rfl,rfl,aU.of hr0.1,rfl,t,rfl,hr0.2.1,by have:=hr0.2.2.2;lia,fun q H' s h=>k q H' s h⟩
 |tell p t =>
  obtain rfl:p=P:=hP;refine aW (fun z=>wTL (af z)) ?_;refine⟨_,rfl,p,_,_,.str "tell",rfl,rfl,aU.of hr0.1,rfl,dA,fun t2 ht2=>?_⟩;have s1:=aB ht2 (.tup [.str "tell",.str "when"]);refine⟨t2,[.str "tell",.str "when"],rfl,.inr (aU.of aC),rfl,by decide,_,rfl,?_⟩;refine bI (by decide) ?_;exact⟨_,rfl,p,_,_,.ref t.p,rfl,rfl,aU.of (s1 _ _ hr0.1),rfl,t,rfl,hr0.2.1.ts (.of s1),by have:=hr0.2.2.2;lia,fun q H' s h=>k q H' (s1.trans s) h⟩
 |when p pa pb t a b =>
  obtain rfl:p=P:=hP;refine aW (fun z=>wWL (af z)) ?_;refine⟨_,rfl,p,_,_,.str "when",rfl,rfl,aU.of hr0.1,rfl,dA,fun t2 ht2=>?_⟩;have s1:=aB ht2 (.tup [.str "tell",.str "when"]);refine⟨t2,[.str "tell",.str "when"],rfl,.inr (aU.of aC),rfl,by decide,_,rfl,?_⟩;refine bI (by decide) ?_;exact⟨_,rfl,p,_,_,.ref t.p,rfl,rfl,aU.of (s1 _ _ hr0.1),rfl,t,rfl,hr0.2.1.ts (.of s1),by have:=hr0.2.2.1.2;lia,fun q H' s h=>k q H' (s1.trans s) h⟩
 |times p pb n b =>
  obtain rfl:p=P:=hP;refine aW (fun z=>wML (af z)) ?_;refine⟨_,rfl,p,_,_,.str "times",rfl,rfl,aU.of hr0.1,rfl,dA,fun t2 ht2=>?_⟩;have s1:=aB ht2 (.tup [.str "tell",.str "when"]);refine⟨t2,[.str "tell",.str "when"],rfl,.inr (aU.of aC),rfl,by decide,_,rfl,?_⟩;refine aW (by decide) ?_;exact⟨bo _,fun l hl=>k l _ (s1.trans (aB hl _)) aC⟩
 |thr p w x vs am =>
  obtain rfl:p=P:=hP;have hw:=hr0.2.w;refine aW (fun z=>bQ2 hw (af z)) ?_;refine⟨_,rfl,p,_,_,.str w,rfl,rfl,aU.of hr0.1,iV,dA,fun t2 ht2=>?_⟩;have s1:=aB ht2 (.tup [.str "tell",.str "when"]);refine⟨t2,[.str "tell",.str "when"],rfl,.inr (aU.of aC),rfl,by decide,_,rfl,?_⟩;refine aW (bW9 hw) ?_;exact⟨bo _,fun l hl=>k l _ (s1.trans (aB hl _)) aC⟩
theorem bW7  : eQ P w K mg base "as_steps" "as_steps" cF7 1 ["rows"] spAsS:=by
 refine fS ["rows"] fun H Q nd hr h=>?_
 obtain⟨p,rs,rfl,hp,hl,k⟩:=h;refine⟨_,(aE (aM (cU ["row"] [none] (vP (pv 0)) (fun _ _ _ _=>(gG 0)) (fun _ _ _ _=>eS) (fun _ _ _ _=>(aV (aA aJ (aP (pv 0)))))))),?_⟩;refine⟨_,rfl,p,rfl,⟨_,aU.of hp⟩,yS (K:=K) (a:=p) (xs:=bA rs) (fun i zs σ G=>aR H G/\(∃v,σ=[v])/\dL (kX G) zs ((rs.take i).map fun r=>(("row": Str),r)))
  (by rw[bD];exact iY (by lia)) ⟨aR.refl _,⟨_,rfl⟩,trivial⟩ (by rintro i zs σ G ⟨_,_,e⟩;rw[e.length,ae,du];lia) (by rintro i zs σ G _ ⟨e,_⟩;exact aU.of (e _ _ hp)) ?_ ?_⟩
 ·rintro i v zs σ G hv ⟨s1,⟨v',rfl⟩,tw⟩;obtain⟨r,rfl,hr'⟩:=vO hv;refine⟨_,rfl,dA,fun t ht=>⟨s1.trans (aB ht _),⟨_,rfl⟩,?_⟩⟩;rw[bE hr',cy];exact dL.append (tw.mono fun _ _ z=>kX.ts (.of (aB ht _)) z) ⟨⟨t,rfl,aC⟩,trivial⟩
 ·rintro zs σ G ⟨s1,_,tw⟩ l hl';rw[bD,dk] at tw;exact k l zs _ (s1.trans (aB hl' _)) aC (tw.mono fun _ _ z=>kX.ts (.of (aB hl' _)) z)
theorem bZ6(C_AsS:Cl P w K mg base 1 spAsS "as_steps"):eQ P w K mg base "inner_steps" "inner_steps" cJ1 2 ["row"] spInner:=by
 refine fS ["row"] fun H Q nd hr h=>?_
 obtain⟨r,rfl,hr0,hc,k⟩:=h;refine⟨_,(aF (bL (fY cA (bK aG (pv 0) aD) aJ) (aE (aM (aL jZ (aL jZ (aL jZ (bN C_AsS hr (aP (bK aG (pv 0) aD))) (bJ (aP (aV (aA aJ (aP (pv 0))))))) (bN C_AsS hr (aP (bK aG (pv 0) aD)))) (bJ (aP (aV (aA aJ (aP (pv 0))))))))) aX)
  (aF (bL (fY cA (bK aG (pv 0) aD) aJ) (aE (aM (aL jZ (bN C_AsS hr (aP (bK aG (pv 0) aD))) (bJ (aP (aV (aA aJ (aP (pv 0))))))))) aX)
  (aE (aM (bJ bS))))),?_⟩
 refine⟨_,rfl,r.p,_,_,.str r.w,rfl,rfl,aU.of hr0.at,iV,rfl,_,rfl,?_⟩;have ln:=iP r.kids;have ck:=aO3 r;generalize hP:r.p=P
 cases r with
 |when p pa pb t a b =>
  obtain rfl:p=P:=hP;refine bI (ag rfl) ?_;have la:a.length+b.length<=4000:=by simp only[Rw.kids,List.length_append] at ln ck;lia
  obtain⟨hp,_,_,ha,hb,ra,rb⟩:=id hr0;refine⟨_,rfl,p,_,_,.ref pa,rfl,rfl,aU.of hp,rfl,pa,a,rfl,ha,by lia,fun r1 z1 H1 s1 h1 t1=>?_⟩;refine⟨_,rfl,dA,fun t2 ht2=>⟨jT,fun l2 hl2=>?_⟩⟩;have s2:=(aB ht2 (.tup [.str "else",.ref p])).trans (aB hl2 (.lst [.ref t2]));have h2:aO (aO H1 t2 (.tup [.str "else",.ref p])) l2 (.lst [.ref t2]) l2=some (.lst [.ref t2]):=aC;have e2:kX (aO (aO H1 t2 (.tup [.str "else",.ref p])) l2 (.lst [.ref t2])) (.ref t2) (("else": Str),Rw.when p pa pb t a b):=⟨t2,rfl,(aB hl2 _) _ _ aC⟩
  generalize aO (aO H1 t2 (.tup [.str "else",.ref p])) l2 (.lst [.ref t2])=H2 at s2 h2 e2 ⊢;have l1:=t1.length;rw[ae] at l1;refine⟨r1,l2,_,_,rfl,rfl,s2 _ _ h1,h2,cu (iY (by rw[l1];show a.length+1<=9000000;lia)),fun l3 hl3=>?_⟩;have s3:=s2.trans (aB hl3 (.lst (z1++[.ref t2])));have h3:aO H2 l3 (.lst (z1++[.ref t2])) l3=some (.lst (z1++[.ref t2])):=aC;have t3:dL (kX (aO H2 l3 (.lst (z1++[.ref t2])))) (z1++[.ref t2]) (a.map (fun r=>(("row": Str),r))++[(("else": Str),Rw.when p pa pb t a b)]):=dL.append (t1.mono fun _ _ z=>kX.ts (.of s3) z) ⟨e2.ts (.of (aB hl3 _)),trivial⟩;generalize aO H2 l3 (.lst (z1++[.ref t2]))=H3 at s3 h3 t3 ⊢;have g3:=s1.trans s3;refine⟨_,rfl,p,_,_,.ref pb,rfl,rfl,aU.of (g3 _ _ hp),rfl,pb,b,rfl,g3 _ _ hb,by lia,fun r4 z4 H4 s4 h4 t4=>?_⟩;have l4:=t4.length;rw[ae] at l4;refine⟨l3,r4,_,_,rfl,rfl,s4 _ _ h3,h4,cu (iY (by simp only[List.length_append,List.length_cons,List.length_nil,l1,l4];lia)),fun l5 hl5=>?_⟩
  have s5:=s4.trans (aB hl5 (.lst (z1++[.ref t2]++z4)));have h5:aO H4 l5 (.lst (z1++[.ref t2]++z4)) l5=some (.lst (z1++[.ref t2]++z4)):=aC;have t5:=dL.append (t3.mono fun _ _ z=>kX.ts (.of s5) z) (t4.mono fun _ _ z=>kX.ts (.of (aB hl5 (.lst (z1++[.ref t2]++z4)))) z);generalize aO H4 l5 (.lst (z1++[.ref t2]++z4))=H5 at s5 h5 t5 ⊢;refine⟨_,rfl,dA,fun t6 ht6=>⟨jT,fun l6 hl6=>?_⟩⟩;have s6:=(aB ht6 (.tup [.str "end",.ref p])).trans (aB hl6 (.lst [.ref t6]));have h6:aO (aO H5 t6 (.tup [.str "end",.ref p])) l6 (.lst [.ref t6]) l6=some (.lst [.ref t6]):=aC;have e6:kX (aO (aO H5 t6 (.tup [.str "end",.ref p])) l6 (.lst [.ref t6])) (.ref t6) (("end": Str),Rw.when p pa pb t a b):=⟨t6,rfl,(aB hl6 _) _ _ aC⟩
  generalize aO (aO H5 t6 (.tup [.str "end",.ref p])) l6 (.lst [.ref t6])=H6 at s6 h6 e6 ⊢;refine⟨l5,l6,_,_,rfl,rfl,s6 _ _ h5,h6,cu (iY (by simp only[List.length_append,List.length_cons,List.length_nil];lia)),fun l7 hl7=>?_⟩;refine k l7 _ _ (g3.trans (s5.trans (s6.trans (aB hl7 _)))) aC ?_;exact dL.append (t5.mono fun _ _ z=>kX.ts (.of (s6.trans (aB hl7 _))) z) ⟨e6.ts (.of (aB hl7 _)),trivial⟩
 |times p pb n b =>
  obtain rfl:p=P:=hP;refine aW (fun z=>wTW (af z)) ?_;refine⟨_,rfl,p,_,_,.str "times",rfl,rfl,aU.of hr0.at,iV,rfl,_,rfl,?_⟩;refine bI (ag rfl) ?_;have la:b.length<=4000:=by simp only[Rw.kids] at ln ck;lia
  obtain⟨hp,hb,rb⟩:=id hr0;refine⟨_,rfl,p,_,_,.ref pb,rfl,rfl,aU.of hp,rfl,pb,b,rfl,hb,by lia,fun r1 z1 H1 s1 h1 t1=>?_⟩;refine⟨_,rfl,dA,fun t2 ht2=>⟨jT,fun l2 hl2=>?_⟩⟩;have s2:=(aB ht2 (.tup [.str "end",.ref p])).trans (aB hl2 (.lst [.ref t2]));have h2:aO (aO H1 t2 (.tup [.str "end",.ref p])) l2 (.lst [.ref t2]) l2=some (.lst [.ref t2]):=aC;have e2:kX (aO (aO H1 t2 (.tup [.str "end",.ref p])) l2 (.lst [.ref t2])) (.ref t2) (("end": Str),Rw.times p pb n b):=⟨t2,rfl,(aB hl2 _) _ _ aC⟩
  generalize aO (aO H1 t2 (.tup [.str "end",.ref p])) l2 (.lst [.ref t2])=H2 at s2 h2 e2 ⊢;have l1:=t1.length;rw[ae] at l1;refine⟨r1,l2,_,_,rfl,rfl,s2 _ _ h1,h2,cu (iY (by rw[l1];show b.length+1<=9000000;lia)),fun l3 hl3=>?_⟩;refine k l3 _ _ (s1.trans (s2.trans (aB hl3 _))) aC ?_;exact dL.append (t1.mono fun _ _ z=>kX.ts (.of (s2.trans (aB hl3 _))) z) ⟨e2.ts (.of (aB hl3 _)),trivial⟩
 |thr p w x vs am =>
  obtain rfl:p=P:=hP;have hw:=hr0.2.w;refine aW (fun z=>bY8 hw (af z)) ?_;refine⟨_,rfl,p,_,_,.str w,rfl,rfl,aU.of hr0.at,iV,rfl,_,rfl,?_⟩;refine aW (fun z=>bR1 hw (af z)) ?_;exact⟨bo _,fun l hl=>k l [] _ (aB hl _) aC trivial⟩
 |lt p x t =>
  obtain rfl:p=P:=hP;refine aW (fun z=>wLW (af z)) ?_;refine⟨_,rfl,p,_,_,.str "let",rfl,rfl,aU.of hr0.at,iV,rfl,_,rfl,?_⟩;refine aW (fun z=>wLT (af z)) ?_;exact⟨bo _,fun l hl=>k l [] _ (aB hl _) aC trivial⟩
 |tell p t =>
  obtain rfl:p=P:=hP;refine aW (fun z=>wEW (af z)) ?_;refine⟨_,rfl,p,_,_,.str "tell",rfl,rfl,aU.of hr0.at,iV,rfl,_,rfl,?_⟩;refine aW (fun z=>wET (af z)) ?_;exact⟨bo _,fun l hl=>k l [] _ (aB hl _) aC trivial⟩
theorem bR2  : eQ P w K mg base "has_one_sum" "has_one_sum" cD6 1 ["sort"] spOne4:=by
 refine fS ["sort"] fun H Q nd hr h=>?_
 obtain⟨T,rfl,k⟩:=h;refine⟨_,(aE (aM (pec eX (pv 0) (aV (aA aJ (aP aJ)))))),?_⟩;refine⟨_,rfl,dA,fun t ht=>⟨t,[.str "ladder",.str "flat"],rfl,.inr (aU.of aC),rfl,rfl,?_⟩⟩;show Q (.bl (yL (V.str T.wd) [.str "ladder",.str "flat"])) _;rw[bR4];exact k _ (aB ht _)
theorem bR6  : eQ P w K mg base "place_of_sums" "place_of_sums" cJ3 1 ["sort"] spPlc4:=by
 refine fS ["sort"] fun H Q nd hr h=>?_
 obtain⟨T,rfl,k⟩:=h;refine⟨_,(aE (aM (nN (fY cA (pv 0) aJ) aD aD))),?_⟩;refine⟨_,rfl,rfl,_,rfl,?_⟩
 by_cases c:T.wd="first"
 ·rw[bv c] at k;exact bI (by rw[c];exact ag rfl) k
 ·rw[ay c] at k;exact aW (fun z=>c (by have z:=af z;injection z)) k
theorem bQ1(C_Plc:Cl P w K mg base 1 spPlc4 "place_of_sums")(C_One:Cl P w K mg base 1 spOne4 "has_one_sum"):eQ P w K mg base "sums_of" "sums_of" cD9 2 ["row"] spSumT:=by
 refine fS ["row","asked"] fun H Q nd hr h=>?_
 obtain⟨p,w,x,us,d,rfl,hr0,k⟩:=h;refine⟨_,(dX 1 nd (bK aG (pv 0) (bN C_Plc hr (aP (bK aG (pv 0) aD))))
  (aE (aM (nN (iI (bN C_One hr (aP (bK aG (pv 0) aD)))) (aV (aP (pv 1))) (pv 1))))),?_⟩
 obtain⟨hp,ok⟩:=hr0;have ev:=ok.vs;subst ev;have ew:=ok.wd;subst ew;obtain⟨a,ha,so⟩:=bH4 ok.at' (x:=x);refine⟨_,rfl,_,rfl,p,_,_,_,rfl,rfl,aU.of hp,iV,d.T,rfl,p,_,_,_,rfl,rfl,aU.of hp,ha,?_⟩;refine⟨_,rfl,p,_,_,_,rfl,rfl,aU.of hp,iV,d.T,rfl,fun H1 s1=>⟨_,rfl,?_⟩⟩;rcases so with⟨e,w,ws,rfl,hws,ew⟩|⟨e,sm,us,rfl,hsm,tw⟩
 ·refine bI e ?_;exact⟨_,rfl,jT,fun t ht=>k _ t _ (s1.trans (aB ht _)) aC (by rw[ew];exact⟨⟨w,rfl,(s1.trans (aB ht _)) _ _ hws⟩,trivial⟩)⟩
 ·refine aW (by rw[e];decide) ?_;exact⟨_,rfl,k _ sm us s1 (s1 _ _ hsm) (tw.mono fun _ _ z=>z.ts (.of s1))⟩
theorem bQ4  : eQ P w K mg base "common_divisor" "common_divisor" cC7 1 ["one","other"] spGcd:=by
 refine fS ["one","other","remainder"] fun H Q nd hr h=>?_
 obtain⟨a,b,rfl,ha,hb,k⟩:=h;refine⟨_,(aF (iJ jg (fY aZ0 (pv 1) aD)
  (dX 2 nd (aL iG (pv 0) (pv 1))
  (dX 0 nd (pv 1)
  (aE (psz 1 nd (pv 2))))))
  (aE (aM (pv 0)))),?_⟩
 refine⟨fun j σ H1=>H1=H/\∃(x y:Int) (r:Option V),σ=[some (.int x),some (.int y),r]/\0<=x/\0<=y/\gI x y=gI a b/\j=y.toNat,⟨_,rfl,a,b,none,rfl,ha,hb,rfl,rfl⟩,?_⟩;rintro j σ H1 ⟨rfl,x,y,r,rfl,hx,hy,hg,rfl⟩;refine⟨_,rfl,rfl,_,rfl,?_⟩
 by_cases y0:y=0
 ·subst y0;refine cC6 rfl ⟨_,rfl,?_⟩;rw[<-hg,aH9 hx] at k;exact k
 ·have yp:0<y:=by lia
  have e:(!decide (V.int y=V.int 0))=true:=by simp[y0]
  rw[e];refine⟨fun σ' H'=>H'=H1/\∃r',σ'=[some (.int y),some (.int (x % y)),r'],fun σ' H' ⟨e1,r',e2⟩=>⟨(x % y).toNat,?_,e1,y,x % y,r',e2,hy,jo _ y0,(xE hx yp).trans hg,rfl⟩,?_⟩
  ·have:=jt x yp;have:=jo x y0;lia
  ·exact⟨_,rfl,_,rfl,_,_,rfl,rfl,yp,_,rfl,_,rfl,rfl,_,rfl⟩
theorem bQ6(C_Gcd:Cl P w K mg base 1 spGcd "common_divisor"):eQ P w K mg base "lowest" "lowest" cF6 2 ["top","bottom"] spLowX:=by
 refine fS ["top","bottom","divisor"] fun H Q nd hr h=>?_
 obtain⟨a,b,rfl,ha,hb,hz,k⟩:=h;refine⟨_,(dX 2 nd (bN C_Gcd hr (aA (pv 0) (aP (pv 1))))
  (aE (aM (aV (aA (aL xP (pv 0) (pv 2)) (aP (aL xP (pv 1) (pv 2)))))))),?_⟩
 have g0:0<gI a b:=vQ hb;obtain⟨n,hn,hn2⟩:=hz;have g1:∃n,bT n (gI a b)/\n<=8990:=⟨n,cq (by have:=bM2 (a:=a) hb;lia) hn,hn2⟩
 refine⟨_,rfl,_,rfl,a,b,rfl,ha,by lia,?_⟩;exact⟨_,rfl,_,rfl,_,_,rfl,rfl,⟨g0,g1⟩,_,rfl,_,rfl,_,_,rfl,rfl,⟨g0,g1⟩,dA,fun p hp=>k p hp⟩
theorem bP9(C_Low:Cl P w K mg base 2 spLowX "lowest"):eQ P w K mg base "added" "added" cD1 3 ["one","other"] (aC6 K):=by
 refine fS ["one","other"] fun H Q nd hr h=>?_
 obtain⟨p,q,⟨a,b⟩,⟨c,d⟩,rfl,hp,hq,fu,fe,k⟩:=h;refine⟨_,(aE (aM (bN C_Low hr (aA (aL bV (aL eZ (bK aG (pv 0) aD) (bK aG (pv 1) aD)) (aL eZ (bK aG (pv 1) aD) (bK aG (pv 0) aD))) (aP (aL eZ (bK aG (pv 0) aD) (bK aG (pv 1) aD))))))),?_⟩;have bd:0<b*d:=jj (show 0<b by have:=fu.b;exact this) (show 0<d by have:=fe.b;exact this);have m1:0<=a*d:=de fu.a (yo (by decide) fe.b);have m2:0<=c*b:=de fe.a (yo (by decide) fu.b);refine⟨_,rfl,p,_,_,_,rfl,rfl,hp,ix0 a b,_,rfl,q,_,_,_,rfl,rfl,hq,yU c d,_,_,rfl,rfl,⟨1000,1000,fu.ba,fe.bb,by decide,by decide⟩,?_⟩;refine⟨_,rfl,q,_,_,_,rfl,rfl,hq,ix0 c d,_,rfl,p,_,_,_,rfl,rfl,hp,yU a b,_,_,rfl,rfl,⟨1000,1000,fe.ba,fu.bb,by decide,by decide⟩,_,_,rfl,rfl,?_⟩;refine⟨_,rfl,p,_,_,_,rfl,rfl,hp,yU a b,_,rfl,q,_,_,_,rfl,rfl,hq,yU c d,_,_,rfl,rfl,⟨1000,1000,fu.bb,fe.bb,by decide,by decide⟩,?_⟩;exact⟨_,_,rfl,Int.add_nonneg m1 m2,bd,⟨1000+1000,bT.mul fu.bb fe.bb,by decide⟩,k⟩
theorem bS0(C_Low:Cl P w K mg base 2 spLowX "lowest"):eQ P w K mg base "times" "times" cB9 3 ["one","other"] (pB K):=by
 refine fS ["one","other"] fun H Q nd hr h=>?_
 obtain⟨p,q,⟨a,b⟩,⟨c,d⟩,rfl,hp,hq,fu,fe,k⟩:=h;refine⟨_,(aE (aM (bN C_Low hr (aA (aL eZ (bK aG (pv 0) aD) (bK aG (pv 1) aD)) (aP (aL eZ (bK aG (pv 0) aD) (bK aG (pv 1) aD))))))),?_⟩;have bd:0<b*d:=jj (show 0<b by have:=fu.b;exact this) (show 0<d by have:=fe.b;exact this);refine⟨_,rfl,p,_,_,_,rfl,rfl,hp,ix0 a b,_,rfl,q,_,_,_,rfl,rfl,hq,ix0 c d,_,_,rfl,rfl,⟨1000,1000,fu.ba,fe.ba,by decide,by decide⟩,?_⟩;refine⟨_,rfl,p,_,_,_,rfl,rfl,hp,yU a b,_,rfl,q,_,_,_,rfl,rfl,hq,yU c d,_,_,rfl,rfl,⟨1000,1000,fu.bb,fe.bb,by decide,by decide⟩,?_⟩;exact⟨_,_,rfl,de fu.a fe.a,bd,⟨1000+1000,bT.mul fu.bb fe.bb,by decide⟩,k⟩
theorem aW3(C_Low:Cl P w K mg base 2 spLowX "lowest"):eQ P w K mg base "minus" "minus" aU3 3 ["one","other"] spMinus:=by
 refine fS ["one","other"] fun H Q nd hr h=>?_
 obtain⟨p,q,a,b,c,d,rfl,hp,hq,ha,hb,hc,hd,b1,d1,hle,k⟩:=h;refine⟨_,(aE (aM (bN C_Low hr (aA (aL fH (aL vS (bK aG (pv 0) aD) (bK aG (pv 1) aD)) (aL vS (bK aG (pv 1) aD) (bK aG (pv 0) aD))) (aP (aL vS (bK aG (pv 0) aD) (bK aG (pv 1) aD))))))),?_⟩;have m2:=vN hb.1 hb.2 hd.1 hd.2;have m3:1<=b*d:=by have:=jj (show 0<b by lia) (show 0<d by lia);lia
 refine⟨_,rfl,p,_,_,_,rfl,rfl,aU.of hp,ix0 a b,_,rfl,q,_,_,_,rfl,rfl,aU.of hq,yU c d,_,_,rfl,rfl,⟨ha.below,hd.below⟩,?_⟩;refine⟨_,rfl,q,_,_,_,rfl,rfl,aU.of hq,ix0 c d,_,rfl,p,_,_,_,rfl,rfl,aU.of hp,yU a b,_,_,rfl,rfl,⟨hc.below,hb.below⟩,_,_,rfl,rfl,?_⟩;refine⟨_,rfl,p,_,_,_,rfl,rfl,aU.of hp,yU a b,_,rfl,q,_,_,_,rfl,rfl,aU.of hq,yU c d,_,_,rfl,rfl,⟨hb.below,hd.below⟩,?_⟩;exact⟨_,_,rfl,by lia,m3,⟨180+180,bT.of m2.1 m2.2,by decide⟩,k⟩
theorem bP8  : eQ P w K mg base "less" "less" cA7 1 ["one","other"] (uW K):=by
 refine fS ["one","other"] fun H Q nd hr h=>?_
 obtain⟨p,q,⟨a,b⟩,⟨c,d⟩,rfl,hp,hq,fu,fe,k⟩:=h;refine⟨_,(aE (aM (pec pP (aL eZ (bK aG (pv 0) aD) (bK aG (pv 1) aD)) (aL eZ (bK aG (pv 1) aD) (bK aG (pv 0) aD))))),?_⟩;refine⟨_,rfl,p,_,_,_,rfl,rfl,hp,ix0 a b,_,rfl,q,_,_,_,rfl,rfl,hq,yU c d,_,_,rfl,rfl,⟨1000,1000,fu.ba,fe.bb,by decide,by decide⟩,?_⟩;exact⟨_,rfl,q,_,_,_,rfl,rfl,hq,ix0 c d,_,rfl,p,_,_,_,rfl,rfl,hp,yU a b,_,_,rfl,rfl,⟨1000,1000,fe.ba,fu.bb,by decide,by decide⟩,_,_,rfl,rfl,k⟩
theorem bR9(m_range:mg "range"=none):eQ P w K mg base "power" "power" cF5 1 ["one","k"] (rO K):=by
 refine fS ["one","k","top","bottom","step"] fun H Q nd hr h=>?_
 obtain⟨p,⟨a,b⟩,n,rfl,hp,ba,bb,n0,n1,k⟩:=h;refine⟨_,(dX 2 nd aD
  (dX 3 nd aD
  (aF (pfr (eB (by rfl) m_range (aP (pv 1))) (gG 4 nd)
  (dX 2 nd (aL eZ (pv 2) (bK aG (pv 0) aD))
  (aE (psz 3 nd (aL eZ (pv 3) (bK aG (pv 0) aD))))))
  (aE (aM (aV (aA (pv 2) (aP (pv 3))))))))),?_⟩
 refine⟨_,rfl,_,rfl,by lia,by lia,jJ (n:=n.toNat) (fun i σ H1=>H1=H/\∃v,σ=[some (.ref p),some (.int n),some (.int (a^i)),some (.int (b^i)),v])
  ⟨rfl,none,by rw[mq,mq];rfl⟩ ?_ ?_⟩
 ·rintro i σ H1 hi ⟨rfl,v,rfl⟩;have i21:1000*i+1<=100000:=by lia
  refine⟨_,rfl,_,rfl,p,_,_,_,rfl,rfl,hp,ix0 a b,_,_,rfl,rfl,⟨1000*i+1,1000,bT.pow ba i,ba,i21,by decide⟩,?_⟩;refine⟨_,rfl,_,rfl,p,_,_,_,rfl,rfl,hp,yU a b,_,_,rfl,rfl,⟨1000*i+1,1000,bT.pow bb i,bb,i21,by decide⟩,?_⟩;refine⟨rfl,some (.int (0+(i:Int))),?_⟩;rw[js,js];rfl
 ·rintro σ H1 ⟨rfl,v,rfl⟩;exact⟨_,rfl,_,rfl,dA,fun r hr'=>k r hr'⟩
theorem bY6(C_Tms:Cl P w K mg base 3 (pB K) "times")(C_Pow:Cl P w K mg base 1 (rO K) "power"):eQ P w K mg base "far_tail" "far_tail" cG6 4 ["steepness","k"] (aU5 0 21 (fun p q k=>vZ p q k.toNat) (fun p q k=>sS p q k.toNat)):=by
 refine fS ["steepness","k"] fun H Q nd hr h=>?_
 obtain⟨st,p,q,n,rfl,hst,hs,n0,n1,k⟩:=h;refine⟨_,(aE (aM (bN C_Tms hr (aA (aV (aA (bK aG (pv 0) aD) (aP (aL bV (bK aG (pv 0) aD) (bK aG (pv 0) aD))))) (aP (bN C_Pow hr (aA (pv 0) (aP (pv 1))))))))),?_⟩;obtain⟨p1,pq,q9⟩:=id hs;refine⟨_,rfl,st,_,_,_,rfl,rfl,aU.of hst,yU p q,_,rfl,st,_,_,_,rfl,rfl,aU.of hst,yU p q,_,rfl,st,_,_,_,rfl,rfl,aU.of hst,ix0 p q,_,_,rfl,rfl,dA,fun t ht=>?_⟩;have g1:aR H (aO H t (.tup [.int q,.int (q+p)])):=aB ht _;have ht1:fW (aO H t (.tup [.int q,.int (q+p)])) t q (q+p):=aC;generalize aO H t (.tup [.int q,.int (q+p)])=H1 at g1 ht1 ⊢;refine⟨_,rfl,_,rfl,st,(p,q),n,rfl,cH.of (g1 _ _ hst),(b4 (by lia) (by lia)).mono (by decide),(b4 (by lia) (by lia)).mono (by decide),n0,n1,fun r hr'=>?_⟩;have g2:aR H1 (aO H1 r (.tup [.int (p^n.toNat),.int (q^n.toNat)])):=aB hr' _;have hr2:fW (aO H1 r (.tup [.int (p^n.toNat),.int (q^n.toNat)])) r (p^n.toNat) (q^n.toNat):=aC
 generalize aO H1 r (.tup [.int (p^n.toNat),.int (q^n.toNat)])=H2 at g2 hr2 ⊢;have e1:=bI5 (a:=p) (n:=n.toNat) (by lia) (by lia) (by lia);have e2:=bI5 (a:=q) (n:=n.toNat) (by lia) (by lia) (by lia);have e3:1<=q^n.toNat:=pw1 (by lia) _;have f1:fV 1000 (q,q+p):=⟨show 0<=q by lia,show 1<=q+p by lia,(bT.of (n:=5) (show 0<=q by lia) (by lia)).mono (by decide),(bT.of (n:=5) (show 0<=q+p by lia) (by lia)).mono (by decide)⟩
 have f2:fV 1000 (p^n.toNat,q^n.toNat):=⟨e1.1,e3,(bT.of e1.1 e1.2).mono (by decide),(bT.of e2.1 e2.2).mono (by decide)⟩
 refine⟨t,r,(q,q+p),(p^n.toNat,q^n.toNat),rfl,cH.of (g2 _ _ ht1),cH.of hr2,f1,f2,fun u hu'=>?_⟩;exact k _ u (g1.trans (g2.trans (aB hu' _))) aC
theorem bI7(C_Minus:Cl P w K mg base 3 spMinus "minus")(C_Far:Cl P w K mg base 4 (aU5 0 21 (fun p q k=>vZ p q k.toNat) (fun p q k=>sS p q k.toNat)) "far_tail"):eQ P w K mg base "tail_of" "tail_of" bN5 5 ["steepness","k"] (aU5 (-20) 21 tN tD):=by
 refine fS ["steepness","k"] fun H Q nd hr h=>?_
 obtain⟨st,p,q,n,rfl,hst,hs,n0,n1,k⟩:=h;refine⟨_,(aF (bL (fY aI0 (pv 1) aD) (aE (aM (bN C_Far hr (aA (pv 0) (aP (pv 1)))))) aX)
  (aE (aM (bN C_Minus hr (aA (aV (aA aD (aP aD))) (aP (bN C_Far hr (aA (pv 0) (aP (aL fH aD (pv 1))))))))))),?_⟩
 obtain⟨p1,pq,q9⟩:=id hs;refine⟨_,rfl,_,_,rfl,rfl,_,rfl,?_⟩;refine pH (fun c=>?_) (fun c=>?_)
 ·have c0:0<=n:=af c;refine⟨_,rfl,_,rfl,st,p,q,n,rfl,hst,hs,c0,n1,fun H' r s t=>k H' r s ?_⟩;unfold tN tD;simp only[if_pos c0];exact t
 ·have c0:¬0<=n:=fun z=>c (ag z)
  refine⟨dA,fun t ht=>?_⟩;have g1:aR H (aO H t (.tup [.int 1,.int 1])):=aB ht _;have ht1:fW (aO H t (.tup [.int 1,.int 1])) t 1 1:=aC;generalize aO H t (.tup [.int 1,.int 1])=H1 at g1 ht1 ⊢;refine⟨_,rfl,_,rfl,_,_,rfl,rfl,st,p,q,1-n,rfl,g1 _ _ hst,hs,by lia,by lia,fun H2 r g2 hr2'=>?_⟩;have hr2:fW H2 r (dW (vZ p q (1-n).toNat) (sS p q (1-n).toNat)) (dE (vZ p q (1-n).toNat) (sS p q (1-n).toNat)):=hr2';have bd:=cH7 hs (n:=(1-n).toNat) (by lia);have sp:=aE6 p1 pq (1-n).toNat;have lb:=bR3 bd.2.2 bd.2.1 sp;have l1:=jR (a:=vZ p q (1-n).toNat) sp;have l2:=bT6 (aD9 p1 pq (1-n).toNat) sp;refine⟨t,r,1,1,_,_,rfl,g2 _ _ ht1,hr2,⟨by decide,by decide⟩,⟨by decide,by decide⟩,lb.1,lb.2,by decide,l1,by lia,fun u hu'=>?_⟩;refine k _ u (g1.trans (g2.trans (aB hu' _))) ?_;have rt:=oO (a:=vZ p q (1-n).toNat) (b:=sS p q (1-n).toNat) bd.2.2.1 sp;have e:=zJ (a:=1*dE (vZ p q (1-n).toNat) (sS p q (1-n).toNat)-dW (vZ p q (1-n).toNat) (sS p q (1-n).toNat)*1) (b:=1*dE (vZ p q (1-n).toNat) (sS p q (1-n).toNat))
   (c:=sS p q (1-n).toNat-vZ p q (1-n).toNat) (d:=sS p q (1-n).toNat) (by lia) (by lia) (by have:=aD9 p1 pq (1-n).toNat;lia) sp (by
    generalize dE (vZ p q (1-n).toNat) (sS p q (1-n).toNat)=y at rt ⊢;generalize dW (vZ p q (1-n).toNat) (sS p q (1-n).toNat)=x at rt ⊢
    grind)
  unfold tN tD;simp only[if_neg c0];rw[<-e.1, <-e.2];exact aC
theorem bT0(C_Pow:Cl P w K mg base 1 (rO K) "power"):eQ P w K mg base "turned_power" "turned_power" cJ5 2 ["steepness","k"] spTPow:=by
 refine fS ["steepness","k"] fun H Q nd hr h=>?_
 obtain⟨st,p,q,n,rfl,hst,hs,n0,n6,k⟩:=h;refine⟨_,(aE (aM (bN C_Pow hr (aA (aV (aA (bK aG (pv 0) aD) (aP (bK aG (pv 0) aD)))) (aP (pv 1)))))),?_⟩;obtain⟨p1,pq,q9⟩:=id hs;refine⟨_,rfl,st,_,_,_,rfl,rfl,aU.of hst,yU p q,_,rfl,st,_,_,_,rfl,rfl,aU.of hst,ix0 p q,dA,fun t ht=>?_⟩;have s1:=aB ht (.tup [.int q,.int p]);have h1:fW (aO H t (.tup [.int q,.int p])) t q p:=aC;generalize aO H t (.tup [.int q,.int p])=H1 at s1 h1 ⊢;refine⟨_,rfl,t,(q,p),n,rfl,cH.of h1,(b4 (by lia) (by lia)).mono (by decide),(b4 (by lia) (by lia)).mono (by decide),n0,by lia,fun r hr'=>?_⟩;exact k _ r (s1.trans (aB hr' _)) aC
theorem bX8{cF cF0 cF1:Addr}(m_FREE:mg "FREE"=some (.ref cF))(hF:∀H,aU K H cF [.ref cF0,.ref cF1]/\cH K H cF0 (1,1)/\cH K H cF1 (0,1))(C_Tms:Cl P w K mg base 3 (pB K) "times")(C_TPw:Cl P w K mg base 2 spTPow "turned_power")(C_Low:Cl P w K mg base 2 spLowX "lowest")(C_Tail:Cl P w K mg base 5 (aU5 (-20) 21 tN tD) "tail_of")(C_Sms:Cl P w K mg base 2 spSumT "sums_of")(m_max:mg "max"=none)(m_min:mg "min"=none):eQ P w K mg base "price_of_throw" "price_of_throw" cD0 6 ["row","kind"] (aS4 K):=by
 refine fS ["row","kind","weight","moves","factor"] fun H Q nd hr h=>?_
 obtain⟨p,w,x,us0,d,kn,rfl,hr0,hkd,k⟩:=h;have hr2:cY 2 _:=hr.mono (by decide);have hr5:cY 5 _:=hr.mono (by decide);refine⟨_,(dX 2 nd (tL aA0 m_max qo (aP (cU ["weights","kind"] [none,some 1] (vP (bN C_Sms hr (aP (pv 0)))) (fun _ _ _ _=>(gG 0)) (fun _ _ _ _=>eS) (fun _ _ _ _=>(bK (oW K) (pv 0) (pv 1))))))
  (aF (bL (fY cA (pv 2) aD) (aE (aM (pgl m_FREE))) aX)
  (aF (bL (fY cA (bK aG (pv 0) aD) aJ) (dX 3 nd (aL bV (aL eR aD (bK aG (pv 0) aD)) aD)
  (aE (aM (aV (aA (bK aG (pgl m_FREE) aD) (aP (bN C_Low hr (aA (tL (aI8 rfl) m_min PyProof.Rows.boot_min (aA (pv 2) (aP (pv 3)))) (aP (pv 3)))))))))) aX)
  (aF (bL (fY cA (bK aG (pv 0) aD) aJ) (dX 4 nd (bN C_Tms hr (aA (bN C_TPw hr (aA (bK aG (pv 0) aD) (aP (pv 2)))) (aP (bN C_TPw hr (aA (bK aG (pv 0) aD) (aP (aL eR aD (pv 2))))))))
  (aE (aM (aV (aA (pv 4) (aP (bN C_Tail hr (aA (bK aG (pv 0) aD) (aP (aL fH (aL fH (bK aG (pv 0) aD) (pv 2)) (bK aG (pv 0) aD))))))))))) aX)
  (aE (aM (aV (aA (bN C_TPw hr (aA (bK aG (pv 0) aD) (aP (pv 2)))) (aP (bK aG (pgl m_FREE) aD)))))))))),?_⟩
 obtain rfl:=hr0.2.vs;refine⟨_,rfl,p,w,x,d.vs,d,rfl,hr0,fun H1 t us s1 ht tw=>⟨t,rfl,⟨_,aU.of ht⟩,yS (xs:=us) (fun i zs σ G=>G=H1/\(∃v,σ=[v,some (.int kn)])/\zs=((d.wss.map fun ws=>ws.getD kn 0).take i).map V.int)
  (aN (by have:=tw.length;have:=hr0.2.ws.l4;lia)) ⟨rfl,⟨_,rfl⟩,rfl⟩ (by rintro i zs σ G ⟨_,_,e⟩;rw[e,ae,du];lia) (by rintro i zs σ G _ ⟨e,_⟩;rw[e];exact aU.of ht) ?_ ?_⟩⟩
 ·rintro j y zs σ _ hy ⟨rfl,⟨v,rfl⟩,rfl⟩;obtain⟨ws,hws,aw,rfl,hia⟩:=iZ tw hy;have lw:=(hr0.2.ws.ws ws (bj hws)).1;refine⟨_,rfl,_,rfl,aw,_,_,_,rfl,rfl,aU.of hia,kC (cI2 (by lia)),rfl,⟨_,rfl⟩,?_⟩;have e:(d.wss.map fun ws=>ws.getD kn 0)[j]?=some (ws.getD kn 0):=by rw[cm,hws];rfl
  rw[bE e,cy];rfl
 rintro zs σ Gx ⟨ex,_,rfl⟩ l9 hl9;replace ex:=ex.symm;subst ex;rw[bL8 tw];refine⟨l9,_,rfl,bG.of aC,bP0 hr0.2.ws kn,fun wI hin hbd=>?_⟩;have s2:=s1.trans (aB hl9 (.lst ((d.wss.map fun ws=>ws.getD kn 0).map V.int)));generalize aO H1 l9 (.lst ((d.wss.map fun ws=>ws.getD kn 0).map V.int))=H2 at s2 ⊢;have ew:=cE2 hr0.2.ws hin hbd;have w03:=bM9 hr0.2.ws kn;clear hin hbd hl9 tw ht s1;subst ew;generalize ewk:wK d kn=wI at w03 k ⊢;obtain⟨w0,w3⟩:=w03;refine⟨_,rfl,rfl,_,rfl,?_⟩
 by_cases c0:wI=0
 ·refine bI (by rw[c0];exact ag rfl) ?_;refine k _ _ s2 ?_;unfold pW;rw[bv c0];exact⟨cF,cF0,cF1,rfl,(hF _).1,(hF _).2.1,(hF _).2.2⟩
 refine aW (fun z=>c0 (by have z:=af z;injection z)) ?_;have hr2:=dO.ts (.of s2) _ hr0;obtain⟨hp,ok⟩:=hr2;have ewd:=ok.wd;have vat:=ok.at';have tok:=ok.ok;have kk:∀H' v,aR H2 H'->fL K H' v (pW d.T wI)->Q v H':=fun H' v s=>k H' v (s2.trans s)
 clear k hr0 ok s2 hkd ewk;unfold pW at kk;rw[ay c0] at kk;obtain⟨vs,T,wss,kd⟩:=d;replace hp:H2 p=some (.tup (.str w :: .str x::vs)):=hp;subst ewd
 cases T with
 |fla r lo hi =>
  obtain⟨wa,ws,e,_,_⟩:=vat;replace e:vs=_:=e;subst e;obtain⟨r0,r4⟩:=tok;replace r0:0<=r:=r0;replace r4:r<=4:=r4;refine⟨_,rfl,p,_,_,_,rfl,rfl,aU.of hp,rfl,rfl,_,rfl,bI (ag rfl) ?_⟩;refine⟨_,rfl,p,_,_,_,rfl,rfl,aU.of hp,rfl,_,_,rfl,rfl,.inl ⟨by decide,by decide⟩,_,_,rfl,rfl,?_⟩;have m0:0<=(if 2*r+1<wI then 2*r+1 else wI):=by split<;>lia
  refine⟨cF,_,_,_,rfl,rfl,(hF _).1,rfl,_,rfl,_,rfl,wI,2*r+1,rfl,_,rfl,_,_,rfl,m0,by lia,⟨10,.of (by lia) (by lia),by decide⟩,fun u hu'=>⟨dA,fun t ht=>?_⟩⟩;have s2':=aB hu' (.tup [.int (dH (if 2*r+1<wI then 2*r+1 else wI) (2*r+1)).1,.int (dH (if 2*r+1<wI then 2*r+1 else wI) (2*r+1)).2]);exact kk _ (.ref t) (s2'.trans (aB ht _)) ⟨t,cF0,u,rfl,aU.of aC,(hF _).2.1,cH.ofU ((aB ht _) _ _ aC)⟩
 |fst pa qa pb qb mk lo hi =>
  obtain⟨sm,us,sa,sb,e,_,_,h1,h2⟩:=vat;replace e:vs=_:=e;subst e;obtain⟨ca,cb,k0,k9⟩:=tok;refine⟨_,rfl,p,_,_,_,rfl,rfl,aU.of hp,rfl,rfl,_,rfl,aW (by rw[iu];exact nFF) ?_⟩;refine⟨_,rfl,p,_,_,_,rfl,rfl,aU.of hp,rfl,rfl,_,rfl,bI (ag rfl) ?_⟩;refine⟨_,rfl,p,_,_,_,rfl,rfl,aU.of hp,rfl,_,rfl,sa,pa,qa,wI,rfl,h1,ca.st,w0,by lia,fun H3 r3 s3 h3=>?_⟩;refine⟨_,rfl,p,_,_,_,rfl,rfl,aU.of (s3 _ _ hp),rfl,_,rfl,_,_,rfl,rfl,.inl ⟨by decide,by decide⟩,sb,pb,qb,2*wI,rfl,s3 _ _ h2,cb.st,by lia,by lia,fun H4 r4 s4 h4=>?_⟩;have q1:∀{a c:Int},sX a c->fV 1000 (c^wI.toNat,a^wI.toNat)/\fV 1000 (c^(2*wI).toNat,a^(2*wI).toNat):=fun {a c} h=>by
   have h1:=h.st.p1;have h2:=h.st.pq;have h3:=h.st.q9;exact⟨⟨ik (by lia),pw1 h1 _,(pwb (by lia) h3 (by lia)).mono (by decide),(pwb (by lia) (by lia) (by lia)).mono (by decide)⟩,⟨ik (by lia),pw1 h1 _,(pwb (by lia) h3 (by lia)).mono (by decide),(pwb (by lia) (by lia) (by lia)).mono (by decide)⟩⟩
  refine⟨r3,r4,(qa^wI.toNat,pa^wI.toNat),(qb^(2*wI).toNat,pb^(2*wI).toNat),rfl,cH.of (s4 _ _ h3),cH.of h4,(q1 ca).1,(q1 cb).2,fun r5 hr5=>?_⟩;have s5:=aB hr5 (.tup [.int (gU (qa^wI.toNat,pa^wI.toNat) (qb^(2*wI).toNat,pb^(2*wI).toNat)).1,.int (gU (qa^wI.toNat,pa^wI.toNat) (qb^(2*wI).toNat,pb^(2*wI).toNat)).2]);have h5:=aC (H:=H4) (a:=r5) (o:= .tup [.int (gU (qa^wI.toNat,pa^wI.toNat) (qb^(2*wI).toNat,pb^(2*wI).toNat)).1,.int (gU (qa^wI.toNat,pa^wI.toNat) (qb^(2*wI).toNat,pb^(2*wI).toNat)).2]);generalize aO H4 r5 (.tup [.int (gU (qa^wI.toNat,pa^wI.toNat) (qb^(2*wI).toNat,pb^(2*wI).toNat)).1,.int (gU (qa^wI.toNat,pa^wI.toNat) (qb^(2*wI).toNat,pb^(2*wI).toNat)).2])=H5 at s5 h5 ⊢;have g5:=s3.trans (s4.trans s5);refine⟨_,rfl,_,rfl,p,_,_,_,rfl,rfl,aU.of (g5 _ _ hp),rfl,_,rfl,p,_,_,_,rfl,rfl,aU.of (g5 _ _ hp),rfl,_,rfl,_,_,rfl,rfl,_,rfl,p,_,_,_,rfl,rfl,aU.of (g5 _ _ hp),rfl,_,_,rfl,rfl,sa,pa,qa,hi-wI-mk,rfl,g5 _ _ h1,ca.st,by lia,by lia,fun H6 r6 s6 h6=>⟨dA,fun t ht=>?_⟩⟩
  exact kk _ (.ref t) (g5.trans (s6.trans (aB ht _))) ⟨t,r5,r6,rfl,aU.of aC,cH.ofU ((s6.trans (aB ht _)) _ _ h5),cH.ofU ((aB ht _) _ _ h6)⟩
 |lad pa qa lo hi =>
  obtain⟨wa,ws,st,e,_,_,h1⟩:=vat;replace e:vs=_:=e;subst e;refine⟨_,rfl,p,_,_,_,rfl,rfl,aU.of hp,rfl,rfl,_,rfl,aW (by rw[iu];exact nFL) ?_⟩;refine⟨_,rfl,p,_,_,_,rfl,rfl,aU.of hp,rfl,rfl,_,rfl,aW (by rw[iu];exact nIL) ?_⟩;refine⟨_,rfl,p,_,_,_,rfl,rfl,aU.of hp,rfl,_,rfl,st,pa,qa,wI,rfl,h1,(show sX pa qa from tok).st,w0,by lia,fun H3 r3 s3 h3=>?_⟩;refine⟨cF,_,_,_,rfl,rfl,(hF _).1,rfl,dA,fun t ht=>?_⟩;exact kk _ (.ref t) (s3.trans (aB ht _)) ⟨t,r3,cF1,rfl,aU.of aC,cH.of ((aB ht _) _ _ h3),(hF _).2.2⟩
 |cho pa qa lo hi =>
  obtain⟨sm,us,st,e,_,_,h1⟩:=vat;replace e:vs=_:=e;subst e;refine⟨_,rfl,p,_,_,_,rfl,rfl,aU.of hp,rfl,rfl,_,rfl,aW (by rw[iu];exact nFC) ?_⟩;refine⟨_,rfl,p,_,_,_,rfl,rfl,aU.of hp,rfl,rfl,_,rfl,aW (by rw[iu];exact nIC) ?_⟩;refine⟨_,rfl,p,_,_,_,rfl,rfl,aU.of hp,rfl,_,rfl,st,pa,qa,wI,rfl,h1,(show sX pa qa from tok).st,w0,by lia,fun H3 r3 s3 h3=>?_⟩;refine⟨cF,_,_,_,rfl,rfl,(hF _).1,rfl,dA,fun t ht=>?_⟩;exact kk _ (.ref t) (s3.trans (aB ht _)) ⟨t,r3,cF1,rfl,aU.of aC,cH.of ((aB ht _) _ _ h3),(hF _).2.2⟩
theorem bX6{cT:Addr}(m_THROWS:mg "THROWS"=some (.ref cT))(hT:∀H,aU K H cT (dR.map V.str)){cF cF0 cF1:Addr}(m_FREE:mg "FREE"=some (.ref cF))(hF:∀H,aU K H cF [.ref cF0,.ref cF1]/\cH K H cF0 (1,1)/\cH K H cF1 (0,1))(C_POT:Cl P w K mg base 6 (aS4 K) "price_of_throw"):eQ P w K mg base "price_of_row" "price_of_row" cH2 7 ["row","kind"] (aR2 K):=by
 refine fS ["row","kind"] fun H Q nd hr h=>?_
 obtain⟨r,kn,rfl,hr0,hk,k⟩:=h;refine⟨_,(aE (aM (nN (fY eX (bK aG (pv 0) aD) (pgl m_THROWS)) (bN C_POT hr (aA (pv 0) (aP (pv 1)))) (pgl m_FREE)))),?_⟩;refine⟨_,rfl,r.p,_,_,.str r.w,rfl,rfl,aU.of hr0.at,iV,cT,_,rfl,.inr (hT _),rfl,iE _,_,rfl,?_⟩;have ei:yL (V.str r.w) (dR.map V.str)=decide (r.w∈dR):=gY _ _;have no:¬r.w∈dR->aJ5 kn r=free->Q (.ref cF) H:=fun _ e=>k H _ (aR.refl _) (by rw[e];exact⟨cF,cF0,cF1,rfl,(hF _).1,(hF _).2.1,(hF _).2.2⟩)
 cases r with
 |thr p w x us d =>
  refine bI (ei.trans (ag (kQ.w hr0.2))) ?_;exact⟨_,rfl,_,rfl,p,w,x,us,d,kn,rfl,hr0,hk p w x us d rfl,k⟩
 |lt p x t =>
  have n:¬(("let": Str)∈dR):=by decide
  exact aW (fun z=>n (af (ei.symm.trans z))) (no n rfl)
 |tell p t =>
  have n:¬(("tell": Str)∈dR):=by decide
  exact aW (fun z=>n (af (ei.symm.trans z))) (no n rfl)
 |when p pa pb t a b =>
  have n:¬(("when": Str)∈dR):=by decide
  exact aW (fun z=>n (af (ei.symm.trans z))) (no n rfl)
 |times p pb n' b =>
  have n:¬(("times": Str)∈dR):=by decide
  exact aW (fun z=>n (af (ei.symm.trans z))) (no n rfl)
theorem bW8{cF cF0 cF1:Addr}(m_FREE:mg "FREE"=some (.ref cF))(hF:∀H,aU K H cF [.ref cF0,.ref cF1]/\cH K H cF0 (1,1)/\cH K H cF1 (0,1))(C_Tms:Cl P w K mg base 3 (pB K) "times")(C_Add:Cl P w K mg base 3 (aC6 K) "added"):eQ P w K mg base "price_behind" "price_behind" cC1 4 ["prices"] (aP4 K):=by
 refine fS ["prices","factor","rest","one"] fun H Q nd hr h=>?_
 obtain⟨l,us,ps,rfl,hl,un,tw,⟨b1,b2⟩,k⟩:=h;refine⟨_,(dX 1 nd (bK aG (pgl m_FREE) aD)
  (dX 2 nd (bK aG (pgl m_FREE) aD)
  (aF (pfr (cX (pv 0)) (gG 3 nd)
  (dX 1 nd (bN C_Tms hr (aA (pv 1) (aP (bK aG (pv 3) aD))))
  (aE (psz 2 nd (bN C_Add hr (aA (pv 2) (aP (bK aG (pv 3) aD))))))))
  (aE (aM (aV (aA (pv 1) (aP (pv 2))))))))),?_⟩
 refine⟨cF,_,_,_,rfl,rfl,(hF _).1,rfl,?_⟩;refine⟨cF,_,_,_,rfl,rfl,(hF _).1,rfl,?_⟩;have ul:=tw.length;refine⟨_,rfl,l,rfl,⟨_,bG.of hl⟩,gR (K:=K) (a:=l) (xs:=us) (fun i σ G=>∃(f g:Addr) (v:Option V),σ=[some (.ref l),some (.ref f),some (.ref g),v]/\aR H G/\cH K G f (fN (ps.take i)).1/\cH K G g (fN (ps.take i)).2)
  ⟨cF0,cF1,_,rfl,aR.refl _,(hF _).2.1,(hF _).2.2⟩ (by rintro i σ G _ ⟨_,_,_,_,e,_⟩;exact bG.of (e _ _ hl)) ?_ ?_⟩
 ·rintro D' i v σ G hv ⟨f,g,v3,rfl,s1,hf,hg⟩;obtain⟨P0,hP,a,x,y,rfl,ha,hx,hy⟩:=iZ tw hv;have bp:=b1 P0 (bj hP);have bi:=b2 i;refine⟨_,rfl,_,rfl,a,_,_,_,rfl,rfl,aU.ts s1 ha,rfl,f,x,_,_,rfl,hf,hx.s s1,bi.1,bp.1,fun r1 hr1'=>?_⟩;have s2:=aB hr1' (.tup [.int (gU (fN (ps.take i)).1 P0.1).1,.int (gU (fN (ps.take i)).1 P0.1).2]);have h2:=aC (H:=G) (a:=r1) (o:= .tup [.int (gU (fN (ps.take i)).1 P0.1).1,.int (gU (fN (ps.take i)).1 P0.1).2]);generalize aO G r1 (.tup [.int (gU (fN (ps.take i)).1 P0.1).1,.int (gU (fN (ps.take i)).1 P0.1).2])=G2 at s2 h2 ⊢;refine⟨_,rfl,_,rfl,a,_,_,_,rfl,rfl,aU.ts (s1.trans s2) ha,rfl,g,y,_,_,rfl,hg.s s2,hy.s (s1.trans s2),bi.2,bp.2,fun r2 hr2'=>?_⟩;rw[bE hP,sL];exact⟨r1,r2,_,rfl,s1.trans (s2.trans (aB hr2' _)),(cH.ofU h2).s (aB hr2' _),cH.ofU aC⟩
 ·rintro σ G ⟨f,g,v3,rfl,s1,hf,hg⟩;rw[ul,dk] at hf hg;refine⟨_,rfl,_,rfl,dA,fun t ht=>?_⟩;exact k _ (.ref t) (s1.trans (aB ht _)) ⟨t,f,g,rfl,aU.of aC,hf.s (aB ht _),hg.s (aB ht _)⟩
theorem bS8(C_Les:Cl P w K mg base 1 (uW K) "less"):eQ P w K mg base "greatest" "greatest" cG2 2 ["fractions"] (bC6 K):=by
 refine fS ["fractions","found","fraction"] fun H Q nd hr h=>?_
 obtain⟨l,us,fs,rfl,hl,f1,f9,tw,bf,k⟩:=h;refine⟨_,(dX 1 nd (bK cB (pv 0) aD)
  (aF (pfr (cX (pv 0)) (gG 2 nd)
  (aE (bL (iI (bN C_Les hr (aA (pv 1) (aP (pv 2))))) (aE (psz 1 nd (pv 2))) aX)))
  (aE (aM (pv 1))))),?_⟩
 have ul:=tw.length;obtain⟨f0,fr,rfl⟩:=aN3 f1;obtain⟨u0,ur,rfl⟩:∃a r,us=a::r:=aN3 (by lia);obtain⟨⟨a0,rfl,h0⟩,_⟩:=id tw;refine⟨_,rfl,l,_,_,.ref a0,rfl,rfl,bG.of hl,iV,?_⟩;refine⟨_,rfl,l,rfl,⟨_,bG.of hl⟩,gR (K:=K) (a:=l) (xs:= .ref a0::ur) (fun i σ G=>G=H/\∃(f:Addr) (v:Option V),σ=[some (.ref l),some (.ref f),v]/\cH K H f (((f0::fr).take i).foldl kD f0))
  ⟨rfl,a0,_,rfl,h0⟩ (by rintro i σ G _ ⟨e,_⟩;rw[e];exact bG.of hl) ?_ ?_⟩
 ·rintro D' i v σ G hv ⟨rfl,f,v2,rfl,hf⟩;obtain⟨g,hg,a,rfl,ha⟩:=iZ tw hv;have bg:=bf g (bj hg);have bacc:fV 1000 (((f0::fr).take i).foldl kD f0):=cI7 (bf f0 az) fun x hx=>bf x (sf hx)
  refine⟨_,rfl,_,rfl,f,a,_,_,rfl,hf,ha,bacc,bg,_,rfl,?_⟩;rw[bG1 hg];refine pH (fun c=>?_) (fun c=>?_)
  ·refine⟨_,rfl,rfl,a,_,rfl,?_⟩;rw[show kD (((f0::fr).take i).foldl kD f0) g=g from bv (af c)];exact ha
  ·refine⟨rfl,f,_,rfl,?_⟩;have c:¬_:=fun z=>c (ag z)
   rw[show kD (((f0::fr).take i).foldl kD f0) g=((f0::fr).take i).foldl kD f0 from ay c];exact hf
 ·rintro σ G ⟨rfl,f,v2,rfl,hf⟩;rw[ul,dk] at hf;exact⟨_,rfl,k _ ⟨f,rfl,hf⟩⟩
theorem bT3(C_Grt:Cl P w K mg base 2 (bC6 K) "greatest"):eQ P w K mg base "greatest_of" "greatest_of" cC0 3 ["prices"] (aR4 K):=by
 refine fS ["prices"] fun H Q nd hr h=>?_
 obtain⟨l,us,ps,rfl,hl,p1,p9,tw,bp,k⟩:=h;refine⟨_,(aE (aM (aV (aA (bN C_Grt hr (aP (cU ["one"] [none] (cX (pv 0)) (fun _ _ _ _=>(gG 0)) (fun _ _ _ _=>eS) (fun _ _ _ _=>(bK (oW K) (pv 0) aD))))) (aP (bN C_Grt hr (aP (cU ["one"] [none] (cX (pv 0)) (fun _ _ _ _=>(gG 0)) (fun _ _ _ _=>eS) (fun _ _ _ _=>(bK (oW K) (pv 0) aD)))))))))),?_⟩;have ul:=tw.length;refine⟨_,rfl,l,rfl,⟨_,bG.of hl⟩,dI (K:=K) (a:=l) (xs:=us) (fun i zs σ G=>G=H/\(∃v,σ=[v])/\dL (FrK K H) zs ((ps.map (·.1)).take i))
  (aN (by lia)) ⟨rfl,⟨_,rfl⟩,trivial⟩ (by rintro i zs σ G ⟨_,_,e⟩;rw[e.length,du];lia) (by rintro i zs σ G _ ⟨e,_⟩;rw[e];exact bG.of hl) ?_ ?_⟩
 ·rintro i v zs σ _ hv ⟨rfl,⟨v',rfl⟩,tz⟩;obtain⟨P0,hP,a,x,y,rfl,ha,hx,hy⟩:=iZ tw hv;have e:(ps.map (·.1))[i]?=some P0.1:=by rw[cm,hP];rfl
  refine⟨_,rfl,a,_,_,_,rfl,rfl,ha,rfl,rfl,⟨_,rfl⟩,?_⟩;rw[bE e];exact dL.append tz ⟨⟨x,rfl,hx⟩,trivial⟩
 rintro zs σ Gx ⟨ex,_,tz⟩ l1 hl1;replace ex:=ex.symm;subst ex;rw[ul, <-ae (f:=fun p:Prc=>p.1) (as:=ps),dk] at tz;obtain⟨H1,e0,s1,h1⟩:=sF hl1 (.lst zs);rw[e0];clear e0;refine⟨l1,zs,ps.map (·.1),rfl,h1,by rw[ae];exact p1,by rw[ae];exact p9,tz.mono fun _ _ z=>z.s s1,fun f hf=>?_,?_⟩
 ·obtain⟨P0,hP,rfl⟩:=fj.mp hf;exact(bp P0 hP).1
 rintro v1 ⟨a1,rfl,ha1⟩;refine⟨_,rfl,l,rfl,⟨_,bG.of (s1 _ _ hl)⟩,dI (K:=K) (a:=l) (xs:=us) (fun i zs σ G=>G=H1/\(∃v,σ=[v])/\dL (FrK K H1) zs ((ps.map (·.2)).take i))
  (aN (by lia)) ⟨rfl,⟨_,rfl⟩,trivial⟩ (by rintro i zs σ G ⟨_,_,e⟩;rw[e.length,du];lia) (by rintro i zs σ G _ ⟨e,_⟩;rw[e];exact bG.of (s1 _ _ hl)) ?_ ?_⟩
 ·rintro i v zs σ _ hv ⟨rfl,⟨v',rfl⟩,tz⟩;obtain⟨P0,hP,a,x,y,rfl,ha,hx,hy⟩:=iZ tw hv;have e:(ps.map (·.2))[i]?=some P0.2:=by rw[cm,hP];rfl
  refine⟨_,rfl,a,_,_,_,rfl,rfl,aU.ts s1 ha,rfl,rfl,⟨_,rfl⟩,?_⟩;rw[bE e];exact dL.append tz ⟨⟨y,rfl,hy.s s1⟩,trivial⟩
 rintro zs2 σ Gx ⟨ex,_,tz2⟩ l2 hl2;replace ex:=ex.symm;subst ex;rw[ul, <-ae (f:=fun p:Prc=>p.2) (as:=ps),dk] at tz2;obtain⟨H2,e0,s2,h2⟩:=sF hl2 (.lst zs2);rw[e0];clear e0;refine⟨l2,zs2,ps.map (·.2),rfl,h2,by rw[ae];exact p1,by rw[ae];exact p9,tz2.mono fun _ _ z=>z.s s2,fun f hf=>?_,?_⟩
 ·obtain⟨P0,hP,rfl⟩:=fj.mp hf;exact(bp P0 hP).2
 rintro v2 ⟨a2,rfl,ha2⟩;refine⟨dA,fun t ht=>k _ (.ref t) (s1.trans (s2.trans (aB ht _))) ⟨t,a1,a2,rfl,aU.of aC,ha1.s (s2.trans (aB ht _)),ha2.s (aB ht _)⟩⟩
theorem bT7(m_isinstance:mg "isinstance"=none)(m_str:mg "str"=none)(m_len:mg "len"=none):eQ P w K mg base "is_row" "is_row" cH5 1 ["part"] spIsRow:=by
 refine fS ["part"] fun H Q nd hr h=>?_
 obtain⟨e,rfl,he,k⟩:=h;refine⟨_,(aE (aM (mJ (pec lG (tL bM m_len ge (aP (pv 0))) aD) (mH (tL wF m_isinstance jd (aA (bK aG (pv 0) aD) (aP (aH1 (v:= .ty "str") (by rfl) m_str PyProof.Rows.boot_str rfl)))))))),?_⟩
 cases e with
 |rows p rs =>
  obtain⟨hp,hR⟩:=he;refine⟨_,rfl,p,_,rfl,.inr (aU.of hp),_,_,rfl,rfl,_,rfl,?_⟩
  cases rs with
  |nil=>exact aW (by decide) k
  |cons r rs =>
   refine bI (ag (by show(0:Int)<((bA (r::rs)).length:Int);rw[bD,cf];lia)) ?_;exact⟨_,rfl,p,_,_,_,rfl,rfl,aU.of hp,iV,_,_,_,false,rfl,.tup (dO.at hR.1),rfl,k⟩
 |row r =>
  have hr1:=dO.at he;refine⟨_,rfl,r.p,_,rfl,.inr (aU.of hr1),_,_,rfl,rfl,_,rfl,bI (ag (by rw[cf];lia)) ?_⟩;exact⟨_,rfl,r.p,_,_,.str r.w,rfl,rfl,aU.of hr1,iV,_,_,_,true,rfl,.str _,rfl,k⟩
theorem bS2(C_IsR:Cl P w K mg base 1 spIsRow "is_row")(m_list:mg "list"=none):eQ P w K mg base "parts_right_in" "parts_right_in" cG1 2 ["part"] spPRI:=by
 refine fS ["part"] fun H Q nd hr h=>?_
 obtain⟨e,rfl,he,k⟩:=h;have hr1:cY 1 _:=hr.mono (by decide);refine⟨_,(aF (bL (mK (iI (bN C_IsR hr (aP (pv 0))))) (aE (aM (pct uP m_list ly (aP (pv 0))))) aX)
  (aF (bL (fY cA (bK aG (pv 0) aD) aJ) (aE (aM (bJ (aA (bK aG (pv 0) aD) (aP (bK aG (pv 0) aD)))))) aX)
  (aF (bL (fY cA (bK aG (pv 0) aD) aJ) (aE (aM (bJ (aP (bK aG (pv 0) aD))))) aX)
  (aE (aM (bJ bS)))))),?_⟩
 refine⟨_,rfl,e,rfl,he,_,rfl,?_⟩
 cases e with
 |rows p rs =>
  obtain⟨hp,hR⟩:=he;refine bI rfl ?_;exact⟨_,rfl,p,_,rfl,.inr (aU.of hp),fun l hl=>k l _ (aB hl _) hl (by rw[aC];show _=some (HO.lst (lW (rs.map Pt.row)));rw[bK0])⟩
 |row r =>
  refine aW (fun z=>Bool.noConfusion (show false=true from z)) ?_;have nn:¬V.str r.w=V.str "when"->¬V.str r.w=V.str "times"->(Pt.row r).kids=[]->aV4 (bT9 (uA (wN rEq (wN (xD K) (iS 0) (tC (V.int 0))) (tC (V.str "when")))) (bJ7 (aL2 (iX (wN (xD K) (iS 0) (tC (V.int 2))) (iX (wN (xD K) (iS 0) (tC (V.int 3))) tNil)))) tNext)
    (aV4 (bT9 (uA (wN rEq (wN (xD K) (iS 0) (tC (V.int 0))) (tC (V.str "times")))) (bJ7 (aL2 (iX (wN (xD K) (iS 0) (tC (V.int 2))) tNil))) tNext) (bJ7 (aL2 tNil))) { nx:=fun x H'=>Q V.non H',rt:=Q } [some (.ref r.p)] H:=fun n1 n2 ek=>by
   have hr1:=dO.at he;refine⟨_,rfl,r.p,_,_,.str r.w,rfl,rfl,aU.of hr1,iV,rfl,_,rfl,aW (by rw[iu];exact n1) ?_⟩;refine⟨_,rfl,r.p,_,_,.str r.w,rfl,rfl,aU.of hr1,iV,rfl,_,rfl,aW (by rw[iu];exact n2) ?_⟩;exact⟨bo _,fun l hl=>k l _ (aB hl _) hl (by rw[aC,ek];rfl)⟩
  cases r with
  |when p pa pb t a b =>
   have hp:=he.1;refine⟨_,rfl,p,_,_,_,rfl,rfl,aU.of hp,rfl,rfl,_,rfl,bI (ag rfl) ?_⟩;exact⟨_,rfl,p,_,_,_,rfl,rfl,aU.of hp,rfl,_,rfl,p,_,_,_,rfl,rfl,aU.of hp,rfl,dA,fun l hl=>k l _ (aB hl _) hl aC⟩
  |times p pb n b =>
   have hp:=he.1;refine⟨_,rfl,p,_,_,_,rfl,rfl,aU.of hp,rfl,rfl,_,rfl,aW (by rw[iu];exact nTW) ?_⟩;refine⟨_,rfl,p,_,_,_,rfl,rfl,aU.of hp,rfl,rfl,_,rfl,bI (ag rfl) ?_⟩;exact⟨_,rfl,p,_,_,_,rfl,rfl,aU.of hp,rfl,jT,fun l hl=>k l _ (aB hl _) hl aC⟩
  |thr p w x us d=>exact nn (aT7 he.2).1 (aT7 he.2).2 rfl
  |lt p x t=>exact nn nLW.1 nLW.2 rfl
  |tell p t=>exact nn nEW.1 nEW.2 rfl
theorem bV5(C_PRI:Cl P w K mg base 2 spPRI "parts_right_in")(m_range:mg "range"=none)(m_len:mg "len"=none):eQ P w K mg base "places_right_in" "places_right_in" cA3 3 ["place","part"] spPlRI:=by
 refine fS ["place","part"] fun H Q nd hr h=>?_
 obtain⟨e,q,rfl,hq,l1,l4,he,k⟩:=h;refine⟨_,(aE (aM (cU ["k","place"] [none,some 0] (eB (by rfl) m_range (aP (tL bM m_len ge (aP (bN C_PRI hr (aP (pv 1))))))) (fun _ _ _ _=>(gG 0)) (fun _ _ _ _=>eS) (fun _ _ _ _=>(aL (cG4 K) (pv 1) (aV (aP (pv 0)))))))),?_⟩;refine⟨_,rfl,e.2,rfl,he,fun r1 H1 s1 n1 h1=>⟨r1,_,rfl,.inl (bG.of h1),_,rfl,by lia,by rw[jN];lia,jY (n:=(lW e.2.kids).length) (fun i zs σ G=>aR H1 G/\(∃v,σ=[v,some (.ref q)])/\dL (wD G) zs (((eE e).map (·.1)).take i))
  (iY (by rw[jN];lia)) ⟨aR.refl _,⟨_,rfl⟩,trivial⟩ (by rintro i zs σ G ⟨_,_,z⟩;rw[z.length,du];lia) ?_ ?_⟩⟩
 ·rintro i zs σ G hi ⟨s2,⟨v,rfl⟩,tz⟩;rw[jN] at hi;have hq2:=(s1.trans s2) _ _ hq;rw[bE (pL hi)];refine⟨_,rfl,_,rfl,jT,fun t ht=>?_⟩;obtain⟨G3,e0,s3,h3⟩:=sF ht (.tup [.int (0+(i:Int))]);rw[e0];clear e0;refine⟨q,t,_,_,rfl,rfl,aU.of (s3 _ _ hq2),aU.of h3,(fun z=>by cases z),by rw[ae];exact cu (aN (by rw[fh];lia)),fun z=>?_,fun z t2 ht2=>?_⟩
  ·refine⟨s2.trans s3,⟨_,rfl⟩,dL.append (tz.mono fun _ _ z=>z.ts (.of s3)) ⟨⟨t,rfl,?_⟩,trivial⟩⟩;rw[cy,z,List.nil_append];rw[rq] at h3;exact h3
  ·have s4:=aB ht2 (.tup (e.1.map V.int++[.int (0+(i:Int))]));refine⟨s2.trans (s3.trans s4),⟨_,rfl⟩,dL.append (tz.mono fun _ _ z=>z.ts (.of (s3.trans s4))) ⟨⟨t2,rfl,?_⟩,trivial⟩⟩;rw[cy];show _=some (HO.tup (e.1.map V.int++[.int (i:Int)]));rw[aC,rq]
 ·rintro zs σ G ⟨s2,_,tz⟩ l9 hl9;rw[jN, <-jG, <-ae (f:=fun c:PP=>c.1) (as:=eE e),dk] at tz;have s9:=s1.trans (s2.trans (aB hl9 (.lst zs)));exact k l9 zs _ s9 ((s1.trans s2).free hl9) aC (tz.mono fun _ _ z=>z.ts (.of (aB hl9 _)))
theorem bV4(C_PlI:Cl P w K mg base 3 spPlRI "places_right_in")(C_PRI:Cl P w K mg base 2 spPRI "parts_right_in")(m_list:mg "list"=none)(m_reversed:mg "reversed"=none)(m_zip:mg "zip"=none):eQ P w K mg base "places_of" "places_of" cH9 4 ["rows"] spPlOf:=by
 refine fS ["rows","found","waiting","place","part"] fun H Q nd hr h=>?_
 obtain⟨p,rs,kd,rfl,hp,hR,hc,hdp,hkd,k⟩:=h;refine⟨_,(dX 1 nd (bJ bS)
  (dX 2 nd (bJ (aP (aV (aA (aV bS) (aP (pv 0))))))
  (aF (iJ jg (lM (pv 2) (fun _=>rfl))
  (aF (bZ (eJ bq eh ej dD (pv 1) (aP (qY bq jz ka sJ (pv 2)))))
  (dX 3 nd (bK aG (bK cB (pv 1) uL) aD)
  (dX 4 nd (bK aG (bK cB (pv 1) uL) aD)
  (aE (bZ (eJ bq eu fc dJ (pv 2) (aP (zS (by rfl) m_list (by rfl) m_zip (aA (bN C_PlI hr (aA (pv 3) (aP (pv 4)))) (aP (bN C_PRI hr (aP (pv 4))))))))))))))
  (aE (aM (qQ (pv 1) (by rfl) m_list (by rfl) m_reversed)))))),?_⟩
 refine⟨bo _,fun f hf=>?_⟩;obtain⟨H1,e0,s1,f1⟩:=sF hf (.lst []);rw[e0];clear e0;refine⟨bo _,fun t0 ht0=>?_⟩;obtain⟨H2,e0,s2,h20⟩:=sF ht0 (.tup []);rw[e0];clear e0;refine⟨_,rfl,dA,fun t1 ht1=>?_⟩;obtain⟨H3,e0,s3,h31⟩:=sF ht1 (.tup [.ref t0,.ref p]);rw[e0];clear e0;refine⟨jT,fun wl hw=>?_⟩;have s4:=aB hw (.lst [.ref t1]);have h4:aO H3 wl (.lst [.ref t1]) wl=some (.lst [.ref t1]):=aC;have f4:=s4 _ _ ((s2.trans s3) _ _ f1);have s04:=s1.trans (s2.trans (s3.trans s4));have wn:H wl=none:=(s1.trans (s2.trans s3)).free hw;have nwf:wl≠f:=(aI ((s2.trans s3) _ _ f1) hw).symm;have p0:dL (vI (aO H3 wl (.lst [.ref t1]))) [.ref t1] [([],Pt.rows p rs)]:=⟨⟨t1,t0,rfl,s4 _ _ h31,(s3.trans s4) _ _ h20⟩,trivial⟩
 generalize aO H3 wl (.lst [.ref t1])=H4 at s4 h4 f4 s04 p0 ⊢;have ol:=aD7 (pl:=[]) (p:=p) (rs:=rs);generalize eL:dZ ([],Pt.rows p rs)=L at k ol;have al:∀e∈L,PtH H e.2/\e.1.length<=7/\e.2.kids.length<=aZ rs+2:=fun e he=>by
  rw[<-eL] at he;have:=(aA9 hkd e he).2.1;exact⟨bM8 hp hR e he,by lia,aO7 e he⟩
 refine⟨fun j σ G=>∃(zs ws:List V) (F W:List PP) (v3 v4:Option V),σ=[some (.ref p),some (.ref f),some (.ref wl),v3,v4]/\aR H G/\G f=some (.lst zs)/\G wl=some (.lst ws)/\dL (vI G) zs F/\dL (vI G) ws W/\W.flatMap dZ++F.reverse=L/\j=(W.flatMap dZ).length,⟨_,[],[.ref t1],[],[([],Pt.rows p rs)],_,_,rfl,s04,f4,h4,trivial,p0,by rw[<-eL];simp,rfl⟩,?_⟩;rintro j σ G ⟨zs,ws,F,W,v3,v4,rfl,sG,gf,gw,tz,tw,eW,rfl⟩;refine⟨_,rfl,_,.inl ⟨_,bG.of gw,rfl⟩,?_⟩;rcases W.eq_nil_or_concat with rfl|⟨W',e,rfl⟩
 ·have ew:ws=[]:=sj tw.length;subst ew;refine aW (by decide) ?_;refine⟨_,rfl,f,_,rfl,bG.of gf,fun l hl=>?_⟩;refine k l zs.reverse _ (sG.trans (aB hl _)) aC ?_;rw[zu,List.nil_append] at eW;rw[<-eW];exact(qI tz).mono fun _ _ z=>z.ts (.of (aB hl _))
 ·rw[wu] at *;obtain⟨us,v,rfl,tu,q,a,rfl,hq,ha⟩:=rK tw;have me:e∈L:=by
   rw[<-eW,ig];exact dj _ (bx _ (jq.mpr ⟨e,au.mpr rfl,sO e⟩))
  obtain⟨pe,l7,kl⟩:=al e me;have lz:=tz.length;have lu:=tu.length;have lL:=fm List.length eW;rw[ig,aj,aj,ib] at lL;have g1:=aY8 W';have o1:=xJ e;have es:([e]:List PP).flatMap dZ=dZ e:=by simp
  rw[es] at lL;refine bI (by simp) ?_;refine⟨fun σ' H'=>∃(zs ws:List V) (v3 v4:Option V),σ'=[some (.ref p),some (.ref f),some (.ref wl),v3,v4]/\aR H H'/\H' f=some (.lst zs)/\H' wl=some (.lst ws)/\dL (vI H') zs (F++[e])/\dL (vI H') ws (W'++eE e),?_,?_⟩
  ·rintro σ' H' ⟨zs',ws',v3',v4',rfl,a1,a2,a3,a4,a5⟩;refine⟨((W'++eE e).flatMap dZ).length,?_,zs',ws',_,_,v3',v4',rfl,a1,a2,a3,a4,a5,?_,rfl⟩
   ·rw[ig,ig,es,nC e,aj,aj,aj,fh];lia
   ·rw[<-eW,ig,ig,es,nC e,sk];simp only[List.reverse_singleton,List.append_assoc]
  refine⟨_,rfl,.inl ⟨rfl,_,bG.of gf⟩,_,rfl,.inl ⟨rfl,_,bG.of gw⟩,wl,us++[.ref q],.ref q,rfl,rfl,gw,by simp,?_⟩;rw[nh];have t5:=TS.lst (ys:=us) gw;have s5:=cV (ys:=us) sG wn;have gf5:aO G wl (.lst us) f=some (.lst zs):=by rw[aH nwf.symm];exact gf
  have gw5:aO G wl (.lst us) wl=some (.lst us):=aC;generalize aO G wl (.lst us)=G5 at t5 s5 gf5 gw5 ⊢;refine⟨f,zs,.ref q,rfl,rfl,gf5,iY (by lia),?_⟩;have t6:=t5.trans (TS.lst (ys:=zs++[.ref q]) gf5);have s6:=cV (ys:=zs++[.ref q]) s5 hf;have gf6:aO G5 f (.lst (zs++[.ref q])) f=some (.lst (zs++[.ref q])):=aC;have gw6:aO G5 f (.lst (zs++[.ref q])) wl=some (.lst us):=by rw[aH nwf];exact gw5
  generalize aO G5 f (.lst (zs++[.ref q]))=G6 at t6 s6 gf6 gw6 ⊢;refine⟨_,rfl,f,_,_,.ref q,rfl,rfl,bG.of gf6,qN,q,_,_,.ref a,rfl,rfl,aU.of (t6 _ _ hq),rfl,?_⟩;refine⟨_,rfl,f,_,_,.ref q,rfl,rfl,bG.of gf6,qN,q,_,_,.ref e.2.p,rfl,rfl,aU.of (t6 _ _ hq),rfl,?_⟩;refine⟨_,rfl,.inl ⟨rfl,_,bG.of gw6⟩,_,rfl,_,rfl,e,a,rfl,t6 _ _ ha,by lia,by lia,pe.ts (.of s6),fun r7 xs7 G7 s7 n7 h7 t7=>?_⟩;refine⟨_,rfl,e.2,rfl,pe.ts (.of (s6.trans s7)),fun r8 G8 s8 n8 h8=>?_⟩;have l7':=t7.length;rw[ae,jG] at l7';refine⟨r7,r8,_,_,rfl,bG.of (s8 _ _ h7),bG.of h8,by rw[jN];exact l7',fun r9 xs9 G9 s9 n9 h9 l9 a9=>?_⟩;have tt:=(TS.of s7).trans ((TS.of s8).trans (TS.of s9));have gw9:=s9 _ _ (s8 _ _ (s7 _ _ gw6));have gf9:=s9 _ _ (s8 _ _ (s7 _ _ gf6));refine⟨wl,r9,us,xs9,rfl,rfl,gw9,h9,cu (iY (by lia)),?_⟩;have t10:=TS.lst (ys:=us++xs9) gw9;have ta:=t6.trans (tt.trans t10);refine⟨zs++[.ref q],us++xs9,_,_,rfl,cV (s6.trans (s7.trans (s8.trans s9))) wn,by rw[aH nwf.symm];exact gf9,aC,dL.append (tz.mono fun _ _ z=>z.ts ta) ⟨⟨q,a,rfl,ta _ _ hq,ta _ _ ha⟩,trivial⟩,dL.append (tu.mono fun _ _ z=>z.ts ta) ?_⟩
  refine bC5 (by rw[jG];lia) fun i z c hz hc=>?_
  have il:=(ap.mp hc).1;rw[jG] at il;have ec:=hc.symm.trans (vE (ak il));injection ec with ec
  subst ec;obtain⟨x7,hx7⟩:∃x,xs7[i]?=some x:=⟨_,ak (by lia)⟩
  obtain⟨k7,hk7,a7,rfl,ha7⟩:=iZ t7 hx7;rw[pL il] at hk7;injection hk7 with hk7
  subst hk7;obtain⟨q9,hq9,hq9'⟩:=a9 i _ _ hx7 (show(lW e.2.kids)[i]?=some (.ref (e.2.kids[i]).p) by unfold lW;rw[cm,ak il];rfl);rw[hq9] at hz;injection hz with hz
  subst hz;exact⟨q9,a7,rfl,t10 _ _ hq9',t10 _ _ (s9 _ _ (s8 _ _ ha7))⟩
theorem bY5{cF cF0 cF1:Addr}(m_FREE:mg "FREE"=some (.ref cF))(hF:∀H,aU K H cF [.ref cF0,.ref cF1]/\cH K H cF0 (1,1)/\cH K H cF1 (0,1))(C_Pow:Cl P w K mg base 1 (rO K) "power")(C_IsR:Cl P w K mg base 1 spIsRow "is_row")(C_Beh:Cl P w K mg base 4 (aP4 K) "price_behind")(C_GOf:Cl P w K mg base 3 (aR4 K) "greatest_of")(C_Tms:Cl P w K mg base 3 (pB K) "times"):eQ P w K mg base "price_made" "price_made" cI3 5 ["part","prices"] (aE3 K):=by
 refine fS ["part","prices","factor"] fun H Q nd hr h=>?_
 obtain⟨e,l,us,ss,kn,kd,rfl,he,hm,hld,hkd,l4,hl,tw,k⟩:=h;refine⟨_,(aF (bL (mK (iI (bN C_IsR hr (aP (pv 0))))) (aE (aM (bN C_Beh hr (aP (pv 1))))) aX)
  (aF (bL (fY cA (bK aG (pv 0) aD) aJ) (aE (aM (bN C_GOf hr (aP (pv 1))))) aX)
  (dX 2 nd (bN C_Pow hr (aA (bK aG (bK cB (pv 1) aD) aD) (aP (bK aG (pv 0) aD))))
  (aE (aM (aV (aA (pv 2) (aP (bN C_Tms hr (aA (bK aG (bK cB (pv 1) aD) aD) (aP (aV (aA (bK aG (pv 0) aD) (aP aD)))))))))))))),?_⟩
 refine⟨_,rfl,e,rfl,he,_,rfl,?_⟩;have tl:=tw.length
 cases e with
 |rows p rs =>
  refine bI rfl ?_;have ek:(Pt.rows p rs).kids.map (Pt.pr ss kn)=xK ss kn rs:=by
   show(rs.map Pt.row).map (Pt.pr ss kn)=_;rw[rn,mR];rfl
  rw[ek] at tw;rw[ae] at tl;exact⟨_,rfl,l,us,_,rfl,hl,by lia,tw,bU4 he.2 hld,k⟩
 |row r =>
  refine aW (fun z=>Bool.noConfusion (show false=true from z)) ?_
  cases r with
  |when p pa pb t a b =>
   have hp:=he.1;refine⟨_,rfl,p,_,_,_,rfl,rfl,aU.of hp,rfl,rfl,_,rfl,bI (ag rfl) ?_⟩;have pe:(Pt.row (.when p pa pb t a b)).pr ss kn=nM (iT ss kn a) (iT ss kn b):=by simp only[Pt.pr,lT,iT]
   rw[pe] at k;simp only[Pt.ld,lY] at hld;have ek:(Pt.row (.when p pa pb t a b)).kids.map (Pt.pr ss kn)=[iT ss kn a,iT ss kn b]:=by simp only[Pt.kids,List.map_cons,List.map_nil,Pt.pr]
   rw[ek] at tw;have oa:=yY (gC ss kn he.2.2.2.2.2.1).2 (by lia);have ob:=yY (gC ss kn he.2.2.2.2.2.2).2 (by lia);refine⟨_,rfl,l,us,[iT ss kn a,iT ss kn b],rfl,hl,by show 1<=2;decide,by show 2<=1000;decide,tw,fun q hq=>?_,fun H' v s h=>k H' v s ?_⟩
   ·simp only[List.mem_cons,List.not_mem_nil,or_false] at hq;rcases hq with rfl|rfl
    ·exact oa
    ·exact ob
   ·have e1:grL ([iT ss kn a,iT ss kn b].map (·.1))=kD (iT ss kn a).1 (iT ss kn b).1:=aF1 _ _;have e2:grL ([iT ss kn a,iT ss kn b].map (·.2))=kD (iT ss kn a).2 (iT ss kn b).2:=aF1 _ _;rw[e1,e2] at h;exact h
  |times p pb n b =>
   have hp:=he.1;have hn:1<=n/\n<=3:=hkd _ rfl;have pe:(Pt.row (.times p pb n b)).pr ss kn=gE n.toNat (iT ss kn b):=by simp only[Pt.pr,lT,iT]
   rw[pe] at k;simp only[Pt.ld,lY] at hld;have ek:(Pt.row (.times p pb n b)).kids.map (Pt.pr ss kn)=[iT ss kn b]:=by simp only[Pt.kids,List.map_cons,List.map_nil,Pt.pr]
   rw[ek] at tw;have le:iL b<=n.toNat*iL b:=by
    have:=jp (iL b) (show 1<=n.toNat by lia);lia
   have ob:=yY (gC ss kn he.2.2).2 (by lia);obtain⟨a1,rfl,x1,y1,ha,hx,hy⟩:=bH3 tw;have ob':=ob;have pq:(gE n.toNat (iT ss kn b)).1=((iT ss kn b).1.1^n.toNat,(iT ss kn b).1.2^n.toNat):=rfl;have pr2:(gE n.toNat (iT ss kn b)).2=gU (iT ss kn b).2 (n,1):=by
    show dH ((iT ss kn b).2.1*(n.toNat:Int)) ((iT ss kn b).2.2*1)=dH ((iT ss kn b).2.1*n) ((iT ss kn b).2.2*1);rw[show(n.toNat:Int)=n by lia]
   clear ob pe;generalize gE n.toNat (iT ss kn b)=TP at k pq pr2;generalize iT ss kn b=PB at *;generalize ex1:PB.1.1^n.toNat=X1 at *;generalize ex2:PB.1.2^n.toNat=X2 at *;refine⟨_,rfl,p,_,_,_,rfl,rfl,aU.of hp,rfl,rfl,_,rfl,aW (by rw[iu];exact nTW) ?_⟩;refine⟨_,rfl,l,_,_,_,rfl,rfl,bG.of hl,rfl,a1,_,_,_,rfl,rfl,ha,rfl,_,rfl,p,_,_,_,rfl,rfl,aU.of hp,rfl,x1,PB.1,n,rfl,hx,ob'.1.ba,ob'.1.bb,by lia,by lia,fun r1 hr1'=>?_⟩;rw[ex1,ex2];obtain⟨H2,e0,s2,h2⟩:=sF hr1' (.tup [.int X1,.int X2]);rw[e0];clear e0;refine⟨_,rfl,_,rfl,l,_,_,_,rfl,rfl,bG.of (s2 _ _ hl),rfl,a1,_,_,_,rfl,rfl,aU.ts s2 ha,rfl,_,rfl,p,_,_,_,rfl,rfl,aU.of (s2 _ _ hp),rfl,dA,fun r3 hr3'=>?_⟩;obtain⟨H3,e0,s3,h3⟩:=sF hr3' (.tup [.int n,.int 1]);rw[e0];clear e0;have s23:=s2.trans s3;have nb:fV 1000 ((n,1):Fr):=⟨show 0<=n by lia,(show(1:Int)<=1 by decide),(bT.of (n:=4) (show 0<=n by lia) (by lia)).mono (by decide),(bT.of (n:=4) (i:=1) (by decide) (by decide)).mono (by decide)⟩
   refine⟨y1,r3,PB.2,(n,1),rfl,hy.s s23,cH.of h3,ob'.2,nb,fun r4 hr4'=>⟨dA,fun r5 hr5'=>?_⟩⟩;rw[<-pr2] at hr5' ⊢;have s4:=aB hr4' (.tup [.int TP.2.1,.int TP.2.2]);have h4:aO H3 r4 (.tup [.int TP.2.1,.int TP.2.2]) r4=some (.tup [.int TP.2.1,.int TP.2.2]):=aC;generalize aO H3 r4 (.tup [.int TP.2.1,.int TP.2.2])=H4 at s4 h4 hr5' ⊢;have s5:=aB hr5' (.tup [.ref r1,.ref r4]);refine k _ (.ref r5) (s23.trans (s4.trans s5)) ⟨r5,r1,r4,rfl,aU.of aC,?_,cH.ofU (s5 _ _ h4)⟩;rw[pq];exact cH.of ((s3.trans (s4.trans s5)) _ _ h2)
  |thr p w x us d=>exact Bool.noConfusion (show false=true from hm)
  |lt p x t=>exact Bool.noConfusion (show false=true from hm)
  |tell p t=>exact Bool.noConfusion (show false=true from hm)
theorem bS1{cT:Addr}(m_THROWS:mg "THROWS"=some (.ref cT))(hT:∀H,aU K H cT (dR.map V.str)){cF cF0 cF1:Addr}(m_FREE:mg "FREE"=some (.ref cF))(hF:∀H,aU K H cF [.ref cF0,.ref cF1]/\cH K H cF0 (1,1)/\cH K H cF1 (0,1))(C_Ned:Cl P w K mg base 5 spNeeded "needed")(C_PlO:Cl P w K mg base 4 spPlOf "places_of")(C_IsR:Cl P w K mg base 1 spIsRow "is_row")(C_IsI:Cl P w K mg base 2 spIsI "is_idle")(C_POR:Cl P w K mg base 7 (aR2 K) "price_of_row")(C_PMd:Cl P w K mg base 5 (aE3 K) "price_made")(C_PRI:Cl P w K mg base 2 spPRI "parts_right_in")(C_PlI:Cl P w K mg base 3 spPlRI "places_right_in"):eQ P w K mg base "prices_of" "prices_of" cE4 9 ["program","kind"] (aQ0 K):=by
 refine fS ["program","kind","names","prices","place","part"] fun H Q nd hr h=>?_
 obtain⟨p,xs,rs,kn,n,rfl,P0,N0,hkn,k⟩:=h;have hu:=kK hr;refine⟨_,(dX 2 nd (bN C_Ned hr (aP (pv 0)))
  (dX 3 nd aN4
  (aF (pfr (cX (bN C_PlO hr (aP (bK aG (pv 0) aD)))) (lH rfl (bH (gG 4 nd) (bH (gG 5 nd) gN)))
  (aE (bL (PW.pt (hX (iI (bN C_IsR hr (aP (pv 5)))) (gQ (iI (bN C_IsI hr (aA (pv 5) (aP (pv 2)))))))) (aE (pdp hu (pv 3) (pv 4) (pgl m_FREE))) (aE (bL (PW.pt (hX (iI (bN C_IsR hr (aP (pv 5)))) (gQ (mK (lM (bN C_PRI hr (aP (pv 5))) (fun _=>rfl)))))) (aE (pdp hu (pv 3) (pv 4) (bN C_POR hr (aA (pv 5) (aP (pv 1)))))) (aE (pdp hu (pv 3) (pv 4) (bN C_PMd hr (aA (pv 5) (aP (cU ["inner","prices"] [none,some 3] (cX (bN C_PlI hr (aA (pv 4) (aP (pv 5))))) (fun _ _ _ _=>(gG 0)) (fun _ _ _ _=>eS) (fun _ _ _ _=>(yV hu (pv 1) (pv 0))))))))))))))
  (aE (aM (pv 3)))))),?_⟩
 have c0:=P0.cnt;have hdp:=P0.dp;obtain⟨v0,pr,hp,hpr⟩:=P0.ex;obtain⟨pk,ks,w0,_,_,eks,_,n3,hkd⟩:=N0;refine⟨_,rfl,p,xs,rs,rfl,P0,fun np ss H1 s1 h1 nds=>?_⟩;refine fun d hd1=>?_
 obtain⟨H2,e0,s2,h2d⟩:=sF hd1 (.dT []);rw[e0];clear e0;have s12:=s1.trans s2;refine⟨_,rfl,p,_,_,.ref pr,rfl,rfl,aU.of (s12 _ _ hp),rfl,pr,rs,n,rfl,s12 _ _ hpr,aS.ts (.of s12) rs P0.rows,c0,hdp,hkd,fun r3 zs H3 s3 h3 tz=>?_⟩;have h3d:=s3 _ _ h2d;have s13:=s2.trans s3;have s03:=s1.trans s13;have h31:=s13 _ _ h1;have n3d:r3≠d:=fun z=>by rw[z,h3d] at h3;cases h3
 have ol:=aD7 (pl:=[]) (p:=pr) (rs:=rs);have nd:=bY7 [] pr rs;have ah:=bH9 [] pr rs;have al:∀e∈dZ ([],Pt.rows pr rs),PtH H3 e.2/\e.1.length<=7/\e.2.kids.length<=aZ rs+2/\e.2.ld<=6/\∀q,e.2= .row q->KdR n q:=fun e he=>by
  have:=aA9 hkd e he;have:=P0.ld;exact⟨bM8 (s03 _ _ hpr) (aS.ts (.of s03) rs P0.rows) e he,by lia,aO7 e he,by lia,(aA9 hkd e he).2.2⟩
 have la:=sO ([],Pt.rows pr rs);have k':∀H' kvs v,aR H H'->H' d=some (.dT kvs)->cD kvs ([]:List Key)=some v->fL K H' v (iT ss kn rs)->Q (.ref d) H':=fun H' kvs v a b c e=>k H' d kvs ss v a b nds c e
 clear k hkd;generalize eL:dZ ([],Pt.rows pr rs)=L at tz ol nd ah al la;have lz:=tz.length;refine⟨r3,rfl,⟨_,bG.of h3⟩,gR (K:=K) (a:=r3) (xs:=zs) (fun i σ G=>∃(kvs:List (List Key×V)) (v4 v5:Option V),σ=[some (.ref p),some (.int kn),some (.ref np),some (.ref d),v4,v5]/\nW d H3 G/\G d=some (.dT kvs)/\kvs.length<=i/\pQ K G kvs ss kn (L.take i))
  ⟨[],_,_,rfl,nW.refl _ _,h3d,ai _,fun e he=>absurd he bu⟩ (by rintro i σ G _ ⟨_,_,_,_,o,_⟩;exact bG.of (o _ _ n3d h3)) ?_ ?_⟩
 ·rintro D' i v σ G hv ⟨kvs,v4,v5,rfl,o,gd,lk,kw⟩;obtain⟨⟨pl,e⟩,he,q,a,rfl,hq,ha⟩:=iZ tz hv;have il:=(ap.mp he).1;obtain⟨pe3,l7,kl,ld6,ekd⟩:=al _ (bj he);have ts:=o.ts h3d;have pe:=pe3.ts ts;have ga:=ts _ _ ha;have gn:G np=some (.tup (ss.map V.str)):=ts _ _ h31;refine⟨q,_,rfl,aU.of (ts _ _ hq),rfl,_,_,rfl,_,_,rfl,rfl,?_⟩;have fin:∀G1 v,aR G G1->fL K G1 v (e.pr ss kn)->∃H4,kF G1 d (.ref a) v H4/\∃(kvs:List (List Key×V)) (v4 v5:Option V),[some (V.ref p),some (V.int kn),some (V.ref np),some (V.ref d),some (V.ref a),some (V.ref e.p)]=[some (.ref p),some (.int kn),some (.ref np),some (.ref d),v4,v5]/\nW d H3 H4/\H4 d=some (.dT kvs)/\kvs.length<=i+1/\pQ K H4 kvs ss kn (L.take (i+1)):=fun G1 v sg hp=>by
   have g1d:=sg _ _ gd;refine⟨_,kF.t (k:=kyP pl) g1d (by rw[aN5];exact sg _ _ ga) (iY (by lia)),_,_,_,rfl,(o.trans (nW.of sg)).trans nW.upd,aC,by have:=eU kvs (kyP pl) v;lia,?_⟩;exact pQ.put (e:=(pl,e)) (H:=G) kw nd he ((nW.of sg).trans nW.upd) gd (hp.off nW.upd g1d)
  refine⟨_,rfl,e,rfl,pe,_,rfl,?_⟩
  by_cases ci:∃r,e= .row r/\idl ss r=true
  ·obtain⟨r,rfl,ci⟩:=ci;refine bI rfl ⟨_,rfl,_,rfl,r,np,ss,rfl,pe,gn,_,rfl,bI ci ?_⟩;obtain⟨H4,dp,z⟩:=fin G (.ref cF) (aR.refl _) (by
    show fL K G (.ref cF) (lT ss kn r);rw[bV2 ci];exact⟨cF,cF0,cF1,rfl,(hF _).1,(hF _).2.1,(hF _).2.2⟩)
   exact⟨_,rfl,_,rfl,d,H4,rfl,dp,z⟩
  have els:∀{A B:Prop},((e.isRow=false->B)/\(∀r,e= .row r->idl ss r=false->B))->B:=fun {A B} ⟨x,y⟩=>by
   cases e with
   |rows _ _=>exact x rfl
   |row r=>exact y r rfl (by simpa using fun z=>ci ⟨r,rfl,z⟩)
  by_cases cr:∃r,e= .row r/\(Pt.row r).kids=[]
  ·obtain⟨r,rfl,ck⟩:=cr;have nid:idl ss r=false:=by simpa using fun z=>ci ⟨r,rfl,z⟩
   refine bI rfl ⟨_,rfl,_,rfl,r,np,ss,rfl,pe,gn,_,rfl,aW (by rw[nid];decide) ?_⟩;refine⟨_,rfl,Pt.row r,rfl,pe,_,rfl,bI rfl ?_⟩;refine⟨_,rfl,Pt.row r,rfl,pe,fun r5 G5 s5 n5 h5=>⟨_,.inl ⟨_,bG.of h5,rfl⟩,?_⟩⟩;rw[ck];refine bI rfl ?_;refine⟨_,rfl,_,rfl,r,kn,rfl,dO.ts (.of s5) r pe,fun p' w' x' u' d' ed=>?_,fun G6 v6 s6 h6=>?_⟩
   ·have:=ekd _ rfl;rw[ed] at this;have t:(d'.kd:Int)=n:=this;lia
   ·obtain⟨H4,dp,z⟩:=fin G6 v6 (s5.trans s6) (by
     show fL K G6 v6 (lT ss kn r);rw[bZ3 nid ck];exact h6)
    exact⟨_,rfl,_,rfl,d,H4,rfl,dp,z⟩
  have hm:e.made=true:=by
   cases e with
   |rows _ _=>rfl
   |row r=>exact aT1 fun z=>cr ⟨r,rfl,z⟩
  have last:∀G5,aR G G5->aX2 (iS 3) (iS 4) (pR (aE3 K) [] E0 (iX (iS 5) (iX (bB0 (bN1 K (pR spPlRI [] E0 (iX (iS 4) (iX (iS 5) tNil)))) [none,some 3] (sN 0) tYes (bC1 (iS 1) (iS 0))) tNil)))
    { D' with nx:=fun σ G=>∃(kvs:List (List Key×V)) (v4 v5:Option V),σ=[some (.ref p),some (.int kn),some (.ref np),some (.ref d),v4,v5]/\nW d H3 G/\G d=some (.dT kvs)/\kvs.length<=i+1/\pQ K G kvs ss kn (L.take (i+1)),ct:=fun σ G=>∃(kvs:List (List Key×V)) (v4 v5:Option V),σ=[some (.ref p),some (.int kn),some (.ref np),some (.ref d),v4,v5]/\nW d H3 G/\G d=some (.dT kvs)/\kvs.length<=i+1/\pQ K G kvs ss kn (L.take (i+1)),bk:=D'.nx } [some (V.ref p),some (V.int kn),some (V.ref np),some (V.ref d),some (V.ref a),some (V.ref e.p)] G5:=fun G5 s5=>by
   refine⟨_,rfl,_,rfl,_,rfl,(pl,e),a,rfl,s5 _ _ ga,(show pl.length<=100 by have:pl.length<=7:=l7;lia),(show e.kids.length<=4000 by have:e.kids.length<=aZ rs+2:=kl;lia),pe.ts (.of s5),fun r6 ys6 G6 s6 n6 h6 t6=>⟨r6,rfl,⟨_,bG.of h6⟩,?_⟩⟩;have l6:=t6.length;rw[ae,jG] at l6;replace l6:ys6.length=e.kids.length:=l6;have kl':e.kids.length<=aZ rs+2:=kl;have s56:=s5.trans s6;refine dI (K:=K) (a:=r6) (xs:=ys6) (fun j us σ G'=>G'=G6/\(∃v,σ=[v,some (.ref d)])/\dL (fL K G6) us ((e.kids.map (Pt.pr ss kn)).take j))
    (iY (by lia)) ⟨rfl,⟨_,rfl⟩,trivial⟩ (by rintro j us σ G' ⟨_,_,z⟩;rw[z.length,du];lia) (by rintro j us σ G' _ ⟨z,_⟩;rw[z];exact bG.of h6) ?_ ?_
   ·rintro j y us σ _ hy ⟨rfl,⟨v',rfl⟩,tu⟩;have jl:=(ap.mp hy).1;have jk:j<e.kids.length:=by lia
    obtain⟨ky,hky,b,rfl,hb⟩:=iZ t6 hy;rw[pL (e:=(pl,e)) jk] at hky;injection hky with hky
    subst hky;have ec:=vE (e:=(pl,e)) (ak jk);obtain⟨u,hu1,hu2⟩:=kw _ (bV7 ah he _ (bj ec));have dg:=fE.t (k:=kyP (pl++[(j:Int)])) (s56 _ _ gd) (by rw[aN5];exact hb);rw[show cD kvs (kyP (pl++[(j:Int)]))=some u from hu1] at dg;refine⟨_,rfl,_,rfl,d,u,rfl,dg,rfl,⟨_,rfl⟩,?_⟩;rw[bE (show(e.kids.map (Pt.pr ss kn))[j]?=some (Pt.pr ss kn e.kids[j]) by rw[cm,ak jk];rfl)];exact dL.append tu ⟨hu2.s s56,trivial⟩
   rintro us σ Gx ⟨ex,_,tu⟩ l9 hl9;replace ex:=ex.symm;subst ex;rw[l6, <-ae (f:=Pt.pr ss kn) (as:=e.kids),dk] at tu;obtain⟨G9,e0,s9,h9⟩:=sF hl9 (.lst us);rw[e0];clear e0;have s59:=s56.trans s9;refine⟨e,l9,us,ss,kn,n,rfl,pe.ts (.of s59),hm,ld6,ekd,by lia,h9,tu.mono fun _ _ z=>z.s s9,fun G10 v10 s10 h10=>?_⟩;obtain⟨H4,dp,z⟩:=fin G10 v10 (s59.trans s10) h10;exact⟨_,rfl,_,rfl,d,H4,rfl,dp,z⟩
  cases e with
  |rows pp rr =>
   refine aW (fun z=>Bool.noConfusion (show false=true from z)) (aW (by decide) ?_);refine⟨_,rfl,Pt.rows pp rr,rfl,pe,_,rfl,aW (fun z=>Bool.noConfusion (show false=true from z)) (aW (by decide) ?_)⟩;exact last G (aR.refl _)
  |row r =>
   have nid:idl ss r=false:=by simpa using fun z=>ci ⟨r,rfl,z⟩
   have nk:(Pt.row r).kids≠[]:=fun z=>cr ⟨r,rfl,z⟩
   refine bI rfl ⟨_,rfl,_,rfl,r,np,ss,rfl,pe,gn,_,rfl,aW (by rw[nid];decide) ?_⟩;refine⟨_,rfl,Pt.row r,rfl,pe,_,rfl,bI rfl ?_⟩;refine⟨_,rfl,Pt.row r,rfl,pe,fun r5 G5 s5 n5 h5=>⟨_,.inl ⟨_,bG.of h5,rfl⟩,?_⟩⟩;have ne:(lW (Pt.row r).kids).isEmpty=false:=by
    cases q:(Pt.row r).kids with
    |nil=>exact absurd q nk
    |cons _ _=>rfl
   rw[ne];exact aW (by decide) (last G5 s5)
 ·rintro σ G ⟨kvs,v4,v5,rfl,o,gd,lk,kw⟩;rw[lz,dk] at kw;obtain⟨u,h1',h2'⟩:=kw _ la;exact⟨_,rfl,k' G kvs u (nW.same s1 ((nW.of s13).trans o) (s1.free hd1)) gd h1' h2'⟩
theorem bQ7(C_Ask:Cl P w K mg base 3 spAsked "names_asked"):eQ P w K mg base "names_behind" "names_behind" cF3 4 ["rows"] spNB:=by
 refine fS ["rows","behind","row"] fun H Q nd hr h=>?_
 obtain⟨lr,xs,fl,rfl,hl,hR,ok,hn,k⟩:=h;have hr1:cY 1 _:=hr.mono (by decide);refine⟨_,(dX 1 nd yH
  (aF (pfr (cX (pv 0)) (gG 2 nd)
  (aE (bL (fY cA (bK aG (pv 2) aD) aJ) (aE (bZ (eJ bq eu fc dJ (bK5 (pv 1) (bK aG (pv 2) aD) (bJ bS) ⟨rfl,rfl,rfl,rfl⟩) (aP (bN C_Ask hr (aP (pv 2))))))) aX)))
  (aE (aM (pv 1))))),?_⟩
 refine fun d hd=>?_
 have b0:BI H (aO H d (.dK [])) d [] [] 0:=⟨aB hd _,hd,aC,ai _,fun x=> .inl ⟨rfl,rfl⟩,fun x y l h=>by cases h⟩
 generalize aO H d (.dK [])=H1 at b0 ⊢;refine⟨_,rfl,lr,rfl,⟨_,bG.of (b0.sm _ _ hl)⟩,gR (K:=K) (a:=lr) (xs:=bA fl) (fun i σ G=>∃(kvs:List (Key×V)) (v2:Option V),σ=[some (.ref lr),some (.ref d),v2]/\BI H G d kvs (fl.take i) i)
  ⟨[],_,rfl,b0⟩ (by rintro i σ G _ ⟨_,_,_,e⟩;exact bG.of (e.sm _ _ hl)) ?_ ?_⟩
 ·rintro D' i v σ G hv ⟨kvs,v2,rfl,b1⟩;obtain⟨r,rfl,hr0⟩:=vO hv;have mr:=bj hr0;have hr1:=dO.ts (.of b1.sm) r (hR.mem r mr);have bi:=b1.ln;have il:=(ap.mp hr0).1;refine⟨_,rfl,r.p,_,_,.str r.w,rfl,rfl,aU.of hr1.at,iV,rfl,_,rfl,?_⟩
  by_cases c:r.w="let"
  ·refine bI (by rw[c];exact ag rfl) ?_;obtain⟨p,x,t,rfl⟩:=bT4 hr1 c;have okr:=ok _ mr;refine⟨_,rfl,d,rfl,bM1 b1.dc,_,rfl,p,_,_,.str x,rfl,rfl,aU.of hr1.1,at1,bo _,fun l0 hl0=>⟨kvs,Sum.inr x,(aB hl0 _) _ _ b1.dc,rfl,aG6 (by lia),fun v hv=>?_,fun hv=>?_⟩⟩
   ·have b2:=b1.same (aB hl0 (.lst []));have s2:=aB hl0 (.lst []);generalize aO G l0 (.lst [])=G2 at b2 s2 ⊢;obtain⟨l,rfl,hl2⟩:∃l,v= .ref l/\G2 l=some (.lst (((fl.take i).flatMap (Rw.lets x)).map V.str)):=by
     rcases b2.vl x with⟨h,_⟩|⟨l,h1,h2,_⟩
     ·rw[h] at hv;cases hv
     ·rw[h1] at hv;cases hv;exact⟨l,rfl,h2⟩
    refine⟨.inl ⟨rfl,_,bG.of hl2⟩,_,rfl,.lt p x t,rfl,dO.ts (.of s2) _ hr1,fun q H3 s3 h3=>?_⟩;have b3:=b2.same s3;refine⟨l,q,_,_,rfl,rfl,s3 _ _ hl2,h3,aD2 (p:=p) ok hn okr,kvs,_,rfl,?_⟩;rw[bE hr0];exact(b3.more hv).up (sv _)
   ·have b2:=b1.new hl0 hv;have ts2:TS G (aO (aO G l0 (.lst [])) d (.dK (dB kvs (Sum.inr x:Key) (.ref l0)))):=fun a ys h=>by
     rw[aH (gH h b1.dc (by intro z;cases z)),aH (aI h hl0)];exact h
    have hv2:cD (dB kvs (Sum.inr x:Key) (.ref l0)) (Sum.inr x:Key)=some (.ref l0):=by rw[lN,bv rfl]
    generalize aO (aO G l0 (.lst [])) d (.dK (dB kvs (Sum.inr x:Key) (.ref l0)))=G2 at b2 ts2 ⊢;generalize dB kvs (Sum.inr x:Key) (.ref l0)=kvs2 at b2 hv2 ⊢;have hl2:G2 l0=some (.lst (((fl.take i).flatMap (Rw.lets x)).map V.str)):=by
     rcases b2.vl x with⟨h,_⟩|⟨l,h1,h2,_⟩
     ·rw[h] at hv2;cases hv2
     ·rw[h1] at hv2;cases hv2;exact h2
    refine⟨.inl ⟨rfl,_,bG.of hl2⟩,_,rfl,.lt p x t,rfl,dO.ts ts2 _ hr1,fun q H3 s3 h3=>?_⟩;have b3:=(b2.same s3).more (p:=p) (t:=t) hv2;exact⟨l0,q,_,_,rfl,rfl,s3 _ _ hl2,h3,aD2 (p:=p) ok hn okr,_,_,rfl,by rw[bE hr0];exact b3⟩
  ·refine aW (fun z=>c (by have z:=af z;injection z)) ?_;refine⟨kvs,_,rfl,?_⟩;rw[bE hr0];exact b1.skip (aS2 c)
 ·rintro σ G ⟨kvs,v2,rfl,b1⟩;rw[bD,dk] at b1;exact⟨_,rfl,k d G b1.sm hd b1.bh⟩
theorem bW0(C_SeN:Cl P w K mg base 1 spSetsN "sets_name"):eQ P w K mg base "is_idle" "is_idle" cI1 2 ["row","names"] spIsI:=by
 refine fS ["row","names"] fun H Q nd hr h=>?_
 obtain⟨r,np,ss,rfl,hr0,hn,k⟩:=h;refine⟨_,(aE (aM (mJ (bN C_SeN hr (aP (pv 0))) (mH (pec uO (bK aG (pv 0) aD) (pv 1)))))),?_⟩;refine⟨_,rfl,r,rfl,hr0,_,rfl,?_⟩
 cases e:r.sets with
 |none =>
  rw[aS6 e] at k;exact aW (by decide) k
 |some x =>
  rw[aN7 e] at k;obtain⟨vs,hv⟩:=bF1 hr0 e;refine bI rfl ?_;refine⟨_,rfl,r.p,_,_,.str x,rfl,rfl,aU.of hv,at1,_,rfl,np,_,rfl,.inr (aU.of hn),rfl,iE _,?_⟩;rw[aC7];exact k
theorem bP1(C_RwI:Cl P w K mg base 4 spRowsP "rows_in")(C_NmB:Cl P w K mg base 4 spNB "names_behind")(C_Ask:Cl P w K mg base 3 spAsked "names_asked")(m_tuple:mg "tuple"=none)(m_sorted:mg "sorted"=none):eQ P w K mg base "needed" "needed" cI4 5 ["program"] spNeeded:=by
 refine fS ["program","rows","behind","found","waiting","row","name"] fun H Q nd hr h=>?_
 obtain⟨p,xs,rs,rfl,P0,k⟩:=h;have hu:=kK hr;have hr1:cY 1 _:=hr.mono (by decide);refine⟨_,(dX 1 nd (bN C_RwI hr (aP (pv 0)))
  (dX 2 nd (bN C_NmB hr (aP (pv 1)))
  (dX 3 nd yH
  (dX 4 nd (bJ bS)
  (aF (pfr (cX (pv 1)) (gG 5 nd)
  (aE (bL (fY eX (bK aG (pv 5) aD) (aV (aA aJ (aP aJ)))) (aE (bZ (eJ bq eu fc dJ (pv 4) (aP (bN C_Ask hr (aP (pv 5))))))) aX)))
  (aF (iJ jg (lM (pv 4) (fun _=>rfl))
  (dX 6 nd (qY bq jz ka sJ (pv 4))
  (aE (bL (bU6 (aK7 hu (pv 6) (pv 3))) (aF (pdp hu (pv 3) (pv 6) bN3)
  (aE (bZ (eJ bq eu fc dJ (pv 4) (aP (aZ2 hu (pv 2) (pv 6) (bJ bS) ⟨rfl,rfl,rfl,rfl⟩)))))) aX))))
  (aE (aM (pct bQ m_tuple fi (aP (tL (xQ hr1) m_sorted PyProof.Rows.boot_sorted (aP (pv 3))))))))))))),?_⟩
 have f13:=P0.fl;have okf:=P0.okf;refine⟨_,rfl,p,xs,rs,rfl,P0,fun r1 H1 s1 n1 h1=>?_⟩;have rH:=aS.ts (.of s1) _ (aS.flat rs P0.rows);generalize hfl:cK rs=fl at f13 okf h1 rH;refine⟨_,rfl,r1,xs,fl,rfl,h1,rH,okf,f13,fun d2 H2 s2 n2 b2=>?_⟩;refine fun df hdf=>?_
 have s3:=aB hdf (.dK []);have h3:aO H2 df (.dK []) df=some (.dK (xG [])):=aC;generalize aO H2 df (.dK [])=H3 at s3 h3 ⊢;refine⟨bo _,fun lw hlw=>?_⟩;obtain⟨H4,e0,s4,h4⟩:=sF hlw (.lst []);rw[e0];clear e0;have n4:H2 lw=none:=s3.free hlw;refine⟨_,rfl,r1,rfl,⟨_,bG.of ((s2.trans (s3.trans s4)) _ _ h1)⟩,gR (K:=K) (a:=r1) (xs:=bA fl) (fun i σ G=>∃(v5 v6:Option V),σ=[some (.ref p),some (.ref r1),some (.ref d2),some (.ref df),some (.ref lw),v5,v6]/\aR H3 G/\G lw=some (.lst (((fl.take i).flatMap Rw.told).map V.str)))
  ⟨_,_,rfl,s4,h4⟩ (by rintro i σ G _ ⟨_,_,_,e,_⟩;exact bG.of ((s2.trans (s3.trans e)) _ _ h1)) ?_ ?_⟩
 ·rintro D' i v σ G hv ⟨v5,v6,rfl,s5,h5⟩;obtain⟨r,rfl,hr0⟩:=vO hv;have mr:=bj hr0;have il:=(ap.mp hr0).1;have hr1:=dO.ts (.of (s2.trans (s3.trans s5))) r (rH.mem r mr);have tl:=tV (fl:=fl.take i) (fun r hr=>okf r (sf hr));have al:=(okf r mr).asked.1;rw[du] at tl;refine⟨_,rfl,r.p,_,_,.str r.w,rfl,rfl,aU.of hr1.at,iV,dA,fun t2 ht2=>?_⟩;have s6:=aB ht2 (.tup [.str "tell",.str "when"]);refine⟨t2,[.str "tell",.str "when"],rfl,.inr (aU.of aC),rfl,by decide,_,rfl,?_⟩;generalize aO G t2 (.tup [.str "tell",.str "when"])=G6 at s6 ⊢;have ei:yL (V.str r.w) [.str "tell",.str "when"]=decide (r.w∈(["tell","when"]:List Str)):=gY _ ["tell","when"];rw[bK3 hr0]
  by_cases c:r.w∈(["tell","when"]:List Str)
  ·refine bI (ei.trans (ag c)) ?_;refine⟨_,rfl,.inl ⟨rfl,_,bG.of (s6 _ _ h5)⟩,_,rfl,r,rfl,dO.ts (.of s6) r hr1,fun q H7 s7 h7=>?_⟩;refine⟨lw,q,_,_,rfl,rfl,(s6.trans s7) _ _ h5,h7,cu (aG6 (by rw[ae,ae];lia)),_,_,rfl,cV (s5.trans (s6.trans s7)) hlw,?_⟩;rw[aC,bK8 hr1 c,cy]
  ·refine aW (fun z=>c (af (ei.symm.trans z))) ?_;refine⟨_,_,rfl,s5.trans s6,?_⟩;rw[aQ9 c,gv];exact s6 _ _ h5
 rintro σ G ⟨v5,v6,rfl,s5,h5⟩;rw[bD,dk] at h5;have tl:=tV okf;have pl:=aP8 okf [] xs;have xl:=P0.xl;have pl2:xs.length*(7*fl.length)<=12*(7*fl.length):=jp _ xl;have b5:aR H2 G:=s3.trans s5;have h35:=s5 _ _ h3;have ndl:lw≠df:=(aI h3 hlw).symm;refine⟨fun m σ G=>∃(fs ws:List Str) (v6:Option V),σ=[some (.ref p),some (.ref r1),some (.ref d2),some (.ref df),some (.ref lw),v5,v6]/\aR H2 G/\G df=some (.dK (xG fs))/\G lw=some (.lst (ws.map V.str))/\WL fl fs ws/\m=ws.length+pot fl xs fs/\m<=500000,
  ⟨_,[],_,v6,rfl,b5,h35,h5,WL.init fl,rfl,by lia⟩,?_⟩
 clear h5 h35 b5 s5 s4 h4;rintro m σ G ⟨fs,ws,v6,rfl,s5,g1,g2,wl,rfl,mb⟩;refine⟨_,rfl,_,.inl ⟨_,bG.of g2,rfl⟩,?_⟩;have fx:∀x∈fs,x∈xs:=fun x hx=>wR okf (wl.need x (.inl hx))
 have fsl:=aD1 wl.nd fx;rcases wq ws with rfl|⟨ws,x,rfl⟩
 ·refine aW (by simp) ?_;refine⟨_,rfl,df,_,fs,rfl,g1,bD7 fs,by rw[aX9];lia,fun ts' pm st l hl=>⟨l,_,rfl,.inl ⟨bG.of aC,fun t ht=>?_⟩⟩⟩;refine k t ts' _ (s1.trans (s2.trans (s5.trans ((aB hl _).trans (aB ht _))))) aC ⟨pm.symm.nodup wl.nd,st,fun x=>?_⟩;rw[pm.mem_iff,hfl];exact wl.done x
 ·rw[wu] at *;refine bI (by simp) ?_;rw[cy,en,ut] at g2;rw[aj,cf,jx] at mb;refine⟨fun σ' G'=>∃(fs' ws':List Str) (v6:Option V),σ'=[some (.ref p),some (.ref r1),some (.ref d2),some (.ref df),some (.ref lw),v5,v6]/\aR H2 G'/\G' df=some (.dK (xG fs'))/\G' lw=some (.lst (ws'.map V.str))/\WL fl fs' ws'/\ws'.length+pot fl xs fs' + 1<=ws.length+1+pot fl xs fs,
   (by rintro σ' G' ⟨fs',ws',v6',e1,e2,e3,e4,e5,e6⟩;exact⟨_,by rw[aj,cf,jx];lia,fs',ws',v6',e1,e2,e3,e4,e5,rfl,by lia⟩),?_⟩
  refine⟨_,rfl,.inl ⟨rfl,_,bG.of g2⟩,lw,_,V.str x,rfl,rfl,g2,by simp,?_⟩;rw[nh];have s6:=cV (ys:=ws.map V.str) s5 n4;have g3:aO G lw (.lst (ws.map V.str)) lw=some (.lst (ws.map V.str)):=aC;have g4:aO G lw (.lst (ws.map V.str)) df=some (.dK (xG fs)):=(aH ndl.symm).trans g1;generalize aO G lw (.lst (ws.map V.str))=G1 at s6 g3 g4 ⊢;refine⟨_,rfl,_,rfl,df,_,rfl,fE.k (k:=Sum.inr x) g4,_,rfl,?_⟩;rw[yW]
  by_cases c:x∈fs
  ·rw[bv c];refine aW (by decide) ?_;exact⟨fs,ws,_,rfl,s6,g4,g3,wl.skip c,by lia⟩
  ·rw[ay c];refine bI (by decide) ?_;have ps:=yT fl c (wR okf (wl.need x (.inr (by simp))));have dp:=kF.k (k:=(Sum.inr x:Key)) (v:=V.bl true) g4 (aN (by rw[aX9];lia));rw[bU8 c] at dp;refine⟨_,rfl,_,rfl,df,_,rfl,dp,?_⟩;have s7:aR H2 (aO G1 df (.dK (xG (fs++[x])))):=fun a o e=>(aH (aI e hdf)).trans (s6 a o e)
   have g5:aO G1 df (.dK (xG (fs++[x]))) df=some (.dK (xG (fs++[x]))):=aC;have g6:aO G1 df (.dK (xG (fs++[x]))) lw=some (.lst (ws.map V.str)):=(aH ndl).trans g3;generalize aO G1 df (.dK (xG (fs++[x])))=G2 at s7 g5 g6 ⊢;obtain⟨kvs,hb,hv⟩:=b2.same s7;refine⟨_,rfl,.inl ⟨rfl,_,bG.of g6⟩,_,rfl,d2,rfl,bM1 hb,_,rfl,bo _,fun l8 hl8=>?_⟩;obtain⟨G3,e0,s8,g8⟩:=sF hl8 (.lst []);rw[e0];clear e0;refine⟨_,fE.k (k:=Sum.inr x) (s8 _ _ hb),?_⟩;have ll:=pA okf x;obtain⟨l9,e9,h9⟩:∃l9,(cD kvs (Sum.inr x:Key)).getD (.ref l8)= .ref l9/\G3 l9=some (.lst ((fl.flatMap (Rw.lets x)).map V.str)):=by
    rcases hv x with⟨e,e0⟩|⟨l,e,e0⟩
    ·rw[e,e0];exact⟨l8,rfl,g8⟩
    ·rw[e];exact⟨l,rfl,s8 _ _ e0⟩
   rw[e9];refine⟨lw,l9,_,_,rfl,rfl,s8 _ _ g6,h9,cu (aG6 (by rw[ae,ae];lia)),fs++[x],ws++fl.flatMap (Rw.lets x),_,rfl,cV (s7.trans s8) n4,(aH ndl.symm).trans (s8 _ _ g5),by rw[aC,cy],wl.take c,by rw[aj];lia⟩
theorem bU0(C_Prs:Cl P w K mg base 9 (aQ0 K) "prices_of"):eQ P w K mg base "price" "price" cH1 10 ["program","kind"] (bD3 K):=by
 refine fS ["program","kind"] fun H Q nd hr h=>?_
 obtain⟨p,xs,rs,kn,n,rfl,P0,N0,hkn,k⟩:=h;have hu:=kK hr;refine⟨_,(aE (aM (yV hu (bN C_Prs hr (aA (pv 0) (aP (pv 1)))) (aV bS)))),?_⟩;refine⟨_,rfl,_,rfl,p,xs,rs,kn,n,rfl,P0,N0,hkn,fun H1 d kvs ss v s1 h1 nds hv hp=>⟨bo _,fun t ht=>?_⟩⟩;have dg:=fE.t (k:=[]) ((aB ht (.tup [])) _ _ h1) aC;rw[hv] at dg;exact⟨d,v,rfl,dg,k _ ss v (s1.trans (aB ht _)) nds (hp.s (aB ht _))⟩
theorem bU9(C_AsS:Cl P w K mg base 1 spAsS "as_steps")(C_Inn:Cl P w K mg base 2 spInner "inner_steps")(m_reversed:mg "reversed"=none):eQ P w K mg base "steps_of" "steps_of" cB1 3 ["rows"] spSteps:=by
 refine fS ["rows","steps","count","waiting","step","row"] fun H Q nd hr h=>?_
 obtain⟨p,rs,rfl,hp,hR,hc,k⟩:=h;refine⟨_,(dX 1 nd (bJ bS)
  (dX 2 nd aD
  (aF (aI2 ["step"] [none] (i:=3) nd rfl (iz rfl) (aO9 (bN C_AsS hr (aP (pv 0))) (by rfl) m_reversed) (fun _ _ _ _=>(gG 0)) (fun _ _ _ _=>eS) (fun _ _ _ _=>(aV (aA (bK (oW K) (pv 0) aD) (aA (bK (oW K) (pv 0) aD) (aP uL))))))
  (aF (iJ jg (lM (pv 3) (fun _=>rfl))
  (dX 4 nd (qY bq jz ka sJ (pv 3))
  (aE (bL (fY cA (bK aG (pv 4) aD) aJ) (dX 5 nd (bK aG (pv 4) aD)
  (aF (bZ (eJ bq eh ej dD (pv 1) (aP (aV (aA aJ (aA (pv 5) (aP (pv 2))))))))
  (aF (bZ (eJ bq eu fc dJ (pv 3) (aP (cU ["inner","count"] [none,some 2] (aO9 (bN C_Inn hr (aP (pv 5))) (by rfl) m_reversed) (fun _ _ _ _=>(gG 0)) (fun _ _ _ _=>eS) (fun _ _ _ _=>(aV (aA (bK (oW K) (pv 0) aD) (aA (bK (oW K) (pv 0) aD) (aP (pv 1))))))))))
  (aE (bQ8 (i:=2) nd rfl (nq rfl) aD bQ3))))) (aE (bZ (eJ bq eh ej dD (pv 1) (aP (pv 4)))))))))
  (aE (aM (pv 1))))))),?_⟩
 have rl:=iP rs;have tl:=fK rs 0;refine⟨bo _,fun l1 hl1=>?_⟩;obtain⟨H1,e0,s1,h1⟩:=sF hl1 (.lst []);rw[e0];clear e0;refine⟨_,rfl,p,rs,rfl,s1 _ _ hp,by lia,fun r z H2 s2 h2 t2=>⟨r,_,rfl,bG.of h2,?_⟩⟩;have zl:=t2.length;rw[ae] at zl;have t2r:=qI t2;refine xB (K:=K) (a:=r) (xs:=z) (fun i ys σ G=>aR H2 G/\(∃v,σ=[v])/\dL (kU G) ys (((rs.map fun r=>rC 0 (("row": Str),r)).reverse).take i))
  (iY (by lia)) ⟨aR.refl _,⟨_,rfl⟩,trivial⟩ (by rintro i ys σ G ⟨_,_,e⟩;rw[e.length,du];lia) (by rintro i ys σ G _ ⟨e,_⟩;exact bG.of (e _ _ h2)) ?_ ?_
 ·rintro i v ys σ G hv ⟨s3,⟨v',rfl⟩,tw⟩;obtain⟨s,hs,q,rfl,hq⟩:=iZ t2r hv;refine⟨_,rfl,q,_,_,.str s.1,rfl,rfl,aU.of (s3 _ _ hq),rfl,_,rfl,q,_,_,.ref s.2.p,rfl,rfl,aU.of (s3 _ _ hq),rfl,by show 3<=sizeLine;decide,fun t ht=>⟨s3.trans (aB ht _),⟨_,rfl⟩,?_⟩⟩;have hs0:=List.mem_reverse.mp (bj hs);obtain⟨r9,_,e9⟩:=fj.mp hs0;have hs9:((rs.map fun r=>rC 0 (("row": Str),r)).reverse)[i]?=some (rC 0 s):=by
   rw[<-qO, <-vd,cm,hs];rfl
  rw[bE hs9];exact dL.append (tw.mono fun _ _ z=>kU.ts (.of (aB ht _)) z) ⟨⟨t,_,rfl,aC,fun z=>absurd (by rw[<-e9];rfl) z⟩,trivial⟩
 rintro ys σ G ⟨s3,_,tw⟩ lw hlw;have el:z.length=((rs.map fun r=>rC 0 (("row": Str),r)).reverse).length:=by rw[ib,ae];exact zl
 rw[el,dk] at tw;have s4:=s1.trans (s2.trans (s3.trans (aB hlw (.lst ys))));have h4:aO G lw (.lst ys) lw=some (.lst ys):=aC;have ne:lw≠l1:=(aI ((s2.trans s3) _ _ h1) hlw).symm;have g1:aO G lw (.lst ys) l1=some (.lst []):=(aH ne.symm).trans ((s2.trans s3) _ _ h1);have nw:H lw=none:=(s1.trans (s2.trans s3)).free hlw;replace tw:=tw.mono fun _ _ z=>kU.ts (.of (aB hlw (.lst ys))) z
 generalize aO G lw (.lst ys)=H4 at s4 h4 g1 tw ⊢;refine⟨fun m σ G=>∃(em stk:List Stp) (ez wz:List V) (n:Nat) (v4 v5:Option V),σ=[some (.ref p),some (.ref l1),some (.int n),some (.ref lw),v4,v5]/\aR H G/\G l1=some (.lst ez)/\dL (pE G) ez em/\G lw=some (.lst wz)/\dL (kU G) wz stk.reverse/\em++eK n stk=dS 0 rs/\(∀s∈stk,dO H s.2.1/\s.2.1.cnt<=4000)/\m=(eK n stk).length,
  ⟨_,[],rs.map fun r=>rC 0 (("row": Str),r),[],ys,0,none,none,rfl,s4,g1,trivial,h4,tw,(jI rs 0 0).1,fun s hs=>by
   obtain⟨r0,m0,e0⟩:=fj.mp hs;rw[<-e0];have:=vB m0;exact⟨hR.mem _ m0,by show r0.cnt<=4000;lia⟩,rfl⟩,?_⟩
 clear tw h4 g1;rintro m σ G ⟨em,stk,ez,wz,n,v4,v5,rfl,s5,g1,t5,g2,t6,eq,hs,rfl⟩;refine⟨_,rfl,_,.inl ⟨_,bG.of g2,rfl⟩,?_⟩;have lt:=fm List.length eq;rw[aj] at lt;have ls:=nB stk n;have l5:=t5.length;have l6:=t6.length;rw[ib] at l6
 cases stk with
 |nil =>
  obtain rfl:wz=[]:=je.mp l6;refine aW (by simp) ?_;rw[eK,gv] at eq;rw[eq] at t5;exact⟨_,rfl,k l1 ez G s5 hl1 g1 t5⟩
 |cons s cS =>
  rw[gj] at t6;obtain⟨us,u,rfl,t7,q,n0,rfl,hq,hn0⟩:=rK t6;refine bI (by simp) ?_;have hS:=hs s az;rw[cf] at ls l6;rw[aj,cf,jx] at l6;refine⟨fun σ' G'=>∃(em' stk':List Stp) (ez' wz':List V) (n':Nat) (v4 v5:Option V),σ'=[some (.ref p),some (.ref l1),some (.int n'),some (.ref lw),v4,v5]/\aR H G'/\G' l1=some (.lst ez')/\dL (pE G') ez' em'/\G' lw=some (.lst wz')/\dL (kU G') wz' stk'.reverse/\em'++eK n' stk'=dS 0 rs/\(∀s∈stk',dO H s.2.1/\s.2.1.cnt<=4000)/\(eK n' stk').length+1=(eK n (s::cS)).length,
   (by rintro σ' G' ⟨em',stk',ez',wz',n',v4',v5',e1,e2,e3,e4,e5,e6,e7,e8,e9⟩;exact⟨_,by lia,em',stk',ez',wz',n',v4',v5',e1,e2,e3,e4,e5,e6,e7,e8,rfl⟩),?_⟩
  refine⟨_,rfl,.inl ⟨rfl,_,bG.of g2⟩,lw,_,V.ref q,rfl,rfl,g2,by simp,?_⟩;rw[nh];have ts6:=TS.lst (ys:=us) g2;have s6:=cV (ys:=us) s5 nw;have g3:aO G lw (.lst us) lw=some (.lst us):=aC;have g4:aO G lw (.lst us) l1=some (.lst ez):=(aH ne.symm).trans g1;have hq6:=ts6 _ _ hq;replace t5:=t5.mono fun _ _ z=>pE.ts ts6 z
  replace t7:=t7.mono fun _ _ z=>kU.ts ts6 z
  generalize aO G lw (.lst us)=G1 at s6 g3 g4 hq6 t5 t7 ⊢;refine⟨_,rfl,q,_,_,.str s.1,rfl,rfl,aU.of hq6,rfl,rfl,_,rfl,?_⟩
  by_cases c:s.1="row"
  ·refine bI (by rw[c];exact ag rfl) ?_;obtain⟨s1',r0,k0⟩:=s;have c:s1'="row":=c;subst c;have ex:eK n ((("row": Str),r0,k0)::cS)=(("row": Str),r0,n)::eK (n+1) ((eF r0).map (rC n)++cS):=aJ9 rfl;have li:=nB ((eF r0).map (rC n)++cS) (n+1);rw[aj,ae] at li;rw[ex,cf] at lt;refine⟨_,rfl,q,_,_,.ref r0.p,rfl,rfl,aU.of hq6,rfl,?_⟩;refine⟨_,rfl,.inl ⟨rfl,_,bG.of g4⟩,_,rfl,_,rfl,by show 3<=sizeLine;decide,fun t ht=>?_⟩;have s7:=s6.trans (aB ht (.tup [.str "row",.ref r0.p,.int n]));have nt1:l1≠t:=aI g4 ht;have nt2:lw≠t:=aI g3 ht;have g5:aO G1 t (.tup [.str "row",.ref r0.p,.int n]) l1=_:=(aH nt1).trans g4;have g6:aO G1 t (.tup [.str "row",.ref r0.p,.int n]) lw=_:=(aH nt2).trans g3;have et:pE (aO G1 t (.tup [.str "row",.ref r0.p,.int n])) (.ref t) (("row": Str),r0,n):=⟨t,rfl,aC⟩
   replace t5:=t5.mono fun _ _ z=>pE.ts (.of (aB ht (.tup [.str "row",.ref r0.p,.int n]))) z
   replace t7:=t7.mono fun _ _ z=>kU.ts (.of (aB ht (.tup [.str "row",.ref r0.p,.int n]))) z
   generalize aO G1 t (.tup [.str "row",.ref r0.p,.int n])=G2 at s7 g5 g6 et t5 t7 ⊢;refine⟨l1,_,_,rfl,rfl,g5,iY (by lia),?_⟩;have ts8:=TS.lst (ys:=ez++[.ref t]) g5;have s8:=cV (ys:=ez++[.ref t]) s7 hl1;have g7:aO G2 l1 (.lst (ez++[.ref t])) l1=some (.lst (ez++[.ref t])):=aC;have g8:aO G2 l1 (.lst (ez++[.ref t])) lw=some (.lst us):=(aH ne).trans g6;have t8:=dL.append (t5.mono fun _ _ z=>pE.ts ts8 z) (show dL (pE (aO G2 l1 (.lst (ez++[.ref t])))) [.ref t] [(("row": Str),r0,n)] from⟨et.ts ts8,trivial⟩);replace t7:=t7.mono fun _ _ z=>kU.ts ts8 z
   generalize aO G2 l1 (.lst (ez++[.ref t]))=G3 at s8 g7 g8 t8 t7 ⊢;refine⟨_,rfl,.inl ⟨rfl,_,bG.of g8⟩,_,rfl,r0,rfl,dO.ts (.of s8) r0 hS.1,hS.2,fun qi zi H9 s9 h9 t9=>⟨qi,_,rfl,bG.of h9,?_⟩⟩;have t9r:=qI t9;have zl9:=t9.length;refine xB (K:=K) (a:=qi) (xs:=zi) (fun i ys σ G=>aR H9 G/\(∃v,σ=[v,some (.int n)])/\dL (kU G) ys (((eF r0).map (rC n)).reverse.take i))
    (iY (by lia)) ⟨aR.refl _,⟨_,rfl⟩,trivial⟩ (by rintro i ys σ G ⟨_,_,e⟩;rw[e.length,du];lia) (by rintro i ys σ G _ ⟨e,_⟩;exact bG.of (e _ _ h9)) ?_ ?_
   ·rintro i v ys σ G hv ⟨s3,⟨v',rfl⟩,tw⟩;obtain⟨s,hs,q,rfl,hq⟩:=iZ t9r hv;refine⟨_,rfl,q,_,_,.str s.1,rfl,rfl,aU.of (s3 _ _ hq),rfl,_,rfl,q,_,_,.ref s.2.p,rfl,rfl,aU.of (s3 _ _ hq),rfl,_,rfl,by show 3<=sizeLine;decide,fun t ht=>⟨s3.trans (aB ht _),⟨_,rfl⟩,?_⟩⟩;have hs9:(((eF r0).map (rC n)).reverse)[i]?=some (rC n s):=by rw[<-vd,cm,hs];rfl
    rw[bE hs9];exact dL.append (tw.mono fun _ _ z=>kU.ts (.of (aB ht _)) z) ⟨⟨t,_,rfl,aC,fun _=>rfl⟩,trivial⟩
   rintro ys σ G5 ⟨s10,_,tw⟩ l10 hl10;have el:zi.length=((eF r0).map (rC n)).reverse.length:=by rw[ib,ae];exact zl9
   rw[el,dk] at tw;have s11:=s9.trans (s10.trans (aB hl10 (.lst ys)));have h11:aO G5 l10 (.lst ys) l10=some (.lst ys):=aC;have n10:lw≠l10:=aI ((s9.trans s10) _ _ g8) hl10;replace tw:=tw.mono fun _ _ z=>kU.ts (.of (aB hl10 (.lst ys))) z
   generalize aO G5 l10 (.lst ys)=G6 at s11 h11 tw ⊢;have yl:=tw.length;rw[ib,ae] at yl;refine⟨lw,l10,_,_,rfl,rfl,s11 _ _ g8,h11,cu (iY (by lia)),?_⟩;have ts12:=(TS.of s11).trans (TS.lst (ys:=us++ys) (s11 _ _ g8));refine⟨_,rfl,_,_,rfl,rfl,em++[(("row": Str),r0,n)],(eF r0).map (rC n)++cS,_,_,n+1,_,_,rfl,cV (s8.trans s11) nw,(aH ne.symm).trans (s11 _ _ g7),t8.mono fun _ _ z=>pE.ts ts12 z,aC,?_,?_,fun s hs'=>?_,?_⟩
   ·rw[sk];exact dL.append (t7.mono fun _ _ z=>kU.ts ts12 z) (tw.mono fun _ _ z=>kU.ts (TS.lst (s11 _ _ g8)) z)
   ·rw[<-eq,ex];simp
   ·rcases bz.mp hs' with e|e
    ·obtain⟨s9,m9,e9⟩:=fj.mp e;rw[<-e9];exact aX8 hS.1 hS.2 m9
    ·exact hs s (av _ e)
   ·rw[ex,cf]
  ·refine aW (fun z=>c (by have z:=af z;injection z)) ?_;have ex:=kJ (s:=s) (k:=n) (r:=cS) c;have:=nB cS n;rw[ex,cf] at lt;have hn1:=hn0 c;refine⟨_,rfl,.inl ⟨rfl,_,bG.of g4⟩,_,rfl,l1,_,_,rfl,rfl,g4,iY (by lia),?_⟩;have ts8:=TS.lst (ys:=ez++[.ref q]) g4;refine⟨em++[s],cS,_,_,n,_,_,rfl,cV s6 hl1,aC,dL.append (t5.mono fun _ _ z=>pE.ts ts8 z) ⟨⟨q,rfl,by rw[<-hn1];exact ts8 _ _ hq6⟩,trivial⟩,(aH ne).trans g3,t7.mono fun _ _ z=>kU.ts ts8 z,?_,fun s hs'=>hs s (av _ hs'),?_⟩
   ·rw[<-eq,ex];simp
   ·rw[ex,cf]
theorem bP3(C_Sts:Cl P w K mg base 3 spSteps "steps_of"):eQ P w K mg base "rows_in" "rows_in" cH0 4 ["program"] spRowsP:=by
 refine fS ["program"] fun H Q nd hr h=>?_
 obtain⟨p,xs,rs,rfl,P0,k⟩:=h;refine⟨_,(aE (aM (cU ["word","row","number"] [none,none,none] (cX (bN C_Sts hr (aP (bK aG (pv 0) aD)))) (fun _ _ _ _=>(cD3 K (n:=3) rfl (bH (gG 0) (bH (gG 1) (bH (gG 2) gN))))) (fun _ _ _ _=>(vJ (fY cA (pv 0) aJ))) (fun _ _ _ _=>(pv 1))))),?_⟩;obtain⟨v0,pr,hp,hpr⟩:=P0.ex;have tl:=fK rs 0;have c0:=P0.cnt;refine⟨_,rfl,p,_,_,.ref pr,rfl,rfl,aU.of hp,rfl,pr,rs,rfl,hpr,P0.rows,by lia,fun r zs H1 s1 _ h1 t1=>⟨r,rfl,⟨_,bG.of h1⟩,?_⟩⟩;have zl:=t1.length;refine dI (K:=K) (a:=r) (xs:=zs) (fun i ys σ G=>G=H1/\(∃v1 v2 v3,σ=[v1,v2,v3])/\ys=bA ((((dS 0 rs).take i).filter eI).map (·.2.1)))
  (iY (by lia)) ⟨rfl,⟨_,_,_,rfl⟩,rfl⟩ (fun i ys σ G ⟨_,_,e⟩=>by
   rw[e,bD,ae];exact db (qk _ _) (by rw[du];lia)) (by rintro i ys σ G _ ⟨e,_⟩;rw[e];exact bG.of h1) ?_ ?_
 ·rintro i v ys σ G hv ⟨rfl,⟨v1,v2,v3,rfl⟩,rfl⟩;obtain⟨s,hs,q,rfl,hq⟩:=iZ t1 hv;refine⟨q,_,rfl,aU.of hq,rfl,_,_,rfl,_,_,rfl,_,_,rfl,rfl,?_⟩;refine⟨_,rfl,rfl,_,rfl,?_⟩;rw[bE hs,ju,cy,eA]
  by_cases c:s.1="row"
  ·refine bI (by rw[c];exact ag rfl) ⟨_,rfl,rfl,⟨_,_,_,rfl⟩,?_⟩;rw[dm (p:=eI) (ag c)];rfl
  ·refine aW (fun z=>c (by have z:=af z;injection z)) ⟨rfl,⟨_,_,_,rfl⟩,?_⟩;rw[dy (p:=eI) (by unfold eI;simpa using c)];simp[bA]
 ·rintro ys σ G ⟨rfl,_,rfl⟩ l hl;rw[zl,dk,fJ];exact k l _ (s1.trans (aB hl _)) (s1.free hl) aC
theorem bW6  : eQ P w K mg base "begins_rows" "begins_rows" cB8 1 ["word","row"] spBegins:=by
 refine fS ["word","row"] fun H Q nd hr h=>?_
 obtain⟨s,rfl,hr0,k⟩:=h;refine⟨_,(aE (aM (bN9 (pec cA (pv 0) aJ) (mH (mJ (pec cA (pv 0) aJ) (mH (pec eX (bK aG (pv 1) aD) (aV (aA aJ (aP aJ)))))))))),?_⟩;refine⟨_,rfl,rfl,_,rfl,?_⟩;unfold fF opW at k
 by_cases c:s.1="else"
 ·rw[ag c,Bool.true_or] at k;exact bI (by rw[c];exact ag rfl) (k _ (aR.refl _))
 refine aW (fun z=>c (by have z:=af z;injection z)) ?_;rw[dh c,xm] at k;refine⟨_,rfl,rfl,_,rfl,?_⟩
 by_cases c2:s.1="row"
 ·rw[ag c2,xq] at k;refine bI (by rw[c2];exact ag rfl) ?_;refine⟨_,rfl,s.2.1.p,_,_,.str s.2.1.w,rfl,rfl,aU.of hr0.at,iV,dA,fun t2 ht2=>?_⟩;refine⟨t2,(["when","times"]:List Str).map V.str,rfl,.inr (aU.of aC),rfl,iE _,?_⟩;rw[gY];exact k _ (aB ht2 _)
 ·rw[dh c2,Bool.false_and] at k;exact aW (fun z=>c2 (by have z:=af z;injection z)) (k _ (aR.refl _))
theorem bJ6  : eQ P w K mg base "_law_lowest" "_law_lowest" bO0 1 ["_law_top","_law_bottom"] spLow:=by
 refine fS ["_law_top","_law_bottom","_law_one","_law_other"] fun H Q nd hr h=>?_
 obtain⟨a,b,rfl,ha,hb,hz,k⟩:=h;refine⟨_,(aF (zY (i:=2) (j:=3) rfl nd rfl rfl (by decide) rfl rfl (aA (pv 0) (aP (pv 1))) rfl)
  (aF (iJ jg (fY lG (pv 3) aD)
  (aE (zY (i:=2) (j:=3) rfl nd rfl rfl (by decide) rfl rfl (aA (pv 3) (aP (aL iG (pv 2) (pv 3)))) rfl)))
  (aE (aM (aV (aA (aL wU (pv 0) (pv 2)) (aP (aL wU (pv 1) (pv 2))))))))),?_⟩
 have g0:0<gI a b:=vQ hb;have g1:gI a b<2^200*2^200:=Int.lt_of_le_of_lt (bM2 hb) hz;refine⟨_,rfl,_,rfl,_,_,rfl,?_⟩;refine⟨fun j σ H1=>H1=H/\∃(x y:Int),σ=[some (.int a),some (.int b),some (.int x),some (.int y)]/\0<=x/\0<=y/\gI x y=gI a b/\j=y.toNat,⟨_,rfl,a,b,rfl,ha,by lia,rfl,rfl⟩,?_⟩;rintro j σ H1 ⟨rfl,x,y,rfl,hx,hy,hg,rfl⟩;refine⟨_,rfl,_,_,rfl,rfl,_,rfl,?_⟩;refine pH (fun c=>?_) (fun c=>?_)
 ·have yp:0<y:=af c;refine⟨fun σ' H'=>H'=H1/\σ'=[some (.int a),some (.int b),some (.int y),some (.int (x % y))],fun σ' H' ⟨e1,e2⟩=>⟨(x % y).toNat,?_,e1,y,x % y,e2,hy,jo _ (by lia),(xE hx yp).trans hg,rfl⟩,?_⟩
  ·have:=jt x yp;have:=jo x (show y≠0 by lia);lia
  ·exact⟨_,rfl,_,rfl,_,rfl,_,_,rfl,rfl,yp,_,_,rfl,rfl,rfl⟩
 ·have y0:y=0:=by
   have:¬0<y:=fun z=>c (ag z)
   lia
  subst y0;rw[aH9 hx] at hg;subst hg;exact⟨_,rfl,_,rfl,_,_,rfl,rfl,⟨g0,g1⟩,_,rfl,_,rfl,_,_,rfl,rfl,⟨g0,g1⟩,dA,fun p hp=>k p hp⟩
theorem aV1(C_LLow:Cl P w K mg base 1 spLow "_law_lowest")(C_Draw:Cl P w K mg base 1 spDraw "_law_draw"):eQ P w K mg base "_law_steepness" "_law_steepness" aZ8 2 ["_law_deal_here","_law_most"] spStpE:=by
 refine fS ["_law_deal_here","_law_most","_law_q"] fun H Q nd hr h=>?_
 obtain⟨d,l,m,rfl,D,hm,k⟩:=h;refine⟨_,(dX 2 nd (aL bV aD (bN C_Draw hr (aA (pv 0) (aP aD))))
  (aE (aM (bN C_LLow hr (aA (aL bV aD (bN C_Draw hr (aA (pv 0) (aP (bK cB (bJ (aA (aL fH (pv 2) aD) (aP (aL rV (pv 2) aD)))) (aL fH (pv 1) aD)))))) (aP (pv 2))))))),?_⟩
 refine⟨_,rfl,d,l,8,rfl,D,by decide,by decide,fun x H1 x0 x1 D1 o1=>⟨_,_,rfl,rfl,?_⟩⟩;refine⟨_,rfl,_,rfl,_,_,rfl,rfl,_,rfl,_,_,rfl,rfl,⟨by decide,by decide⟩,dA,fun p hp=>?_⟩;refine⟨_,rfl,_,_,rfl,rfl,?_⟩;obtain⟨v,hv,v0,v1,vx,v2⟩:∃v:Int,lP [V.int (2+x-1),V.int ((2+x) / 2)] (m-1)=some (.int v)/\0<v/\v<=8/\v<=x+1/\(m=2->2*v<=2+x):=by
  rcases hm with rfl|rfl
  ·exact⟨2+x-1,rfl,by lia,by lia,by lia,fun z=>absurd z (by decide)⟩
  ·exact⟨(2+x) / 2,rfl,by lia,by lia,by lia,fun _=>by lia⟩
 refine⟨p,_,_,_,rfl,rfl,bG.of aC,hv,?_⟩;refine⟨d,l,v,rfl,D1.same (aB hp _),v0,by lia,fun y H2 y0 y1 D2 o2=>⟨_,_,rfl,rfl,?_⟩⟩;refine⟨_,rfl,1+y,2+x,rfl,by lia,by lia,va (show 2+x<16 by lia) (by decide),fun r hr'=>?_⟩;obtain⟨c1,c2⟩:=bL1 (x:=x) (y:=y) (by lia) (by lia) (by lia) (by lia);exact k r _ _ _ (D2.same (aB hr' _)) (o1.trans ((eO.of (aB hp _)).trans (o2.trans (eO.of (aB hr' _))))) aC c1 (fun z=>c2 (by have:=v2 z;lia))
theorem aV8(C_Draw:Cl P w K mg base 1 spDraw "_law_draw")(m_tuple:mg "tuple"=none)(m_range:mg "range"=none):eQ P w K mg base "_law_sum" "_law_sum" bA7 2 ["_law_deal_here","_law_many"] spSumE:=by
 refine fS ["_law_deal_here","_law_many"] fun H Q nd hr h=>?_
 obtain⟨d,l,m,rfl,D,m0,m3,k⟩:=h;refine⟨_,(aE (aM (pct bQ m_tuple fi (aP (cU ["_law_k","_law_deal_here"] [none,some 0] (eB (by rfl) m_range (aP (pv 1))) (fun _ _ _ _=>(gG 0)) (fun _ _ _ _=>eS) (fun _ _ _ _=>(bN C_Draw hr (aA (pv 1) (aP aD))))))))),?_⟩;refine⟨_,rfl,m,rfl,by lia,by lia,jY (n:=m.toNat) (fun i ys σ G=>dN G d l/\eO d l H G/\(∃v,σ=[v,some (.ref d)])/\∃ws:List Int,ys=ws.map V.int/\ws.length=i/\∀y∈ws,0<=y/\y<=3) (aN (by lia)) ⟨D,eO.refl _,⟨_,rfl⟩,[],rfl,rfl,fun _ z=>nomatch z⟩ (by rintro i ys σ G ⟨_,_,_,ws,e,hl,_⟩;rw[e,ae];lia) ?_ ?_⟩
 ·rintro i ys σ G hi ⟨D1,o1,⟨v,rfl⟩,ws,rfl,hl,hb⟩;refine⟨_,rfl,d,l,4,rfl,D1,by decide,by decide,fun x H3 x0 x1 D3 o3=>⟨D3,o1.trans o3,⟨_,rfl⟩,ws++[x],by rw[cy];rfl,by rw[aj,hl];rfl,fun y hy=>?_⟩⟩;rcases bz.mp hy with z|z
  ·exact hb y z
  ·rw[au.mp z];lia
 ·rintro ys σ G ⟨D1,o1,_,ws,rfl,hl,hb⟩ p hp;exact⟨p,_,rfl,.inl ⟨bG.of aC,fun u hu'=>k u ws _ (D1.same ((aB hp _).trans (aB hu' _))) (o1.trans (eO.of ((aB hp _).trans (aB hu' _)))) aC hl hb⟩⟩
theorem aM7(C_Draw:Cl P w K mg base 1 spDraw "_law_draw")(C_Stp46:Cl P w K mg base 2 spStpE "_law_steepness")(C_Sum46:Cl P w K mg base 2 spSumE "_law_sum")(m_tuple:mg "tuple"=none)(m_max:mg "max"=none)(m_range:mg "range"=none):eQ P w K mg base "_law_throw" "_law_throw" aW6 3 ["_law_deal_here","_law_scene","_law_x"] spThrE:=by
 refine fS ["_law_deal_here","_law_scene","_law_x","_law_form","_law_many","_law_low","_law_high","_law_sums","_law_mark"] fun H Q nd hr h=>?_
 obtain⟨d,l,sc,nl,kd,wd,rm,bb,xs,x,rfl,W,k⟩:=h;have hu:=kK hr;refine⟨_,(dX 3 nd (bN C_Draw hr (aA (pv 0) (aP aD)))
  (dX 4 nd (yV hu (pv 1) aJ)
  (dX 5 nd (bN C_Draw hr (aA (pv 0) (aP (yV hu (pv 1) aJ))))
  (dX 6 nd (aL bV (pv 5) (bN C_Draw hr (aA (pv 0) (aP (aL bV (yV hu (pv 1) aJ) aD)))))
  (aF (bL (fY pP (pv 3) aD) (aE (aM (aV (aA aJ (aA (pv 2) (aA (bN C_Sum46 hr (aA (pv 0) (aP (pv 4)))) (aA (bN C_Stp46 hr (aA (pv 0) (aP aD))) (aA (pv 5) (aP (pv 6)))))))))) aX)
  (aF (bL (fY cA (pv 3) aD) (aE (aM (aV (aA aJ (aA (pv 2) (aA (bN C_Sum46 hr (aA (pv 0) (aP (pv 4)))) (aA (bN C_Draw hr (aA (pv 0) (aP aD))) (aA (pv 5) (aP (pv 6)))))))))) aX)
  (dX 7 nd (pct bQ m_tuple fi (aP (cU ["_law_k","_law_deal_here","_law_many"] [none,some 0,some 4] (eB (by rfl) m_range (aP (aL bV aD (bN C_Draw hr (aA (pv 0) (aP aD)))))) (fun _ _ _ _=>(gG 0)) (fun _ _ _ _=>eS) (fun _ _ _ _=>(bN C_Sum46 hr (aA (pv 1) (aP (pv 2))))))))
  (aF (bL (fY pP (pv 3) aD) (aE (aM (aV (aA aJ (aA (pv 2) (aA (pv 7) (aA (bN C_Stp46 hr (aA (pv 0) (aP aD))) (aA (pv 5) (aP (pv 6)))))))))) aX)
  (dX 6 nd (tL (tR rfl) m_max qo (aA (pv 6) (aP (aL bV (pv 5) aD))))
  (dX 8 nd (aL bV (pv 5) (bN C_Draw hr (aA (pv 0) (aP (aL bV (aL fH (pv 6) (pv 5)) aD)))))
  (aE (aM (aV (aA aJ (aA (pv 2) (aA (pv 8) (aA (bN C_Stp46 hr (aA (pv 0) (aP aD))) (aA (bN C_Stp46 hr (aA (pv 0) (aP aD))) (aA (pv 7) (aA (pv 5) (aP (pv 6)))))))))))))))))))))),?_⟩
 have w1:=W.w1;have w2:=W.w2;have m0:=W.m1;have m3:=W.m2;refine⟨_,rfl,d,l,8,rfl,W.deal,by decide,by decide,fun fo H1 f0 f1 D1 o1=>?_⟩;have W1:=W.out D1 o1;refine⟨_,rfl,sc,_,rfl,W1.gKinds,?_⟩;refine⟨_,rfl,_,rfl,sc,_,rfl,W1.gWide,d,l,wd,rfl,D1,by lia,by lia,fun lo H2 a0 a1 D2 o2=>?_⟩;have W2:=W1.out D2 o2;refine⟨_,rfl,_,rfl,_,rfl,sc,_,rfl,W2.gWide,_,_,rfl,rfl,d,l,wd+1,rfl,D2,by lia,by lia,fun u H3 b0 b1 D3 o3=>⟨_,_,rfl,rfl,?_⟩⟩;have oA:=o1.trans (o2.trans o3);refine⟨_,rfl,_,_,rfl,rfl,_,rfl,?_⟩
 by_cases c0:fo<4
 ·refine bI (ag c0) ?_;refine⟨_,rfl,_,rfl,_,rfl,d,l,kd,rfl,D3,by lia,m3,fun p4 ws4 H4 D4 o4 h4 n4 b4=>⟨_,rfl,d,l,1,rfl,D4,.inl rfl,fun p5 a5 b5 H5 D5 o5 h5 c5 _=>⟨_,rfl,_,rfl,by show 6<=sizeLine;decide,fun p hp=>?_⟩⟩⟩;have s6:=aB hp (.tup [.str "ladder",.str x,.ref p4,.ref p5,.int lo,.int (lo+u)]);exact k p "ladder" _ ⟨[.ref p4,.ref p5,.int lo,.int (lo+u)],.lad a5 b5 lo (lo+u),[ws4],kd.toNat⟩ _ (D5.same s6) (oA.trans (o4.trans (o5.trans (eO.of s6)))) aC ⟨rfl,rfl,c5,⟨p4,ws4,p5,rfl,rfl,s6 _ _ (TS.out D4 o5 _ _ h4),s6 _ _ h5⟩,⟨ai 1,by show 1<=4;decide,fun ws hws=>by rw[au.mp hws];exact⟨n4,b4⟩⟩⟩ (dh (by lia)) (ie (by lia))
 refine aW (fun z=>c0 (af z)) ?_;refine⟨_,rfl,rfl,_,rfl,?_⟩
 by_cases c1:fo=4
 ·refine bI (by rw[c1];exact ag rfl) ?_;refine⟨_,rfl,_,rfl,_,rfl,d,l,kd,rfl,D3,by lia,m3,fun p4 ws4 H4 D4 o4 h4 n4 b4=>⟨_,rfl,d,l,5,rfl,D4,by decide,by decide,fun y H5 y0 y1 D5 o5=>⟨_,rfl,_,rfl,by show 6<=sizeLine;decide,fun p hp=>?_⟩⟩⟩;have s6:=aB hp (.tup [.str "flat",.str x,.ref p4,.int y,.int lo,.int (lo+u)]);exact k p "flat" _ ⟨[.ref p4,.int y,.int lo,.int (lo+u)],.fla y lo (lo+u),[ws4],kd.toNat⟩ _ (D5.same s6) (oA.trans (o4.trans (o5.trans (eO.of s6)))) aC ⟨rfl,rfl,⟨y0,by lia⟩,⟨p4,ws4,rfl,rfl,s6 _ _ (TS.out D4 o5 _ _ h4)⟩,⟨ai 1,by show 1<=4;decide,fun ws hws=>by rw[au.mp hws];exact⟨n4,b4⟩⟩⟩ (dh (by lia)) (ie (by lia))
 refine aW (fun z=>c1 (by have z:=af z;injection z)) ?_;refine⟨_,rfl,d,l,3,rfl,D3,by decide,by decide,fun n4 H4 e0 e1 D4 o4=>⟨_,_,rfl,rfl,?_⟩⟩;have oB:=oA.trans o4;refine⟨1+n4,rfl,by lia,by lia,jY (n:=(1+n4).toNat) (fun i ys σ G=>dN G d l/\eO d l H G/\(∃v,σ=[v,some (.ref d),some (.int kd)])/\∃wss:List (List Int),dL (pY G) ys wss/\wss.length=i/\∀ws∈wss,ws.length=kd.toNat/\∀y∈ws,0<=y/\y<=3) (aN (by lia)) ⟨D4,oB,⟨_,rfl⟩,[],trivial,rfl,fun _ z=>nomatch z⟩ (by rintro i ys σ G ⟨_,_,_,wss,e,hl,_⟩;rw[e.length];lia) ?_ ?_⟩
 ·rintro i ys σ G hi ⟨D5,o5,⟨v,rfl⟩,wss,tw,hl,hS⟩;refine⟨_,rfl,_,rfl,d,l,kd,rfl,D5,by lia,m3,fun p6 ws6 H6 D6 o6 h6 n6 b6=>⟨D6,o5.trans o6,⟨_,rfl⟩,wss++[ws6],dL.append (tw.mono fun _ _ z=>z.ts (TS.out D5 o6)) ⟨⟨p6,rfl,h6⟩,trivial⟩,by rw[aj,hl];rfl,fun ws hws=>?_⟩⟩;rcases bz.mp hws with e|e
  ·exact hS ws e
  ·rw[au.mp e];exact⟨n6,b6⟩
 rintro ys σ G ⟨D5,o5,_,wss,tw,hl,hS⟩ lx hlx;refine⟨lx,ys,rfl,.inl ⟨bG.of aC,fun t6 ht6=>?_⟩⟩;have s6:=(aB hlx (.lst ys)).trans (aB ht6 (.tup ys));have D6:=D5.same s6;have o6:=o5.trans (eO.of (d:=d) (l:=l) s6);have gt6:aO (aO G lx (.lst ys)) t6 (.tup ys) t6=some (.tup ys):=aC;have tw6:=tw.mono fun _ _ z=>pY.ts (.of s6) z
 have wt:∀(vs:List V) (T:wA),aT9 ⟨vs,T,wss,kd.toNat⟩:=fun vs T=>⟨by show 1<=wss.length;lia,by show wss.length<=4;lia,hS⟩
 generalize aO (aO G lx (.lst ys)) t6 (.tup ys)=H6 at D6 o6 gt6 tw6 ⊢;refine⟨_,rfl,_,_,rfl,rfl,_,rfl,?_⟩
 by_cases c2:fo<7
 ·refine bI (ag c2) ?_;refine⟨_,rfl,_,rfl,_,rfl,d,l,1,rfl,D6,.inl rfl,fun p7 a7 b7 H7 D7 o7 h7 c7 _=>⟨_,rfl,_,rfl,by show 6<=sizeLine;decide,fun p hp=>?_⟩⟩;have s8:=aB hp (.tup [.str "choose",.str x,.ref t6,.ref p7,.int lo,.int (lo+u)]);have t67:=(TS.out D6 o7).trans (.of s8);exact k p "choose" _ ⟨[.ref t6,.ref p7,.int lo,.int (lo+u)],.cho a7 b7 lo (lo+u),wss,kd.toNat⟩ _ (D7.same s8) (o6.trans (o7.trans (eO.of s8))) aC ⟨rfl,rfl,c7,⟨t6,ys,p7,rfl,t67 _ _ gt6,tw6.mono fun _ _ z=>pY.ts t67 z,s8 _ _ h7⟩,wt _ _⟩ (dh (by lia)) (ie (by lia))
 refine aW (fun z=>c2 (af z)) ?_;refine⟨_,rfl,_,rfl,_,_,rfl,rfl,_,_,rfl,?_⟩;obtain⟨h2,e2,b1',b2'⟩:∃h2:Int,(if lo+1 > lo+u then lo+1 else lo+u)=h2/\lo<h2/\h2<=lo+9:=⟨_,rfl,by split<;>lia,by split<;>lia⟩
 rw[e2];refine⟨_,rfl,_,rfl,_,rfl,_,rfl,_,_,rfl,rfl,_,_,rfl,rfl,d,l,_,rfl,D6,by lia,by lia,fun mk H7 g0 g1 D7 o7=>⟨_,_,rfl,rfl,?_⟩⟩;refine⟨_,rfl,_,rfl,_,rfl,d,l,1,rfl,D7,.inl rfl,fun p8 a8 b8 H8 D8 o8 h8 c8 _=>⟨_,rfl,d,l,2,rfl,D8,.inr rfl,fun p9 a9 b9 H9 D9 o9 h9 c9 q9=>⟨_,rfl,_,rfl,_,rfl,by show 8<=sizeLine;decide,fun p hp=>?_⟩⟩⟩;have s10:=aB hp (.tup [.str "first",.str x,.int (lo+mk),.ref p8,.ref p9,.ref t6,.int lo,.int h2]);have t69:=(TS.out D6 o7).trans ((TS.out D7 o8).trans ((TS.out D8 o9).trans (.of s10)));exact k p "first" _ ⟨[.int (lo+mk),.ref p8,.ref p9,.ref t6,.int lo,.int h2],.fst a8 b8 a9 b9 (lo+mk) lo h2,wss,kd.toNat⟩ _ (D9.same s10) (o6.trans (o7.trans (o8.trans (o9.trans (eO.of s10))))) aC ⟨rfl,rfl,⟨c8,c9,by lia,by lia⟩,⟨t6,ys,p8,p9,rfl,t69 _ _ gt6,tw6.mono fun _ _ z=>pY.ts t69 z,((TS.out D8 o9).trans (.of s10)) _ _ h8,s10 _ _ h9⟩,wt _ _⟩ (dh (by have:=q9 rfl;lia)) (ie (by lia))
theorem aZ5(n:Nat)(C_Trm46:Cl P w K mg base (n+1) (sM n) "_law_term")(C_Draw:Cl P w K mg base 1 spDraw "_law_draw")(m_len:mg "len"=none):eQ P w K mg base "_law_term" "_law_term" bB5 (n+1+1) ["_law_deal_here","_law_known","_law_room"] (sM (n+1)):=by
 refine fS ["_law_deal_here","_law_known","_law_room","_law_half","_law_one"] fun H Q nd hr h=>?_
 obtain⟨d,l,kn,ks,room,rfl,D,hk,nk,lk,r1,r2,k⟩:=h;refine⟨_,(aF (bL (gL (PW.pt (aY9 (fY pP (pv 2) aD) (aC4 (fY cA (bN C_Draw hr (aA (pv 0) (aP aD))) aD))))) (aF (bL (gL (PW.pt (hX (fY lG (tL bM m_len ge (aP (pv 1))) aD) (gQ (fY lG (bN C_Draw hr (aA (pv 0) (aP aD))) aD))))) (aE (aM (aV (aA aJ (aP (bK cB (pv 1) (bN C_Draw hr (aA (pv 0) (aP (tL bM m_len ge (aP (pv 1)))))))))))) aX)
  (aE (aM (aV (aA aJ (aP (bK cB (bJ (aA (bN C_Draw hr (aA (pv 0) (aP aD))) (aP (bN C_Draw hr (aA (pv 0) (aP aD)))))) (bN C_Draw hr (aA (pv 0) (aP aD)))))))))) aX)
  (dX 3 nd (aL rV (aL fH (pv 2) aD) aD)
  (dX 4 nd (bN C_Trm46 hr (aA (pv 0) (aA (pv 1) (aP (pv 3)))))
  (aE (aM (aV (aA aJ (aA (bK aA7 aJ (bN C_Draw hr (aA (pv 0) (aP aD)))) (aA (pv 4) (aP (bN C_Trm46 hr (aA (pv 0) (aA (pv 1) (aP (pv 3))))))))))))))),?_⟩
 refine⟨fun b G=>dN G d l/\eO d l H G/\(b=false->3<=room),?_,?_⟩
 ·refine⟨_,rfl,_,_,rfl,rfl,_,rfl,?_⟩
  by_cases c1:room<3
  ·exact bI (ag c1) ⟨D,eO.refl _,fun z=>nomatch z⟩
  ·refine aW (by simpa using c1) ⟨_,rfl,d,l,3,rfl,D,by decide,by decide,fun x H1 x0 x1 D1 o1=>⟨rfl,_,rfl,D1,o1,fun _=>by lia⟩⟩
 rintro b G ⟨D1,o1,hb⟩;have hk1:=aY D hk nk o1
 cases b with
 |false =>
  refine aW (by simp) ?_;have c1:=hb rfl
  cases n with
  |zero=>exact absurd r2 (by simp only[cap];lia)
  |succ n =>
  simp only[cap] at r2;refine⟨_,rfl,_,_,rfl,rfl,_,_,rfl,rfl,⟨by decide,by decide⟩,?_⟩;refine⟨_,rfl,_,rfl,_,rfl,d,l,kn,ks,(room-1) / 2,rfl,D1,hk1,nk,lk,by lia,by lia,fun t1 H3 D3 o3 h3 ok3 nm3 sz3=>?_⟩;have hk3:=aY D1 hk1 nk o3;refine⟨_,rfl,d,l,5,rfl,D3,by decide,by decide,fun y H4 y0 y1 D4 o4=>?_⟩;obtain⟨c,hc,hs⟩:=bX1 y0 y1;have hk4:=aY D3 hk3 nk o4;refine⟨_,y,c,rfl,rfl,by decide,hc,_,rfl,_,rfl,_,rfl,_,rfl,d,l,kn,ks,(room-1) / 2,rfl,D4,hk4,nk,lk,by lia,by lia,fun t2 H5 D5 o5 h5 ok5 nm5 sz5=>⟨by show 4<=sizeLine;decide,fun p hp=>?_⟩⟩;have s6:=aB hp (.tup [.str "op",.str ⟨#[c]⟩,.ref t1.p,.ref t2.p]);have t15:=(TS.out D3 o4).trans ((TS.out D4 o5).trans (.of s6));refine k (.op p ⟨#[c]⟩ t1 t2) _ (D5.same s6) (o1.trans (o3.trans (o4.trans (o5.trans (.of s6))))) ⟨aC,h3.ts t15,h5.ts (.of s6)⟩ ⟨hs,ok3,ok5⟩ (fun z hz=>?_) ?_
  ·rcases bz.mp hz with q|q
   ·exact nm3 z q
   ·exact nm5 z q
  ·simp only[Tm.size];lia
 |true =>
  refine bI rfl ?_;refine⟨fun b G'=>dN G' d l/\eO d l H G'/\(b=true->0<ks.length),?_,?_⟩
  ·refine⟨_,rfl,kn,_,rfl,.inl (bG.of hk1),_,_,rfl,rfl,_,rfl,?_⟩
   by_cases c:(0:Int)<((ks.map V.str).length:Int)
   ·refine bI (ag c) ⟨_,rfl,d,l,4,rfl,D1,by decide,by decide,fun x H2 x0 x1 D2 o2=>⟨_,_,rfl,rfl,_,rfl,D2,o1.trans o2,fun _=>by rw[ae] at c;lia⟩⟩
   ·exact aW (by simpa using c) ⟨D1,o1,fun z=>nomatch z⟩
  rintro b G2 ⟨D2,o2,hb2⟩;have hk2:=aY D hk nk o2
  cases b with
  |true =>
   have kp:=hb2 rfl;refine bI rfl ?_;refine⟨_,rfl,_,rfl,_,rfl,kn,_,rfl,.inl (bG.of hk2),d,l,_,rfl,D2,by rw[ae];lia,by rw[ae];lia,fun x H3 x0 x1 D3 o3=>?_⟩;obtain⟨v,hv,ha⟩:=aU2 x0 x1;obtain⟨y,rfl,hy⟩:=uU hv;refine⟨kn,_,_,.str y,rfl,rfl,bG.of (aY D2 hk2 nk o3),ha,dA,fun p hp=>?_⟩;have s4:=aB hp (.tup [.str "name",.str y]);refine k (.nam p y) _ (D3.same s4) (o2.trans (o3.trans (.of s4))) aC trivial (fun z hz=>?_) (by simp only[Tm.size];lia);rw[au.mp hz];exact bj hy
  |false =>
   refine aW (by simp) ?_;refine⟨_,rfl,d,l,4,rfl,D2,by decide,by decide,fun x H3 x0 x1 D3 o3=>?_⟩;refine⟨_,rfl,d,l,1000,rfl,D3,by decide,by decide,fun y H4 y0 y1 D4 o4=>⟨dA,fun l0 hl0=>?_⟩⟩;have n0:=(jO D4 hl0).2;obtain⟨H5,e0,s5,h5⟩:=sF hl0 (.lst [.int x,.int y]);rw[e0];clear e0;refine⟨_,rfl,d,l,2,rfl,D4.same s5,by decide,by decide,fun z H6 z0 z1 D6 o6=>?_⟩;obtain⟨w,hw,w0,w1⟩:∃w:Int,lP [V.int x,V.int y] z=some (.int w)/\0<=w/\w<1000:=by
    have:z=0\/z=1:=by lia
    rcases this with rfl|rfl
    ·exact⟨x,rfl,x0,by lia⟩
    ·exact⟨y,rfl,y0,y1⟩
   refine⟨l0,_,_,.int w,rfl,rfl,bG.of (aY (D4.same s5) h5 n0 o6),hw,dA,fun p hp=>?_⟩;have s7:=aB hp (.tup [.str "num",.int w]);exact k (.num p w) _ (D6.same s7) (o2.trans (o3.trans (o4.trans ((eO.of s5).trans (o6.trans (.of s7)))))) aC ⟨w0,w1⟩ (fun z hz=>absurd hz bu) (by simp only[Tm.size];lia)
theorem bF2(C_Draw:Cl P w K mg base 1 spDraw "_law_draw")(C_Thw46:Cl P w K mg base 3 spThrE "_law_throw")(C_Trm46:Cl P w K mg base 4 (sM 3) "_law_term")(m_len:mg "len"=none):eQ P w K mg base "_law_set_row" "_law_set_row" bO3 5 ["_law_deal_here","_law_scene","_law_known"] spSetE:=by
 refine fS ["_law_deal_here","_law_scene","_law_known","_law_x"] fun H Q nd hr h=>?_
 obtain⟨d,l,sc,nl,kn,kd,wd,rm,bb,xs,ks,rfl,W0,hk,nk,lk,k⟩:=h;have hu:=kK hr;refine⟨_,(dX 3 nd (bK cB (yV hu (pv 1) aJ) (bN C_Draw hr (aA (pv 0) (aP (tL bM m_len ge (aP (yV hu (pv 1) aJ)))))))
  (aF (bL (gL (PW.pt (hX (fY aI0 (yV hu (pv 1) aJ) (yV hu (pv 1) aJ)) (gQ (fY lG (bN C_Draw hr (aA (pv 0) (aP aD))) aD))))) (aF (pdp hu (pv 1) aJ (aL fH (yV hu (pv 1) aJ) (yV hu (pv 1) aJ)))
  (aE (aM (aV (aA (bN C_Thw46 hr (aA (pv 0) (aA (pv 1) (aP (pv 3))))) (aA aD (aP (aL jZ (pv 2) (bJ (aP (pv 3))))))))))) aX)
  (aE (aM (aV (aA (aV (aA aJ (aA (pv 3) (aP (bN C_Trm46 hr (aA (pv 0) (aA (pv 2) (aP aD)))))))) (aA aD (aP (aL jZ (pv 2) (bJ (aP (pv 3)))))))))))),?_⟩
 have x1:=W0.x1;have x2:=W0.x2;refine⟨_,rfl,sc,_,rfl,W0.gNames,?_⟩;refine⟨_,rfl,_,rfl,sc,_,rfl,W0.gNames,nl,_,rfl,.inl (bG.of W0.nms),d,l,_,rfl,W0.deal,by rw[ae];lia,by rw[ae];lia,fun y H1 y0 y1 D1 o1=>?_⟩;obtain⟨v,hv,ha⟩:=aU2 y0 y1;obtain⟨x,rfl,hx⟩:=uU hv;have W1:=W0.out D1 o1;have hk1:=aY W0.deal hk nk o1;refine⟨nl,_,_,.str x,rfl,rfl,bG.of W1.nms,ha,?_⟩;have gr:=W1.gRoom;have gb:=W1.gBy;refine⟨fun b G=>We G d l sc nl kd wd xs rm bb/\eO d l H G/\(b=true->bb<=rm),?_,?_⟩
 ·refine⟨_,rfl,sc,_,rfl,gr,_,rfl,sc,_,rfl,gb,_,_,rfl,rfl,_,rfl,?_⟩;refine pH (fun c=>⟨_,rfl,d,l,4,rfl,D1,by decide,by decide,fun x H2 x0 x1 D2 o2=>⟨_,_,rfl,rfl,_,rfl,W1.out D2 o2,o1.trans o2,fun _=>af c⟩⟩) (fun _=>⟨W1,o1,fun z=>nomatch z⟩)
 rintro b G ⟨W2,o2,hbm⟩;have hk2:=aY W0.deal hk nk o2;have oo2:=dP.out (sc:=sc) o2
 cases b with
 |true =>
  refine bI rfl ?_;have gr2:=W2.gRoom;have gb2:=W2.gBy;have hbm:=hbm rfl;refine⟨_,rfl,sc,_,rfl,gr2,_,rfl,sc,_,rfl,gb2,_,_,rfl,rfl,?_⟩;obtain⟨H3,p3,W3,o3⟩:=W2.pRoom (rm-bb) (by lia);have hk3:=W2.keep hk2 nk o3;refine⟨_,rfl,sc,_,rfl,p3,?_⟩;refine⟨_,rfl,_,rfl,_,rfl,d,l,sc,nl,kd,wd,rm-bb,bb,xs,x,rfl,W3,fun p w us dd H4 D4 o4 h4 ok4 am4 kd4=>?_⟩;have W4:=W3.out D4 o4;have hk4:=aY W3.deal hk3 nk o4;refine⟨_,rfl,_,rfl,jT,fun l5 hl5=>?_⟩;obtain⟨H5,e0,s5,h5⟩:=sF hl5 (.lst [.str x]);rw[e0];clear e0;refine⟨kn,l5,_,_,rfl,rfl,s5 _ _ hk4,h5,cu (aN (by rw[ae];show _+1<=_;lia)),fun l6 hl6=>?_⟩;have s6:=s5.trans (aB hl6 (.lst (ks.map V.str++[.str x])));have h6:aO H5 l6 (.lst (ks.map V.str++[.str x])) l6=some (.lst ((ks++[x]).map V.str)):=by rw[aC,cy];rfl
  have oA:=oo2.trans (o3.trans (dP.out (sc:=sc) o4));have f6:H l6=none:=oA.fresh W4.all (s5.free hl6);generalize aO H5 l6 (.lst (ks.map V.str++[.str x]))=H6 at s6 h6 ⊢;refine⟨by show 3<=sizeLine;decide,fun q hq=>?_⟩;have s7:=s6.trans (aB hq (.tup [.ref p,.int 0,.ref l6]));exact k q l6 (.thr p w x us dd) x (rm-bb) _ (W4.same s7) (by have e:lY (.thr p w x us dd)=1:=rfl;rw[e];lia) (oA.trans (.of s7)) aC ⟨s7 _ _ h4,ok4.ts (.of s7)⟩ (.inl ⟨p,w,us,dd,rfl,am4,kd4⟩) (bj hx) f6 ((aB hq _) _ _ h6)
 |false =>
  refine aW (by simp) ?_;refine⟨_,rfl,_,rfl,_,rfl,d,l,kn,ks,7,rfl,W2.deal,hk2,nk,by lia,by decide,by decide,fun t H4 D4 o4 h4 ok4 nm4 sz4=>⟨by show 3<=sizeLine;decide,fun p hp=>?_⟩⟩;have s5:=aB hp (.tup [.str "let",.str x,.ref t.p]);have h5:aO H4 p (.tup [.str "let",.str x,.ref t.p]) p=some (.tup [.str "let",.str x,.ref t.p]):=aC;have W4:=W2.out D4 o4;have hk4:=aY W2.deal hk2 nk o4;generalize aO H4 p (.tup [.str "let",.str x,.ref t.p])=H5 at s5 h5 ⊢;refine⟨_,rfl,_,rfl,jT,fun l6 hl6=>?_⟩;have s6:=s5.trans (aB hl6 (.lst [.str x]));have h6:aO H5 l6 (.lst [.str x]) l6=some (.lst [.str x]):=aC;have h56:=aB hl6 (.lst [.str x]) _ _ h5;generalize aO H5 l6 (.lst [.str x])=H6 at s6 h6 h56 ⊢;refine⟨kn,l6,_,_,rfl,rfl,s6 _ _ hk4,h6,cu (aN (by rw[ae];show _+1<=_;lia)),fun l7 hl7=>?_⟩;have s7:=s6.trans (aB hl7 (.lst (ks.map V.str++[.str x])));have h7:aO H6 l7 (.lst (ks.map V.str++[.str x])) l7=some (.lst ((ks++[x]).map V.str)):=by rw[aC,cy];rfl
  have h57:=aB hl7 (.lst (ks.map V.str++[.str x])) _ _ h56;have oA:=oo2.trans (dP.out (sc:=sc) o4);have f7:H l7=none:=oA.fresh W4.all (s6.free hl7);generalize aO H6 l7 (.lst (ks.map V.str++[.str x]))=H7 at s7 h7 h57 ⊢;refine⟨by show 3<=sizeLine;decide,fun q hq=>?_⟩;have s8:=s7.trans (aB hq (.tup [.ref p,.int 0,.ref l7]));exact k q l7 (.lt p x t) x rm _ (W4.same s8) (by have e:lY (.lt p x t)=0:=rfl;rw[e];lia) (oA.trans (.of s8)) aC ⟨aB hq _ _ _ h57,h4.ts (.of s8),ok4,by lia⟩ (.inr ⟨p,t,rfl,nm4,by lia⟩) (bj hx) f7 ((aB hq _) _ _ h7)
theorem bA1(m:Nat)(C_Trm46:Cl P w K mg base 4 (sM 3) "_law_term")(C_Rws46:Cl P w K mg base (7+3*m) (oZ m) "_law_rows")(C_Draw:Cl P w K mg base 1 spDraw "_law_draw")(C_SetR:Cl P w K mg base 5 spSetE "_law_set_row")(m_range:mg "range"=none)(m_len:mg "len"=none)(m_int:mg "int"=none)(m_tuple:mg "tuple"=none):eQ P w K mg base "_law_when" "_law_when" aQ4 (7+3*m+1) ["_law_deal_here","_law_scene","_law_known","_law_deep"] (yZ (m+1)):=by
 refine fS ["_law_deal_here","_law_scene","_law_known","_law_deep","_law_term_here","_law_one","_law_tells","_law_first","_law_other","_law_second","_law_row_here","_law_no","_law_k"] fun H Q nd hr h=>?_
 obtain⟨d,l,sc,nl,kn,kd,wd,rm,bb,xs,ks,deep,rfl,W0,hk,nk,lk,hm,hd,k⟩:=h;have hu:=kK hr;refine⟨_,(dX 4 nd (bN C_Trm46 hr (aA (pv 0) (aA (pv 2) (aP aD))))
  (aF (oK (bN C_Rws46 hr (aA (pv 0) (aA (pv 1) (aA (pv 2) (aA (aL bV (pv 3) aD) (aP (aL bV aD (pct oN m_int qp (aP (mJ (pec cA (pv 3) aD) (mH (pec cA (bN C_Draw hr (aA (pv 0) (aP aD))) aD)))))))))))) (lH rfl (bH (gG 5 nd) (bH (gG 6 nd) (bH (gG 7 nd) gN)))))
  (dX 8 nd (bJ bS)
  (dX 9 nd (pv 2)
  (aF (qM (bL (fY cA (bN C_Draw hr (aA (pv 0) (aP aD))) aD) (aF (oK (bN C_SetR hr (aA (pv 0) (aA (pv 1) (aP (pv 2))))) (lH rfl (bH (gG 10 nd) (bH (gG 11 nd) (bH (gG 9 nd) gN)))))
  (aE (bZ (eJ bq eh ej dD (pv 8) (aP (pv 10)))))) aX))
  (aF (pfr (eB (by rfl) m_range (aP (pv 6))) (gG 12 nd)
  (aE (bZ (eJ bq eh ej dD (pv 8) (aP (aV (aA aJ (aP (bN C_Trm46 hr (aA (pv 0) (aA (pv 9) (aP aD))))))))))))
  (aF (pdp hu (pv 1) aJ (aL fH (yV hu (pv 1) aJ) (tL bM m_len ge (aP (pv 8)))))
  (aE (aM (aV (aA (aV (aA aJ (aA (pv 4) (aA (pv 5) (aP (pct bQ m_tuple fi (aP (pv 8)))))))) (aA (pv 6) (aP (cU ["_law_x","_law_second"] [none,some 9] (cX (pv 7)) (fun _ _ _ _=>(gG 0)) (fun _ _ _ _=>(vJ (fY (inK K) (pv 0) (pv 1)))) (fun _ _ _ _=>(pv 0)))))))))))))))),?_⟩
 have lk1:=mW (m+1);refine⟨_,rfl,_,rfl,d,l,kn,ks,5,rfl,W0.deal,hk,nk,by lia,by decide,by decide,fun t H1 D1 o1 h1 ok1 nm1 sz1=>?_⟩;have W1:=W0.out D1 o1;have hk1:=aY W0.deal hk nk o1;refine⟨_,rfl,_,rfl,_,rfl,_,rfl,_,_,rfl,rfl,bC2 rfl rfl D1 fun e H2 D2 o2 he=> .inr ⟨_,rfl,_,_,rfl,rfl,?_⟩⟩;have W2:=W1.out D2 o2;have hk2:=aY D1 hk1 nk o2;have oA:=(dP.out (sc:=sc) o1).trans (dP.out (sc:=sc) o2);obtain⟨n,hn,n1,n2,n3⟩:∃n:Nat,(1:Int)+(if e=true then 1 else 0)=(n:Int)/\1<=n/\n<=2/\(m=0->n<=1):=by
  cases e with
  |true=>exact⟨2,rfl,by decide,by decide,fun z=>by have:=he rfl;lia⟩
  |false=>exact⟨1,rfl,by decide,by decide,fun _=>ai _⟩
 obtain⟨c1,c2,c3⟩:=aY7 hm n2 n3;refine⟨d,l,sc,nl,kn,kd,wd,rm,bb,xs,ks,deep+1,n,by show [_,_,_,_,V.int (1+if e=true then 1 else 0)]=_;rw[hn],W2,hk2,nk,by lia,by lia,by lia,by lia,fun z=>by lia,fun p3 pr3 kn3 rs3 k3 t3 r3 H3 W3 ld3 o3 h3 hp3 hr3 b3 q3 hk3=>?_⟩;refine⟨p3,_,rfl,aU.of h3,rfl,_,_,rfl,_,_,rfl,_,_,rfl,rfl,?_⟩;have hkk3:=W2.keep hk2 nk o3;have n3l:kn3≠l:=by
  rcases q3 with z|z
  ·rw[z];exact nk
  ·exact(W2.new z).2.1
 have h13:=(h1.ts (TS.out D1 o2)).ts (W2.ts o3);have oB:=oA.trans o3;clear h1 hk1 hk2 D1 D2 o1 o2 o3 W1 h3;refine⟨bo _,fun lo hlo=>?_⟩;obtain⟨_,nlo,_,nln⟩:=W3.new hlo;have l0:=oB.fresh W3.all hlo;have n3o:kn3≠lo:=aI hk3 hlo;have nko:kn≠lo:=aI hkk3 hlo;obtain⟨H4,e0,s4,g4⟩:=sF hlo (.lst []);rw[e0];clear e0;have W4:=W3.same s4;have oC:=oB.trans (dP.of s4);have hk4:=s4 _ _ hk3;have hkk4:=s4 _ _ hkk3;have h14:=h13.ts (.of s4);have hp4:=s4 _ _ hp3;have hr4:=aS.ts (.of s4) _ hr3;clear h13 hp3 hr3 hk3 hkk3 s4 W3 oA oB;refine⟨_,rfl,?_⟩;refine⟨fun σ' G=>∃(kn2:Addr) (k2:List Str) (bs:List Rw) (rr:Int) (v10 v11:Option V),σ'=[some (.ref d),some (.ref sc),some (.ref kn),some (.int deep),some (.ref t.p),some (.ref pr3),some (.int t3),some (.ref kn3),some (.ref lo),some (.ref kn2),v10,v11,none]/\We G d l sc nl kd wd xs rr bb/\bb*(iL bs:Int)+rr<=r3/\dP [d,l,sc] H G/\TS H4 G/\G kn3=some (.lst (k3.map V.str))/\G lo=some (.lst (bA bs))/\aS G bs/\sR kd ks xs bs k2 0 0 1/\kn2≠l/\kn2≠lo/\G kn2=some (.lst (k2.map V.str)),?_,?_⟩
 ·refine⟨_,rfl,d,l,2,rfl,W4.deal,by decide,by decide,fun y H5 _ _ D5 o5=>⟨rfl,_,rfl,?_⟩⟩;have W5:=W4.out D5 o5;have g5:=aY W4.deal g4 nlo o5;have hk5:=aY W4.deal hk4 n3l o5;have hkk5:=aY W4.deal hkk4 nk o5;have oD:=oC.trans (dP.out (sc:=sc) o5);have t5:=TS.out W4.deal o5;refine pH (fun _=>?_) (fun _=>⟨kn,ks,[],r3,_,_,rfl,W5,by have e:iL []=0:=rfl;rw[e];lia,oD,t5,hk5,g5,trivial,sR.nil.mono (by decide),nk,nko,hkk5⟩);refine⟨_,rfl,_,rfl,_,rfl,d,l,sc,nl,kn,kd,wd,r3,bb,xs,ks,rfl,W5,hkk5,nk,by lia,fun p6 kn6 r6 x6 rr6 H6 W6 ld6 o6 h6 hr6 s6 m6 f6 hk6=>?_⟩;refine⟨p6,_,rfl,aU.of h6,rfl,_,_,rfl,_,_,rfl,_,_,rfl,rfl,?_⟩;have g6:=W5.keep g5 nlo o6;have hk36:=W5.keep hk5 n3l o6;have n6l:=(W5.new f6).2.1;have n6o:kn6≠lo:=(aI g5 f6).symm;refine⟨_,rfl,.inl ⟨rfl,_,bG.of g6⟩,_,rfl,lo,_,_,rfl,rfl,g6,by show 0<sizeLine;decide,?_⟩;have tN:=TS.lst (ys:=bA [r6]) g6;exact⟨kn6,_,[r6],rr6,_,_,rfl,W6.lst (zs:=bA [r6]) g6 nlo nln,by have e:iL [r6]=lY r6:=Nat.add_zero _;rw[e];exact ld6,(oD.trans o6).new l0,(t5.trans (W5.ts o6)).trans tN,(aH n3o).trans hk36,aC,⟨dO.ts tN r6 hr6,trivial⟩,sR.nil.snoc (s6.row m6),n6l,n6o,(aH n6o).trans hk6⟩
 rintro σ' G ⟨kn2,k2,bs,rr,v10,v11,rfl,W5,ld5,o5,t5,hk5,g5,hb5,b5,n2l,n2o,hk25⟩;have t30:=b3.t0;have t31:=b3.t1;have sl5:=mY.len bs b5.sc;have ct5:=b5.ct;simp only[lU] at ct5;refine⟨_,rfl,t3,rfl,by lia,by lia,jJ (n:=t3.toNat) (fun i σ G=>∃(bs:List Rw) (v12:Option V),σ=[some (.ref d),some (.ref sc),some (.ref kn),some (.int deep),some (.ref t.p),some (.ref pr3),some (.int t3),some (.ref kn3),some (.ref lo),some (.ref kn2),v10,v11,v12]/\We G d l sc nl kd wd xs rr bb/\bb*(iL bs:Int)+rr<=r3/\dP [d,l,sc] H G/\TS H4 G/\G kn3=some (.lst (k3.map V.str))/\G lo=some (.lst (bA bs))/\aS G bs/\sR kd ks xs bs k2 (i:Int) 0 (i+1)/\G kn2=some (.lst (k2.map V.str)))
  ⟨bs,_,rfl,W5,ld5,o5,t5,hk5,g5,hb5,b5,hk25⟩ ?_ ?_⟩
 ·rintro i σ G7 hi ⟨bs,v12,rfl,W7,ld7,o7,t7,hk7,g7,hb7,b7,hk27⟩;have ct7:=b7.ct;simp only[lU] at ct7;have ln:=iP bs;refine⟨_,rfl,.inl ⟨rfl,_,bG.of g7⟩,_,rfl,_,rfl,d,l,kn2,k2,5,rfl,W7.deal,hk27,n2l,by lia,by decide,by decide,fun t8 H8 D8 o8 h8 ok8 nm8 sz8=>⟨dA,fun p hp=>?_⟩⟩;have W8:=W7.out D8 o8;have g8:=aY W7.deal g7 nlo o8;have hk8:=aY W7.deal hk7 n3l o8;have hk28:=aY W7.deal hk27 n2l o8;obtain⟨H9,e0,s9,g9⟩:=sF hp (.tup [.str "tell",.ref t8.p]);rw[e0];clear e0;refine⟨lo,_,_,rfl,rfl,s9 _ _ g8,by rw[bD];exact aN (by lia),?_⟩;have tN:=TS.lst (ys:=bA bs++[.ref p]) (s9 _ _ g8);have tA:=((TS.out W7.deal o8).trans (.of s9)).trans tN;refine⟨bs++[.tell p t8],_,rfl,(W8.same s9).lst (zs:=bA bs++[.ref p]) (s9 _ _ g8) nlo nln,by rw[nO];exact ld7,((o7.trans (dP.out (sc:=sc) o8)).trans (dP.of s9)).new l0,t7.trans tA,(aH n3o).trans (s9 _ _ hk8),by rw[aC,eA];rfl,aS.app (qs:=[.tell p t8]) (aS.ts tA _ hb7) ⟨⟨tN _ _ g9,h8.ts ((TS.of s9).trans tN),ok8,by lia⟩,trivial⟩,?_,(aH n2o).trans (s9 _ _ hk28)⟩
  exact b7.snoc (aP2 nm8 (by lia))
 rintro σ G7 ⟨bs,v12,rfl,W7,ld7,o7,t7,hk7,g7,hb7,b7,hk27⟩;have ct7:=b7.ct;simp only[lU] at ct7;have ln:=iP bs;obtain⟨lf,gl⟩:=W7.gLeft;refine⟨_,rfl,sc,_,rfl,gl,_,rfl,lo,_,rfl,.inl (bG.of g7),_,_,rfl,rfl,?_⟩;obtain⟨H8,p8,W8,o8⟩:=W7.pLeft (lf-((bA bs).length:Int));refine⟨_,rfl,sc,_,rfl,p8,?_⟩;have g8:=W7.keep g7 nlo o8;have hk8:=W7.keep hk7 n3l o8;have hk28:=W7.keep hk27 n2l o8;have t8:=t7.trans (W7.ts o8);refine⟨_,rfl,_,rfl,_,rfl,lo,_,rfl,.inl ⟨bG.of g8,fun pb hpb=>⟨by show 4<=sizeLine;decide,fun q hq=>?_⟩⟩⟩;have s9:=(aB hpb (.tup (bA bs))).trans (aB hq (.tup [.str "when",.ref t.p,.ref pr3,.ref pb]));have gb9:=aB hq (.tup [.str "when",.ref t.p,.ref pr3,.ref pb]) _ _ (show aO H8 pb (.tup (bA bs)) pb=_ from aC);have gq9:aO (aO H8 pb (.tup (bA bs))) q (.tup [.str "when",.ref t.p,.ref pr3,.ref pb]) q=some (.tup [.str "when",.ref t.p,.ref pr3,.ref pb]):=aC;generalize aO (aO H8 pb (.tup (bA bs))) q (.tup [.str "when",.ref t.p,.ref pr3,.ref pb])=H9 at s9 gb9 gq9 ⊢
 have l3:=mY.len rs3 b3.sc;have c3':=b3.ct;refine⟨_,rfl,_,rfl,kn3,rfl,⟨_,bG.of (s9 _ _ hk8)⟩,dI (K:=K) (a:=kn3) (xs:=k3.map V.str) (fun i ys σ G=>G=H9/\(∃v,σ=[v,some (.ref kn2)])/\ys=((k3.take i).filter fun x=>decide (x∈k2)).map V.str)
  (aN (by rw[ae];lia)) ⟨rfl,⟨_,rfl⟩,rfl⟩ (fun i ys σ G ⟨_,_,e⟩=>by
   rw[e,ae];exact db (qk _ _) (by rw[du];lia)) (by rintro i ys σ G _ ⟨e,_⟩;rw[e];exact bG.of (s9 _ _ hk8)) ?_ ?_⟩
 ·rintro i v ys σ G hv ⟨rfl,⟨v',rfl⟩,rfl⟩;obtain⟨x,rfl,hx⟩:=uU hv;refine⟨_,rfl,_,rfl,kn2,_,rfl,.inl (bG.of (s9 _ _ hk28)),rfl,iE _,_,rfl,?_⟩;have ei:yL (V.str x) (k2.map V.str)=decide (x∈k2):=gY _ _;rw[bE hx,ju,cy]
  by_cases c:x∈k2
  ·refine bI (ei.trans (ag c)) ⟨_,rfl,rfl,⟨_,rfl⟩,?_⟩;rw[dm (p:=fun x=>decide (x∈k2)) (ag c)];rfl
  ·refine aW (fun z=>c (af (ei.symm.trans z))) ⟨rfl,⟨_,rfl⟩,?_⟩;rw[dy (p:=fun x=>decide (x∈k2)) (by simpa using c)];simp
 rintro ys σ G ⟨rfl,_,rfl⟩ l10 hl10;rw[ae,dk];refine⟨by show 3<=sizeLine;decide,fun p hp=>?_⟩;have s10:=aB hl10 (.lst ((k3.filter fun x=>decide (x∈k2)).map V.str));have s11:=aB hp (.tup [.ref q,.int t3,.ref l10]);have sA:=s9.trans (s10.trans s11);have tA:=(t8.trans (.of sA))
 have oF:=(o7.trans o8).trans (dP.of sA);refine k p l10 (.when q pr3 pb t rs3 bs) _ t3 rr _ (W8.same sA) (by have e:lY (.when q pr3 pb t rs3 bs)=iL rs3+iL bs:=rfl;rw[e,vq,Int.mul_add];lia) oF aC ⟨(s10.trans s11) _ _ gq9,h14.ts tA,⟨ok1,by lia⟩,tA _ _ hp4,(s10.trans s11) _ _ gb9,aS.ts tA _ hr4,aS.ts ((W7.ts o8).trans (.of sA)) _ hb7⟩ ?_ ?_ (s11 _ _ aC)
 ·exact sR.when b3 (by rw[ie t30] at b7;exact b7) (by lia) hm n2 n3 nm1 (by lia)
 ·exact(o7.trans o8).fresh W8.all (s9.free hl10)
theorem aQ2(m:Nat)(C_Draw:Cl P w K mg base 1 spDraw "_law_draw")(C_Whn46:Cl P w K mg base (5+3*m) (yZ m) "_law_when")(C_Rws46:Cl P w K mg base (4+3*m) (bN7 m) "_law_rows")(C_SetR:Cl P w K mg base 5 spSetE "_law_set_row")(C_Trm46:Cl P w K mg base 4 (sM 3) "_law_term")(m_int:mg "int"=none):eQ P w K mg base "_law_row" "_law_row" bA8 (5+3*m+1) ["_law_deal_here","_law_scene","_law_known","_law_deep"] (vR m):=by
 refine fS ["_law_deal_here","_law_scene","_law_known","_law_deep","_law_form","_law_k","_law_rows_here","_law_tells"] fun H Q nd hr h=>?_
 obtain⟨d,l,sc,nl,kn,kd,wd,rm,bb,xs,ks,deep,rfl,W0,hk,nk,lk,hm,hd,hbb,k⟩:=h;have hu:=kK hr;refine⟨_,(aF (pdp hu (pv 1) aJ (aL fH (yV hu (pv 1) aJ) aD))
  (dX 4 nd (bN C_Draw hr (aA (pv 0) (aP aD)))
  (aF (bL (gL (PW.pt (hX (fY cA (pv 4) aD) (hX (fY pP (pv 3) aD) (gQ (fY lG (yV hu (pv 1) aJ) (bK cB (bJ (aA aD (aP aD))) (pct oN m_int qp (aP (pec lG (pv 3) aD)))))))))) (aE (aM (bN C_Whn46 hr (aA (pv 0) (aA (pv 1) (aA (pv 2) (aP (pv 3)))))))) aX)
  (aF (bL (gL (PW.pt (hX (fY cA (pv 4) aD) (hX (fY cA (pv 3) aD) (gQ (fY lG (yV hu (pv 1) aJ) aD)))))) (dX 5 nd (aL bV aD (bN C_Draw hr (aA (pv 0) (aP aD))))
  (aF (pdp hu (pv 1) aJ (pv 5))
  (aF (oK (bN C_Rws46 hr (aA (pv 0) (aA (pv 1) (aA (pv 2) (aA aD (aP (aL bV aD (bN C_Draw hr (aA (pv 0) (aP aD)))))))))) (lH rfl (bH (gG 6 nd) (bH (gG 7 nd) (bH (gG 2 nd) gN)))))
  (aF (pdp hu (pv 1) aJ aD)
  (aE (aM (aV (aA (aV (aA aJ (aA (pv 5) (aP (pv 6))))) (aA (aL eR (pv 5) (pv 7)) (aP (pv 2))))))))))) aX)
  (aF (bL (fY pP (pv 4) aD) (aE (aM (bN C_SetR hr (aA (pv 0) (aA (pv 1) (aP (pv 2))))))) aX)
  (aE (aM (aV (aA (aV (aA aJ (aP (bN C_Trm46 hr (aA (pv 0) (aA (pv 2) (aP aD))))))) (aA aD (aP (pv 2)))))))))))),?_⟩
 have rp:=mW m;obtain⟨lf,gl⟩:=W0.gLeft;refine⟨_,rfl,sc,_,rfl,gl,_,_,rfl,rfl,?_⟩;obtain⟨H1,p1,W1,o1⟩:=W0.pLeft (lf-1);refine⟨_,rfl,sc,_,rfl,p1,?_⟩;have hk1:=W0.keep hk nk o1;refine⟨_,rfl,d,l,10,rfl,W1.deal,by decide,by decide,fun fo H2 f0 f1 D2 o2=>?_⟩;have W2:=W1.out D2 o2;have hk2:=aY W1.deal hk1 nk o2;have oA:=o1.trans (dP.out (sc:=sc) o2);clear p1 gl W0 W1 D2 hk hk1 o2;refine⟨fun b G=>We G d l sc nl kd wd xs rm bb/\dP [d,l,sc] H2 G/\(b=true->deep<2),?_,?_⟩
 ·refine⟨_,rfl,rfl,_,rfl,?_⟩;refine pH (fun _=>⟨_,rfl,_,_,rfl,rfl,_,rfl,?_⟩) (fun _=>⟨W2,dP.refl _,fun z=>nomatch z⟩)
  by_cases c:deep<2
  ·obtain⟨lf,gl⟩:=W2.gLeft;refine bI (ag c) ⟨_,rfl,sc,_,rfl,gl,dA,fun l0 hl0=>⟨_,rfl,_,_,rfl,rfl,.inr ⟨_,rfl,?_⟩⟩⟩;have h0:aO H2 l0 (.lst [.int 3,.int 6]) l0=some (.lst [.int 3,.int 6]):=aC;have s0:=aB hl0 (.lst [.int 3,.int 6]);generalize aO H2 l0 (.lst [.int 3,.int 6])=H3 at s0 h0 ⊢;obtain⟨v,hv⟩:∃v:Int,lP [V.int 3,V.int 6] (if decide (deep > 0)=true then 1 else 0)=some (.int v):=by
    split
    ·exact⟨6,rfl⟩
    ·exact⟨3,rfl⟩
   exact⟨l0,_,_,.int v,rfl,rfl,bG.of h0,hv,_,_,rfl,rfl,_,rfl,W2.same s0,dP.of s0,fun _=>c⟩
  ·exact aW (by simpa using c) ⟨W2,dP.refl _,fun z=>nomatch z⟩
 rintro b H3 ⟨W3,o3,hb⟩;have hk3:=W2.keep hk2 nk o3;have oB:=oA.trans o3
 cases b with
 |true =>
  refine bI rfl ?_;have d2:=hb rfl
  cases m with
  |zero=>exact absurd d2 (by lia)
  |succ m =>
  exact⟨_,rfl,_,rfl,_,rfl,_,rfl,d,l,sc,nl,kn,kd,wd,rm,bb,xs,ks,deep,rfl,W3,hk3,nk,lk,by lia,by lia,fun p kn' r k2 tells r2 H' W' ld' o' h' hr' b' f' hk'=>k p kn' r k2 tells r2 H' W' ld' (oB.trans o') h' hr' b' (.inr (oB.fresh W3.all f')) hk'⟩
 |false =>
 refine aW (by simp) ?_;clear hb;refine⟨fun b G=>We G d l sc nl kd wd xs rm bb/\G=H3/\(b=true->deep=0),?_,?_⟩
 ·refine⟨_,rfl,rfl,_,rfl,?_⟩;refine pH (fun _=>⟨_,rfl,rfl,_,rfl,?_⟩) (fun _=>⟨W3,rfl,fun z=>nomatch z⟩)
  by_cases c:deep=0
  ·obtain⟨lf,gl⟩:=W3.gLeft;exact bI (by rw[c];exact ag rfl) ⟨_,rfl,sc,_,rfl,gl,_,_,rfl,rfl,_,rfl,W3,rfl,fun _=>c⟩
  ·exact aW (fun z=>c (by have z:=af z;injection z)) ⟨W3,rfl,fun z=>nomatch z⟩
 rintro b G ⟨_,rfl,hb⟩
 cases b with
 |true =>
  refine bI rfl ?_;have d0:=hb rfl;obtain rfl:m=2:=by lia
  obtain rfl:=hbb rfl;refine⟨_,rfl,d,l,3,rfl,W3.deal,by decide,by decide,fun y H4 y0 y1 D4 o4=>⟨_,_,rfl,rfl,?_⟩⟩;have W4:=W3.out D4 o4;have hk4:=aY W3.deal hk3 nk o4;obtain⟨H5,p5,W5,o5⟩:=W4.pBy (1+y) (by lia);refine⟨_,rfl,_,rfl,sc,_,rfl,p5,?_⟩;have hk5:=W4.keep hk4 nk o5;refine⟨_,rfl,_,rfl,_,rfl,_,rfl,d,l,2,rfl,W5.deal,by decide,by decide,fun z H6 z0 z1 D6 o6=>⟨_,_,rfl,rfl,?_⟩⟩;have W6:=W5.out D6 o6;have hk6:=aY W5.deal hk5 nk o6;have oC:=oB.trans ((dP.out (sc:=sc) o4).trans (o5.trans (dP.out (sc:=sc) o6)));obtain⟨n,hn,n1,n2⟩:∃n:Nat,1+z=(n:Int)/\1<=n/\n<=2:=⟨(1+z).toNat,by lia,by lia,by lia⟩
  simp only[lU] at lk;refine⟨d,l,sc,nl,kn,kd,wd,rm,1+y,xs,ks,1,n,by show [_,_,_,_,V.int (1+z)]=_;rw[hn],W6,hk6,nk,by simp only[lU];lia,by decide,by lia,by decide,fun z=>absurd z (by decide),fun p7 pr7 kn7 rs7 k7 t7 r7 H7 W7 ld7 o7 h7 hp7 hr7 b7 q7 hk7=>?_⟩;refine⟨p7,_,rfl,aU.of h7,rfl,_,_,rfl,_,_,rfl,_,_,rfl,rfl,?_⟩;obtain⟨H8,p8,W8,o8⟩:=W7.pBy 1 (by decide);refine⟨_,rfl,sc,_,rfl,p8,?_⟩;have n7l:kn7≠l:=by
   rcases q7 with z|z
   ·rw[z];exact nk
   ·exact(W6.new z).2.1
  have hk8:=W7.keep hk7 n7l o8;refine⟨_,rfl,_,rfl,by show 3<=sizeLine;decide,fun q hq=>⟨_,rfl,_,rfl,_,_,rfl,rfl,?_,_,rfl,by show 3<=sizeLine;decide,fun p hp=>?_⟩⟩
  ·exact .inl ⟨by lia,by lia⟩
  have s9:=aB hq (.tup [.str "times",.int (1+y),.ref pr7]);have s10:=aB hp (.tup [.ref q,.int ((1+y)*t7),.ref kn7]);have sA:=s9.trans s10;have tA:=(W7.ts o8).trans (.of sA);refine k p kn7 (.times q pr7 (1+y) rs7) k7 _ r7 _ (W8.same sA) (by have e:lY (.times q pr7 (1+y) rs7)=(1+y).toNat*iL rs7:=rfl;rw[e,rh,ie (by lia),we];exact ld7) ((oC.trans (o7.trans o8)).trans (dP.of sA)) aC ⟨s10 _ _ aC,tA _ _ hp7,aS.ts tA _ hr7⟩ (sR.times b7 n2 (by lia) (by lia)) ?_ (sA _ _ hk8);rcases q7 with z|z
  ·exact .inl z
  ·exact .inr (oC.fresh W6.all z)
 |false =>
 refine aW (by simp) ?_;refine⟨_,rfl,_,_,rfl,rfl,_,rfl,?_⟩;refine pH (fun _=>?_) (fun _=>?_)
 ·exact⟨_,rfl,_,rfl,_,rfl,d,l,sc,nl,kn,kd,wd,rm,bb,xs,ks,rfl,W3,hk3,nk,by lia,fun p kn' r x r2 H' W' ld' o' h' hr' s' m' f' hk'=>k p kn' r _ 0 r2 H' W' ld' (oB.trans o') h' hr' (s'.row m') (.inr (oB.fresh W3.all f')) hk'⟩
 ·refine⟨_,rfl,_,rfl,d,l,kn,ks,7,rfl,W3.deal,hk3,nk,by lia,by decide,by decide,fun t H4 D4 o4 h4 ok4 nm4 sz4=>⟨dA,fun q hq=>⟨_,rfl,by show 3<=sizeLine;decide,fun p hp=>?_⟩⟩⟩;have s9:=aB hq (.tup [.str "tell",.ref t.p]);have s10:=aB hp (.tup [.ref q,.int 1,.ref kn]);have sA:=s9.trans s10;exact k p kn (.tell q t) ks 1 rm _ ((W3.out D4 o4).same sA) (by have e:lY (.tell q t)=0:=rfl;rw[e];lia) ((oB.trans (dP.out (sc:=sc) o4)).trans (dP.of sA)) aC ⟨s10 _ _ aC,h4.ts (.of sA),ok4,by lia⟩ (aP2 nm4 (by lia)) (.inl rfl) (sA _ _ (aY W3.deal hk3 nk o4))
theorem aP1(m:Nat)(C_Row46:Cl P w K mg base (6+3*m) (bA4 (m+1)) "_law_row")(m_range:mg "range"=none)(m_tuple:mg "tuple"=none):eQ P w K mg base "_law_rows" "_law_rows" aS8 (6+3*m+1) ["_law_deal_here","_law_scene","_law_known","_law_deep","_law_many"] (oZ m):=by
 refine fS ["_law_deal_here","_law_scene","_law_known","_law_deep","_law_many","_law_found","_law_tells","_law_k","_law_row_here","_law_more"] fun H Q nd hr h=>?_
 obtain⟨d,l,sc,nl,kn,kd,wd,rm,bb,xs,ks,deep,n,rfl,W0,hk,nk,lk,hm,hn,hd,hbb,k⟩:=h;have hu:=kK hr;refine⟨_,(dX 5 nd (bJ bS)
  (dX 6 nd aD
  (aF (pfr (eB (by rfl) m_range (aP (pv 4))) (gG 7 nd)
  (aE (bL (fY lG (yV hu (pv 1) aJ) aD) (aF (oK (bN C_Row46 hr (aA (pv 0) (aA (pv 1) (aA (pv 2) (aP (pv 3)))))) (lH rfl (bH (gG 8 nd) (bH (gG 9 nd) (bH (gG 2 nd) gN)))))
  (aF (bZ (eJ bq eh ej dD (pv 5) (aP (pv 8))))
  (aE (psz 6 nd (aL bV (pv 6) (pv 9)))))) aX)))
  (aE (aM (aV (aA (pct bQ m_tuple fi (aP (pv 5))) (aA (pv 6) (aP (pv 2)))))))))),?_⟩
 have rp:=mW m;refine⟨bo _,fun lo hlo=>?_⟩;obtain⟨_,nlo,_,nln⟩:=W0.new hlo;have nko:kn≠lo:=aI hk hlo;obtain⟨H1,e0,s1,g1⟩:=sF hlo (.lst []);rw[e0];clear e0;have R12:lU m<=12:=by
  rcases m with _|_|m<;>simp only[lU]<;>lia
 refine⟨_,rfl,n,rfl,by lia,by lia,jJ (n:=(n:Int).toNat) (fun i σ G=>∃(knc:Addr) (kc:List Str) (rs:List Rw) (tl rr:Int) (v7 v8 v9:Option V),σ=[some (.ref d),some (.ref sc),some (.ref knc),some (.int deep),some (.int n),some (.ref lo),some (.int tl),v7,v8,v9]/\We G d l sc nl kd wd xs rr bb/\bb*(iL rs:Int)+rr<=rm/\dP [d,l,sc] H G/\G lo=some (.lst (bA rs))/\aS G rs/\sR kd ks xs rs kc tl m i/\(knc=kn\/H knc=none)/\knc≠l/\knc≠lo/\G knc=some (.lst (kc.map V.str)))
  ⟨kn,ks,[],0,rm,_,_,_,rfl,W0.same s1,by have e:iL []=0:=rfl;rw[e];lia,dP.of s1,g1,trivial,sR.nil,.inl rfl,nk,nko,s1 _ _ hk⟩ ?_ ?_⟩
 ·rintro i σ G hi ⟨knc,kc,rs,tl,rr,v7,v8,v9,rfl,W2,ld2,o2,g2,hr2,b2,q2,n2l,n2o,hk2⟩;have i1:i+1<=n:=by lia
  have mul1:(i+1)*lU m<=n*lU m:=jp _ i1;have mul2:(i+1)*lU m=i*lU m+lU m:=se _ _;have sl:=mY.len rs b2.sc;have ct:=b2.ct;have ln:=iP rs;obtain⟨lf,gl⟩:=W2.gLeft;refine⟨_,rfl,sc,_,rfl,gl,_,_,rfl,rfl,_,rfl,?_⟩;refine pH (fun _=>?_) (fun _=>⟨knc,kc,rs,tl,rr,_,_,_,rfl,W2,ld2,o2,g2,hr2,b2.mono (by lia),q2,n2l,n2o,hk2⟩);refine⟨_,rfl,_,rfl,_,rfl,_,rfl,d,l,sc,nl,knc,kd,wd,rr,bb,xs,kc,deep,rfl,W2,hk2,n2l,by lia,hm,hd,hbb,fun p3 kn3 r3 k3 t3 rr3 H3 W3 ld3 o3 h3 hr3 b3 q3 hk3=>?_⟩;refine⟨p3,_,rfl,aU.of h3,rfl,_,_,rfl,_,_,rfl,_,_,rfl,rfl,?_⟩;have g3:=W2.keep g2 nlo o3;have n3l:kn3≠l:=by
   rcases q3 with z|z
   ·rw[z];exact n2l
   ·exact(W2.new z).2.1
  have n3o:kn3≠lo:=by
   rcases q3 with z|z
   ·rw[z];exact n2o
   ·exact(aI g2 z).symm
  refine⟨_,rfl,.inl ⟨rfl,_,bG.of g3⟩,_,rfl,lo,_,_,rfl,rfl,g3,by rw[bD];exact aN (by lia),?_⟩;have tN:=TS.lst (ys:=bA rs++[.ref r3.p]) g3;have hR:=aS.app (qs:=[r3]) (aS.ts ((W2.ts o3).trans tN) rs hr2) ⟨dO.ts tN r3 hr3,trivial⟩;refine⟨_,rfl,_,rfl,_,_,rfl,rfl,?_⟩;refine⟨kn3,k3,rs++[r3],tl+t3,rr3,_,_,_,rfl,W3.lst (zs:=bA rs++[.ref r3.p]) g3 nlo nln,by rw[nO,show iL [r3]=lY r3 from Nat.add_zero _,vq,Int.mul_add];lia,(o2.trans o3).new hlo,by rw[aC,eA];rfl,hR,b2.snoc b3,?_,n3l,n3o,(aH n3o).trans hk3⟩;rcases q3 with z|z
  ·rw[z];exact q2
  ·exact .inr (o2.fresh W2.all z)
 rintro σ G ⟨knc,kc,rs,tl,rr,v7,v8,v9,rfl,W2,ld2,o2,g2,hr2,b2,q2,n2l,n2o,hk2⟩;refine⟨_,rfl,lo,_,rfl,.inl ⟨bG.of g2,fun t ht=>⟨_,rfl,_,rfl,by show 3<=sizeLine;decide,fun p hp=>?_⟩⟩⟩;have s9:=aB ht (.tup (bA rs));have s10:=aB hp (.tup [.ref t,.int tl,.ref knc]);have sA:=s9.trans s10;exact k p t knc rs kc tl rr _ (W2.same sA) ld2 (o2.trans (dP.of sA)) aC (s10 _ _ aC) (aS.ts (.of sA) _ hr2) b2 q2 (sA _ _ hk2)
theorem bB1(C_Rws46:Cl P w K mg base 13 (oZ 2) "_law_rows")(C_Draw:Cl P w K mg base 1 spDraw "_law_draw")(C_Trm46:Cl P w K mg base 4 (sM 3) "_law_term")(m_len:mg "len"=none)(m_tuple:mg "tuple"=none):eQ P w K mg base "_law_program" "_law_program" aO8 14 ["_law_deal_here","_law_kinds","_law_names_here","_law_room"] spPrgE:=by
 refine fS ["_law_deal_here","_law_kinds","_law_names_here","_law_room","_law_scene","_law_rows_here","_law_tells","_law_known"] fun H Q nd hr h=>?_
 obtain⟨d,l,kl,nl,ks,xs,rfl,D,hk,nk,k1,k3,hn,nn,x1,x9,k⟩:=h;refine⟨_,(dX 4 nd (aF3 (fC aJ (tL bM m_len ge (aP (pv 1))) (fC aJ (pv 2) (fC aJ (pv 3) (fC aJ aD (fC aJ aD (fC aJ aD aG4)))))) rfl rfl (by decide) (by decide))
  (aF (oK (bN C_Rws46 hr (aA (pv 0) (aA (pv 4) (aA (bJ bS) (aA aD (aP (aL bV aD (bN C_Draw hr (aA (pv 0) (aP aD)))))))))) (lH rfl (bH (gG 5 nd) (bH (gG 6 nd) (bH (gG 7 nd) gN)))))
  (aE (aM (aV (aA (pct bQ m_tuple fi (aP (pv 1))) (aP (aL iN (pv 5) (aV (aP (aV (aA aJ (aP (bN C_Trm46 hr (aA (pv 0) (aA (pv 7) (aP aD))))))))))))))))),?_⟩
 refine fun sc hsc=>⟨_,rfl,kl,_,rfl,.inl (bG.of (aB hsc (.dK []) _ _ hk)),_,rfl,_,rfl,aC,iU ks.length nl 6 1 9 3,by rw[ae];rfl,by show 6<=15;decide,?_⟩
 rw[bG6,uK (acc:=[]) (more:=iU ks.length nl 6 1 9 3) (show tI.Nodup from rM)];have s1:=aB hsc (.dK ([]++iU ks.length nl 6 1 9 3));have h1:aO H sc (.dK ([]++iU ks.length nl 6 1 9 3)) sc=some (.dK (iU ks.length nl 6 1 9 3)):=aC;generalize aO H sc (.dK ([]++iU ks.length nl 6 1 9 3))=H1 at s1 h1 ⊢;have W1:We H1 d l sc nl ks.length 3 xs 6 1:=⟨D.same s1,⟨_,h1⟩,s1 _ _ hn,(jO D hsc).1,nn,x1,x9,by lia,by lia,by decide,by decide,by decide,by decide⟩
 have hk1:=s1 _ _ hk;refine⟨_,rfl,_,rfl,bo _,fun kn hkn=>?_⟩;have nkn:=(W1.new hkn).2.1;have s2:=aB hkn (.lst []);have h2:aO H1 kn (.lst []) kn=some (.lst (([]:List Str).map V.str)):=aC;generalize aO H1 kn (.lst [])=H2 at s2 h2 ⊢;have W2:=W1.same s2;refine⟨_,rfl,d,l,6,rfl,W2.deal,by decide,by decide,fun y H3 y0 y1 D3 o3=>⟨_,_,rfl,rfl,?_⟩⟩;have W3:=W2.out D3 o3;have hk3:=aY W2.deal (s2 _ _ hk1) nk o3;have h3:=aY W2.deal h2 nkn o3;have oA:=(eO.of (d:=d) (l:=l) (s1.trans s2)).trans o3;obtain⟨n,hn',n6⟩:∃n:Nat,1+y=(n:Int)/\n<=6:=⟨(1+y).toNat,by lia,by lia⟩
 refine⟨d,l,sc,nl,kn,ks.length,3,6,1,xs,[],0,n,by show [_,_,_,_,V.int (1+y)]=_;rw[hn'],W3,h3,nkn,by simp only[lU,List.length_nil];lia,by decide,n6,by decide,fun _=>rfl,fun p4 pr4 kn4 rs4 k4 t4 r4 H4 W4 ld4 o4 h4 hp4 hr4 b4 q4 hk4=>?_⟩;refine⟨p4,_,rfl,aU.of h4,rfl,_,_,rfl,_,_,rfl,_,_,rfl,rfl,?_⟩;have hkl4:=W3.keep hk3 nk o4;have n4l:kn4≠l:=by
  rcases q4 with z|z
  ·rw[z];exact nkn
  ·exact(W3.new z).2.1
 have oB:=bJ9 oA hsc o4;have ct:=b4.ct;simp only[lU] at ct;have sl:=mY.len rs4 b4.sc;have ln:=iP rs4;simp only[List.length_nil] at sl;refine⟨_,rfl,kl,_,rfl,.inl ⟨bG.of hkl4,fun kt hkt=>?_⟩⟩;obtain⟨H5,e0,s5,h5⟩:=sF hkt (.tup (ks.map V.str));rw[e0];clear e0;refine⟨_,rfl,_,rfl,_,rfl,d,l,kn4,k4,7,rfl,W4.deal.same s5,s5 _ _ hk4,n4l,by lia,by decide,by decide,fun t6 H6 D6 o6 h6 ok6 nm6 sz6=>⟨dA,fun q hq=>⟨jT,fun u hu'=>?_⟩⟩⟩;have t56:=TS.out (W4.deal.same s5) o6;have s7:=aB hq (.tup [.str "tell",.ref t6.p]);have s8:=aB hu' (.tup [.ref q]);have hq8:aO (aO H6 q (.tup [.str "tell",.ref t6.p])) u (.tup [.ref q]) q=_:=s8 _ _ aC;have hu8:aO (aO H6 q (.tup [.str "tell",.ref t6.p])) u (.tup [.ref q]) u=some (.tup [.ref q]):=aC;have s78:=s7.trans s8;generalize aO (aO H6 q (.tup [.str "tell",.ref t6.p])) u (.tup [.ref q])=H8 at s78 hq8 hu8 ⊢;refine⟨pr4,u,_,_,rfl,rfl,(t56.trans (.of s78)) _ _ (s5 _ _ hp4),hu8,by rw[bD];exact cu (aN (by show _+1<=_;lia)),fun pr H9 s9 h9=>⟨dA,fun p hp=>?_⟩⟩
 have s10:=aB hp (.tup [.ref kt,.ref pr]);have sA:=s78.trans (s9.trans s10);have tA:=t56.trans (.of sA);have e9:bA rs4++[V.ref q]=bA (rs4++[.tell q t6]):=by rw[eA];rfl
 rw[e9] at h9;have g:RwE ks.length k4 xs (.tell q t6) k4 1 2:=aP2 nm6 (by lia);have b:=b4;have cl:=(mY.app (ks:=[]) b4.sc g.sc).clo;have r0:=W4.r0;have nm:∀y∈qE (rs4++[.tell q t6]),y∈xs:=fun x hx=>by
  rcases cl.1 x hx with e|e
  ·cases e
  ·rw[vM] at e;rcases bz.mp e with e|e
   ·exact b4.st x e
   ·exact g.st x e
 refine k p (rs4++[.tell q t6]) _ (D6.same sA) ((oB.trans (.of s5)).trans (o6.trans (.of sA))) ⟨⟨kt,pr,aC,tA _ _ h5,s10 _ _ h9⟩,aS.app (qs:=[.tell q t6]) (aS.ts ((TS.of s5).trans tA) _ hr4) ⟨⟨(s9.trans s10) _ _ hq8,h6.ts (.of sA),ok6,by lia⟩,trivial⟩,?_,⟨_,mY.app (ks:=[]) b4.sc g.sc⟩,fO.app b4.tk ⟨g.tk,trivial⟩,?_,k1,k3,vY b4.dp g.dp,jV.app b4.tz ⟨g.tz,trivial⟩,(Few.len x9).sub nm,by decide⟩ (b4.kd.app g.kd) (by rw[nO,show iL [.tell q t6]=0 from rfl];lia) nm
 ·rw[jQ];simp only[aZ,Rw.cnt];lia
 ·have t0:=b4.t0;rw[rY,b4.tl];simp only[kT,tel];lia
theorem aN2(C_Draw:Cl P w K mg base 1 spDraw "_law_draw")(m_range:mg "range"=none)(m_len:mg "len"=none)(m_int:mg "int"=none):eQ P w K mg base "_law_names" "_law_names" aW1 2 ["_law_deal_here","_law_many"] spNamesE:=by
 refine fS ["_law_deal_here","_law_many","_law_letters","_law_kept","_law_core","_law_at","_law_turn","_law_found","_law_k","_law_name"] fun H Q nd hr h=>?_
 obtain⟨d,l,m,rfl,D,m0,m9,k⟩:=h;refine⟨_,(@aF _ _ _ _ _ (psz 2 nd aJ)
  (@aF _ _ _ _ _ (@gD _ _ 3 _ _ _ _ nd rfl (iz rfl) (@aV _ _ _ _ _ (@aA _ _ _ _ _ aJ (@aA _ _ _ _ _ aJ (@aA _ _ _ _ _ aJ (@aA _ _ _ _ _ aJ (@aA _ _ _ _ _ aJ (@aA _ _ _ _ _ aJ (@aA _ _ _ _ _ aJ (@aA _ _ _ _ _ aJ (@aA _ _ _ _ _ aJ (@aA _ _ _ _ _ aJ (@aA _ _ _ _ _ aJ (@aA _ _ _ _ _ aJ bS rfl) rfl) rfl) rfl) rfl) rfl) rfl) rfl) rfl) rfl) rfl) rfl)) rfl (iz rfl))
  (@aF _ _ _ _ _ (psz 4 nd (eJ PySem.F.plainAttrs_str PySem.F.slot_str_join PySem.F.type_str_join bF0 aJ (aP (cU ["_law_k","_law_letters","_law_deal_here"] [none,some 2,some 0] (eB (by rfl) m_range (aP (bN C_Draw hr (aA (pv 0) (aP aD))))) (fun _ _ _ _=>(gG 0)) (fun _ _ _ _=>eS) (fun _ _ _ _=>(bK aA7 (pv 1) (bN C_Draw hr (aA (pv 2) (aP aD)))))))))
  (@aF _ _ _ _ _ (psz 5 nd (bN C_Draw hr (aA (pv 0) (aP (aL bV (tL uV m_len ge (aP (pv 4))) aD)))))
  (@aF _ _ _ _ _ (psz 6 nd (bN C_Draw hr (aA (pv 0) (aP aD))))
  (@aF _ _ _ _ _ (psz 7 nd (bJ bS))
  (@aF _ _ _ _ _ (pfr (eB (by rfl) m_range (aP (pv 1))) (gG 8 nd)
  (dX 9 nd (aL mC (aL mC (dC aU4 (pv 4) eN (dU (pv 5))) (bK aA7 (pv 2) (aL iG (aL bV (pv 6) (aL eR aD (pv 8))) aD))) (dC aU4 (pv 4) (dU (pv 5)) eN))
  (aE (bZ (eJ bq eh ej dD (pv 7) (aP (aL mC (pv 9) (aL zH aJ (pct oN m_int qp (aP (pec eX (pv 9) (pv 3))))))))))))
  (@aE _ _ _ (aM (pv 7)))))))))),?_⟩
 refine⟨by show 12<=sizeLine;decide,fun t ht=>?_⟩;have D0:=D.same (aB ht (.tup [.str "kinds",.str "ladder",.str "flat",.str "choose",.str "first",.str "let",.str "tell",.str "when",.str "else",.str "times",.str "end",.str "of"]));have o0:=eO.of (d:=d) (l:=l) (aB ht (.tup [.str "kinds",.str "ladder",.str "flat",.str "choose",.str "first",.str "let",.str "tell",.str "when",.str "else",.str "times",.str "end",.str "of"]));have h0:aO H t (.tup [.str "kinds",.str "ladder",.str "flat",.str "choose",.str "first",.str "let",.str "tell",.str "when",.str "else",.str "times",.str "end",.str "of"]) t=some (.tup (yP.map V.str)):=aC;have f0:= @aR.free _ _ (aB ht (.tup [.str "kinds",.str "ladder",.str "flat",.str "choose",.str "first",.str "let",.str "tell",.str "when",.str "else",.str "times",.str "end",.str "of"]));generalize aO H t (.tup [.str "kinds",.str "ladder",.str "flat",.str "choose",.str "first",.str "let",.str "tell",.str "when",.str "else",.str "times",.str "end",.str "of"])=H0 at D0 o0 h0 f0 ⊢
 have k:∀(p:Addr) (ws:List Str) (a b:Str) (tn:Int) (H':Hp),dN H' d l->eO d l H0 H'->H0 p=none->H' p=some (.lst (ws.map V.str))->ws.length=m.toNat->a.length+b.length<=6->aL6 a b tn ws->Q (.ref p) H':=fun p ws a b tn H' D' o' f'=>k p ws a b tn H' D' (o0.trans o') (f0 f')
 clear o0 f0;refine⟨rfl,_,rfl,d,l,7,rfl,D0,by decide,by decide,fun n0 H1 n1 n2 D1 o1=>⟨n0,rfl,by lia,by lia,?_⟩⟩;refine jY (fun i ys σ G=>dN G d l/\eO d l H0 G/\(∃v,σ=[v,some (.str "abcdefghijklmnopqrstuvwxyz"),some (.ref d)])/\∃zs:List Str,ys=zs.map V.str/\zs.length=i/\∀z∈zs,z.length=1) (aN (by lia)) ⟨D1,o1,⟨_,rfl⟩,[],rfl,rfl,fun _ z=>nomatch z⟩
  (by rintro i ys σ G ⟨_,_,_,zs,e,e2,_⟩;rw[e,ae];lia) ?_ ?_
 ·rintro i ys σ G hi ⟨D2,o2,⟨v,rfl⟩,zs,rfl,hl,h1⟩;refine⟨_,rfl,_,rfl,d,l,26,rfl,D2,by decide,by decide,fun r H3 r0 r1 D3 o3=>?_⟩;obtain⟨c,hc⟩:=bX9 (z:="abcdefghijklmnopqrstuvwxyz") r0 r1;refine⟨_,r,c,rfl,rfl,by decide,hc,D3,o2.trans o3,⟨_,rfl⟩,zs++[⟨#[c]⟩],by rw[cy];rfl,by rw[aj,hl];rfl,fun z hz=>?_⟩;rcases bz.mp hz with q|q
  ·exact h1 z q
  ·have e:z=⟨#[c]⟩:=by simpa using q
   rw[e];rfl
 rintro ys σ H2 ⟨D2,o2,_,zs,rfl,hl,h1⟩ p hp;have hsm:=wE h1;refine⟨_,p,zs,rfl,rfl,bG.of aC,by rw[hsm];show zs.length+zs.length*0<=_;lia,?_⟩;have hj:=aX6 "" zs;rw[hsm] at hj;have e0:("": Str).length=0:=rfl;rw[e0] at hj;have D3:=D2.same (aB hp (.lst (zs.map V.str)));have o3:=o2.trans (eO.of (d:=d) (l:=l) (aB hp (.lst (zs.map V.str))));have h03:=aB hp (.lst (zs.map V.str)) _ _ (TS.out D0 o2 _ _ h0);generalize aO H2 p (.lst (zs.map V.str))=H3 at D3 o3 h03 ⊢;generalize Txt.join "" zs=cr at hj ⊢;have c6:cr.length<=6:=by lia
 have cz:cr.length<=sizeLine:=cu (aN (by lia));refine⟨_,rfl,_,rfl,cr,rfl,cz,_,_,rfl,rfl,d,l,_,rfl,D3,by lia,by lia,fun at' H4 a0 a1 D4 o4=>?_⟩;refine⟨_,rfl,d,l,26,rfl,D4,by decide,by decide,fun tn' H5 b0 b1 D5 o5=>?_⟩;have oA:=o3.trans (o4.trans o5);refine⟨bo _,fun lf hlf=>?_⟩;have nf:=aJ8 D5 oA hlf;have L6:nJ (aO H5 lf (.lst [])) d l lf []:=nJ.new D5 hlf;have o6:=oA.trans (eO.of (d:=d) (l:=l) (aB hlf (.lst [])));have t5:=aB hlf (.lst []) _ _ (TS.out D4 o5 _ _ (TS.out D3 o4 _ _ h03));generalize aO H5 lf (.lst [])=H6 at L6 o6 t5 ⊢;refine⟨_,rfl,m,rfl,by lia,by lia,jJ (n:=m.toNat) (fun i σ G=>∃(ws:List Str) (v7 v8:Option V),σ=[some (.ref d),some (.int m),some (.str "abcdefghijklmnopqrstuvwxyz"),some (.ref t),some (.str cr),some (.int at'),some (.int tn'),some (.ref lf),v7,v8]/\nJ G d l lf (ws.map V.str)/\eO d l H0 G/\G t=some (.tup (yP.map V.str))/\ws.length=i/\aL6 (Txt.slice cr none (some at')) (Txt.slice cr (some at') none) tn' ws)
  ⟨[],_,_,rfl,L6,o6,t5,rfl,fun _ _ z=>nomatch z⟩ ?_ ?_⟩
 ·rintro i σ G hi ⟨ws,v7,v8,rfl,L7,o7,t7,hw,hb⟩;have hc:=bE9 tn' i;generalize hlt:bW1 tn' i=c at hc;have t1:=pd cr none (some at');have t2:=pd cr (some at') none;have q26:(0:Int)<26:=by decide
  have z1:(Txt.slice cr none (some at')).length+(⟨#[c]⟩:Str).length<=7:=by show _+1<=7;lia
  have z2:(Txt.slice cr none (some at')++(⟨#[c]⟩:Str)).length<=7:=by rw[strLen_append];exact z1
  refine⟨_,rfl,_,rfl,_,rfl,cr,rfl,cz,_,rfl,_,rfl,_,rfl,_,_,rfl,rfl,.inl ⟨by decide,by decide⟩,_,_,rfl,rfl,_,_,rfl,rfl,q26,_,_,c,rfl,rfl,by decide,hc,_,_,rfl,rfl,db z1 (by decide),_,rfl,_,rfl,_,rfl,cr,rfl,cz,_,_,rfl,rfl,cu (aN (by lia)),?_⟩;have z3:(Txt.slice cr none (some at')++(⟨#[c]⟩:Str)++Txt.slice cr (some at') none).length<=13:=by rw[strLen_append];lia
  have ew:Txt.slice cr none (some at')++(⟨#[c]⟩:Str)++Txt.slice cr (some at') none=wdK (Txt.slice cr none (some at')) (Txt.slice cr (some at') none) tn' i:=by rw[<-hlt];rfl
  generalize Txt.slice cr none (some at')++(⟨#[c]⟩:Str)++Txt.slice cr (some at') none=wd at z3 ew ⊢;refine⟨_,rfl,.inl ⟨rfl,_,bG.of L7.lst⟩,_,rfl,_,rfl,_,rfl,t,_,rfl,.inr (aU.of t7),rfl,pG yP,.inr ⟨_,rfl,?_⟩⟩;have qe:=cG9;have fin:∀w':Str,(w'=wd\/w'=wd++"q")->∃(us:List Str) (v7 v8:Option V),[some (.ref d),some (.int m),some (.str "abcdefghijklmnopqrstuvwxyz"),some (.ref t),some (.str cr),some (.int at'),some (.int tn'),some (.ref lf),some (.int (0+(i:Int))),some (.str wd)]=[some (.ref d),some (.int m),some (.str "abcdefghijklmnopqrstuvwxyz"),some (.ref t),some (.str cr),some (.int at'),some (.int tn'),some (.ref lf),v7,v8]/\nJ (aO G lf (.lst (ws.map V.str++[.str w']))) d l lf (us.map V.str)/\eO d l H0 (aO G lf (.lst (ws.map V.str++[.str w'])))/\(aO G lf (.lst (ws.map V.str++[.str w']))) t=some (.tup (yP.map V.str))/\us.length=i+1/\aL6 (Txt.slice cr none (some at')) (Txt.slice cr (some at') none) tn' us:=fun w' hw' =>
   ⟨ws++[w'],_,_,rfl,by rw[cy];exact L7.app _,bH0 o7 nf,TS.lst L7.lst _ _ t7,by rw[aj,hw];rfl,aK3 hb hw (by rw[ew] at hw';exact hw')⟩
  generalize yL (V.str wd) (yP.map V.str)=kb
  cases kb with
  |true=>exact⟨_,_,rfl,rfl,rfl,.inr rfl,_,_,rfl,rfl,by show _+1<=_;exact cu (aN (by lia)),lf,_,_,rfl,rfl,L7.lst,aN (by rw[ae];lia),fin _ (.inr rfl)⟩
  |false=>exact⟨_,_,rfl,rfl,rfl,.inl rfl,_,_,rfl,rfl,by show _+0<=_;exact cu (aN (by lia)),lf,_,_,rfl,rfl,L7.lst,aN (by rw[ae];lia),fin _ (.inl (aX0 wd))⟩
 ·rintro σ G ⟨ws,v7,v8,rfl,L7,o7,_,hw,hb⟩;have t1:=bG9 c6 a0 a1;exact⟨_,rfl,k lf ws _ _ _ G L7.deal o7 nf L7.lst hw (by lia) hb⟩
def aP7(Pw:Addr):xM:=⟨Pw,lxP yX,"exchanged.<locals>.<lambda>"⟩
def bW5:wO P w K mg base 103 where
 ar:=(lxA yX).getD ⟨[],[],none,[],[],none,[]⟩
 body:=lxB yX
 sc:=lxS yX
 p1:="part"
 p2:="number"
 cn:=["ladder","row"]
 te:=tIf (uA (wN rEq (iS 1) (iS 3))) (aL2 (iX (iS 2) tNil)) (aL2 (iX (iS 0) tNil))
 S:=⟨rfl,rfl,rfl,by decide,by decide,by decide,by decide,by decide⟩
 hb:=by intros;rfl
 h:=fun qual f c cl A outer s H hr=>nN (fY cA (pv 1) (pv 3)) (bJ (aP (pv 2))) (bJ (aP (pv 0)))
theorem bV8{cF D c Pw:Addr}(m_NoFit:mg "NoFit"=some (.ref cF))(M_NoFit:XMk K cF D none)(B:aB4 base mg c Pw)(C_RwI:Cl P w K mg base 4 spRowsP "rows_in")(C_Rbl:ClZ P w K mg base 105 103 spRb "rebuilt")(m_len:mg "len"=none):bX4 P w K mg base "exchanged" "exchanged" yX 108 ["program","row","steepness"] c (aZ7 cF (aP7 Pw)):=by
 refine cJ9 ["program","row","steepness","rows","ladder"] (fun H Q nd hr h=>?_) (by rintro _ _ _ _ ⟨_,_,_,_,_,_,_,rfl,_⟩;rfl);obtain⟨p,st,xs,rs,j,a,b,rfl,hT,P0,hst,hc,way⟩:=h;have key:∀y∈(lxS yX).names,y.2= .free->y.1="ladder"\/y.1="row":=by decide
 refine⟨_,(dX 3 nd (bN C_RwI hr (aP (pv 0)))
  (aF (bL (gL (PW.pt (aY9 (mK (xI aG7 pP aD (pv 1) (tL bM m_len ge (aP (pv 3))))) (aC4 (fY aZ0 (bK aG (bK cB (pv 3) (pv 1)) aD) aJ))))) (aE (aJ2 (by rfl) m_NoFit M_NoFit)) aX)
  (dX 4 nd (aL iN (aL iN (dC kR (bK cB (pv 3) (pv 1)) eN (dU aD)) (aV (aP (pv 2)))) (dC kR (bK cB (pv 3) (pv 1)) (dU aD) eN))
  (aE (aM (aV (aA (bK aG (pv 0) aD) (aP (cM2 C_Rbl bW5 hr (aA (bK aG (pv 0) aD) (aP (bU7 B rfl fun y hy hf=> .inl (by rcases key y hy hf with e|e<;>(rw[e];rfl))))) fun y hy hf=>by rcases key y hy hf with e|e<;>(rw[e];rfl)))))))))),?_⟩
 obtain⟨v0,pr,hp,hpr⟩:=P0.ex;obtain⟨pk,ks,w0,hpk,hk,k1,k3,kd⟩:=P0.kn;obtain⟨rfl,rfl⟩:v0= .ref pk/\w0= .ref pr:=by
  have e:=hp.symm.trans hpk;injection e with e;injection e with e;injection e with e1 e;injection e with e2 e
  exact⟨e1,e2.symm⟩
 have ll:=dG rs;have c0:=P0.cnt;refine⟨_,rfl,p,xs,rs,rfl,P0,fun rl H1 s1 n1 h1=>?_⟩;refine⟨fun t G=>(t=true↔∀L,¬pN (cK rs) j L)/\G=H1,?_,?_⟩
 ·refine⟨_,rfl,_,_,rfl,rfl,_,rfl,?_⟩
  by_cases c1:0<=j
  ·refine bI (ag c1) ?_;refine⟨_,rfl,rl,_,rfl,.inl (bG.of h1),_,_,rfl,rfl,_,rfl,?_⟩;rw[bD,ll]
   by_cases c2:j<(aZ rs:Int)
   ·refine aW (by rw[ag c2];decide) ?_;obtain⟨L,hL⟩:∃L,(cK rs)[j.toNat]?=some L:=⟨_,ak (by rw[ll];lia)⟩
    have hr:=(gM P0.rows L (bj hL)).ts (.of s1);have hat:lP (bA (cK rs)) j=some (.ref L.p):=by
     rw[show j=((j.toNat:Nat):Int) by lia];exact kC (by unfold bA;rw[cm,hL];rfl)
    refine⟨_,rfl,_,rfl,rl,_,j,.ref L.p,rfl,rfl,bG.of h1,hat,L.p,_,_,.str L.w,rfl,rfl,aU.of hr.at,iV,rfl,_,rfl,?_⟩;show(_↔_)/\_;refine⟨⟨fun z L' h=>?_,fun z=>?_⟩,rfl⟩
    ·have e:L'=L:=di (h.2.1.symm.trans hL);rw[e] at h;rw[h.2.2] at z;simp at z
    ·by_cases c3:L.w="ladder"
     ·exact absurd ⟨c1,hL,c3⟩ (z L)
     ·rw[dh fun e=>c3 (by injection e)];rfl
   ·refine bI (by rw[dh c2];rfl) ?_;refine⟨⟨fun _ L h=>?_,fun _=>rfl⟩,rfl⟩;have:=(ap.mp h.2.1).1;rw[ll] at this;lia
  ·refine aW (by rw[dh c1];decide) ?_;exact⟨_,rfl,bI rfl ⟨⟨fun _ L h=>c1 h.1,fun _=>rfl⟩,rfl⟩⟩
 rintro t G ⟨ht,rfl⟩;rcases way with⟨L,hL,k⟩|⟨nL,k⟩
 rotate_left
 ·obtain rfl:=ht.mpr nL;exact bI rfl (k _ s1)
 obtain rfl:t=false:=by
  cases t with
  |true=>exact absurd hL (ht.mp rfl L)
  |false=>rfl
 refine aW (by decide) ?_;have num:=hL.num;obtain⟨c1,hLj,hw⟩:=hL;have hr:=(gM P0.rows L (bj hLj)).ts (.of s1);have hat:lP (bA (cK rs)) j=some (.ref L.p):=by
  rw[show j=((j.toNat:Nat):Int) by lia];exact kC (by unfold bA;rw[cm,hLj];rfl)
 obtain⟨p0,x,sm,st0,a0,b0,lo,hi,ws,kd0,rfl,hsm⟩:=oR hr hw;have hp0:=hr.1;have hst1:=s1 _ _ hst;refine⟨_,rfl,_,rfl,rl,_,j,.ref p0,rfl,rfl,bG.of h1,hat,_,rfl,p0,_,rfl,aU.of hp0,by show ¬(HT.sIx 6 0 none=0/\HT.sIx 6 6 (some 3)=6);decide,fun c4 hc4=>?_⟩;obtain⟨s4,h4⟩:=nwX hc4 (.tup [.str "ladder",.str x,.ref sm]);refine⟨_,rfl,jT,fun c5 hc5=>?_⟩;obtain⟨s5,h5⟩:=nwX hc5 (.tup [.ref st]);refine⟨c4,c5,[.str "ladder",.str x,.ref sm],[.ref st],rfl,rfl,s5 _ _ h4,h5,by show 4<=_;decide,fun c6 H6 s6 h6=>?_⟩;have sA:=s4.trans (s5.trans s6);clear s4 s5 s6 h4 h5 hc4 hc5;refine⟨_,rfl,_,rfl,rl,_,j,.ref p0,rfl,rfl,bG.of (sA _ _ h1),hat,_,rfl,p0,_,rfl,aU.of (sA _ _ hp0),by show ¬(HT.sIx 6 0 (some 4)=0/\HT.sIx 6 6 none=6);decide,fun c7 hc7=>?_⟩;obtain⟨s7,h7⟩:=nwX hc7 (.tup [.int lo,.int hi]);refine⟨c6,c7,[.str "ladder",.str x,.ref sm,.ref st],[.int lo,.int hi],rfl,rfl,s7 _ _ h6,h7,by show 6<=_;decide,fun q H8 s8 h8=>?_⟩
 have s18:=sA.trans (s7.trans s8);have sZ:=s1.trans s18;clear sA s7 s8 h6 h7 hc7;refine⟨_,rfl,p,_,_,.ref pk,rfl,rfl,aU.of (sZ _ _ hp),rfl,_,rfl,p,_,_,.ref pr,rfl,rfl,aU.of (sZ _ _ hp),rfl,?_⟩;obtain⟨ps,eP⟩:=hT.is;have eP:H8 Pw=some (.tbl ps):=sZ _ _ eP;refine⟨hT.same sZ,fun f' c' H9 hT9 o9 hf hL=>?_⟩;have t9:TS H8 H9:=o9.ts eP;have t09:TS H H9:=(TS.of sZ).trans t9;generalize hL0:Rw.thr p0 "ladder" x [.ref sm,.ref st0,.int lo,.int hi] ⟨[.ref sm,.ref st0,.int lo,.int hi],.lad a0 b0 lo hi,[ws],kd0⟩=L0 at *;have hq9:dO H9 (sQ L0 q st a b):=by
  subst hL0;exact⟨t9 _ _ h8,rfl,rfl,hc,⟨sm,ws,st,rfl,rfl,t9 _ _ (s18 _ _ hsm),t09 _ _ hst⟩,⟨hr.2.ws.1,hr.2.ws.2,hr.2.ws.3⟩⟩
 have ql:(sQ L0 q st a b).p=q:=by subst hL0;rfl
 have thr:L0.isThr:=by subst hL0;trivial
 refine⟨f',c',_,[("ladder",.ref q),("row",.int j)],rfl,hL,rfl,fun y hy=>?_,pr,f',rs,fun _=>mG j (sQ L0 q st a b),fun _ _=>True,rfl,t09 _ _ hpr,aS.ts t09 rs P0.rows,by lia,fun _ _ _ _ _ _ h=>h,fun _ _ _ _=>trivial,fun _ _ _ _ _ _ _=>trivial,fun _ _ _ _ _=>trivial,fun r n G W sG hrG _ next=>?_,fun qr o H' s' hq ho ro=>?_⟩
 ·simp only[List.mem_cons,List.not_mem_nil,or_false] at hy;rcases hy with rfl|rfl
  ·exact⟨4,rfl,rfl⟩
  ·exact⟨1,rfl,rfl⟩
 ·refine⟨_,rfl,_,rfl,rfl,_,rfl,?_⟩
  by_cases e:(n:Int)=j
  ·refine bI (by rw[e];exact ag rfl) ⟨_,rfl,jT,fun l hl=>?_⟩;have s2:=aB hl (.lst [.ref q]);exact next l [sQ L0 q st a b] _ s2 (by rw[aC];unfold bA;rw[en,ql];rfl) ⟨dO.ts (.of (sG.trans s2)) _ hq9,trivial⟩ (bL3 e) (ai _)
  ·refine aW (fun z=>e (by have z:=af z;injection z)) ⟨_,rfl,jT,fun l hl=>?_⟩;have s2:=aB hl (.lst [.ref r.p]);exact next l [r] _ s2 aC ⟨dO.ts (.of s2) _ hrG,trivial⟩ (bH8 e) (ai _)
 refine⟨dA,fun r0 hr0=>?_⟩;have s3:=aB hr0 (.tup [.ref pk,.ref qr]);exact k r0 pk pr q qr o _ ((gK.of sZ).trans (o9.trans (.of (s'.trans s3)))) (hT9.same (s'.trans s3)) hp aC (s3 _ _ hq) (aS.ts (.of s3) _ ho) (lO thr rs 0 num ro)
theorem bR8(m_all:mg "all"=none)(m_zip:mg "zip"=none):eQ P w K mg base "_law_no_more" "_law_no_more" cC9 1 ["_law_one","_law_other"] (bA6 K):=by
 refine fS ["_law_one","_law_other"] fun H Q nd hr h=>?_
 obtain⟨v1,v2,u,e,n,rfl,h1,h2,n1,f1,f2,f3,f4,k⟩:=h;refine⟨_,(aE (aM (tL wP m_all wv (aP (cU ["_law_a","_law_b"] [none,none] (bR7 (by rfl) m_zip (aA (pv 0) (aP (pv 1)))) (fun _ _ _ _=>(cD3 K (n:=2) rfl (bH (gG 0) (bH (gG 1) gN)))) (fun _ _ _ _=>eS) (fun _ _ _ _=>(pec aG7 (aL eZ (bK (oW K) (pv 0) aD) (bK (oW K) (pv 1) aD)) (aL eZ (bK (oW K) (pv 1) aD) (bK (oW K) (pv 0) aD))))))))),?_⟩;obtain⟨a,x1,y1,rfl,ha,hx1,hy1⟩:=h1;obtain⟨b,x2,y2,rfl,hb,hx2,hy2⟩:=h2;refine⟨_,rfl,_,rfl,a,b,rfl,⟨_,ha⟩,⟨_,hb⟩,aR7 (xs:=[.ref x1,.ref y1]) (ys:=[.ref x2,.ref y2]) (fun i zs σ H2=>aR H H2/\(∃v1 v2,σ=[v1,v2])/\zs=([decide (u.1.1*e.1.2<=e.1.1*u.1.2),decide (u.2.1*e.2.2<=e.2.1*u.2.2)].take i).map V.bl)
  (aN (by show 2<=1000;decide)) rfl ⟨aR.refl _,⟨_,_,rfl⟩,rfl⟩ (by rintro i zs σ H2 ⟨_,_,e⟩;rw[e,ae,du];lia) (by rintro i zs σ H2 _ ⟨e,_⟩;exact⟨aU.ts e ha,aU.ts e hb⟩) ?_ ?_⟩
 ·rintro i x y zs σ H2 t hx hy ⟨s2,⟨v1,v2,rfl⟩,rfl⟩ ht;have s3:=s2.trans (aB ht (.tup [x,y]));refine⟨t,_,rfl,aU.of aC,rfl,_,_,rfl,_,_,rfl,rfl,?_⟩;rcases vW hx with⟨rfl,rfl⟩|⟨rfl,rfl⟩
  ·obtain⟨_,rfl⟩|⟨z,_⟩:=vW hy
   ·refine⟨_,rfl,x1,_,_,.int u.1.1,rfl,rfl,aU.ts s3 hx1,iV,_,rfl,x2,_,_,.int e.1.2,rfl,rfl,aU.ts s3 hx2,rfl,_,_,rfl,rfl,⟨n,n,f1.ba,f3.bb,by lia,by lia⟩,_,rfl,x2,_,_,.int e.1.1,rfl,rfl,aU.ts s3 hx2,iV,_,rfl,x1,_,_,.int u.1.2,rfl,rfl,aU.ts s3 hx1,rfl,_,_,rfl,rfl,⟨n,n,f3.ba,f1.bb,by lia,by lia⟩,_,_,rfl,rfl,s3,⟨_,_,rfl⟩,rfl⟩
   ·exact absurd z (by decide)
  ·obtain⟨z,_⟩|⟨_,rfl⟩:=vW hy
   ·exact absurd z (by decide)
   ·refine⟨_,rfl,y1,_,_,.int u.2.1,rfl,rfl,aU.ts s3 hy1,iV,_,rfl,y2,_,_,.int e.2.2,rfl,rfl,aU.ts s3 hy2,rfl,_,_,rfl,rfl,⟨n,n,f2.ba,f4.bb,by lia,by lia⟩,_,rfl,y2,_,_,.int e.2.1,rfl,rfl,aU.ts s3 hy2,iV,_,rfl,y1,_,_,.int u.2.2,rfl,rfl,aU.ts s3 hy1,rfl,_,_,rfl,rfl,⟨n,n,f4.ba,f2.bb,by lia,by lia⟩,_,_,rfl,rfl,s3,⟨_,_,rfl⟩,rfl⟩
 ·rintro zs σ H2 ⟨s2,_,rfl⟩ l2 hl2;exact⟨l2,[decide (u.1.1*e.1.2<=e.1.1*u.1.2),decide (u.2.1*e.2.2<=e.2.1*u.2.2)],rfl,bG.of aC,by
   have h:=k _ (s2.trans (aB hl2 (.lst (([decide (u.1.1*e.1.2<=e.1.1*u.1.2),decide (u.2.1*e.2.2<=e.2.1*u.2.2)].take 2).map V.bl))));unfold noM at h;rw[<-cK1] at h;exact h⟩
theorem bU5{cF D:Addr}{Lx:xM}(m_ThrowError:mg "ThrowError"=some (.ref D))(U:XUp K D)(XO:eV K cF D)(C_Xch:ClX P w K mg base 108 (aZ7 cF Lx) "exchanged")(H_Rfd:ClH P w K mg base 1 (aS7 cF) "_law_refused"):eQ P w K mg base "_law_told" "_law_told" cH4 109 ["_law_program_here","_law_at","_law_steepness_here"] (zP Lx):=by
 refine cL7 ["_law_program_here","_law_at","_law_steepness_here","_law_found","_law_e"] (fun H Q nd hr h=>?_) (by rintro _ _ _ _ ⟨_,_,_,_,_,_,_,rfl,_⟩;rfl);obtain⟨p,st,xs,rs,j,a,b,rfl,hT,P0,hst,hc,way⟩:=h;have hr1:cY 1 _:=hr.mono (by decide);refine⟨_,aH0 (PS.p0 (gD (i:=3) nd rfl (iz rfl) aJ))
  (aH0 (bE4 (i:=4) rfl rfl rfl nd rfl rfl rfl (by rfl) m_ThrowError U
   (fun Ex E1 ps=>aE (gD (i:=3) nd rfl (iz rfl) (cJ6 C_Xch hr ps (aA (pv 0) (aA (pv 1) (aP (pv 2)))))))
   (fun x=>aE (bL (iI (cL0 H_Rfd (hr1.h _) (aP (pv 4)))) (aE (gD (i:=3) nd rfl (iz rfl) aJ)) aX)))
  (pS.p0 (aE (aM (pv 3))))),?_⟩
 refine⟨_,rfl,_,rfl,_,rfl,p,st,xs,rs,j,a,b,rfl,hT,P0,hst,hc,?_⟩;rcases way with⟨L,hL,k⟩|⟨nL,k⟩
 ·exact .inl ⟨L,hL,fun r pk pr q qr o H1 o1 t1 e1 e2 e3 e4 R=>⟨_,rfl,k r pk pr q qr o H1 o1 t1 e1 e2 e3 e4 R⟩⟩
 ·refine .inr ⟨nL,fun H1 s1=>⟨cF,rfl,XO,fun σ x hl hx=>?_⟩⟩;obtain⟨v0,v1,v2,v3,v4,rfl⟩:=cK0 hl;refine⟨_,rfl,x,rfl,aC,fun H2 s2=>⟨_,rfl,?_⟩⟩;exact bI rfl ⟨_,rfl,k H2 (s1.trans ((aB hx _).trans s2))⟩
theorem bV9(C_Sts:Cl P w K mg base 3 spSteps "steps_of")(C_Bgn:Cl P w K mg base 1 spBegins "begins_rows")(m_tuple:mg "tuple"=none)(m_len:mg "len"=none):bR0 P w K mg base "rebuilt" "rebuilt" cH8 105 103 ["rows","change"] spRb:=by
 refine cM3 ["rows","change","blocks","word","row","number","many","inner"] (fun Λ cv H Q nd hr hg hz h=>?_) (by intro _ _ _ _ _ _ h;first|(cases h;subst_vars;rfl)|((repeat obtain⟨_,h⟩:=h);subst_vars;rfl));obtain⟨p,f,rs,Chg,Rq,rfl,hp,hR,hc,mono,rq0,rqW,rqT,hch,k⟩:=h;obtain rfl:=V.ref.inj (di (show some (V.ref f)=some (V.ref _) from hg));refine⟨_,(dX 2 nd (bJ (aP (bJ bS)))
  (aF (pfr (cX (bN C_Sts hr (aP (pv 0)))) (lH rfl (bH (gG 3 nd) (bH (gG 4 nd) (bH (gG 5 nd) gN))))
  (aE (bL (iI (bN C_Bgn hr (aA (pv 3) (aP (pv 4))))) (aE (bZ (eJ bq eh ej dD (pv 2) (aP (bJ bS))))) (aE (bL (fY cA (pv 3) aJ) (aE (bZ (eJ bq eu fc dJ (bK cB (pv 2) uL) (aP (cG8 (i:=1) Λ hz hr (aA (pv 4) (aP (pv 5)))))))) (dX 6 nd (tL bM m_len ge (aP (dC kR (pv 4) (dU aD) eN)))
  (dX 7 nd (pct bQ m_tuple fi (aP (cU ["block"] [none] (cX (dC uX (pv 2) (dU (aD8 vK (pv 6))) eN)) (fun _ _ _ _=>(gG 0)) (fun _ _ _ _=>eS) (fun _ _ _ _=>(pct (bV6 K) m_tuple fi (aP (pv 0)))))))
  (dX 2 nd (dC uX (pv 2) eN (dU (aD8 vK (pv 6))))
  (aE (bZ (eJ bq eu fc dJ (bK cB (pv 2) uL) (aP (cG8 (i:=1) Λ hz hr (aA (aL iN (dC kR (pv 4) eN (dU aD)) (pv 7)) (aP (pv 5))))))))))))))))
  (aE (aM (pct bQ m_tuple fi (aP (bK cB (pv 2) aD))))))),?_⟩
 refine⟨bo _,fun a0 ha0=>⟨jT,fun lb0 hlb0=>?_⟩⟩;have s0:=(aB ha0 (.lst [])).trans (aB hlb0 (.lst [.ref a0]));have ga0:=aB hlb0 (.lst [.ref a0]) _ _ (show aO H a0 (.lst []) a0=some (.lst []) from aC);have gl0:aO (aO H a0 (.lst [])) lb0 (.lst [.ref a0]) lb0=some (.lst [.ref a0]):=aC;have n0:a0≠lb0:=aI (show aO H a0 (.lst []) a0=some (.lst []) from aC) hlb0;have fl0:H lb0=none:=(aB ha0 (.lst [])).free hlb0;generalize aO (aO H a0 (.lst [])) lb0 (.lst [.ref a0])=H0 at s0 ga0 gl0 ⊢;refine⟨_,rfl,p,rs,rfl,s0 _ _ hp,aS.ts (.of s0) rs hR,hc,fun ls zs H2 s2 f2 h2 t2=>?_⟩;have s02:=s0.trans s2;have hR2:=aS.ts (.of s02) rs hR;have wd:=aS.wd rs hR;have zl:=t2.length;have sl:=fK rs 0;have nl1:ls≠a0:=(aI ga0 f2).symm;have nl2:ls≠lb0:=(aI gl0 f2).symm;have ga2:=s2 _ _ ga0;have gl2:=s2 _ _ gl0;have tsO:∀{G:Hp},dP [a0,lb0] H2 G->TS H2 G:=fun {G} o q xs e=>o q _ e fun z=>by
  simp only[List.mem_cons,List.not_mem_nil,or_false] at z;rcases z with z|z
  ·rw[z,ga2] at e;cases e
  ·rw[z,gl2] at e;cases e
 have smO:∀{G:Hp},dP [a0,lb0] H2 G->aR H G:=fun {G} o q u e=>o q _ (s02 _ _ e) fun z=>by
  simp only[List.mem_cons,List.not_mem_nil,or_false] at z;rcases z with z|z
  ·rw[z,ha0] at e;cases e
  ·rw[z,fl0] at e;cases e
 have lsO:∀{G:Hp},dP [a0,lb0] H2 G->G ls=some (.lst zs):=fun {G} o=>o _ _ h2 fun z=>by
  simp only[List.mem_cons,List.not_mem_nil,or_false] at z;exact z.elim nl1 nl2
 refine⟨ls,rfl,⟨_,bG.of h2⟩,gR (K:=K) (a:=ls) (xs:=zs) (fun i σ G=>∃(lb:Addr) (as:List Addr) (c:BSt) (v3 v4 v5 v6 v7:Option V),σ=[some (.ref p),some (.ref f),some (.ref lb),v3,v4,v5,v6,v7]/\dP [a0,lb0] H2 G/\G lb=some (.lst (as.reverse.map V.ref))/\(lb::as).Nodup/\(∀b∈lb::as,b∈[a0,lb0]\/H2 b=none)/\mP G i as c/\gP (Chg G) ((dS 0 rs).take i) [[]] c/\jB bd ((dS 0 rs).take i) 1=some c.length/\c.length<=i+1)
  ⟨lb0,[a0],[[]],_,_,_,_,_,rfl,dP.refl _,gl2,by simp[n0.symm],fun b hb=> .inl (by simpa [or_comm] using hb),⟨⟨ga2,trivial,ai _⟩,trivial⟩,rfl,rfl,ai _⟩ (by rintro i σ G _ ⟨_,_,_,_,_,_,_,_,_,o,_⟩;exact bG.of (lsO o)) ?_ ?_⟩
 ·have rm:∀{G G':Hp}{l:List Stp}{c d:BSt},TS G G'->gP (Chg G) l c d->gP (Chg G') l c d:=fun t r=>r.mono fun n r o=>mono _ _ n r o t
  rintro D' i v σ G hv ⟨lb,as,c,v3,v4,v5,v6,v7,rfl,oG,gb,nd1,fr,bk,run,dp,cl⟩;obtain⟨s,hs,q,rfl,hq⟩:=iZ t2 hv;have il:=(ap.mp hs).1;have hrs:=dO.ts (tsO oG) _ (iW rs 0 hR2 s (bj hs));obtain⟨m',bm,bm2⟩:=bI1 bd (kM rs 0 1 wd (ai _)) hs dp;refine⟨q,_,rfl,aU.of (tsO oG _ _ hq),rfl,_,_,rfl,_,_,rfl,_,_,rfl,rfl,?_⟩;refine⟨_,rfl,_,rfl,s,rfl,hrs,fun G1 s1=>⟨_,rfl,?_⟩⟩;have oG:=oG.trans (dP.of s1);have gb:=s1 _ _ gb;have bk:=bk.at (.of s1) (ai _) fun a _ o e=>s1 a o e
  have hrs:=dO.ts (.of s1) _ hrs;have run:=rm (.of s1) run;clear s1;have etk:=bE hs;obtain⟨nla,nda⟩:=fk.mp nd1;have bl:=bk.len
  by_cases co:fF s=true
  ·refine bI co ⟨_,rfl,.inl ⟨rfl,_,bG.of gb⟩,bo _,fun a ha=>?_⟩;have sa:=aB ha (.lst []);have nba:=aI gb ha;have fa:=aG8 oG ha;have ga:aO G1 a (.lst []) a=some (.lst []):=aC;generalize aO G1 a (.lst [])=G2 at sa ga ⊢;refine⟨lb,_,_,rfl,rfl,sa _ _ gb,by rw[ae,ib];exact iY (by lia),?_⟩;have tN:=TS.lst (ys:=as.reverse.map V.ref++[.ref a]) (sa _ _ gb);have em:m'=c.length+1:=by
    unfold bd at bm;rw[bv co] at bm;exact(di bm).symm
   have naa:a∉as:=fun z=>by
    obtain⟨o,e⟩:=bk.mem a z;rw[ha] at e;cases e
   refine⟨lb,a::as,[]::c,_,_,_,_,_,rfl,uZ (oG.trans (dP.of sa)) (fr lb az),by rw[aC,gj,cy];rfl,?_,fun b hb=>?_,⟨⟨(aH nba.symm).trans ga,trivial,bo _⟩,bk.at ((TS.of sa).trans tN) (sv i) fun b hb o e=>(aH fun z=>nla (by rw[<-z];exact hb)).trans (sa _ _ e)⟩,?_,?_,by rw[cf];lia⟩
   ·rw[fk,fk];exact⟨fun z=>by
     rcases cj.mp z with z|z
     ·exact nba z
     ·exact nla z,naa,nda⟩
   ·rcases cj.mp hb with z|z
    ·rw[z];exact fr lb az
    ·rcases cj.mp z with z|z
     ·rw[z];exact fa
     ·exact fr b (av _ z)
   ·rw[etk];exact(rm ((TS.of sa).trans tN) run).snoc (by unfold fQ;rw[bv co])
   ·rw[bm2,em,cf]
  ·refine aW co ⟨_,rfl,rfl,_,rfl,?_⟩
   by_cases cr:s.1="row"
   ·refine bI (by rw[cr];exact ag rfl) ?_;have bm:=bm;unfold bd at bm;rw[ay co,bv cr] at bm;obtain⟨B,st,rfl⟩:∃B st,c=B::st:=by
     cases c with
     |nil=>rw[ay (by decide)] at bm;cases bm
     |cons B st=>exact⟨B,st,rfl⟩
    rw[bv (by rw[cf];lia)] at bm;obtain⟨a,as',rfl⟩:∃a as',as=a::as':=by
     cases as with
     |nil=>exact bk.elim
     |cons a as'=>exact⟨a,as',rfl⟩
    obtain⟨⟨ga,hB,lB⟩,bk⟩:=bk;refine⟨_,rfl,lb,_,_,.ref a,rfl,rfl,bG.of gb,by rw[gj,cy];exact qN,.inl ⟨rfl,_,bG.of ga⟩,rfl,_,rfl,_,rfl,_,_,rfl,hch s.2.1 s.2.2 G1 _ (smO oG) hrs (rq0 _ (by rw[<-fJ rs 0];exact iy (qt.mpr ⟨bj hs,ag cr⟩)) _ (.of (smO oG))) fun l o G2 s2' hl hro hcg lo=>?_⟩;refine⟨a,l,_,_,rfl,rfl,s2' _ _ ga,hl,by rw[bD,bD];exact cu (iY (by lia)),?_⟩;have tN:=TS.lst (ys:=bA B++bA o) (s2' _ _ ga);have nba:lb≠a:=fun z=>nla (by rw[z];exact az)
    refine⟨lb,a::as',(B++o)::st,_,_,_,_,_,rfl,uZ (oG.trans (dP.of s2')) (fr a (av _ az)),(aH nba).trans (s2' _ _ gb),nd1,fr,⟨⟨by rw[aC,eA],aS.app (aS.ts ((TS.of s2').trans tN) _ hB) (aS.ts tN _ hro),by rw[aj];lia⟩,bk.at ((TS.of s2').trans tN) (sv i) fun b hb o e=>(aH fun z=>(fk.mp nda).1 (by rw[<-z];exact hb)).trans (s2' _ _ e)⟩,?_,?_,by rw[cf] at cl ⊢;lia⟩
    ·rw[etk];exact(rm ((TS.of s2').trans tN) run).snoc (by unfold fQ;rw[ay co,bv cr];exact⟨B,st,o,rfl,mono _ _ _ _ _ tN hcg,rfl⟩)
    ·rw[bm2, <-bm,cf,cf]
   ·refine aW (fun z=>cr (by have z:=af z;injection z)) ?_;obtain⟨Bs,B,st,x,y,us,rfl,lB,hu2,em,hp',mk⟩:=aV7 hrs co cr bm;obtain⟨xs',ys',rfl,bk1,bk2⟩:=bk.split;obtain⟨a,as',rfl⟩:∃a as',ys'=a::as':=by
     cases ys' with
     |nil=>exact bk2.elim
     |cons a as'=>exact⟨a,as',rfl⟩
    have bk1r:=bk1.rev;rw[List.reverse_reverse] at bk1r;have zlen:(xs'.reverse.map V.ref).length=us.length:=by rw[ae,bk1r.len,lB]
    have u1:1<=us.length:=by lia
    have gb:G1 lb=some (.lst ((a::as').reverse.map V.ref++xs'.reverse.map V.ref)):=by rw[gb,sk,cy]
    refine⟨_,rfl,_,rfl,s.2.1.p,_,rfl,aU.of hp',cJ8,fun t ht=>?_⟩;rw[cJ7];obtain⟨G2,e0,st,gt⟩:=sF ht (.tup us);rw[e0];clear e0;refine⟨t,us,rfl,.inr (aU.of gt),?_⟩;refine⟨_,rfl,_,rfl,_,rfl,_,rfl,lb,_,rfl,bG.of (st _ _ gb),fun l6 hl6=>?_⟩;rw[bH6 zlen u1];have s6:=st.trans (aB hl6 (.lst (xs'.reverse.map V.ref)));have g6:aO G2 l6 (.lst (xs'.reverse.map V.ref)) l6=some (.lst (xs'.reverse.map V.ref)):=aC;generalize aO G2 l6 (.lst (xs'.reverse.map V.ref))=G6 at s6 g6 ⊢;refine⟨l6,rfl,⟨_,bG.of g6⟩,dI (K:=K) (a:=l6) (xs:=xs'.reverse.map V.ref) (fun j ys σ G'=>aR G6 G'/\(∃v,σ=[v])/\dL (zN G') ys (Bs.take j))
     (aN (by lia)) ⟨aR.refl _,⟨_,rfl⟩,trivial⟩ (by rintro j ys σ G' ⟨_,_,e⟩;rw[e.length,du];lia) (by rintro j ys σ G' _ ⟨e,_⟩;exact bG.of (e _ _ g6)) ?_ ?_⟩
    ·rintro j v ys σ G' hv ⟨sG,⟨v',rfl⟩,tw⟩;rw[cm] at hv;obtain⟨b,hb,rfl⟩:=vv.mp hv;obtain⟨B',hB',gB,rB,_⟩:=bk1r.get hb;refine⟨_,rfl,b,_,rfl,.inl ⟨bG.of ((s6.trans sG) _ _ gB),fun t' ht'=>?_⟩⟩;have sn:=aB ht' (.tup (bA B'));refine⟨sG.trans sn,⟨_,rfl⟩,?_⟩;rw[bE hB'];exact aF5 ⟨t',rfl,aC,aS.ts (.of (s6.trans (sG.trans sn))) _ rB⟩ (tw.mono fun _ _ z=>z.ts (.of sn))
    rintro ys σ G7 ⟨sG,_,tw⟩ l7 hl7;rw[zlen, <-lB,dk] at tw;have yl:=tw.length;refine⟨l7,_,rfl,.inl ⟨bG.of aC,fun u hu'=>?_⟩⟩;have s8:=s6.trans (sG.trans ((aB hl7 (.lst ys)).trans (aB hu' (.tup ys))));have tw:=tw.mono fun _ _ z=>zN.ts (.of ((aB hl7 (.lst ys)).trans (aB hu' (.tup ys)))) z
    have gu:aO (aO G7 l7 (.lst ys)) u (.tup ys) u=some (.tup ys):=aC;generalize aO (aO G7 l7 (.lst ys)) u (.tup ys)=G8 at s8 tw gu ⊢;refine⟨_,rfl,_,rfl,_,rfl,_,rfl,lb,_,rfl,bG.of (s8 _ _ gb),fun lb2 hlb2=>?_⟩;rw[aJ0 zlen u1];have s9:=aB hlb2 (.lst ((a::as').reverse.map V.ref));have g9:aO G8 lb2 (.lst ((a::as').reverse.map V.ref)) lb2=some (.lst ((a::as').reverse.map V.ref)):=aC;have f9:=aG8 (oG.trans (dP.of s8)) hlb2;have s19:=s8.trans s9;have nmem:∀b∈a::as',b≠lb2:=fun b hb z=>by
     obtain⟨o,e⟩:=bk2.mem b hb;rw[z] at e;rw[s8 _ _ e] at hlb2;cases hlb2
    have tw:=tw.mono fun _ _ z=>zN.ts (.of s9) z
    have gu:=s9 _ _ gu;generalize aO G8 lb2 (.lst ((a::as').reverse.map V.ref))=G9 at s9 g9 s19 tw gu ⊢;obtain⟨⟨ga,hB,lBn⟩,bk3⟩:=bk2;obtain⟨u0,ur,rfl⟩:∃u0 ur,us=u0::ur:=by
     cases us with
     |nil=>exact absurd u1 (by decide)
     |cons u0 ur=>exact⟨u0,ur,rfl⟩
    refine⟨_,rfl,lb2,_,_,.ref a,rfl,rfl,bG.of g9,by rw[gj,cy];exact qN,.inl ⟨rfl,_,bG.of (s19 _ _ ga)⟩,rfl,?_⟩;refine⟨_,rfl,_,rfl,s.2.1.p,_,rfl,aU.of (s19 _ _ hp'),cE5,fun t2 ht2=>?_⟩;rw[cK3];have s10:=aB ht2 (.tup [x,y]);refine⟨_,rfl,t2,u,_,_,rfl,rfl,aC,s10 _ _ gu,by show 2+_<=_;exact cu (aN (by lia)),fun qn G11 s11 h11=>⟨_,rfl,_,_,rfl,?_⟩⟩;have sB:=s19.trans (s10.trans s11);obtain⟨r',rfl,hr',rqE,mk'⟩:=mk qn ys G11 h11 (tw.mono fun _ _ z=>z.ts (.of (s10.trans s11))) (.of sB);refine hch r' s.2.2 G11 _ (smO (oG.trans (dP.of sB))) hr' (rqE (Rq G11) (rqW G11) (rqT G11)) fun l o G12 s12 hl hro hcg lo=>?_
    have sC:=sB.trans s12;refine⟨a,l,_,_,rfl,rfl,sC _ _ ga,hl,by rw[bD,bD];exact cu (iY (by lia)),?_⟩;have tN:=TS.lst (ys:=bA B++bA o) (sC _ _ ga);have nd2:=(ki.mp nda).2.1;refine⟨lb2,a::as',(B++o)::_,_,_,_,_,_,rfl,uZ (oG.trans (dP.of sC)) (fr a (av _ (bx _ az))),(aH (nmem a az).symm).trans ((s10.trans (s11.trans s12)) _ _ g9),fk.mpr ⟨fun z=>nmem lb2 z rfl,nd2⟩,fun b hb=>?_,⟨⟨by rw[aC,eA],aS.app (aS.ts ((TS.of sC).trans tN) _ hB) (aS.ts tN _ hro),by rw[aj];lia⟩,bk3.at ((TS.of sC).trans tN) (sv i) fun b hb o e=>(aH fun z=>(fk.mp nd2).1 (by rw[<-z];exact hb)).trans (sC _ _ e)⟩,?_,?_,?_⟩
    ·rcases cj.mp hb with z|z
     ·rw[z];exact f9
     ·exact fr b (av _ (bx _ z))
    ·rw[etk];exact(rm ((TS.of sC).trans tN) run).snoc (mk' _ o (mono _ _ _ _ _ tN hcg))
    ·rw[bm2,em];rfl
    ·rw[aj] at cl;rw[cf] at cl ⊢;lia
 ·rintro σ G ⟨lb,as,c,v3,v4,v5,v6,v7,rfl,oG,gb,nd1,fr,bk,run,dp,cl⟩;rw[zl,dk] at run;have run2:=run;obtain⟨o,_,rfl⟩:=jP rs 0 wd run
  match as,bk with
  |[a],⟨⟨ga,hB,_⟩,_⟩ =>
   exact⟨_,rfl,lb,_,_,.ref a,rfl,rfl,bG.of gb,rfl,a,_,rfl,.inl ⟨bG.of ga,fun q hq=>by
    obtain⟨o',ro',e⟩:=jP rs 0 wd (run2.mono fun n r u=>mono _ (aO G q (.tup (bA ([]++o)))) n r u (.of (aB hq _)))
    cases e
    exact k q o _ ((smO oG).trans (aB hq _)) aC (aS.ts (.of (aB hq _)) _ hB) ro'⟩⟩
theorem aO4(n:Nat)(C_Flt46:Cl P w K mg base (n+1) (xU n) "_law_flat"):eQ P w K mg base "_law_flat" "_law_flat" aV0 (n+1+1) ["_law_rows_here"] (xU (n+1)):=by
 refine fS ["_law_rows_here","_law_found","_law_row_here"] fun H Q nd hr h=>?_
 obtain⟨p,rs,rfl,hp,hR,hd,hc,k⟩:=h;refine⟨_,(dX 1 nd (bJ bS)
  (aF (pfr (vP (pv 0)) (gG 2 nd)
  (aF (bZ (eJ bq eh ej dD (pv 1) (aP (pv 2))))
  (aF (qM (bL (fY cA (bK aG (pv 2) aD) aJ) (aE (bZ (eJ bq eu fc dJ (pv 1) (aP (aL jZ (bN C_Flt46 hr (aP (bK aG (pv 2) aD))) (bN C_Flt46 hr (aP (bK aG (pv 2) aD)))))))) aX))
  (aE (qM (bL (fY cA (bK aG (pv 2) aD) aJ) (aE (bZ (eJ bq eu fc dJ (pv 1) (aP (bN C_Flt46 hr (aP (bK aG (pv 2) aD))))))) aX))))))
  (aE (aM (pv 1))))),?_⟩
 refine⟨bo _,fun lo hlo=>?_⟩;obtain⟨H1,e0,s1,g1⟩:=sF hlo (.lst []);rw[e0];clear e0;have pne:p≠lo:=aI hp hlo;have t1:∀{G:Hp},pZ lo H1 G->TS H G:=fun {G} b q ys e=>b q _ (s1 _ _ e) (fun z=>by rw[z,hlo] at e;cases e)
 have pl:=dG;have tot:∀n,(cK (rs.take n)).length<=900:=fun n=>by
  have:cK rs=cK (rs.take n)++cK (rs.drop n):=by rw[<-iO,jb]
  have h2:=fm List.length this;rw[aj,pl] at h2;lia
 refine⟨_,rfl,p,rfl,⟨_,aU.of (s1 _ _ hp)⟩,wB (K:=K) (a:=p) (xs:=bA rs) (fun i σ G=>∃v2,σ=[some (.ref p),some (.ref lo),v2]/\pZ lo H1 G/\G lo=some (.lst (bA (cK (rs.take i)))))
  ⟨_,rfl,pZ.refl,g1⟩ (by rintro i σ G _ ⟨_,_,b,_⟩;exact aU.of (t1 b _ _ hp)) ?_ ?_⟩
 ·rintro D' i v σ G hv ⟨v2,rfl,b1,g2⟩;obtain⟨r,hr0,rfl⟩:=aS9 hv;have hm:=bj hr0;have hR2:=aS.ts (t1 b1) rs hR;have hrr:=aS.mem hR2 r hm;have hdr:r.dp<=n:=db (aB9 hm) hd;have e1:cK (rs.take (i+1))=cK (rs.take i)++eG r:=by rw[bE hr0,iO];simp[cK]
  have t1':=tot (i+1);have t0:=tot i;rw[e1,aj] at t1';have lR:(bA (cK (rs.take i))).length<=900:=by rw[bD];exact t0
  refine⟨_,rfl,.inl ⟨rfl,_,bG.of g2⟩,_,rfl,lo,_,_,rfl,rfl,g2,aN (by lia),?_⟩;have tN:=TS.lst (ys:=bA (cK (rs.take i))++[.ref r.p]) g2;have g3:aO G lo (.lst (bA (cK (rs.take i))++[.ref r.p])) lo=some (.lst (bA (cK (rs.take i)++[r]))):=by rw[aC,eA];rfl
  have b3:=b1.trans (pZ.upd (d:=lo) (o:= .lst (bA (cK (rs.take i))++[.ref r.p])));have hrr3:=dO.ts tN r hrr;generalize aO G lo (.lst (bA (cK (rs.take i))++[.ref r.p]))=G3 at g3 b3 hrr3 ⊢;clear b1 g2 tN hrr hR2;have ext:∀{G:Hp}{l:Addr}{L:List Rw}(b:pZ lo H1 G),G lo=some (.lst (bA L))->∀zs,pZ lo H1 (aO G lo (.lst (bA L++zs))):=fun b _ zs=>b.trans pZ.upd
  refine⟨fun σ' G'=>∃L:List Rw,σ'=[some (.ref p),some (.ref lo),some (.ref r.p)]/\pZ lo H1 G'/\G' lo=some (.lst (bA (cK (rs.take i)++L)))/\(r.w="when"->L=eG r)/\(r.w≠"when"->L=[r]),?_,?_⟩
  ·refine⟨_,rfl,r.p,_,_,.str r.w,rfl,rfl,aU.of hrr3.at,iV,rfl,_,rfl,?_⟩
   cases r with
   |when q pa pb t a b =>
    refine bI (ag rfl) ?_;simp only[eG,List.length_cons,List.length_append] at t1';simp only[Rw.dp] at hdr
    cases n with
    |zero=>exact absurd hdr (by lia)
    |succ n =>
    have ca:=dG a;have cb:=dG b;refine⟨_,rfl,.inl ⟨rfl,_,bG.of g3⟩,_,rfl,q,_,_,.ref pa,rfl,rfl,aU.of hrr3.1,rfl,pa,a,rfl,hrr3.2.2.2.1,hrr3.2.2.2.2.2.1,by lia,by lia,fun l4 H4 s4 h4=>?_⟩;refine⟨_,rfl,q,_,_,.ref pb,rfl,rfl,aU.of (s4 _ _ hrr3.1),rfl,pb,b,rfl,s4 _ _ hrr3.2.2.2.2.1,aS.ts (.of s4) _ hrr3.2.2.2.2.2.2,by lia,by lia,fun l5 H5 s5 h5=>?_⟩;refine⟨l4,l5,_,_,rfl,rfl,s5 _ _ h4,h5,by rw[bD,bD];exact cu (aN (by lia)),fun l6 hl6=>?_⟩;have s6:=s4.trans (s5.trans (aB hl6 (.lst (bA (cK a)++bA (cK b)))));refine⟨lo,l6,_,_,rfl,rfl,s6 _ _ g3,aC,by rw[aj,bD,bD,bD,aj];exact cu (aN (by simp only[List.length_cons,List.length_nil];lia)),?_⟩;refine⟨eG (.when q pa pb t a b),rfl,(b3.trans (pZ.of s6)).trans pZ.upd,?_,fun _=>rfl,fun z=>absurd rfl z⟩;rw[aC, <-eA, <-eA];simp[eG]
   |times q pb m b =>
    exact aW (fun z=>absurd (af z) (by show ¬(V.str "times"=V.str "when");decide)) ⟨[_],rfl,b3,g3,fun z=>absurd z (show ¬("times": Str)="when" by decide),fun _=>rfl⟩
   |lt q x t=>exact aW (fun z=>absurd (af z) (by show ¬(V.str "let"=V.str "when");decide)) ⟨[_],rfl,b3,g3,fun z=>absurd z (show ¬("let": Str)="when" by decide),fun _=>rfl⟩
   |tell q t=>exact aW (fun z=>absurd (af z) (by show ¬(V.str "tell"=V.str "when");decide)) ⟨[_],rfl,b3,g3,fun z=>absurd z (show ¬("tell": Str)="when" by decide),fun _=>rfl⟩
   |thr q w x us am =>
    have hw:w≠"when":=fun z=>absurd hrr3.2.w (by rw[z];decide)
    exact aW (fun z=>hw (by have z:=af z;injection z)) ⟨[_],rfl,b3,g3,fun z=>absurd z hw,fun _=>rfl⟩
  ·rintro σ' G4 ⟨L,rfl,b4,g4,w1,w2⟩;have hrr4:=aS.mem (aS.ts (t1 b4) rs hR) r hm;rw[e1];refine⟨fun σ' G'=>σ'=[some (.ref p),some (.ref lo),some (.ref r.p)]/\pZ lo H1 G'/\G' lo=some (.lst (bA (cK (rs.take i)++eG r))),?_,?_⟩
   ·refine⟨_,rfl,r.p,_,_,.str r.w,rfl,rfl,aU.of hrr4.at,iV,rfl,_,rfl,?_⟩
    cases r with
    |when q pa pb t a b =>
     rw[w1 rfl] at g4;exact aW (fun z=>absurd (af z) (by show ¬(V.str "when"=V.str "times");decide)) ⟨rfl,b4,g4⟩
    |times q pb m b =>
     refine bI (ag rfl) ?_;rw[w2 (show ¬("times": Str)="when" by decide)] at g4;simp only[eG,List.length_cons] at t1';simp only[Rw.dp] at hdr
     cases n with
     |zero=>exact absurd hdr (by lia)
     |succ n =>
     have cb:=dG b;refine⟨_,rfl,.inl ⟨rfl,_,bG.of g4⟩,_,rfl,q,_,_,.ref pb,rfl,rfl,aU.of hrr4.1,rfl,pb,b,rfl,hrr4.2.1,hrr4.2.2,by lia,by lia,fun l5 H5 s5 h5=>?_⟩;refine⟨lo,l5,_,_,rfl,rfl,s5 _ _ g4,h5,by rw[bD,bD,aj];exact cu (aN (by simp only[List.length_cons,List.length_nil];lia)),?_⟩;refine⟨rfl,(b4.trans (pZ.of s5)).trans pZ.upd,?_⟩;rw[aC, <-eA];simp[eG]
    |lt q x t =>
     rw[w2 (show ¬("let": Str)="when" by decide)] at g4;exact aW (fun z=>absurd (af z) (by show ¬(V.str "let"=V.str "times");decide)) ⟨rfl,b4,g4⟩
    |tell q t =>
     rw[w2 (show ¬("tell": Str)="when" by decide)] at g4;exact aW (fun z=>absurd (af z) (by show ¬(V.str "tell"=V.str "times");decide)) ⟨rfl,b4,g4⟩
    |thr q w x us am =>
     rw[w2 (fun z=>absurd hrr4.2.w (by rw[show w="when" from z];decide))] at g4;exact aW (fun z=>absurd hrr4.2.w (by have z:=af z;injection z with z;rw[show w="times" from z];decide)) ⟨rfl,b4,g4⟩
   ·rintro σ' G5 ⟨rfl,b5,g5⟩;exact⟨_,rfl,b5,g5⟩
 ·rintro σ G ⟨v2,rfl,b1,g2⟩;rw[bD,dk] at g2;exact⟨_,rfl,k lo G (b1.same s1 hlo) g2⟩
theorem bY9(n:Nat)(C_Put:Cl P w K mg base (n+1) (aE9 n) "_law_put")(m_tuple:mg "tuple"=none):eQ P w K mg base "_law_put" "_law_put" cH6 (n+1+1) ["_law_rows_here","_law_left","_law_steepness_here"] (aE9 (n+1)):=by
 refine fS ["_law_rows_here","_law_left","_law_steepness_here","_law_found","_law_row_here","_law_one"] fun H Q nd hr h=>?_
 obtain⟨p,lc,st,rs,k0,j,a,b,L,rfl,hp,hR,hd,hc,hl,hst,cop,num,hw,k⟩:=h;have hr1:cY 1 _:=hr.mono (by lia);refine⟨_,(dX 3 nd (bJ bS)
  (aF (pfr (vP (pv 0)) (gG 4 nd)
  (aF (oK (aL fH (bK cB (pv 1) aD) aD) (bZ7 (pv 1) aD aU7))
  (aF (qM (bL (fY cA (bK cB (pv 1) aD) uL) (aE (psz 4 nd (aL iN (aL iN (dC kR (pv 4) eN (dU aD)) (aV (aP (pv 2)))) (dC kR (pv 4) (dU aD) eN)))) (aE (bL (fY cA (bK aG (pv 4) aD) aJ) (dX 5 nd (bN C_Put hr (aA (bK aG (pv 4) aD) (aA (pv 1) (aP (pv 2)))))
  (aE (psz 4 nd (aL iN (dC kR (pv 4) eN (dU aD)) (aV (aA (pv 5) (aP (bN C_Put hr (aA (bK aG (pv 4) aD) (aA (pv 1) (aP (pv 2)))))))))))) (aE (bL (fY cA (bK aG (pv 4) aD) aJ) (aE (psz 4 nd (aL iN (dC kR (pv 4) eN (dU aD)) (aV (aP (bN C_Put hr (aA (bK aG (pv 4) aD) (aA (pv 1) (aP (pv 2)))))))))) aX))))))
  (aE (bZ (eJ bq eh ej dD (pv 3) (aP (pv 4))))))))
  (aE (aM (pct bQ m_tuple fi (aP (pv 3))))))),?_⟩
 refine⟨bo _,fun lo hlo=>?_⟩;have s1:=aB hlo (.lst []);have g1:aO H lo (.lst []) lo=some (.lst []):=aC;have hl1:=s1 _ _ hl;generalize aO H lo (.lst [])=H1 at s1 g1 hl1 ⊢;have lne:lc≠lo:=aI hl hlo;have t1:∀{G:Hp},dP [lc,lo] H1 G->TS H G:=fun {G} b q ys e=>b q _ (s1 _ _ e) (fun z=>by
  simp only[List.mem_cons,List.not_mem_nil,or_false] at z;rcases z with z|z
  ·rw[z,hl] at e;cases e
  ·rw[z,hlo] at e;cases e)
 refine⟨_,rfl,p,rfl,⟨_,aU.of (s1 _ _ hp)⟩,wB (K:=K) (a:=p) (xs:=bA rs) (fun i σ G=>∃(v2 v3:Option V) (o:List Rw) (qa:Addr),σ=[some (.ref p),some (.ref lc),some (.ref st),some (.ref lo),v2,v3]/\dP [lc,lo] H1 G/\G lc=some (.lst [.int (j-(k0+aZ (rs.take i):Nat))])/\G lo=some (.lst (bA o))/\aS G o/\cI j L (sQ L qa st a b) k0 (rs.take i) o)
  ⟨_,_,[],st,rfl,dP.refl _,hl1,g1,trivial,rfl⟩ (by rintro i σ G _ ⟨_,_,_,_,_,b,_⟩;exact aU.of (t1 b _ _ hp)) ?_ ?_⟩
 ·rintro D' i v σ G hv ⟨v2,v3,o,qa,rfl,b1,hl2,g2,ho,pt⟩;obtain⟨r,hr0,rfl⟩:=aS9 hv;have hm:=bj hr0;have hrr:=aS.mem (aS.ts (t1 b1) rs hR) r hm;have hdr:r.dp<=n:=db (aB9 hm) hd;have hst2:=t1 b1 _ _ hst;have ct:=aR3 hr0;have cr:aZ (rs.take (i+1))<=aZ rs:=bS4;have numr:dF j L (k0+aZ (rs.take i)) (eG r):=by
   have e:=jb i rs;rw[ow (ap.mp hr0).1,(ap.mp hr0).2] at e;rw[<-e] at num;exact num.sub
  have pt2:∀qb q,cC j L (sQ L qb st a b) (k0+aZ (rs.take i)) r q->∃qc,cI j L (sQ L qc st a b) k0 (rs.take (i+1)) (o++[q]):=fun qb q h=>by
   rw[bE hr0];exact aK5 (fun q=>sQ L q st a b) pt h
  rw[show k0+aZ (rs.take (i+1))=k0+aZ (rs.take i)+r.cnt from by lia];have ol:=aG2 pt;have ol2:=iP (rs.take i);have cp:=aE2 r;have nl:=numr;rw[ct] at cr;generalize k0+aZ (rs.take i)=m at *;clear pt num hR hd hp;refine⟨_,rfl,lc,_,0,.int (j-m),rfl,rfl,bG.of hl2,iV,_,_,rfl,rfl,_,rfl,lc,_,_,0,rfl,rfl,hl2,rfl,?_⟩;have tN:=TS.lst (ys:=[.int (j-m-1)]) hl2;have gl:aO G lc (.lst [.int (j-m-1)]) lc=some (.lst [.int (j-(m+1:Nat))]):=by rw[aC,show j-((m+1:Nat):Int)=j-m-1 from by lia]
  have b3:=b1.up (a:=lc) (o:= .lst [.int (j-m-1)]) (by simp);have g3:aO G lc (.lst [.int (j-m-1)]) lo=some (.lst (bA o)):=(aH lne.symm).trans g2;have hr1:=hrr.ts tN;have ho1:=aS.ts tN _ ho;have hst1:=tN _ _ hst2
  dsimp only[List.set_cons_zero]
  generalize aO G lc (.lst [.int (j-m-1)])=G1 at gl b3 g3 hr1 ho1 hst1 ⊢;clear b1 hl2 g2 tN hrr ho hst2;refine⟨fun σ' G'=>∃(v3:Option V) (q:Rw) (qb:Addr),σ'=[some (.ref p),some (.ref lc),some (.ref st),some (.ref lo),some (.ref q.p),v3]/\dP [lc,lo] H1 G'/\G' lc=some (.lst [.int (j-(m+r.cnt:Nat))])/\G' lo=some (.lst (bA o))/\TS G1 G'/\dO G' q/\cC j L (sQ L qb st a b) m r q,?_,?_⟩
  ·refine⟨_,rfl,lc,_,0,.int (j-(m+1:Nat)),rfl,rfl,bG.of gl,iV,rfl,_,rfl,?_⟩
   by_cases c:(m:Int)=j
   ·refine bI (by rw[show j-((m+1:Nat):Int)= -1 from by lia];exact ag rfl) ?_;obtain⟨tl,htl⟩:∃tl,eG r=r::tl:=by cases r<;>exact⟨_,rfl⟩
    rw[htl] at numr;obtain rfl:=numr.hd c;have thr:=bM0 hw;obtain⟨p0,x,sm,st0,a0,b0,lo',hi,ws,kd0,rfl,hsm⟩:=oR hr1 hw;have hp0:=hr1.1;refine⟨_,rfl,_,rfl,p0,_,rfl,aU.of hp0,by show ¬(HT.sIx 6 0 none=0/\HT.sIx 6 6 (some 3)=6);decide,fun c4 hc4=>?_⟩;obtain⟨s4,h4⟩:=nwX hc4 (.tup [.str "ladder",.str x,.ref sm]);refine⟨_,rfl,jT,fun c5 hc5=>?_⟩;obtain⟨s5,h5⟩:=nwX hc5 (.tup [.ref st]);refine⟨c4,c5,[.str "ladder",.str x,.ref sm],[.ref st],rfl,rfl,s5 _ _ h4,h5,by show 4<=_;decide,fun c6 H6 s6 h6=>?_⟩;have sA:=s4.trans (s5.trans s6);clear s4 s5 s6 h4 h5 hc4 hc5;refine⟨_,rfl,_,rfl,p0,_,rfl,aU.of (sA _ _ hp0),by show ¬(HT.sIx 6 0 (some 4)=0/\HT.sIx 6 6 none=6);decide,fun c7 hc7=>?_⟩;obtain⟨s7,h7⟩:=nwX hc7 (.tup [.int lo',.int hi]);refine⟨c6,c7,[.str "ladder",.str x,.ref sm,.ref st],[.int lo',.int hi],rfl,rfl,s7 _ _ h6,h7,by show 6<=_;decide,fun q H8 s8 h8=>?_⟩;have sZ:=sA.trans (s7.trans s8)
    generalize hL0:Rw.thr p0 "ladder" x [.ref sm,.ref st0,.int lo',.int hi] ⟨[.ref sm,.ref st0,.int lo',.int hi],.lad a0 b0 lo' hi,[ws],kd0⟩=L0 at *;have hq8:dO H8 (sQ L0 q st a b):=by
     subst hL0;exact⟨h8,rfl,rfl,cop,⟨sm,ws,st,rfl,rfl,sZ _ _ hsm,sZ _ _ hst1⟩,⟨hr1.2.ws.1,hr1.2.ws.2,hr1.2.ws.3⟩⟩
    exact⟨_,sQ L0 q st a b,q,by rw[cK5 thr];rfl,b3.trans (.of sZ),by subst hL0;exact sZ _ _ gl,sZ _ _ g3,.of sZ,hq8,by subst hL0;unfold cC;rw[bv c];exact⟨rfl,rfl⟩⟩
   ·refine aW (fun z=>c (by have z:=af z;injection z;lia)) ?_;refine⟨_,rfl,r.p,_,_,.str r.w,rfl,rfl,aU.of hr1.at,iV,rfl,_,rfl,?_⟩
    cases r with
    |when q pa pb t x y =>
     refine bI (ag rfl) ?_;simp only[Rw.dp] at hdr;simp only[Rw.cnt] at cr ⊢;have numr:dF j L m (.when q pa pb t x y::(cK x++cK y)):=by unfold eG at numr;exact numr
     have nx:=numr.tail.left;have ny:=numr.tail.right;rw[dG] at ny;obtain⟨hq0,h2,h3,h4,h5,h6,h7⟩:=hr1
     cases n with
     |zero=>exact absurd hdr (by lia)
     |succ n =>
     refine⟨_,rfl,q,_,_,.ref pa,rfl,rfl,aU.of hq0,rfl,_,rfl,_,rfl,pa,lc,st,x,m+1,j,a,b,L,rfl,h4,h6,by lia,by lia,gl,hst1,cop,nx,hw,fun q1 qa1 o1 H4 o4 g4 r4 l4 p4=>?_⟩;have t4:=qP o4 gl;have b4:=b3.ofP o4 (by simp);have g34:=o4 _ _ g3 lne.symm;refine⟨_,rfl,_,rfl,q,_,rfl,aU.of (t4 _ _ hq0),by show ¬(HT.sIx 4 0 none=0/\HT.sIx 4 4 (some 2)=4);decide,fun c5 hc5=>?_⟩;obtain⟨s5,h5'⟩:=nwX hc5 (.tup [.str "when",.ref t.p]);refine⟨_,rfl,_,rfl,q,_,_,.ref pb,rfl,rfl,aU.of (s5 _ _ (t4 _ _ hq0)),rfl,_,rfl,_,rfl,pb,lc,st,y,m+1+aZ x,j,a,b,L,rfl,s5 _ _ (t4 _ _ h5),aS.ts (t4.trans (.of s5)) _ h7,by lia,by lia,s5 _ _ l4,s5 _ _ (t4 _ _ hst1),cop,ny,hw,fun q2 qa2 o2 H6 o6 g6 r6 l6 p6=>⟨dA,fun c7 hc7=>?_⟩⟩;have l5:=s5 _ _ l4;have t6:=qP o6 l5;have b6:=(b4.trans (.of s5)).ofP o6 (by simp);have g36:=o6 _ _ (s5 _ _ g34) lne.symm;obtain⟨s7,h7'⟩:=nwX hc7 (.tup [.ref q1,.ref q2]);refine⟨c5,c7,[.str "when",.ref t.p],[.ref q1,.ref q2],rfl,rfl,s7 _ _ (t6 _ _ h5'),h7',by show 4<=_;decide,fun c8 H8 s8 h8=>?_⟩
     have s68:=s7.trans s8;have t58:=t6.trans (.of s68);have t48:=(TS.of s5).trans t58;have t18:=t4.trans t48;obtain⟨qc,pq⟩:=aJ7 (p:=q) (pa:=pa) (pb:=pb) (p':=c8) (pa':=q1) (pb':=q2) (t:=t) (fun q=>sQ L q st a b) p4 p6;exact⟨_,.when c8 q1 q2 t o1 o2,qc,rfl,b6.trans (.of s68),by rw[show m+(1+(aZ x+aZ y))=m+1+aZ x+aZ y from by lia];exact s68 _ _ l6,s68 _ _ g36,t18,⟨h8,h2.ts t18,h3,t48 _ _ g4,s68 _ _ g6,aS.ts t48 _ r4,aS.ts (.of s68) _ r6⟩,pq⟩
    |times q pb z y =>
     refine aW (fun z=>absurd (af z) (by show ¬(V.str "times"=V.str "when");decide)) ?_;refine⟨_,rfl,q,_,_,.str "times",rfl,rfl,aU.of hr1.at,iV,rfl,_,rfl,?_⟩;refine bI (ag rfl) ?_;simp only[Rw.dp] at hdr;simp only[Rw.cnt] at cr ⊢;have numr:dF j L m (.times q pb z y::cK y):=by unfold eG at numr;exact numr
     have ny:=numr.tail;obtain⟨hq0,h5,h7⟩:=hr1
     cases n with
     |zero=>exact absurd hdr (by lia)
     |succ n =>
     refine⟨_,rfl,_,rfl,q,_,rfl,aU.of hq0,by show ¬(HT.sIx 3 0 none=0/\HT.sIx 3 3 (some 2)=3);decide,fun c5 hc5=>?_⟩;obtain⟨s5,h5'⟩:=nwX hc5 (.tup [.str "times",.int z]);refine⟨_,rfl,q,_,_,.ref pb,rfl,rfl,aU.of (s5 _ _ hq0),rfl,_,rfl,_,rfl,pb,lc,st,y,m+1,j,a,b,L,rfl,s5 _ _ h5,aS.ts (.of s5) _ h7,by lia,by lia,s5 _ _ gl,s5 _ _ hst1,cop,ny,hw,fun q2 qa2 o2 H6 o6 g6 r6 l6 p6=>⟨jT,fun c7 hc7=>?_⟩⟩;have l5:=s5 _ _ gl;have t6:=qP o6 l5;have b6:=(b3.trans (.of s5)).ofP o6 (by simp);have g36:=o6 _ _ (s5 _ _ g3) lne.symm;obtain⟨s7,h7'⟩:=nwX hc7 (.tup [.ref q2]);refine⟨c5,c7,[.str "times",.int z],[.ref q2],rfl,rfl,s7 _ _ (t6 _ _ h5'),h7',by show 3<=_;decide,fun c8 H8 s8 h8=>?_⟩;have s68:=s7.trans s8;have t58:=t6.trans (.of s68);have t48:=(TS.of s5).trans t58;exact⟨_,.times c8 q2 z o2,qa2,rfl,b6.trans (.of s68),by rw[show m+(1+aZ y)=m+1+aZ y from by lia];exact s68 _ _ l6,s68 _ _ g36,t48,⟨h8,s68 _ _ g6,aS.ts (.of s68) _ r6⟩,by unfold cC;exact⟨_,_,_,rfl,p6⟩⟩
    |lt q x t =>
     refine aW (fun z=>absurd (af z) (by show ¬(V.str "let"=V.str "when");decide)) ?_;refine⟨_,rfl,q,_,_,.str "let",rfl,rfl,aU.of hr1.at,iV,rfl,_,rfl,?_⟩;exact aW (fun z=>absurd (af z) (by show ¬(V.str "let"=V.str "times");decide)) ⟨_,.lt q x t,q,rfl,b3,gl,g3,TS.of (aR.refl _),hr1,by unfold cC;rfl⟩
    |tell q t =>
     refine aW (fun z=>absurd (af z) (by show ¬(V.str "tell"=V.str "when");decide)) ?_;refine⟨_,rfl,q,_,_,.str "tell",rfl,rfl,aU.of hr1.at,iV,rfl,_,rfl,?_⟩;exact aW (fun z=>absurd (af z) (by show ¬(V.str "tell"=V.str "times");decide)) ⟨_,.tell q t,q,rfl,b3,gl,g3,TS.of (aR.refl _),hr1,by unfold cC;rfl⟩
    |thr q w x us am =>
     refine aW (fun z=>absurd hr1.2.w (by have z:=af z;injection z with z;rw[show w="when" from z];decide)) ?_;refine⟨_,rfl,q,_,_,.str w,rfl,rfl,aU.of hr1.at,iV,rfl,_,rfl,?_⟩;exact aW (fun z=>absurd hr1.2.w (by have z:=af z;injection z with z;rw[show w="times" from z];decide)) ⟨_,.thr q w x us am,q,rfl,b3,gl,g3,TS.of (aR.refl _),hr1,by unfold cC;rw[ay c]⟩
  ·rintro σ' G4 ⟨v3',q,qb,rfl,b4,gl4,g4,t4,hq4,pr4⟩;refine⟨_,rfl,.inl ⟨rfl,_,bG.of g4⟩,_,rfl,lo,_,_,rfl,rfl,g4,aN (by rw[bD];lia),?_⟩;obtain⟨qc,pt3⟩:=pt2 qb q pr4;have tN:=TS.lst (ys:=bA o++[.ref q.p]) g4;refine⟨_,v3',o++[q],qc,rfl,b4.up (by simp),(aH lne).trans gl4,by rw[aC,eA];rfl,aS.app (aS.ts (t4.trans tN) _ ho1) ⟨hq4.ts tN,trivial⟩,pt3⟩
 ·rintro σ G ⟨v2,v3,o,qa,rfl,b1,hl2,g2,ho,pt⟩;rw[bD,dk] at *;have tl:=t1 b1;have b2:gK lc H G:=fun c u e n=>b1 c u (s1 c u e) (by
   simp only[List.mem_cons,List.not_mem_nil,or_false];exact fun z=>z.elim n (fun z=>by rw[z,hlo] at e;cases e))
  refine⟨_,rfl,lo,_,rfl,.inl ⟨bG.of g2,fun q hq=>?_⟩⟩;have s2:=aB hq (.tup (bA o));exact k q qa o _ (b2.trans (.of s2)) aC (aS.ts (.of s2) _ ho) (s2 _ _ hl2) pt
theorem bT2{Lx:xM}(C_Flt46:Cl P w K mg base 5 (xU 4) "_law_flat")(C_Tld:Cl P w K mg base 109 (zP Lx) "_law_told")(C_Put:Cl P w K mg base 5 (aE9 4) "_law_put")(C_Pri:Cl P w K mg base 10 (bD3 K) "price")(C_NoM:Cl P w K mg base 1 (bA6 K) "_law_no_more")(m_range:mg "range"=none)(m_len:mg "len"=none):eQ P w K mg base "_law_right" "_law_right" cB7 120 ["_law_program_here","_law_at","_law_steepness_here"] (aO2 Lx):=by
 refine fS ["_law_program_here","_law_at","_law_steepness_here","_law_rows_here","_law_found","_law_old","_law_kind","_law_one","_law_other"] fun H Q nd hr h=>?_
 obtain⟨p,st,ks,xs,rs,j,a,b,rfl,hT,P1,P0,hst,cop,k⟩:=h;have hr1:cY 1 _:=hr.mono (by decide);refine⟨_,(dX 3 nd (bN C_Flt46 hr (aP (bK aG (pv 0) aD)))
  (dX 4 nd (bN C_Tld hr (aA (pv 0) (aA (pv 1) (aP (pv 2)))))
  (aF (bL (gL (PW.pt (aY9 (mK (xI aG7 pP aD (pv 1) (tL bM m_len ge (aP (pv 3))))) (aC4 (fY aZ0 (bK aG (bK cB (pv 3) (pv 1)) aD) aJ))))) (aE (aM (pec cA (pv 4) aJ))) aX)
  (aF (bL (fY (aJ3 hr) (pv 4) (aV (aA (bK aG (pv 0) aD) (aP (bN C_Put hr (aA (bK aG (pv 0) aD) (aA (bJ (aP (pv 1))) (aP (pv 2))))))))) pC aX)
  (dX 5 nd (bK aG (bK cB (pv 3) (pv 1)) aD)
  (aF (pfr (eB (by rfl) m_range (aP (tL bM m_len ge (aP (bK aG (pv 0) aD))))) (gG 6 nd)
  (aF (zY (i:=7) (j:=8) rfl nd rfl rfl (by decide) rfl rfl (aA (bN C_Pri hr (aA (pv 0) (aP (pv 6)))) (aP (bN C_Pri hr (aA (pv 4) (aP (pv 6)))))) rfl)
  (aF (bL (gL (PW.pt (hX (fY aG7 (aL eR (bK aG (pv 2) aD) (bK aG (pv 5) aD)) (aL eR (bK aG (pv 5) aD) (bK aG (pv 2) aD))) (gQ (mK (iI (bN C_NoM hr (aA (pv 7) (aP (pv 8)))))))))) pC aX)
  (aE (bL (gL (PW.pt (hX (fY aI0 (aL eR (bK aG (pv 2) aD) (bK aG (pv 5) aD)) (aL eR (bK aG (pv 5) aD) (bK aG (pv 2) aD))) (gQ (mK (iI (bN C_NoM hr (aA (pv 8) (aP (pv 7)))))))))) pC aX)))))
  (aE (aM bN3)))))))),?_⟩
 obtain⟨pk,pr,hp,hpk,hpr⟩:=P1.ex;have dp:=P1.dp;have c0:=P1.cnt;have ll:=dG rs;refine⟨_,rfl,p,_,_,.ref pr,rfl,rfl,aU.of hp,rfl,pr,rs,rfl,hpr,P1.rows,db dp (by decide),by lia,fun rl H1 s1 h1=>?_⟩;refine⟨_,rfl,_,rfl,_,rfl,p,st,xs,rs,j,a,b,rfl,hT.same s1,P0.ts (.of s1),s1 _ _ hst,cop,?_⟩
 by_cases lad:∃L,pN (cK rs) j L
 rotate_left
 ·refine .inr ⟨fun L h=>lad ⟨L,h⟩,fun H2 s2=>?_⟩;have h1:=s2 _ _ h1;have P1:=P1.ts (.of (s1.trans s2));refine⟨fun t G=>t=true/\G=H2,?_,?_⟩
  ·refine⟨_,rfl,_,_,rfl,rfl,_,rfl,?_⟩
   by_cases c1:0<=j
   ·refine bI (ag c1) ?_;refine⟨_,rfl,rl,_,rfl,.inl (bG.of h1),_,_,rfl,rfl,_,rfl,?_⟩;rw[bD,ll]
    by_cases c2:j<(aZ rs:Int)
    ·refine aW (by rw[ag c2];decide) ?_;obtain⟨L,hL⟩:∃L,(cK rs)[j.toNat]?=some L:=⟨_,ak (by rw[ll];lia)⟩
     have hr:=gM P1.rows L (bj hL);have hat:lP (bA (cK rs)) j=some (.ref L.p):=by
      rw[show j=((j.toNat:Nat):Int) by lia];exact kC (by unfold bA;rw[cm,hL];rfl)
     refine⟨_,rfl,_,rfl,rl,_,j,.ref L.p,rfl,rfl,bG.of h1,hat,L.p,_,_,.str L.w,rfl,rfl,aU.of hr.at,iV,rfl,_,rfl,?_⟩;refine⟨?_,rfl⟩;rw[dh fun e=>lad ⟨L,c1,hL,by injection e⟩];rfl
    ·exact bI (by rw[dh c2];rfl) ⟨rfl,rfl⟩
   ·refine aW (by rw[dh c1];decide) ?_;exact⟨_,rfl,bI rfl ⟨rfl,rfl⟩⟩
  rintro t G ⟨rfl,rfl⟩;refine bI rfl ?_;refine⟨_,rfl,rfl,?_⟩;rw[ag rfl];exact k G (.of (s1.trans s2)) ((hT.same s1).same s2)
 obtain⟨L,hL⟩:=lad;refine .inl ⟨L,hL,fun r pk' pr' qa qr o H2 o2 t2 e1 e2 e3 r3 pt=>?_⟩;obtain⟨rfl,rfl⟩:pk=pk'/\pr=pr':=by
  have e:=(s1 _ _ hp).symm.trans e1;injection e with e;injection e with e;injection e with e1 e;injection e1 with e1;injection e with e2 e;injection e2 with e2
  exact⟨e1,e2⟩
 obtain⟨ps,eP⟩:=(hT.same s1).is;have t12:TS H1 H2:=o2.ts eP;have t02:TS H H2:=(TS.of s1).trans t12;have h1:=o2 _ _ h1 (gH eP h1 (by intro z;cases z)).symm;have oA:=(gK.of (P:=Lx.P) s1).trans o2;have hp:=t02 _ _ hp;have hpk:=t02 _ _ hpk;have hpr:=t02 _ _ hpr;have hst:=t02 _ _ hst;have P1:=P1.ts t02;have P0:=P0.ts t02;clear hT s1 o2 e1 t12 t02 eP;have num:=hL.num;obtain⟨c1,hLj,hw⟩:=hL;have thr:=bM0 hw;have hr1:=gM P1.rows L (bj hLj);have hat:lP (bA (cK rs)) j=some (.ref L.p):=by
  rw[show j=((j.toNat:Nat):Int) by lia];exact kC (by unfold bA;rw[cm,hLj];rfl)
 have c2:j<(aZ rs:Int):=by
  have:=(ap.mp hLj).1;lia
 refine⟨fun t G=>t=false/\G=H2,?_,?_⟩
 ·refine⟨_,rfl,_,_,rfl,rfl,_,rfl,bI (ag c1) ?_⟩;refine⟨_,rfl,rl,_,rfl,.inl (bG.of h1),_,_,rfl,rfl,_,rfl,?_⟩;rw[bD,ll];refine aW (by rw[ag c2];decide) ?_;refine⟨_,rfl,_,rfl,rl,_,j,.ref L.p,rfl,rfl,bG.of h1,hat,L.p,_,_,.str L.w,rfl,rfl,aU.of hr1.at,iV,rfl,_,rfl,?_⟩;refine⟨?_,rfl⟩;rw[hw];rfl
 rintro t G ⟨rfl,rfl⟩;refine aW (by decide) ?_;refine⟨_,rfl,_,rfl,p,_,_,.ref pk,rfl,rfl,aU.of hp,rfl,_,rfl,p,_,_,.ref pr,rfl,rfl,aU.of hp,rfl,_,rfl,jT,fun lc hlc=>?_⟩;have sl:=aB hlc (.lst [.int j]);refine⟨_,rfl,pr,lc,st,rs,0,j,a,b,L,rfl,sl _ _ hpr,aS.ts (.of sl) _ P1.rows,db dp (by decide),by lia,by rw[aC,show j-((0:Nat):Int)=j from by lia],sl _ _ hst,cop,num,hw,fun q qb o2 H4 o4 g4 r4 _ pt4=>⟨dA,fun c hc=>?_⟩⟩;have s4:aR G H4:=fun c u e=>o4 c u (sl c u e) (aI e hlc)
 have s0:=aB hc (.tup [.ref pk,.ref q]);have s5:=s4.trans s0;have st':=jX thr (vC (q:=qa) (st:=st) (a:=a) (b:=b)) pt;have thr':(sQ L qa st a b).isThr:=aP0 thr vC;have d2:tG o<=2:=by rw[<-kB,st'.2.2.1,kB];exact dp
 refine⟨r,c,_,_,14,rfl,rfl,aU.of (s5 _ _ e2),aU.of aC,.cons (.inl (.inr (.inr ⟨pk,rfl,rfl⟩))) (.cons (.inr ⟨qr,q,_,_,rfl,rfl,s5 _ _ e3,s0 _ _ g4,bE1 thr' (bX3 thr) pt pt4 (aS.ts (.of s5) _ r3) (aS.ts (.of s0) _ r4) P1.tz d2⟩) .nil),by decide,_,rfl,aW (by decide) ?_⟩;have P1:=P1.ts (.of s5);have P0:=P0.ts (.of s5);have hp:=s5 _ _ hp;have hpk:=s5 _ _ hpk;have hst:=s5 _ _ hst;have h1:=s5 _ _ h1;have PO:=bH7 thr (vC (q:=qa) (st:=st) (a:=a) (b:=b)) P0 hp (fun ks' e=>e) (s5 _ _ e2) (s5 _ _ e3) (aS.ts (.of s5) _ r3) pt;have hr1:=hr1.ts (.of s5);have k:=fun G' (s:aR (aO H4 c (.tup [.ref pk,.ref q])) G')=>k G' (oA.trans (.of (s5.trans s))) (t2.same (s5.trans s))
 have e2:=s5 _ _ e2;have r3:=aS.ts (.of s5) _ r3;clear s5 s0 s4 o4 g4 r4 pt4 hc sl hlc e3 hpr oA t2;generalize aO H4 c (.tup [.ref pk,.ref q])=G5 at *;obtain⟨st0,a0,b0,us,hLp,hx3,hst0,cop0,pl⟩:=aL0 hr1 hw;have N0:=P0.kn0 hp hpk;have NO:=PO.kn0 e2 hpk;have k3:=P1.k3;refine⟨_,rfl,_,rfl,rl,_,j,.ref L.p,rfl,rfl,bG.of h1,hat,L.p,_,_,.ref st0,rfl,rfl,aU.of hLp,hx3,?_⟩;refine⟨_,rfl,p,_,_,.ref pk,rfl,rfl,aU.of hp,rfl,pk,_,rfl,.inr (aU.of hpk),_,rfl,by lia,by rw[ae];lia,aA2 (n:=(ks.map V.str).length) (fun i σ G'=>∃v6 v7 v8:Option V,σ=[some (.ref p),some (.int j),some (.ref st),some (.ref rl),some (.ref r),some (.ref st0),v6,v7,v8]/\aR G5 G') ⟨_,_,_,rfl,aR.refl _⟩ ?_ ?_⟩
 rotate_left
 ·rintro σ G' ⟨v6,v7,v8,rfl,s6⟩;exact k G' s6
 rintro D' i σ G6 hi ⟨v6,v7,v8,rfl,s6⟩;rw[ae] at hi;rw[rq];refine⟨_,rfl,_,rfl,p,xs,rs,i,ks.length,rfl,P0.ts (.of s6),N0.ts (.of s6),hi,fun H7 ss v s7 nd7 pr7=>?_⟩;have s67:=s6.trans s7;refine⟨_,rfl,_,rfl,r,xs,o,i,ks.length,rfl,PO.ts (.of s67),NO.ts (.of s67),hi,fun H8 ss2 u s8 nd8 pr8=>?_⟩;obtain rfl:=nd8.eq (bD9 thr vC pt nd7);have pr7:=pr7.s s8;have s58:=s67.trans s8;have b1:=yY (gC ss2 i P0.rows).2 P0.ld;have b2:=yY (gC ss2 i r3).2 PO.ld;have hst:=s58 _ _ hst;have hst0:=s58 _ _ hst0;have z1:=cop.st.p1;have z2:=cop.st.pq;have z3:=cop.st.q9;have z4:=cop0.st.p1;have z5:=cop0.st.pq;have z6:=cop0.st.q9;refine⟨_,_,rfl,?_⟩;refine⟨fun t G'=>t=false/\aR H8 G',?_,?_⟩
 ·refine⟨_,rfl,st,_,_,.int a,rfl,rfl,aU.of hst,iV,_,rfl,st0,_,_,.int b0,rfl,rfl,aU.of hst0,rfl,_,_,rfl,rfl,.inr ⟨by lia,by lia⟩,_,rfl,st0,_,_,.int a0,rfl,rfl,aU.of hst0,iV,_,rfl,st,_,_,.int b,rfl,rfl,aU.of hst,rfl,_,_,rfl,rfl,.inr ⟨by lia,by lia⟩,_,_,rfl,rfl,_,rfl,?_⟩
  by_cases c:a*b0<=a0*b
  ·refine bI (ag c) ?_;refine⟨_,rfl,_,rfl,v,u,iT ss2 i rs,iT ss2 i o,1000,rfl,pr7,pr8,by decide,b1.1,b1.2,b2.1,b2.2,fun H9 s9=>⟨_,rfl,?_,s9⟩⟩;rw[aM6 (show sU (iT ss2 i rs) (iT ss2 i o) from qB (sH (jK (up:=true) (pl true ss2 i qa st a b cop (by rw[bv rfl];exact c)) pt P0.rows r3)))];rfl
  ·exact aW (fun z=>c (af z)) ⟨rfl,aR.refl _⟩
 rintro t G9 ⟨rfl,s9⟩;refine aW (by decide) ?_;have hst2:=s9 _ _ hst;have hst02:=s9 _ _ hst0;refine⟨fun t G'=>t=false/\aR G9 G',?_,?_⟩
 ·refine⟨_,rfl,st,_,_,.int a,rfl,rfl,aU.of hst2,iV,_,rfl,st0,_,_,.int b0,rfl,rfl,aU.of hst02,rfl,_,_,rfl,rfl,.inr ⟨by lia,by lia⟩,_,rfl,st0,_,_,.int a0,rfl,rfl,aU.of hst02,iV,_,rfl,st,_,_,.int b,rfl,rfl,aU.of hst2,rfl,_,_,rfl,rfl,.inr ⟨by lia,by lia⟩,_,_,rfl,rfl,_,rfl,?_⟩
  by_cases c:a0*b<=a*b0
  ·refine bI (ag c) ?_;refine⟨_,rfl,_,rfl,u,v,iT ss2 i o,iT ss2 i rs,1000,rfl,pr8.s s9,pr7.s s9,by decide,b2.1,b2.2,b1.1,b1.2,fun H9 s9=>⟨_,rfl,?_,s9⟩⟩;rw[aM6 (show sU (iT ss2 i o) (iT ss2 i rs) from qB (qZ (jK (up:=false) (pl false ss2 i qa st a b cop (by rw[ay (by decide)];exact c)) pt P0.rows r3)))];rfl
  ·exact aW (fun z=>c (af z)) ⟨rfl,aR.refl _⟩
 rintro t G10 ⟨rfl,s10⟩;exact aW (by decide) ⟨_,_,_,rfl,s58.trans (s9.trans s10)⟩
theorem bT8{Lx:xM}(C_Deal:Cl P w K mg base 1 (aC0 K) "_law_deal")(C_Nms46:Cl P w K mg base 2 spNamesE "_law_names")(C_Prg46:Cl P w K mg base 14 spPrgE "_law_program")(C_Stp46:Cl P w K mg base 2 spStpE "_law_steepness")(C_Flt46:Cl P w K mg base 5 (xU 4) "_law_flat")(C_Draw:Cl P w K mg base 1 spDraw "_law_draw")(C_Rgt:Cl P w K mg base 120 (aO2 Lx) "_law_right")(m_len:mg "len"=none)(m_all:mg "all"=none)(m_list:mg "list"=none)(m_range:mg "range"=none):eQ P w K mg base "law" "law" aY3 121 ["_law_script"] (mU K Lx):=by
 refine fS ["_law_script","_law_deal_here","_law_kinds","_law_program_here","_law_steepness_here","_law_many","_law_some"] fun H Q nd hr h=>?_
 obtain⟨a,ns,rfl,hS,hlen,hT,k⟩:=h;refine⟨_,(dX 1 nd (bN C_Deal hr (aA (pv 0) (aP aD)))
  (dX 2 nd (bN C_Nms46 hr (aA (pv 1) (aP (aL bV aD (bN C_Draw hr (aA (pv 1) (aP aD)))))))
  (dX 3 nd (bN C_Prg46 hr (aA (pv 1) (aA (pv 2) (aA (bN C_Nms46 hr (aA (pv 1) (aP aD))) (aP aD)))))
  (dX 4 nd (bN C_Stp46 hr (aA (pv 1) (aP aD)))
  (dX 5 nd (tL bM m_len ge (aP (bN C_Flt46 hr (aP (bK aG (pv 3) aD)))))
  (dX 6 nd (aL jZ (zG (by rfl) m_list (by rfl) m_range (aA (aD8 vK aD) (aP (aL bV (pv 5) aD)))) (bJ (aP (aL bV (pv 5) (bN C_Draw hr (aA (pv 1) (aP (aL bD0 aD aD))))))))
  (aE (aM (tL wP m_all wv (aP (cU ["_law_at","_law_program_here","_law_steepness_here"] [none,some 3,some 4] (cX (aL jZ (pv 6) (bJ (aP aD)))) (fun _ _ _ _=>(gG 0)) (fun _ _ _ _=>eS) (fun _ _ _ _=>(bN C_Rgt hr (aA (pv 1) (aA (pv 0) (aP (pv 2))))))))))))))))),?_⟩
 refine⟨_,rfl,a,ns,0,rfl,hS,hlen,by decide,by decide,fun d l H1 fd fl D1 s1=>?_⟩;have e1:=s1 _ _ hT;refine⟨_,rfl,_,rfl,d,l,2,rfl,D1,by decide,by decide,fun y H2 y0 y1 D2 o2=>⟨_,_,rfl,rfl,d,l,1+y,rfl,D2,by lia,by lia,fun kl ws A B tn H3 D3 o3 f3 h3 wl ab wa=>?_⟩⟩;refine⟨_,rfl,_,rfl,_,rfl,d,l,5,rfl,D3,by decide,by decide,fun nl xs A' B' tn' H4 D4 o4 f4 h4 xl ab' wa'=>?_⟩;have nkl:=(jO D2 f3).2;have nnl:=(jO D3 f4).2;refine⟨d,l,kl,nl,ws,xs,rfl,D4,aY D3 h3 nkl o4,nkl,by lia,by lia,h4,nnl,by rw[xl];decide,by rw[xl];decide,fun p rs H5 D5 o5 P1 kd ld nm=>?_⟩;have e5:=jE D4 (jE D3 (jE D2 (jE D1 e1 o2) o3) o4) o5;refine⟨_,rfl,d,l,1,rfl,D5,.inl rfl,fun st a b H6 D6 o6 hst cop _=>?_⟩;have e6:=jE D5 e5 o6;have P1:=P1.ts (TS.out D5 o6);have P0:=P1.prg kd ld nm (by rw[xl];decide);obtain⟨pk,pr,hp,hpk,hpr⟩:=P1.ex;have dp:=P1.dp;have c0:=P1.cnt;refine⟨_,rfl,p,_,_,.ref pr,rfl,rfl,aU.of hp,rfl,pr,rs,rfl,hpr,P1.rows,db dp (by decide),by lia,fun rl H7 s7 h7=>⟨rl,_,rfl,.inl (bG.of h7),?_⟩⟩
 have ln:(bA (cK rs)).length<=73:=by rw[bD,dG];lia
 generalize (bA (cK rs)).length=n at ln h7 ⊢;have D7:=D6.same s7;refine⟨_,rfl,_,rfl,_,_,rfl,rfl,_,_,rfl,by lia,cu (aN (by lia)),fun l1 hl1=>?_⟩;have sA:=aB hl1 (.lst ((gT (-2) ((n:Int)+2 - -2).toNat).map V.int));have nl1:=(jO D7 hl1).2;have D8:=D7.same sA;have rlen:(gT (-2) ((n:Int)+2 - -2).toNat).length<=77:=by rw[jU];lia
 have gA:aO H7 l1 (.lst ((gT (-2) ((n:Int)+2 - -2).toNat).map V.int)) l1=some (.lst ((gT (-2) ((n:Int)+2 - -2).toNat).map V.int)):=aC;generalize gT (-2) ((n:Int)+2 - -2).toNat=es at sA D8 rlen gA ⊢;generalize aO H7 l1 (.lst (es.map V.int))=H8 at sA D8 gA ⊢;refine⟨_,rfl,_,rfl,_,_,rfl,rfl,⟨by decide,by decide,by decide⟩,d,l,1000000,rfl,D8,by decide,by decide,fun z H9 z0 z1 D9 o9=>⟨_,_,rfl,rfl,jT,fun l2 hl2=>?_⟩⟩;have sB:=aB hl2 (.lst [.int (n+z)]);refine⟨l1,l2,_,_,rfl,rfl,sB _ _ (aY D8 gA nl1 o9),aC,cu (aN (by rw[ae];simp only[List.length_cons,List.length_nil];lia)),fun l3 hl3=>?_⟩;have sC:=sB.trans (aB hl3 (.lst (es.map V.int++[.int (n+z)])));have D10:=D9.same sC;have t0:TS H6 _:=(TS.of (s7.trans sA)).trans ((TS.out D8 o9).trans (.of sC));have e10:=sC _ _ (jE D8 ((s7.trans sA) _ _ e6) o9);have g10:aO (aO H9 l2 (.lst [.int (n+z)])) l3 (.lst (es.map V.int++[.int (n+z)])) l3=some (.lst ((es++[(n:Int)+z]).map V.int)):=by rw[aC,cy];rfl
 have elen:(es++[(n:Int)+z]).length<=78:=by rw[aj];simp only[List.length_cons,List.length_nil];lia
 have hst:=(t0 _ _ ((TS.of (aR.refl H6)) _ _ hst))
 have P1:=P1.ts t0;have P0:=P0.ts t0;generalize aO (aO H9 l2 (.lst [.int (n+z)])) l3 (.lst (es.map V.int++[.int (n+z)]))=H10 at *;clear hpr hp hpk h7 D7 sA gA hl1 hl2 sB hl3 D8 o9 D9 sC D10 t0;generalize es++[(n:Int)+z]=fs at g10 elen;refine⟨_,rfl,jT,fun l4 hl4=>?_⟩;have s4:=aB hl4 (.lst [.int 0]);refine⟨l3,l4,_,_,rfl,rfl,s4 _ _ g10,aC,cu (aN (by rw[ae];simp only[List.length_cons,List.length_nil];lia)),fun l5 hl5=>?_⟩;have sD:=s4.trans (aB hl5 (.lst (fs.map V.int++[.int 0])));have g11:aO (aO H10 l4 (.lst [.int 0])) l5 (.lst (fs.map V.int++[.int 0])) l5=some (.lst ((fs++[0]).map V.int)):=by rw[aC,cy];rfl
 have flen:(fs++[0]).length<=79:=by rw[aj];simp only[List.length_cons,List.length_nil];lia
 have e11:=sD _ _ e10;have hst:=sD _ _ hst;have P1:=P1.ts (.of sD);have P0:=P0.ts (.of sD);generalize aO (aO H10 l4 (.lst [.int 0])) l5 (.lst (fs.map V.int++[.int 0]))=G at *;generalize fs++[0]=gs at g11 flen;refine⟨l5,rfl,⟨_,bG.of g11⟩,dI (xs:=gs.map V.int) (fun i ys σ G'=>gK Lx.P G G'/\nE G' Lx.P Lx.pos Lx.q/\(∃v1,σ=[v1,some (.ref p),some (.ref st)])/\ys=(List.replicate i true).map V.bl) (aN (by rw[ae];lia)) ⟨gK.refl,.inl e11,⟨_,rfl⟩,rfl⟩ (by rintro i ys σ G' ⟨_,_,_,e⟩;rw[e,ae,wm];exact ai _) (by rintro i ys σ G' _ ⟨o,_⟩;exact bG.of (o _ _ g11 (gH e11 g11 (by intro z;cases z)).symm)) ?_ ?_⟩
 ·rintro i v ys σ G' hv ⟨o,tT,⟨v1,rfl⟩,rfl⟩;obtain⟨x,rfl,hx⟩:=nI hv;have tt:=o.ts e11;exact⟨_,rfl,_,rfl,_,rfl,p,st,ws,xs,rs,x,a,b,rfl,tT,P1.ts tt,P0.ts tt,tt _ _ hst,cop,fun G2 o2 t2=>⟨o.trans o2,t2,⟨_,rfl⟩,by rw[sh,cy];rfl⟩⟩
 ·rintro ys σ G' ⟨o,_,_,rfl⟩ l6 hl6;exact⟨l6,List.replicate _ true,rfl,bG.of aC,by rw[show(List.replicate (List.map V.int gs).length true).all id=true by simp];exact k _⟩
theorem bO4:eM ["_law_e","_law_others"] ["_law_e"] (aK bZ0):=by refine⟨rfl,rfl,rfl,?_,rfl,?_,?_⟩<;>decide
theorem bT1{cR cF cP cG cW cT cM D:Addr}(m_NoFit:mg "NoFit"=some (.ref cF))(m_NoRows:mg "NoRows"=some (.ref cR))(m_NoPaper:mg "NoPaper"=some (.ref cP))(m_NoProgram:mg "NoProgram"=some (.ref cG))(m_NoRow:mg "NoRow"=some (.ref cW))(m_NoText:mg "NoText"=some (.ref cT))(m_TooMany:mg "TooMany"=some (.ref cM))(m_ThrowError:mg "ThrowError"=some (.ref D))(XF:lV K cF [cP,cG,cW,cR,cT,cM] D)
  (m_isinstance:mg "isinstance"=none) (m_ValueError:mg "ValueError"=none) {f:Addr}{fd:FuncData}(F:oI K "_law_refused" "_law_refused" bZ0 f fd) :
  yF P w K mg base 1 f fd ["_law_e"] (aS7 cF):=by
 refine F.okH bO4 (fun vs H Q E h=>?_) (fun cdv A outer s H vs Q E h=>?_)
 ·obtain⟨x,rfl,_⟩:=h;rfl
 obtain⟨x,rfl,hx,k⟩:=h;refine⟨_,(aF (gD (i:=1) bO4.nd rfl (iz rfl) (iA bA9 (by rfl) m_isinstance jd (aA (pv 0) (aA (aV (aA (fP (v:= .ref cP) (by rfl) m_NoPaper rfl) (aA (fP (v:= .ref cG) (by rfl) m_NoProgram rfl) (aA (fP (v:= .ref cW) (by rfl) m_NoRow rfl) (aA (fP (v:= .ref cR) (by rfl) m_NoRows rfl) (aA (fP (v:= .ref cT) (by rfl) m_NoText rfl) (aA (fP (v:= .ref cM) (by rfl) m_TooMany rfl) bS))))))) bS))))
  (aE (aM (mJ (iA rG (by rfl) m_isinstance jd (aA (pv 0) (aA (fP (v:= .ref cF) (by rfl) m_NoFit rfl) bS))) (mJ (iA rG (by rfl) m_isinstance jd (aA (pv 0) (aA (fP (v:= .ref D) (by rfl) m_ThrowError rfl) bS))) (mJ (iA rG (by rfl) m_isinstance jd (aA (pv 0) (aA (aH1 (v:= .ty "ValueError") (by rfl) m_ValueError bI6 rfl) bS))) (mH (bY0 (pv 1))))))))),?_⟩
 refine⟨_,rfl,by show 6<=sizeLine;decide,fun t ht=>?_⟩;obtain⟨H1,e0,s1,h1⟩:=sF ht (.tup [.ref cP,.ref cG,.ref cW,.ref cR,.ref cT,.ref cM]);rw[e0];clear e0;have hx1:=s1 _ _ hx;refine⟨x,t,cF,D,[cP,cG,cW,cR,cT,cM],rfl,aU.of h1,.inl hx1,XF.over,XF.is,fun c hc=>XF.kit hc,?_⟩;refine⟨_,rfl,x,.ref cF,cF,D,true,rfl,⟨cF,.inl ⟨rfl,XF.self⟩⟩,.inl hx1,XF.over,XF.is,_,rfl,?_⟩;refine⟨_,rfl,x,.ref D,cF,D,true,rfl,⟨D,.inl ⟨rfl,XF.up⟩⟩,.inl hx1,XF.over,XF.is,_,rfl,?_⟩;refine⟨_,rfl,x,.ty "ValueError",cF,D,true,rfl,⟨D,.inr ⟨_,rfl,XF.ve⟩⟩,.inl hx1,XF.over,XF.is,_,rfl,?_⟩;exact⟨_,rfl,_,rfl,k _ s1⟩
end
theorem all_mk{l:W.OpenLaw}{w:World}{K:W.Frag}{h:Heap}{mg:Str->Option Value}{fa:Addr}{cc Pt:Addr}{xcT xcF xcG xcH:Addr}{odT odF odG odH:Option Addr}{itsT itsF itsG itsH:Array Value}{nT nF nG nH:Nat}{slT slF slG slH:Array (Option Value)}{xcD xND xc1 xN1:Addr}{xc2 xc3 xc4 xc5 xc6 xc7:Addr}{oc_2 oc_3 oc_4 oc_5 oc_6 oc_7:Value}{oo_2 oo_3 oo_4 oo_5 oo_6 oo_7:Option Addr}{cd_2 cd_3 cd_4 cd_5 cd_6 cd_7:ClassData}{ol_2 ol_3 ol_4 ol_5 ol_6 ol_7:Array (Option Value)}{nmD qnD nm1 qn1:Str}{bsD subD bs1 sub1:List Value}{snD sn1:List Str}{abD ab1:Bool}{colD col1:Option Bool}{ddD dd1:Option Addr}{kaD kbD kcD kdD keD ka1 kb1 kc1 kd1 ke1:Option Value}{oeD oe1:Option Addr}{ooD oo1:Value}{esD es1:Array DictEntry}{enD en1:Nat}{xlD xl1:Array (Option Value)}(X:K.In h)(G:h.Ns mainGlobals mg)(hfa:mg "law"=some (.ref fa))
  (t1:TopAt K "has_one_sum" cD6)
  (t2:TopAt K "place_of_sums" cJ3)
  (t3:TopAt K "sums_of" cD9)
  (t4:TopAt K "parts_of" cA9)
  (t5:TopAt K "names_in" cJ0)
  (t6:TopAt K "sets_name" cF9)
  (t7:TopAt K "names_asked" bZ9)
  (t8:TopAt K "as_steps" cF7)
  (t9:TopAt K "inner_steps" cJ1)
  (t10:TopAt K "steps_of" cB1)
  (t11:TopAt K "begins_rows" cB8)
  (t12:TopAt K "rebuilt" cH8)
  (t13:TopAt K "is_row" cH5)
  (t14:TopAt K "parts_right_in" cG1)
  (t15:TopAt K "places_right_in" cA3)
  (t16:TopAt K "places_of" cH9)
  (t17:TopAt K "rows_in" cH0)
  (t18:TopAtT K "exchanged" yX cc)
  (t19:TopAt K "common_divisor" cC7)
  (t20:TopAt K "lowest" cF6)
  (t21:TopAt K "added" cD1)
  (t22:TopAt K "times" cB9)
  (t23:TopAt K "minus" aU3)
  (t24:TopAt K "power" cF5)
  (t25:TopAt K "less" cA7)
  (t26:TopAt K "names_behind" cF3)
  (t27:TopAt K "needed" cI4)
  (t28:TopAt K "is_idle" cI1)
  (t29:TopAt K "far_tail" cG6)
  (t30:TopAt K "tail_of" bN5)
  (t31:TopAt K "turned_power" cJ5)
  (t32:TopAt K "price_of_throw" cD0)
  (t33:TopAt K "price_of_row" cH2)
  (t34:TopAt K "price_behind" cC1)
  (t35:TopAt K "greatest" cG2)
  (t36:TopAt K "greatest_of" cC0)
  (t37:TopAt K "price_made" cI3)
  (t38:TopAt K "prices_of" cE4)
  (t39:TopAt K "price" cH1)
  (t40:TopAt K "_law_deal" bB6)
  (t41:TopAt K "_law_draw" aT3)
  (t42:TopAt K "_law_lowest" bO0)
  (t43:TopAt K "_law_steepness" aZ8)
  (t44:TopAt K "_law_names" aW1)
  (t45:TopAt K "_law_sum" bA7)
  (t46:TopAt K "_law_throw" aW6)
  (t47:TopAt K "_law_term" bB5)
  (t48:TopAt K "_law_set_row" bO3)
  (t49:TopAt K "_law_when" aQ4)
  (t50:TopAt K "_law_row" bA8)
  (t51:TopAt K "_law_rows" aS8)
  (t52:TopAt K "_law_program" aO8)
  (t53:TopAt K "_law_flat" aV0)
  (t54:TopAt K "_law_refused" bZ0)
  (t55:TopAt K "_law_put" cH6)
  (t56:TopAt K "_law_told" cH4)
  (t57:TopAt K "_law_no_more" cC9)
  (t58:TopAt K "_law_right" cB7)
  (t59:TopAt K "law" aY3)
  (z_reversed:W.nsIn K mainGlobals "reversed"=some none)
  (z_tuple:W.nsIn K mainGlobals "tuple"=some none)
  (z_len:W.nsIn K mainGlobals "len"=some none)
  (z_isinstance:W.nsIn K mainGlobals "isinstance"=some none)
  (z_str:W.nsIn K mainGlobals "str"=some none)
  (z_list:W.nsIn K mainGlobals "list"=some none)
  (z_range:W.nsIn K mainGlobals "range"=some none)
  (z_zip:W.nsIn K mainGlobals "zip"=some none)
  (z_sorted:W.nsIn K mainGlobals "sorted"=some none)
  (z_max:W.nsIn K mainGlobals "max"=some none)
  (z_min:W.nsIn K mainGlobals "min"=some none)
  (z_int:W.nsIn K mainGlobals "int"=some none)
  (z_ValueError:W.nsIn K mainGlobals "ValueError"=some none)
  (z_all:W.nsIn K mainGlobals "all"=some none)
  (qT:W.nsIn K mainGlobals "THROWS"=some (some (.ref xcT)))
  (uT:K.lookup xcT=some ⟨.type "tuple",odT,.seq itsT nT,slT⟩)
  (vT:bB (dR.map V.str) itsT.toList)
  (qF:W.nsIn K mainGlobals "FREE"=some (some (.ref xcF)))
  (uF:K.lookup xcF=some ⟨.type "tuple",odF,.seq itsF nF,slF⟩)
  (vF:bB [V.ref xcG,V.ref xcH] itsF.toList)
  (uG:K.lookup xcG=some ⟨.type "tuple",odG,.seq itsG nG,slG⟩)
  (vG:bB [V.int 1,V.int 1] itsG.toList)
  (uH:K.lookup xcH=some ⟨.type "tuple",odH,.seq itsH nH,slH⟩)
  (vH:bB [V.int 0,V.int 1] itsH.toList)
  (qD:W.nsIn K mainGlobals "ThrowError"=some (some (.ref xcD)))
  (q1:W.nsIn K mainGlobals "NoFit"=some (some (.ref xc1)))
  (q2:W.nsIn K mainGlobals "NoPaper"=some (some (.ref xc2)))
  (q3:W.nsIn K mainGlobals "NoProgram"=some (some (.ref xc3)))
  (q4:W.nsIn K mainGlobals "NoRow"=some (some (.ref xc4)))
  (q5:W.nsIn K mainGlobals "NoRows"=some (some (.ref xc5)))
  (q6:W.nsIn K mainGlobals "NoText"=some (some (.ref xc6)))
  (q7:W.nsIn K mainGlobals "TooMany"=some (some (.ref xc7)))
  (uD:K.lookup xcD=some (excClassObj nmD qnD xcD xND bsD (veB) true snD subD abD colD ddD kaD kbD kcD kdD keD "ValueError.__new__"))
  (u1:K.lookup xc1=some (excClassObj nm1 qn1 xc1 xN1 bs1 (.ref xcD::veB) true sn1 sub1 ab1 col1 dd1 ka1 kb1 kc1 kd1 ke1 "ValueError.__new__"))
  (u2:K.lookup xc2=some ⟨oc_2,oo_2,.cls cd_2,ol_2⟩)
  (ty2:W.typeIn K (.ref xc2)=some (.type "type"))
  (u3:K.lookup xc3=some ⟨oc_3,oo_3,.cls cd_3,ol_3⟩)
  (ty3:W.typeIn K (.ref xc3)=some (.type "type"))
  (u4:K.lookup xc4=some ⟨oc_4,oo_4,.cls cd_4,ol_4⟩)
  (ty4:W.typeIn K (.ref xc4)=some (.type "type"))
  (u5:K.lookup xc5=some ⟨oc_5,oo_5,.cls cd_5,ol_5⟩)
  (ty5:W.typeIn K (.ref xc5)=some (.type "type"))
  (u6:K.lookup xc6=some ⟨oc_6,oo_6,.cls cd_6,ol_6⟩)
  (ty6:W.typeIn K (.ref xc6)=some (.type "type"))
  (u7:K.lookup xc7=some ⟨oc_7,oo_7,.cls cd_7,ol_7⟩)
  (ty7:W.typeIn K (.ref xc7)=some (.type "type"))
  (tnD:K.lookup xND=some ⟨ooD,oeD,.dict esD enD,xlD⟩)
  (ttD:(esD.toList.all fun e=>match e.key with | .str _ _=>true|_=>false)=true)
  (niD:W.nsIn K xND "__init__"=some none)
  (tn1:K.lookup xN1=some ⟨oo1,oe1,.dict es1 en1,xl1⟩)
  (tt1:(es1.toList.all fun e=>match e.key with | .str _ _=>true|_=>false)=true)
  (ni1:W.nsIn K xN1 "__init__"=some none)
  (sa1:W.findIn K (.ref xc1) "__setattr__"=some (some (.builtin "object.__setattr__")))
  (ga1:W.findIn K (.ref xc1) "__getattribute__"=some (some (.builtin "BaseException.__getattribute__")))
  (gh1:W.findIn K (.ref xc1) "__getattr__"=some none)
  (ca1:W.findIn K (.ref xc1) "__class__"=some (some (.builtin "object.__class__")))
  (kp1:W.keepIn K (.ref xc1)=true)
  (beD:W.subIn K (.ref xcD) (.type "BaseException")=some true)
  (hg:W.specialIn K (.builtin "object.__class__") "__get__"=some (some (.builtin "getset_descriptor.__get__")))
  (ht:W.takesIn K (.builtin "object.__class__")=some true)
  (nr:xc1∉[xc2,xc3,xc4,xc5,xc6,xc7])
  (dnot:xcD∉[xc2,xc3,xc4,xc5,xc6,xc7]) :
  ∃fd:FuncData,(∀(s:Shared) (v:Value),BindsTo s fd ⟨[v],[]⟩ [("_law_script",v)])/\∀base:Heap,K.In base->base.Ns mainGlobals mg->aB4 base mg cc Pt->mI l.prog w K mg base qL 121 fa fd ["_law_script"] (mU K (aP7 Pt)):=by
 obtain⟨_,la,oc,od,kV,dc,pm,an,cd,ct,sl,lk,lc,lp⟩:=t59
 cases hfa.symm.trans (W.mg_of X G la)
 refine⟨W.fnOf "law" "law" (bO aY3) (bF aY3) (aK aY3) .none kV dc pm an cd ct,fun s v=> .of_eq rfl,fun base _ _ LB0=>?_⟩;have Z:Zx l.prog w K mg base:= .of X G;have y_reversed:=Z.no _ z_reversed;have y_tuple:=Z.no _ z_tuple;have y_len:=Z.no _ z_len;have y_isinstance:=Z.no _ z_isinstance;have y_str:=Z.no _ z_str;have y_list:=Z.no _ z_list;have y_range:=Z.no _ z_range;have y_zip:=Z.no _ z_zip;have y_sorted:=Z.no _ z_sorted;have y_max:=Z.no _ z_max;have y_min:=Z.no _ z_min;have y_int:=Z.no _ z_int;have y_ValueError:=Z.no _ z_ValueError;have y_all:=Z.no _ z_all;have mT:=Z.ns _ _ qT;have zT:itsT.size<=sizeLine:=by
  have e:=vT.length;have e2:itsT.size=4:=by rw[<-jh];simpa [dR] using e.symm
  rw[e2]
  decide
 have hT:∀H,aU K H xcT (dR.map V.str):=fun H=> .inr ⟨_,itsT,nT,uT,rfl,rfl,zT,vT⟩
 have mF:=Z.ns _ _ qF;have zz:∀{vs:List V}{its:Array Value},bB vs its.toList->vs.length<=2->its.size<=sizeLine:=fun {vs its} v l=>by
  have e:=v.length;rw[<-jh, <-e];exact db l (by decide)
 have hF:∀H,aU K H xcF [.ref xcG,.ref xcH]/\cH K H xcG (1,1)/\cH K H xcH (0,1):=fun H=>⟨.inr ⟨_,itsF,nF,uF,rfl,rfl,zz vF (by show 2<=2;decide),vF⟩,.inr ⟨_,itsG,nG,uG,rfl,rfl,zz vG (by show 2<=2;decide),vG⟩,.inr ⟨_,itsH,nH,uH,rfl,rfl,zz vH (by show 2<=2;decide),vH⟩⟩
 have W1:=bL2 u1 sa1 ga1 gh1;have Z1:XIs K xc1:=⟨ca1,hg,ht⟩
 have TD:W.typeIn K (.ref xcD)=some (.type "type"):=by show(K.lookup xcD).map _=_;rw[uD];rfl
 have CD:(W.clsIn K xcD).isSome=true:=by unfold W.clsIn;rw[uD];rfl
 have cl2:(W.clsIn K xc2).isSome=true:=by unfold W.clsIn;rw[u2];rfl
 have cl3:(W.clsIn K xc3).isSome=true:=by unfold W.clsIn;rw[u3];rfl
 have cl4:(W.clsIn K xc4).isSome=true:=by unfold W.clsIn;rw[u4];rfl
 have cl5:(W.clsIn K xc5).isSome=true:=by unfold W.clsIn;rw[u5];rfl
 have cl6:(W.clsIn K xc6).isSome=true:=by unfold W.clsIn;rw[u6];rfl
 have cl7:(W.clsIn K xc7).isSome=true:=by unfold W.clsIn;rw[u7];rfl
 have FM:lV K xc1 [xc2,xc3,xc4,xc5,xc6,xc7] xcD:=⟨W1,Z1,(by
  intro C h;simp only[List.mem_cons,List.not_mem_nil,or_false] at h;rcases h with rfl|rfl|rfl|rfl|rfl|rfl
  ·exact ty2
  ·exact ty3
  ·exact ty4
  ·exact ty5
  ·exact ty6
  ·exact ty7
  ),(by
  intro C h;simp only[List.mem_cons,List.not_mem_nil,or_false] at h;rcases h with rfl|rfl|rfl|rfl|rfl|rfl
  ·exact cl2
  ·exact cl3
  ·exact cl4
  ·exact cl5
  ·exact cl6
  ·exact cl7
  ),nr,dnot,CD,TD⟩
 have UP:XUp K xcD:=⟨TD,CD,beD⟩
 have MK1:=cJ2 u1 kp1 (aE1 tn1 tt1) ni1 uD (aE1 tnD ttD) niD;have mD:=Z.ns _ _ qD;have mc1:=Z.ns _ _ q1;have mc2:=Z.ns _ _ q2;have mc3:=Z.ns _ _ q3;have mc4:=Z.ns _ _ q4;have mc5:=Z.ns _ _ q5;have mc6:=Z.ns _ _ q6;have mc7:=Z.ns _ _ q7;have C1:=Z.c1 t1 (bR2);have C2:=Z.c1 t2 (bR6);have C3:=Z.c1 t3 (bQ1 C2 C1);have C4:=Z.c1 t4 (bP7);have C5:=Z.c1 t5 (bY2 C4);have C6:=Z.c1 t6 (bT5 mT hT);have C7:=Z.c1 t7 (bX5 C5);have C8:=Z.c1 t8 (bW7);have C9:=Z.c1 t9 (bZ6 C8);have C10:=Z.c1 t10 (bU9 C8 C9 y_reversed);have C11:=Z.c2 t11 (bW6);have C12:=Z.z2 t12 (bV9 C10 C11 y_tuple y_len);have C13:=Z.c1 t13 (bT7 y_isinstance y_str y_len);have C14:=Z.c1 t14 (bS2 C13 y_list);have C15:=Z.c2 t15 (bV5 C14 y_range y_len);have C16:=Z.c1 t16 (bV4 C15 C14 y_list y_reversed y_zip);have C17:=Z.c1 t17 (bP3 C10);have C18:=Z.u3 t18 (bV8 mc1 MK1 LB0 C17 C12 y_len);have C19:=Z.c2 t19 (bQ4);have C20:=Z.c2 t20 (bQ6 C19);have C21:=Z.c2 t21 (bP9 C20)
 have C22:=Z.c2 t22 (bS0 C20);have C23:=Z.c2 t23 (aW3 C20);have C24:=Z.c2 t24 (bR9 y_range);have C25:=Z.c2 t25 (bP8);have C26:=Z.c1 t26 (bQ7 C7);have C27:=Z.c1 t27 (bP1 C17 C26 C7 y_tuple y_sorted);have C28:=Z.c2 t28 (bW0 C6);have C29:=Z.c2 t29 (bY6 C22 C24);have C30:=Z.c2 t30 (bI7 C23 C29);have C31:=Z.c2 t31 (bT0 C24);have C32:=Z.c2 t32 (bX8 mF hF C22 C31 C20 C30 C3 y_max y_min);have C33:=Z.c2 t33 (bX6 mT hT mF hF C32);have C34:=Z.c1 t34 (bW8 mF hF C22 C21);have C35:=Z.c1 t35 (bS8 C25);have C36:=Z.c1 t36 (bT3 C35);have C37:=Z.c2 t37 (bY5 mF hF C24 C13 C34 C36 C22);have C38:=Z.c2 t38 (bS1 mT hT mF hF C27 C16 C13 C28 C33 C37 C14 C15);have C39:=Z.c2 t39 (bU0 C38);have C40:=Z.c2 t40 (fun F=>bE5 F y_max y_reversed y_list);have C41:=Z.c2 t41 (fun F=>bK1 F y_len);have C42:=Z.c2 t42 (bJ6);have C43:=Z.c2 t43 (aV1 C42 C41);have C44:=Z.c2 t44 (aN2 C41 y_range y_len y_int);have C45:=Z.c2 t45 (aV8 C41 y_tuple y_range)
 have C46:=Z.c3 t46 (aM7 C41 C43 C45 y_tuple y_max y_range);have R47:∀n,Cl l.prog w K mg base (n+1) (sM n) "_law_term":=fun n=>by
  induction n with
  |zero=>exact Z.c3 (p1:="_law_deal_here") (p2:="_law_known") (p3:="_law_room") t47 okn
  |succ n ih=>exact Z.c3 t47 (aZ5 n ih C41 y_len)
 have C47:=R47 3;have C48:=Z.c3 t48 (bF2 C41 C46 C47 y_len);have R51:∀m,Cl l.prog w K mg base (5+3*m) (yZ m) "_law_when"/\Cl l.prog w K mg base (4+3*m) (bN7 m) "_law_rows":=fun m=>by
  induction m with
  |zero=>exact⟨Z.c4 (p1:="_law_deal_here") (p2:="_law_scene") (p3:="_law_known") (p4:="_law_deep") t49 okn,Z.c5 (p1:="_law_deal_here") (p2:="_law_scene") (p3:="_law_known") (p4:="_law_deep") (p5:="_law_many") t51 okn⟩
  |succ m ih =>
   have r0:=Z.c4 t50 (aQ2 m C41 ih.1 ih.2 C48 C47 y_int);have e1:5+3*m+1=6+3*m:=by lia
   have r1:Cl l.prog w K mg base (6+3*m) (bA4 (m+1)) "_law_row":=by rw[<-e1];exact r0
   have s0:=Z.c5 t51 (aP1 m r1 y_range y_tuple);have e2:6+3*m+1=7+3*m:=by lia
   have s1:Cl l.prog w K mg base (7+3*m) (oZ m) "_law_rows":=by rw[<-e2];exact s0
   have w0:=Z.c4 t49 (bA1 m C47 s1 C41 C48 y_range y_len y_int y_tuple);have e3:7+3*m+1=5+3*(m+1):=by lia
   have e4:7+3*m=4+3*(m+1):=by lia
   exact⟨by rw[<-e3];exact w0,by rw[<-e4];exact s1⟩
 have C51:=(R51 3).2;have C52:=Z.c4 t52 (bB1 C51 C41 C47 y_len y_tuple);have R53:∀n,Cl l.prog w K mg base (n+1) (xU n) "_law_flat":=fun n=>by
  induction n with
  |zero=>exact Z.c1 (p1:="_law_rows_here") t53 okn
  |succ n ih=>exact Z.c1 t53 (aO4 n ih)
 have C53:=R53 4;have H54:=Z.h1 t54 (bT1 mc1 mc5 mc2 mc3 mc4 mc6 mc7 mD FM y_isinstance y_ValueError);have R55:∀n,Cl l.prog w K mg base (n+1) (aE9 n) "_law_put":=fun n=>by
  induction n with
  |zero=>exact Z.c3 (p1:="_law_rows_here") (p2:="_law_left") (p3:="_law_steepness_here") t55 okn
  |succ n ih=>exact Z.c3 t55 (bY9 n ih y_tuple)
 have C55:=R55 4;have C56:=Z.c3 t56 (bU5 (Lx:=aP7 Pt) mD UP W1 C18 H54);have C57:=Z.c2 t57 (bR8 y_all y_zip);have C58:=Z.c3 t58 (bT2 C53 C56 C55 C39 C57 y_range y_len);exact bT8 C40 C44 C52 C43 C53 C41 C58 y_len y_all y_list y_range (zF lk lc lp)
open PySem PySem.W L2
theorem walk{l:W.OpenLaw}{q:Program}{loose:List Str}{XP:(Str->Option Value)->Heap->Prop}{YP:World->Heap->Prop}{d:DefRec}{K:Params->W.Frag}{c Pt:Addr}(hn:l.most=some 63)(hdf:d.params.defaults=[])
  (hY:∀(w:World) (h:Heap),YP w h->(K w.params).In h/\∀P∈[Pt],h.get? P=some (tabObj #[]))
  (hK:∀w:World,noTabs (K w.params)=true) (hH:∀w:World,codeHdIn (K w.params) c Pt=true)
  (F:∀(w:World) (mg:Str->Option Value) (fa:Addr) (h:Heap),(K w.params).In h->h.Ns mainGlobals mg->mg d.name=some (.ref fa) ->
   ∃fd:FuncData,(∀(s:Shared) (u:Value),BindsTo s fd ⟨[u],[]⟩ [("_law_script",u)])/\∀base:Heap,(K w.params).In base->base.Ns mainGlobals mg->aB4 base mg c Pt->mI l.prog w (K w.params) mg base qL 121 fa fd ["_law_script"] (mU (K w.params) (aP7 Pt))) :
  W.WalkO q loose XP YP l.row.toRowW d [] (fun f vs=>PySem.call f vs):=
 L2.walkT_of (n:=63) (k:=121) (x:="_law_script") (ts:=[(c,Pt)]) (sp:=fun w=>mU (K w.params) (aP7 Pt)) hn (by decide) hdf ⟨rfl,by decide,by decide,rfl⟩ (fun w h Y=>hY w h Y) hK
  (fun w q hq=>by rw[au.mp hq];exact hH w)
  (fun w mg fa h a b e=>let⟨fd,x,y⟩:=F w mg fa h a b e;⟨fd,x,fun base k m L=>y base k m (L _ (au.mpr rfl))⟩)
  (fun w H a ns hl hO hS=>⟨a,ns,rfl,hS,hl,hO.1 _ (au.mpr rfl),fun _=>rfl⟩)
end Mine
open PySem PySem.W PyProof.Rows
namespace PySem.W.Fast
def tw10037509282428017008:=0
def tw10058203316617015972:=0
def tw10096190349485003846:=0
def tw10096610266676468884:=0
def tw10175620698503649014:=0
def tw10183941241202994840:=0
def tw10205650732024255686:=0
def tw10254648573686770211:=0
def tw10288206875955932320:=0
def tw10312842206960749236:=0
def tw10392541952015727682:=0
def tw10435068836241216181:=0
def tw10468180809870360285:=0
def tw10475728019692927504:=0
def tw10511929783972936265:=0
def tw10527239573595664018:=0
def tw10578505298173641343:=0
def tw10601598040715542194:=0
def tw1062819928494627120:=0
def tw10719822932332622766:=0
def tw107739993931586890:=0
def tw10790755410311856134:=0
def tw10800485503340833188:=0
def tw10808562941521935141:=0
def tw10818614211457396853:=0
def tw10829210438496585874:=0
def tw10838876763782129373:=0
def tw10849878324055297626:=0
def tw11016019807952212600:=0
def tw11053282913203597240:=0
def tw1106919684962796791:=0
def tw11094459297763013192:=0
def tw11097135921185059387:=0
def tw11110645548329814846:=0
def tw11140540854883966610:=0
def tw1114545858841209345:=0
def tw11150839858341563657:=0
def tw11252210424695255584:=0
def tw11289348813239608604:=0
def tw11361512582777369836:=0
def tw1141510400924057829:=0
def tw11445941706222384036:=0
def tw1145102524548689359:=0
def tw11489456496921962031:=0
def tw1162824379867241135:=0
def tw11663284418254403139:=0
def tw11701700081279458204:=0
def tw11739904025801735604:=0
def tw11787704237424247344:=0
def tw11835432308764654215:=0
def tw11878754904671894958:=0
def tw11926636413717802619:=0
def tw11937968083010174844:=0
def tw11992843275518271307:=0
def tw12083882737739119787:=0
def tw12093920849443648108:=0
def tw12098865865496652799:=0
def tw12118044168466929278:=0
def tw12131858501453306489:=0
def tw1222965007133079719:=0
def tw12258105127581604536:=0
def tw1228575893672338512:=0
def tw12363744266483309807:=0
def tw12424045281999519820:=0
def tw12431347651870475498:=0
def tw12527046331645542953:=0
def tw12537335939089273001:=0
def tw12565049926420039230:=0
def tw12571458276768750934:=0
def tw12586878449405364425:=0
def tw12605279652038663768:=0
def tw12665003072805527803:=0
def tw12698280838936356566:=0
def tw12712116599829951676:=0
def tw12746684348709088024:=0
def tw12782023779256080668:=0
def tw12818403908483079405:=0
def tw12832793357371530373:=0
def tw12854851439355251607:=0
def tw12890773525727913217:=0
def tw12910899218632168177:=0
def tw1295877287627997805:=0
def tw1298188158134853519:=0
def tw13001655916005565260:=0
def tw13005053529145074639:=0
def tw13097664344758477124:=0
def tw13134871124015923143:=0
def tw13189897588071205500:=0
def tw13259470354704495191:=0
def tw13287267239756785497:=0
def tw13288027633711053901:=0
def tw13294179252505442783:=0
def tw13318971865738479560:=0
def tw13351980822991198631:=0
def tw1336492699174538889:=0
def tw13381549564726679169:=0
def tw13384148256604886907:=0
def tw13421169200066464806:=0
def tw13439433630960360774:=0
def tw13443703876242297544:=0
def tw13452179793572864042:=0
def tw1350738817677176626:=0
def tw13530640431663533420:=0
def tw13550468939872896285:=0
def tw13562360527520858285:=0
def tw1359368492948134725:=0
def tw13611996454548603693:=0
def tw13696129161164690850:=0
def tw13748075719065698193:=0
def tw13884930428460319586:=0
def tw13907687375033590921:=0
def tw13927950662266870912:=0
def tw13933213598982804330:=0
def tw13933430782242886169:=0
def tw13937180096746393696:=0
def tw13997302936670050792:=0
def tw14004697039615524247:=0
def tw14124439474953894771:=0
def tw14139858001808735666:=0
def tw14141026497071820133:=0
def tw14284811678645184729:=0
def tw14296260767691679160:=0
def tw14350278791929368294:=0
def tw14353077872634546596:=0
def tw14404076814570751268:=0
def tw14450966069773080865:=0
def tw14451692281562228108:=0
def tw14453496341437657416:=0
def tw14538206221813615031:=0
def tw14576303672441445198:=0
def tw14602647890879182964:=0
def tw14637932910406974950:=0
def tw14639851985566919686:=0
def tw14645859960639567906:=0
def tw14683226416941733211:=0
def tw14687771185133442745:=0
def tw1468926501912134646:=0
def tw14707028993373110492:=0
def tw14772609875704494431:=0
def tw14792724061710177106:=0
def tw14878555393318241690:=0
def tw14948766817560945154:=0
def tw14949956289015414376:=0
def tw14975763693582390873:=0
def tw1497996845299201423:=0
def tw15003275943399820440:=0
def tw15016407194433437357:=0
def tw15044654335151731381:=0
def tw15070554371327514603:=0
def tw15082224519740239709:=0
def tw15180660807918793519:=0
def tw15204466095085126394:=0
def tw15214380534321780416:=0
def tw15224640424037204623:=0
def tw15248777542680522497:=0
def tw15249821803284780060:=0
def tw15317904903920100087:=0
def tw15356354955245772243:=0
def tw15357217047750406599:=0
def tw15382534941663790981:=0
def tw15383467919832374913:=0
def tw15454485334781940745:=0
def tw1548911014657419905:=0
def tw15494775634330516799:=0
def tw15510627428378188639:=0
def tw15562317523610920040:=0
def tw15612644817624822177:=0
def tw15649922175347029073:=0
def tw15666743931751923738:=0
def tw15718792610419917595:=0
def tw15723025898867733986:=0
def tw1574230378647740788:=0
def tw15789441937186519578:=0
def tw15818295866050686273:=0
def tw15836004321679129207:=0
def tw15837694419861515827:=0
def tw15881892739110599113:=0
def tw15971478572985488870:=0
def tw15981210228596573195:=0
def tw16021461717866601735:=0
def tw16036178808078231071:=0
def tw16078592557967385510:=0
def tw1608965636419823652:=0
def tw16132859663322918660:=0
def tw16135596847743063684:=0
def tw162043859917254611:=0
def tw16243441149667272967:=0
def tw16337864313452283489:=0
def tw16413373369846697399:=0
def tw16446787399583141891:=0
def tw16474074516267702544:=0
def tw16496694621410570496:=0
def tw16528084229252297935:=0
def tw16530605777979131749:=0
def tw16543887518489838437:=0
def tw16583644577624208194:=0
def tw16594045681118783921:=0
def tw16700068860549691437:=0
def tw16712843278607525728:=0
def tw16732247107460403143:=0
def tw16740244896198142592:=0
def tw16745875235213299436:=0
def tw16747860037891329872:=0
def tw16773905468723221448:=0
def tw16820178950011821883:=0
def tw16827634567620354887:=0
def tw16842183820669624204:=0
def tw16853173861023096544:=0
def tw16887046989131061032:=0
def tw16924759281663862076:=0
def tw169257853115973076:=0
def tw16976334310717011560:=0
def tw17047521851470830329:=0
def tw17077600443496211568:=0
def tw17087297642457242733:=0
def tw1712562147545469097:=0
def tw17147723352076534081:=0
def tw17172408966824502259:=0
def tw17206380994349770579:=0
def tw1727937136703385470:=0
def tw17281584590584336599:=0
def tw1728427249391159656:=0
def tw17338406487811447293:=0
def tw17367576471759905159:=0
def tw17405745544838183414:=0
def tw17438908436885359851:=0
def tw17487915632043111021:=0
def tw17554175888745092823:=0
def tw17615409211065015945:=0
def tw17624371455059236132:=0
def tw17641522559242216832:=0
def tw17723468185009365537:=0
def tw17747892220016659953:=0
def tw17767051008733223787:=0
def tw17779927547294197774:=0
def tw17808770465755567938:=0
def tw17811709666892481849:=0
def tw17875573536875144366:=0
def tw17922632238297453961:=0
def tw17948698068221927154:=0
def tw18061846713464680685:=0
def tw18073185814362057630:=0
def tw18088371657690590140:=0
def tw18109166413892160777:=0
def tw18182930802337826682:=0
def tw18205520134042561375:=0
def tw18208382533908802969:=0
def tw1823096243530109962:=0
def tw18239162986768276484:=0
def tw18248274523435179449:=0
def tw18267255109486238609:=0
def tw18282147755573336921:=0
def tw18339468169662634387:=0
def tw18356770414508064077:=0
def tw18392271979665668771:=0
def tw18424305790713026719:=0
def tw1859500811802920956:=0
def tw1867584696892351529:=0
def tw1869319359787148928:=0
def tw1882214454106037348:=0
def tw1891403645576805485:=0
def tw1892766602687020056:=0
def tw1892883917132097656:=0
def tw1895184583299575010:=0
def tw1954294804607608060:=0
def tw1955925580985616006:=0
def tw1985219668134372212:=0
def tw2004171310927510748:=0
def tw2075963478556036697:=0
def tw2121575170526301189:=0
def tw2127923605791254219:=0
def tw2128897711109562288:=0
def tw213535518709801782:=0
def tw2180231888116374921:=0
def tw2271679284764210174:=0
def tw2283981804495564606:=0
def tw2300034288238951583:=0
def tw2302871837613964615:=0
def tw2314548297620898353:=0
def tw2332608728053234653:=0
def tw2406412373150666178:=0
def tw2426500756936064432:=0
def tw249631827029811437:=0
def tw2523007768816214905:=0
def tw2712580245965069963:=0
def tw2739976761759400432:=0
def tw2765342454270100224:=0
def tw277092810223765925:=0
def tw2771667210997575816:=0
def tw2786202146009129306:=0
def tw28044309453167953:=0
def tw2839287961039089227:=0
def tw2899999569273838481:=0
def tw2917359200531000305:=0
def tw2993647624026275363:=0
def tw2999014827867854489:=0
def tw3018888895283419094:=0
def tw3053932003228533393:=0
def tw3067184313524824800:=0
def tw3068541614215048065:=0
def tw3097199810728511380:=0
def tw3105903560913614818:=0
def tw3174469443630074660:=0
def tw3180561664330168691:=0
def tw3330061004515430029:=0
def tw3331281176224048306:=0
def tw3345324288419160450:=0
def tw3360969462228671777:=0
def tw3403261614789028640:=0
def tw3438557728402550753:=0
def tw3482223395255794477:=0
def tw3504127266959552866:=0
def tw3593466251769020531:=0
def tw3610675713442530794:=0
def tw3648518462863253511:=0
def tw3676719230286126083:=0
def tw369592490561292529:=0
def tw378325000082811278:=0
def tw38344984822642604:=0
def tw4002352548909396807:=0
def tw4006314610198345521:=0
def tw4010792480598441854:=0
def tw4029419094825399902:=0
def tw4103565737129668309:=0
def tw4169552462529126047:=0
def tw4207242690346463550:=0
def tw4319321301498139004:=0
def tw4354438566682468115:=0
def tw4419048599734285650:=0
def tw4423097091667033950:=0
def tw4425338315867065745:=0
def tw4435076831842508312:=0
def tw4470779348935676584:=0
def tw4471382385440963588:=0
def tw4480291894219399835:=0
def tw4503586114529529102:=0
def tw451258576957108686:=0
def tw4536503515884950380:=0
def tw4581011852329807004:=0
def tw4617396849754368910:=0
def tw4727137041573223124:=0
def tw4772602595415570887:=0
def tw4806435708147419450:=0
def tw4874295638544742995:=0
def tw5006816378010416353:=0
def tw5032702462206909560:=0
def tw5103536978581727870:=0
def tw5121765473014411031:=0
def tw5146364549012604435:=0
def tw515975994484559862:=0
def tw5177381619948226668:=0
def tw5184645827958824015:=0
def tw5202225426307246422:=0
def tw5308558684636853001:=0
def tw5324731682978352114:=0
def tw5325169404864687562:=0
def tw533522349898426652:=0
def tw5339510039906785363:=0
def tw5345666766389985723:=0
def tw5583013950562765631:=0
def tw5587138805729724869:=0
def tw5605459686546471919:=0
def tw5615996892770428222:=0
def tw5620887667993568921:=0
def tw5652068236465333122:=0
def tw5722893521715500160:=0
def tw5753207787574975455:=0
def tw5858873989222521863:=0
def tw5915148694171816313:=0
def tw5960860026269817007:=0
def tw6007456930045094654:=0
def tw6083568895844986735:=0
def tw6084052499613176696:=0
def tw6084057750281200650:=0
def tw6106776111396642083:=0
def tw6167497671106893576:=0
def tw6188563930781791700:=0
def tw6194578293444298951:=0
def tw6196309757857104319:=0
def tw6197143868931719746:=0
def tw6229724603306591164:=0
def tw6232565882313626676:=0
def tw6313764417288511244:=0
def tw6351572072695322102:=0
def tw6359360395378382595:=0
def tw6364006117781556012:=0
def tw6459137865711366301:=0
def tw6490289217198509377:=0
def tw6598110301668257324:=0
def tw6626285579139873918:=0
def tw6670549577606791171:=0
def tw6687721367494237587:=0
def tw6702690712447462064:=0
def tw6704769734335869585:=0
def tw6740861383374678015:=0
def tw6743941134554566439:=0
def tw677730983376257352:=0
def tw6830107915790888425:=0
def tw6863373464056066394:=0
def tw6969484959058847727:=0
def tw6981001611565867520:=0
def tw7029737670544911370:=0
def tw7066906518821040167:=0
def tw7094644476727562536:=0
def tw7141348002548604080:=0
def tw7162049794883672836:=0
def tw7183294496407238753:=0
def tw7194931249563922396:=0
def tw726096966898740378:=0
def tw7281247705390314834:=0
def tw7283151745017734647:=0
def tw7440798352081938601:=0
def tw7461482809048291512:=0
def tw7551787260313225209:=0
def tw7610862879154430231:=0
def tw7676997116819041235:=0
def tw7677644545673723275:=0
def tw7772967495031485666:=0
def tw7775297222873585970:=0
def tw7824472278436797143:=0
def tw7829110650379434759:=0
def tw7856963037335362094:=0
def tw7875829411913513569:=0
def tw7900784135800421860:=0
def tw790265367376724646:=0
def tw7930870321575880060:=0
def tw7981594706730737356:=0
def tw8001738250483268857:=0
def tw8074706792769709229:=0
def tw8109158923327131314:=0
def tw8114402956780409674:=0
def tw8124847944441709261:=0
def tw8129461545108748056:=0
def tw812951935202138124:=0
def tw8165286571330898082:=0
def tw8167080209913539213:=0
def tw8178092771574209193:=0
def tw8201470105844947091:=0
def tw8215592381951902634:=0
def tw8288570594591432845:=0
def tw8295042832810730016:=0
def tw8302683529576830500:=0
def tw8433921446514523704:=0
def tw8444528848686206132:=0
def tw8446386508256720724:=0
def tw8495194089811363001:=0
def tw8531695903203543223:=0
def tw8531700803238039244:=0
def tw8574603453931291910:=0
def tw8582641179693354216:=0
def tw8625429455840729490:=0
def tw8640444799919959751:=0
def tw8673491868023419169:=0
def tw8707947795290435522:=0
def tw872424289002574800:=0
def tw8733939226324088750:=0
def tw874411543705180294:=0
def tw8777309016630533763:=0
def tw8786562755494242318:=0
def tw8861861777520059650:=0
def tw8887168234319491342:=0
def tw8974426109315644282:=0
def tw8990384779008215338:=0
def tw9128630667197088545:=0
def tw9154817662557720545:=0
def tw9208066569623879277:=0
def tw9224949867955254982:=0
def tw922885238010557005:=0
def tw9270414687745465834:=0
def tw9348073994886387:=0
def tw9398562319669832400:=0
def tw9402693203931220189:=0
def tw9434751844806638226:=0
def tw9462984794490278275:=0
def tw9495795074441574318:=0
def tw9533352075669589406:=0
def tw9549490232379596437:=0
def tw9563087659991077509:=0
def tw9602982779876475006:=0
def tw9605706616103148752:=0
def tw9624618561626965944:=0
def tw9644313738043584305:=0
def tw9664096056482075869:=0
def tw9689312434934207398:=0
def tw9711091734026226647:=0
def tw9737294191224128299:=0
def tw9789624027143365547:=0
def tw9821331023445096518:=0
def tw9832010422405394320:=0
def tw9833610274866408215:=0
def tw9840601313547342667:=0
def tw9898532427915340472:=0
def tw994960561350642647:=0
def tw9957157644746862258:=0
def tw9969236596707749057:=0
end PySem.W.Fast
set_option maxRecDepth 100000 in
set_option maxHeartbeats 0 in
theorem PySem.Challenge.cw_pairedthrows_k48_ladders_exchanged_holds : PySem.Challenge.rw_pairedthrows_k48_ladders_exchanged.Holds := by
  w_on;o_law;k_head;(case hw=>w_witness2)
  k_fill
  refine' Mine.walk (l:=PySem.Challenge.rw_pairedthrows_k48_ladders_exchanged) rfl rfl (fun w h Y=>⟨PySem.W.km_in_of Y,PySem.W.km_tabs_of Y⟩) (fun _=>by kernel_rfl) ?H ?F
  case F =>
    intro w mg fa h KX G hmg
    refine' Mine.all_mk KX G hmg ?a0 ?a1 ?a2 ?a3 ?a4 ?a5 ?a6 ?a7 ?a8 ?a9 ?a10 ?a11 ?a12 ?a13 ?a14 ?a15 ?a16 ?a17 ?a18 ?a19 ?a20 ?a21 ?a22 ?a23 ?a24 ?a25 ?a26 ?a27 ?a28 ?a29 ?a30 ?a31 ?a32 ?a33 ?a34 ?a35 ?a36 ?a37 ?a38 ?a39 ?a40 ?a41 ?a42 ?a43 ?a44 ?a45 ?a46 ?a47 ?a48 ?a49 ?a50 ?a51 ?a52 ?a53 ?a54 ?a55 ?a56 ?a57 ?a58 ?a59 ?a60 ?a61 ?a62 ?a63 ?a64 ?a65 ?a66 ?a67 ?a68 ?a69 ?a70 ?a71 ?a72 ?a73 ?a74 ?a75 ?a76 ?a77 ?a78 ?a79 ?a80 ?a81 ?a82 ?a83 ?a84 ?a85 ?a86 ?a87 ?a88 ?a89 ?a90 ?a91 ?a92 ?a93 ?a94 ?a95 ?a96 ?a97 ?a98 ?a99 ?a100 ?a101 ?a102 ?a103 ?a104 ?a105 ?a106 ?a107 ?a108 ?a109 ?a110 ?a111 ?a112 ?a113 ?a114 ?a115 ?a116 ?a117 ?a118 ?a119 ?a120
    case a59|a60|a61|a62|a63|a64|a65|a66|a67|a68|a69|a70|a71|a72|a73|a74=>k_is
    case a75=>exact .cons ⟨_,rfl⟩ (.cons ⟨_,rfl⟩ (.cons ⟨_,rfl⟩ (.cons ⟨_,rfl⟩ (.nil))))
    case a76|a77=>k_is
    case a78=>exact .cons rfl (.cons rfl .nil)
    case a79=>k_is
    case a80=>exact .cons ⟨_,rfl⟩ (.cons ⟨_,rfl⟩ (.nil))
    case a81=>k_is
    case a82=>exact .cons ⟨_,rfl⟩ (.cons ⟨_,rfl⟩ (.nil))
    case a83|a84|a85|a86|a87|a88|a89|a90|a91|a92|a93|a94|a95|a96|a97|a98|a99|a100|a101|a102|a103|a104|a105=>k_is
    case a106=>rfl
    case a107|a108=>k_is
    case a109=>rfl
    case a110|a111|a112|a113|a114|a115|a116|a117|a118=>k_is
    case a119|a120=>decide
    case a0|a1|a2|a3|a4|a5|a6|a7|a8|a9|a10|a11|a12|a13|a14|a15|a16=>apply L2.TopAt.of<;>k_is
    case a17=>apply L2.TopAtT.of<;>k_is
    case a18|a19|a20|a21|a22|a23|a24|a25|a26|a27|a28|a29|a30|a31|a32|a33|a34|a35|a36|a37|a38|a39|a40|a41|a42|a43|a44|a45|a46|a47|a48|a49|a50|a51|a52|a53|a54|a55|a56|a57|a58=>apply L2.TopAt.of<;>k_is
  case H => exact fun _ => by kernel_rfl
