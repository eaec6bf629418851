import PyProof.Rows.All
import Wide.All
import OpenK.AllK
import Wide.FinOn
import Lean
import PyProof.EqAt
import PyProof.EqKinds
import PyProof.TupleCall
import KE.KDictOf
import PyProof.AttrMissHeap
import KE.KSortTup
import PyProof.Rows.InDataRows
import KE.KRevSl
import PyProof.Rows.SetFrom
import PyProof.Rows.SortStr
import KE.KDictLaws
import PyProof.DictWalks
import PyProof.DictItems
import KE.KDictList
import KE.KPairComp
import PyProof.AutoListH
import PySem.Challenge.RW_pairedthrows_k25_tables_of_programs
set_option Elab.async false
set_option linter.all false
set_option maxRecDepth 100000
open PySem renaming wpAny_bind->aa,wpAny_pure->am,wpAny_call_entry->eg,wpAny_callSpecial?_slot->eu,wpAny_newObj_type->fj,wpAny_field->fk,wpAny_mono->ft,wpAny_loadPart'->fu,wpAny_specialOf->gp,wpAny_Call_Name_kw->gr,wpAny_seqItems->ia,boot_len->ic,sizeLine_eq->jc,wpAny_isInstance->jg,wpAny_truthy_bool->jn,wpAny_typeNameOfWhole_keyiter->jo,mem_of_lookup->jp,call_meets->jt,wpAny_pyIter_tuple->jv,wpAny_passesOwn->jz,wpAny_holding->ko,wpAny_attempt->kr,wpAny_setField->kx,wpAny_rule->me,wpAny_setField_rec->mi,wpAny_of_eq->mj,builtinLookup_eq_fast->mw,isSubtype_tuple_tuple->ni,wpAny_forIn_list->nk,wpAny_callSpecialIfBoundUnlessNone?_slot->nq,tupleKind_room_in1->om,wpAny_pyIter_enum->pf,wpAny_execs_nil->re,codeAny_mono->rg,wpAny_typeOf->rl,typeIs_int->rm,wpAny_pyIter_keyiter->sk,typeLookup_type->sn,isSubtype_stop->ua,isSubtype_type->ub,wpAny_standAt->uv,wpAny_letOwnedTupleGo_enum->uz,eqIsQuiet_byValue->vh,wpAny_dictEntries->vi,wpAny_binaryOp_repeat_ref->vk,wpAny_Dict_empty->vt,noFill_tuple_add->vv,wpAny_comprehension_free->vx,entryFor_of_tree->vz,wpAny_dictEpoch->xi,wpAny_Assign_Subscript->xp,seqIndex_of->xu,wpAny_isTrue_Compare1->yd,wpAny_cRoomFor->yh,wpAny_isOneOf_keyiter->yi,wpAny_updateSeq_pair->yu,wpAny_pyIter_revIter->yw,seq_tuple_add->zi,wpAny_handled->zj,wpAny_onRaise->zk,wpAny_getItem_heap->zy,wpAny_setItem_heap->zz,concat_meets->aAa,seqIndex_neg->aAc,callType_new->aAd,wpAny_tupleItemsOf->aAi,wpAny_throw->aAp,wpAny_mkInt->aAq
local macro_rules|`(tactic|decide)=>`(tactic|decide +kernel)
local macro_rules|`(def $i:declId $s:optDeclSig $v:declVal)=>`(noncomputable def $i:declId $s:optDeclSig $v:declVal)
set_option compiler.extract_closed false
noncomputable section
open List renaming length_map->ac,mem_cons_of_mem->ae,mem_cons_self->aj,map_append->aq,mem_singleton->av,mem_cons->az,size_toArray->bf,length_append->bg,mem_of_getElem?->bj,length_cons->bo,mem_append->br,map_cons->bt,getElem?_eq_getElem->bw,getElem?_eq_some_iff->bz,mem_append_right->cg,mem_map->ci,getElem?_map->df,not_mem_nil->di,sum_cons->dm,mem_filter->dr,mem_append_left->dw,length_take->ef,take_length->eh,replicate_succ->gb,map_congr_left->gc,flatMap_cons->gj,length_reverse->ig,eq_nil_of_length_eq_zero->ik,length_eq_zero_iff->iq,flatten_cons->ir,append_assoc->iu,nodup_append->iw,foldl_cons->iz,append_nil->jk,map_map->jl,take_of_length_le->ju,nodup_cons->ka,any_cons->md,reverse_cons->ml,dropLast_concat->nu,nodup_iff_pairwise_ne->nv,filter_sublist->oa,sum_append->oh,drop_eq_getElem_cons->ol,pairwise_cons->oq,nodup_nil->ou,pairwise_map->pj,getElem_inj->ql,length_drop->qm,length_singleton->qu,getElem?_reverse->qv,length_filter_le->qw,eraseIdxIfInBounds_toArray->rc,filterMap_cons->sw,flatMap_append->tq,drop_zero->uc,mem_filterMap->uf,zip_cons_cons->uh,filter_append->um,getElem?_append_right->uw,all_cons->ux,getD_eq_getElem?_getD->vc,pairwise_iff_getElem->vn,map_nil->vq,mem_flatMap->we,ext_getElem->wf,map_reverse->wj,filter_cons_of_neg->xa,of_mem_zip->xb,nil_append->xf,forIn_cons->xg,getElem?_set_self->xm,drop_of_length_le->xz,mem_range->yc,length_replicate->ye,take_append_drop->yg,getElem?_eq_none->yn,getElem?_set_ne->yq,mem_of_mem_drop->yx,mem_of_mem_take->yy,mem_iff_getElem->zg,reverse_append->zt,map_singleton->aAn
open Nat renaming le_refl->af,le_trans->ay,zero_le->bi,lt_of_lt_of_le->bn,ne_of_lt->bv,lt_of_le_of_lt->cm,mul_le_mul->dy,lt_succ_self->dz,le_of_lt->fi,sub_lt_sub_left->fw,lt_irrefl->gy,ne_of_gt->jj,pow_le_pow_right->jm,le_add_right->jq,le_mul_of_pos_right->lq,succ_mul->mo,mul_comm->mq,pow_succ->ot,one_le_iff_ne_zero->qe,mul_add->qf,pow_pos->qg,le_mul_of_pos_left->qh,not_lt_zero->sr,le_succ->ud,mul_right_comm->ur,lt_succ_of_lt->vf,not_lt->vm,mul_assoc->zo,pow_le_pow_left->zu,lt_or_ge->aAk,sub_zero->aAm
open PySem.Heap renaming get?_push_of_some->ah,lt_size->aw,get?_push_size->be,size_push->ip,get?_update_self->kc,get?_update_ne->li,get?_update_other->xx
open Int renaming lt_of_lt_of_le->au,le_trans->bm,mul_nonneg->cj,mul_le_mul_of_nonneg_right->cu,le_refl->cw,add_one_le_of_lt->cx,mul_pos->dk,toNat_natCast->du,pow_succ->ge,mul_le_mul_of_nonneg_left->gf,pow_pos->gh,eq_ofNat_of_zero_le->gi,emod_nonneg->gq,emod_lt_of_pos->gu,one_mul->ib,lt_of_le_of_lt->jh,le_of_lt->jw,lt_trans->jx,natCast_mul->kh,mul_one->ku,pow_nonneg->nc,mul_le_mul->ow,pow_add->qd,mul_assoc->qk,natCast_succ->qo,mul_comm->sq,zero_add->sv,ediv_mul_cancel->sx,toNat_of_nonneg->sy,natCast_nonneg->uo,fdiv_eq_ediv_of_nonneg->uy,pow_zero->wc,natCast_ediv->wu,mul_ediv_mul_of_pos->wx,natCast_dvd_natCast->wy,pow_one->ya,add_nonneg->yj,mul_ediv_add_emod->yl,natAbs_of_nonneg->yt,dvd_trans->zm,zero_mul->aAe,ne_of_gt->aAf,add_zero->aAg,add_mul->aAr
open PySem.F renaming plainAttrs_list->bh,slot_list_append->cz,type_list_append->de,slot_dict_keyiterator_next->jr,slot_list_pop->ki,type_list_pop->kj,slot_tuple_iterator_next->kq,slot_list_extend->ky,type_list_extend->lh,args_tuple_add_2->on,entry_tuple_add->ox,slot_tuple_hash->pi,slot_tuple_add->qc,slot_dict_get->qp,slot_tuple_lt->qr,slot_int_rmul->rq,slot_zip_next->sg,args_dict_keyiterator_next_1->ss,args_tuple_iterator_next_1->tz,entry_tuple_iterator_next->uj,args_tuple_mul_2->ut,entry_tuple_mul->vj,slot_tuple_mul->wm,args_dict_get_3->wv,args_tuple_lt_2->ww,plain_list_iadd->wz,entry_dict_get->xq,entry_tuple_lt->xt,slot_enumerate_next->yf,args_object_init_2->yv,args_tuple_hash_1->zr,entry_tuple_hash->aAh
open Bool renaming false_ne_true->bu,and_eq_true->jf,eq_iff_iff->mf
open Option.some renaming inj->cq
open Sum.inr renaming inj->cy
open PyProof.Rows renaming boot_tuple->dj,callWith_type1->fq,boot_isinstance->gm,slot_tuple_getitem->ji,boot_int->km,boot_min->nj,intBits_le->oy,boot_dict->qi,boot_list->qj,assignInOrder_cons->ue,boot_enumerate->uk,boot_reversed->vb,boot_sorted->wq,get?_update_seq->xj,subscriptTail_builtinR->xw,boot_max->yo,Constant_none->zh,listUpdate_at->zn,lt_int->zp,entry_tuple_getitem->zq,args_tuple_getitem->aAb,seqEpoch_at->aAs
open Array renaming length_toList->ff,perm_iff_toList_perm->je,forIn_toList->jy,getElem?_toList->ke,getElem?_eq_getElem->oj,getD_eq_getD_getElem?->uq,getElem?_eq_none->yb
open PySem.W renaming kia_one->gn,cellsFrom_some->xo,callWith_K->zx
open Option renaming map_eq_some_iff->gz,isSome_map->pd,map_some->rh,isSome_iff_exists->vp
open True renaming intro->ii
open PySem.PassesOwn renaming never->ij
open PySem.Obj renaming data_mapFields->io,isFreed_of_fields->mv,cls_mapFields->vg
open PySem.Heap.SameBut renaming update->ja
open PySem.Paired renaming length->jd,snoc->aAo
open PySem.Calls renaming spliced_cons->mh,spliced_nil->oz,callWith_builtin->pp,Name_function_global->uu,call_function_entry->vo,evalArgs_plain->yr
open Sum.inl renaming inj->ny
open Or renaming inl->oo,inr->vw
open Nat.succ renaming inj->su
open PySem.SeqAt.EqAt renaming int_int->ug,same->xc,int_tuple->yz,str_tuple->za,tuple_int->zc,tuple_str->ze,int_str->zv,str_int->zw,of_refs->aAj
open List.Pairwise renaming nil->ve
open PyProof renaming noPylong_of_log2->vy
open PySem.Around renaming under_plainId->zf
namespace L2
open PySem PySem.Spec PyProof.Rows
def ai:=@if_neg
def ao:=@if_pos
def ap:=@decide_eq_true
def ar:=@of_decide_eq_true
def dq:=@decide_eq_false
def gv:=@congrArg
def ie:=@beq_eq_false_iff_ne
def ph:=@decide_eq_true_eq
def rf:=@beq_iff_eq
def aAl:=@of_decide_eq_false
end L2
namespace L2
open PySem PySem.Spec PyProof.Rows
abbrev Key:=Sum Int Str
def eF:Key->Value->Bool
 |.inl k,v=>Value.isInt k v
 |.inr x,v=>Value.isStrOf x v
def cV9(w:World):Key->Int
 |.inl k=>hashInt k
 |.inr x=>hashStr w x
def aZ:∀{k:Key}{v:Value},eF k v=true->(∃i t,k=Sum.inl i/\v=Value.int i t)\/(∃x t,k=Sum.inr x/\v=Value.str x t)
 |.inl i,v,h=>by
  obtain⟨t,e⟩:=Value.isInt_shape (k:=i) (v:=v) h
  exact .inl ⟨i,t,rfl,e⟩
 |.inr x,v,h=>by
  obtain⟨t,e⟩:=Value.isStrOf_shape (x:=x) (v:=v) h
  exact .inr ⟨x,t,rfl,e⟩
def aT5(i:Int)(t:Tok):eF (.inl i) (.int i t)=true:=by simp[eF,Value.isInt]
def aT4(x:Str)(t:Tok):eF (.inr x) (.str x t)=true:=by simp[eF,Value.isStrOf]
def cH7(a b:Int):decide ((Sum.inl a:Key)=Sum.inl b)=(a==b):=by
 by_cases e:a=b
 ·subst e;simp
 ·have h:¬(Sum.inl a:Key)=Sum.inl b:=fun q=>e (ny q)
  rw[dq h]
  exact(ie.mpr e).symm
def bX8(a b:Str):decide ((Sum.inr a:Key)=Sum.inr b)=decide (a=b):=by
 by_cases e:a=b
 ·subst e;simp
 ·have h:¬(Sum.inr a:Key)=Sum.inr b:=fun q=>e (cy q)
  rw[dq h,dq e]
def cC0(a:Int)(b:Str):decide ((Sum.inl a:Key)=Sum.inr b)=false:=dq (fun q=>nomatch q)
def cG2(a:Str)(b:Int):decide ((Sum.inr a:Key)=Sum.inl b)=false:=dq (fun q=>nomatch q)
def bG(prog:Program)(w:World):PySem.KeyKind prog w Key where
 is:=eF
 hash:=cV9 w
 inj:=fun v a b ha hb=>by
  rcases aZ ha with⟨i,t,rfl,rfl⟩|⟨x,t,rfl,rfl⟩
  ·rcases aZ hb with⟨j,u,rfl,e⟩|⟨y,u,rfl,e⟩
   ·injection e with e1 _;rw[e1]
   ·exact nomatch e
  ·rcases aZ hb with⟨j,u,rfl,e⟩|⟨y,u,rfl,e⟩
   ·exact nomatch e
   ·injection e with e1 _;rw[e1]
 byValue:=fun k v h=>by
  rcases aZ h with⟨i,t,rfl,rfl⟩|⟨x,t,rfl,rfl⟩<;>rfl
 pyHash:=fun hv h=>by
  rcases aZ hv with⟨i,t,rfl,rfl⟩|⟨x,t,rfl,rfl⟩
  ·exact wpAny_pyHash_int h
  ·exact wpAny_pyHash_str h
 eqBool:=fun hu hv h=>by
  rcases aZ hu with⟨i,t,rfl,rfl⟩|⟨x,t,rfl,rfl⟩
  ·rcases aZ hv with⟨j,u,rfl,rfl⟩|⟨y,u,rfl,rfl⟩
   ·rw[cH7] at h;exact wpAny_eqBool_int h
   ·rw[cC0] at h;exact zv i t y u _ _ _ _ h
  ·rcases aZ hv with⟨j,u,rfl,rfl⟩|⟨y,u,rfl,rfl⟩
   ·rw[cG2] at h;exact zw x t j u _ _ _ _ h
   ·rw[bX8] at h;exact wpAny_eqBool_str h
 «strs» :=fun k x t v h=>by
  rcases aZ h with⟨i,u,rfl,e⟩|⟨y,u,rfl,e⟩
  ·exact nomatch e
  ·injection e with e1 _
   subst e1
   cases v<;>rfl
def aE1(prog:Program)(w:World)(i:Int)(t:Tok):(bG prog w).is (.inl i) (.int i t)=true:=aT5 i t
def aD2(prog:Program)(w:World)(x:Str)(t:Tok):(bG prog w).is (.inr x) (.str x t)=true:=aT4 x t
inductive V where
 |non|bl (b:Bool)|int (i:Int)|str (x:Str)|byt (b:Array UInt8)|flt (b:UInt64)|ref (a:Addr)|ty (n:String)
 deriving DecidableEq
def bF:V->Value->Prop
 |.non,u=>u=Value.none
 |.bl b,u=>u=Value.bool b
 |.int i,u=>∃t,u=Value.int i t
 |.str x,u=>∃t,u=Value.str x t
 |.byt b,u=>∃t,u=Value.bytes b t
 |.flt b,u=>∃t,u=Value.float b t
 |.ref a,u=>u=Value.ref a
 |.ty n,u=>u=Value.type n
abbrev bC:List V->List Value->Prop:=Paired bF
def bC.length{xs:List V}{us:List Value}(r:bC xs us):xs.length=us.length:=jd r
def bC.get:∀{xs:List V}{us:List Value}{i:Nat}{x:V},bC xs us->xs[i]?=some x->∃u,us[i]?=some u/\bF x u
 |_,_,_,_,.nil,e=>by simp at e
 |_,_,0,_,.cons r _,e=>by simp at e;subst e;exact⟨_,rfl,r⟩
 |_,_,i+1,x,.cons _ t,e=>by
  obtain⟨u,h1,h2⟩:=bC.get (i:=i) (x:=x) t (by simpa using e)
  exact⟨u,by simpa using h1,h2⟩
def bC.set{x:V}{u:Value}(r:bF x u):∀{xs:List V}{us:List Value}(i:Nat),bC xs us->bC (xs.set i x) (us.set i u)
 |_,_,_,.nil=> .nil
 |_,_,0,.cons _ t=> .cons r t
 |_,_,i+1,.cons q t=> .cons q (bC.set r i t)
def bC.append:∀{xs ys:List V}{us ws:List Value},bC xs us->bC ys ws->bC (xs++ys) (us++ws)
 |_,_,_,_,.nil,s=>s
 |_,_,_,_,.cons r t,s=> .cons r (bC.append t s)
def bC.take:∀{xs:List V}{us:List Value}(n:Nat),bC xs us->bC (xs.take n) (us.take n)
 |_,_,0,_=> .nil
 |_,_,_+1,.nil=> .nil
 |_,_,n+1,.cons r t=> .cons r (bC.take n t)
def bC.drop:∀{xs:List V}{us:List Value}(n:Nat),bC xs us->bC (xs.drop n) (us.drop n)
 |_,_,0,r=>r
 |_,_,_+1,.nil=> .nil
 |_,_,n+1,.cons _ t=>bC.drop n t
def kQ:Option V->Option Value->Prop
 |some v,some u=>bF v u
 |none,none=>True
 |_,_=>False
def KV{κ:Type}:List (κ×V)->List (κ×Value)->Prop:=Paired fun(p:κ×V) (q:κ×Value)=>p.1=q.1/\bF p.2 q.2
def kV:Key->V
 |.inl i=> .int i
 |.inr x=> .str x
inductive HO where
 |lst (xs:List V)
 |tup (xs:List V)
 |dK (kvs:List (Key×V))|dT (kvs:List (List Key×V))
 |set (S:Int->Bool) (n:Nat)
 |ins (C dx:Addr) (fs:List (Str×V))
 |own (x:Addr)
 |xd (fs:List (Str×V))
 |met (f x:Addr)
 |rng (lo hi:Int)
 |frz (o:Obj) (u:HO)
 |tbl (ps:Array Value)
 |ext (φ:Heap->Prop)
abbrev Hp:=Addr->Option HO
def aN(H:Hp)(a:Addr)(o:HO):Hp:=fun b=>if b=a then some o else H b
def aD{H:Hp}{a:Addr}{o:HO}:aN H a o a=some o:=by unfold aN;rw[ao rfl]
def aH{H:Hp}{a b:Addr}{o:HO}(h:b≠a):aN H a o b=H b:=by unfold aN;rw[ai h]
def rH{H:Hp}{a:Addr}{o u:HO}:aN (aN H a o) a u=aN H a u:=by
 funext b;unfold aN;split<;>rfl
def gE{H:Hp}{a b:Addr}{o u:HO}(h:H a=some o)(h':H b=some u)(d:o≠u):a≠b:=by
 intro e;subst e;rw[h] at h';exact d (cq h')
def aM{H:Hp}{a b:Addr}{o:HO}(h:H a=some o)(h':H b=none):a≠b:=by
 intro e;subst e;rw[h] at h';cases h'
def kF(h:Heap)(a:Addr)(its:Array Value):Prop:=∃o,h.get? a=some o/\o.cls= .type "tuple"/\∃n,o.data= .seq its n/\o.dict=none
def kF.is{h:Heap}{a:Addr}{its:Array Value}(x:kF h a its):IsTup h a its:=let⟨o,e,c,n,d,_⟩:=x;⟨o,e,c,n,d⟩
def kF.new(h:Heap)(its:Array Value):kF (h.push { cls:= .type "tuple",data:= .seq its }) h.objs.size its:=⟨_,be _ rfl,rfl,_,rfl,rfl⟩
section
variable (P:Program) (w:World)
def bZ(H:Hp)(h:Heap)(a:Addr):HO->Prop
 |.lst xs=>xs.length<=sizeLine/\∃(its:List Value) (n:Nat),bC xs its/\h.get? a=some { cls:= .type "list",data:= .seq its.toArray n }
 |.tup xs=>xs.length<=sizeLine/\∃its:List Value,bC xs its/\kF h a its.toArray
 |.dK kvs=>kvs.length<=sizeLine/\(a==sysModules)=false/\∃vs,KV kvs vs/\h.DictOf (bG P w) a vs
 |.dT kvs=>kvs.length<=sizeLine/\(a==sysModules)=false/\∃xs:List (List Key×Addr×Value),
   Paired (fun(p:List Key×V) (q:List Key×Addr×Value)=>p.1=q.1/\H q.2.1=some (.tup (p.1.map kV))/\bF p.2 q.2.2) kvs xs /\
   ∃o es ep,h.get? a=some o/\o.ExactDict/\o.data= .dict es ep/\es.toList=xs.map (entryOfKey (tupleKind (bG P w)))/\(xs.map (·.1)).Nodup
 |.set S n=>h.SetOf (intKind P w) a S n
 |.ins C dx fs=>H dx=some (.own a)/\fs.length<=1000/\dx≠a/\h.get? a=some (PySem.W.instObj C dx) /\
   ∃mA,h.Ns1 dx mA/\(∀f,kQ (fs.lookup f) (mA f))/\PySem.Within mA (fs.map (·.1))
 |.own _=>∃o,h.get? a=some o
 |.xd fs=>∃mA,h.Ns1 a mA/\∀f,kQ (fs.lookup f) (mA f)
 |.rng lo hi=>∃t u v,h.get? a=some { cls:= .type "range",data:= .fields #[.int lo t,.int hi u,.int 1 v] }
 |.frz o u=>h.get? a=some o/\bZ H h a u
 |.tbl ps=>h.get? a=some { cls:= .none,data:= .fields ps }
 |.met f x=>h.get? a=some (PySem.W.methodObj (.ref f) (.ref x))
 |.ext φ=>φ h/\(∃o,h.get? a=some o)/\∀h1 h2:Heap,φ h1->(∀o,h1.get? a=some o->h2.get? a=some o)->φ h2
def kL(H:Hp)(h:Heap):Prop:=∀a o,H a=some o->bZ P w H h a o
end
section
variable {P:Program}{w:World}{H H':Hp}{h h':Heap}{a:Addr}{o:HO}
def bZ.lt(x:bZ P w H h a o):a<h.objs.size:=by
 cases o with
 |lst xs=>obtain⟨_,_,_,_,e⟩:=x;exact aw e
 |tup xs=>obtain⟨_,_,_,p⟩:=x;exact p.is.lt
 |dK kvs=>obtain⟨_,_,_,_,o,_,_,e,_⟩:=x;exact aw e
 |dT kvs=>obtain⟨_,_,_,_,o,_,_,e,_⟩:=x;exact aw e
 |set S n=>obtain⟨o,_,_,_,e,_⟩:=x;exact aw e
 |ins C dx fs=>obtain⟨_,_,_,e,_⟩:=x;exact aw e
 |own y=>obtain⟨_,e⟩:=x;exact aw e
 |xd fs=>obtain⟨_,⟨_,_,_,e,_⟩,_⟩:=x;exact aw e
 |rng lo hi=>obtain⟨_,_,_,e⟩:=x;exact aw e
 |frz ob u=>obtain⟨e,_⟩:=x;exact aw e
 |tbl ps=>exact aw (show h.get? a=some _ from x)
 |met f y=>exact aw (show h.get? a=some _ from x)
 |ext φ=>obtain⟨_,⟨_,e⟩,_⟩:=x;exact aw e
def Paired.mapP{α β:Type}{F G:α->β->Prop}:∀{l₁:List α}{l₂:List β},Paired F l₁ l₂->(∀a b,F a b->G a b)->Paired G l₁ l₂
 |_,_,.nil,_=> .nil
 |_,_,.cons r t,f=> .cons (f _ _ r) (Paired.mapP t f)
def bZ.stay(x:bZ P w H h a o)(k:∀b u,(b=a\/H b=some (.own a))->h.get? b=some u->h'.get? b=some u)
  (ho:∀b,H b=some (.own a)->H' b=some (.own a)) (ht:∀b xs,H b=some (.tup xs)->H' b=some (.tup xs)):bZ P w H' h' a o:=by
 induction o with
 |lst xs=>obtain⟨z,its,n,r,e⟩:=x;exact⟨z,its,n,r,k _ _ (.inl rfl) e⟩
 |tup xs=>obtain⟨z,its,r,ob,e,c⟩:=x;exact⟨z,its,r,ob,k _ _ (.inl rfl) e,c⟩
 |dK kvs=>obtain⟨z,y,vs,r,ob,es,ep,e,c⟩:=x;exact⟨z,y,vs,r,ob,es,ep,k _ _ (.inl rfl) e,c⟩
 |dT kvs =>
  obtain⟨z,y,xs,r,ob,es,ep,e,c⟩:=x
  exact⟨z,y,xs,Paired.mapP r fun p q z=>⟨z.1,ht _ _ z.2.1,z.2.2⟩,ob,es,ep,k _ _ (.inl rfl) e,c⟩
 |set S n=>obtain⟨ob,es,ep,t,e,c⟩:=x;exact⟨ob,es,ep,t,k _ _ (.inl rfl) e,c⟩
 |ins C dx fs =>
  obtain⟨d,z,ne,e,mA,⟨od,es,ep,e2,c⟩,r⟩:=x
  exact⟨ho _ d,z,ne,k _ _ (.inl rfl) e,mA,⟨od,es,ep,k _ _ (.inr d) e2,c⟩,r⟩
 |own y=>obtain⟨ob,e⟩:=x;exact⟨ob,k _ _ (.inl rfl) e⟩
 |xd fs=>obtain⟨mA,⟨od,es,ep,e,c⟩,r⟩:=x;exact⟨mA,⟨od,es,ep,k _ _ (.inl rfl) e,c⟩,r⟩
 |rng lo hi=>obtain⟨t,u,v,e⟩:=x;exact⟨t,u,v,k _ _ (.inl rfl) e⟩
 |frz ob u ih=>obtain⟨e,q⟩:=x;exact⟨k _ _ (.inl rfl) e,ih q⟩
 |tbl ps =>
  have e:h.get? a=some { cls:= .none,data:= .fields ps }:=x
  show h'.get? a=some { cls:= .none,data:= .fields ps }
  exact k a _ (.inl rfl) e
 |met f y =>
  have e:h.get? a=some (PySem.W.methodObj (.ref f) (.ref y)):=x
  show h'.get? a=some (PySem.W.methodObj (.ref f) (.ref y))
  exact k a _ (.inl rfl) e
 |ext φ=>obtain⟨p,⟨o,e⟩,st⟩:=x;exact⟨st _ _ p fun o q=>k _ _ (.inl rfl) q,⟨o,k _ _ (.inl rfl) e⟩,st⟩
def kL.lt(x:kL P w H h)(e:H a=some o):a<h.objs.size:=(x a o e).lt
def kL.fresh(x:kL P w H h)(e:h.objs.size<=a):H a=none:=by
 cases q:H a with
 |none=>rfl
 |some u=>exact absurd (bn (x.lt q) e) (gy _)
def kL.kept(x:kL P w H h)(k:∀b u,h.get? b=some u->h'.get? b=some u):kL P w H h':=fun a o e =>
 (x a o e).stay (fun b u _ q=>k b u q) (fun _ q=>q) fun _ _ q=>q
def kL.laid(x:kL P w H h)(k:∀b u,h.get? b=some u->h'.get? b=some u)(hp:h.objs.size<=a)(new:bZ P w (aN H a o) h' a o):kL P w (aN H a o) h':=fun b u e=>by
 have hn:=x.fresh hp
 by_cases hb:b=a
 ·subst hb;rw[aD] at e;cases e;exact new
 ·rw[aH hb] at e
  exact(x b u e).stay (fun c v _ q=>k c v q) (fun c q=>by rw[aH (aM q hn)];exact q) fun c xs q=>by rw[aH (aM q hn)];exact q
end
def Rd(H:Hp)(a:Addr)(u:HO):Prop:=H a=some u\/∃o,H a=some (.frz o u)
def Rd.ok{P:Program}{w:World}{H:Hp}{h:Heap}{a:Addr}{u:HO}(r:Rd H a u)(x:kL P w H h):bZ P w H h a u:=by
 rcases r with r|⟨o,r⟩
 ·exact x a u r
 ·obtain⟨_,q⟩:=x a _ r
  exact q
def Mut:Option HO->Prop
 |some (.lst _)=>True
 |some (.dK _)=>True
 |some (.dT _)=>True
 |some (.set _ _)=>True
 |some (.ins _ _ _)=>True
 |some (.ext _)=>True
 |_=>False
section
variable {P:Program}{w:World}{H:Hp}{h h':Heap}{x e:Addr}{o':HO}
def kL.write(ok:kL P w H h)(mu:Mut (H x))(he:e=x\/H e=some (.own x))(k:∀b u,b≠e->h.get? b=some u->h'.get? b=some u)(heo:∃u,h'.get? e=some u)
  (new:bZ P w (aN H x o') h' x o'):kL P w (aN H x o') h':=fun b u q=>by
 have nown:∀c y,H c=some (.own y)->c≠x:=fun c y r z=>by subst z;rw[r] at mu;exact mu
 have ntup:∀c xs,H c=some (.tup xs)->c≠x:=fun c xs r z=>by subst z;rw[r] at mu;exact mu
 by_cases hb:b=x
 ·subst hb;rw[aD] at q;cases q;exact new
 ·rw[aH hb] at q
  by_cases hbe:b=e
  ·have q':H b=some (.own x):=by
    rcases he with z|z
    ·exact absurd (hbe.trans z) hb
    ·rw[hbe];exact z
   rw[q] at q';cases q'
   obtain⟨v,hv⟩:=heo
   exact⟨v,by rw[hbe];exact hv⟩
  ·refine(ok b u q).stay (fun c v hc r=>k c v ?_ r) (fun c r=>by rw[aH (nown c b r)];exact r) fun c xs r=>by rw[aH (ntup c xs r)];exact r
   rcases hc with rfl|hc
   ·exact hbe
   ·rintro rfl
    rcases he with z|z
    ·exact nown c b hc z
    ·rw[hc] at z;cases z;exact hb rfl
end
structure Un(fs ex:List Addr)(H H':Hp)(h h':Heap):Prop where
 keep:∀b o,h.get? b=some o->H b=none->b∉fs->b∉ex->h'.get? b=some o
 slot:∀b o,h.get? b=some o->H b=none->b∈fs->b∉ex->∃sl,h'.get? b=some { o with slots:=sl }
 free:∀b o,h.get? b=some o->H b=none->b∉ex->H' b=none
 there:∀b o,h.get? b=some o->b∉ex->∃o',h'.get? b=some o'
 tups:∀b xs,H b=some (.tup xs)->H' b=some (.tup xs)
 frzs:∀b o u,H b=some (.frz o u)->H' b=some (.frz o u)
 tbls:∀b ps,H b=some (.tbl ps)->∃more,H' b=some (.tbl (ps++more))
section
variable {fs fs' ex ex':List Addr}{H H1 H2:Hp}{h h1 h2 h':Heap}{a x e:Addr}{o:HO}
def Un.any(u:Un fs ex H H1 h h1){b:Addr}{ob:Obj}(q:h.get? b=some ob)(n:H b=none)(hx:b∉ex):∃sl,h1.get? b=some { ob with slots:=sl }:=by
 by_cases hb:b∈fs
 ·exact u.slot b ob q n hb hx
 ·exact⟨ob.slots,u.keep b ob q n hb hx⟩
def Un.kept(k:∀b u,h.get? b=some u->h'.get? b=some u):Un fs ex H H h h':=
 ⟨fun b ob q _ _ _=>k b ob q,fun b ob q _ _ _=>⟨ob.slots,k b ob q⟩,fun _ _ _ n _=>n,fun b ob q _=>⟨ob,k b ob q⟩,fun _ _ q=>q,fun _ _ _ q=>q,fun _ ps q=>⟨#[],by rw[q];simp⟩⟩
def Un.refl:Un fs ex H H h h:=Un.kept fun _ _ q=>q
def Un.laid(k:∀b u,h.get? b=some u->h'.get? b=some u)(hp:h.objs.size<=a)(hn:H a=none):Un fs ex H (aN H a o) h h' where
 keep:=fun b u q _ _ _=>k b u q
 slot:=fun b u q _ _ _=>⟨u.slots,k b u q⟩
 free:=fun b u q n _=>by rw[aH (bv (bn (aw q) hp))];exact n
 there:=fun b u q _=>⟨u,k b u q⟩
 tups:=fun b xs q=>by rw[aH (aM q hn)];exact q
 frzs:=fun b u xs q=>by rw[aH (aM q hn)];exact q
 tbls:=fun b ps q=>⟨#[],by rw[aH (aM q hn),q];simp⟩
def Un.write(mu:Mut (H x))(he:e=x\/H e=some (.own x))(k:∀b u,b≠e->h.get? b=some u->h'.get? b=some u)(heo:∃u,h'.get? e=some u):Un fs ex H (aN H x o) h h':=by
 have hx:∀b,H b=none->b≠x:=fun b n z=>by subst z;rw[n] at mu;exact mu
 have hb:∀b,H b=none->b≠e:=fun b n z=>by
  subst z
  rcases he with r|r
  ·exact hx b n r
  ·rw[n] at r;cases r
 have hm:∀b u,H b=some u->¬Mut (some u)->b≠x:=fun b u q nm z=>by subst z;rw[q] at mu;exact nm mu
 refine⟨fun b u q n _ _=>k b u (hb b n) q,fun b u q n _ _=>⟨u.slots,k b u (hb b n) q⟩,fun b u q n _=>by rw[aH (hx b n)];exact n,fun b u q _=>?_,
  fun b xs q=>by rw[aH (hm b _ q fun z=>z)];exact q,fun b u xs q=>by rw[aH (hm b _ q fun z=>z)];exact q,fun b ps q=>⟨#[],by rw[aH (hm b _ q fun z=>z),q];simp⟩⟩
 by_cases hbe:b=e
 ·subst hbe;exact heo
 ·exact⟨u,k b u hbe q⟩
end
def trk(h:Heap)(H:Hp):List Addr:=(List.range h.objs.size).filter fun a=>(H a).isSome
def yT(h:Heap)(H:Hp):Heap:=PySem.W.hideAll h (trk h H)
def aV3(h:Heap)(H:Hp):(yT h H).objs.size=h.objs.size:=PySem.W.hideAll_size _ _
def bF4{h:Heap}{H:Hp}{b:Addr}{o:Obj}(e:h.get? b=some o)(n:H b=none):(yT h H).get? b=some o:=
 PySem.W.hideAll_get _ e fun hm=>by
  have q:(H b).isSome=true:=(dr.mp hm).2
  rw[n] at q;simp at q
def bS1{h:Heap}{H:Hp}{b:Addr}{o:Obj}(e:(yT h H).get? b=some o):h.get? b=some o/\H b=none:=by
 have e':h.get? b=some o:=PySem.W.of_hideAll (trk h H) e
 refine⟨e',?_⟩
 cases q:H b with
 |none=>rfl
 |some x =>
  have hm:b∈trk h H:=dr.mpr ⟨yc.mpr (aw e'),by simp[q]⟩
  have z:(yT h H).get? b=none:=PySem.W.hideAll_none (trk h H) hm
  rw[z] at e;cases e
def bS6(g h:Heap)(L:Addr):List (Addr×Obj):=(List.range h.objs.size).filterMap fun a=>if a=L\/(g.get? a).isSome=true then none else (h.get? a).map fun o=>(a,o)
def rest(g h:Heap)(L d:Addr):List (Addr×Obj):=(bS6 g h L).filter fun p=>decide (p.1≠d)
structure Mod(K:PySem.W.Frag)(mg:Str->Option Value)(base:Heap):Prop where
 kin:K.In base
 glob:base.Ns mainGlobals mg
 blt:∃mb,base.Ns builtinsNs mb/\∀x:Str,x≠"__name__"->mb x=bootBuiltins x
 nolimit:base.NoLimit
structure Cx where
 prog:Program
 w:World
 K:PySem.W.Frag
 mg:Str->Option Value
 base:Heap
 A:Around
 N:List Str
 s₀:Shared
 H₀:Hp
 env:Env
 outer:List Env
 stack:List Env
 ex:List Addr
 fn:Str->Bool
 calm:Bool
 pn:List (Addr×Obj)
 xe:Value->Shared->Prop
def frs(l:List Env):List Addr:=l.filterMap (·.frame)
abbrev Cx.fs(X:Cx):List Addr:=frs X.outer
def Vis(sc:Scope)(x:Str):Prop:=sc.names.lookup x=some .local\/sc.names.lookup x=some .cell\/sc.names.lookup x=some .free
def Loc(sc:Scope)(x:Str):Prop:=sc.names.lookup x=some .local\/sc.names.lookup x=some .cell
def cY1(env:Env)(h:Heap)(m:Str->Option Value)(x:Str)(u:Value):Prop:=
 (env.kindOf x=some .local/\m x=some u)\/((env.kindOf x=some .cell\/env.kindOf x=some .free)/\∃c,env.cells.lookup x=some c/\h.IsCell c (some u))
structure Cx.Ok(X:Cx):Prop where
 mod:Mod X.K X.mg X.base
 kind:X.env.scope.kind= .function
 glob:X.env.globals=mainGlobals
 blt:X.env.builtins=builtinsNs
 above:X.s₀.heap.objs.size<=X.env.locals
 inj:∀x y c,X.env.cells.lookup x=some c->X.env.cells.lookup y=some c->x=y
 has:∀x,(X.env.kindOf x=some .cell\/X.env.kindOf x=some .free)->∃c,X.env.cells.lookup x=some c
 cab:∀x c,X.fn x=true->X.env.cells.lookup x=some c->X.s₀.heap.objs.size<=c
 hd:X.calm=true->X.A.handled=none
 frames:X.A.frames=some X.stack
 stk:X.stack=X.outer\/(X.stack=X.env::X.outer/\X.env.frame=some X.env.locals)
 exf:∀b∈X.ex,b≠X.env.locals/\∀x c,X.env.cells.lookup x=some c->c≠b
 bs:∀b o,X.base.get? b=some o->X.s₀.heap.get? b=some o/\X.H₀ b=none
 bsz:X.base.objs.size<=X.s₀.heap.objs.size
 noex:∀b o,X.base.get? b=some o->b∉X.ex
 exfs:∀b∈X.ex,b∉X.fs
 funs:X.s₀.heap.FunFrames X.base X.outer
 frf:∀b∈X.fs,X.H₀ b=none
structure aV(X:Cx)(pins:List (Addr×Obj))(σ:List (Option V))(H:Hp)(s:Shared):Prop where
 ok:X.Ok
 os:s.os=X.s₀.os
 bare:AllBare s.gens
 base:Un X.fs X.ex X.H₀ H X.s₀.heap s.heap
 loc:∃m,s.heap.Ns X.env.locals m/\∀(i:Nat) (x:Str) (v:V),X.N[i]?=some x->σ[i]?=some (some v)->Vis X.env.scope x->∃u,bF v u/\cY1 X.env s.heap m x u
 cell:∀x c,X.env.cells.lookup x=some c->∃v,s.heap.IsCell c v
 free:H X.env.locals=none
 freeC:∀x c,X.env.cells.lookup x=some c->H c=none
 pin:∀p∈X.pn++pins,s.heap.get? p.1=some p.2/\H p.1=none/\p.1≠X.env.locals/\p.1∉X.fs/\∀v,p.2.data≠ .cell v
 hok:kL X.prog X.w H s.heap
 len:σ.length=X.N.length
section
variable {X:Cx}{pins:List (Addr×Obj)}{σ:List (Option V)}{H H':Hp}{s:Shared}{h':Heap}
def Cx.Ok.nofr(ok:X.Ok){b:Addr}{o:Obj}(e:X.base.get? b=some o):b∉X.fs:=fun hb=>by
 have:=(ok.funs.mem hb).1
 rw[e] at this;cases this
def aV.bs(I:aV X pins σ H s):∀b o,X.base.get? b=some o->s.heap.get? b=some o/\H b=none:=fun b o e =>
 ⟨I.base.keep b o (I.ok.bs b o e).1 (I.ok.bs b o e).2 (I.ok.nofr e) (I.ok.noex b o e),I.base.free b o (I.ok.bs b o e).1 (I.ok.bs b o e).2 (I.ok.noex b o e)⟩
def aV.bk(I:aV X pins σ H s):∀b o,X.base.get? b=some o->s.heap.get? b=some o:=fun b o e=>(I.bs b o e).1
def aV.mod(I:aV X pins σ H s):Mod X.K X.mg X.base:=I.ok.mod
def aV.kIn(I:aV X pins σ H s):X.K.In s.heap:=I.ok.mod.kin.keeps I.bk
def aV.lt(I:aV X pins σ H s):X.env.locals<s.heap.objs.size:=let⟨_,hn,_⟩:=I.loc;hn.lt
def aV.sz(I:aV X pins σ H s):X.s₀.heap.objs.size<=s.heap.objs.size:=ay I.ok.above (fi I.lt)
def aV.nofs(I:aV X pins σ H s){a:Addr}(h:s.heap.objs.size<=a):a∉X.fs:=fun hb=>by
 obtain⟨_,o,ho,_⟩:=I.ok.funs.mem hb
 exact absurd (bn (aw ho) (ay I.sz h)) (gy _)
def aV.cne(I:aV X pins σ H s):∀x c,X.env.cells.lookup x=some c->c≠X.env.locals:=fun x c e z=>by
 obtain⟨v,o,ho,hd⟩:=I.cell x c e
 obtain⟨m,⟨o',es,ep,ho',hd',_⟩,_⟩:=I.loc
 rw[z,ho'] at ho;cases ho;rw[hd'] at hd;cases hd
def aV.funs(I:aV X pins σ H s):s.heap.FunFrames X.base X.outer:=by
 have all:∀(l:List Env),(∀b∈frs l,b∈X.fs)->X.s₀.heap.FunFrames X.base l->s.heap.FunFrames X.base l:=by
  intro l
  induction l with
  |nil=>intro _ _;trivial
  |cons env r ih =>
   intro hs hl
   obtain⟨hk,⟨L,o,hf,hn,ho,hd⟩,hr⟩:=hl
   have hL:L∈X.fs:=hs L (by unfold frs;rw[sw,hf];exact aj)
   obtain⟨sl,e⟩:=I.base.slot L o ho (I.ok.frf L hL) hL fun z=>I.ok.exfs L z hL
   exact⟨hk,⟨L,_,hf,hn,e,hd⟩,ih (fun b hb=>hs b (by unfold frs;rw[sw,hf];exact ae _ hb)) hr⟩
 exact all X.outer (fun _ hb=>hb) I.ok.funs
def aV.stack(I:aV X pins σ H s):s.heap.FunFrames X.base X.stack:=by
 rcases I.ok.stk with e|⟨e,hf⟩
 ·rw[e];exact I.funs
 ·rw[e]
  obtain⟨m,hn,_⟩:=I.loc
  refine .cons (by rw[I.ok.kind];decide) hf hn ?_ I.funs
  exact Heap.get?_none_of_le (ay I.ok.bsz I.ok.above)
def aV.stkSub(I:aV X pins σ H s):∀b∈frs X.stack,b∈X.env.locals::X.fs:=fun b hb=>by
 rcases I.ok.stk with e|⟨e,hf⟩
 ·rw[e] at hb;exact ae _ hb
 ·rw[e] at hb
  unfold frs at hb
  rw[sw,hf] at hb
  exact hb
def aV.stkFree(I:aV X pins σ H s):∀b∈frs X.stack,H b=none:=fun b hb=>by
 rcases az.mp (I.stkSub b hb) with e|hb
 ·rw[e];exact I.free
 ·obtain⟨_,o,ho,_⟩:=I.ok.funs.mem hb
  exact I.base.free b o ho (I.ok.frf b hb) fun z=>I.ok.exfs b z hb
def aV.step{g':Array GenState}{t':Nat}{d':Drawn}{ch:List Addr}(I:aV X pins σ H s)
  (hch:∀b∈ch,(b∈X.ex\/X.s₀.heap.objs.size<=b)/\b≠X.env.locals/\(∀x c,X.env.cells.lookup x=some c->c≠b)/\∀p∈X.pn++pins,p.1≠b)
  (keep:∀b o,b≠X.env.locals->b∉X.fs->b∉ch->s.heap.get? b=some o->H b=none->h'.get? b=some o)
  (slot:∀b o,b≠X.env.locals->b∈X.fs->b∉ch->s.heap.get? b=some o->H b=none->∃sl,h'.get? b=some { o with slots:=sl }) (free:∀b o,b∉ch->s.heap.get? b=some o->H b=none->H' b=none)
  (there:∀b o,b∉ch->s.heap.get? b=some o->∃o',h'.get? b=some o')
  (tups:∀b xs,H b=some (.tup xs)->H' b=some (.tup xs)) (frzs:∀b o u,H b=some (.frz o u)->H' b=some (.frz o u)) (tbls:∀b ps,H b=some (.tbl ps)->∃more,H' b=some (.tbl (ps++more)))
  (ns:∀m,s.heap.Ns X.env.locals m->h'.Ns X.env.locals m) (hok:kL X.prog X.w H' h') (hg:AllBare g') :
  aV X pins σ H' { s with heap:=h',gens:=g',drawn:=d',toks:=t' }:=by
 have neL:∀b o,X.s₀.heap.get? b=some o->b≠X.env.locals:=fun b o e=>bv (bn (aw e) I.ok.above)
 have neC:∀b o,X.s₀.heap.get? b=some o->b∉X.ex->b∉ch:=fun b o e hx hb=>by
  rcases(hch b hb).1 with z|z
  ·exact hx z
  ·exact absurd (bn (aw e) z) (gy _)
 have cellK:∀x c,X.env.cells.lookup x=some c->∀v,s.heap.IsCell c v->h'.IsCell c v:=fun x c e v ⟨o,ho,hd⟩=>by
  have nch:c∉ch:=fun z=>(hch c z).2.2.1 x c e rfl
  by_cases hc:c∈X.fs
  ·obtain⟨sl,q⟩:=slot c o (I.cne x c e) hc nch ho (I.freeC x c e)
   exact⟨_,q,hd⟩
  ·exact⟨o,keep c o (I.cne x c e) hc nch ho (I.freeC x c e),hd⟩
 refine⟨I.ok,I.os,hg,⟨fun b o e n hb hx=>?_,fun b o e n hb hx=>?_,fun b o e n hx=>?_,fun b o e hx=>?_,fun b xs e=>tups b xs (I.base.tups b xs e),fun b o xs e=>frzs b o xs (I.base.frzs b o xs e),fun b ps e=>?_⟩,?_,fun x c e=>?_,?_,fun x c e=>?_,fun p hp=>?_,hok,I.len⟩
 ·exact keep b o (neL b o e) hb (neC b o e hx) (I.base.keep b o e n hb hx) (I.base.free b o e n hx)
 ·obtain⟨sl,e1⟩:=I.base.slot b o e n hb hx
  obtain⟨sl',e2⟩:=slot b _ (neL b o e) hb (neC b o e hx) e1 (I.base.free b o e n hx)
  exact⟨sl',e2⟩
 ·obtain⟨o',e1⟩:=I.base.there b o e hx
  exact free b o' (neC b o e hx) e1 (I.base.free b o e n hx)
 ·obtain⟨o',e1⟩:=I.base.there b o e hx
  exact there b o' (neC b o e hx) e1
 ·obtain⟨m1,e1⟩:=I.base.tbls b ps e
  obtain⟨m2,e2⟩:=tbls b _ e1
  exact⟨m1++m2,by rw[e2,Array.append_assoc]⟩
 ·obtain⟨m,hn,hl⟩:=I.loc
  refine⟨m,ns m hn,fun i x v e1 e2 e3=>?_⟩
  obtain⟨u,r,l⟩:=hl i x v e1 e2 e3
  refine⟨u,r,?_⟩
  rcases l with l|⟨k,c,e,z⟩
  ·exact .inl l
  ·exact .inr ⟨k,c,e,cellK x c e _ z⟩
 ·obtain⟨v,z⟩:=I.cell x c e
  exact⟨v,cellK x c e v z⟩
 ·obtain⟨m,⟨o,_,_,ho,_⟩,_⟩:=I.loc
  exact free _ o (fun z=>(hch _ z).2.1 rfl) ho I.free
 ·obtain⟨v,o,ho,hd⟩:=I.cell x c e
  exact free c o (fun z=>(hch c z).2.2.1 x c e rfl) ho (I.freeC x c e)
 ·obtain⟨e,n,ne,nf,d⟩:=I.pin p hp
  have nch:p.1∉ch:=fun z=>(hch p.1 z).2.2.2 p hp rfl
  exact⟨keep p.1 p.2 ne nf nch e n,free p.1 p.2 nch e n,ne,nf,d⟩
def aV.un{t':Nat}(I:aV X pins σ H s)(u:Un X.fs [] H H' s.heap h')(hok:kL X.prog X.w H' h'):aV X pins σ H' { s with heap:=h',toks:=t' }:=by
 obtain⟨m,⟨o,es,ep,ho,r⟩,_⟩:=id I.loc
 obtain⟨sl,hL⟩:=u.any ho I.free (by simp)
 exact I.step (g':=s.gens) (d':=s.drawn) (ch:=[]) (fun _ z=>nomatch z) (fun b o _ hb _ e n=>u.keep b o e n hb (by simp)) (fun b o _ hb _ e n=>u.slot b o e n hb (by simp)) (fun b o _ e n=>u.free b o e n (by simp)) (fun b o _ e=>u.there b o e (by simp)) u.tups u.frzs u.tbls (fun m' hm=>by
  obtain⟨o',es',ep',ho',r'⟩:=hm
  rw[ho] at ho';cases ho'
  exact⟨_,es',ep',hL,r'⟩) hok I.bare
def aV.call{g':Array GenState}{t':Nat}{d':Drawn}{ch:List Addr}(I:aV X pins σ H s)(u:Un (frs X.stack) ch H H' s.heap h')(hok:kL X.prog X.w H' h')(hg:AllBare g')
  (hch:∀b∈ch,(b∈X.ex\/X.s₀.heap.objs.size<=b)/\b≠X.env.locals/\(∀x c,X.env.cells.lookup x=some c->c≠b)/\∀p∈X.pn++pins,p.1≠b) :
  aV X pins σ H' { s with heap:=h',gens:=g',drawn:=d',toks:=t' }:=by
 obtain⟨m,⟨o,es,ep,ho,r⟩,_⟩:=id I.loc
 obtain⟨sl,hL⟩:=u.any ho I.free fun z=>(hch _ z).2.1 rfl
 exact I.step (ch:=ch) hch (fun b o hL hb hc e n=>u.keep b o e n (fun z=>(az.mp (I.stkSub b z)).elim hL hb) hc) (fun b o _ _ hc e n=>u.any e n hc) (fun b o hc e n=>u.free b o e n hc) (fun b o hc e=>u.there b o e hc) u.tups u.frzs u.tbls (fun m' hm=>by
  obtain⟨o',es',ep',ho',r'⟩:=hm
  rw[ho] at ho';cases ho'
  exact⟨_,es',ep',hL,r'⟩) hok hg
def aV.turned{t':Nat}{it:Addr}(I:aV X pins σ H s)(k:∀b o,b≠it->s.heap.get? b=some o->h'.get? b=some o)(hn:H it=none)(hL:it≠X.env.locals)
  (h1:it∈X.ex\/X.s₀.heap.objs.size<=it) (h2:∀x c,X.env.cells.lookup x=some c->c≠it) (h3:∀p∈X.pn++pins,p.1≠it):aV X pins σ H { s with heap:=h',toks:=t' }:=by
 have nit:∀b u,H b=some u->b≠it:=fun b u e z=>by rw[z,hn] at e;cases e
 refine I.step (g':=s.gens) (d':=s.drawn) (ch:=[it]) (fun b hb=>?_) (fun b o _ _ hc e _=>k b o (fun z=>hc (by simp[z])) e) (fun b o _ _ hc e _=>⟨o.slots,k b o (fun z=>hc (by simp[z])) e⟩) (fun _ _ _ _ n=>n)
  (fun b o hc e=>⟨o,k b o (fun z=>hc (by simp[z])) e⟩) (fun _ _ e=>e) (fun _ _ _ e=>e) (fun b ps e=>⟨#[],by rw[e];simp⟩) (fun m hm=>?_) (fun b u e=>?_) I.bare
 ·have e:b=it:=by simpa using hb
  subst e
  exact⟨h1,hL,h2,h3⟩
 ·obtain⟨o,es,ep,ho,r⟩:=hm
  exact⟨o,es,ep,k _ o (Ne.symm hL) ho,r⟩
 ·refine(I.hok b u e).stay (fun c v hc q=>k c v ?_ q) (fun _ q=>q) fun _ _ q=>q
  rcases hc with z|z
  ·rw[z];exact nit b u e
  ·exact nit c _ z
def aV.tok(I:aV X pins σ H s)(t:Nat):aV X pins σ H { s with toks:=t }:=I.un (h':=s.heap) (t':=t) Un.refl I.hok
def aV.kept{t':Nat}(I:aV X pins σ H s)(k:∀b u,s.heap.get? b=some u->h'.get? b=some u):aV X pins σ H { s with heap:=h',toks:=t' }:=I.un (Un.kept k) (I.hok.kept k)
def aV.laid{a:Addr}{o:HO}{t':Nat}(I:aV X pins σ H s)(k:∀b u,s.heap.get? b=some u->h'.get? b=some u)(hp:s.heap.objs.size<=a)(new:bZ X.prog X.w (aN H a o) h' a o) :
  aV X pins σ (aN H a o) { s with heap:=h',toks:=t' }:=I.un (Un.laid k hp (I.hok.fresh hp)) (I.hok.laid k hp new)
def aV.write{x e:Addr}{o:HO}{t':Nat}(I:aV X pins σ H s)(mu:Mut (H x))(he:e=x\/H e=some (.own x))(k:∀b u,b≠e->s.heap.get? b=some u->h'.get? b=some u)(heo:∃u,h'.get? e=some u)
  (new:bZ X.prog X.w (aN H x o) h' x o):aV X pins σ (aN H x o) { s with heap:=h',toks:=t' }:=I.un (Un.write mu he k heo) (I.hok.write mu he k heo new)
def aV.pins_of{pins':List (Addr×Obj)}(I:aV X pins σ H s)(h:∀p∈pins',s.heap.get? p.1=some p.2/\H p.1=none/\p.1≠X.env.locals/\p.1∉X.fs/\∀v,p.2.data≠ .cell v):aV X pins' σ H s:=
 ⟨I.ok,I.os,I.bare,I.base,I.loc,I.cell,I.free,I.freeC,fun p hp=>(br.mp hp).elim (fun z=>I.pin p (dw _ z)) (h p),I.hok,I.len⟩
def aE9{N:List Str}(hN:N.Nodup){i j:Nat}{x:Str}(a:N[i]?=some x)(b:N[j]?=some x):i=j:=by
 obtain⟨h1,e1⟩:=bz.mp a
 obtain⟨h2,e2⟩:=bz.mp b
 exact(ql hN).mp (e1.trans e2.symm)
def wK{M:Model}{A:Around}{E:Value->Shared->Prop}{i:Nat}{x:Str}{v:V}{u:Value}{Q:Unit->Shared->Prop}(I:aV X pins σ H s)(hN:X.N.Nodup)(hi:X.N[i]?=some x)(hx:Loc X.env.scope x)(r:bF v u)
  (h:∀s',aV X pins (σ.set i (some v)) H s'->(∃a,Heap.SameBut a s.heap s'.heap/\(a=X.env.locals\/X.env.cells.lookup x=some a))->Q () s') (hf:X.fn x=true\/X.env.scope.names.lookup x=some .local:=by first|exact .inl rfl|exact .inr rfl|assumption):wpAny M A (storeName X.env x u) Q E s:=by
 obtain⟨m,hn,hl⟩:=id I.loc
 have hcls:(X.env.scope.kind == .class || (X.env.scope.kind == .module&&X.env.locals != X.env.globals))=false:=by rw[I.ok.kind];rfl
 have hiσ:i<σ.length:=by rw[I.len];exact(bz.mp hi).1
 have cne:=I.cne
 have tracked:∀{a:Addr}{h':Heap},(∃o,s.heap.get? a=some o/\H a=none)->Heap.SameBut a s.heap h'->kL X.prog X.w H h':=fun {a h'} ha hs b ob e=>by
  obtain⟨_,_,hfree⟩:=ha
  refine(I.hok b ob e).stay (fun c w' hc q=>(hs.2 c ?_).trans q) (fun _ q=>q) fun _ _ q=>q
  rintro rfl
  rcases hc with rfl|hc
  ·rw[hfree] at e;cases e
  ·rw[hfree] at hc;cases hc
 rcases hx with hk|hk
 ·refine wpAny_storeName_local hk hn (fun h' hn' hs=>?_) hcls
  obtain⟨oL,_,_,hoL,_⟩:=id hn
  refine h _ ⟨I.ok,I.os,I.bare,⟨fun b o e n hb hx=>?_,fun b o e n hb hx=>?_,I.base.free,fun b o e hx=>?_,I.base.tups,I.base.frzs,I.base.tbls⟩,⟨_,hn',fun j y v' e1 e2 e3=>?_⟩,fun y c e=>?_,I.free,I.freeC,fun p hp=>?_,tracked ⟨oL,hoL,I.free⟩ hs,by simpa using I.len⟩ ⟨_,hs,.inl rfl⟩
  ·exact(hs.2 b (bv (bn (aw e) I.ok.above))).trans (I.base.keep b o e n hb hx)
  ·obtain⟨sl,e1⟩:=I.base.slot b o e n hb hx
   exact⟨sl,(hs.2 b (bv (bn (aw e) I.ok.above))).trans e1⟩
  ·obtain⟨o',e1⟩:=I.base.there b o e hx
   exact⟨o',(hs.2 b (bv (bn (aw e) I.ok.above))).trans e1⟩
  ·by_cases hj:j=i
   ·subst hj
    rw[hi] at e1;cases e1
    rw[xm hiσ] at e2
    cases e2
    exact⟨u,r,.inl ⟨hk,by simp⟩⟩
   ·rw[yq (Ne.symm hj)] at e2
    obtain⟨u',r',q⟩:=hl j y v' e1 e2 e3
    refine⟨u',r',?_⟩
    rcases q with⟨k,e⟩|⟨k,c,e,z⟩
    ·refine .inl ⟨k,?_⟩
     have:y≠x:=fun e=>hj (aE9 hN e1 (e ▸ hi))
     simp[this,e]
    ·exact .inr ⟨k,c,e,z.sameBut hs (cne y c e)⟩
  ·obtain⟨w',z⟩:=I.cell y c e
   exact⟨w',z.sameBut hs (cne y c e)⟩
  ·obtain⟨e,n,ne,nf,d⟩:=I.pin p hp
   exact⟨(hs.2 p.1 ne).trans e,n,ne,nf,d⟩
 ·have hfn:X.fn x=true:=by
   rcases hf with z|z
   ·exact z
   ·rw[z] at hk;cases hk
  obtain⟨c,hc⟩:=I.ok.has x (.inl hk)
  obtain⟨w',z⟩:=I.cell x c hc
  refine wpAny_storeName_cell I.ok.kind hk hc z (fun h' hc' hs=>?_)
  obtain⟨oc,hoc,hocd⟩:=id z
  refine h { s with heap:=h' } ⟨I.ok,I.os,I.bare,⟨fun b o e n hb hx=>?_,fun b o e n hb hx=>?_,I.base.free,fun b o e hx=>?_,I.base.tups,I.base.frzs,I.base.tbls⟩,⟨m,hn.sameBut hs (Ne.symm (cne x c hc)),fun j y v' e1 e2 e3=>?_⟩,fun y c' e=>?_,I.free,I.freeC,fun p hp=>?_,tracked ⟨oc,hoc,I.freeC x c hc⟩ hs,by simpa using I.len⟩ ⟨c,hs,.inr hc⟩
  ·exact(hs.2 b (bv (bn (aw e) (I.ok.cab x c hfn hc)))).trans (I.base.keep b o e n hb hx)
  ·obtain⟨sl,e1⟩:=I.base.slot b o e n hb hx
   exact⟨sl,(hs.2 b (bv (bn (aw e) (I.ok.cab x c hfn hc)))).trans e1⟩
  ·obtain⟨o',e1⟩:=I.base.there b o e hx
   exact⟨o',(hs.2 b (bv (bn (aw e) (I.ok.cab x c hfn hc)))).trans e1⟩
  ·by_cases hj:j=i
   ·subst hj
    rw[hi] at e1;cases e1
    rw[xm hiσ] at e2
    cases e2
    exact⟨u,r,.inr ⟨.inl hk,c,hc,hc'⟩⟩
   ·rw[yq (Ne.symm hj)] at e2
    obtain⟨u',r',q⟩:=hl j y v' e1 e2 e3
    refine⟨u',r',?_⟩
    rcases q with q|⟨k,c',e,z'⟩
    ·exact .inl q
    ·refine .inr ⟨k,c',e,z'.sameBut hs ?_⟩
     rintro rfl
     exact hj (aE9 hN e1 (I.ok.inj _ _ _ e hc ▸ hi))
  ·by_cases hcc:c'=c
   ·subst hcc;exact⟨_,hc'⟩
   ·obtain⟨w2,z2⟩:=I.cell y c' e
    exact⟨w2,z2.sameBut hs hcc⟩
  ·obtain⟨e,n,ne,nf,d⟩:=I.pin p hp
   refine⟨(hs.2 p.1 ?_).trans e,n,ne,nf,d⟩
   intro q
   rw[q,hoc] at e
   have q':oc=p.2:=cq e
   exact d w' (by rw[<-q'];exact hocd)
def nQ{M:Model}{A:Around}{E:Value->Shared->Prop}{i:Nat}{x:Str}{v:V}{u:Value}{Q:Unit->Shared->Prop}(I:aV X pins σ H s)(hN:X.N.Nodup)(hi:X.N[i]?=some x)(hx:Loc X.env.scope x)(r:bF v u)
  (h:∀s',aV X pins (σ.set i (some v)) H s'->Q () s') (hf:X.fn x=true\/X.env.scope.names.lookup x=some .local:=by first|exact .inl rfl|exact .inr rfl|assumption):wpAny M A (storeName X.env x u) Q E s:=
 wK I hN hi hx r (fun s' I' _=>h s' I') hf
def aV.call'{s':Shared}{ch:List Addr}(I:aV X pins σ H s)(ho:s'.os=s.os)(u:Un (frs X.stack) ch H H' s.heap s'.heap)(hok:kL X.prog X.w H' s'.heap)(hg:AllBare s'.gens)
  (hch:∀b∈ch,(b∈X.ex\/X.s₀.heap.objs.size<=b)/\b≠X.env.locals/\(∀x c,X.env.cells.lookup x=some c->c≠b)/\∀p∈X.pn++pins,p.1≠b):aV X pins σ H' s':=by
 obtain⟨h',g',d',t',o'⟩:=s'
 have e:o'=s.os:=ho
 subst e
 exact I.call (g':=g') (t':=t') (d':=d') u hok hg hch
end
abbrev XK:=Value->Option Addr->Hp->Prop
abbrev St:=List (Option V)
abbrev VK:=V->Hp->Prop
abbrev TE:=St->Hp->VK->Prop
abbrev TT:=St->Hp->(Bool->Hp->Prop)->Prop
abbrev TA:=St->Hp->(List V->Hp->Prop)->Prop
structure fG where
 nx:St->Hp->Prop
 rt:VK
 bk:St->Hp->Prop:=fun _ _=>False
 ct:St->Hp->Prop:=fun _ _=>False
abbrev TS:=fG->St->Hp->Prop
def EP(X:Cx)(pins:List (Addr×Obj))(σ:St)(Q:VK)(u:Value)(s':Shared):Prop:=∃v H',aV X pins σ H' s'/\bF v u/\Q v H'
def TP(X:Cx)(pins:List (Addr×Obj))(σ:St)(Q:Bool->Hp->Prop)(b:Bool)(s':Shared):Prop:=∃H',aV X pins σ H' s'/\Q b H'
def AP(X:Cx)(pins:List (Addr×Obj))(σ:St)(Q:List V->Hp->Prop)(us:List Value)(s':Shared):Prop:=∃vs H',aV X pins σ H' s'/\bC vs us/\Q vs H'
def SP(X:Cx)(pins:List (Addr×Obj))(D:fG)(f:Flow)(s':Shared):Prop:=
 match f with
 |.next=>∃σ' H',aV X pins σ' H' s'/\D.nx σ' H'
 |.brk=>∃σ' H',aV X pins σ' H' s'/\D.bk σ' H'
 |.cont=>∃σ' H',aV X pins σ' H' s'/\D.ct σ' H'
 |.ret u=>∃v σ' H',aV X pins σ' H' s'/\bF v u/\D.rt v H'
def PE(X:Cx)(e:Expr)(t:TE):Prop:=
 ∀(pins:List (Addr×Obj)) (s:Shared) (σ:St) (H:Hp) (Q:VK),aV X pins σ H s->t σ H Q->wpAny (model X.prog X.w) X.A (eval e X.env) (EP X pins σ Q) X.xe s
def PT(X:Cx)(e:Expr)(t:TT):Prop:=
 ∀(pins:List (Addr×Obj)) (s:Shared) (σ:St) (H:Hp) (Q:Bool->Hp->Prop),aV X pins σ H s->t σ H Q->wpAny (model X.prog X.w) X.A (isTrue e X.env (eval e X.env)) (TP X pins σ Q) X.xe s
def PW(X:Cx)(e:Expr)(t:TT):Prop:=
 ∀(whole:Sem Value) (pins:List (Addr×Obj)) (s:Shared) (σ:St) (H:Hp) (Q:Bool->Hp->Prop),aV X pins σ H s->t σ H Q->wpAny (model X.prog X.w) X.A (isTrue e X.env whole) (TP X pins σ Q) X.xe s
def PW.pt{X:Cx}{e:Expr}{t:TT}(h:PW X e t):PT X e t:=h _
def PA(X:Cx)(es:List Expr)(t:TA):Prop:=
 ∀(pos:Pos) (pins:List (Addr×Obj)) (s:Shared) (σ:St) (H:Hp) (Q:List V->Hp->Prop),aV X pins σ H s->t σ H Q->wpAny (model X.prog X.w) X.A (spliced (backTo pos (starEach es X.env))) (AP X pins σ Q) X.xe s
def PS(X:Cx)(st:Stmt)(t:TS):Prop:=
 ∀(pins:List (Addr×Obj)) (s:Shared) (σ:St) (H:Hp) (D:fG),aV X pins σ H s->t D σ H->wpAny (model X.prog X.w) X.A (exec st X.env) (SP X pins D) X.xe s
def yW(X:Cx)(st:List Stmt)(t:TS):Prop:=
 ∀(pins:List (Addr×Obj)) (s:Shared) (σ:St) (H:Hp) (D:fG),aV X pins σ H s->t D σ H->wpAny (model X.prog X.w) X.A (execs st X.env) (SP X pins D) X.xe s
def cW{α:Type}{t:Sem α}{Q Q':α->Shared->Prop}{M:Model}{A:Around}{E:Value->Shared->Prop}{s:Shared}(h:wpAny M A t Q E s)(hQ:∀a s,Q a s->Q' a s):wpAny M A t Q' E s:=ft h hQ fun _ _ x=>x
section
variable {X:Cx}
def cJ2(i:Nat):TE:=fun σ H Q=>∃v,σ[i]?=some (some v)/\Q v H
def tC(v:V):TE:=fun _ H Q=>Q v H
def cB3{i:Nat}{x:Str}{pos:Pos}(hN:X.N[i]?=some x)(hv:Vis X.env.scope x)(hd:(x==("__debug__": Str))=false:=by decide)(hcd:(x==("__classdict__": Str))=false:=by decide):PE X (.Name x pos) (cJ2 i):=by
 intro pins s σ H Q I h
 obtain⟨v,e,h⟩:=h
 obtain⟨m,hn,hl⟩:=I.loc
 obtain⟨u,r,l⟩:=hl i x v hN e hv
 have fin:EP X pins σ Q u s:=⟨v,H,I,r,h⟩
 rcases l with⟨hk,hm⟩|⟨hk,c,hc,hcell⟩
 ·exact wpAny_Name (wpAny_loadName_local I.ok.kind hk hn hm fin) hd
 ·rcases hk with hk|hk
  ·exact wpAny_Name (wpAny_loadName_cell I.ok.kind hk hc hcell fin) hd
  ·exact wpAny_Name (wpAny_loadName_free I.ok.kind hk hc hcell fin hcd) hd
def aB{i j pos}:PE X (.Constant (.int i) j pos) (tC (.int i)):=fun _ _ _ H _ I h=>wpAny_Constant_int ⟨.int i,H,I.tok _,⟨_,rfl⟩,h⟩
def aX5{b j pos}:PE X (.Constant (.bool b) j pos) (tC (.bl b)):=fun _ _ _ H _ I h=>Constant_bool ⟨.bl b,H,I,rfl,h⟩
def bJ7{j pos}:PE X (.Constant .none j pos) (tC .non):=fun _ _ _ H _ I h=>zh ⟨.non,H,I,rfl,h⟩
def aJ{x j pos}:PE X (.Constant (.str x) j pos) (tC (.str x)):=fun _ _ _ H _ I h=>Calls.Constant_str ⟨.str x,H,I.tok _,⟨_,rfl⟩,h⟩
def Gl(X:Cx)(x:Str):Prop:=X.env.kindOf x=some .globalImplicit
def xQ{E:Value->Shared->Prop}{pins:List (Addr×Obj)}{s:Shared}{σ:St}{H:Hp}{x:Str}{u:Value}{pos:Pos}{Q:Value->Shared->Prop}(I:aV X pins σ H s)(hg:Gl X x)(hm:X.mg x=some u)(h:Q u s)
  (hd:(x==("__debug__": Str))=false:=by decide):wpAny (model X.prog X.w) X.A (eval (.Name x pos) X.env) Q E s:=
 uu I.ok.kind hg (Calls.loadGlobal_global (by rw[I.ok.glob];exact I.mod.glob.keeps I.bk) hm h) hd
def iV{E:Value->Shared->Prop}{pins:List (Addr×Obj)}{s:Shared}{σ:St}{H:Hp}{x:Str}{u:Value}{pos:Pos}{Q:Value->Shared->Prop}(I:aV X pins σ H s)(hg:Gl X x)(hm:X.mg x=none)(hv:bootBuiltins x=some u)(h:Q u s)
  (hn:x≠"__name__":=by decide) (hd:(x==("__debug__": Str))=false:=by decide):wpAny (model X.prog X.w) X.A (eval (.Name x pos) X.env) Q E s:=by
 obtain⟨mb,h1,h2⟩:=I.mod.blt
 exact uu I.ok.kind hg (Calls.loadGlobal_builtin (by rw[I.ok.glob];exact I.mod.glob.keeps I.bk) hm (by rw[I.ok.blt];exact h1.keeps I.bk) ((h2 x hn).trans hv) h) hd
def rF{x:Str}{v:V}{u:Value}{pos:Pos}(hg:Gl X x)(hm:X.mg x=some u)(r:bF v u)(hd:(x==("__debug__": Str))=false:=by decide):PE X (.Name x pos) (tC v):=
 fun _ _ _ H _ I h=>xQ I hg hm ⟨v,H,I,r,h⟩ hd
def lI{x:Str}{v:V}{u:Value}{pos:Pos}(hg:Gl X x)(hm:X.mg x=none)(hv:bootBuiltins x=some u)(r:bF v u)(hn:x≠"__name__":=by decide)(hd:(x==("__debug__": Str))=false:=by decide):PE X (.Name x pos) (tC v):=
 fun _ _ _ H _ I h=>iV I hg hm hv ⟨v,H,I,r,h⟩ hn hd
variable {a b:Expr}{ta tb:TE}{pos:Pos}
def PC(X:Cx)(op:CmpOp)(a b:Expr)(t:TE):Prop:=
 ∀(pins:List (Addr×Obj)) (s:Shared) (σ:St) (H:Hp) (Q:VK),aV X pins σ H s->t σ H Q ->
  wpAny (model X.prog X.w) X.A (eval a X.env) (fun v s₁=>wpAny (model X.prog X.w) X.A (eval b X.env) (fun u s₂=>wpAny (model X.prog X.w) X.A (compareOp op v u) (EP X pins σ Q) X.xe s₂) X.xe s₁) X.xe s
def bI7(b:Expr){op:CmpOp}(h:op≠ .In)(h2:op≠ .NotIn):behindInMarks op b=false:=by
 have e1:(op==CmpOp.In)=false:=by cases op<;>first|rfl|exact absurd rfl h
 have e2:(op==CmpOp.NotIn)=false:=by cases op<;>first|rfl|exact absurd rfl h2
 cases b<;>simp[behindInMarks,e1,e2]
def cT8(ta:TE):TE:=fun σ H Q=>ta σ H fun x H1=>Q (.bl (decide (x= .non))) H1
def cR5(ta:TE):TE:=fun σ H Q=>ta σ H fun x H1=>Q (.bl (!decide (x= .non))) H1
def bF.none_iff{x:V}{v:Value}(r:bF x v):(v==Value.none)=decide (x= .non):=by
 cases x with
 |non=>cases r;rfl
 |bl _=>cases r;rfl
 |int _=>obtain⟨t,rfl⟩:=r;rfl
 |str _=>obtain⟨t,rfl⟩:=r;rfl
 |byt _=>obtain⟨t,rfl⟩:=r;rfl
 |flt _=>obtain⟨t,rfl⟩:=r;rfl
 |ref _=>cases r;rfl
 |ty _=>cases r;rfl
def cH8{j pos'}(ha:PE X a ta):PC X .Is a (.Constant .none j pos') (cT8 ta):=by
 intro pins s σ H Q I h
 refine cW (ha pins s σ H _ I h) ?_;rintro v s1 ⟨x,H1,I1,r1,q1⟩
 exact zh (is_none_gen ⟨.bl _,H1,I1,by rw[r1.none_iff];rfl,q1⟩)
def bO5{j pos'}(ha:PE X a ta):PC X .IsNot a (.Constant .none j pos') (cR5 ta):=by
 intro pins s σ H Q I h
 refine cW (ha pins s σ H _ I h) ?_;rintro v s1 ⟨x,H1,I1,r1,q1⟩
 exact zh (isnot_none_gen ⟨.bl _,H1,I1,by rw[r1.none_iff];rfl,q1⟩)
def tB(t:TE):TT:=fun σ H Q=>t σ H fun x H1=>∃c,x= .bl c/\Q c H1
def aM2{op:CmpOp}{t:TE}(h:PC X op a b t)(h1:behindInMarks op b=false:=by first|exact bI7 _ (by decide) (by decide)|rfl):PT X (.Compare a [op] [b] pos) (tB t):=by
 intro pins s σ H Q I hw
 refine yd (cW (h pins s σ H _ I hw) fun v s1 h1=>cW h1 fun u s2 h2=>cW h2 fun c s3 ⟨x,H1,I1,r1,q1⟩=>?_) h1
 obtain⟨d,rfl,q⟩:=q1
 cases r1
 exact jn ⟨H1,I1,q⟩
def pF{e:Expr}{t:TE}(h:PE X e t)(he:∀whole,isTrue e X.env whole=(do let v <-whole;standAt e.pos;holding [v] (truthy v)):=by intro _;rfl):PT X e (tB t):=by
 intro pins s σ H Q I hw
 refine isTrue_plain (cW (h pins s σ H _ I hw) ?_) (he _);rintro v s1 ⟨x,H1,I1,r1,q1⟩
 obtain⟨d,rfl,q⟩:=q1
 cases r1
 exact jn ⟨H1,I1,q⟩
variable {tA tB':TT}{rest:List Expr}
def cT9(t u:TT):TT:=fun σ H Q=>t σ H fun c H1=>if c=true then u σ H1 Q else Q false H1
def tOr(t u:TT):TT:=fun σ H Q=>t σ H fun c H1=>if c=true then Q true H1 else u σ H1 Q
def cV3(t:TT):TT:=fun σ H Q=>t σ H fun c H1=>Q (!c) H1
def iN(ha:PT X a tA):PW X (.BoolOp .And [a] pos) tA:=by
 intro wh pins s σ H Q I h
 refine isTrue_and (cW (ha pins s σ H Q I h) fun c s1 e=>?_)
 cases c with
 |true=>exact isTrue_and_nil e
 |false=>exact e
def rQ(ha:PT X a tA):PW X (.BoolOp .Or [a] pos) tA:=by
 intro wh pins s σ H Q I h
 refine isTrue_or (cW (ha pins s σ H Q I h) fun c s1 e=>?_)
 cases c with
 |false=>exact isTrue_or_nil e
 |true=>exact e
def kY(ha:PT X a tA)(hb:PW X (.BoolOp .And (b::rest) pos) tB'):PW X (.BoolOp .And (a::b::rest) pos) (cT9 tA tB'):=by
 intro wh pins s σ H Q I h
 refine isTrue_and (cW (ha pins s σ H _ I h) ?_);rintro c s1 ⟨H1,I1,q1⟩
 cases c with
 |true=>exact hb wh pins s1 σ H1 Q I1 q1
 |false=>exact⟨H1,I1,q1⟩
def vX(ha:PT X a tA)(hb:PW X (.BoolOp .Or (b::rest) pos) tB'):PW X (.BoolOp .Or (a::b::rest) pos) (tOr tA tB'):=by
 intro wh pins s σ H Q I h
 refine isTrue_or (cW (ha pins s σ H _ I h) ?_);rintro c s1 ⟨H1,I1,q1⟩
 cases c with
 |true=>exact⟨H1,I1,q1⟩
 |false=>exact hb wh pins s1 σ H1 Q I1 q1
def rS(ha:PT X a tA):PT X (.UnaryOp .Not a pos) (cV3 tA):=by
 intro pins s σ H Q I h
 exact isTrue_not (ha pins s σ H (fun c H1=>Q (!c) H1) I h)
def cQ1(ta tb:TE):TE:=fun σ H Q=>ta σ H fun x H1=>∃c,x= .bl c/\if c=true then tb σ H1 Q else Q (.bl false) H1
def cM8(ta:TE):TE:=fun σ H Q=>ta σ H fun x H1=>∃c,x= .bl c/\Q (.bl (!c)) H1
def aK3{op}{t:TE}(h:PE X a t):PE X (.BoolOp op [a] pos) t:=fun pins s σ H Q I hw=>BoolOp_one (h pins s σ H Q I hw)
def sT(ha:PE X a ta)(hb:PE X (.BoolOp .And (b::rest) pos) tb):PE X (.BoolOp .And (a::b::rest) pos) (cQ1 ta tb):=by
 intro pins s σ H Q I h
 refine BoolOp_and (cW (ha pins s σ H _ I h) ?_);rintro v s1 ⟨x,H1,I1,r1,q1⟩
 obtain⟨c,rfl,q1⟩:=q1
 cases r1
 refine jn ?_
 cases c with
 |true=>exact hb pins s1 σ H1 Q I1 q1
 |false=>exact⟨.bl false,H1,I1,rfl,q1⟩
def cE1(ha:PE X a ta):PE X (.UnaryOp .Not a pos) (cM8 ta):=by
 intro pins s σ H Q I h
 refine UnaryOp_ (cW (ha pins s σ H _ I h) ?_);rintro v s1 ⟨x,H1,I1,r1,q1⟩
 obtain⟨c,rfl,q1⟩:=q1
 cases r1
 exact not_of (jn ⟨.bl (!c),H1,I1,rfl,q1⟩)
def tIf(t:TT)(ta tb:TE):TE:=fun σ H Q=>t σ H fun c H1=>if c=true then ta σ H1 Q else tb σ H1 Q
def gK{c:Expr}(hc:PT X c tA)(ha:PE X a ta)(hb:PE X b tb):PE X (.IfExp c a b pos) (tIf tA ta tb):=by
 intro pins s σ H Q I h
 refine wpAny_IfExp (cW (hc pins s σ H _ I h) ?_);rintro d s1 ⟨H1,I1,q1⟩
 cases d with
 |true=>exact ha pins s1 σ H1 Q I1 q1
 |false=>exact hb pins s1 σ H1 Q I1 q1
end
def bR(K:PySem.W.Frag)(H:Hp)(a:Addr)(xs:List V):Prop:=
 Rd H a (.lst xs) \/
  ∃(o:Obj) (its:Array Value) (n:Nat),K.lookup a=some o/\o.cls= .type "list"/\o.dict=none/\o.data= .seq its n/\its.size<=sizeLine/\bC xs its.toList
def aT(K:PySem.W.Frag)(H:Hp)(a:Addr)(xs:List V):Prop:=
 Rd H a (.tup xs) \/
  ∃(o:Obj) (its:Array Value) (n:Nat),K.lookup a=some o/\o.cls= .type "tuple"/\o.data= .seq its n/\its.size<=sizeLine/\bC xs its.toList
def cW7:Value->Option V
 |.none=>some .non
 |.bool b=>some (.bl b)
 |.int i _=>some (.int i)
 |.str x _=>some (.str x)
 |.bytes b _=>some (.byt b)
 |.float b _=>some (.flt b)
 |.ref a=>some (.ref a)
 |.type n=>some (.ty n)
 |_=>none
def bF.abs{x:V}{u:Value}(r:bF x u):cW7 u=some x:=by
 cases x with
 |non=>cases r;rfl
 |bl _=>cases r;rfl
 |int _=>obtain⟨t,rfl⟩:=r;rfl
 |str _=>obtain⟨t,rfl⟩:=r;rfl
 |byt _=>obtain⟨t,rfl⟩:=r;rfl
 |flt _=>obtain⟨t,rfl⟩:=r;rfl
 |ref _=>cases r;rfl
 |ty _=>cases r;rfl
def bF.inj{x y:V}{u:Value}(r:bF x u)(q:bF y u):x=y:=cq (r.abs.symm.trans q.abs)
def bC.inj:∀{xs ys:List V}{us:List Value},bC xs us->bC ys us->xs=ys
 |_,_,_,.nil,.nil=>rfl
 |_,_,_,.cons r t,.cons r' t'=>by rw[r.inj r',bC.inj t t']
section
variable {X:Cx}{pins:List (Addr×Obj)}{σ:St}{H:Hp}{s:Shared}{a:Addr}{xs ys:List V}
def bR.of{K:PySem.W.Frag}(h:H a=some (.lst xs)):bR K H a xs:= .inl (.inl h)
def aT.of{K:PySem.W.Frag}(h:H a=some (.tup xs)):aT K H a xs:= .inl (.inl h)
def aV.list(I:aV X pins σ H s)(h:bR X.K H a xs):∃its:List Value,bC xs its/\PlainL s.heap a its.toArray/\xs.length<=sizeLine:=by
 rcases h with h|⟨o,its,n,hk,hc,hd,hs,hz,r⟩
 ·obtain⟨z,its,n,r,e⟩:=h.ok I.hok
  exact⟨its,r,⟨_,n,e,rfl,rfl,rfl⟩,z⟩
 ·refine⟨its.toList,r,⟨o,n,I.kIn a o hk,hc,hd,by simpa using hs⟩,?_⟩
  have e:=r.length
  simp only[Array.length_toList] at e
  lia
def aV.tuple(I:aV X pins σ H s)(h:aT X.K H a xs):∃its:List Value,bC xs its/\IsTup s.heap a its.toArray/\xs.length<=sizeLine:=by
 rcases h with h|⟨o,its,n,hk,hc,hs,hz,r⟩
 ·obtain⟨z,its,r,p⟩:=h.ok I.hok
  exact⟨its,r,p.is,z⟩
 ·refine⟨its.toList,r,⟨o,I.kIn a o hk,hc,n,by simpa using hs⟩,?_⟩
  have e:=r.length
  simp only[Array.length_toList] at e
  lia
def aV.list_inj(I:aV X pins σ H s)(h:bR X.K H a xs)(h':bR X.K H a ys):xs=ys:=by
 obtain⟨its,r,⟨o,n,e,_,_,d⟩,_⟩:=I.list h
 obtain⟨its',r',⟨o',n',e',_,_,d'⟩,_⟩:=I.list h'
 rw[e] at e';cases e'
 rw[d] at d'
 injection d' with d1 _
 have:its=its':=by simpa using gv Array.toList d1
 subst this
 exact r.inj r'
def aV.tuple_inj(I:aV X pins σ H s)(h:aT X.K H a xs)(h':aT X.K H a ys):xs=ys:=by
 obtain⟨its,r,⟨o,e,_,n,d⟩,_⟩:=I.tuple h
 obtain⟨its',r',⟨o',e',_,n',d'⟩,_⟩:=I.tuple h'
 rw[e] at e';cases e'
 rw[d] at d'
 injection d' with d1 _
 have:its=its':=by simpa using gv Array.toList d1
 subst this
 exact r.inj r'
end
abbrev Cx.wish(X:Cx)(E:Value->Shared->Prop):Cx:={ X with xe:=E }
abbrev Cx.nox(X:Cx):Cx:=X.wish fun _ _=>False
def Cx.Ok.wish{X:Cx}(ok:X.Ok)(E:Value->Shared->Prop):(X.wish E).Ok:=
 ⟨ok.mod,ok.kind,ok.glob,ok.blt,ok.above,ok.inj,ok.has,ok.cab,ok.hd,ok.frames,ok.stk,ok.exf,ok.bs,ok.bsz,ok.noex,ok.exfs,ok.funs,ok.frf⟩
def Cx.Ok.unwish{X:Cx}{E:Value->Shared->Prop}(ok:(X.wish E).Ok):X.Ok:=
 ⟨ok.mod,ok.kind,ok.glob,ok.blt,ok.above,ok.inj,ok.has,ok.cab,ok.hd,ok.frames,ok.stk,ok.exf,ok.bs,ok.bsz,ok.noex,ok.exfs,ok.funs,ok.frf⟩
section
variable {X:Cx}{pins:List (Addr×Obj)}{σ:St}{H:Hp}{s:Shared}{E:Value->Shared->Prop}
def aV.wish(I:aV X pins σ H s)(E:Value->Shared->Prop):aV (X.wish E) pins σ H s:=⟨I.ok.wish E,I.os,I.bare,I.base,I.loc,I.cell,I.free,I.freeC,I.pin,I.hok,I.len⟩
def aV.unwish(I:aV (X.wish E) pins σ H s):aV X pins σ H s:=⟨I.ok.unwish,I.os,I.bare,I.base,I.loc,I.cell,I.free,I.freeC,I.pin,I.hok,I.len⟩
def SP.unwish{D:fG}{f:Flow}{s':Shared}(h:SP (X.wish E) pins D f s'):SP X pins D f s':=by
 cases f with
 |next=>obtain⟨σ',H',I,q⟩:=h;exact⟨σ',H',I.unwish,q⟩
 |brk=>obtain⟨σ',H',I,q⟩:=h;exact⟨σ',H',I.unwish,q⟩
 |cont=>obtain⟨σ',H',I,q⟩:=h;exact⟨σ',H',I.unwish,q⟩
 |ret u=>obtain⟨v,σ',H',I,r,q⟩:=h;exact⟨v,σ',H',I.unwish,r,q⟩
def yW.nox{st:List Stmt}{t:TS}(h:yW X.nox st t):yW X st t:=fun pins s σ H D I hw =>
 ft (h pins s σ H D (I.wish _) hw) (fun _ _ q=>q.unwish) fun _ _ z=>False.elim z
end
section
variable {X:Cx}{st:Stmt}{rest:List Stmt}{t u:TS}{e:Expr}{te:TE}{pos:Pos}
def tNext:TS:=fun D σ H=>D.nx σ H
def cL8(t u:TS):TS:=fun D σ H=>t { D with nx:=u D } σ H
def aX:yW X [] tNext:=fun _ _ σ H _ I h=>re ⟨σ,H,I,h⟩
def aF(h1:PS X st t)(h2:yW X rest u):yW X (st::rest) (cL8 t u):=by
 intro pins s σ H D I h
 refine wpAny_execs_cons (cW (h1 pins s σ H { D with nx:=u D } I h) fun f s1 q=>?_)
 cases f with
 |next =>
  obtain⟨σ',H',I',q⟩:=q
  exact h2 pins s1 σ' H' D I' q
 |ret v=>exact q
 |brk=>exact q
 |cont=>exact q
def aE(h1:PS X st t):yW X [st] t:=by
 intro pins s σ H D I h
 refine wpAny_execs_cons (cW (h1 pins s σ H D I h) fun f s1 q=>?_)
 cases f with
 |next=>exact re q
 |ret v=>exact q
 |brk=>exact q
 |cont=>exact q
def aV.quiet{pins:List (Addr×Obj)}{σ:St}{H:Hp}{s:Shared}(I:aV X pins σ H s):interactive X.env=false:=by simp[interactive,I.ok.kind]
def cK8(te:TE):TS:=fun D σ H=>te σ H fun _ H1=>D.nx σ H1
def cO(he:PE X e te)(hs:swapsWith e none pos.line X.env=pure false:=by rfl):PS X (.Expr e pos) (cK8 te):=by
 intro pins s σ H D I h
 refine wpAny_Expr_any (cW (he pins s σ H _ I h) ?_) I.quiet hs;rintro v s1 ⟨x,H1,I1,r1,q1⟩;exact ⟨σ,H1,I1,q1⟩
def cV7(te:TE):TS:=fun D σ H=>te σ H D.rt
def aK(he:PE X e te):PS X (.Return (some e) pos) (cV7 te):=by
 intro pins s σ H D I h
 refine wpAny_Return_some (cW (he pins s σ H _ I h) ?_);rintro v s1 ⟨x,H1,I1,r1,q1⟩;exact ⟨x,σ,H1,I1,r1,q1⟩
def cU5(c:TT)(t u:TS):TS:=fun D σ H=>c σ H fun b H1=>if b=true then t D σ H1 else u D σ H1
def bM{c:Expr}{a b:List Stmt}{tc:TT}(hc:PT X c tc)(ha:yW X a t)(hb:yW X b u):PS X (.If c a b pos) (cU5 tc t u):=by
 intro pins s σ H D I h
 refine wpAny_If (cW (hc pins s σ H _ I h) ?_);rintro d s1 ⟨H1,I1,q1⟩
 cases d with
 |true=>exact ha pins s1 σ H1 D I1 q1
 |false=>exact hb pins s1 σ H1 D I1 q1
def tNever:TS:=fun _ _ _=>False
def jK{sts:List Stmt}:yW X sts tNever:=fun _ _ _ _ _ _ h=>h.elim
end
abbrev TG:=V->St->Hp->(St->Hp->Prop)->Prop
abbrev TGs:=List V->St->Hp->(St->Hp->Prop)->Prop
def PG(X:Cx)(target:Expr)(t:TG):Prop:=
 ∀(pins:List (Addr×Obj)) (s:Shared) (σ:St) (H:Hp) (v:V) (u:Value) (Q:St->Hp->Prop),aV X pins σ H s->bF v u->t v σ H Q ->
  wpAny (model X.prog X.w) X.A (assign target X.env u) (fun _ s'=>∃σ' H',aV X pins σ' H' s'/\Q σ' H') X.xe s
def PGs(X:Cx)(ts:List Expr)(t:TGs):Prop:=
 ∀(pins:List (Addr×Obj)) (s:Shared) (σ:St) (H:Hp) (vs:List V) (us:List Value) (Q:St->Hp->Prop),aV X pins σ H s->bC vs us->t vs σ H Q ->
  wpAny (model X.prog X.w) X.A (assignInOrder ((assignEach ts X.env).map (·.2)) us) (fun _ s'=>∃σ' H',aV X pins σ' H' s'/\Q σ' H') X.xe s
abbrev TSet:=V->V->V->Hp->(Hp->Prop)->Prop
def cJ8(X:Cx)(t:TSet):Prop:=
 ∀(pins:List (Addr×Obj)) (s:Shared) (σ:St) (H:Hp) (o i v:V) (ov iv u:Value) (Q:Hp->Prop),aV X pins σ H s->bF o ov->bF i iv->bF v u->t o i v H Q ->
  wpAny (model X.prog X.w) X.A (setItem ov iv u) (fun _ s'=>∃H',aV X pins σ H' s'/\Q H') X.xe s
section
variable {X:Cx}{pos:Pos}
def xB(i:Nat):TG:=fun v σ H Q=>Q (σ.set i (some v)) H
def bL5{i:Nat}{x:Str}(hN:X.N.Nodup)(hi:X.N[i]?=some x)(hx:Loc X.env.scope x)(hf:X.fn x=true\/X.env.scope.names.lookup x=some .local:=by first|exact .inl rfl|exact .inr rfl|assumption):PG X (.Name x pos) (xB i):=by
 intro pins s σ H v u Q I r h
 exact wpAny_assign_Name (nQ I hN hi hx r (fun s' I'=>⟨_,H,I',h⟩) hf)
def gNil:TGs:=fun vs σ H Q=>vs=[]/\Q σ H
def cS4(t:TG)(u:TGs):TGs:=fun vs σ H Q=>∃v r,vs=v::r/\t v σ H fun σ' H'=>u r σ' H' Q
def gB:PGs X [] gNil:=by
 intro pins s σ H vs us Q I r h
 obtain⟨e,h⟩:=h
 subst e
 cases r
 exact assignInOrder_nil ⟨σ,H,I,h⟩
def bY{e:Expr}{es:List Expr}{t:TG}{u:TGs}(h1:PG X e t)(h2:PGs X es u)
  (hs:(assignEach (e::es) X.env).map (·.2)=assign e X.env::(assignEach es X.env).map (·.2):=by rfl):PGs X (e::es) (cS4 t u):=by
 intro pins s σ H vs us Q I r h
 obtain⟨v,vr,e1,h⟩:=h
 subst e1
 cases r with
 |cons r rr =>
  rw[hs]
  refine ue (cW (h1 pins s σ H _ _ _ I r h) ?_);rintro _ s1 ⟨σ1,H1,I1,q1⟩
  exact h2 pins s1 σ1 H1 _ _ Q I1 rr q1
def cM4(K:PySem.W.Frag)(n:Nat)(t:TGs):TG:=fun v σ H Q=>∃a xs,v= .ref a/\aT K H a xs/\xs.length=n/\t xs σ H Q
def kC{es:List Expr}{k:Nat}{t:TGs}{n:Nat}(hc:X.calm=true)(h:PGs X es t)
  (hn:(assignEach es X.env).length=n:=by rfl) (hst:(assignEach es X.env).findIdx? (·.1)=none:=by rfl):PG X (.Tuple es k pos) (cM4 X.K n t):=by
 intro pins s σ H v u Q I r hw
 obtain⟨a,xs,e1,hq,hl,hw⟩:=hw
 subst e1
 cases r
 obtain⟨its,rv,ht,hz⟩:=I.tuple hq
 refine assign_Tuple_tuple (I.ok.hd hc) ht (by simp[hn, <-hl,rv.length]) hst fun h' hx=>?_
 have I1:aV X pins σ H { s with heap:=h' }:=I.kept (t':=s.toks) fun b o e=>hx b o (bv (aw e)) e
 exact h pins _ σ H xs _ Q I1 (by simpa using rv) hw
def cV8(to ti:TE)(t:TSet):TG:=fun v σ H Q=>to σ H fun o H1=>ti σ H1 fun i H2=>t o i v H2 fun H3=>Q σ H3
def aG0{o i:Expr}{to ti:TE}{t:TSet}(ho:PE X o to)(hi:PE X i ti)(hs:cJ8 X t)
  (ha:∀v,assign (.Subscript o i pos) X.env v=(do
   let ov <-holding [v] (eval o X.env)
   let iv <-holding [v,ov] (eval i X.env)
   standAt pos
   holding [v,ov,iv] (setItem ov iv v)
   release [v,ov,iv] []):=by intro _;rfl):PG X (.Subscript o i pos) (cV8 to ti t):=by
 intro pins s σ H v u Q I r h
 rw[ha]
 refine aa (ko (cW (ho pins s σ H _ I h) ?_));rintro ov s1 ⟨x,H1,I1,r1,q1⟩
 refine aa (ko (cW (hi pins s1 σ H1 _ I1 q1) ?_));rintro iv s2 ⟨y,H2,I2,r2,q2⟩
 refine aa (uv (aa (ko (cW (hs pins s2 σ H2 x y v ov iv u _ I2 r1 r2 r q2) ?_))));rintro _ s3 ⟨H3,I3,q3⟩
 exact wpAny_release ⟨σ,H3,I3,q3⟩
def bF9(te:TE)(g:TG):TS:=fun D σ H=>te σ H fun x H1=>g x σ H1 D.nx
def oX{tg e:Expr}{te:TE}{g:TG}(he:PE X e te)(hg:PG X tg g)(hs:swapsWithSole [tg] e pos.line X.env=pure false:=by rfl)(hw:swappedStores [tg] e X.env=pure none:=by rfl)
  (h1:(assignEach [tg] X.env).map (·.2)=[assign tg X.env]:=by rfl):PS X (.Assign [tg] e pos) (bF9 te g):=by
 intro pins s σ H D I h
 refine wpAny_Assign_stores (cW (he pins s σ H _ I h) ?_) hs hw;rintro v s1 ⟨x,H1,I1,r1,q1⟩
 rw[h1]
 exact cW (hg pins s1 σ H1 x v _ I1 r1 q1) fun _ s2 q=>q
def aK7{i:Nat}{x:Str}{e:Expr}{te:TE}{pos':Pos}(hN:X.N.Nodup)(hi:X.N[i]?=some x)(hx:Loc X.env.scope x)(he:PE X e te)(hs:swapsWith e (some (.Name x pos')) pos.line X.env=pure false:=by rfl)(hf:X.fn x=true\/X.env.scope.names.lookup x=some .local:=by first|exact .inl rfl|exact .inr rfl|assumption) :
  PS X (.Assign [.Name x pos'] e pos) (bF9 te (xB i)):=by
 intro pins s σ H D I h
 refine wpAny_Assign_Name (cW (he pins s σ H _ I h) ?_) hs;rintro v s1 ⟨y,H1,I1,r1,q1⟩
 exact nQ I1 hN hi hx r1 (fun s2 I2=>⟨_,H1,I2,q1⟩) hf
def cX6(i j:Nat)(ta:TA):TS:=fun D σ H=>ta σ H fun vs H1=>∃v w,vs=[v,w]/\D.nx ((σ.set i (some v)).set j (some w)) H1
def aJ1{i j:Nat}{x y:Str}{a b:Expr}{ta:TA}{px py pt:Pos}{kt k2 pt2}(hc:X.calm=true)(hN:X.N.Nodup)(hi:X.N[i]?=some x)(hj:X.N[j]?=some y)(hij:i≠j)
  (hx:X.env.scope.names.lookup x=some .local) (hy:X.env.scope.names.lookup y=some .local) (ha:PA X [a,b] ta)
  (hw:swappedStores [.Tuple [.Name x px,.Name y py] kt pt] (.Tuple [a,b] k2 pt2) X.env=pure (some [x,y]))
  (hs:swapsWithSole [.Tuple [.Name x px,.Name y py] kt pt] (.Tuple [a,b] k2 pt2) pos.line X.env=pure false:=by rfl) :
  PS X (.Assign [.Tuple [.Name x px,.Name y py] kt pt] (.Tuple [a,b] k2 pt2) pos) (cX6 i j ta):=by
 intro pins s σ H D I h
 rw[exec_Assign_arm]
 refine aa (uv ?_)
 rw[hs]
 refine aa (am ?_)
 rw[ai (by decide)]
 refine aa (Tuple_ (cW (ha _ pins s σ H _ I h) ?_));rintro us s1 ⟨vs,H1,I1,r1,q1⟩
 obtain⟨v,w,e1,q1⟩:=q1
 subst e1
 obtain⟨u1,u2,rfl,rv,rw'⟩:∃u1 u2,us=[u1,u2]/\bF v u1/\bF w u2:=by
  cases r1 with
  |cons p q =>
   cases q with
   |cons p' q' =>
    cases q'
    exact⟨_,_,rfl,p,p'⟩
 refine fj ?_ (by show 2<=sizeLine;decide)
 have I2:aV X pins σ H1 { s1 with heap:=s1.heap.push { cls:= .type "tuple",data:= .seq [u1,u2].toArray } }:=I1.kept (t':=s1.toks) fun b o e=>ah _ e
 rw[hw]
 refine aa (am ?_)
 show wpAny (model X.prog X.w) X.A (do rule "assign.swapped-stores";let items <-unpackItems (.ref s1.heap.objs.size) 2 none;assignInOrder [fun v=>bindName X.env y v,fun v=>bindName X.env x v] items.reverse;pure Flow.next) _ _ _
 refine aa (me (aa (unpackItems_tuple (items:= #[u1,u2]) (I.ok.hd hc) (IsTup.new s1.heap _) fun h' hx'=>?_)))
 have I3:=I2.kept (h':=h') (t':=s1.toks) fun b o e=>hx' b o (bv (aw e)) e
 show wpAny _ _ (assignInOrder [fun v=>bindName X.env y v,fun v=>bindName X.env x v] [u2,u1]>>=fun _=>pure Flow.next) _ _ _
 refine aa (ue (wpAny_bindName (nQ I3 hN hj (.inl hy) rw' (fun s2 I4=>?_) (.inr hy))))
 refine ue (wpAny_bindName (nQ I4 hN hi (.inl hx) rv (fun s3 I5=>assignInOrder_nil (am ?_)) (.inr hx)))
 rw[List.set_comm _ _ (Ne.symm hij)] at I5
 exact⟨_,H1,I5,q1⟩
def cD3(c:TT)(tb:TS):TS:=fun D σ H=>∃W:Nat->St->Hp->Prop,(∃m,W m σ H)/\∀m σ H,W m σ H ->
 c σ H fun b H1=>if b=true then ∃N:St->Hp->Prop,(∀σ' H',N σ' H'->∃m',m'<m/\W m' σ' H')/\tb { D with nx:=N,ct:=N,bk:=D.nx } σ H1 else D.nx σ H1
def fR{c:Expr}{body:List Stmt}{tc:TT}{tb:TS}(hp:PassesOwn (model X.prog X.w) X.A X.env X.xe)(hc:PT X c tc)(hb:yW X body tb):PS X (.While c body [] pos) (cD3 tc tb):=by
 intro pins s σ H D I h
 obtain⟨W,⟨m0,w0⟩,turn⟩:=h
 refine wpAny_While (codeAny_whileLoop (fun n s'=>∃σ' H',aV X pins σ' H' s'/\W n σ' H') ?_ m0 ⟨σ,H,I,w0⟩)
 rintro n s1 ⟨σ1,H1,I1,w1⟩
 refine jz hp (cW (hc pins s1 σ1 H1 _ I1 (turn n σ1 H1 w1)) ?_);rintro b s2 ⟨H2,I2,q2⟩
 cases b with
 |true =>
  obtain⟨N,hN,q2⟩:=q2
  rw[ao rfl]
  refine jz hp (cW (hb pins s2 σ1 H2 _ I2 q2) fun f s3 q3=>?_)
  cases f with
  |next =>
   obtain⟨σ3,H3,I3,n3⟩:=q3
   obtain⟨m',hm,w3⟩:=hN σ3 H3 n3
   exact⟨m',hm,σ3,H3,I3,w3⟩
  |cont =>
   obtain⟨σ3,H3,I3,n3⟩:=q3
   obtain⟨m',hm,w3⟩:=hN σ3 H3 n3
   exact⟨m',hm,σ3,H3,I3,w3⟩
  |brk=>exact q3
  |ret v=>exact q3
 |false =>
  rw[ai bu]
  exact re ⟨σ1,H2,I2,q2⟩
end
structure It where
 go:Nat->Hp->Prop
 yld:Nat->Hp->V->Hp->Prop
 stop:Nat->Hp->Prop
def oM(X:Cx)(pins:List (Addr×Obj))(H:Hp)(b:Addr):Prop:=
 H b=none/\b≠X.env.locals/\b∉X.fs/\(b∈X.ex\/X.s₀.heap.objs.size<=b)/\(∀x c,X.env.cells.lookup x=some c->c≠b)/\∀p∈X.pn++pins,p.1≠b
def aV.fpOk{X:Cx}{pins:List (Addr×Obj)}{σ:St}{H H':Hp}{s:Shared}{b:Addr}(I:aV X pins σ H s)(hb:s.heap.objs.size<=b)(hn:H' b=none):oM X pins H' b:=by
 refine⟨hn,jj (bn I.lt hb),I.nofs hb,.inr (ay I.sz hb),fun x c e z=>?_,fun p hp z=>?_⟩
 ·obtain⟨v,q⟩:=I.cell x c e
  exact absurd (bn q.lt (by rw[z];exact hb)) (gy _)
 ·exact absurd (bn (aw (I.pin p hp).1) (by rw[z];exact hb)) (gy _)
structure qL(P:Program)(w:World)(K:PySem.W.Frag)(tg:Expr)(J:It)(fp:List Addr)(it:Addr)(tn:Nat->Heap->Prop):Prop where
 mem:it∈fp
 obj:∀i h,tn i h->∀b∈fp,∃o,h.get? b=some o/\∀v,o.data≠ .cell v
 keep:∀i h h',tn i h->(∀b∈fp,∀o,h.get? b=some o->h'.get? b=some o)->tn i h'
 item:∀(X:Cx),X.prog=P->X.w=w->X.K=K->X.calm=true->∀(i:Nat) (pins:List (Addr×Obj)) (s:Shared) (σ:St) (H:Hp) (E:Value->Shared->Prop),aV X pins σ H s->(∀b∈fp,oM X pins H b)->tn i s.heap->J.go i H ->
  wpAny (model P w) X.A (pyNext (.ref it)) (fun r s1=>∃u,r=some u /\
   wpAny (model P w) X.A (letOwnedTupleGo tg (.ref it) u) (fun _ s2=>∃x H',aV X pins σ H' s2/\bF x u/\J.yld i H x H'/\tn (i+1) s2.heap/\∀b∈fp,H' b=none) E s1) E s
 done:∀(X:Cx),X.prog=P->X.w=w->X.K=K->X.calm=true->∀(i:Nat) (pins:List (Addr×Obj)) (s:Shared) (σ:St) (H:Hp) (E:Value->Shared->Prop),aV X pins σ H s->(∀b∈fp,oM X pins H b)->tn i s.heap->J.stop i H ->
  wpAny (model P w) X.A (pyNext (.ref it)) (fun r s1=>r=none/\aV X pins σ H s1) E s
 self:∀(A:Around) (i:Nat) (s:Shared) (Q:Value->Shared->Prop) (E:Value->Shared->Prop),tn i s.heap->Q (.ref it) s->wpAny (model P w) A (pyIter (.ref it)) Q E s
abbrev TI:=St->Hp->(It->Hp->Prop)->Prop
def PIE(X:Cx)(pins:List (Addr×Obj))(σ:St)(tg:Expr)(R:It->Hp->Prop)(itv:Value)(s2:Shared):Prop:=
 ∃(it:Addr) (fp:List Addr) (tn:Nat->Heap->Prop) (J:It) (H':Hp),itv= .ref it/\aV X pins σ H' s2/\qL X.prog X.w X.K tg J fp it tn/\tn 0 s2.heap/\(∀b∈fp,oM X pins H' b)/\R J H'
def PI(X:Cx)(tg iter:Expr)(wi:TI):Prop:=
 ∀(pins:List (Addr×Obj)) (s:Shared) (σ:St) (H:Hp) (R:It->Hp->Prop),aV X pins σ H s->wi σ H R ->
  wpAny (model X.prog X.w) X.A (eval iter X.env) (fun v s1=>wpAny (model X.prog X.w) X.A (pyIter v) (PIE X pins σ tg R) X.xe s1) X.xe s
def go_of{M : Model}{A : Around}{E : Value -> Shared -> Prop}{s : Shared}{tg : Expr}{it : Addr}{u : Value}{o : Obj}{n : String}{vs : Array Value}{Q : Unit -> Shared -> Prop}(ho : s.heap.get? it = some o)(hc : o.cls = .type n)(hd : o.data = .fields vs)
    (hn : ["enumerate", "zip", "dict_itemiterator", "dict_reverseitemiterator", "odict_iterator", "itertools.zip_longest", "itertools.pairwise"].contains n = false) (hQ : Q () s) : wpAny M A (letOwnedTupleGo tg (.ref it) u) Q E s:= by
  unfold letOwnedTupleGo
  cases tg<;>first
    | exact am hQ
    | (cases u<;>first
        | exact am hQ
        | (refine aa (wpAny_load ho ?_)
           rw[hc,hd]
           show wpAny M A (if (["enumerate", "zip", "dict_itemiterator", "dict_reverseitemiterator", "odict_iterator", "itertools.zip_longest", "itertools.pairwise"].contains n&&vs[0]? == some (rawInt _)) = true then _ else _) Q E s
           rw[ai (by intro h; rw[hn,Bool.false_and] at h; cases h)]
           exact am hQ))
def Itl(K:PySem.W.Frag)(a:Addr):It:=
 ⟨fun i H=>∃xs x,bR K H a xs/\xs[i]?=some x,fun i H x H'=>H'=H/\∀xs,bR K H a xs->xs[i]?=some x,fun i H=>∃xs,bR K H a xs/\xs.length<=i⟩
def Itt(K:PySem.W.Frag)(a:Addr):It:=
 ⟨fun i H=>∃xs x,aT K H a xs/\xs[i]?=some x,fun i H x H'=>H'=H/\∀xs,aT K H a xs->xs[i]?=some x,fun i H=>∃xs,aT K H a xs/\xs.length<=i⟩
def Itr(lo:Int)(n:Nat):It:=⟨fun i _=>i<n,fun i H x H'=>H'=H/\x= .int (lo+i),fun i _=>n<=i⟩
def aV1{P:Program}{w:World}{K:PySem.W.Frag}{tg:Expr}(a it:Addr):qL P w K tg (Itl K a) [it] it (fun i h=>h.IsListIter it a i) where
 mem:=by simp
 obj:=fun i h st b hb=>by
  have e:b=it:=by simpa using hb
  subst e
  obtain⟨o,e,c,d⟩:=st
  exact⟨o,e,fun v z=>by rw[d] at z;cases z⟩
 keep:=fun i h h' st k=>st.at fun o e=>k it (by simp) o e
 item:=by
  intro X hP hw hK hc i pins s σ H E I hf st hg
  subst hP hw hK
  obtain⟨xs,x,hq,hx⟩:=hg
  obtain⟨its,rv,p,hz⟩:=I.list hq
  obtain⟨u,hu,ru⟩:=rv.get hx
  obtain⟨f0,f1,f2,f3,f4,f5⟩:=hf it (by simp)
  refine wpAny_pyNext_list_item st p.isList (x:=u) (by simpa using hu) fun h' st' sb=>?_
  have I1:aV X pins σ H { s with heap:=h' }:=I.turned (t':=s.toks) (fun b o hb e=>(sb.2 b hb).trans e) f0 f1 f3 f4 f5
  obtain⟨o,e,c,d⟩:=id st'
  exact⟨u,rfl,go_of (s:={ s with heap:=h' }) e c d (by decide) ⟨x,H,I1,ru,⟨rfl,fun ys hy=>by rw[I.list_inj hy hq];exact hx⟩,st',fun b hb=>(hf b hb).1⟩⟩
 done:=by
  intro X hP hw hK hc i pins s σ H E I hf st hg
  subst hP hw hK
  obtain⟨xs,hq,hx⟩:=hg
  obtain⟨its,rv,p,hz⟩:=I.list hq
  obtain⟨f0,f1,f2,f3,f4,f5⟩:=hf it (by simp)
  have hl:=rv.length
  exact wpAny_pyNext_list_end (I.ok.hd hc) st p.isList (by simp;lia) fun h' eb=>⟨rfl,I.turned (t':=s.toks) (fun b o hb e=>eb b o hb e) f0 f1 f3 f4 f5⟩
 self:=fun _ _ _ _ _ st h=>wpAny_pyIter_listiter st h
def aL2{P:Program}{w:World}{K:PySem.W.Frag}{tg:Expr}(a it:Addr):qL P w K tg (Itt K a) [it] it (fun i h=>h.IsTupleIter it a i) where
 mem:=by simp
 obj:=fun i h st b hb=>by
  have e:b=it:=by simpa using hb
  subst e
  obtain⟨o,e,c,d⟩:=st
  exact⟨o,e,fun v z=>by rw[d] at z;cases z⟩
 keep:=fun i h h' st k=>st.at fun o e=>k it (by simp) o e
 item:=by
  intro X hP hw hK hc i pins s σ H E I hf st hg
  subst hP hw hK
  obtain⟨xs,x,hq,hx⟩:=hg
  obtain⟨its,rv,p,hz⟩:=I.tuple hq
  obtain⟨u,hu,ru⟩:=rv.get hx
  obtain⟨f0,f1,f2,f3,f4,f5⟩:=hf it (by simp)
  refine wpAny_pyNext_tuple_item st (show s.heap.IsTuple a its.toArray from p) (x:=u) (by simpa using hu) fun h' st' sb=>?_
  have I1:aV X pins σ H { s with heap:=h' }:=I.turned (t':=s.toks) (fun b o hb e=>(sb.2 b hb).trans e) f0 f1 f3 f4 f5
  obtain⟨o,e,c,d⟩:=id st'
  exact⟨u,rfl,go_of (s:={ s with heap:=h' }) e c d (by decide) ⟨x,H,I1,ru,⟨rfl,fun ys hy=>by rw[I.tuple_inj hy hq];exact hx⟩,st',fun b hb=>(hf b hb).1⟩⟩
 done:=by
  intro X hP hw hK hc i pins s σ H E I hf st hg
  subst hP hw hK
  obtain⟨xs,hq,hx⟩:=hg
  obtain⟨its,rv,p,hz⟩:=I.tuple hq
  obtain⟨f0,f1,f2,f3,f4,f5⟩:=hf it (by simp)
  have hl:=rv.length
  exact wpAny_pyNext_tuple_end (I.ok.hd hc) st (show s.heap.IsTuple a its.toArray from p) (by simp;lia) fun h' eb=>⟨rfl,I.turned (t':=s.toks) (fun b o hb e=>eb b o hb e) f0 f1 f3 f4 f5⟩
 self:=fun _ _ _ _ _ st h=>wpAny_pyIter_tupleiter st h
def aI6{P:Program}{w:World}{K:PySem.W.Frag}{tg:Expr}(it:Addr)(lo:Int)(n:Nat):qL P w K tg (Itr lo n) [it] it (fun i h=>IsRangeIter h it (lo+(i:Nat)*1) ((n:Int)-(i:Nat)) 1) where
 mem:=by simp
 obj:=fun i h st b hb=>by
  have e:b=it:=by simpa using hb
  subst e
  exact⟨_,st,fun v z=>by
   have z':Data.fields _=Data.cell v:=z
   cases z'⟩
 keep:=fun i h h' st k=>k it (by simp) _ st
 item:=by
  intro X hP hw hK hc i pins s σ H E I hf st hg
  subst hP hw hK
  obtain⟨f0,f1,f2,f3,f4,f5⟩:=hf it (by simp)
  have W:=Walks.range (prog:=X.prog) (w:=X.w) (I.ok.hd hc) it lo 1 n
  refine W.item i s _ _ hg st fun v h' tk hv st' kk=>?_
  obtain⟨t,rfl⟩:=hv
  have I1:aV X pins σ H { s with heap:=h',toks:=tk }:=I.turned (fun b o hb e=>kk b o (by simpa using hb) e) f0 f1 f3 f4 f5
  refine⟨_,rfl,go_of (s:={ s with heap:=h',toks:=tk }) (n:="range_iterator") st' rfl rfl (by decide) ⟨.int (lo+i),H,I1,⟨t,?_⟩,⟨rfl,rfl⟩,st',fun b hb=>(hf b hb).1⟩⟩
  rw[ku]
 done:=by
  intro X hP hw hK hc i pins s σ H E I hf st hg
  subst hP hw hK
  obtain⟨f0,f1,f2,f3,f4,f5⟩:=hf it (by simp)
  exact wpAny_pyNext_range_end (I.ok.hd hc) st (by have:n<=i:=hg;lia) fun h' eb=>⟨rfl,I.turned (t':=s.toks) (fun b o hb e=>eb b o hb e) f0 f1 f3 f4 f5⟩
 self:=fun _ _ _ _ _ st h=>wpAny_pyIter_rangeiter st h
section
variable {X:Cx}{tg:Expr}
def cJ9(K:PySem.W.Frag)(tl:TE):TI:=fun σ H R=>tl σ H fun x H1=>∃a,x= .ref a/\(∃xs,bR K H1 a xs)/\R (Itl K a) H1
def cX7(K:PySem.W.Frag)(tl:TE):TI:=fun σ H R=>tl σ H fun x H1=>∃a,x= .ref a/\(∃xs,aT K H1 a xs)/\R (Itt K a) H1
def iT{l:Expr}{tl:TE}(hl:PE X l tl):PI X tg l (cJ9 X.K tl):=by
 intro pins s σ H R I h
 refine cW (hl pins s σ H _ I h) ?_;rintro v s1 ⟨x,H1,I1,r1,q1⟩
 obtain⟨a,e,⟨xs,hq⟩,q⟩:=q1
 subst e
 cases r1
 obtain⟨its,rv,p,hz⟩:=I1.list hq
 refine wpAny_pyIter_list p.isList ?_
 refine⟨s1.heap.objs.size,[s1.heap.objs.size],_,_,H1,rfl,I1.kept (t':=s1.toks) fun b o e=>ah _ e,aV1 a _,⟨_,be _ rfl,rfl,rfl⟩,fun b hb=>?_,q⟩
 have e:b=s1.heap.objs.size:=by simpa using hb
 subst e
 exact I1.fpOk (af _) (I1.hok.fresh (af _))
def mU{l:Expr}{tl:TE}(hl:PE X l tl):PI X tg l (cX7 X.K tl):=by
 intro pins s σ H R I h
 refine cW (hl pins s σ H _ I h) ?_;rintro v s1 ⟨x,H1,I1,r1,q1⟩
 obtain⟨a,e,⟨xs,hq⟩,q⟩:=q1
 subst e
 cases r1
 obtain⟨its,rv,p,hz⟩:=I1.tuple hq
 refine jv (show s1.heap.IsTuple a its.toArray from p) ?_
 refine⟨s1.heap.objs.size,[s1.heap.objs.size],_,_,H1,rfl,I1.kept (t':=s1.toks) fun b o e=>ah _ e,aL2 a _,⟨_,be _ rfl,rfl,rfl⟩,fun b hb=>?_,q⟩
 have e:b=s1.heap.objs.size:=by simpa using hb
 subst e
 exact I1.fpOk (af _) (I1.hok.fresh (af _))
def aE7{pins:List (Addr×Obj)}{σ:St}{H:Hp}{s:Shared}{R:It->Hp->Prop}{E:Value->Shared->Prop}{lo hi:Int}{t u v:Tok}{tk:Nat}(I:aV X pins σ H s)(h1: -(2^62)<=lo)(h2:lo<2^62)(h3: -(2^62)<=hi)(h4:hi<2^62)
  (q:R (Itr lo (hi-lo).toNat) H):wpAny (model X.prog X.w) X.A (pyIter (.ref s.heap.objs.size)) (PIE X pins σ tg R) E { s with heap:=s.heap.push { cls:= .type "range",data:= .fields #[.int lo t,.int hi u,.int 1 v] },toks:=tk }:=by
 refine wpAny_pyIter_range (IsRange.new ..) (small_one h1 h2 h3 h4) ?_
 have I1:aV X pins σ H { s with heap:=s.heap.push { cls:= .type "range",data:= .fields #[.int lo t,.int hi u,.int 1 v] },toks:=tk }:=I.kept fun b o e=>ah _ e
 refine⟨(s.heap.push { cls:= .type "range",data:= .fields #[.int lo t,.int hi u,.int 1 v] }).objs.size,[(s.heap.push { cls:= .type "range",data:= .fields #[.int lo t,.int hi u,.int 1 v] }).objs.size],_,_,H,rfl,
  I1.kept (t':=tk) fun b o e=>ah _ e,aI6 _ lo (hi-lo).toNat,?_,fun b hb=>?_,q⟩
 ·have e1:lo+((0:Nat):Int)*1=lo:=by simp
  have e2:(((hi-lo).toNat:Nat):Int)-((0:Nat):Int)=Builtin.Range.rangeSize lo hi 1:=by rw[rangeSize_one];split<;>lia
  show IsRangeIter _ _ (lo+((0:Nat):Int)*1) ((((hi-lo).toNat:Nat):Int)-((0:Nat):Int)) 1
  rw[e1,e2]
  exact be _ rfl
 ·have e:b=(s.heap.push { cls:= .type "range",data:= .fields #[.int lo t,.int hi u,.int 1 v] }).objs.size:=by simpa using hb
  subst e
  exact I1.fpOk (af _) (I1.hok.fresh (af _))
def cM9(ta:TA):TI:=fun σ H R=>ta σ H fun vs H1=>∃j:Int,vs=[.int j]/\ -(2^62)<=j/\j<2^62/\R (Itr 0 j.toNat) H1
def cT7(ta:TA):TI:=fun σ H R=>ta σ H fun vs H1=>∃i j:Int,vs=[.int i,.int j]/\(-(2^62)<=i/\i<2^62/\ -(2^62)<=j/\j<2^62)/\R (Itr i (j-i).toNat) H1
def eK{a:Expr}{ta:TA}{p pos:Pos}(hg:Gl X "range")(hm:X.mg "range"=none)(ha:PA X [a] ta)(hs:starEach [a] X.env=[(false,eval a X.env)]:=by rfl):PI X tg (.Call (.Name "range" p) [a] [] pos) (cM9 ta):=by
 intro pins s σ H R I h
 refine Call_ (iV I hg hm boot_range (fq (cW (ha pos pins s σ H _ I h) ?_) hs rfl));rintro us s1 ⟨vs,H1,I1,r1,q1⟩
 obtain⟨j,e,q1,q2,q⟩:=q1
 subst e
 cases r1 with
 |cons r rr =>
  cases rr
  obtain⟨t,rfl⟩:=r
  exact call_range_1 (aE7 I1 (by lia) (by lia) q1 q2 (by simpa using q))
def pI{a b:Expr}{ta:TA}{p pos:Pos}(hg:Gl X "range")(hm:X.mg "range"=none)(ha:PA X [a,b] ta)(hs:starEach [a,b] X.env=[(false,eval a X.env),(false,eval b X.env)]:=by rfl)(hs2:starEach [b] X.env=[(false,eval b X.env)]:=by rfl) :
  PI X tg (.Call (.Name "range" p) [a,b] [] pos) (cT7 ta):=by
 intro pins s σ H R I h
 refine Call_ (iV I hg hm boot_range (fq (cW (ha pos pins s σ H _ I h) fun us s1 ⟨vs,H1,I1,r1,q1⟩=>?_) (by rw[hs,hs2]) (by rw[hs2];rfl)))
 obtain⟨i,j,e,⟨q1,q2,q3,q4⟩,q⟩:=q1
 subst e
 cases r1 with
 |cons r rr =>
  cases rr with
  |cons r' rr =>
   cases rr
   obtain⟨t,rfl⟩:=r
   obtain⟨t',rfl⟩:=r'
   exact call_range_2 (aE7 I1 q1 q2 q3 q4 q)
def cO1(wi:TI)(g:TG)(tb:TS):TS:=fun D σ H=>wi σ H fun J H1=>∃W:Nat->Nat->St->Hp->Prop,(∃m,W 0 m σ H1)/\∀i m σ H,W i m σ H ->
 (J.stop i H/\D.nx σ H)\/(J.go i H/\∃N:St->Hp->Prop,(∀σ' H',N σ' H'->∃m',m'<m/\W (i+1) m' σ' H')/\∀x H',J.yld i H x H'->g x σ H' fun σ2 H2=>tb { D with nx:=N,ct:=N,bk:=D.nx } σ2 H2)
def hZ(fp:List Addr)(h:Heap):List (Addr×Obj):=fp.filterMap fun b=>(h.get? b).map fun o=>(b,o)
def iC{fp:List Addr}{h:Heap}{b:Addr}{o:Obj}(hb:b∈fp)(e:h.get? b=some o):(b,o)∈hZ fp h:=uf.mpr ⟨b,hb,by rw[e];rfl⟩
def xC{fp:List Addr}{h:Heap}{p:Addr×Obj}(hp:p∈hZ fp h):p.1∈fp/\h.get? p.1=some p.2:=by
 obtain⟨b,hb,e⟩:=uf.mp hp
 cases q:h.get? b with
 |none=>rw[q] at e;cases e
 |some o =>
  rw[q] at e
  have e':(b,o)=p:=cq e
  subst e'
  exact⟨hb,q⟩
def aV.pinned{pins:List (Addr×Obj)}{σ:St}{H:Hp}{s:Shared}{fp:List Addr}(I:aV X pins σ H s)(hf:∀b∈fp,oM X pins H b)(ho:∀b∈fp,∃o,s.heap.get? b=some o/\∀v,o.data≠ .cell v):aV X (pins++hZ fp s.heap) σ H s:=
 I.pins_of fun p hp=>(br.mp hp).elim (fun z=>I.pin p (cg _ z)) fun z=>by
  obtain⟨hb,e⟩:=xC z
  obtain⟨f0,f1,f2,_⟩:=hf p.1 hb
  obtain⟨o,e',d⟩:=ho p.1 hb
  rw[e] at e';cases e'
  exact⟨e,f0,f1,f2,d⟩
def aV.unpinned{pins pl:List (Addr×Obj)}{σ:St}{H:Hp}{s:Shared}(I:aV X (pins++pl) σ H s):aV X pins σ H s:=I.pins_of fun p hp=>I.pin p (cg _ (dw _ hp))
def cG9{iter:Expr}{body:List Stmt}{wi:TI}{g:TG}{tb:TS}{pos:Pos}(hp:PassesOwn (model X.prog X.w) X.A X.env X.xe)(hc:X.calm=true)(hi:PI X tg iter wi)(hg:PG X tg g)(hb:yW X body tb)
  (hs:∀x,foldedSetIterable iter X.env x=pure x:=by intro _;rfl):PS X (.For tg iter body [] pos) (cO1 wi g tb):=by
 intro pins s σ H D I h
 refine wpAny_For (cW (hi pins s σ H _ I h) fun v s1 h1=>cW h1 fun itv s2 h2=>?_) hs
 obtain⟨it,fp,tn,J,H2,e,I2,T,st2,f2,W,⟨m0,w0⟩,turn⟩:=h2
 subst e
 have stat:∀{H':Hp},(∀b∈fp,H' b=none)->∀b∈fp,oM X pins H' b:=fun hn b hb=>⟨hn b hb,(f2 b hb).2⟩
 refine codeAny_forLoop_any (fun n s'=>∃i σ' H',aV X pins σ' H' s'/\tn i s'.heap/\(∀b∈fp,H' b=none)/\W i n σ' H') ?_ m0 ⟨0,σ,H2,I2,st2,fun b hb=>(f2 b hb).1,w0⟩
 rintro n s3 ⟨i,σ3,H3,I3,st3,fr3,w3⟩
 rcases turn i n σ3 H3 w3 with⟨stop,qn⟩|⟨go,N,hN,step⟩
 ·refine jz hp (cW (T.done X rfl rfl rfl hc i pins s3 σ3 H3 X.xe I3 (stat fr3) st3 stop) ?_);rintro r s4 ⟨hr,I4⟩
  subst hr
  exact re ⟨σ3,H3,I4,qn⟩
 ·refine jz hp (cW (T.item X rfl rfl rfl hc i pins s3 σ3 H3 X.xe I3 (stat fr3) st3 go) ?_);rintro r s4 ⟨u,hr,h4⟩
  subst hr
  refine jz hp (cW h4 ?_);rintro _ s5 ⟨x,H5,I5,r5,y5,st5,fr5⟩
  have I5':=I5.pinned (stat fr5) (T.obj _ _ st5)
  refine jz hp (cW (hg _ s5 σ3 H5 x u _ I5' r5 (step x H5 y5)) ?_);rintro _ s6 ⟨σ6,H6,I6,q6⟩
  refine jz hp (cW (hb _ s6 σ6 H6 _ I6 q6) fun f s7 q7=>?_)
  have again:∀{σ7:St}{H7:Hp},aV X (pins++hZ fp s5.heap) σ7 H7 s7->N σ7 H7->∃m,m<n/\∃i σ' H',aV X pins σ' H' s7/\tn i s7.heap/\(∀b∈fp,H' b=none)/\W i m σ' H':=fun {σ7 H7} I7 n7=>by
   obtain⟨m',hm,w7⟩:=hN σ7 H7 n7
   refine⟨m',hm,i+1,σ7,H7,I7.unpinned,T.keep _ _ _ st5 fun b hb o e=>(I7.pin (b,o) (cg _ (cg _ (iC hb e)))).1,fun b hb=>?_,w7⟩
   obtain⟨o,e,d⟩:=T.obj _ _ st5 b hb
   exact(I7.pin (b,o) (cg _ (cg _ (iC hb e)))).2.1
  cases f with
  |next=>obtain⟨σ7,H7,I7,n7⟩:=q7;exact again I7 n7
  |cont=>obtain⟨σ7,H7,I7,n7⟩:=q7;exact again I7 n7
  |brk=>obtain⟨σ7,H7,I7,q7⟩:=q7;exact⟨σ7,H7,I7.unpinned,q7⟩
  |ret v=>obtain⟨x7,σ7,H7,I7,r7,q7⟩:=q7;exact⟨x7,σ7,H7,I7.unpinned,r7,q7⟩
end
def sQ{K:PySem.W.Frag}{a:Addr}{xs:List V}{g:TG}{tb:TS}{D:fG}{σ:St}{H:Hp}(Pv:Nat->St->Hp->Prop)(h0:Pv 0 σ H)(hl:∀i σ H,i<=xs.length->Pv i σ H->bR K H a xs)
  (hs:∀i x σ H,xs[i]?=some x->Pv i σ H->g x σ H fun σ2 H2=>tb { D with nx:=Pv (i+1),ct:=Pv (i+1),bk:=D.nx } σ2 H2) (hd:∀σ H,Pv xs.length σ H->D.nx σ H) :
  ∃W:Nat->Nat->St->Hp->Prop,(∃m,W 0 m σ H)/\∀i m σ H,W i m σ H ->
   ((Itl K a).stop i H/\D.nx σ H)\/((Itl K a).go i H/\∃N:St->Hp->Prop,(∀σ' H',N σ' H'->∃m',m'<m/\W (i+1) m' σ' H')/\∀x H',(Itl K a).yld i H x H'->g x σ H' fun σ2 H2=>tb { D with nx:=N,ct:=N,bk:=D.nx } σ2 H2):=by
 refine⟨fun i m σ H=>m=xs.length-i/\i<=xs.length/\Pv i σ H,⟨xs.length,by simp,bi _,h0⟩,?_⟩
 rintro i m σ H ⟨rfl,hi,p⟩
 have q:=hl i σ H hi p
 by_cases hlt:i<xs.length
 ·refine .inr ⟨⟨xs,xs[i],q,by simp[hlt]⟩,Pv (i+1),fun σ' H' p'=>⟨xs.length-(i+1),fw hlt (dz i),rfl,hlt,p'⟩,fun x H' y=>?_⟩
  obtain⟨e,y⟩:=y
  subst e
  exact hs i x σ _ (y xs q) p
 ·have e:i=xs.length:=by lia
  subst e
  exact .inl ⟨⟨xs,q,af _⟩,hd σ H p⟩
def aR1{K:PySem.W.Frag}{a:Addr}{xs:List V}{g:TG}{tb:TS}{D:fG}{σ:St}{H:Hp}(Pv:Nat->St->Hp->Prop)(h0:Pv 0 σ H)(hl:∀i σ H,i<=xs.length->Pv i σ H->aT K H a xs)
  (hs:∀i x σ H,xs[i]?=some x->Pv i σ H->g x σ H fun σ2 H2=>tb { D with nx:=Pv (i+1),ct:=Pv (i+1),bk:=D.nx } σ2 H2) (hd:∀σ H,Pv xs.length σ H->D.nx σ H) :
  ∃W:Nat->Nat->St->Hp->Prop,(∃m,W 0 m σ H)/\∀i m σ H,W i m σ H ->
   ((Itt K a).stop i H/\D.nx σ H)\/((Itt K a).go i H/\∃N:St->Hp->Prop,(∀σ' H',N σ' H'->∃m',m'<m/\W (i+1) m' σ' H')/\∀x H',(Itt K a).yld i H x H'->g x σ H' fun σ2 H2=>tb { D with nx:=N,ct:=N,bk:=D.nx } σ2 H2):=by
 refine⟨fun i m σ H=>m=xs.length-i/\i<=xs.length/\Pv i σ H,⟨xs.length,by simp,bi _,h0⟩,?_⟩
 rintro i m σ H ⟨rfl,hi,p⟩
 have q:=hl i σ H hi p
 by_cases hlt:i<xs.length
 ·refine .inr ⟨⟨xs,xs[i],q,by simp[hlt]⟩,Pv (i+1),fun σ' H' p'=>⟨xs.length-(i+1),fw hlt (dz i),rfl,hlt,p'⟩,fun x H' y=>?_⟩
  obtain⟨e,y⟩:=y
  subst e
  exact hs i x σ _ (y xs q) p
 ·have e:i=xs.length:=by lia
  subst e
  exact .inl ⟨⟨xs,q,af _⟩,hd σ H p⟩
def xD{lo:Int}{n:Nat}{g:TG}{tb:TS}{D:fG}{σ:St}{H:Hp}(Pv:Nat->St->Hp->Prop)(h0:Pv 0 σ H)
  (hs:∀i σ H,i<n->Pv i σ H->g (.int (lo+i)) σ H fun σ2 H2=>tb { D with nx:=Pv (i+1),ct:=Pv (i+1),bk:=D.nx } σ2 H2) (hd:∀σ H,Pv n σ H->D.nx σ H) :
  ∃W:Nat->Nat->St->Hp->Prop,(∃m,W 0 m σ H)/\∀i m σ H,W i m σ H ->
   ((Itr lo n).stop i H/\D.nx σ H)\/((Itr lo n).go i H/\∃N:St->Hp->Prop,(∀σ' H',N σ' H'->∃m',m'<m/\W (i+1) m' σ' H')/\∀x H',(Itr lo n).yld i H x H'->g x σ H' fun σ2 H2=>tb { D with nx:=N,ct:=N,bk:=D.nx } σ2 H2):=by
 refine⟨fun i m σ H=>m=n-i/\i<=n/\Pv i σ H,⟨n,by simp,bi _,h0⟩,?_⟩
 rintro i m σ H ⟨rfl,hi,p⟩
 by_cases hlt:i<n
 ·refine .inr ⟨hlt,Pv (i+1),fun σ' H' p'=>⟨n-(i+1),fw hlt (dz i),rfl,hlt,p'⟩,fun x H' y=>?_⟩
  obtain⟨e,y⟩:=y
  subst e y
  exact hs i σ _ hlt p
 ·have e:i=n:=by lia
  subst e
  exact .inl ⟨af _,hd σ H p⟩
abbrev R2:=V->V->Hp->VK->Prop
def kM(X:Cx)(f:Value->Value->Sem Value)(r:R2):Prop:=
 ∀(pins:List (Addr×Obj)) (s:Shared) (σ:St) (H:Hp) (x y:V) (v u:Value) (Q:VK),aV X pins σ H s->bF x v->bF y u->r x y H Q ->
  wpAny (model X.prog X.w) X.A (f v u) (EP X pins σ Q) X.xe s
def UnR(X:Cx)(f:Value->Sem Value)(r:V->Hp->VK->Prop):Prop:=
 ∀(pins:List (Addr×Obj)) (s:Shared) (σ:St) (H:Hp) (x:V) (v:Value) (Q:VK),aV X pins σ H s->bF x v->r x H Q ->
  wpAny (model X.prog X.w) X.A (f v) (EP X pins σ Q) X.xe s
def eU(X:Cx)(f:Value)(r:List V->Hp->VK->Prop):Prop:=
 ∀(pins:List (Addr×Obj)) (s:Shared) (σ:St) (H:Hp) (xs:List V) (us:List Value) (Q:VK),aV X pins σ H s->bC xs us->r xs H Q ->
  wpAny (model X.prog X.w) X.A (call f us) (EP X pins σ Q) X.xe s
def cW4(X:Cx)(r:V->Hp->(Bool->Hp->Prop)->Prop):Prop:=
 ∀(pins:List (Addr×Obj)) (s:Shared) (σ:St) (H:Hp) (x:V) (v:Value) (Q:Bool->Hp->Prop),aV X pins σ H s->bF x v->r x H Q ->
  wpAny (model X.prog X.w) X.A (truthy v) (TP X pins σ Q) X.xe s
def tOp(r:R2)(ta tb:TE):TE:=fun σ H Q=>ta σ H fun x H1=>tb σ H1 fun y H2=>r x y H2 Q
def tUn(r:V->Hp->VK->Prop)(ta:TE):TE:=fun σ H Q=>ta σ H fun x H1=>r x H1 Q
def rI(C:Int->Int->Prop)(g:Int->Int->V):R2:=fun x y H Q=>∃i j,x= .int i/\y= .int j/\C i j/\Q (g i j) H
def rI0(g:Int->Int->V):R2:=fun x y H Q=>∃i j,x= .int i/\y= .int j/\Q (g i j) H
def rU(g:Int->V):V->Hp->VK->Prop:=fun x H Q=>∃i,x= .int i/\Q (g i) H
section
variable {X:Cx}{a b c:Expr}{ta tb tc:TE}{pos:Pos}
def cF7(ha:PE X a ta)(hb:PE X b tb){pins:List (Addr×Obj)}{s:Shared}{σ:St}{H:Hp}{R:V->V->Hp->Prop}(I:aV X pins σ H s)
  (h:ta σ H fun x H1=>tb σ H1 fun y H2=>R x y H2) {Q:Value->Shared->Prop}{f:Value->Value->Sem Value}
  (hf:∀v u s2 x y H2,aV X pins σ H2 s2->bF x v->bF y u->R x y H2->wpAny (model X.prog X.w) X.A (f v u) Q X.xe s2) :
  wpAny (model X.prog X.w) X.A (eval a X.env) (fun v s₁=>wpAny (model X.prog X.w) X.A (eval b X.env) (fun u s₂=>wpAny (model X.prog X.w) X.A (f v u) Q X.xe s₂) X.xe s₁) X.xe s:=by
 refine cW (ha pins s σ H _ I h) ?_;rintro v s1 ⟨x,H1,I1,r1,q1⟩
 refine cW (hb pins s1 σ H1 _ I1 q1) ?_;rintro u s2 ⟨y,H2,I2,r2,q2⟩
 exact hf v u s2 x y H2 I2 r1 r2 q2
def aI{op:Operator}{r:R2}(ho:kM X (binaryOp op) r)(ha:PE X a ta)(hb:PE X b tb):PE X (.BinOp a op b pos) (tOp r ta tb):=by
 intro pins s σ H Q I h
 exact wpAny_BinOp (cF7 ha hb I h fun v u s2 x y H2 I2 rx ry q=>ho pins s2 σ H2 x y v u Q I2 rx ry q)
def bJ9{op:UnaryOp}{r:V->Hp->VK->Prop}(ho:UnR X (unaryOp op) r)(ha:PE X a ta):PE X (.UnaryOp op a pos) (tUn r ta):=by
 intro pins s σ H Q I h
 refine UnaryOp_ (cW (ha pins s σ H _ I h) ?_);rintro v s1 ⟨x,H1,I1,r1,q1⟩;exact ho pins s1 σ H1 x v Q I1 r1 q1
def opI{f:Value->Value->Sem Value}{C:Int->Int->Prop}{g:Int->Int->Int}
  (rule:∀(i j:Int) (t u:Tok) (s:Shared) (Q:Value->Shared->Prop) (E:Value->Shared->Prop),C i j->Q (.int (g i j) s.toks) { s with toks:=s.toks+1 }->wpAny (model X.prog X.w) X.A (f (.int i t) (.int j u)) Q E s) :
  kM X f (rI C fun i j=> .int (g i j)):=by
 intro pins s σ H x y v u Q I rx ry h
 obtain⟨i,j,rfl,rfl,hc,q⟩:=h
 obtain⟨t,rfl⟩:=rx
 obtain⟨t',rfl⟩:=ry
 exact rule i j t t' s _ _ hc ⟨.int (g i j),H,I.tok _,⟨_,rfl⟩,q⟩
def cJ7{f:Value->Value->Sem Value}{g:Int->Int->Int}
  (rule:∀(i j:Int) (t u:Tok) (s:Shared) (Q:Value->Shared->Prop) (E:Value->Shared->Prop),Q (.int (g i j) s.toks) { s with toks:=s.toks+1 }->wpAny (model X.prog X.w) X.A (f (.int i t) (.int j u)) Q E s) :
  kM X f (rI0 fun i j=> .int (g i j)):=by
 intro pins s σ H x y v u Q I rx ry h
 obtain⟨i,j,rfl,rfl,q⟩:=h
 obtain⟨t,rfl⟩:=rx
 obtain⟨t',rfl⟩:=ry
 exact rule i j t t' s _ _ ⟨.int (g i j),H,I.tok _,⟨_,rfl⟩,q⟩
def bO8{f:Value->Value->Sem Value}{g:Int->Int->Bool}
  (rule:∀(i j:Int) (t u:Tok) (s:Shared) (Q:Value->Shared->Prop) (E:Value->Shared->Prop),Q (.bool (g i j)) s->wpAny (model X.prog X.w) X.A (f (.int i t) (.int j u)) Q E s) :
  kM X f (rI0 fun i j=> .bl (g i j)):=by
 intro pins s σ H x y v u Q I rx ry h
 obtain⟨i,j,rfl,rfl,q⟩:=h
 obtain⟨t,rfl⟩:=rx
 obtain⟨t',rfl⟩:=ry
 exact rule i j t t' s _ _ ⟨.bl (g i j),H,I,rfl,q⟩
def cX2(i j:Int):Prop:=0<=j/\j<=1000000/\i.natAbs<2^64
def cB2(i j:Int):Prop:=(-(2^64)<i/\i<2^64)\/(-(2^64)<j/\j<2^64)
def cB2.ok{i j:Int}(h:cB2 i j):IntMulOk i j:=by
 rcases h with⟨h1,h2⟩|⟨h1,h2⟩
 ·exact .of_left (intBits_le_64 h1 h2)
 ·exact .of_right (intBits_le_64 h1 h2)
def bE:kM X (binaryOp .Add) (rI0 fun i j=> .int (i+j)):=cJ7 fun _ _ _ _ _ _ _ q=>add_int q
def cQ:kM X (binaryOp .Sub) (rI0 fun i j=> .int (i-j)):=cJ7 fun _ _ _ _ _ _ _ q=>sub_int q
def kX:kM X (binaryOp .Mult) (rI cB2 fun i j=> .int (i*j)):=opI fun _ _ _ _ _ _ _ hc q=>mul_int q hc.ok
def eW:kM X (binaryOp .Mod) (rI (fun _ j=>0<j) fun i j=> .int (i % j)):=opI fun i j _ _ _ _ _ hc q=>by
 have h1:(0:Int)<j:=hc
 exact mod_int' (by lia) (by rw[Int.fmod_eq_emod_of_nonneg i (by lia)];exact q)
def cE9:kM X (binaryOp .Pow) (rI cX2 fun i j=> .int (i^j.toNat)):=opI fun _ _ _ _ _ _ _ hc q=>pow_int_small hc.1 hc.2.1 hc.2.2 q
def unI{f:Value->Sem Value}{g:Int->Int}
  (rule:∀(i:Int) (t:Tok) (s:Shared) (Q:Value->Shared->Prop) (E:Value->Shared->Prop),Q (.int (g i) s.toks) { s with toks:=s.toks+1 }->wpAny (model X.prog X.w) X.A (f (.int i t)) Q E s) :
  UnR X f (rU fun i=> .int (g i)):=by
 intro pins s σ H x v Q I rx h
 obtain⟨i,rfl,q⟩:=h
 obtain⟨t,rfl⟩:=rx
 exact rule i t s _ _ ⟨.int (g i),H,I.tok _,⟨_,rfl⟩,q⟩
def aF4:UnR X (unaryOp .USub) (rU fun i=> .int (-i)):=unI fun _ _ _ _ _ q=>neg_int q
end
def cN8:V->V->Bool
 |.non,.non=>true | .non,.int _=>true | .int _,.non=>true | .non,.bl _=>true | .bl _,.non=>true | .non,.str _=>true | .str _,.non=>true
 |.int _,.int _=>true | .bl _,.bl _=>true | .str _,.str _=>true | .byt _,.byt _=>true
 |.int _,.str _=>true | .str _,.int _=>true | .bl _,.str _=>true | .str _,.bl _=>true
 |_,_=>false
def rEq:R2:=fun x y H Q=>cN8 x y=true/\Q (.bl (decide (x=y))) H
def rNe:R2:=fun x y H Q=>cN8 x y=true/\Q (.bl (!decide (x=y))) H
def aN1{i j:Int}:decide (V.int i=V.int j)=(i==j):=by
 rw[mf]
 simp
def aZ9{i j:Bool}:decide (V.bl i=V.bl j)=(i==j):=by
 rw[mf]
 simp
def aQ1{i j:Str}:decide (V.str i=V.str j)=(i==j):=by
 rw[mf]
 simp
def aR6{i j:Array UInt8}:decide (V.byt i=V.byt j)=(i.toList==j.toList):=by
 rw[mf]
 cases i
 cases j
 simp
section
variable {X:Cx}{a b c:Expr}{ta tb tc:TE}{pos:Pos}
def cB{pins:List (Addr×Obj)}{σ:St}{H:Hp}{s:Shared}{Q:VK}{k k':Bool}(I:aV X pins σ H s)(q:Q (.bl k) H)(e:k=k'):EP X pins σ Q (.bool k') s:=by
 subst e
 exact⟨.bl k,H,I,rfl,q⟩
def cG:kM X (compareOp .Eq) rEq:=by
 intro pins s σ H x y v u Q I rx ry h
 obtain⟨hs,q⟩:=h
 cases x with
 |non =>
  cases rx
  cases y with
  |non=>cases ry;exact PySem.EqNone.eq_none_none (cB I q (by simp))
  |bl j=>cases ry;exact PySem.EqNone.eq_none_bool (cB I q (by simp))
  |int j=>obtain⟨t',rfl⟩:=ry;exact PySem.EqNone.eq_none_int (cB I q (by simp))
  |str j=>obtain⟨t',rfl⟩:=ry;exact PySem.EqNone.eq_none_str (cB I q (by simp))
  |_=>exact absurd (show false=true from hs) bu
 |bl i =>
  cases rx
  cases y with
  |non=>cases ry;exact PySem.EqNone.eq_bool_none (cB I q (by simp))
  |bl j=>cases ry;exact eq_bool (cB I q aZ9)
  |str j=>obtain⟨t',rfl⟩:=ry;exact PySem.EqMixed.eq_bool_str (cB I q (by simp))
  |_=>exact absurd (show false=true from hs) bu
 |int i =>
  obtain⟨t,rfl⟩:=rx
  cases y with
  |non=>cases ry;exact PySem.EqNone.eq_int_none (cB I q (by simp))
  |int j=>obtain⟨t',rfl⟩:=ry;exact eq_int (cB I q aN1)
  |str j=>obtain⟨t',rfl⟩:=ry;exact PySem.EqMixed.eq_int_str (cB I q (by simp))
  |_=>exact absurd (show false=true from hs) bu
 |str i =>
  obtain⟨t,rfl⟩:=rx
  cases y with
  |non=>cases ry;exact PySem.EqNone.eq_str_none (cB I q (by simp))
  |bl j=>cases ry;exact PySem.EqMixed.eq_str_bool (cB I q (by simp))
  |int j=>obtain⟨t',rfl⟩:=ry;exact PySem.EqMixed.eq_str_int (cB I q (by simp))
  |str j=>obtain⟨t',rfl⟩:=ry;exact eq_str (cB I q aQ1)
  |_=>exact absurd (show false=true from hs) bu
 |byt i =>
  obtain⟨t,rfl⟩:=rx
  cases y with
  |byt j=>obtain⟨t',rfl⟩:=ry;exact PySem.W.eq_bytes (cB I q aR6)
  |_=>exact absurd (show false=true from hs) bu
 |_=>cases y<;>exact absurd (show false=true from hs) bu
def bK7:kM X (compareOp .NotEq) rNe:=by
 intro pins s σ H x y v u Q I rx ry h
 obtain⟨hs,q⟩:=h
 cases x with
 |non =>
  cases rx
  cases y with
  |non=>cases ry;exact PySem.EqNone.ne_none_none (cB I q (by simp))
  |bl j=>cases ry;exact PySem.EqNone.ne_none_bool (cB I q (by simp))
  |int j=>obtain⟨t',rfl⟩:=ry;exact PySem.EqNone.ne_none_int (cB I q (by simp))
  |str j=>obtain⟨t',rfl⟩:=ry;exact PySem.EqNone.ne_none_str (cB I q (by simp))
  |_=>exact absurd (show false=true from hs) bu
 |bl i =>
  cases rx
  cases y with
  |non=>cases ry;exact PySem.EqNone.ne_bool_none (cB I q (by simp))
  |bl j=>cases ry;exact ne_bool (cB I q (gv not aZ9))
  |str j=>obtain⟨t',rfl⟩:=ry;exact PySem.EqMixed.ne_bool_str (cB I q (by simp))
  |_=>exact absurd (show false=true from hs) bu
 |int i =>
  obtain⟨t,rfl⟩:=rx
  cases y with
  |non=>cases ry;exact PySem.EqNone.ne_int_none (cB I q (by simp))
  |int j=>obtain⟨t',rfl⟩:=ry;exact ne_int (cB I q (gv not aN1))
  |str j=>obtain⟨t',rfl⟩:=ry;exact PySem.EqMixed.ne_int_str (cB I q (by simp))
  |_=>exact absurd (show false=true from hs) bu
 |str i =>
  obtain⟨t,rfl⟩:=rx
  cases y with
  |non=>cases ry;exact PySem.EqNone.ne_str_none (cB I q (by simp))
  |bl j=>cases ry;exact PySem.EqMixed.ne_str_bool (cB I q (by simp))
  |int j=>obtain⟨t',rfl⟩:=ry;exact PySem.EqMixed.ne_str_int (cB I q (by simp))
  |str j=>obtain⟨t',rfl⟩:=ry;exact ne_str (cB I q (gv not aQ1))
  |_=>exact absurd (show false=true from hs) bu
 |byt i =>
  obtain⟨t,rfl⟩:=rx
  cases y with
  |byt j=>obtain⟨t',rfl⟩:=ry;exact PySem.W.ne_bytes (cB I q (gv not aR6))
  |_=>exact absurd (show false=true from hs) bu
 |_=>cases y<;>exact absurd (show false=true from hs) bu
def lX:kM X (compareOp .Lt) (rI0 fun i j=> .bl (decide (i<j))):=bO8 fun _ _ _ _ _ _ _ q=>lt_int q
def bD5:kM X (compareOp .LtE) (rI0 fun i j=> .bl (decide (i<=j))):=bO8 fun _ _ _ _ _ _ _ q=>le_int q
def iP:kM X (compareOp .Gt) (rI0 fun i j=> .bl (decide (j<i))):=bO8 fun _ _ _ _ _ _ _ q=>gt_int q
def bW8:kM X (compareOp .GtE) (rI0 fun i j=> .bl (decide (j<=i))):=bO8 fun _ _ _ _ _ _ _ q=>ge_int q
def bH8(b:Expr){op:CmpOp}(h:op≠ .In:=by decide)(h2:op≠ .NotIn:=by decide):behindInMarks op b=false:=by
 have e1:(op==CmpOp.In)=false:=by cases op<;>first|rfl|exact absurd rfl h
 have e2:(op==CmpOp.NotIn)=false:=by cases op<;>first|rfl|exact absurd rfl h2
 cases b<;>simp[behindInMarks,e1,e2]
def bR0{op:CmpOp}{r:R2}(ho:kM X (compareOp op) r)(ha:PE X a ta)(hb:PE X b tb)(hm:behindInMarks op b=false):PE X (.Compare a [op] [b] pos) (tOp r ta tb):=by
 intro pins s σ H Q I h
 exact wpAny_Compare1 (cF7 ha hb I h fun v u s2 x y H2 I2 rx ry q=>ho pins s2 σ H2 x y v u Q I2 rx ry q) hm
def bV3(t:TE):TT:=fun σ H Q=>t σ H fun x H'=>∃k,x= .bl k/\Q k H'
def bM1{op:CmpOp}{r:R2}(ho:kM X (compareOp op) r)(ha:PE X a ta)(hb:PE X b tb)(hm:behindInMarks op b=false):PT X (.Compare a [op] [b] pos) (bV3 (tOp r ta tb)):=by
 intro pins s σ H Q I h
 refine yd (cW (ha pins s σ H _ I h) fun v s1 ⟨x,H1,I1,r1,q1⟩=>cW (hb pins s1 σ H1 _ I1 q1) fun u s2 ⟨y,H2,I2,r2,q2⟩ =>
  cW (ho pins s2 σ H2 x y v u _ I2 r1 r2 q2) fun c s3 ⟨z,H3,I3,r3,k,e,q3⟩=>?_) hm
 subst e
 cases r3
 exact jn ⟨H3,I3,q3⟩
def cN0(K:PySem.W.Frag)(x:V)(H:Hp)(k:Bool):Prop:=
 match x with
 |.non=>k=false
 |.bl b=>k=b
 |.int i=>k=(i != 0)
 |.str y=>y.length<=sizeLine/\k=((y.length:Int) != 0)
 |.byt y=>y.size<=sizeLine/\k=((y.size:Int) != 0)
 |.ref p=>(∃xs,bR K H p xs/\k= !xs.isEmpty)\/(∃xs,aT K H p xs/\k= !xs.isEmpty)\/∃kvs,H p=some (.dK kvs)/\k= !kvs.isEmpty
 |_=>False
def aJ0{κ:Type}{kvs:List (κ×V)}{vs:List (κ×Value)}(r:KV kvs vs):(!vs.isEmpty)= !kvs.isEmpty:=by
 cases r<;>rfl
def rY{xs:List V}{its:List Value}(r:bC xs its):(!its.toArray.isEmpty)= !xs.isEmpty:=by
 cases r<;>simp
def oW:(sizeLine:Nat)<2^63:=by rw[jc];decide
def cC3:cW4 X (fun x H Q=>∃k,cN0 X.K x H k/\Q k H):=by
 intro pins s σ H x v Q I rx h
 obtain⟨k,e,q⟩:=h
 have hl:=oW
 have hs:sizeLine=16777216:=jc
 cases x with
 |non =>
  cases rx
  have e':k=false:=e
  subst e'
  exact truthy_none ⟨H,I,q⟩
 |bl b =>
  cases rx
  have e':k=b:=e
  subst e'
  exact jn ⟨H,I,q⟩
 |int i =>
  obtain⟨t,rfl⟩:=rx
  have e':k=(i != 0):=e
  subst e'
  exact PySem.P.truthy_int ⟨H,I,q⟩
 |str y =>
  obtain⟨t,rfl⟩:=rx
  obtain⟨hy,e'⟩:y.length<=sizeLine/\k=((y.length:Int) != 0):=e
  subst e'
  exact PySem.P.truthy_str (by lia) ⟨H,I.tok _,q⟩
 |byt y =>
  obtain⟨t,rfl⟩:=rx
  obtain⟨hy,e'⟩:y.size<=sizeLine/\k=((y.size:Int) != 0):=e
  subst e'
  exact PySem.W.truthy_bytes (by lia) ⟨H,I.tok _,q⟩
 |ref p =>
  cases rx
  have e':(∃xs,bR X.K H p xs/\k= !xs.isEmpty)\/(∃xs,aT X.K H p xs/\k= !xs.isEmpty)\/∃kvs,H p=some (.dK kvs)/\k= !kvs.isEmpty:=e
  rcases e' with⟨xs,hx,e'⟩|⟨xs,hx,e'⟩|⟨kvs,hx,e'⟩
  ·subst e'
   obtain⟨its,r,pl,hz⟩:=I.list hx
   have hlen:=r.length
   exact wpAny_truthy_list pl.isList (by simp only[List.size_toArray];lia) ⟨H,I.tok _,by rw[rY r];exact q⟩
  ·subst e'
   obtain⟨its,r,pl,hz⟩:=I.tuple hx
   have hlen:=r.length
   exact truthy_tuple pl (by simp only[List.size_toArray];lia) ⟨H,I.tok _,by rw[rY r];exact q⟩
  ·subst e'
   obtain⟨hz,hS,vs,r,m⟩:kvs.length<=sizeLine/\(p==sysModules)=false/\∃vs,KV kvs vs/\s.heap.DictOf (bG X.prog X.w) p vs:=I.hok p _ hx
   have hlen:kvs.length=vs.length:=jd r
   exact wpAny_truthy_dict hS m (by lia) ⟨H,I.tok _,by rw[aJ0 r];exact q⟩
 |_=>exact(show False from e).elim
def aE0(ha:PE X a ta)(he:∀whole,isTrue a X.env whole=(do let v <-whole;standAt a.pos;holding [v] (truthy v))) :
  PT X a (fun σ H Q=>ta σ H fun x H'=>∃k,cN0 X.K x H' k/\Q k H'):=by
 intro pins s σ H Q I h
 refine isTrue_plain (cW (ha pins s σ H _ I h) ?_) (he _);rintro v s1 ⟨x,H1,I1,r1,q1⟩;exact cC3 pins s1 σ H1 x v Q I1 r1 q1
def sD:kM X (binaryOp .Add) (fun x y H Q=>∃i j,x= .str i/\y= .str j/\i.length+j.length<=sizeLine/\Q (.str (i++j)) H):=by
 intro pins s σ H x y v u Q I rx ry h
 obtain⟨i,j,rfl,rfl,hz,q⟩:=h
 obtain⟨t,rfl⟩:=rx
 obtain⟨t',rfl⟩:=ry
 exact add_str (fun t' tk=>⟨.str (i++j),H,I.tok _,⟨_,rfl⟩,q⟩) hz
def jD{x:V}{us:List Value}(r:bC [x] us):∃u,us=[u]/\bF x u:=by
 cases r with
 |cons r1 r2=>cases r2;exact⟨_,rfl,r1⟩
def aN0{x y:V}{us:List Value}(r:bC [x,y] us):∃u w',us=[u,w']/\bF x u/\bF y w':=by
 cases r with
 |cons r1 r2 =>
  cases r2 with
  |cons r3 r4=>cases r4;exact⟨_,_,rfl,r1,r3⟩
def aW8:eU X (.builtin "abs") (fun xs H Q=>∃i,xs=[.int i]/\Q (.int (if i<0 then -i else i)) H):=by
 intro pins s σ H xs us Q I r h
 obtain⟨i,rfl,q⟩:=h
 obtain⟨u,rfl,t,rfl⟩:=jD r
 exact call_abs_int fun u tk=>⟨.int (if i<0 then -i else i),H,I.tok _,⟨_,rfl⟩,q⟩
def wZ(hc:X.calm=true):eU X (.builtin "max") (fun xs H Q=>∃i j,xs=[.int i,.int j]/\Q (.int (if j > i then j else i)) H):=by
 intro pins s σ H xs us Q I r h
 obtain⟨i,j,rfl,q⟩:=h
 obtain⟨u,w',rfl,⟨t,rfl⟩,⟨t',rfl⟩⟩:=aN0 r
 refine max_two_ints (I.ok.hd hc) fun h' tk k=>⟨_,H,I.kept k,?_,q⟩
 by_cases hj:j > i
 ·rw[ao hj,ao hj];exact⟨_,rfl⟩
 ·rw[ai hj,ai hj];exact⟨_,rfl⟩
def lJ(hc:X.calm=true):eU X (.builtin "min") (fun xs H Q=>∃i j,xs=[.int i,.int j]/\Q (.int (if j<i then j else i)) H):=by
 intro pins s σ H xs us Q I r h
 obtain⟨i,j,rfl,q⟩:=h
 obtain⟨u,w',rfl,⟨t,rfl⟩,⟨t',rfl⟩⟩:=aN0 r
 refine min_two_ints (I.ok.hd hc) fun h' tk k=>⟨_,H,I.kept k,?_,q⟩
 by_cases hj:j<i
 ·rw[ao hj,ao hj];exact⟨_,rfl⟩
 ·rw[ai hj,ai hj];exact⟨_,rfl⟩
def lM:eU X (.type "int") (fun xs H Q=>(∃i,xs=[.int i]/\Q (.int i) H)\/∃k,xs=[.bl k]/\Q (.int (if k then 1 else 0)) H):=by
 intro pins s σ H xs us Q I r h
 rcases h with⟨i,rfl,q⟩|⟨k,rfl,q⟩
 ·obtain⟨u,rfl,t,rfl⟩:=jD r
  exact call_int_int ⟨.int i,H,I,⟨_,rfl⟩,q⟩
 ·obtain⟨u,rfl,r1⟩:=jD r
  cases r1
  exact call_int_bool ⟨.int (if k then 1 else 0),H,I.tok _,⟨_,rfl⟩,q⟩
end
structure aS5(h:Heap)(x dx C:Addr)(mA:Str->Option Value):Prop where
 obj:h.get? x=some (PySem.W.instObj C dx)
 ns:h.Ns1 dx mA
 ne:dx≠x
def aT7{h:Heap}{dx:Addr}{mA:Str->Option Value}(n:h.Ns1 dx mA):∃od,h.get? dx=some od/\∀name,PySem.W.lookIn name od=some (mA name):=by
 obtain⟨o,es,ep,ho,hd,hk,_,hm⟩:=n
 refine⟨o,ho,fun name=>?_⟩
 have e:=hm name
 unfold nsFind findBy at e
 rw[<-Array.find?_toList] at e
 unfold PySem.W.lookIn
 rw[hd]
 dsimp only
 split
 ·rename_i y q
  rw[q] at e
  exact gv some e
 ·rename_i q
  rw[q] at e
  have a:es.toList.any (·.refKey)=false:=by
   rw[List.any_eq_false]
   intro y hy
   obtain⟨z,t,hkey⟩:=hk y (Array.mem_toList_iff.mp hy)
   simp[DictEntry.refKey,hkey]
  have a':¬es.toList.any (·.refKey)=true:=by rw[a];exact bu
  rw[ai a']
  exact gv some e
def aS5.look{h:Heap}{x dx C:Addr}{mA:Str->Option Value}(I:aS5 h x dx C mA):∃od,PySem.W.InstAt h x (PySem.W.instObj C dx) C (some od)/\∀name,PySem.W.lookIn name od=some (mA name):=
 let⟨od,ho,hl⟩:=aT7 I.ns
 ⟨od,⟨I.obj,rfl,rfl,ho⟩,hl⟩
section
variable {prog:Program}{w:World}{A:Around}{E:Value->Shared->Prop}{s:Shared}{K:PySem.W.Frag}{x dx C f:Addr}{mA:Str->Option Value}{name:Str}{v:Value}
def bT6{expr:Bool}{Q:Value->Shared->Prop}(X:K.In s.heap)(I:aS5 s.heap x dx C mA)(hg:PySem.W.plainGet K C name=true)(hh:PySem.W.hasDictIn K C=true)
  (ha:PySem.W.findIn K (.ref C) name=some none) (hv:mA name=some v) (hv':PySem.W.handedIn v=true) (h:Q v { s with toks:=s.toks+1 }) :
  wpAny (model prog w) A (getAttr (.ref x) name expr) Q E s:=by
 obtain⟨od,J,hl⟩:=I.look
 exact PySem.W.get_value X J (PySem.W.plainGet_of hg).1 (PySem.W.findObj_own hh ha rfl (by rw[hl,hv])) hv' h
def bO9{ns:List Str}{Q:Unit->Shared->Prop}(X:K.In s.heap)(I:aS5 s.heap x dx C mA)
  (hs:PySem.W.findIn K (.ref C) "__setattr__"=some (some (.builtin "object.__setattr__"))) (hp:PySem.W.plainOver K C=true) (ht:PySem.W.takerIn K C name=some none) (hh:PySem.W.hasDictIn K C=true)
  (hw:PySem.Within mA ns) (hsz:ns.length<=sizeLine)
  (h:∀h',aS5 h' x dx C (fun y=>if y=name then some v else mA y)->Heap.SameBut dx s.heap h'->Q () { s with heap:=h',toks:=s.toks+2 }) :
  wpAny (model prog w) A (setAttr (.ref x) name v) Q E s:=by
 obtain⟨od,J,hl⟩:=I.look
 refine PySem.W.set_plain X J hs (PySem.W.osa_open (s:={ s with toks:=s.toks+1 }) (r:=none) X J hp ht fun b=>?_)
 obtain⟨cd,hc,hd'⟩:=PySem.W.any_some hh
 have hx:s.heap.get? x=some ⟨.ref C,some dx,.plain, #[]⟩:=I.obj
 refine aa (am (aa (aa (wpAny_loadPart hx (aa (PySem.W.Looks.here (s:={ s with toks:=s.toks+1 }) (PySem.W.looks_clsIn X hc) ?_))))))
 rw[hd']
 refine am (a:=some dx) (aa (am (aa ?_)))
 refine wpAny_nsSet1 (s:={ s with toks:=s.toks+1 }) I.ns fun h' hn2 hs2=>?_
 obtain⟨oD,esD,epD,hoD,hdD,hcD⟩:=hn2.count (PySem.Within.cons name v hw)
 refine aa (wpAny_lookBehind hoD (by rw[hdD];exact pastItsLine_dict (ay hcD (by rw[bo];lia))) ?_)
 exact am (h _ ⟨(hs2.2 _ (Ne.symm I.ne)).trans I.obj,hn2,I.ne⟩ hs2)
def bI9{R:Result->Shared->Prop}{vs:List Value}{kw:List (Str×Value)}(X:K.In s.heap)(hm:PySem.W.makesIn K C=true)
  (hi:PySem.W.findIn K (.ref C) "__init__"=some (some (.ref f))) (hf:PySem.W.typeIn K (.ref f)=some (.type "function"))
  (h:codeAny (model prog w) (A.under (.builtin "type.__call__" ⟨.ref C::vs,kw⟩)) (.call (.ref f) ⟨.ref (s.heap.objs.size+1)::vs,kw⟩) (PySem.W.InitBack (s.heap.objs.size+1) R)
   { s with heap:=(s.heap.push PySem.W.emptyDict).push (PySem.W.instObj C s.heap.objs.size) }) :
  codeAny (model prog w) A (.call (.ref C) ⟨vs,kw⟩) R s:=by
 obtain⟨hh,g,d,t,os⟩:=s
 exact PySem.W.make_core (PySem.W.makes_of X hm) (PySem.W.looks_findIn X hi) (fun self=>PySem.W.bind_fn X self hf) (.inl rfl) h
end
def gJ(f:Str)(v:V):List (Str×V)->List (Str×V)
 |[]=>[(f,v)]
 |(g,x)::r=>if g=f then (g,v)::r else (g,x)::gJ f v r
def kR(f g:Str)(v:V):∀fs:List (Str×V),(gJ f v fs).lookup g=if g=f then some v else fs.lookup g
 |[]=>by
  show List.lookup g [(f,v)]=_
  by_cases h:g=f
  ·have hb:(g==f)=true:=rf.mpr h
   simp only[List.lookup,hb,if_pos h]
  ·have hb:(g==f)=false:=ie.mpr h
   simp only[List.lookup,hb,if_neg h]
 |(k,x)::r=>by
  have ih:=kR f g v r
  rw[show gJ f v ((k,x)::r)=(if k=f then (k,v)::r else (k,x)::gJ f v r) from rfl]
  by_cases hk:k=f
  ·rw[ao hk]
   by_cases h:g=k
   ·have hb:(g==k)=true:=rf.mpr h
    simp only[List.lookup,hb,if_pos (h.trans hk)]
   ·have hb:(g==k)=false:=ie.mpr h
    simp only[List.lookup,hb,if_neg (fun e:g=f=>h (e.trans hk.symm))]
  ·rw[ai hk]
   by_cases h:g=k
   ·have hb:(g==k)=true:=rf.mpr h
    simp only[List.lookup,hb,if_neg (fun e:g=f=>hk (h.symm.trans e))]
   ·have hb:(g==k)=false:=ie.mpr h
    simp only[List.lookup,hb]
    exact ih
def oS(f:Str)(v:V):∀fs:List (Str×V),f∈(gJ f v fs).map (·.1)/\∀g,g∈fs.map (·.1)->g∈(gJ f v fs).map (·.1)
 |[]=>⟨by simp[gJ],fun g h=>by simp at h⟩
 |(k,x)::r=>by
  obtain⟨i1,i2⟩:=oS f v r
  rw[show gJ f v ((k,x)::r)=(if k=f then (k,v)::r else (k,x)::gJ f v r) from rfl]
  by_cases hk:k=f
  ·rw[ao hk]
   subst hk
   exact⟨by simp,fun g h=>by simpa using h⟩
  ·rw[ai hk]
   refine⟨?_,fun g h=>?_⟩
   ·rw[bt]
    exact ae _ i1
   ·rw[bt] at h ⊢
    rcases az.mp h with e|e
    ·exact az.mpr (.inl e)
    ·exact ae _ (i2 g e)
def qE(f:Str)(v:V):∀fs:List (Str×V),(gJ f v fs).length<=fs.length+1
 |[]=>by simp[gJ]
 |(k,x)::r=>by
  have ih:=qE f v r
  rw[show gJ f v ((k,x)::r)=(if k=f then (k,v)::r else (k,x)::gJ f v r) from rfl]
  by_cases hk:k=f
  ·rw[ao hk,bo,bo];lia
  ·rw[ai hk,bo,bo];lia
def kQ.some_of{v:V}{o:Option Value}(r:kQ (some v) o):∃u,o=some u/\bF v u:=by
 cases o with
 |none=>exact(show False from r).elim
 |some u=>exact⟨u,rfl,r⟩
def aV8{v:V}{u:Value}(r:bF v u):PySem.W.handedIn u=true:=by
 cases v with
 |non=>cases(show u=Value.none from r);rfl
 |bl b=>cases(show u=Value.bool b from r);rfl
 |int i=>obtain⟨t,e⟩:=(show ∃t,u=Value.int i t from r);cases e;rfl
 |str x=>obtain⟨t,e⟩:=(show ∃t,u=Value.str x t from r);cases e;rfl
 |byt b=>obtain⟨t,e⟩:=(show ∃t,u=Value.bytes b t from r);cases e;rfl
 |flt b=>obtain⟨t,e⟩:=(show ∃t,u=Value.float b t from r);cases e;rfl
 |ref a=>cases(show u=Value.ref a from r);rfl
 |ty n=>cases(show u=Value.type n from r);rfl
section
variable {P:Program}{w:World}{H H':Hp}{h h':Heap}{a C dx:Addr}{fs fs':List (Str×V)}
def yI(hok:kL P w H h)(e:H a=some (.ins C dx fs)):∃mA,aS5 h a dx C mA/\(∀f,kQ (fs.lookup f) (mA f))/\PySem.Within mA (fs.map (·.1))/\fs.length<=1000/\H dx=some (.own a):=by
 obtain⟨d,z,ne,ob,mA,n,r,q⟩:=(show bZ P w H h a (.ins C dx fs) from hok a _ e)
 exact⟨mA,⟨ob,n,ne⟩,r,q,z,d⟩
end
structure Cls(K:PySem.W.Frag)(C:Addr):Prop where
 pg:PySem.W.plainGet K C Str.empty=true
 hd:PySem.W.hasDictIn K C=true
 po:PySem.W.plainOver K C=true
 sa:PySem.W.findIn K (.ref C) "__setattr__"=some (some (.builtin "object.__setattr__"))
def Cls.get{K:PySem.W.Frag}{C:Addr}(c:Cls K C)(f:Str):PySem.W.plainGet K C f=true:=c.pg
def iU(K:PySem.W.Frag)(C:Addr)(f:Str):Prop:=PySem.W.findIn K (.ref C) f=some none
def iU.taker{K:PySem.W.Frag}{C:Addr}{f:Str}(n:iU K C f):PySem.W.takerIn K C f=some none:=by
 unfold PySem.W.takerIn
 rw[show PySem.W.findIn K (.ref C) f=some none from n]
 rfl
section
variable {X:Cx}{pins:List (Addr×Obj)}{σ:St}{H:Hp}{s:Shared}{a C dx:Addr}{fs:List (Str×V)}{f:Str}{v:V}{A:Around}{E:Value->Shared->Prop}
def aG8{b:Bool}{Q:Value->Shared->Prop}(I:aV X pins σ H s)(e:H a=some (.ins C dx fs))(c:Cls X.K C)(n:iU X.K C f)(l:fs.lookup f=some v)
  (h:∀u s',aV X pins σ H s'->bF v u->Q u s'):wpAny (model X.prog X.w) A (getAttr (.ref a) f b) Q E s:=by
 obtain⟨mA,O,r,_,_,_⟩:=yI I.hok e
 obtain⟨u,hu,ru⟩:=kQ.some_of (v:=v) (o:=mA f) (by rw[<-l];exact r f)
 exact bT6 I.kIn O (c.get f) c.hd n hu (aV8 ru) (h u _ (I.tok _) ru)
def aJ8{y:V}{u:Value}{Q:Unit->Shared->Prop}(I:aV X pins σ H s)(e:H a=some (.ins C dx fs))(c:Cls X.K C)(n:iU X.K C f)(hl:fs.length<1000)(ry:bF y u)
  (h:∀s',aV X pins σ (aN H a (.ins C dx (gJ f y fs))) s'->Q () s'):wpAny (model X.prog X.w) A (setAttr (.ref a) f u) Q E s:=by
 obtain⟨mA,O,r,wi,_,ho⟩:=yI I.hok e
 have hz:(fs.map (·.1)).length<=sizeLine:=by rw[ac,jc];lia
 refine bO9 I.kIn O c.sa c.po n.taker c.hd wi hz fun h' O' sb=>h _ ?_
 have hd:∃o,h'.get? dx=some o:=let⟨o,_,_,e',_⟩:=O'.ns;⟨o,e'⟩
 refine I.write (x:=a) (e:=dx) (by rw[e];exact ii) (.inr ho) (fun b q hb z=>(sb.2 b hb).trans z) hd ?_
 refine⟨by rw[aH O.ne];exact ho,?_,O.ne,O'.obj,_,O'.ns,fun g=>?_,fun g hg=>?_⟩
 ·have:=qE f y fs;lia
 ·show kQ ((gJ f y fs).lookup g) (if g=f then some u else mA g)
  rw[kR]
  by_cases q:g=f
  ·rw[ao q,ao q];exact ry
  ·rw[ai q,ai q];exact r g
 ·by_cases q:g=f
  ·rw[q];exact(oS f y fs).1
  ·refine(oS f y fs).2 g (wi g fun z=>hg ?_)
   show(if g=f then some u else mA g)=none
   rw[ai q];exact z
def aV.made(I:aV X pins σ H s):aV X pins σ (aN (aN H s.heap.objs.size (.own (s.heap.objs.size+1))) (s.heap.objs.size+1) (.ins C s.heap.objs.size []))
  { s with heap:=(s.heap.push PySem.W.emptyDict).push (PySem.W.instObj C s.heap.objs.size) }:=by
 have e1:(s.heap.push PySem.W.emptyDict).get? s.heap.objs.size=some PySem.W.emptyDict:=be s.heap rfl
 have e2:((s.heap.push PySem.W.emptyDict).push (PySem.W.instObj C s.heap.objs.size)).get? (s.heap.objs.size+1)=some (PySem.W.instObj C s.heap.objs.size):=by
  have:=be (s.heap.push PySem.W.emptyDict) (o:=PySem.W.instObj C s.heap.objs.size) rfl
  rwa [ip] at this
 have e3:(s.heap.push PySem.W.emptyDict).Ns s.heap.objs.size (fun _=>none):=⟨PySem.W.emptyDict, #[],_,e1,rfl,(fun e he=>absurd he (by simp)),fun _=>rfl⟩
 have I1:=I.laid (a:=s.heap.objs.size) (o:= .own (s.heap.objs.size+1)) (h':=s.heap.push PySem.W.emptyDict) (t':=s.toks) (fun b u q=>ah _ q) (af _) ⟨_,e1⟩
 refine I1.laid (a:=s.heap.objs.size+1) (o:= .ins C s.heap.objs.size []) (t':=s.toks) (fun b u q=>ah _ q) (Nat.le_of_eq (ip _ _)) ?_
 have ne:s.heap.objs.size≠s.heap.objs.size+1:=bv (dz _)
 refine⟨by rw[aH ne,aD],bi _,ne,e2,fun _=>none,(Heap.Ns1.of_empty e3).at fun o q=>ah _ q,fun _=>ii,fun y hy=>absurd rfl hy⟩
def bQ4{prog:Program}{w:World}{env:Env}{e:Expr}{f:Str}{pos:Pos}{s:Shared}{Q:Value->Shared->Prop}(hb:attributeBase e f env (eval e env)=eval e env)
  (h:wpAny (model prog w) A (eval e env) (fun o s₁=>wpAny (model prog w) A (getAttr o f true) Q E s₁) E s):wpAny (model prog w) A (eval (.Attribute e f pos) env) Q E s:=
 Attribute_any_ h (by rw[arm_eval_Attribute,hb])
end
def cV0(K:PySem.W.Frag)(ta:TE)(f:Str):TE:=fun σ H Q=>ta σ H fun x H1=>∃a C dx fs v,x= .ref a/\H1 a=some (.ins C dx fs)/\Cls K C/\iU K C f/\fs.lookup f=some v/\Q v H1
def cX8(K:PySem.W.Frag)(ta tv:TE)(f:Str):TS:=fun D σ H=>tv σ H fun y H1=>ta σ H1 fun x H2=>∃a C dx fs,x= .ref a/\H2 a=some (.ins C dx fs)/\Cls K C/\iU K C f/\fs.length<1000 /\
 D.nx σ (aN H2 a (.ins C dx (gJ f y fs)))
section
variable {X:Cx}{o e value:Expr}{f:Str}{pos pos' tpos:Pos}{ta tv:TE}
def eY(he:PE X e ta)(hb:attributeBase e f X.env (eval e X.env)=eval e X.env):PE X (.Attribute e f pos) (cV0 X.K ta f):=by
 intro pins s σ H Q I h
 refine bQ4 hb (cW (he pins s σ H _ I h) ?_);rintro u s1 ⟨x,H1,I1,rx,a,C,dx,fs,v,ex,ea,c,n,l,q⟩
 subst ex
 obtain rfl:u=Value.ref a:=rx
 exact aG8 I1 ea c n l fun u' s2 I2 ru=>⟨v,H1,I2,ru,q⟩
def mK(ha:PE X o ta)(hv:PE X value tv)(hs:swapsWith value (some (.Attribute o f pos')) pos.line X.env=pure false):PS X (.Assign [.Attribute o f pos'] value pos) (cX8 X.K ta tv f):=by
 intro pins s σ H D I h
 refine plainObj_wpAny_Assign_Attribute (cW (hv pins s σ H _ I h) ?_) hs;rintro u s1 ⟨y,H1,I1,ry,q⟩;refine cW (ha pins s1 σ H1 _ I1 q) ?_;rintro ov s2 ⟨x,H2,I2,rx,a,C,dx,fs,ex,ea,c,n,l,q2⟩
 subst ex
 obtain rfl:ov=Value.ref a:=rx
 exact aJ8 I2 ea c n l ry fun s3 I3=>⟨σ,_,I3,q2⟩
end
section
variable {X:Cx}{pins:List (Addr×Obj)}{σ:St}{H:Hp}{s:Shared}{A:Around}{E:Value->Shared->Prop}{Q:Value->Shared->Prop}{c:Value}{b:Bool}
inductive pM(K:PySem.W.Frag)(H:Hp):V->Value->Prop where
 |non:pM K H .non (.type "NoneType")
 |bl (x:Bool):pM K H (.bl x) (.type "bool")
 |int (i:Int):pM K H (.int i) (.type "int")
 |str (x:Str):pM K H (.str x) (.type "str")
 |flt (x:UInt64):pM K H (.flt x) (.type "float")
 |lst {a:Addr}{xs:List V}(e:H a=some (.lst xs)):pM K H (.ref a) (.type "list")
 |frz {a:Addr}{o:Obj}{xs:List V}(e:H a=some (.frz o (.lst xs))):pM K H (.ref a) (.type "list")
 |tup {a:Addr}{xs:List V}(e:H a=some (.tup xs)):pM K H (.ref a) (.type "tuple")
 |dK {a:Addr}{kvs:List (Key×V)}(e:H a=some (.dK kvs)):pM K H (.ref a) (.type "dict")
 |dT {a:Addr}{kvs:List (List Key×V)}(e:H a=some (.dT kvs)):pM K H (.ref a) (.type "dict")
 |ins {a C dx:Addr}{fs:List (Str×V)}(e:H a=some (.ins C dx fs)) (cl:Cls K C) (ha:PySem.W.findIn K (.ref C) "__class__"=some (some (.builtin "object.__class__")))
   (hn:PySem.W.specialIn K (.builtin "object.__class__") "__get__"=some (some (.builtin "getset_descriptor.__get__"))) (htk:PySem.W.takesIn K (.builtin "object.__class__")=some true)
   (hm:PySem.W.mroIn K C (.type "object")=some true):pM K H (.ref a) (.ref C)
def aS2{x:V}{u t:Value}(I:aV X pins σ H s)(rx:bF x u)(ty:pM X.K H x t)(e:PySem.W.kitOne X.K t c=some b)(h:∀tk,Q (.bool b) { s with toks:=tk }) :
  wpAny (model X.prog X.w) A (call (.builtin "isinstance") [u,c]) Q E s:=by
 cases ty with
 |non=>cases(show u=Value.none from rx);exact gn PySem.W.kitx_none I.kIn ii e (fun z=>nomatch z) h
 |bl y=>cases(show u=Value.bool y from rx);exact gn PySem.W.kitx_bool I.kIn ii e (fun z=>nomatch z) h
 |int i=>obtain⟨t,q⟩:=(show ∃t,u=Value.int i t from rx);cases q;exact gn PySem.W.kitx_int I.kIn ii e (fun z=>nomatch z) h
 |str y=>obtain⟨t,q⟩:=(show ∃t,u=Value.str y t from rx);cases q;exact gn PySem.W.kitx_str I.kIn ii e (fun z=>nomatch z) h
 |flt y=>obtain⟨t,q⟩:=(show ∃t,u=Value.float y t from rx);cases q;exact gn PySem.W.kitx_float I.kIn ii e (fun z=>nomatch z) h
 |@lst a xs ea =>
  cases(show u=Value.ref a from rx)
  obtain⟨_,_,n,_,h1⟩:=(show bZ X.prog X.w H s.heap a (.lst xs) from I.hok a _ ea)
  exact gn PySem.W.kitx_list I.kIn ⟨_,h1,rfl⟩ e (fun z=>nomatch z) h
 |@frz a ob xs ea =>
  cases(show u=Value.ref a from rx)
  obtain⟨_,_,_,n,_,h1⟩:=(show bZ X.prog X.w H s.heap a (.frz ob (.lst xs)) from I.hok a _ ea)
  exact gn PySem.W.kitx_list I.kIn ⟨_,h1,rfl⟩ e (fun z=>nomatch z) h
 |@tup a xs ea =>
  cases(show u=Value.ref a from rx)
  obtain⟨_,_,_,p⟩:=(show bZ X.prog X.w H s.heap a (.tup xs) from I.hok a _ ea)
  obtain⟨o,h1,h2,_⟩:=p
  exact gn PySem.W.kitx_tuple I.kIn ⟨o,h1,h2⟩ e (fun z=>nomatch z) h
 |@dK a kvs ea =>
  cases(show u=Value.ref a from rx)
  obtain⟨_,_,vs,_,p⟩:=(show bZ X.prog X.w H s.heap a (.dK kvs) from I.hok a _ ea)
  obtain⟨o,es,ep,h1,h2,_⟩:=p
  exact gn PySem.W.kitx_dict I.kIn ⟨o,h1,h2.1⟩ e (fun z=>nomatch z) h
 |@dT a kvs ea =>
  cases(show u=Value.ref a from rx)
  obtain⟨_,_,xs,_,o,es,ep,h1,h2,_⟩:=(show bZ X.prog X.w H s.heap a (.dT kvs) from I.hok a _ ea)
  exact gn PySem.W.kitx_dict I.kIn ⟨o,h1,h2.1⟩ e (fun z=>nomatch z) h
 |@ins a C dx fs ea cl ha hn htk hm =>
  cases(show u=Value.ref a from rx)
  obtain⟨mA,O,_⟩:=yI I.hok ea
  obtain⟨od,J,_⟩:=O.look
  exact gn (PySem.W.kitx_own (cl.get _) cl.hd ha hn htk hm) I.kIn J e (fun z=>nomatch z) h
end
structure dE(k:Nat)(A:Around):Prop where
 hd:A.handled=none
 dp:A.depth+3*k+5<recursionLimit
 un:A.units+16*k+200<cLine
 gd:A.guards=some []
def dE.mono{j k:Nat}{A:Around}(r:dE k A)(h:j<=k):dE j A:=⟨r.hd,by have:=r.dp;lia,by have:=r.un;lia,r.gd⟩
def dE.deeper{k:Nat}{A:Around}(r:dE (k+1) A)(env:Env):dE k (A.deeper env):=
 ⟨r.hd,by have:=r.dp;show A.depth+1+3*k+5<_;lia,by have:=r.un;show A.units+3+16*k+200<_;lia,r.gd⟩
def aI1{A:Around}{C:Addr}{us:List Value}{kw:List (Str×Value)}:(A.under (.builtin "type.__call__" ⟨.ref C::us,kw⟩)).depth=A.depth+1:=by
 first|rfl|simp[Around.under,Code.weight,Code.isCreation,Code.isGuard,Code.isCaller,Code.frames,Code.isFrame,guardIds]
def aJ3{A:Around}{C:Addr}{us:List Value}{kw:List (Str×Value)}:(A.under (.builtin "type.__call__" ⟨.ref C::us,kw⟩)).units=A.units+1:=by
 first|rfl|simp[Around.under,Code.cUnits,Code.frames,Code.isFrame]
def aD9{A:Around}{C:Addr}{us:List Value}{kw:List (Str×Value)}:(A.under (.builtin "type.__call__" ⟨.ref C::us,kw⟩)).guards=A.guards:=by
 have e:(Code.builtin "type.__call__" ⟨.ref C::us,kw⟩).isGuard=false:=by
  show guardIds.contains "type.__call__"=false
  decide
 cases h:A.guards<;>simp[Around.under,Code.guards,pushGuards,e,h]
def dE.make{k:Nat}{A:Around}(r:dE (k+1) A)(C:Addr)(us:List Value)(kw:List (Str×Value)):dE k (A.under (.builtin "type.__call__" ⟨.ref C::us,kw⟩)):=
 ⟨r.hd,by have:=r.dp;rw[aI1];lia,by have:=r.un;rw[aJ3];lia,aD9.trans r.gd⟩
def dE.depth{k:Nat}{A:Around}(r:dE k A):A.depth<recursionLimit:=by have:=r.dp;lia
def dE.units{k:Nat}{A:Around}(r:dE k A):A.units+64<cLine:=by have:=r.un;lia
def tNil:TA:=fun _ H Q=>Q [] H
def bW3(ta:TE)(tr:TA):TA:=fun σ H Q=>ta σ H fun x H1=>tr σ H1 fun xs H2=>Q (x::xs) H2
section
variable {X:Cx}{e:Expr}{es:List Expr}{te:TE}{t:TA}{pos:Pos}
def eL:PA X [] tNil:=fun _ _ _ _ H Q I h=>oz ⟨[],H,I,.nil,h⟩
def aA(ha:PE X e te)(hr:PA X es t)(hs:starEach (e::es) X.env=(false,eval e X.env)::starEach es X.env:=by rfl):PA X (e::es) (bW3 te t):=by
 intro pos pins s σ H Q I h
 rw[hs]
 show wpAny _ _ (spliced ((false,eval e X.env)::backTo pos (starEach es X.env))) _ _ s
 refine mh (cW (ha pins s σ H _ I h) ?_);rintro u s1 ⟨x,H1,I1,r1,q1⟩
 refine cW (hr pos pins s1 σ H1 _ I1 q1) ?_;rintro us s2 ⟨xs,H2,I2,r2,q2⟩;exact ⟨x::xs,H2,I2,.cons r1 r2,q2⟩
def cW3(t:TA):TE:=fun σ H Q=>t σ H fun xs H1=>xs.length<=sizeLine/\∀p,H1 p=none->Q (.ref p) (aN H1 p (.tup xs))
def cW5(t:TA):TE:=fun σ H Q=>t σ H fun xs H1=>xs.length<=sizeLine/\∀p,H1 p=none->Q (.ref p) (aN H1 p (.lst xs))
def aS{x1}(h:PA X es t):PE X (.Tuple es x1 pos) (cW3 t):=by
 intro pins s σ H Q I hq
 refine wpAny_Tuple_spliced (cW (h pos pins s σ H _ I hq) ?_);rintro us s1 ⟨xs,H1,I1,r,z,q⟩;refine ⟨by rw[<-r.length];exact z,?_⟩
 have hf:H1 s1.heap.objs.size=none:=I1.hok.fresh (af _)
 refine⟨.ref s1.heap.objs.size,aN H1 s1.heap.objs.size (.tup xs),I1.laid (t':=s1.toks) (fun b u e=>ah _ e) (af _) ?_,rfl,q _ hf⟩
 exact⟨z,us,r,⟨_,be _ rfl,rfl,_,rfl,rfl⟩⟩
def cM(h:PA X es t):PE X (.List es pos) (cW5 t):=by
 intro pins s σ H Q I hq
 refine wpAny_List_spliced (cW (h pos pins s σ H _ I hq) ?_);rintro us s1 ⟨xs,H1,I1,r,z,q⟩;refine ⟨by rw[<-r.length];exact z,?_⟩
 have hf:H1 s1.heap.objs.size=none:=I1.hok.fresh (af _)
 refine⟨.ref s1.heap.objs.size,aN H1 s1.heap.objs.size (.lst xs),I1.laid (t':=s1.toks) (fun b u e=>ah _ e) (af _) ?_,rfl,q _ hf⟩
 exact⟨z,us,0,r,be _ rfl⟩
end
abbrev Sp:=List V->Hp->VK->XK->Prop
abbrev CXT:=List Env->Hp->Shared->XK->Value->Shared->Prop
structure aM5(P:Program)(w:World)(K:PySem.W.Frag)(mg:Str->Option Value)(base:Heap)(A:Around)(outer:List Env)(s:Shared)(H:Hp):Prop where
 frames:A.frames=some outer
 mod:Mod K mg base
 bs:∀b o,base.get? b=some o->s.heap.get? b=some o/\H b=none
 bsz:base.objs.size<=s.heap.objs.size
 funs:s.heap.FunFrames base outer
 frf:∀b∈frs outer,H b=none
 hok:kL P w H s.heap
 bare:AllBare s.gens
def CE(outer:List Env)(P:Program)(w:World)(H:Hp)(s:Shared)(Q:VK)(u:Value)(s':Shared):Prop:=
 ∃v H',s'.os=s.os/\AllBare s'.gens/\Un (frs outer) [] H H' s.heap s'.heap/\kL P w H' s'.heap/\bF v u/\Q v H'
def CR(CX:CXT)(outer:List Env)(P:Program)(w:World)(H:Hp)(s:Shared)(Q:VK)(E:XK)(r:Result)(s':Shared):Prop:=
 match r with
 |.ok (.ret u)=>CE outer P w H s Q u s'
 |.ok _=>False
 |.error e=>CX outer H s E e s'
structure kK(P:Program)(w:World)(K:PySem.W.Frag)(mg:Str->Option Value)(base:Heap)(CX:CXT)(k:Nat)(f:Addr)(fd:FuncData)(ps:List Str)(sp:Sp):Prop where
 len:∀vs H Q E,sp vs H Q E->vs.length=ps.length
 run:∀(A:Around) (outer:List Env) (s:Shared) (H:Hp) (args:Args) (us:List Value) (vs:List V) (Q:VK) (E:XK),dE k A->aM5 P w K mg base A outer s H->BindsTo s fd args (ps.zip us)->bC vs us->sp vs H Q E ->
  codeAny (model P w) A (.call (.ref f) args) (CR CX outer P w H s Q E) s
def kK.imp{P:Program}{w:World}{K:PySem.W.Frag}{mg:Str->Option Value}{base:Heap}{CX:CXT}{k:Nat}{f:Addr}{fd:FuncData}{ps:List Str}{sp sp':Sp}(F:kK P w K mg base CX k f fd ps sp)
  (h:∀vs H Q E,sp' vs H Q E->sp vs H Q E):kK P w K mg base CX k f fd ps sp':=
 ⟨fun vs H Q E q=>F.len vs H Q E (h _ _ _ _ q),fun A outer s H args us vs Q E hr he hb hv hs=>F.run A outer s H args us vs Q E hr he hb hv (h _ _ _ _ hs)⟩
def aM5.make{P:Program}{w:World}{K:PySem.W.Frag}{mg:Str->Option Value}{base:Heap}{A:Around}{outer:List Env}{s:Shared}{H:Hp}(e:aM5 P w K mg base A outer s H)(C:Addr)(us:List Value)(kw:List (Str×Value)) :
  aM5 P w K mg base (A.under (.builtin "type.__call__" ⟨.ref C::us,kw⟩)) outer s H:=⟨by first|exact e.frames|(simpa [Around.under,Code.envs,Code.isFrame,pushEnvs] using e.frames),e.mod,e.bs,e.bsz,e.funs,e.frf,e.hok,e.bare⟩
section
variable {X:Cx}{pins:List (Addr×Obj)}{σ:St}{H:Hp}{s s':Shared}
def aV.env0(I:aV X pins σ H s):aM5 X.prog X.w X.K X.mg X.base X.A X.stack s H:=
 ⟨I.ok.frames,I.ok.mod,I.bs,ay I.ok.bsz I.sz,I.stack,I.stkFree,I.hok,I.bare⟩
def aV.after{Q:VK}{u:Value}(I:aV X pins σ H s)(h:CE X.stack X.prog X.w H s Q u s'):EP X pins σ Q u s':=by
 obtain⟨v,H',os,bare,un,hok,r,q⟩:=h
 obtain⟨hh,g,d,t,os'⟩:=s'
 obtain rfl:os'=s.os:=os
 exact⟨v,H',I.call (h':=hh) (g':=g) (d':=d) (t':=t) (ch:=[]) un hok bare (fun b z=>absurd z (by simp)),r,q⟩
end
def aZ8(sp:Sp)(dvs:List V)(E:XK)(t:TA):TE:=fun σ H Q=>t σ H fun vs H1=>sp (vs++dvs) H1 Q E
def bV0(C:Addr)(sp:Sp)(dvs:List V)(E:XK)(t:TA):TE:=fun σ H Q=>t σ H fun vs H1=>∀x dx,H1 x=none->H1 dx=none->dx≠x ->
 sp (.ref x::(vs++dvs)) (aN (aN H1 dx (.own x)) x (.ins C dx [])) (fun v H2=>v= .non/\Q (.ref x) H2) E
def gM(K:PySem.W.Frag)(fd:FuncData)(ps:List Str)(ds:List Value):Prop:=
 ∀(s:Shared) (us:List Value),K.In s.heap->(us++ds).length=ps.length->BindsTo s fd ⟨us,[]⟩ (ps.zip (us++ds))
def gM.all{K:PySem.W.Frag}{fd:FuncData}{ps:List Str}(h:∀us:List Value,us.length=ps.length->bindArgs fd ⟨us,[]⟩=pure (ps.zip us)):gM K fd ps []:=fun s us _ hl=>by
 rw[jk] at hl ⊢
 exact .of_eq (h us hl)
def sU(CX:CXT)(X:Cx)(E:XK):Prop:=∀(pins:List (Addr×Obj)) (σ:St) (H:Hp) (s:Shared) (e:Value) (s':Shared),aV X pins σ H s->CX X.stack H s E e s'->X.xe e s'
section
variable {X:Cx}{CX:CXT}{k:Nat}{f C:Addr}{fd:FuncData}{ps:List Str}{sp:Sp}{dvs:List V}{ds:List Value}{E:XK}{x m:Str}{p pos apos:Pos}{e o:Expr}{es:List Expr}{ta:TE}{t:TA}
def cB5{pins:List (Addr×Obj)}{σ:St}{H:Hp}{s:Shared}{Q:VK}{us:List Value}{vs:List V}(F:kK X.prog X.w X.K X.mg X.base CX k f fd ps sp)(hr:dE k X.A)(hb:gM X.K fd ps ds)(hd:bC dvs ds)(hx:sU CX X E)
  (I:aV X pins σ H s) (r:bC vs us) (h:sp (vs++dvs) H Q E):wpAny (model X.prog X.w) X.A (call (.ref f) us) (EP X pins σ Q) X.xe s:=by
 have r2:bC (vs++dvs) (us++ds):=r.append hd
 have hl:(us++ds).length=ps.length:=by rw[<-r2.length];exact F.len _ _ _ _ h
 refine wpAny_call (rg (F.run X.A X.stack s H ⟨us,[]⟩ (us++ds) (vs++dvs) Q E hr I.env0 (hb s us I.kIn hl) r2 h) fun r s' hq=>?_)
 cases r with
 |error e=>exact hx pins σ H s e s' I hq
 |ok fl =>
  cases fl with
  |ret u=>exact I.after hq
  |next=>exact False.elim hq
  |brk=>exact False.elim hq
  |cont=>exact False.elim hq
def aQ8(F:kK X.prog X.w X.K X.mg X.base CX k f fd ps sp)(hr:dE k X.A)(hg:Gl X x)(hm:X.mg x=some (.ref f))(hk:PySem.W.keepIn X.K (.ref f)=true)(hb:gM X.K fd ps ds)(hd:bC dvs ds)(hx:sU CX X E)
  (ha:PA X (e::es) t) (hdb:(x==("__debug__": Str))=false:=by decide) (he:starEach (e::es) X.env=(false,eval e X.env)::starEach es X.env:=by rfl) (hpl:(backTo pos (starEach es X.env)).any (·.1)=false:=by rfl) :
  PE X (.Call (.Name x p) (e::es) [] pos) (aZ8 sp dvs E t):=by
 intro pins s σ H Q I h
 refine gr (xQ I hg hm ?_ hdb)
 refine zx (h₀:=X.base) I.ok.mod.kin hk (cW (ha pos pins s σ H _ I h) ?_) he hpl;rintro us s1 ⟨vs,H1,I1,r,q⟩;refine ⟨I1.kIn,?_⟩
 exact cB5 F hr hb hd hx I1 r q
structure Mk(K:PySem.W.Frag)(C f:Addr):Prop where
 makes:PySem.W.makesIn K C=true
 init:PySem.W.findIn K (.ref C) "__init__"=some (some (.ref f))
 fn:PySem.W.isFn K (.ref f)=true
 kp:PySem.W.keepIn K (.ref C)=true
def bB9{pins:List (Addr×Obj)}{σ:St}{H:Hp}{s:Shared}{Q:VK}{us:List Value}{vs:List V}(M:Mk X.K C f)(F:kK X.prog X.w X.K X.mg X.base CX k f fd ps sp)(hr:dE (k+1) X.A)(hb:gM X.K fd ps ds)(hd:bC dvs ds)
  (hx:sU CX X E) (I:aV X pins σ H s) (r:bC vs us)
  (h:∀x dx,H x=none->H dx=none->dx≠x->sp (.ref x::(vs++dvs)) (aN (aN H dx (.own x)) x (.ins C dx [])) (fun v H2=>v= .non/\Q (.ref x) H2) E) :
  wpAny (model X.prog X.w) X.A (call (.ref C) us) (EP X pins σ Q) X.xe s:=by
 have hq:=h (s.heap.objs.size+1) s.heap.objs.size (I.hok.fresh (ud _)) (I.hok.fresh (af _)) (bv (dz _))
 have I2:=aV.made (C:=C) I
 have r2:bC (V.ref (s.heap.objs.size+1)::(vs++dvs)) (Value.ref (s.heap.objs.size+1)::(us++ds)):= .cons rfl (r.append hd)
 have hl:(Value.ref (s.heap.objs.size+1)::us++ds).length=ps.length:=by
  have e:=r2.length
  rw[F.len _ _ _ _ hq] at e
  exact e.symm
 refine wpAny_call (bI9 (f:=f) I.kIn M.makes M.init (rf.mp M.fn) (rg (F.run _ X.stack _ _ ⟨Value.ref (s.heap.objs.size+1)::us,[]⟩ (Value.ref (s.heap.objs.size+1)::(us++ds)) _ _ E (hr.make C us [])
  (I2.env0.make C us []) (hb _ (Value.ref (s.heap.objs.size+1)::us) I2.kIn hl) r2 hq) fun r s' hq'=>?_))
 cases r with
 |error e=>exact hx pins σ _ _ e s' I2 hq'
 |ok fl =>
  cases fl with
  |ret u =>
   obtain⟨v,H',I3,rv,ev,q3⟩:=I2.after hq'
   subst ev
   exact⟨rv,⟨V.ref (s.heap.objs.size+1),H',I3,rfl,q3⟩⟩
  |next=>exact False.elim hq'
  |brk=>exact False.elim hq'
  |cont=>exact False.elim hq'
def bQ5(M:Mk X.K C f)(F:kK X.prog X.w X.K X.mg X.base CX k f fd ps sp)(hr:dE (k+1) X.A)(hg:Gl X x)(hm:X.mg x=some (.ref C))(hb:gM X.K fd ps ds)(hd:bC dvs ds)(hx:sU CX X E)
  (ha:PA X (e::es) t) (hdb:(x==("__debug__": Str))=false:=by decide) (he:starEach (e::es) X.env=(false,eval e X.env)::starEach es X.env:=by rfl) (hpl:(backTo pos (starEach es X.env)).any (·.1)=false:=by rfl) :
  PE X (.Call (.Name x p) (e::es) [] pos) (bV0 C sp dvs E t):=by
 intro pins s σ H Q I h
 refine gr (xQ I hg hm ?_ hdb)
 refine zx (h₀:=X.base) I.ok.mod.kin M.kp (cW (ha pos pins s σ H _ I h) ?_) he hpl;rintro us s1 ⟨vs,H1,I1,r,q⟩;refine ⟨I1.kIn,?_⟩
 exact bB9 M F hr hb hd hx I1 r q
end
section
variable {X:Cx}{CX:CXT}{k:Nat}{f C:Addr}{fd:FuncData}{ps ks:List Str}{sp:Sp}{E:XK}{x m:Str}{p pos apos kpos:Pos}{e o:Expr}{es:List Expr}{kws:List Keyword}{te ta:TE}{t tk:TA}{nm:Option Str}
variable {g:List Value->List Value->List Value}{gV:List V->List V->List V}
end
structure nI(N P:List Str)(sc:Scope):Prop where
 kind:sc.kind= .function
 co:sc.isCoroutine=false
 gen:sc.isGenerator=false
 nd:N.Nodup
 pre:N.take P.length=P
 par:∀x∈P,sc.names.lookup x=some .local\/sc.names.lookup x=some .cell
 nofree:∀y∈sc.names,y.2≠ .free
def vO{kindOf:Str->Option NameKind}{x:Str}:∀{binds:List (Str×Value)}{m:Str->Option Value},(∀v,(x,v)∉binds)->bindL kindOf binds m x=m x
 |[],_,_=>rfl
 |(n,v)::r,m,h=>by
  unfold bindL
  rw[vO fun w hw=>h w (ae _ hw)]
  split
  ·have:x≠n:=by rintro rfl;exact h v aj
   simp[this]
  ·rfl
def vF{kindOf:Str->Option NameKind}{x:Str}:∀{binds:List (Str×Value)}{m:Str->Option Value},(∀v,(x,v)∉binds)->bindC kindOf binds m x=m x
 |[],_,_=>rfl
 |(n,v)::r,m,h=>by
  unfold bindC
  rw[vF fun w hw=>h w (ae _ hw)]
  split
  ·rfl
  ·have:x≠n:=by rintro rfl;exact h v aj
   simp[this]
def vJ{kindOf:Str->Option NameKind}{x:Str}{v:Value}:∀{P:List Str}{vs:List Value}{i:Nat}{m:Str->Option Value},P.Nodup->P[i]?=some x->vs[i]?=some v->kindOf x=some .local ->
  bindL kindOf (P.zip vs) m x=some v
 |[],_,_,_,_,h,_,_=>by simp at h
 |_::_,[],_,_,_,_,h,_=>by simp at h
 |p::P,w::vs,0,m,nd,h1,h2,hk=>by
  simp at h1 h2;subst h1;subst h2
  show bindL kindOf ((p,w)::P.zip vs) m p=_
  unfold bindL
  rw[vO fun v hv=>(ka.mp nd).1 (xb hv).1,ao hk]
  simp
 |p::P,w::vs,i+1,m,nd,h1,h2,hk=>by
  show bindL kindOf ((p,w)::P.zip vs) m x=_
  unfold bindL
  exact vJ (i:=i) (ka.mp nd).2 (by simpa using h1) (by simpa using h2) hk
def wD{kindOf:Str->Option NameKind}{x:Str}{v:Value}:∀{P:List Str}{vs:List Value}{i:Nat}{m:Str->Option Value},P.Nodup->P[i]?=some x->vs[i]?=some v->kindOf x≠some .local ->
  bindC kindOf (P.zip vs) m x=some v
 |[],_,_,_,_,h,_,_=>by simp at h
 |_::_,[],_,_,_,_,h,_=>by simp at h
 |p::P,w::vs,0,m,nd,h1,h2,hk=>by
  simp at h1 h2;subst h1;subst h2
  show bindC kindOf ((p,w)::P.zip vs) m p=_
  unfold bindC
  rw[vF fun v hv=>(ka.mp nd).1 (xb hv).1,ai hk]
  simp
 |p::P,w::vs,i+1,m,nd,h1,h2,hk=>by
  show bindC kindOf ((p,w)::P.zip vs) m x=_
  unfold bindC
  exact wD (i:=i) (ka.mp nd).2 (by simpa using h1) (by simpa using h2) hk
def lV(N:List Str)(vs:List V):St:=vs.map some++List.replicate (N.length-vs.length) none
def aF0(CX:CXT)(P:Program)(w:World)(K:PySem.W.Frag)(mg:Str->Option Value)(base:Heap)(N:List Str)(qual:Str)(scope:Scope)(f:Addr)(cd:Value)(A:Around)(outer:List Env)(s:Shared)(H:Hp)(E:XK):Cx where
 prog:=P
 w:=w
 K:=K
 mg:=mg
 base:=base
 A:=A.deeper (envOfC qual scope s.heap.objs.size f cd)
 N:=N
 s₀:=s
 H₀:=H
 env:=envOfC qual scope s.heap.objs.size f cd
 outer:=outer
 stack:=envOfC qual scope s.heap.objs.size f cd::outer
 ex:=[]
 calm:=true
 fn:=fun _=>true
 pn:=[]
 xe:=fun e s'=>wpAny (model P w) (A.deeper (envOfC qual scope s.heap.objs.size f cd)) (leaving (envOfC qual scope s.heap.objs.size f cd) e) (fun _ s''=>CX outer H s E e s'') (fun e' s''=>CX outer H s E e' s'') s'
def aA1{sc:Scope}{n:Nat}{x:Str}(h:sc.names.lookup x=some .cell):∃c,(cellsFrom n sc.names []).lookup x=some c:=by
 have q:=xo sc.names n [] (.inl h)
 exact vp.mp q
def aW1{CX:CXT}{P:Program}{w:World}{K:PySem.W.Frag}{mg:Str->Option Value}{base:Heap}{N ps:List Str}{qual:Str}{scope:Scope}{f:Addr}{cd:Value}{A:Around}{outer:List Env}{s s1:Shared}{H:Hp}{E:XK}{us:List Value}{vs:List V}
  (S:nI N ps scope) (hd:A.handled=none) (e0:aM5 P w K mg base A outer s H) (hl:vs.length=ps.length) (r:bC vs us)
  (x:InCallC s s.heap.objs.size (bindL (envOfC qual scope s.heap.objs.size f cd).kindOf (ps.zip us) fun _=>none) (cellsFrom (s.heap.objs.size+1) scope.names []) (bindC (envOfC qual scope s.heap.objs.size f cd).kindOf (ps.zip us) fun _=>none) s1) :
  aV (aF0 CX P w K mg base N qual scope f cd A outer s H E) [] (lV N vs) H s1:=by
 have hpl:ps.length<=N.length:=by have:=gv List.length S.pre;rw[ef] at this;lia
 obtain⟨h1,tk,rfl,hk⟩:=x.done
 have noA:∀b:Addr,b∉(aF0 CX P w K mg base N qual scope f cd A outer s H E).ex:=fun b z=>absurd (show b∈([]:List Addr) from z) (by simp)
 refine⟨⟨e0.mod,S.kind,rfl,rfl,af _,fun y z c h1 h2=>?_,fun y hy=>?_,fun y c _ h=>?_,fun _=>hd,Around.frames_deeper e0.frames,.inr ⟨rfl,rfl⟩,fun b z=>absurd z (noA b),e0.bs,e0.bsz,fun b _ _=>noA b,fun b z=>absurd z (noA b),e0.funs,e0.frf⟩,
  rfl,e0.bare,Un.kept hk,⟨_,x.toInCall.ns,fun i y v h1 h2 h3=>?_⟩,fun y c h=>⟨_,x.cell y c h⟩,e0.hok.fresh (af _),fun y c h=>?_,fun p hp=>absurd (show p∈([]:List (Addr×Obj)) from hp) (by simp),e0.hok.kept hk,?_⟩
 ·exact name_of_addr x.apart (jp h1) (jp h2)
 ·have hy:scope.names.lookup y=some .cell\/scope.names.lookup y=some .free:=hy
  rcases hy with hy|hy
  ·exact aA1 hy
  ·exact absurd rfl (S.nofree _ (jp hy))
 ·exact fi (x.above y c (jp h))
 ·have hi:i<vs.length:=by
   unfold lV at h2
   by_cases hi:i<vs.length
   ·exact hi
   ·rw[uw (by simpa using hi)] at h2
    rw[List.getElem?_replicate] at h2
    split at h2<;>cases h2
  have ha:vs[i]?=some v:=by
   unfold lV at h2
   rw[List.getElem?_append_left (by simpa using hi),df] at h2
   cases e:vs[i]? with
   |none=>rw[e] at h2;cases h2
   |some a=>rw[e] at h2;cases h2;rfl
  obtain⟨u,hu,rv⟩:=r.get ha
  have hp:ps[i]?=some y:=by
   rw[<-S.pre,List.getElem?_take_of_lt (by lia)];exact h1
  have ndP:ps.Nodup:=by rw[<-S.pre];exact S.nd.sublist (List.take_sublist _ _)
  refine⟨u,rv,?_⟩
  rcases S.par y (bj hp) with k|k
  ·exact .inl ⟨k,vJ ndP hp hu k⟩
  ·obtain⟨c,e⟩:=aA1 (n:=s.heap.objs.size+1) k
   refine .inr ⟨.inl k,c,e,?_⟩
   have q:=x.cell y c e
   rw[wD ndP hp hu (by show scope.names.lookup y≠_;rw[k];decide)] at q
   exact q
 ·exact e0.hok.fresh (fi (x.above y c (jp h)))
 ·unfold lV
  show _=N.length
  rw[bg,ac,ye]
  lia
def bV9{CX:CXT}{P:Program}{w:World}{K:PySem.W.Frag}{mg:Str->Option Value}{base:Heap}{k:Nat}{f:Addr}{name qual:Str}{params:Arguments}{body:List Stmt}{scope:Scope}{dV kV doc pm cdv ct oc:Value}{an od:Option Addr}
  {osl:Array (Option Value)}{N ps:List Str}{sp:Sp}(lk:K.lookup f=some ⟨oc,od,.func (PySem.W.fnOf name qual params body scope dV kV doc pm an cdv ct),osl⟩) (hcd:PySem.W.codeIn K cdv qual=true) (S:nI N ps scope)
  (len:∀vs H Q E,sp vs H Q E->vs.length=ps.length)
  (hbody:∀(A:Around) (outer:List Env) (s:Shared) (H:Hp) (vs:List V) (Q:VK) (E:XK),dE k (A.deeper (envOfC qual scope s.heap.objs.size f cdv))->sp vs H Q E ->
   ∃t,yW (aF0 CX P w K mg base N qual scope f cdv A outer s H E) body t/\t { nx:=fun _ H'=>Q .non H',rt:=Q } (lV N vs) H) :
  kK P w K mg base CX (k+1) f (PySem.W.fnOf name qual params body scope dV kV doc pm an cdv ct) ps sp:=by
 refine⟨len,fun A outer s H args us vs Q E hr e0 hb r hsp=>?_⟩
 have hl:=len _ _ _ _ hsp
 have KX:K.In s.heap:=e0.mod.kin.keeps fun b o e=>(e0.bs b o e).1
 have lim:s.heap.NoLimit:=e0.mod.nolimit.keeps fun b o e=>(e0.bs b o e).1
 have hkind:∀y∈ps.zip us,scope.names.lookup y.1=some .local\/(scope.names.lookup y.1=some .cell/\((cellsFrom (s.heap.objs.size+1) scope.names []).lookup y.1).isSome=true):=fun⟨n,v⟩ hy=>by
  rcases S.par n (xb hy).1 with q|q
  ·exact .inl q
  ·exact .inr ⟨q,xo _ _ _ (.inl q)⟩
 refine codeAny_call_function hr.depth (KX _ _ lk) rfl S.co S.gen rfl (PySem.W.codeRec_of KX hcd) (hb _ _ _ _ ?_)
 refine wpAny_newFunctionEnv_cells S.kind hkind fun env he s1 x=>?_
 subst he
 refine⟨lim.keeps x.toInCall.keep,codeAny_func ?_⟩
 obtain⟨t,ht,hq⟩:=hbody A outer s H vs Q E (hr.deeper _) hsp
 have I:aV (aF0 CX P w K mg base N qual scope f cdv A outer s H E) [] (lV N vs) H s1:=aW1 S hr.hd e0 hl r x
 refine ft (ht [] s1 (lV N vs) H _ I hq) (fun fl s' hs=>?_) fun e s' hs=>hs
 have fin:∀{σ':St}{H':Hp}{v:V}{u:Value},aV (aF0 CX P w K mg base N qual scope f cdv A outer s H E) [] σ' H' s'->bF v u->Q v H'->CE outer P w H s Q u s':=
  fun {σ' H' v u} J rv q=>⟨v,H',J.os,J.bare,J.base,J.hok,rv,q⟩
 cases fl with
 |ret u =>
  obtain⟨v,σ',H',J,rv,q⟩:=hs
  exact fin J rv q
 |next =>
  obtain⟨σ',H',J,q⟩:=hs
  exact fin (v:=V.non) (u:=Value.none) J rfl q
 |brk =>
  obtain⟨_,_,_,q⟩:=hs
  exact False.elim q
 |cont =>
  obtain⟨_,_,_,q⟩:=hs
  exact False.elim q
section
variable {X:Cx}{x:Str}{p pos:Pos}{e:Expr}{es:List Expr}{t:TA}{id T:String}{r:List V->Hp->VK->Prop}
def tCB(r:List V->Hp->VK->Prop)(t:TA):TE:=fun σ H Q=>t σ H fun vs H1=>r vs H1 Q
def bK4(hc:eU X (.builtin id) r)(hg:Gl X x)(hm:X.mg x=none)(hv:bootBuiltins x=some (.builtin id))(ha:PA X (e::es) t)(hn:x≠"__name__":=by decide)(hdb:(x==("__debug__": Str))=false:=by decide)
  (he:starEach (e::es) X.env=(false,eval e X.env)::starEach es X.env:=by rfl) (hpl:(backTo pos (starEach es X.env)).any (·.1)=false:=by rfl):PE X (.Call (.Name x p) (e::es) [] pos) (tCB r t):=by
 intro pins s σ H Q I h
 refine gr (iV I hg hm hv ?_ hn hdb)
 refine PyProof.Rows.callWith_builtin1 (cW (ha pos pins s σ H _ I h) ?_) he hpl;rintro us s1 ⟨vs,H1,I1,r1,q1⟩;exact hc pins s1 σ H1 vs us Q I1 r1 q1
def aS4(hc:eU X (.type T) r)(hg:Gl X x)(hm:X.mg x=none)(hv:bootBuiltins x=some (.type T))(ha:PA X (e::es) t)(hn:x≠"__name__":=by decide)(hdb:(x==("__debug__": Str))=false:=by decide)
  (he:starEach (e::es) X.env=(false,eval e X.env)::starEach es X.env:=by rfl) (hpl:(backTo pos (starEach es X.env)).any (·.1)=false:=by rfl):PE X (.Call (.Name x p) (e::es) [] pos) (tCB r t):=by
 intro pins s σ H Q I h
 refine gr (iV I hg hm hv ?_ hn hdb)
 refine fq (cW (ha pos pins s σ H _ I h) ?_) he hpl;rintro us s1 ⟨vs,H1,I1,r1,q1⟩;exact hc pins s1 σ H1 vs us Q I1 r1 q1
end
section
variable {κ:Type} [DecidableEq κ]
def dA(kvs:List (κ×V))(k:κ):Option V:=(kvs.find? fun kv=>decide (kv.1=k)).map (·.2)
def cH(kvs:List (κ×V))(k:κ)(v:V):List (κ×V):=
 if (kvs.any fun kv=>decide (kv.1=k))=true then kvs.map (fun kv=>if kv.1=k then (kv.1,v) else kv) else kvs++[(k,v)]
def iD{k:κ}:dA ([]:List (κ×V)) k=none:=rfl
def bL{p:κ×V}{r:List (κ×V)}{k:κ}(e:p.1=k):dA (p::r) k=some p.2:=by simp[dA,List.find?_cons,e]
def aO{p:κ×V}{r:List (κ×V)}{k:κ}(e:¬p.1=k):dA (p::r) k=dA r k:=by simp[dA,List.find?_cons,e]
def dQ(k:κ):∀kvs:List (κ×V),(kvs.any fun kv=>decide (kv.1=k))=(dA kvs k).isSome
 |[]=>rfl
 |p::r=>by
  rw[md]
  by_cases e:p.1=k
  ·simp only[bL e,decide_eq_true e,Bool.true_or,Option.isSome_some]
  ·rw[aO e,dq e,Bool.false_or];exact dQ k r
def aC9(k j:κ)(y:V):∀kvs:List (κ×V),dA (kvs.map fun kv=>if kv.1=k then (kv.1,y) else kv) j=(dA kvs j).map fun x=>if j=k then y else x
 |[]=>rfl
 |p::r=>by
  have ih:=aC9 k j y r
  rw[bt]
  by_cases h:p.1=k
  ·rw[ao h]
   by_cases e:p.1=j
   ·rw[bL (p:=(p.1,y)) e,bL e,rh,ao (e.symm.trans h)]
   ·rw[aO (p:=(p.1,y)) e,aO e,ih]
  ·rw[ai h]
   by_cases e:p.1=j
   ·rw[bL (p:=p) e,bL e,rh,ai (fun z=>h (e.trans z))]
   ·rw[aO (p:=p) e,aO e,ih]
def xA(k j:κ)(y:V):∀kvs:List (κ×V),dA kvs k=none->dA (kvs++[(k,y)]) j=if j=k then some y else dA kvs j
 |[],_=>by
  by_cases e:k=j
  ·rw[ao e.symm];exact bL (p:=(k,y)) e
  ·rw[ai (fun z=>e z.symm)];exact aO (p:=(k,y)) e
 |p::r,hn=>by
  rw[List.cons_append]
  have hk:¬p.1=k:=fun z=>by rw[bL z] at hn;cases hn
  rw[aO hk] at hn
  have ih:=xA k j y r hn
  by_cases e:p.1=j
  ·rw[bL e,bL e,ai (fun z=>hk (e.trans z))]
  ·rw[aO e,aO e,ih]
def bF5(kvs:List (κ×V))(k j:κ)(y:V):dA (cH kvs k y) j=if j=k then some y else dA kvs j:=by
 unfold cH
 by_cases a:(kvs.any fun kv=>decide (kv.1=k))=true
 ·rw[ao a,aC9]
  rw[dQ] at a
  by_cases e:j=k
  ·obtain⟨x,hx⟩:=vp.mp a
   rw[ao e,e,hx,rh,ao rfl]
  ·rw[ai e]
   cases dA kvs j with
   |none=>rfl
   |some x=>rw[rh,ai e]
 ·rw[ai a]
  refine xA k j y kvs ?_
  rw[dQ] at a
  cases q:dA kvs k with
  |none=>rfl
  |some x=>rw[q] at a;exact(a rfl).elim
def iJ(kvs:List (κ×V))(k:κ)(v:V):(cH kvs k v).length<=kvs.length+1:=by
 unfold cH
 split
 ·rw[ac];lia
 ·rw[bg,bo,List.length_nil];lia
def gD{kvs:List (κ×V)}{k:κ}(v:V)(h:dA kvs k=none):cH kvs k v=kvs++[(k,v)]:=by
 unfold cH
 rw[dQ,h]
 exact ai (by decide)
def kQ.isSome_eq{o:Option V}{u:Option Value}(r:kQ o u):o.isSome=u.isSome:=by
 cases o with
 |none=>cases u with
  |none=>rfl
  |some _=>exact(show False from r).elim
 |some _=>cases u with
  |none=>exact(show False from r).elim
  |some _=>rfl
def kQ.getD{o:Option V}{u:Option Value}{d:V}{d':Value}(r:kQ o u)(rd:bF d d'):bF (o.getD d) (u.getD d'):=by
 cases o with
 |none=>cases u with
  |none=>exact rd
  |some _=>exact(show False from r).elim
 |some _=>cases u with
  |none=>exact(show False from r).elim
  |some _=>exact r
def KV.val{kvs:List (κ×V)}{vs:List (κ×Value)}(r:KV kvs vs)(k:κ):kQ (dA kvs k) (valueAt vs k):=by
 unfold KV at r
 induction r with
 |nil=>exact ii
 |@cons p q ps qs h t ih =>
  obtain⟨h1,h2⟩:=h
  by_cases e:p.1=k
  ·have e':q.1=k:=h1.symm.trans e
   have b:valueAt (q::qs) k=some q.2:=by simp[valueAt,List.find?_cons,e']
   rw[bL e,b];exact h2
  ·have e':¬q.1=k:=fun z=>e (h1.trans z)
   have b:valueAt (q::qs) k=valueAt qs k:=by simp[valueAt,List.find?_cons,e']
   rw[aO e,b];exact ih
def KV.any{kvs:List (κ×V)}{vs:List (κ×Value)}(r:KV kvs vs)(k:κ):(kvs.any fun kv=>decide (kv.1=k))=vs.any fun kv=>decide (kv.1=k):=by
 unfold KV at r
 induction r with
 |nil=>rfl
 |cons h t ih=>rw[md,md,ih,h.1]
def KV.repl{kvs:List (κ×V)}{vs:List (κ×Value)}(r:KV kvs vs)(k:κ){y:V}{u:Value}(ry:bF y u) :
  KV (kvs.map fun kv=>if kv.1=k then (kv.1,y) else kv) (vs.map fun kv=>if kv.1=k then (kv.1,u) else kv):=by
 unfold KV at r ⊢
 induction r with
 |nil=>exact .nil
 |@cons p q ps qs h t ih =>
  rw[bt,bt]
  refine .cons ?_ ih
  obtain⟨h1,h2⟩:=h
  by_cases e:p.1=k
  ·rw[ao e,ao (h1.symm.trans e)];exact⟨h1,ry⟩
  ·rw[ai e,ai (fun z=>e (h1.trans z))];exact⟨h1,h2⟩
def KV.put{kvs:List (κ×V)}{vs:List (κ×Value)}(r:KV kvs vs)(k:κ){y:V}{u:Value}(ry:bF y u):KV (cH kvs k y) (stored vs k u):=by
 unfold cH stored
 rw[r.any k]
 by_cases e:(vs.any fun kv=>decide (kv.1=k))=true
 ·rw[ao e,ao e];exact r.repl k ry
 ·rw[ai e,ai e];exact aAo r ⟨rfl,ry⟩
def KV.length{kvs:List (κ×V)}{vs:List (κ×Value)}(r:KV kvs vs):kvs.length=vs.length:=jd r
end
def vS{P:Program}{w:World}{k:Key}{u:Value}(r:bF (kV k) u):(bG P w).is k u=true:=by
 cases k with
 |inl i=>obtain⟨t,e⟩:=(show ∃t,u=Value.int i t from r);subst e;exact aE1 P w i t
 |inr x=>obtain⟨t,e⟩:=(show ∃t,u=Value.str x t from r);subst e;exact aD2 P w x t
def wP{P:Program}{w:World}:∀{ks:List Key}{us:List Value},bC (ks.map kV) us->ItemsAre (bG P w) ks us
 |[],_,r=>by rw[vq] at r;cases r;exact .nil
 |k::ks,_,r=>by
  rw[bt] at r
  cases r with
  |cons h t=>exact .cons (vS h) (wP t)
abbrev KT(H:Hp):List (List Key×V)->List (List Key×Addr×Value)->Prop:=Paired fun p q=>p.1=q.1/\H q.2.1=some (.tup (p.1.map kV))/\bF p.2 q.2.2
def KT.val{H:Hp}{kvs:List (List Key×V)}{xs:List (List Key×Addr×Value)}(r:KT H kvs xs)(k:List Key):kQ (dA kvs k) ((atKey xs k).map (·.2)):=by
 induction r with
 |nil=>exact ii
 |@cons p q ps qs h t ih =>
  obtain⟨h1,_,h2⟩:=h
  by_cases e:p.1=k
  ·have e':q.1=k:=h1.symm.trans e
   have b:atKey (q::qs) k=some q.2:=by simp[atKey,List.find?_cons,e']
   rw[bL e,b];exact h2
  ·have e':¬q.1=k:=fun z=>e (h1.trans z)
   have b:atKey (q::qs) k=atKey qs k:=by simp[atKey,List.find?_cons,e']
   rw[aO e,b];exact ih
def KT.repl{H:Hp}{kvs:List (List Key×V)}{xs:List (List Key×Addr×Value)}(r:KT H kvs xs)(k:List Key){y:V}{u:Value}(ry:bF y u) :
  KT H (kvs.map fun kv=>if kv.1=k then (kv.1,y) else kv) (xs.map (putAt k u)):=by
 induction r with
 |nil=>exact .nil
 |@cons p q ps qs h t ih =>
  rw[bt,bt]
  refine .cons ?_ ih
  obtain⟨h1,h2,h3⟩:=h
  unfold putAt
  by_cases e:p.1=k
  ·rw[ao e,ao (h1.symm.trans e)];exact⟨h1,h2,ry⟩
  ·rw[ai e,ai (fun z=>e (h1.trans z))];exact⟨h1,h2,h3⟩
def KT.put{H:Hp}{kvs:List (List Key×V)}{xs:List (List Key×Addr×Value)}(r:KT H kvs xs)(k:List Key){b:Addr}{y:V}{u:Value}(hb:H b=some (.tup (k.map kV)))(ry:bF y u) :
  KT H (cH kvs k y) (storedH xs k b u):=by
 have e:(kvs.any fun kv=>decide (kv.1=k))=(atKey xs k).isSome:=by
  rw[dQ,(r.val k).isSome_eq,pd]
 unfold cH storedH
 rw[e]
 by_cases q:(atKey xs k).isSome=true
 ·rw[ao q,ao q];exact r.repl k ry
 ·rw[ai q,ai q];exact aAo r ⟨rfl,hb,ry⟩
def KT.keeps{H H':Hp}{kvs:List (List Key×V)}{xs:List (List Key×Addr×Value)}(r:KT H kvs xs)(ht:∀b ys,H b=some (.tup ys)->H' b=some (.tup ys)):KT H' kvs xs:=
 Paired.mapP r fun _ _ z=>⟨z.1,ht _ _ z.2.1,z.2.2⟩
section
variable {P:Program}{w:World}{H:Hp}{h:Heap}{a:Addr}
def bD9{u:HO}(ok:kL P w H h)(e:Rd H a u):bZ P w H h a u:=e.ok ok
def vL{kvs:List (Key×V)}(ok:kL P w H h)(e:Rd H a (.dK kvs)):kvs.length<=sizeLine/\(a==sysModules)=false/\∃vs,KV kvs vs/\h.DictOf (bG P w) a vs:=
 show bZ P w H h a (.dK kvs) from bD9 ok e
def aN9{kvs:List (Key×V)}(ok:kL P w H h)(e:H a=some (.dK kvs)):kvs.length<=sizeLine/\(a==sysModules)=false/\∃vs,KV kvs vs/\h.DictOf (bG P w) a vs:=vL ok (.inl e)
def tM{ks:List Key}(ok:kL P w H h)(e:H a=some (.tup (ks.map kV))):(tupleKind (bG P w)).is h ks a:=by
 obtain⟨_,its,r,o,h1,h2,n,h3,_⟩:=(show bZ P w H h a (.tup (ks.map kV)) from ok a _ e)
 exact⟨o,its.toArray,n,h1,h2,h3,by simpa using wP r⟩
def wI{kvs:List (List Key×V)}(ok:kL P w H h)(e:Rd H a (.dT kvs)):kvs.length<=sizeLine/\(a==sysModules)=false /\
  ∃xs,KT H kvs xs/\h.DictOfH (tupleKind (bG P w)) a xs:=by
 obtain⟨z,y,xs,r,o,es,ep,h1,h2,h3,h4,h5⟩:=(show bZ P w H h a (.dT kvs) from bD9 ok e)
 refine⟨z,y,xs,r,o,es,ep,h1,h2,h3,h4,fun x hx=>?_,h5⟩
 have all:∀{l:List (List Key×V)}{m:List (List Key×Addr×Value)},KT H l m->∀x∈m,(tupleKind (bG P w)).is h x.1 x.2.1:=by
  intro l m q
  induction q with
  |nil=>intro x hx;exact nomatch hx
  |@cons p q ps qs hq t ih =>
   intro x hx
   rcases az.mp hx with e|hx
   ·subst e
    exact tM ok (by rw[<-hq.1];exact hq.2.1)
   ·exact ih x hx
 exact all r x hx
def cS8{kvs:List (List Key×V)}(ok:kL P w H h)(e:H a=some (.dT kvs)):kvs.length<=sizeLine/\(a==sysModules)=false /\
  ∃xs,KT H kvs xs/\h.DictOfH (tupleKind (bG P w)) a xs:=wI ok (.inl e)
end
def eS(H:Hp)(a:Addr)(y:V)(r:Option V):Prop:=
 (∃kvs k,Rd H a (.dK kvs)/\y=kV k/\r=dA kvs k)\/∃kvs k b,Rd H a (.dT kvs)/\y= .ref b/\H b=some (.tup (k.map kV))/\r=dA kvs k
def lT(H:Hp)(a:Addr)(y v:V)(H':Hp):Prop:=
 (∃kvs k,H a=some (.dK kvs)/\y=kV k/\kvs.length<sizeLine/\H'=aN H a (.dK (cH kvs k v))) \/
 ∃kvs k b,H a=some (.dT kvs)/\y= .ref b/\H b=some (.tup (k.map kV))/\kvs.length<sizeLine/\H'=aN H a (.dT (cH kvs k v))
def eS.k{H:Hp}{a:Addr}{kvs:List (Key×V)}{k:Key}(e:H a=some (.dK kvs)):eS H a (kV k) (dA kvs k):= .inl ⟨kvs,k,.inl e,rfl,rfl⟩
def lT.k{H:Hp}{a:Addr}{kvs:List (Key×V)}{k:Key}{v:V}(e:H a=some (.dK kvs))(hl:kvs.length<sizeLine):lT H a (kV k) v (aN H a (.dK (cH kvs k v))):= .inl ⟨kvs,k,e,rfl,hl,rfl⟩
section
variable {X:Cx}{pins:List (Addr×Obj)}{σ:St}{H:Hp}{s:Shared}{a:Addr}{y v:V}{u r:Value}{o:Option V}{A:Around}{E:Value->Shared->Prop}
def aV.big(I:aV X pins σ H s):sysModules<s.heap.objs.size:=by
 have h:mainGlobals<s.heap.objs.size:=(I.mod.glob.keeps I.bk).lt
 exact Nat.lt_trans (by decide) h
def wG{Q:Value->Shared->Prop}(hu:A.units+1<cLine)(I:aV X pins σ H s)(g:eS H a y (some v))(ry:bF y u)(h:∀w' s',aV X pins σ H s'->bF v w'->Q w' s') :
  wpAny (model X.prog X.w) A (getItem (.ref a) u) Q E s:=by
 rcases g with⟨kvs,k,e,ey,l⟩|⟨kvs,k,b,e,ey,eb,l⟩
 ·subst ey
  obtain⟨z,hd,vs,rel,dd⟩:=vL I.hok e
  obtain⟨w',hw,rw'⟩:=kQ.some_of (v:=v) (o:=valueAt vs k) (by rw[l];exact rel.val k)
  exact wpAny_getItem_of (vS ry) dd.mapOf hw (h w' _ (I.tok _) rw')
 ·subst ey
  cases(show u=Value.ref b from ry)
  obtain⟨z,hd,xs,rel,dd⟩:=wI I.hok e
  obtain⟨w',hw,rw'⟩:=kQ.some_of (v:=v) (o:=(atKey xs k).map (·.2)) (by rw[l];exact rel.val k)
  obtain⟨p,hp,hp2⟩:=gz.mp hw
  refine zy (om hu) (tM I.hok eb) dd hp ?_
  rw[hp2]
  exact h w' _ (I.tok _) rw'
def bQ2{Q:Value->Shared->Prop}(hu:A.units+1<cLine)(I:aV X pins σ H s)(g:eS H a y o)(ry:bF y u)(h:∀s',aV X pins σ H s'->Q (.bool (!o.isSome)) s') :
  wpAny (model X.prog X.w) A (compareOp .NotIn u (.ref a)) Q E s:=by
 rcases g with⟨kvs,k,e,ey,l⟩|⟨kvs,k,b,e,ey,eb,l⟩
 ·subst ey
  obtain⟨z,hd,vs,rel,dd⟩:=vL I.hok e
  refine wpAny_notIn_of (vS ry) hd dd.mapOf ?_
  rw[<-(rel.val k).isSome_eq, <-l]
  exact h _ (I.tok _)
 ·subst ey
  cases(show u=Value.ref b from ry)
  obtain⟨z,hd,xs,rel,dd⟩:=wI I.hok e
  refine wpAny_notIn_heap (om hu) (tM I.hok eb) hd dd ?_
  have q:=(rel.val k).isSome_eq
  rw[pd] at q
  rw[<-q, <-l]
  exact h _ (I.tok _)
def rG{h':Heap}{t':Nat}{ob:HO}(I:aV X pins σ H s)(mu:Mut (H a))(hs:Heap.SameBut a s.heap h')(he:∃q,h'.get? a=some q)(new:bZ X.prog X.w (aN H a ob) h' a ob) :
  aV X pins σ (aN H a ob) { s with heap:=h',toks:=t' }:=
 I.write (x:=a) (e:=a) mu (.inl rfl) (fun b q hb z=>(hs.2 b hb).trans z) he new
def aH8{P:Program}{w:World}{H':Hp}{h':Heap}{kvs:List (Key×V)}{vs:List (Key×Value)}(z:kvs.length<=sizeLine)(hd:(a==sysModules)=false)(rel:KV kvs vs)(dd:h'.DictOf (bG P w) a vs) :
  bZ P w H' h' a (.dK kvs):=⟨z,hd,vs,rel,dd⟩
def wQ{H':Hp}{Q:Unit->Shared->Prop}(hu:A.units+1<cLine)(I:aV X pins σ H s)(g:lT H a y v H')(ry:bF y u)(rv:bF v r)(h:∀s',aV X pins σ H' s'->Q () s') :
  wpAny (model X.prog X.w) A (setItem (.ref a) u r) Q E s:=by
 rcases g with⟨kvs,k,e,ey,l,eH⟩|⟨kvs,k,b,e,ey,eb,l,eH⟩
 ·subst ey eH
  obtain⟨z,hd,vs,rel,dd⟩:=aN9 I.hok e
  have hz:vs.length<=sizeLine:=by rw[<-rel.length];exact z
  have hl:(cH kvs k v).length<=sizeLine:=by have:=iJ kvs k v;lia
  refine wpAny_setItem_pairs (hsz:=hz) (vS ry) dd fun h' dd' hs=>h _ ?_
  have he:∃q,h'.get? a=some q:=let⟨q,_,_,hq,_⟩:=dd';⟨q,hq⟩
  exact rG I (by rw[e];exact ii) hs he (aH8 hl hd (rel.put k rv) dd')
 ·subst ey eH
  cases(show u=Value.ref b from ry)
  obtain⟨z,hd,xs,rel,dd⟩:=cS8 I.hok e
  have hz:xs.length<=sizeLine:=by rw[<-jd rel];exact z
  have hl:(cH kvs k v).length<=sizeLine:=by have:=iJ kvs k v;lia
  refine zz (hsz:=hz) (om hu) (tM I.hok eb) dd fun h' dd' hs=>h _ ?_
  obtain⟨q,es,ep,hq,h2,h3,h4,_,h5⟩:=dd'
  refine rG I (by rw[e];exact ii) hs ⟨q,hq⟩ ⟨hl,hd,_,(rel.put k eb rv).keeps fun c ys ec=>?_,q,es,ep,hq,h2,h3,h4,h5⟩
  rw[aH (gE ec e (fun z=>nomatch z))]
  exact ec
end
section
variable {X:Cx}{pins:List (Addr×Obj)}{σ:St}{H:Hp}{s:Shared}{a:Addr}{kvs:List (Key×V)}{k:Key}{u:Value}{A:Around}{E:Value->Shared->Prop}
end
def bC7(i:Expr):Prop:=∀ov iv,subscripted i false ov iv=operate [ov,iv] (getItem ov iv)
def aN8{prog:Program}{w:World}{A:Around}{E:Value->Shared->Prop}{s:Shared}{env:Env}{value slice:Expr}{pos:Pos}{T id:String}{Q:Value->Shared->Prop}
  (hl:typeLookup (.type T) "__getitem__"=pure (some (.builtin id))) (hs:bC7 slice)
  (h:wpAny (model prog w) A (eval value env) (fun o s₁=>wpAny (model prog w) A (eval slice env) (fun i s₂=>s₂.TypeIs o T/\wpAny (model prog w) A (getItem o i) Q E s₂) E s₁) E s) :
  wpAny (model prog w) A (eval (.Subscript value slice pos) env) Q E s:=by
 refine Subscript_ (ft h (fun o s₁ h₁=>ft h₁ (fun i s₂ h₂=>?_) fun _ _ x=>x) fun _ _ x=>x)
 obtain⟨hT,h₂⟩:=h₂
 unfold subscriptTail
 refine aa ?_
 rw[getitemInPython_of_ne hT.not_modules]
 refine aa (gp hT hl ?_)
 have fin:wpAny (model prog w) A (subscripted slice false o i) (fun r s₃=>wpAny (model prog w) A (letTemporaryGo value o r>>=fun _=>pure r) Q E s₃) E s₂:=by
  rw[hs o i]
  exact wpAny_operating (ft h₂ (fun r s₃ h₃=>aa (wpAny_letTemporaryGo (am h₃))) fun _ _ x=>x)
 first
  |exact am (aa fin)
  |exact aa (am (aa fin))
  |exact aa fin
def pZ{X:Cx}{pins:List (Addr×Obj)}{σ:St}{H:Hp}{s:Shared}{a:Addr}{y:V}{o:Option V}(I:aV X pins σ H s)(g:eS H a y o):s.TypeIs (.ref a) "dict":=by
 rcases g with⟨kvs,k,e,_,_⟩|⟨kvs,k,b,e,_,_,_⟩
 ·obtain⟨_,_,vs,_,dd⟩:=vL I.hok e
  exact dd.typeIs
 ·obtain⟨_,_,xs,_,dd⟩:=wI I.hok e
  exact dd.typeIs
def bV6(td ty:TE):TE:=fun σ H Q=>td σ H fun x H1=>ty σ H1 fun y H2=>∃a v,x= .ref a/\eS H2 a y (some v)/\Q v H2
def bU9(td ty tv:TE):TS:=fun D σ H=>tv σ H fun v H1=>td σ H1 fun x H2=>ty σ H2 fun y H3=>∃a H4,x= .ref a/\lT H3 a y v H4/\D.nx σ H4
section
variable {X:Cx}{o i e value:Expr}{pos pos' tpos:Pos}{td ty tv:TE}
def bR5(hu:X.A.units+1<cLine)(ho:PE X o td)(hi:PE X i ty)(hs:bC7 i):PE X (.Subscript o i pos) (bV6 td ty):=by
 intro pins s σ H Q I h
 refine aN8 PySem.F.slot_dict_getitem.lookup hs (cW (ho pins s σ H _ I h) ?_);rintro u s1 ⟨x,H1,I1,rx,q1⟩;refine cW (hi pins s1 σ H1 _ I1 q1) ?_;rintro iv s2 ⟨y,H2,I2,ry,a,v,ex,g,q2⟩
 subst ex
 obtain rfl:u=Value.ref a:=rx
 exact⟨pZ I2 g,wG hu I2 g ry fun w' s3 I3 rw'=>⟨v,H2,I3,rw',q2⟩⟩
def bP7(hu:X.A.units+1<cLine)(ho:PE X o td)(hi:PE X i ty)(hv:PE X value tv)(hs:swapsWith value (some (.Subscript o i pos')) pos.line X.env=pure false) :
  PS X (.Assign [.Subscript o i pos'] value pos) (bU9 td ty tv):=by
 intro pins s σ H D I h
 refine xp (cW (hv pins s σ H _ I h) ?_) hs;rintro r s1 ⟨v,H1,I1,rv,q1⟩;refine cW (ho pins s1 σ H1 _ I1 q1) ?_;rintro u s2 ⟨x,H2,I2,rx,q2⟩;refine cW (hi pins s2 σ H2 _ I2 q2) ?_;rintro iv s3 ⟨y,H3,I3,ry,a,H4,ex,g,q3⟩
 subst ex
 obtain rfl:u=Value.ref a:=rx
 exact wQ hu I3 g ry rv fun s4 I4=>⟨σ,H4,I4,q3⟩
end
def zQ{P:Program}{w:World}{H:Hp}(h:Heap)(hb:sysModules<h.objs.size):bZ P w H (h.push { cls:= .type "dict",data:= .dict #[] }) h.objs.size (.dK []):=
 ⟨bi _,ie.mpr (Ne.symm (bv hb)),[],.nil,Heap.DictOf.new h⟩
def bC2{P:Program}{w:World}{H:Hp}(h:Heap)(hb:sysModules<h.objs.size):bZ P w H (h.push { cls:= .type "dict",data:= .dict #[] }) h.objs.size (.dT []):=
 ⟨bi _,ie.mpr (Ne.symm (bv hb)),[],.nil,_, #[],0,be _ rfl,⟨rfl,rfl,rfl⟩,rfl,rfl,ou⟩
def tDNewK:TE:=fun _ H Q=>∀p,H p=none->Q (.ref p) (aN H p (.dK []))
def tDNewT:TE:=fun _ H Q=>∀p,H p=none->Q (.ref p) (aN H p (.dT []))
section
variable {X:Cx}{pos:Pos}
def sK:PE X (.Dict [] [] pos) tDNewK:=fun pins s σ H Q I h =>
 vt ⟨.ref s.heap.objs.size,_,I.laid (a:=s.heap.objs.size) (o:= .dK []) (t':=s.toks) (fun _ _ q=>ah _ q) (af _) (zQ s.heap I.big),rfl,h _ (I.hok.fresh (af _))⟩
def bJ3:PE X (.Dict [] [] pos) tDNewT:=fun pins s σ H Q I h =>
 vt ⟨.ref s.heap.objs.size,_,I.laid (a:=s.heap.objs.size) (o:= .dT []) (t':=s.toks) (fun _ _ q=>ah _ q) (af _) (bC2 s.heap I.big),rfl,h _ (I.hok.fresh (af _))⟩
end
def aF6:List (TE×TE)->St->Hp->(List (V×V)->Hp->Prop)->Prop
 |[],_,H,Q=>Q [] H
 |(tk,tv)::r,σ,H,Q=>tk σ H fun x H1=>tv σ H1 fun y H2=>aF6 r σ H2 fun ps H3=>Q ((x,y)::ps) H3
abbrev VV:List (V×V)->List (Value×Value)->Prop:=Paired fun p q=>bF p.1 q.1/\bF p.2 q.2
def PPs(X:Cx)(pos:Pos)(keys:List (Option Expr))(values:List Expr)(trs:List (TE×TE)):Prop:=
 ∀(pins:List (Addr×Obj)) (s:Shared) (σ:St) (H:Hp) (Q:List (V×V)->Hp->Prop),aV X pins σ H s->aF6 trs σ H Q ->
  wpAny (model X.prog X.w) X.A (evalPairs (pairTrees keys values X.env pos)) (fun vs s'=>∃ps H',aV X pins σ H' s'/\VV ps vs/\Q ps H') X.xe s
def aN2{X:Cx}{pos:Pos}:PPs X pos [] [] []:=fun pins s σ H Q I h=>pairTrees_nil_walk ⟨[],H,I,.nil,h⟩
def fP{X:Cx}{pos:Pos}{k v:Expr}{ks:List (Option Expr)}{vs:List Expr}{tk tv:TE}{trs:List (TE×TE)}(hk:PE X k tk)(hv:PE X v tv)(hr:PPs X pos ks vs trs) :
  PPs X pos (some k::ks) (v::vs) ((tk,tv)::trs):=fun pins s σ H Q I h =>
 pairTrees_cons_walk (cW (hk pins s σ H _ I h) fun u s1 ⟨x,H1,I1,rx,q1⟩=>cW (hv pins s1 σ H1 _ I1 q1) fun w2 s2 ⟨y,H2,I2,ry,q2⟩ =>
  cW (hr pins s2 σ H2 _ I2 q2) (by rintro ws s3 ⟨ps,H3,I3,rel,q3⟩;exact ⟨(x,y)::ps,H3,I3,.cons ⟨rx,ry⟩ rel,q3⟩))
def kD(kvs more:List (Key×V)):List (Key×V):=more.foldl (fun acc kv=>cH acc kv.1 kv.2) kvs
def KV.merge:∀{more:List (Key×V)}{rs:List (Key×Value)}{kvs:List (Key×V)}{vs:List (Key×Value)},KV more rs->KV kvs vs->KV (kD kvs more) (merged vs rs):=by
 intro more rs kvs vs r
 unfold KV at r
 induction r generalizing kvs vs with
 |nil=>intro q;exact q
 |@cons p q ps qs h t ih =>
  intro r0
  have e:KV (cH kvs p.1 p.2) (stored vs q.1 q.2):=by
   have:=r0.put p.1 h.2
   rw[<-h.1];exact this
  exact ih e
def lU:∀(more kvs:List (Key×V)),(kD kvs more).length<=kvs.length+more.length
 |[],kvs=>by show kvs.length<=kvs.length+0;lia
 |p::r,kvs=>by
  have h1:=lU r (cH kvs p.1 p.2)
  have h2:=iJ kvs p.1 p.2
  show(kD (cH kvs p.1 p.2) r).length<=_
  rw[bo];lia
def sX{P:Program}{w:World}:∀{kvs:List (Key×V)}{ws:List (Value×Value)},VV (kvs.map fun kv=>(kV kv.1,kv.2)) ws->∃rs,Carries (bG P w) ws rs/\KV kvs rs
 |[],_,r=>by rw[vq] at r;cases r;exact⟨[],ii,.nil⟩
 |p::kvs,_,r=>by
  rw[bt] at r
  cases r with
  |@cons a b as bs h t =>
   obtain⟨rs,c,q⟩:=sX (P:=P) (w:=w) t
   obtain⟨b1,b2⟩:=b
   exact⟨(p.1,b2)::rs,⟨vS h.1,rfl,c⟩,.cons ⟨rfl,h.2⟩ q⟩
def cM7(trs:List (TE×TE)):TE:=fun σ H Q=>∀p,H p=none->aF6 trs σ (aN H p (.dK [])) fun ps H2=>H2 p=some (.dK [])/\∃kvs:List (Key×V),ps=kvs.map (fun kv=>(kV kv.1,kv.2))/\kvs.length<=15/\Q (.ref p) (aN H2 p (.dK (kD [] kvs)))
def aR5{X:Cx}{pos:Pos}{keys:List (Option Expr)}{values:List Expr}{trs:List (TE×TE)}(h:PPs X pos keys values trs)(hall:keys.all (·.isSome)=true)(hl:keys.length=values.length)(h0:keys≠[])
  (h15:keys.length<=15):PE X (.Dict keys values pos) (cM7 trs):=by
 intro pins s σ H Q I q
 have hn:=I.hok.fresh (af s.heap.objs.size)
 have I1:=I.laid (a:=s.heap.objs.size) (o:= .dK []) (h':=s.heap.push { cls:= .type "dict",data:= .dict #[] }) (t':=s.toks) (fun _ _ q=>ah _ q) (af _) (zQ s.heap I.big)
 refine wpAny_Dict_walk (knd:=bG X.prog X.w) hall hl h0 h15 (cW (h pins _ σ _ _ I1 (q _ hn)) ?_);rintro ws s2 ⟨ps,H2,I2,rel,e,kvs,ep,lk,q2⟩
 subst ep
 obtain⟨rs,c,rk⟩:=sX (P:=X.prog) (w:=X.w) rel
 obtain⟨z,hd,vs0,r0,dd⟩:=aN9 I2.hok e
 cases r0
 refine⟨rs,c,dd,fun h' dd' hs=>⟨.ref s.heap.objs.size,_,?_,rfl,q2⟩⟩
 have hz:(kD [] kvs).length<=sizeLine:=by
  have h1:=lU kvs []
  rw[List.length_nil] at h1
  rw[jc];lia
 have he:∃q,h'.get? s.heap.objs.size=some q:=let⟨q,_,_,hq,_⟩:=dd';⟨q,hq⟩
 exact rG I2 (by rw[e];exact ii) hs he (aH8 hz hd (rk.merge .nil) dd')
structure M1(X:Cx)(o:Expr)(m:Str)(apos:Pos)(e:Expr)(cpos:Pos):Prop where
 base:attributeBase o m X.env (eval o X.env)=eval o X.env
 few:((backTo cpos (starEach [e] X.env)).all (fun x=> !x.1)&&(backToKw cpos (keywordEach [] X.env)).all (fun x=>x.1.isSome)
  && decide (([e]:List Expr).length+([]:List Keyword).length+(if ([]:List Keyword).isEmpty then 0 else 1)<30))=true
 line:(apos.endLine==cpos.line)=true
 trees:backTo cpos (starEach [e] X.env)=[(false,eval e X.env)]
structure M2(X:Cx)(o:Expr)(m:Str)(apos:Pos)(e f:Expr)(cpos:Pos):Prop where
 base:attributeBase o m X.env (eval o X.env)=eval o X.env
 few:((backTo cpos (starEach [e,f] X.env)).all (fun x=> !x.1)&&(backToKw cpos (keywordEach [] X.env)).all (fun x=>x.1.isSome)
  && decide (([e,f]:List Expr).length+([]:List Keyword).length+(if ([]:List Keyword).isEmpty then 0 else 1)<30))=true
 line:(apos.endLine==cpos.line)=true
 trees:backTo cpos (starEach [e,f] X.env)=[(false,eval e X.env),(false,eval f X.env)]
def IsD(H:Hp)(a:Addr):Prop:=(∃kvs,Rd H a (.dK kvs))\/∃kvs,Rd H a (.dT kvs)
def cF3{X:Cx}{pins:List (Addr×Obj)}{σ:St}{H:Hp}{s:Shared}{a:Addr}(I:aV X pins σ H s)(d:IsD H a) :
  s.TypeIs (.ref a) "dict"/\(∀b,Value.ref a= .ref b->∃ob,s.heap.get? b=some ob/\ob.dict=none)/\(a==sysModules)=false:=by
 rcases d with⟨kvs,e⟩|⟨kvs,e⟩
 ·obtain⟨_,hd,vs,_,dd⟩:=vL I.hok e
  refine⟨dd.typeIs,fun b q=>?_,hd⟩
  cases q
  obtain⟨ob,_,_,h1,h2,_⟩:=dd
  exact⟨ob,h1,h2.2.1⟩
 ·obtain⟨_,hd,xs,_,dd⟩:=wI I.hok e
  refine⟨dd.typeIs,fun b q=>?_,hd⟩
  cases q
  obtain⟨ob,_,_,h1,h2,_⟩:=dd
  exact⟨ob,h1,h2.2.1⟩
section
variable {X:Cx}{pins:List (Addr×Obj)}{σ:St}{H:Hp}{s:Shared}{a:Addr}{y d:V}{u r:Value}{o:Option V}{A:Around}{E:Value->Shared->Prop}
def cI7{Q:Value->Shared->Prop}(hu:A.units+1<cLine)(I:aV X pins σ H s)(g:eS H a y o)(ry:bF y u)(rd:bF d r)(h:∀w' s',aV X pins σ H s'->bF (o.getD d) w'->Q w' s') :
  wpAny (model X.prog X.w) A (call (.builtin "dict.get") [.ref a,u,r]) Q E s:=by
 rcases g with⟨kvs,k,e,ey,l⟩|⟨kvs,k,b,e,ey,eb,l⟩
 ·subst ey
  obtain⟨z,hd,vs,rel,dd⟩:=vL I.hok e
  refine call_meetsIn qp dd.typeIs xq (wv _ _ _) (meets_dict_get_default (bG X.prog X.w) a (vS ry) hd r) ⟨_,dd.mapOf,h _ _ (I.tok _) ?_⟩
  rw[l]
  exact(rel.val k).getD rd
 ·subst ey
  cases(show u=Value.ref b from ry)
  obtain⟨z,hd,xs,rel,dd⟩:=wI I.hok e
  refine call_meetsIn qp dd.typeIs xq (wv _ _ _) (meetsH_dict_get_default (tupleKind (bG X.prog X.w)) a b hd r) ⟨om hu,k,xs,tM I.hok eb,dd,h _ _ (I.tok _) ?_⟩
  rw[l]
  exact(rel.val k).getD rd
end
def cE8(td ty tx:TE):TE:=fun σ H Q=>td σ H fun x H1=>∃a,x= .ref a/\IsD H1 a/\ty σ H1 fun y H2=>tx σ H2 fun z H3=>∃o,eS H3 a y o/\Q (o.getD z) H3
section
variable {X:Cx}{o e f:Expr}{apos cpos:Pos}{td ty tx:TE}
def aA6(hu:X.A.units+1<cLine)(ho:PE X o td)(he:PE X e ty)(hf:PE X f tx)(m:M2 X o "get" apos e f cpos):PE X (.Call (.Attribute o "get" apos) [e,f] [] cpos) (cE8 td ty tx):=by
 intro pins s σ H Q I h
 refine wpAny_Call_method m.base m.few m.line PySem.F.plainAttrs_dict qp PySem.F.type_dict_get (cW (ho pins s σ H _ I h) ?_);rintro u s1 ⟨x,H1,I1,rx,a,ex,d,q1⟩
 subst ex
 obtain rfl:u=Value.ref a:=rx
 obtain⟨t1,t2,_⟩:=cF3 I1 d
 refine⟨t1,t2,?_⟩
 rw[m.trees]
 refine pp rfl (yr (mh (cW (he pins s1 σ H1 _ I1 q1) fun iv s2 ⟨y,H2,I2,ry,q2⟩ =>
  mh (cW (hf pins s2 σ H2 _ I2 q2) fun fv s3 ⟨z,H3,I3,rz,ov,g,q3⟩=>oz ?_))))
 exact cI7 hu I3 g ry rz fun w' s4 I4 rw'=>⟨_,H3,I4,rw',q3⟩
end
section
variable {X:Cx}{pins:List (Addr×Obj)}{σ:St}{H:Hp}{s:Shared}{a:Addr}{kvs:List (Key×V)}{A:Around}{E:Value->Shared->Prop}
end
section
variable {X:Cx}{pins:List (Addr×Obj)}{σ:St}{H:Hp}{s:Shared}{a:Addr}{y:V}{u:Value}{A:Around}{E:Value->Shared->Prop}
end
end L2
namespace HT
open PySem PyProof.Rows
def lexLt:List Int->List Int->Bool
 |[],[]=>false
 |[],_::_=>true
 |_::_,[]=>false
 |x::xs,y::ys=>if x=y then lexLt xs ys else decide (x<y)
def lexLt_cons(x y:Int)(xs ys:List Int):lexLt (x::xs) (y::ys)=if x=y then lexLt xs ys else decide (x<y):=rfl
def lexLt_nil_nil:lexLt [] []=false:=rfl
def tJ(y:Int)(ys:List Int):lexLt [] (y::ys)=true:=rfl
def tP(x:Int)(xs:List Int):lexLt (x::xs) []=false:=rfl
def aZ2(A:Around)(s:Shared)(a:Int)(t:Tok)(c:Int)(u:Tok):∃e,SeqAt.EqAt A s (.int a t) (.int c u) e/\(e=true↔a=c):=
 ⟨(a==c),SeqAt.EqAt.int_int a t c u,by simp⟩
def aY2(A:Around)(s:Shared)(a:Int)(t:Tok)(c:Int)(u:Tok)(prog:Program)(w:World)(E:Value->Shared->Prop)(Q:Value->Shared->Prop)(h:Q (.bool (decide (a<c))) s) :
  wpAny (model prog w) A (richCompare .Lt (.int a t) (.int c u)) Q E s:=
 (PyProof.Rows.lt_int h:wpAny (model prog w) A (compareOp .Lt (.int a t) (.int c u)) Q E s)
section
open PySem.SeqAt
open PySem.AutoSeq1 (wpAny_loadPart')
open PySem.MeetsSeq PySem.MeetsSeq2 PySem.MeetsSeq3
def mH(l b:Addr)(items items2:Array Value)(n n2:Nat)(dd dd2:Option Addr)(sl sl2:Array (Option Value))(ns ms:List Int)(hi:IntsAre items.toList ns)(hj:IntsAre items2.toList ms) :
  Meets (Builtin.«tuple.__lt__» ⟨[.ref l,.ref b],[]⟩)
   (fun _ R s=>s.heap.get? l=some { cls:= .type "tuple",dict:=dd,data:= .seq items n,slots:=sl }/\s.heap.get? b=some { cls:= .type "tuple",dict:=dd2,data:= .seq items2 n2,slots:=sl2 } /\
    R (.ok (.ret (.bool (lexLt ns ms)))) s):=
 .of_wp fun prog w A R s h=>by
  obtain⟨hp,g,d,tk,os⟩:=s;obtain⟨hl,hb,h⟩:=h
  have f2:=AutoSeq1.sub_tuple_tuple
  have z1:items.size=ns.length:=by rw[<-hi.length];simp
  have z2:items2.size=ms.length:=by rw[<-hj.length];simp
  wp_walk using wpAny_loadPart' hl,wpAny_loadPart' hb,wpAny_forIn_list _ (fun rest b s'=>b.1=none/\s'=⟨hp,g,d,tk,os⟩/\∃(vs ws:List Value) (ns' ms':List Int),rest=vs.zip ws /\
   IntsAre vs ns'/\IntsAre ws ms'/\ns'.length+items2.size=ms'.length+items.size/\R (.ok (.ret (.bool (lexLt ns' ms')))) ⟨hp,g,d,tk,os⟩) _
  case turn =>
   rintro⟨y,x⟩ rest b s' ⟨hb',rfl,vs,ws,ns',ms',hz,hvi,hwi,hlen,hR⟩
   cases hvi with
   |nil=>rw[List.zip_nil_left] at hz;cases hz
   |cons a t hvi' =>
    cases hwi with
    |nil=>rw[List.zip_nil_right] at hz;cases hz
    |cons c u hwi' =>
     rw[List.zip_cons_cons] at hz
     injection hz with hyx hrest
     injection hyx with hy hx
     subst hy hx
     rw[lexLt_cons] at hR
     simp only[List.length_cons] at hlen
     obtain⟨e,he,hiff⟩:=aZ2 A.in1 ⟨hp,g,d,tk,os⟩ a t c u
     refine wpAny_bind (he prog w _ _ ?_)
     cases e with
     |true =>
      rw[if_pos (hiff.mp rfl)] at hR
      wp_walk
      exact⟨rfl,rfl,_,_,_,_,hrest,hvi',hwi',by lia,hR⟩
     |false =>
      rw[if_neg (fun q=>absurd (hiff.mpr q) Bool.false_ne_true)] at hR
      have hri:=aY2 A.in1 ⟨hp,g,d,tk,os⟩ a t c u prog w
      wp_walk using hri
      exact⟨_,rfl,by simpa using hR⟩
  case fin =>
   rintro⟨b1,b2⟩ s' ⟨hb',rfl,vs,ws,ns',ms',hz,hvi,hwi,hlen,hR⟩
   simp only at hb'
   subst hb'
   have hv:lexLt ns' ms'=decide (items.size<items2.size):=by
    cases hvi with
    |nil =>
     cases hwi with
     |nil =>
      simp only[List.length_nil] at hlen
      rw[lexLt_nil_nil]
      exact(decide_eq_false (by lia)).symm
     |cons c u hw =>
      simp only[List.length_nil,List.length_cons] at hlen
      rw[tJ]
      exact(decide_eq_true (by lia)).symm
    |cons a t hv =>
     cases hwi with
     |nil =>
      simp only[List.length_nil,List.length_cons] at hlen
      rw[tP]
      exact(decide_eq_false (by lia)).symm
     |cons c u hw =>
      rw[List.zip_cons_cons] at hz
      cases hz
   rw[hv] at hR
   wp_walk
   exact⟨_,rfl,by simpa [Builtin.Tuple.tupleCompareSizes] using hR⟩
  case h =>
   exact⟨rfl,rfl,items.toList,items2.toList,ns,ms,rfl,hi,hj,by lia,h⟩
end
section
variable {prog:Program}{w:World}{A:Around}{E:Value->Shared->Prop}{s:Shared}
def aH5{l b:Addr}{items items2:Array Value}{ns ms:List Int}{Q:Value->Shared->Prop}(hl:IsTup s.heap l items)(hb:IsTup s.heap b items2)(hi:IntsAre items.toList ns)(hj:IntsAre items2.toList ms)
  (hu:A.units<cLine) (h:Q (.bool (lexLt ns ms)) s):wpAny (model prog w) A (compareOp .Lt (.ref l) (.ref b)) Q E s:=by
 obtain⟨⟨cls,dd,data,sl⟩,ho,hc,n,hd⟩:=id hl
 obtain⟨⟨cls2,dd2,data2,sl2⟩,ho2,hc2,n2,hd2⟩:=id hb
 simp only at hc hd hc2 hd2
 subst hc hd hc2 hd2
 exact richCompare_meets_room (op:= .Lt) ⟨_,ho,rfl⟩ ⟨_,ho2,rfl⟩ PySem.F.slot_tuple_lt PySem.F.entry_tuple_lt (PySem.F.args_tuple_lt_2 _ _) (mH l b items items2 n n2 dd dd2 sl sl2 ns ms hi hj)
  ⟨ho,ho2,show Value.bool (lexLt ns ms)≠Value.notImplemented/\Q (.bool (lexLt ns ms)) s from⟨(fun x=>nomatch x),h⟩⟩ hu
def cat_tup{t b:Addr}{vs ws:List Value}{Q:Value->Shared->Prop}(ht:IsTup s.heap t vs.toArray)(hb:IsTup s.heap b ws.toArray)(hv:vs≠[])
  (h1:ws=[]->Q (.ref t) s) (h2:ws≠[]->Q (.ref s.heap.objs.size) { s with heap:=s.heap.push { cls:= .type "tuple",data:= .seq (vs++ws).toArray } })
  (hsz:vs.length+ws.length<=sizeLine):wpAny (model prog w) A (binaryOp .Add (.ref t) (.ref b)) Q E s:=by
 obtain⟨⟨cls,dd,data,sl⟩,ho,hc,n,hd⟩:=id ht
 obtain⟨⟨cls2,dd2,data2,sl2⟩,ho2,hc2,n2,hd2⟩:=id hb
 simp only at hc hd hc2 hd2
 subst hc hd hc2 hd2
 have e:vs.toArray++ws.toArray=(vs++ws).toArray:=by simp
 by_cases hw:ws=[]
 ·exact concat_meets ⟨_,ho,rfl⟩ ⟨_,ho2,rfl⟩ noFill_tuple_add seq_tuple_add PySem.F.slot_tuple_add PySem.F.entry_tuple_add (PySem.F.args_tuple_add_2 _ _)
   (tuple_addW1 t b vs.toArray ws.toArray n n2 dd dd2 sl sl2 (by simpa using hv) (by simp[hw])) ⟨ho,ho2,h1 hw⟩
 ·refine concat_meets ⟨_,ho,rfl⟩ ⟨_,ho2,rfl⟩ noFill_tuple_add seq_tuple_add PySem.F.slot_tuple_add PySem.F.entry_tuple_add (PySem.F.args_tuple_add_2 _ _)
   (tuple_addW2 t b vs.toArray ws.toArray n n2 dd dd2 sl sl2 (by simpa using hv) (by simpa using hw) (by rw[List.size_toArray,List.size_toArray];exact hsz)) ⟨ho,ho2,?_⟩
  rw[e]
  exact h2 hw
def sIx(n d:Nat):Option Int->Nat
 |none=>d
 |some v=>if v<0 then (v+(n:Int)).toNat else min v.toNat n
def sIx_none(n d:Nat):sIx n d none=d:=rfl
def sIx_nat(n d k:Nat):sIx n d (some (k:Int))=min k n:=by
 show(if (k:Int)<0 then ((k:Int)+(n:Int)).toNat else min (k:Int).toNat n)=min k n
 rw[if_neg (by lia),Int.toNat_natCast]
def bX7(n d:Nat)(hd:d<=n)(o:Option Int):sIx n d o<=n:=by
 cases o with
 |none=>exact hd
 |some v =>
  show(if v<0 then (v+(n:Int)).toNat else min v.toNat n)<=n
  by_cases hv:v<0
  ·rw[if_pos hv];lia
  ·rw[if_neg hv];exact Nat.min_le_right _ _
def aQ3(v:Int)(n d:Nat):(if v<0 then max (v+(n:Int)) 0 else min v (n:Int))=((sIx n d (some v):Nat):Int):=by
 show(if v<0 then max (v+(n:Int)) 0 else min v (n:Int))=(((if v<0 then (v+(n:Int)).toNat else min v.toNat n):Nat):Int)
 by_cases hv:v<0
 ·simp only[if_pos hv];lia
 ·simp only[if_neg hv];lia
def aF8(lo hi:Option Int)(n:Nat):Builtin.Slice.sliceAdjust lo hi 1 (n:Int)=(((sIx n 0 lo:Nat):Int),((sIx n n hi:Nat):Int)):=by
 have h1:¬((1:Int)<0):=by lia
 unfold Builtin.Slice.sliceAdjust
 simp only[h1,if_false]
 refine Prod.ext ?_ ?_
 ·cases lo with
  |none=>rfl
  |some v=>exact aQ3 v n 0
 ·cases hi with
  |none=>rfl
  |some v=>exact aQ3 v n n
def aH1(i j:Nat):Builtin.Slice.slicePlaces (i:Int) (j:Int) 1=j-i:=by
 unfold Builtin.Slice.slicePlaces
 have h1:(1:Int) > 0:=by lia
 simp only[h1,if_true,Int.ediv_one]
 split<;>lia
def uJ{v:Value}{o:Option Int}{Q:Option Int->Shared->Prop}(p:IsPart v o)(h:Q o s):wpAny (model prog w) A (Builtin.Slice.slicePartIndex v) Q E s:=by
 cases p with
 |none=>exact slicePart_none h
 |int i t=>exact slicePart_int h
def jL{sl:Addr}{vl vu:Value}{lo hi:Option Int}{n:Nat}{Q:Int×Int×Nat->Shared->Prop}(hs:s.heap.IsSliceOf sl vl vu .none)(pl:IsPart vl lo)(pu:IsPart vu hi)
  (h:Q (((sIx n 0 lo:Nat):Int),1,sIx n n hi-sIx n 0 lo) s):wpAny (model prog w) A (Builtin.Slice.sliceApplied (.ref sl) (pure (n:Int))) Q E s:=by
 obtain⟨os,hos,hcs,hds⟩:=id hs
 unfold Builtin.Slice.sliceApplied Builtin.Slice.sliceFields
 refine wpAny_bind (wpAny_bind (wpAny_field hos hds (x:=vl) rfl (wpAny_bind (wpAny_field hos hds (x:=vu) rfl (wpAny_bind (wpAny_field hos hds (x:= .none) rfl (wpAny_pure ?_)))))))
 refine wpAny_bind (slicePart_none ?_)
 show wpAny _ _ (if ((1:Int)==0)=true then _ else _) _ _ s
 rw[if_neg (by decide)]
 refine wpAny_bind (uJ pl (wpAny_bind (uJ pu (wpAny_bind (wpAny_pure ?_)))))
 show wpAny _ _ (match Builtin.Slice.sliceAdjust lo hi 1 (n:Int) with|(lo,hi)=>pure (lo,(1:Int),Builtin.Slice.slicePlaces lo hi 1)) _ _ s
 rw[aF8 lo hi n]
 show wpAny _ _ (pure (((sIx n 0 lo:Nat):Int),(1:Int),Builtin.Slice.slicePlaces ((sIx n 0 lo:Nat):Int) ((sIx n n hi:Nat):Int) 1)) _ _ s
 rw[aH1]
 exact wpAny_pure h
def aY3(xs:Array Value)(i k:Nat):((List.range k).filterMap fun(m:Nat)=>xs[((i:Int)+(m:Int)*1).toNat]?).toArray=((xs.toList.drop i).take k).toArray:=by
 have e:(fun(m:Nat)=>xs[((i:Int)+(m:Int)*1).toNat]?)=fun m=>xs[i+m]?:=by
  funext m
  have:((i:Int)+(m:Int)*1).toNat=i+m:=by lia
  rw[this]
 rw[e]
 have:=pick_run xs i k
 rw[List.filterMap_map] at this
 have e2:((fun x=>xs[x]?) ∘ fun x=>i+x)=fun m=>xs[i+m]?:=rfl
 rw[e2] at this
 rw[this]
def getItem_tuple_cut{t sl:Addr}{items:Array Value}{vl vu:Value}{lo hi:Option Int}{Q:Value->Shared->Prop}(ht:IsTup s.heap t items)(hs:s.heap.IsSliceOf sl vl vu .none)(pl:IsPart vl lo)(pu:IsPart vu hi)
  (hw:¬(sIx items.size 0 lo=0/\sIx items.size items.size hi=items.size))
  (h:Q (.ref s.heap.objs.size) { s with heap:=s.heap.push { cls:= .type "tuple",data:= .seq ((items.toList.drop (sIx items.size 0 lo)).take (sIx items.size items.size hi-sIx items.size 0 lo)).toArray } })
  (hsz:items.size<=sizeLine):wpAny (model prog w) A (getItem (.ref t) (.ref sl)) Q E s:=by
 have htake:sizeOk (.seq ((items.toList.drop (sIx items.size 0 lo)).take (sIx items.size items.size hi-sIx items.size 0 lo)).toArray):=by
  show((items.toList.drop (sIx items.size 0 lo)).take (sIx items.size items.size hi-sIx items.size 0 lo)).toArray.size<=sizeLine
  rw[List.size_toArray,List.length_take,List.length_drop,Array.length_toList]
  lia
 have hj:sIx items.size items.size hi<=items.size:=bX7 _ _ (Nat.le_refl _) hi
 obtain⟨os,hos,hcs,hds⟩:=id hs
 have hTs:s.TypeIs (.ref sl) "slice":=⟨os,hos,hcs⟩
 unfold getItem
 try with_reducible refine wpAny_holding ?_
 first|refine wpAny_bind (wpAny_pure ?_)|skip
 refine wpAny_bind (wpAny_sequenceKey ht.typeIs (by decide) ?_)
 refine wpAny_bind (wpAny_callSpecial?_slot (name:=Str.ofString "__getitem__") ht.typeIs PyProof.Rows.slot_tuple_getitem
  (wpAny_call_entry PyProof.Rows.slot_tuple_getitem ht.typeIs entry_tuple_getitem ?_ (args_tuple_getitem _ _)))
 show wpAny _ _ (Builtin.Tuple.tupleItemsOf (.ref t)>>=_) _ _ s
 refine wpAny_bind (tupleItemsOf_ ht ?_)
 refine wpAny_bind (wpAny_typeOf hTs ?_)
 rw[if_pos (by decide)]
 refine wpAny_bind (jL hs pl pu ?_)
 have hno:¬((((sIx items.size 0 lo:Nat):Int)==0&&(1:Int)==1&&(sIx items.size items.size hi-sIx items.size 0 lo)==items.size)=true):=by
  intro q
  rw[Bool.and_eq_true,Bool.and_eq_true] at q
  have q1:((sIx items.size 0 lo:Nat):Int)=0:=eq_of_beq q.1.1
  have q2:sIx items.size items.size hi-sIx items.size 0 lo=items.size:=eq_of_beq q.2
  exact hw ⟨by lia,by lia⟩
 show wpAny _ _ (if (((sIx items.size 0 lo:Nat):Int)==0&&(1:Int)==1&&(sIx items.size items.size hi-sIx items.size 0 lo)==items.size)=true then _ else _) _ _ s
 rw[if_neg hno,aY3]
 first
  |exact wpAny_bind (m:=Builtin.Tuple.tupleExact _) (wpAny_newObj_type (wpAny_pure ⟨_,rfl,wpAny_pure h⟩) htake)
  |exact wpAny_bind (m:=Builtin.Tuple.tupleExact _) (wpAny_newObj_type (wpAny_bind (wpAny_pure (wpAny_pure ⟨_,rfl,wpAny_pure h⟩))) htake)
  |exact wpAny_bind (wpAny_bind (m:=Builtin.Tuple.tupleExact _) (wpAny_newObj_type (wpAny_pure (wpAny_pure ⟨_,rfl,wpAny_pure h⟩)) htake))
  |exact wpAny_bind (wpAny_bind (m:=Builtin.Tuple.tupleExact _) (wpAny_newObj_type (wpAny_pure ⟨_,rfl,wpAny_pure h⟩) htake))
end
end HT
namespace L2
open PySem PySem.Spec PyProof.Rows
abbrev TO:=St->Hp->(Option Int->Hp->Prop)->Prop
def PO(X:Cx)(e:Option Expr)(t:TO):Prop:=
 ∀(pins:List (Addr×Obj)) (s:Shared) (σ:St) (H:Hp) (Q:Option Int->Hp->Prop),aV X pins σ H s->t σ H Q ->
  wpAny (model X.prog X.w) X.A (evalPart e X.env) (fun u s'=>∃o H',aV X pins σ H' s'/\IsPart u o/\Q o H') X.xe s
def tNoPart:TO:=fun _ H Q=>Q none H
def cL7(t:TE):TO:=fun σ H Q=>t σ H fun x H1=>∃i,x= .int i/\Q (some i) H1
def rW{ns:List Int}:∀{us:List Value},bC (ns.map V.int) us->IntsAre us ns:=by
 induction ns with
 |nil=>intro us r;rw[vq] at r;cases r;exact .nil
 |cons n ns ih =>
  intro us r
  rw[bt] at r
  cases r with
  |cons r1 r2 =>
   obtain⟨t,e⟩:=r1
   subst e
   exact .cons n t (ih r2)
section
variable {X:Cx}{e:Expr}{te:TE}{lo hi:Option Expr}{tl th:TO}{pos p2:Pos}
def aM8:PO X none tNoPart:=by
 intro pins s σ H Q I h
 rw[evalPart_none]
 exact am ⟨none,H,I,.none,h⟩
def qM(h:PE X e te):PO X (some e) (cL7 te):=by
 intro pins s σ H Q I hw
 rw[evalPart_some]
 refine cW (h pins s σ H _ I hw) ?_;rintro u s1 ⟨x,H1,I1,r1,q1⟩
 obtain⟨i,rfl,q⟩:=q1
 obtain⟨t,rfl⟩:=r1
 exact⟨some i,H1,I1,.int i t,q⟩
def SlR(X:Cx)(r:V->Option Int->Option Int->Hp->VK->Prop):Prop:=
 ∀(pins:List (Addr×Obj)) (s:Shared) (σ:St) (H:Hp) (x:V) (v vl vu:Value) (lo hi:Option Int) (sl:Addr) (Q:VK),aV X pins σ H s->bF x v->s.heap.IsSliceOf sl vl vu .none->IsPart vl lo->IsPart vu hi->r x lo hi H Q ->
  ∃T id,typeLookup (.type T) "__getitem__"=pure (some (.builtin id))/\s.TypeIs v T/\wpAny (model X.prog X.w) X.A (getItem v (.ref sl)) (EP X pins σ Q) X.xe s
def tSl(r:V->Option Int->Option Int->Hp->VK->Prop)(te:TE)(tl th:TO):TE:=fun σ H Q=>te σ H fun x H1=>tl σ H1 fun l H2=>th σ H2 fun u H3=>r x l u H3 Q
def sY{r:V->Option Int->Option Int->Hp->VK->Prop}(hr:SlR X r)(he:PE X e te)(hl:PO X lo tl)(hu:PO X hi th):PE X (.Subscript e (.Slice lo hi none p2) pos) (tSl r te tl th):=by
 intro pins s σ H Q I h
 refine Subscript_ (cW (he pins s σ H _ I h) ?_);rintro v s1 ⟨x,H1,I1,r1,q1⟩
 refine wpAny_Slice (cW (hl pins s1 σ H1 _ I1 q1) ?_);rintro vl s2 ⟨l,H2,I2,pl,q2⟩;refine cW (hu pins s2 σ H2 _ I2 q2) ?_;rintro vu s3 ⟨u,H3,I3,pu,q3⟩
 rw[evalPart_none]
 refine am ?_
 have I4:aV X pins σ H3 { s3 with heap:=s3.heap.push { cls:= .type "slice",data:= .fields #[vl,vu,.none] } }:=I3.kept (t':=s3.toks) fun b ob q=>ah _ q
 obtain⟨T,id,hT,ht,hg⟩:=hr pins { s3 with heap:=s3.heap.push { cls:= .type "slice",data:= .fields #[vl,vu,.none] } } σ H3 x v vl vu l u s3.heap.objs.size Q I4 r1 (Heap.IsSliceOf.new ..) pl pu q3
 show wpAny (model X.prog X.w) X.A (subscriptTail e (.Slice lo hi none p2) v (.ref s3.heap.objs.size)) (EP X pins σ Q) X.xe { s3 with heap:=s3.heap.push { cls:= .type "slice",data:= .fields #[vl,vu,.none] } }
 exact tail_any (ops:=[.ref s3.heap.objs.size,v]) ht hT hg (by with_unfolding_all rfl)
def iZ(xs:List V)(lo hi:Option Int):List V:=(xs.drop (HT.sIx xs.length 0 lo)).take (HT.sIx xs.length xs.length hi-HT.sIx xs.length 0 lo)
def qA(xs:List V)(lo hi:Option Int):(iZ xs lo hi).length<=xs.length:=by
 unfold iZ
 rw[ef,qm]
 lia
def cU7(K:PySem.W.Frag):V->Option Int->Option Int->Hp->VK->Prop:=fun x lo hi H Q=>∃a xs,x= .ref a/\aT K H a xs /\
 ¬(HT.sIx xs.length 0 lo=0/\HT.sIx xs.length xs.length hi=xs.length)/\∀p,H p=none->Q (.ref p) (aN H p (.tup (iZ xs lo hi)))
def cH4:SlR X (cU7 X.K):=by
 intro pins s σ H x v vl vu lo hi sl Q I rx hs pl pu h
 obtain⟨a,xs,rfl,hx,hw,q⟩:=h
 cases rx
 obtain⟨its,r,ht,hz⟩:=I.tuple hx
 have hlen:its.toArray.size=xs.length:=by rw[bf];exact r.length.symm
 refine⟨"tuple",_,PyProof.Rows.slot_tuple_getitem.lookup,ht.typeIs,?_⟩
 refine HT.getItem_tuple_cut ht hs pl pu (by rw[hlen];exact hw) ?_ (by rw[hlen];exact hz)
 rw[hlen]
 refine⟨.ref s.heap.objs.size,_,I.laid (t':=s.toks) (o:= .tup (iZ xs lo hi)) (fun b ob q=>ah _ q) (af _) ?_,rfl,q _ (I.hok.fresh (af _))⟩
 exact⟨ay (qA xs lo hi) hz,_,(r.drop (HT.sIx xs.length 0 lo)).take (HT.sIx xs.length xs.length hi-HT.sIx xs.length 0 lo),kF.new _ _⟩
def cO6(K:PySem.W.Frag):R2:=fun x y H Q=>∃a b xs ys,x= .ref a/\y= .ref b/\aT K H a xs/\aT K H b ys/\xs≠[]/\xs.length+ys.length<=sizeLine /\
 (ys=[]->Q (.ref a) H)/\(ys≠[]->∀p,H p=none->Q (.ref p) (aN H p (.tup (xs++ys))))
def bC.nil_iff{xs:List V}{us:List Value}(r:bC xs us):us=[]↔xs=[]:=by
 cases r with
 |nil=>simp
 |cons _ _=>simp
def bS2:kM X (binaryOp .Add) (cO6 X.K):=by
 intro pins s σ H x y v u Q I rx ry h
 obtain⟨a,b,xs,ys,rfl,rfl,ha,hb,hx,hz,q1,q2⟩:=h
 cases rx
 cases ry
 obtain⟨its,r1,p1,_⟩:=I.tuple ha
 obtain⟨its2,r2,p2,_⟩:=I.tuple hb
 refine HT.cat_tup p1 p2 (fun z=>hx (r1.nil_iff.mp z)) (fun z=>⟨.ref a,H,I,rfl,q1 (r2.nil_iff.mp z)⟩) (fun z=>?_) (by rw[<-r1.length, <-r2.length];exact hz)
 refine⟨.ref s.heap.objs.size,_,I.laid (t':=s.toks) (o:= .tup (xs++ys)) (fun b ob q=>ah _ q) (af _) ?_,rfl,q2 (fun w=>z (r2.nil_iff.mpr w)) _ (I.hok.fresh (af _))⟩
 exact⟨by rw[bg];exact hz,_,r1.append r2,kF.new _ _⟩
end
def ixN(n:Nat)(i:Int):Option Nat:=if 0<=i then (if i<n then some i.toNat else none) else if -(n:Int)<=i then some (i+n).toNat else none
def mM{α:Type}(xs:List α)(i:Int):Option α:=(ixN xs.length i).bind fun j=>xs[j]?
def aO1{n:Nat}{i:Int}{j:Nat}(h:ixN n i=some j):seqIndex? i n=some j/\j<n/\ -(n:Int)<=i/\i<n:=by
 unfold ixN at h
 by_cases h0:0<=i
 ·rw[ao h0] at h
  by_cases h1:i<n
  ·rw[ao h1] at h
   have e:i.toNat=j:=cq h
   exact⟨by rw[xu h0 h1,e],by lia,by lia,h1⟩
  ·rw[ai h1] at h;cases h
 ·rw[ai h0] at h
  by_cases h1: -(n:Int)<=i
  ·rw[ao h1] at h
   have e:(i+n).toNat=j:=cq h
   exact⟨by rw[aAc (by lia) h1,e],by lia,h1,by lia⟩
  ·rw[ai h1] at h;cases h
def yR{α:Type}{xs:List α}{i:Int}{v:α}(h:mM xs i=some v):∃j,seqIndex? i xs.length=some j/\xs[j]?=some v/\j<xs.length/\ -(xs.length:Int)<=i/\i<xs.length:=by
 unfold mM at h
 cases e:ixN xs.length i with
 |none=>rw[e] at h;cases h
 |some j =>
  rw[e] at h
  obtain⟨h1,h2,h3,h4⟩:=aO1 e
  exact⟨j,h1,h,h2,h3,h4⟩
def xX{α:Type}{xs:List α}{j:Nat}{v:α}(h:xs[j]?=some v):mM xs (j:Int)=some v:=by
 have hj:j<xs.length:=(bz.mp h).1
 have e:ixN xs.length (j:Int)=some j:=by
  unfold ixN
  rw[ao (by lia),ao (by lia)];simp
 unfold mM;rw[e];exact h
def aQ2(b:Expr):Prop:=∀o i,subscripted b false o i=operate [o,i] (getItem o i)
def IxR(X:Cx)(r:R2):Prop:=
 ∀(value slice:Expr) (pins:List (Addr×Obj)) (s:Shared) (σ:St) (H:Hp) (x y:V) (v u:Value) (Q:VK),aV X pins σ H s->bF x v->bF y u->r x y H Q ->
  subscripted slice false v u=operate [v,u] (getItem v u)->wpAny (model X.prog X.w) X.A (subscriptTail value slice v u) (EP X pins σ Q) X.xe s
def MtR(X:Cx)(id:String)(r:V->List V->Hp->VK->Prop):Prop:=
 ∀(pins:List (Addr×Obj)) (s:Shared) (σ:St) (H:Hp) (x:V) (xs:List V) (v:Value) (us:List Value) (Q:VK),aV X pins σ H s->bF x v->bC xs us->r x xs H Q ->
  wpAny (model X.prog X.w) X.A (call (.builtin id) (v::us)) (EP X pins σ Q) X.xe s
section
variable {X:Cx}{a b:Expr}{ta tb:TE}{pos:Pos}
def cR2{r:R2}(hr:IxR X r)(ha:PE X a ta)(hb:PE X b tb)(hs:aQ2 b):PE X (.Subscript a b pos) (tOp r ta tb):=by
 intro pins s σ H Q I h
 exact Subscript_ (cF7 ha hb I h fun v u s2 x y H2 I2 rx ry q=>hr a b pins s2 σ H2 x y v u Q I2 rx ry q (hs _ _))
def cT1(K:PySem.W.Frag):R2:=fun x y H Q=>∃p xs i v,x= .ref p/\y= .int i/\bR K H p xs/\mM xs i=some v/\Q v H
def cK6(K:PySem.W.Frag):R2:=fun x y H Q=>∃p xs i v,x= .ref p/\y= .int i/\aT K H p xs/\mM xs i=some v/\Q v H
def rIxS:R2:=fun x y H Q=>∃z i c,x= .str z/\y= .int i/\z.length<=sizeLine/\mM z.cps.toList i=some c/\Q (.str ⟨#[c]⟩) H
def dC:IxR X (cT1 X.K):=by
 intro value slice pins s σ H x y v u Q I rx ry h hs
 obtain⟨p,xs,i,z,rfl,rfl,hq,he,q⟩:=h
 cases rx
 obtain⟨t,rfl⟩:=ry
 obtain⟨its,r,pl,hz⟩:=I.list hq
 obtain⟨j,h1,h2,h3,h4,h5⟩:=yR he
 obtain⟨w,ew,rw'⟩:=r.get h2
 have hl:=r.length
 have hn:=oW
 have fin:EP X pins σ Q w s:=⟨z,H,I,rw',q⟩
 by_cases h0:0<=i
 ·have hj:i.toNat=j:=by
   rw[xu h0 h5] at h1
   exact cq h1
  exact item_listR pl.isList h0 (by lia) (by rw[hj];simpa using ew) fin hs
 ·have hj:(i+(its.toArray.size:Int)).toNat=j:=by
   rw[aAc (by lia) h4] at h1
   rw[bf, <-hl]
   exact cq h1
  exact xw (x:=w) pl.isList.typeIs slot_list_getitem.lookup
   (wpAny_getItem_list_neg (Q:=fun r s'=>r=w/\EP X pins σ Q r s') pl.isList (by lia) (by rw[bf]<;>lia) (by lia) (by rw[hj];simpa using ew) ⟨rfl,fin⟩) hs
def aG:IxR X (cK6 X.K):=by
 intro value slice pins s σ H x y v u Q I rx ry h hs
 obtain⟨p,xs,i,z,rfl,rfl,hq,he,q⟩:=h
 cases rx
 obtain⟨t,rfl⟩:=ry
 obtain⟨its,r,pl,hz⟩:=I.tuple hq
 obtain⟨j,h1,h2,h3,h4,h5⟩:=yR he
 obtain⟨w,ew,rw'⟩:=r.get h2
 have hl:=r.length
 have hn:=oW
 have fin:EP X pins σ Q w s:=⟨z,H,I,rw',q⟩
 exact xw (x:=w) pl.typeIs slot_tuple_getitem.lookup
  (getItem_tuple (j:=j) (Q:=fun r s'=>r=w/\EP X pins σ Q r s') pl (by lia) (by lia) (by rw[bf, <-hl];exact h1) (by simpa using ew) ⟨rfl,fin⟩) hs
def aL4:IxR X rIxS:=by
 intro value slice pins s σ H x y v u Q I rx ry h hs
 obtain⟨z,i,c,rfl,rfl,hz,he,q⟩:=h
 obtain⟨t,rfl⟩:=rx
 obtain⟨t',rfl⟩:=ry
 obtain⟨j,h1,h2,h3,h4,h5⟩:=yR he
 have hl:z.cps.toList.length=z.length:=by simp[Str.length]
 rw[hl] at h1 h4 h5
 have hn:=oW
 exact tail_any (typeIs_str s z t) slot_str_getitem.lookup (getItem_str (c:=c) (by
  have e1:decide (i < -(2^63:Int))=false:=dq (by lia)
  have e2:decide (i ≥ 2^63)=false:=dq (by lia)
  rw[e1,e2,Bool.or_false]) (by rw[h1];simpa using h2) ⟨.str ⟨#[c]⟩,H,I.tok _,⟨_,rfl⟩,q⟩) hs
def aM1(its:List Value)(n j:Nat)(u:Value):Obj.mapSeq (·.setIfInBounds j u) { cls:= .type "list",data:= .seq its.toArray n }={ cls:= .type "list",data:= .seq (its.set j u).toArray n }:=by
 simp[Obj.mapSeq]
def aV.lst{pins:List (Addr×Obj)}{σ:St}{H:Hp}{s:Shared}{p:Addr}{xs:List V}(I:aV X pins σ H s)(h:H p=some (.lst xs)) :
  ∃(its:List Value) (n:Nat),bC xs its/\s.heap.get? p=some { cls:= .type "list",data:= .seq its.toArray n }/\xs.length<=sizeLine:=by
 obtain⟨z,its,n,r,e⟩:=I.hok p _ h
 exact⟨its,n,r,e,z⟩
def aV.lstUpd{pins:List (Addr×Obj)}{σ:St}{H:Hp}{s:Shared}{p:Addr}{xs ys:List V}{its its':List Value}{n n':Nat}{f:Obj->Obj}(I:aV X pins σ H s)(h:H p=some (.lst xs))
  (ho:s.heap.get? p=some { cls:= .type "list",data:= .seq its.toArray n }) (hf:f { cls:= .type "list",data:= .seq its.toArray n }={ cls:= .type "list",data:= .seq its'.toArray n' }) (r:bC ys its') (hz:ys.length<=sizeLine) (t:Nat) :
  aV X pins σ (aN H p (.lst ys)) { s with heap:=s.heap.update p f,toks:=t }:=by
 have e:(s.heap.update p f).get? p=some { cls:= .type "list",data:= .seq its'.toArray n' }:=by
  rw[kc f ho (by rw[hf]<;>rfl),hf]
 refine I.write (x:=p) (e:=p) (by rw[h];trivial) (.inl rfl) (fun b u hb q=>(xx _ _ (Ne.symm hb)).trans q) ⟨_,e⟩ ?_
 exact⟨hz,its',n',r,e⟩
def rSetL:V->V->V->Hp->(Hp->Prop)->Prop:=fun o i v H Q=>∃p xs k j,o= .ref p/\i= .int k/\H p=some (.lst xs)/\ixN xs.length k=some j/\Q (aN H p (.lst (xs.set j v)))
def sR:cJ8 X rSetL:=by
 intro pins s σ H o i v ov iv u Q I ro ri rv h
 obtain⟨p,xs,k,j,rfl,rfl,hp,hj,q⟩:=h
 cases ro
 obtain⟨t,rfl⟩:=ri
 obtain⟨its,n,r,ho,hz⟩:=I.lst hp
 obtain⟨h1,h2,h3,h4⟩:=aO1 hj
 have hl:=r.length
 have hn:=oW
 have I':aV X pins σ (aN H p (.lst (xs.set j v))) { s with heap:=s.heap.update p (Obj.mapSeq (·.setIfInBounds j u)) }:=
  I.lstUpd hp ho (aM1 its n j u) (r.set rv j) (by rw[List.length_set];exact hz) s.toks
 by_cases h0:0<=k
 ·have hk:k.toNat=j:=by
   rw[xu h0 h4] at h1
   exact cq h1
  exact PySem.W.ki_setAt ho h0 (by lia) (by rw[bf, <-hl];exact h4) (by rw[hk];exact⟨_,I',q⟩)
 ·have hk:(k+(its.toArray.size:Int)).toNat=j:=by
   rw[aAc (by lia) h3] at h1
   rw[bf, <-hl]
   exact cq h1
  exact PySem.W.ki_setBack ho (by lia) (by rw[bf, <-hl];exact h3) (by lia) (by rw[hk];exact⟨_,I',q⟩)
def xW(lo hi:Option Int)(n:Nat):(sliceBounds lo hi none n).1=((HT.sIx n 0 lo:Nat):Int)/\(sliceBounds lo hi none n).2.1=((HT.sIx n n hi:Nat):Int)/\(sliceBounds lo hi none n).2.2=1:=by
 refine⟨?_,?_,rfl⟩
 ·cases lo with
  |none=>simp[sliceBounds,HT.sIx]
  |some i =>
   simp only[sliceBounds,HT.sIx,Option.getD_none,show(1:Int) > 0 by decide,if_true]
   by_cases h:i<0
   ·simp only[h,if_true]<;>lia
   ·simp only[h,if_false]<;>lia
 ·cases hi with
  |none=>simp[sliceBounds,HT.sIx]
  |some i =>
   simp only[sliceBounds,HT.sIx,Option.getD_none,show(1:Int) > 0 by decide,if_true]
   by_cases h:i<0
   ·simp only[h,if_true]<;>lia
   ·simp only[h,if_false]<;>lia
def uQ(its:List Value)(lo hi:Option Int):slicePick its.toArray lo hi none=((its.drop (HT.sIx its.length 0 lo)).take (HT.sIx its.length its.length hi-HT.sIx its.length 0 lo)).toArray:=by
 obtain⟨h1,h2,h3⟩:=xW lo hi its.toArray.size
 unfold slicePick
 rw[h1,h2,h3]
 simp only[sliceRange_one,pick_run,List.size_toArray]<;>rfl
def cU8(K:PySem.W.Frag):V->Option Int->Option Int->Hp->VK->Prop:=fun x lo hi H Q=>∃a xs,x= .ref a/\bR K H a xs/\∀p,H p=none->Q (.ref p) (aN H p (.lst (iZ xs lo hi)))
def aP1:SlR X (cU8 X.K):=by
 intro pins s σ H x v vl vu lo hi sl Q I rx hs pl pu h
 obtain⟨a,xs,rfl,hx,q⟩:=h
 cases rx
 obtain⟨its,r,ht,hz⟩:=I.list hx
 have hlen:=r.length
 refine⟨"list",_,slot_list_getitem.lookup,ht.isList.typeIs,?_⟩
 refine wpAny_getItem_list_slice ht.isList hs pl pu .none (by simp) ?_ (by rw[List.size_toArray]<;>lia)
 rw[uQ, <-hlen]
 refine⟨.ref s.heap.objs.size,_,I.laid (t':=s.toks) (o:= .lst (iZ xs lo hi)) (fun b ob q=>ah _ q) (af _) ?_,rfl,q _ (I.hok.fresh (af _))⟩
 exact⟨ay (qA xs lo hi) hz,_,0,(r.drop (HT.sIx xs.length 0 lo)).take (HT.sIx xs.length xs.length hi-HT.sIx xs.length 0 lo),be _ rfl⟩
def mE:V->Bool
 |.non=>true
 |.bl _=>true
 |.int _=>true
 |.str _=>true
 |_=>false
def eqV:V->V->Bool
 |.non,.non=>true
 |.bl a,.bl b=>a==b
 |.bl a,.int b=>(if a then 1 else 0)==b
 |.int a,.bl b=>a==(if b then 1 else 0)
 |.int a,.int b=>a==b
 |.str a,.str b=>a==b
 |_,_=>false
def cG7{A:Around}{s:Shared}{y x:V}{u v:Value}(ry:bF y u)(rx:bF x v)(fy:mE y=true)(fx:mE x=true):SeqAt.EqAt A s u v (eqV y x):=by
 cases y with
 |non =>
  cases ry
  cases x with
  |non=>cases rx;exact xc _
  |bl b=>cases rx;exact SeqAt.EqAt.none_bool b
  |int b=>obtain⟨t,rfl⟩:=rx;exact SeqAt.EqAt.none_int b t
  |str b=>obtain⟨t,rfl⟩:=rx;exact SeqAt.EqAt.none_str b t
  |_=>exact absurd (show false=true from fx) bu
 |bl a =>
  cases ry
  cases x with
  |non=>cases rx;exact SeqAt.EqAt.bool_none a
  |bl b=>cases rx;exact SeqAt.EqAt.bool_bool a b
  |int b=>obtain⟨t,rfl⟩:=rx;exact SeqAt.EqAt.bool_int a b t
  |str b=>obtain⟨t,rfl⟩:=rx;exact SeqAt.EqAt.bool_str a b t
  |_=>exact absurd (show false=true from fx) bu
 |int a =>
  obtain⟨t',rfl⟩:=ry
  cases x with
  |non=>cases rx;exact SeqAt.EqAt.int_none a t'
  |bl b=>cases rx;exact SeqAt.EqAt.int_bool a t' b
  |int b=>obtain⟨t,rfl⟩:=rx;exact ug a t' b t
  |str b=>obtain⟨t,rfl⟩:=rx;exact zv a t' b t
  |_=>exact absurd (show false=true from fx) bu
 |str a =>
  obtain⟨t',rfl⟩:=ry
  cases x with
  |non=>cases rx;exact SeqAt.EqAt.str_none a t'
  |bl b=>cases rx;exact SeqAt.EqAt.str_bool a t' b
  |int b=>obtain⟨t,rfl⟩:=rx;exact zw a t' b t
  |str b=>obtain⟨t,rfl⟩:=rx;exact SeqAt.EqAt.str_str a t' b t
  |_=>exact absurd (show false=true from fx) bu
 |_=>exact absurd (show false=true from fy) bu
def eqU(x:V)(u:Value):Bool:=match u with
 |.none=>eqV .non x
 |.bool b=>eqV (.bl b) x
 |.int i _=>eqV (.int i) x
 |.str z _=>eqV (.str z) x
 |_=>false
def aY6{x y:V}{u:Value}(r:bF y u)(f:mE y=true):eqU x u=eqV y x:=by
 cases y with
 |non=>cases r;rfl
 |bl b=>cases r;rfl
 |int i=>obtain⟨t,rfl⟩:=r;rfl
 |str z=>obtain⟨t,rfl⟩:=r;rfl
 |_=>exact absurd (show false=true from f) bu
def nF{x:V}:∀{xs:List V}{us:List Value},bC xs us->xs.all mE=true->us.any (eqU x)=xs.any fun y=>eqV y x
 |_,_,.nil,_=>rfl
 |y::xs,u::us,.cons r t,f=>by
  rw[ux,jf] at f
  rw[md,md,aY6 r f.1,nF t f.2]
def lA{A:Around}{s:Shared}{x:V}{v:Value}(rx:bF x v)(fx:mE x=true):∀{xs:List V}{us:List Value},bC xs us->xs.all mE=true->∀u∈us,SeqAt.EqAt A s u v (eqU x u)
 |_,_,.nil,_=>fun u hu=>by cases hu
 |y::xs,u::us,.cons r t,f=>fun u' hu=>by
  rw[ux,jf] at f
  rcases az.mp hu with rfl|hu
  ·rw[aY6 r f.1];exact cG7 r rx f.1 fx
  ·exact lA rx fx t f.2 u' hu
def inV(x:V)(xs:List V):Bool:=xs.any fun y=>eqV y x
def rIn(K:PySem.W.Frag)(neg:Bool):R2:=fun x y H Q=>∃p xs,y= .ref p/\(bR K H p xs\/aT K H p xs)/\mE x=true/\xs.all mE=true/\Q (.bl (if neg then !inV x xs else inV x xs)) H
def fU:kM X (compareOp .In) (rIn X.K false):=by
 intro pins s σ H x y v u Q I rx ry h
 obtain⟨p,xs,rfl,hq,fx,fs,q⟩:=h
 cases ry
 rcases hq with hq|hq
 ·obtain⟨its,r,pl,hz⟩:=I.list hq
  refine SeqAt.in_listAt (eqU x) pl.isList (fun w hw=>lA rx fx r fs w (by simpa using hw)) ⟨.bl _,H,I,rfl,?_⟩
  rw[show its.toArray.any (eqU x)=its.any (eqU x) by simp,nF r fs]
  exact q
 ·obtain⟨its,r,pl,hz⟩:=I.tuple hq
  refine SeqAt.in_tupleAt (eqU x) pl (fun w hw=>lA rx fx r fs w (by simpa using hw)) ⟨.bl _,H,I,rfl,?_⟩
  rw[show its.toArray.any (eqU x)=its.any (eqU x) by simp,nF r fs]
  exact q
def nM:kM X (compareOp .NotIn) (rIn X.K true):=by
 intro pins s σ H x y v u Q I rx ry h
 obtain⟨p,xs,rfl,hq,fx,fs,q⟩:=h
 cases ry
 rcases hq with hq|hq
 ·obtain⟨its,r,pl,hz⟩:=I.list hq
  refine SeqAt.notIn_listAt (eqU x) pl.isList (fun w hw=>lA rx fx r fs w (by simpa using hw)) ⟨.bl _,H,I,rfl,?_⟩
  rw[show its.toArray.any (eqU x)=its.any (eqU x) by simp,nF r fs]
  exact q
 ·obtain⟨its,r,pl,hz⟩:=I.tuple hq
  refine SeqAt.notIn_tupleAt (eqU x) pl (fun w hw=>lA rx fx r fs w (by simpa using hw)) ⟨.bl _,H,I,rfl,?_⟩
  rw[show its.toArray.any (eqU x)=its.any (eqU x) by simp,nF r fs]
  exact q
def cC:eU X (.builtin "len") (fun xs H Q=>∃p ys,xs=[.ref p]/\(bR X.K H p ys\/aT X.K H p ys)/\Q (.int ys.length) H):=by
 intro pins s σ H xs us Q I r h
 obtain⟨p,ys,rfl,hq,q⟩:=h
 obtain⟨u,rfl,rx⟩:=jD r
 cases rx
 have hn:=oW
 rcases hq with hq|hq
 ·obtain⟨its,r',pl,hz⟩:=I.list hq
  have hlen:=r'.length
  exact Calls.call_len_list pl.isList (by simp only[List.size_toArray]<;>lia) ⟨.int ys.length,H,I.tok _,⟨s.toks+1,by rw[bf,hlen]⟩,q⟩
 ·obtain⟨its,r',pl,hz⟩:=I.tuple hq
  have hlen:=r'.length
  exact len_tuple pl (by simp only[List.size_toArray]<;>lia) ⟨.int ys.length,H,I.tok _,⟨s.toks+1,by rw[bf,hlen]⟩,q⟩
def jZ:eU X (.type "list") (fun xs H Q=>∃p ys,xs=[.ref p]/\(bR X.K H p ys\/aT X.K H p ys)/\∀l,H l=none->Q (.ref l) (aN H l (.lst ys))):=by
 intro pins s σ H xs us Q I r h
 obtain⟨p,ys,rfl,hq,q⟩:=h
 obtain⟨u,rfl,rx⟩:=jD r
 cases rx
 have fin:∀(its:List Value),bC ys its->ys.length<=sizeLine->∀(h':Heap) (c':Nat),(∀b o',s.heap.get? b=some o'->h'.get? b=some o') ->
   h'.get? s.heap.objs.size=some { cls:= .type "list",dict:=none,data:= .seq its.toArray c',slots:= #[] }->EP X pins σ Q (.ref s.heap.objs.size) { s with heap:=h' }:=fun its r' hz h' c' kp e =>
  ⟨.ref s.heap.objs.size,_,I.laid (t':=s.toks) kp (af _) (show bZ X.prog X.w _ h' _ (.lst ys) from⟨hz,its,c',r',e⟩),rfl,q _ (I.hok.fresh (af _))⟩
 rcases hq with hq|hq
 ·obtain⟨its,r',pl,hz⟩:=I.list hq
  have hlen:=r'.length
  obtain⟨o,ho,hc,n,hd⟩:=pl.isList
  exact call_list_seq p (.inl rfl) ho hc hd (fun h' c' kp e=>fin its r' hz h' c' kp e) (by simp only[List.size_toArray]<;>lia)
 ·obtain⟨its,r',pl,hz⟩:=I.tuple hq
  have hlen:=r'.length
  obtain⟨o,ho,hc,n,hd⟩:=pl
  exact call_list_seq p (.inr rfl) ho hc hd (fun h' c' kp e=>fin its r' hz h' c' kp e) (by simp only[List.size_toArray]<;>lia)
def bU:eU X (.type "tuple") (fun xs H Q=>∃p ys,xs=[.ref p]/\((bR X.K H p ys/\∀l,H l=none->Q (.ref l) (aN H l (.tup ys)))\/(aT X.K H p ys/\Q (.ref p) H))):=by
 intro pins s σ H xs us Q I r h
 obtain⟨p,ys,rfl,h⟩:=h
 obtain⟨u,rfl,rx⟩:=jD r
 cases rx
 rcases h with⟨hq,q⟩|⟨hq,q⟩
 ·obtain⟨its,r',pl,hz⟩:=I.list hq
  have hlen:=r'.length
  refine call_tuple_list pl.isList (fun h' kp=>?_) (by simp only[List.size_toArray]<;>lia)
  have I1:aV X pins σ H { s with heap:=h' }:=I.kept (t':=s.toks) kp
  have I2:aV X pins σ (aN H h'.objs.size (.tup ys)) { s with heap:=h'.push { cls:= .type "tuple",data:= .seq its.toArray } }:=
   I1.laid (t':=s.toks) (fun b o e=>ah _ e) (af _) (show bZ X.prog X.w _ _ _ (.tup ys) from⟨hz,its,r',kF.new _ _⟩)
  exact⟨.ref h'.objs.size,_,I2,rfl,q _ (I1.hok.fresh (af _))⟩
 ·obtain⟨its,r',pl,hz⟩:=I.tuple hq
  exact call_tuple_same pl ⟨.ref p,H,I,rfl,q⟩
def tyV(K:PySem.W.Frag)(T:String)(x:V)(H:Hp):Prop:=match x with
 |.str _=>T="str"
 |.int _=>T="int"
 |.ref p=>(T="list"/\∃xs,bR K H p xs)\/(T="tuple"/\∃o,K.lookup p=some o/\o.cls= .type "tuple"/\o.dict=none) \/
   (T="dict"/\((∃kvs,H p=some (.dK kvs))\/∃kvs,H p=some (.dT kvs)))\/(T="set"/\∃S n,H p=some (.set S n))
 |_=>False
def bH0{pins:List (Addr×Obj)}{σ:St}{H:Hp}{s:Shared}{T:String}{x:V}{v:Value}(I:aV X pins σ H s)(r:bF x v)(ty:tyV X.K T x H) :
  s.TypeIs v T/\∀a,v= .ref a->∃ob,s.heap.get? a=some ob/\ob.dict=none:=by
 cases x with
 |str z =>
  obtain⟨t,rfl⟩:=r
  cases(show T="str" from ty)
  exact⟨typeIs_str s z t,fun _ e=>nomatch e⟩
 |int i =>
  obtain⟨t,rfl⟩:=r
  cases(show T="int" from ty)
  exact⟨rm s i t,fun _ e=>nomatch e⟩
 |ref p =>
  cases r
  rcases ty with⟨rfl,xs,hq⟩|⟨rfl,o,hk,hc,hd⟩|⟨rfl,hk⟩|⟨rfl,S,n,hk⟩
  ·obtain⟨its,_,pl,_⟩:=I.list hq
   refine⟨pl.isList.typeIs,fun a e=>?_⟩
   cases e
   obtain⟨o,n,e,c,hd,_⟩:=pl
   exact⟨o,e,hd⟩
  ·refine⟨⟨o,I.kIn p o hk,hc⟩,fun a e=>?_⟩
   cases e
   exact⟨o,I.kIn _ o hk,hd⟩
  ·have z:∃o,s.heap.get? p=some o/\o.ExactDict:=by
    rcases hk with⟨kvs,hk⟩|⟨kvs,hk⟩
    ·obtain⟨_,_,_,_,o,_,_,e,ex,_⟩:=I.hok p _ hk
     exact⟨o,e,ex⟩
    ·obtain⟨_,_,_,_,o,_,_,e,ex,_⟩:=I.hok p _ hk
     exact⟨o,e,ex⟩
   obtain⟨o,e,ex⟩:=z
   refine⟨⟨o,e,ex.1⟩,fun a e2=>?_⟩
   cases e2
   exact⟨o,e,ex.2.1⟩
  ·obtain⟨o,_,_,_,e,ex,_⟩:=I.hok p _ hk
   refine⟨⟨o,e,ex.1⟩,fun a e2=>?_⟩
   cases e2
   exact⟨o,e,ex.2.1⟩
 |_=>exact False.elim ty
def cU3(K:PySem.W.Frag)(T:String)(r:V->List V->Hp->VK->Prop)(to:TE):TE:=fun σ H Q=>to σ H fun x H1=>tyV K T x H1/\r x [] H1 Q
def tBM(K:PySem.W.Frag)(T:String)(r:V->List V->Hp->VK->Prop)(to:TE)(t:TA):TE:=fun σ H Q=>to σ H fun x H1=>tyV K T x H1/\t σ H1 fun xs H2=>r x xs H2 Q
variable {o e:Expr}{es:List Expr}{to:TE}{t:TA}{name:Str}{apos cpos:Pos}{T id:String}{r:V->List V->Hp->VK->Prop}
def yM(pa:PlainAttrs T)(slot:Slot T name id)(hty:typeOf (.builtin id)=pure (.type "method_descriptor"))(hm:MtR X id r)(ho:PE X o to)
  (hbase:attributeBase o name X.env (eval o X.env)=eval o X.env:=by rfl) (hline:(apos.endLine==cpos.line)=true:=by rfl):PE X (.Call (.Attribute o name apos) [] [] cpos) (cU3 X.K T r to):=by
 intro pins s σ H Q I h
 refine wpAny_Call_method0_late hbase hline (cW (ho pins s σ H _ I h) ?_);rintro v s1 ⟨x,H1,I1,r1,ty,q1⟩
 obtain⟨h1,h2⟩:=bH0 I1 r1 ty
 exact⟨T,id,pa,slot,hty,h1,h2,pp rfl (PySem.evalArgs_none (hm pins s1 σ H1 x [] v [] Q I1 r1 .nil q1))⟩
def eZ(pa:PlainAttrs T)(slot:Slot T name id)(hty:typeOf (.builtin id)=pure (.type "method_descriptor"))(hm:MtR X id r)(ho:PE X o to)(ha:PA X (e::es) t)
  (hbase:attributeBase o name X.env (eval o X.env)=eval o X.env:=by rfl)
  (hfew:((backTo cpos (starEach (e::es) X.env)).all (fun x=> !x.1)&&(backToKw cpos (keywordEach [] X.env)).all (fun x=>x.1.isSome)
   && decide ((e::es).length+([]:List Keyword).length+(if ([]:List Keyword).isEmpty then 0 else 1)<30))=true:=by rfl)
  (hline:(apos.endLine==cpos.line)=true:=by rfl) (hs:starEach (e::es) X.env=(false,eval e X.env)::starEach es X.env:=by rfl) (hplain:(backTo cpos (starEach es X.env)).any (·.1)=false:=by rfl) :
  PE X (.Call (.Attribute o name apos) (e::es) [] cpos) (tBM X.K T r to t):=by
 intro pins s σ H Q I h
 refine wpAny_Call_method_late hbase hfew hline rfl (cW (ho pins s σ H _ I h) ?_);rintro v s1 ⟨x,H1,I1,r1,ty,q1⟩
 obtain⟨h1,h2⟩:=bH0 I1 r1 ty
 refine⟨T,id,pa,slot,hty,h1,h2,?_⟩
 have hA:=ha cpos pins s1 σ H1 _ I1 q1
 rw[hs] at hA ⊢
 refine pp (by show(false || (backTo cpos (starEach es X.env)).any (·.1))=false;rw[hplain]<;>rfl) (yr ?_)
 refine cW hA ?_;rintro us s2 ⟨vs,H2,I2,r2,q2⟩;exact hm pins s2 σ H2 x vs v us Q I2 r1 r2 q2
end
def MtM(X:Cx)(id:String)(r:V->List V->Hp->VK->Prop):Prop:=
 ∀(pins:List (Addr×Obj)) (s:Shared) (σ:St) (H:Hp) (x:V) (xs:List V) (v:Value) (us:List Value) (Q:VK),aV X pins σ H s->bF x v->bC xs us->r x xs H Q ->
  wpAny (model X.prog X.w) X.A (call (.builtin id) (v::us)) (EP X pins σ Q) X.xe s
def bC.one:∀{x:V}{us:List Value},bC [x] us->∃u,us=[u]/\bF x u
 |_,_,.cons r .nil=>⟨_,rfl,r⟩
def bC.zero:∀{us:List Value},bC [] us->us=[]
 |_,.nil=>rfl
def bC.dropLast{xs:List V}{us:List Value}(h:bC xs us):bC xs.dropLast us.dropLast:=by
 induction h with
 |nil=>exact .nil
 |cons r t ih =>
  cases t with
  |nil=>exact .nil
  |cons q t'=>exact .cons r ih
def bC.eraseIdx:∀{xs:List V}{us:List Value}(i:Nat),bC xs us->bC (xs.eraseIdx i) (us.eraseIdx i)
 |_,_,_,.nil=> .nil
 |_,_,0,.cons _ t=>t
 |_,_,i+1,.cons r t=> .cons r (bC.eraseIdx i t)
def bC.rep{xs:List V}{us:List Value}(h:bC xs us):∀k:Nat,bC (List.replicate k xs).flatten (List.replicate k us).flatten
 |0=> .nil
 |k+1=>by
  rw[gb,gb,ir,ir]
  exact bC.append h (bC.rep h k)
def aG3{α:Type}(l:List α):l.eraseIdx (l.length-1)=l.dropLast:=by
 induction l with
 |nil=>rfl
 |cons a r ih =>
  cases r with
  |nil=>rfl
  |cons b r =>
   have e:(a::b::r).length-1=((b::r).length-1)+1:=by
    rfl
   rw[e,List.eraseIdx_cons_succ,ih]
   all_goals rfl
def xE{α:Type}:∀(l:List α) (i:Nat),(l.eraseIdx i).length<=l.length
 |[],_=>af _
 |_::_,0=>ud _
 |_::r,i+1=>Nat.succ_le_succ (xE r i)
def oV(its:List Value):∀(k:Nat) (acc:List Value),
  List.foldl (fun x1 x2=>x1++x2) acc.toArray (List.replicate k its.toArray)=(acc++(List.replicate k its).flatten).toArray
 |0,acc=>by simp
 |k+1,acc=>by
  have e:acc.toArray++its.toArray=(acc++its).toArray:=by simp
  have e2:(acc++its)++(List.replicate k its).flatten=acc++(List.replicate (k+1) its).flatten:=by
   rw[gb,ir,iu]
  rw[<-e2, <-oV its k (acc++its), <-e,gb,iz]
section
variable {X:Cx}{pins:List (Addr×Obj)}{σ:St}{H:Hp}{s:Shared}{l b:Addr}{xs ys zs:List V}
def aV.lset{its its':List Value}{n:Nat}{f:Array Value->Array Value}{t':Nat}(I:aV X pins σ H s)(hH:H l=some (.lst xs))
  (e:s.heap.get? l=some { cls:= .type "list",data:= .seq its.toArray n }) (hf:f its.toArray=its'.toArray) (hv:bC ys its') (hz:ys.length<=sizeLine) :
  aV X pins σ (aN H l (.lst ys)) { s with heap:=s.heap.update l (Obj.mapSeq f),toks:=t' }:=by
 have q:=PySem.IsL.update e f
 rw[hf] at q
 refine I.write (x:=l) (e:=l) (by rw[hH];exact trivial) (.inl rfl) (fun b' u hb hu=>(xx s.heap (Obj.mapSeq f) (Ne.symm hb)).trans hu) ⟨_,q⟩ ?_
 exact⟨hz,its',_,hv,q⟩
def aV.lnew{its:List Value}{t':Nat}(I:aV X pins σ H s)(hv:bC ys its)(hz:ys.length<=sizeLine) :
  aV X pins σ (aN H s.heap.objs.size (.lst ys)) { s with heap:=s.heap.push { cls:= .type "list",data:= .seq its.toArray },toks:=t' }:=
 I.laid (fun _ _ q=>ah _ q) (af _) ⟨hz,its,0,hv,be _ rfl⟩
def aV.fresh(I:aV X pins σ H s):H s.heap.objs.size=none:=I.hok.fresh (af _)
def aV.lstM(I:aV X pins σ H s)(hH:H l=some (.lst xs)):xs.length<=sizeLine/\∃(its:List Value) (n:Nat),bC xs its/\xs.length=its.length/\s.heap.get? l=some { cls:= .type "list",data:= .seq its.toArray n }:=by
 obtain⟨z,its,n,r,e⟩:=I.hok l _ hH
 exact⟨z,its,n,r,r.length,e⟩
def aC3{n:Nat}(h:n<=sizeLine):Builtin.List.listTooLong n=false:=by
 unfold Builtin.List.listTooLong
 exact dq (by lia)
end
section
variable {X:Cx}
def rAppend:V->List V->Hp->VK->Prop:=fun x vs H Q=>∃l xs y,x= .ref l/\vs=[y]/\H l=some (.lst xs)/\xs.length<sizeLine/\Q .non (aN H l (.lst (xs++[y])))
def cJ:MtM X "list.append" rAppend:=by
 intro pins s σ H x vs v us Q I rx rv h
 obtain⟨l,xs,y,rfl,rfl,hH,hz,q⟩:=h
 cases rx
 obtain⟨u,rfl,ru⟩:=rv.one
 obtain⟨z,its,n,r,hl,e⟩:=I.lstM hH
 refine jt F.slot_list_append ⟨_,e,rfl⟩ F.entry_list_append (F.args_list_append_2 _ _) (PySem.list_append l its.toArray n u (by rw[bf];lia)) ⟨e,?_⟩
 refine⟨.non,_,I.lset (its':=its++[u]) hH e (by simp) (r.append (.cons ru .nil)) ?_,rfl,q⟩
 rw[bg,qu]
 lia
def rExtend:V->List V->Hp->VK->Prop:=fun x vs H Q=>∃l b xs zs,x= .ref l/\vs=[.ref b]/\H l=some (.lst xs)/\H b=some (.lst zs)/\xs.length+zs.length<=sizeLine/\Q .non (aN H l (.lst (xs++zs)))
def lN:MtM X "list.extend" rExtend:=by
 intro pins s σ H x vs v us Q I rx rv h
 obtain⟨l,b,xs,zs,rfl,rfl,hH,hB,hz,q⟩:=h
 cases rx
 obtain⟨u,rfl,ru⟩:=rv.one
 cases ru
 obtain⟨z,its,n,r,hl,e⟩:=I.lstM hH
 obtain⟨z2,its2,n2,r2,hl2,e2⟩:=I.lstM hB
 have hsz:its.toArray.size+its2.toArray.size<=sizeLine:=by rw[bf,bf];lia
 have hlong:¬(!its.toArray.isEmpty&&Builtin.List.listTooLong (its.toArray.size+its2.toArray.size))=true:=by
  rw[aC3 hsz,Bool.and_false]
  exact bu
 refine jt F.slot_list_extend ⟨_,e,rfl⟩ F.entry_list_extend (F.args_list_extend_2 _ _)
  (AutoSeq1.list_extend_list_list_0 l its.toArray n b its2.toArray n2 hlong (by rw[bf];lia) (by lia)) ⟨e,e2,?_⟩
 refine⟨.non,_,I.lset (its':=its++its2) hH e (by simp) (r.append r2) ?_,rfl,q⟩
 rw[bg]
 lia
def rPop:V->List V->Hp->VK->Prop:=fun x vs H Q=>∃l xs y,x= .ref l/\vs=[]/\H l=some (.lst xs)/\xs[xs.length-1]?=some y/\Q y (aN H l (.lst xs.dropLast))
def yV:MtM X "list.pop" rPop:=by
 intro pins s σ H x vs v us Q I rx rv h
 obtain⟨l,xs,y,rfl,rfl,hH,hy,q⟩:=h
 cases rx
 have hus:=rv.zero
 subst hus
 obtain⟨z,its,n,r,hl,e⟩:=I.lstM hH
 obtain⟨u,hu,ru⟩:=r.get hy
 have hy':its.toArray[its.toArray.size-1]?=some u:=by
  show its.toArray[its.length-1]?=some u
  rw[<-ke, <-hl]
  exact hu
 refine jt F.slot_list_pop ⟨_,e,rfl⟩ F.entry_list_pop (F.args_list_pop_1 _) (MeetsSeq.list_pop_last l its.toArray n u hy' (by rw[bf];lia)) ⟨e,?_⟩
 refine⟨y,_,I.lset (its':=its.dropLast) hH e ?_ r.dropLast ?_,ru,q⟩
 ·show its.toArray.eraseIdxIfInBounds (its.toArray.size-1)=its.dropLast.toArray
  rw[bf,rc,aG3]
 ·rw[List.length_dropLast]
  lia
def rPopAt:V->List V->Hp->VK->Prop:=fun x vs H Q=>∃l xs i k y,x= .ref l/\vs=[.int i]/\H l=some (.lst xs)/\ -(2^63)<=i/\i<2^63/\seqIndex? i xs.length=some k/\xs[k]?=some y/\Q y (aN H l (.lst (xs.eraseIdx k)))
def bL0:MtM X "list.pop" rPopAt:=by
 intro pins s σ H x vs v us Q I rx rv h
 obtain⟨l,xs,i,k,y,rfl,rfl,hH,h1,h2,hk,hy,q⟩:=h
 cases rx
 obtain⟨u,rfl,ru⟩:=rv.one
 obtain⟨t,rfl⟩:=ru
 obtain⟨z,its,n,r,hl,e⟩:=I.lstM hH
 obtain⟨w,hw,rw'⟩:=r.get hy
 refine jt F.slot_list_pop ⟨_,e,rfl⟩ F.entry_list_pop (F.args_list_pop_2 _ _)
  (MeetsSeq.list_pop_at l its.toArray n i t k w (fitsIndex_both h1 h2) (by rw[bf, <-hl];exact hk) (by rw[<-ke];exact hw) (by rw[bf];lia)) ⟨e,?_⟩
 refine⟨y,_,I.lset (its':=its.eraseIdx k) hH e ?_ (r.eraseIdx k) ?_,rw',q⟩
 ·show its.toArray.eraseIdxIfInBounds k=(its.eraseIdx k).toArray
  rw[rc]
 ·have:=xE xs k
  lia
def rCat:R2:=fun x y H Q=>∃l b xs zs,x= .ref l/\y= .ref b/\H l=some (.lst xs)/\H b=some (.lst zs)/\xs.length+zs.length<=sizeLine/\∀p,H p=none->Q (.ref p) (aN H p (.lst (xs++zs)))
def yK:kM X (binaryOp .Add) rCat:=by
 intro pins s σ H x y v u Q I rx ry h
 obtain⟨l,b,xs,zs,rfl,rfl,hH,hB,hz,q⟩:=h
 cases rx
 cases ry
 obtain⟨z,its,n,r,hl,e⟩:=I.lstM hH
 obtain⟨z2,its2,n2,r2,hl2,e2⟩:=I.lstM hB
 refine PySem.P.add_list e e2 ?_ (by rw[bf,bf];lia)
 have ea:its.toArray++its2.toArray=(its++its2).toArray:=by simp
 rw[ea]
 exact⟨.ref _,_,I.lnew (t':=s.toks) (r.append r2) (by rw[bg];lia),rfl,q _ I.fresh⟩
def rRep:R2:=fun x y H Q=>∃l k xs,x= .ref l/\y= .int k/\H l=some (.lst xs)/\ -(2^63)<=k/\k<2^63/\xs.length*k.toNat<=sizeLine /\
 ∀p,H p=none->Q (.ref p) (aN H p (.lst (List.replicate k.toNat xs).flatten))
def xM{α:Type}(xs:List α)(k:Nat):(List.replicate k xs).flatten.length=k*xs.length:=by
 induction k with
 |zero=>simp
 |succ k ih=>rw[gb,ir,bg,ih,mo,Nat.add_comm]
def cI2:kM X (binaryOp .Mult) rRep:=by
 intro pins s σ H x y v u Q I rx ry h
 obtain⟨l,k,xs,rfl,rfl,hH,h1,h2,hz,q⟩:=h
 cases rx
 obtain⟨t,rfl⟩:=ry
 obtain⟨z,its,n,r,hl,e⟩:=I.lstM hH
 have hlen:its.toArray.size*k.toNat<=sizeLine:=by rw[bf, <-hl];exact hz
 have hcap:¬its.toArray.size*k.toNat > (2^63-1) / 8:=by
  have:(sizeLine:Nat)<=(2^63-1) / 8:=by decide
  lia
 have hfit:¬(!Builtin.List.listFitsIndex k)=true:=by
  rw[fitsIndex_both h1 h2]
  exact bu
 have hlong:¬Builtin.List.listTooLong (its.toArray.size*k.toNat)=true:=by
  rw[aC3 hlen]
  exact bu
 have hnew:List.foldl (fun x1 x2=>x1++x2) #[] (List.replicate (if its.toArray.isEmpty=true then 0 else k.toNat) its.toArray)=(List.replicate k.toNat its).flatten.toArray:=by
  have f0:∀m:Nat,List.foldl (fun x1 x2=>x1++x2) #[] (List.replicate m its.toArray)=(List.replicate m its).flatten.toArray:=fun m=>by
   have:=oV its m []
   rw[xf] at this
   exact this
  rw[f0]
  cases its with
  |nil=>simp
  |cons a r'=>rw[ai (by simp)]
 refine vk (T:="list") (U:="int") (by decide) ⟨_,e,rfl⟩ (fun s'=>rm s' k t) noFill_list_mul F.fills_int_mul rq repeat_list F.slot_int_index.lookup
  (jt rq (rm s k t) F.entry_int_rmul (F.args_int_rmul_2 _ _) (int___rmul___int_list k t l its.toArray n)
   ⟨e,rfl,⟨_,e,rfl⟩,jt F.slot_list_mul ⟨_,e,rfl⟩ F.entry_list_mul (F.args_list_mul_2 _ _) (AutoListH.list___mul___list_int_3 l its.toArray n k t hfit hcap hlong) ⟨e,?_⟩⟩)
 rw[hnew]
 exact⟨.ref _,_,I.lnew (t':=s.toks) (r.rep k.toNat) (by rw[xM,mq];exact hz),rfl,q _ I.fresh⟩
end
section
variable {prog:Program}{w:World}{A:Around}{E:Value->Shared->Prop}{s:Shared}
end
section
variable {X:Cx}
end
end L2
namespace Att
open PySem PySem.W PySem.Calls PyProof.Rows
def qJ{P:Params}{h:Heap}:∀(ns:List Int) (vs:List Value),WellAll P h vs (ns.map WData.int)->IntsAre vs ns:=by
 intro ns
 induction ns with
 |nil =>
  intro vs w
  rw[List.map_nil] at w
  cases w
  exact .nil
 |cons n ns ih =>
  intro vs w
  rw[List.map_cons] at w
  cases w with
  |cons a b =>
   cases a
   exact .cons _ _ (ih _ b)
def aW3{l:OpenLaw}{n:Nat}(hn:l.most=some n){P:Params}{h:Heap}{args:List WData}{vals:List Value}
  (hpre:l.row.toRowW.claim.pre args=true) (hwl:WellAll P h vals args) :
  ∃a vs ns,vals=[Value.ref a]/\args=[WData.list (ns.map WData.int)]/\h.get? a=some { cls:= .type "list",data:= .seq vs.toArray }/\IntsAre vs ns/\ns.length<=n:=by
 have hsh:WShape.hasAll [] args [.list .int]=true:=(pre_splitW hpre).1
 have hc:l.pre.holds [] { args:=args }=true:=(pre_splitW hpre).2
 obtain⟨d,r,rfl,h1,h2⟩:=hasAllW_cons hsh
 obtain rfl:=hasAllW_nil h2
 obtain⟨xs,rfl,h3⟩:=hasW_list h1
 obtain⟨ns,rfl⟩:=items_int h3
 have hlen:ns.length<=n:=by
  unfold OpenLaw.pre at hc
  have h4:(WTm.not (.lt (.lit (.int (n:Int))) (.len (.arg 0)))).holds [] { args:=[.list (ns.map .int)] }=true:=by
   have h4:=(holds_andW hc).1
   rw[hn] at h4
   exact h4
  have h5:=condW_of h4 (w_not (w_lt w_lit (w_len_list (w_arg rfl))))
  rw[List.length_map] at h5
  refine Nat.le_of_not_lt fun q=>?_
  have q':(n:Int)<((ns.length:Nat):Int):=by lia
  first
   |(rw[decide_eq_true q'] at h5;exact absurd h5 (by decide))
   |(simp at h5;lia)
 cases hwl with
 |cons w1 w2 =>
  cases w2
  cases w1 with
  |list ho hall=>exact⟨_,_,ns,rfl,rfl,ho,qJ ns _ hall,hlen⟩
def aU5(l:OpenLaw)(args:List WData):l.row.toRowW.claim.post args (.bool true) args=true:=
 postW_of (r:=l.row.toRowW) (X:=(true==true))
  (show WShape.has [] (.bool true) .bool=true by first|rfl|decide|simp[WShape.has,WShape.arms,WShape.armsAll])
  (show(WTm.eq .res (.lit (.bool true))).value [] { args:=args,res:=some (.bool true),after:=args }=some (.bool (true==true)) from w_eq_bool (w_res rfl) w_lit) rfl
def attach_call{l:OpenLaw}{n:Nat}{q:Program}{loose:List Str}{XP:(Str->Option Value)->Heap->Prop}{YP:World->Heap->Prop}{d:DefRec}
  (hn:l.most=some n) (hdf:d.params.defaults=[])
  (call:∀(w:World) (s₀ s₁:Shared) (mg mb:Str->Option Value) (fa:Addr) (o:Obj) (pm cd doc:Value) (a:Addr) (vs:List Value) (ns:List Int),
   Ground q loose [] XP w s₀ mg mb s₁.heap->YP w s₁.heap ->
   s₁.heap.get? fa=some o->o.data= .func (docDef d.name d.params d.body d.scope pm cd doc)->s₁.heap.CodeRec cd d.name->mg d.name=some (.ref fa) ->
   s₁.heap.get? a=some { cls:= .type "list",data:= .seq vs.toArray }->IntsAre vs ns->ns.length<=n->s₁.gens= #[] ->
   codeAny (model l.prog w) callerA (.call (.ref fa) ⟨[.ref a],[]⟩) (fun r s'=>r= .ok (.ret (.bool true))/\OldK s₁.heap s'.heap/\s'.os=s₁.os/\AllBare s'.gens) s₁) :
  WalkO q loose XP YP l.row.toRowW d [] (fun f vs=>PySem.call f vs):=by
 intro w s₀ s₁ mg mb G Y fa o pm cd doc dV kV ho hd hcd hD hmg hg args vals as hpre hlay hrd hwl hlo
 obtain rfl:dV= .none:=Dflts.none hD hdf
 obtain rfl:kV= .none:=Dflts.noKw hD
 obtain⟨a,vs,ns,rfl,rfl,hobj,hints,hlen⟩:=aW3 hn hpre hwl
 refine enter_call (codeAny_mono (call w s₀ s₁ mg mb fa o pm cd doc a vs ns G Y ho (fd_plain hd) hcd hmg hobj hints hlen hg) fun r s' hq=>?_)
 obtain⟨rfl,h2,h3,h4⟩:=hq
 exact⟨.inl ⟨.bool true,.bool true,[],rfl,fun _=>rfl,.bool true,aU5 l _,fun _=>⟨List.Pairwise.nil,fun _ hm=>(nomatch hm)⟩⟩,h2,h3,h4⟩
section
variable {prog:Program}{w:World}{A:Around}{E:Value->Shared->Prop}{s:Shared}{K:Frag}
def cU4(h:Heap)(L d:Addr):List (Addr×Obj):=(List.range h.objs.size).filterMap fun a=>if a=L\/a=d then none else (h.get? a).map fun o=>(a,o)
end
end Att
namespace L2
open PySem PySem.Spec PyProof.Rows
def xF:∀{vs:List Value}{ns:List Int},IntsAre vs ns->bC (ns.map V.int) vs
 |_,_,.nil=> .nil
 |_,_,.cons n t h=> .cons ⟨t,rfl⟩ (xF h)
def bZ3(H:Hp):Prop:=∀b,H b=none\/∃o xs,H b=some (.frz o (.lst xs))
def aZ3{P:Program}{w:World}{K:PySem.W.Frag}{mg mb:Str->Option Value}{CX:CXT}{k:Nat}{fa a:Addr}{fd:FuncData}{x:Str}{sp:Sp}{s₁:Shared}{vs:List Value}{ns:List Int}
  (KX:K.In s₁.heap) (hns:s₁.heap.Ns mainGlobals mg) (hb:s₁.heap.Ns builtinsNs mb) (hbb:∀x:Str,x≠"__name__"->mb x=bootBuiltins x) (hlim:s₁.heap.NoLimit) (hg:s₁.gens= #[])
  (ha:s₁.heap.get? a=some { cls:= .type "list",data:= .seq vs.toArray }) (hi:IntsAre vs ns) (hl:ns.length<=sizeLine) (hr:dE k callerA)
  (F:∀base:Heap,K.In base->base.Ns mainGlobals mg->kK P w K mg base CX k fa fd [x] sp) (hbind:∀(s:Shared) (u:Value),BindsTo s fd ⟨[u],[]⟩ [(x,u)])
  (hsp:∀H:Hp,bZ3 H->bR K H a (ns.map V.int)->sp [.ref a] H (fun v _=>v= .bl true) fun _ _ _=>False)
  (hCX:∀H e s',CX [] H s₁ (fun _ _ _=>False) e s'->False) :
  codeAny (model P w) callerA (.call (.ref fa) ⟨[.ref a],[]⟩) (fun r s'=>r= .ok (.ret (.bool true))/\OldK s₁.heap s'.heap/\s'.os=s₁.os/\AllBare s'.gens) s₁:=by
 have rv:=xF hi
 have lenV:=hi.length
 have core:∀H:Hp,bZ3 H->bR K H a (ns.map V.int)->kL P w H s₁.heap->(∀b,H b≠none->b=a)->(H a≠none->K.lookup a=none) ->
   codeAny (model P w) callerA (.call (.ref fa) ⟨[.ref a],[]⟩) (fun r s'=>r= .ok (.ret (.bool true))/\OldK s₁.heap s'.heap/\s'.os=s₁.os/\AllBare s'.gens) s₁:=by
  intro H hO hS hok hA hK
  have base_of:∀{b:Addr}{o:Obj},s₁.heap.get? b=some o->H b=none->(yT s₁.heap H).get? b=some o:=fun e n=>bF4 e n
  have noA:∀{b:Addr}{o:Obj}{es:Array DictEntry}{ep:Nat},s₁.heap.get? b=some o->o.data= .dict es ep->H b=none:=fun {b o es ep} e d=>by
   cases q:H b with
   |none=>rfl
   |some u =>
    have e':b=a:=hA b (by rw[q];simp)
    subst e'
    rw[ha] at e;cases e
    have d':Data.seq vs.toArray _=Data.dict es ep:=d
    cases d'
  have nsK:∀{b:Addr}{m:Str->Option Value},s₁.heap.Ns b m->(yT s₁.heap H).Ns b m:=fun {b m} ⟨o,es,ep,e,d,r⟩=>⟨o,es,ep,base_of e (noA e d),d,r⟩
  have hKb:K.In (yT s₁.heap H):=fun b o e=>base_of (KX b o e) (by
   cases q:H b with
   |none=>rfl
   |some u =>
    have e':b=a:=hA b (by rw[q];simp)
    subst e'
    rw[hK (by rw[q];simp)] at e;cases e)
  have hM:Mod K mg (yT s₁.heap H):=⟨hKb,nsK hns,⟨mb,nsK hb,hbb⟩,let⟨mc,h1,h2⟩:=hlim;⟨mc,nsK h1,h2⟩⟩
  have e0:aM5 P w K mg (yT s₁.heap H) callerA [] s₁ H:=⟨rfl,hM,fun b o e=>bS1 e,Nat.le_of_eq (aV3 _ _),trivial,fun b hb=>absurd (show b∈([]:List Addr) from hb) (by simp),hok,.of_eq hg⟩
  refine rg ((F _ hKb (nsK hns)).run callerA [] s₁ H ⟨[.ref a],[]⟩ [.ref a] [.ref a] _ _ hr e0 (hbind s₁ (.ref a)) (.cons rfl .nil) (hsp H hO hS)) fun r s' h=>?_
  cases r with
  |error e=>exact(hCX H e s' h).elim
  |ok fl =>
   cases fl with
   |next=>exact False.elim h
   |brk=>exact False.elim h
   |cont=>exact False.elim h
   |ret u =>
    obtain⟨v,H',os,bare,un,hok',r',q⟩:=h
    have q':v= .bl true:=q
    subst q'
    obtain rfl:u=Value.bool true:=r'
    refine⟨rfl,OldK.of_keep fun b o e=>?_,os,bare⟩
    cases q:H b with
    |none=>exact un.keep b o e q (by intro z;exact absurd (show b∈([]:List Addr) from z) (by simp)) (by simp)
    |some u =>
     rcases hO b with z|⟨ob,xs,z⟩
     ·rw[q] at z;cases z
     ·have z2:=un.frzs b ob _ z
      obtain⟨e1,_⟩:=hok b _ z
      obtain⟨e2,_⟩:=hok' b _ z2
      rw[e] at e1;cases e1
      exact e2
 cases hk:K.lookup a with
 |some o =>
  have e:=KX a o hk
  rw[ha] at e
  cases e
  refine core (fun _=>none) (fun _=> .inl rfl) (.inr ⟨_,vs.toArray,_,hk,rfl,rfl,rfl,by rw[bf,lenV];exact hl,by simpa using rv⟩) (fun b u z=>by have z':(none:Option HO)=some u:=z;cases z') (fun b z=>absurd rfl z) fun z=>absurd rfl z
 |none =>
  refine core (fun b=>if b=a then some (.frz { cls:= .type "list",data:= .seq vs.toArray } (.lst (ns.map V.int))) else none) (fun b=>?_) (.inl (.inr ⟨{ cls:= .type "list",data:= .seq vs.toArray },ao rfl⟩)) (fun b u z=>?_) (fun b z=>?_) fun _=>hk
  ·by_cases hb:b=a
   ·exact .inr ⟨_,_,ao hb⟩
   ·exact .inl (ai hb)
  ·by_cases hb:b=a
   ·have z':=(ao hb).symm.trans z
    cases z'
    subst hb
    exact⟨ha,by rw[ac];exact hl,vs,_,rv,ha⟩
   ·have z':=(ai hb).symm.trans z
    cases z'
  ·by_cases hb:b=a
   ·exact hb
   ·exact absurd (ai hb) z
def walk_of{l:PySem.W.OpenLaw}{n k:Nat}{q:Program}{loose:List Str}{XP:(Str->Option Value)->Heap->Prop}{YP:World->Heap->Prop}{d:DefRec}{K:Params->PySem.W.Frag}{CX:World->CXT}{sp:World->Sp}{x:Str}
  (hn:l.most=some n) (hn2:n<=sizeLine) (hdf:d.params.defaults=[]) (hr:dE k callerA)
  (hY:∀(w:World) (h:Heap),YP w h->(K w.params).In h)
  (F:∀(w:World) (mg:Str->Option Value) (fa:Addr) (h:Heap),(K w.params).In h->h.Ns mainGlobals mg->mg d.name=some (.ref fa) ->
   ∃fd:FuncData,(∀(s:Shared) (u:Value),BindsTo s fd ⟨[u],[]⟩ [(x,u)]) /\
    ∀base:Heap,(K w.params).In base->base.Ns mainGlobals mg->kK l.prog w (K w.params) mg base (CX w) k fa fd [x] (sp w))
  (hsp:∀(w:World) (H:Hp) (a:Addr) (ns:List Int),ns.length<=n->bZ3 H->bR (K w.params) H a (ns.map V.int)->sp w [.ref a] H (fun v _=>v= .bl true) fun _ _ _=>False)
  (hCX:∀(w:World) (H:Hp) (s:Shared) (e:Value) (s':Shared),CX w [] H s (fun _ _ _=>False) e s'->False) :
  PySem.W.WalkO q loose XP YP l.row.toRowW d [] (fun f vs=>PySem.call f vs):=by
 refine Att.attach_call hn hdf fun w s₀ s₁ mg mb fa o pm cd doc a vs ns G Y ho hd hcd hmg hobj hints hlen hg=>?_
 have KX:=hY w _ Y
 obtain⟨fd,hb,hF⟩:=F w mg fa _ KX G.T.g hmg
 exact aZ3 KX G.T.g G.T.b G.T.builtins G.T.nolimit hg hobj hints (ay hlen hn2) hr hF hb (fun H hO hS=>hsp w H a ns hlen hO hS) fun H e s'=>hCX w H s₁ e s'
def cE(s:Stmt):Arguments:=match s with
 |.FunctionDef _ a _ _ _ _ _ _ _ _=>a
 |_=>{ posonlyargs:=[],args:=[],vararg:=none,kwonlyargs:=[],kw_defaults:=[],kwarg:=none,defaults:=[] }
def bX(s:Stmt):List Stmt:=match s with
 |.FunctionDef _ _ b _ _ _ _ _ _ _=>b
 |_=>[]
def bB(s:Stmt):Scope:=match s with
 |.FunctionDef _ _ _ _ _ _ sc _ _ _=>sc
 |_=>{ kind:= .function,names:=[],isGenerator:=false,isCoroutine:=false }
abbrev CX0:CXT:=fun _ _ _ _ _ _=>False
abbrev E0:XK:=fun _ _ _=>False
def bE9{X:Cx}:sU CX0 X E0:=fun _ _ _ _ _ _ _ h=>h.elim
structure yZ(K:PySem.W.Frag)(x qual:Str)(st:Stmt)(f:Addr)(fd:FuncData):Prop where
 ex:∃(oc:Value) (od:Option Addr) (kV doc pm:Value) (an:Option Addr) (cdv ct:Value) (osl:Array (Option Value)),
  fd=PySem.W.fnOf x qual (cE st) (bX st) (bB st) .none kV doc pm an cdv ct/\K.lookup f=some ⟨oc,od,.func fd,osl⟩/\PySem.W.codeIn K cdv qual=true
 kp:PySem.W.keepIn K (.ref f)=true
section
variable {P:Program}{w:World}{K:PySem.W.Frag}{mg:Str->Option Value}{base:Heap}
def yZ.ok{x qual:Str}{st:Stmt}{f:Addr}{fd:FuncData}{N ps:List Str}{k:Nat}{sp:Sp}(F:yZ K x qual st f fd)(S:nI N ps (bB st))(len:∀vs H Q E,sp vs H Q E->vs.length=ps.length)
  (hbody:∀(cdv:Value) (A:Around) (outer:List Env) (s:Shared) (H:Hp) (vs:List V) (Q:VK) (E:XK),dE k (A.deeper (envOfC qual (bB st) s.heap.objs.size f cdv))->sp vs H Q E ->
   ∃t,yW (aF0 CX0 P w K mg base N qual (bB st) f cdv A outer s H E).nox (bX st) t/\t { nx:=fun _ H'=>Q .non H',rt:=Q } (lV N vs) H):kK P w K mg base CX0 (k+1) f fd ps sp:=by
 obtain⟨oc,od,kV,doc,pm,an,cdv,ct,osl,rfl,lk,hcd⟩:=F.ex
 refine bV9 lk hcd S len fun A outer s H vs Q E hr hsp=>?_
 obtain⟨t,h,q⟩:=hbody cdv A outer s H vs Q E hr hsp
 exact⟨t,h.nox,q⟩
def yZ.binds{x qual:Str}{st:Stmt}{f:Addr}{fd:FuncData}{ps:List Str}(F:yZ K x qual st f fd)
  (h:∀(kV doc pm:Value) (an:Option Addr) (cdv ct:Value) (us:List Value),us.length=ps.length->bindArgs (PySem.W.fnOf x qual (cE st) (bX st) (bB st) .none kV doc pm an cdv ct) ⟨us,[]⟩=pure (ps.zip us)):gM K fd ps []:=by
 obtain⟨oc,od,kV,doc,pm,an,cdv,ct,osl,rfl,lk,hcd⟩:=F.ex
 exact .all (h kV doc pm an cdv ct)
def aY8{x qual:Str}{st:Stmt}{f:Addr}{oc:Value}{od an:Option Addr}{osl:Array (Option Value)}{kV doc pm cdv ct:Value}(l:K.lookup f=some ⟨oc,od,.func (PySem.W.fnOf x qual (cE st) (bX st) (bB st) .none kV doc pm an cdv ct),osl⟩)
  (c:PySem.W.codeIn K cdv qual=true) (k:PySem.W.keepIn K (.ref f)=true):yZ K x qual st f (PySem.W.fnOf x qual (cE st) (bX st) (bB st) .none kV doc pm an cdv ct):=⟨⟨oc,od,kV,doc,pm,an,cdv,ct,osl,rfl,l,c⟩,k⟩
end
def gN{A:Around}{k:Nat}(hr:dE k A):A.units+1<cLine:=cm (Nat.add_le_add_left (by decide:1<=64) _) hr.units
def aL{n:Nat}(h:n<=1000):n<sizeLine:=cm h (by decide)
section
variable {X:Cx}
def pv(i:Nat){x:Str}{pos:Pos}(hN:X.N[i]?=some x:=by rfl)(hv:Vis X.env.scope x:=by first|exact oo rfl|exact vw (oo rfl)|exact vw (vw rfl))(hd:(x==("__debug__": Str))=false:=by decide)
  (hcd:(x==("__classdict__": Str))=false:=by decide):PE X (.Name x pos) (cJ2 i):=cB3 hN hv hd hcd
end
def cV1{A B:Prop}(h:B):if false=true then A else B:=by
 rw[ai bu]
 exact h
def aB2{c A B:Prop}[Decidable c](h1:c->A)(h2:¬c->B):if c then A else B:=by
 by_cases h:c
 ·rw[ao h]
  exact h1 h
 ·rw[ai h]
  exact h2 h
def cR0{c A B:Prop}[Decidable c](hc:c)(h:B):if (!decide c)=true then A else B:=by
 rw[ap hc]
 exact cV1 h
def aR(H H':Hp):Prop:=∀b o,H b=some o->H' b=some o
def aR.refl(H:Hp):aR H H:=fun _ _ h=>h
def aR.trans{H H1 H2:Hp}(a:aR H H1)(b:aR H1 H2):aR H H2:=fun c o h=>b c o (a c o h)
def aR.free{H H':Hp}(e:aR H H'){l:Addr}(h:H' l=Option.none):H l=Option.none:=by
 cases q:H l with
 |none=>rfl
 |some o =>
  rw[e l o q] at h
  cases h
def aR.seq{K:PySem.W.Frag}{H H':Hp}{a:Addr}{xs:List V}(e:aR H H')(h:bR K H a xs):bR K H' a xs:=by
 rcases h with(h|⟨o,h⟩)|h
 ·exact .inl (.inl (e _ _ h))
 ·exact .inl (.inr ⟨o,e _ _ h⟩)
 ·exact .inr h
section
variable {κ:Type} [DecidableEq κ]
end
end L2
set_option maxHeartbeats 4000000
namespace L2
open PySem PySem.Spec PyProof.Rows
def yJ(env:Env)(names:List (Str×NameKind)):List (Str×Addr):=
 names.foldl (fun cs y=>if y.2==NameKind.free then (y.1,(env.cells.lookup y.1).getD 0)::cs else cs) []
def bD4{env:Env}:∀(names:List (Str×NameKind)) (cs:List (Str×Addr)),(∀y∈names,y.2= .free->∃c,env.cells.lookup y.1=some c) ->
  (forIn names cs fun(y:Str×NameKind) (r:List (Str×Addr))=>(if y.2==NameKind.free then (do let a <-cellOf env y.1;pure (ForInStep.yield ((y.1,a)::r))) else pure (ForInStep.yield r):Sem (ForInStep (List (Str×Addr))))) =
   pure (names.foldl (fun cs y=>if y.2==NameKind.free then (y.1,(env.cells.lookup y.1).getD 0)::cs else cs) cs)
 |[],cs,_=>rfl
 |(n,k)::r,cs,h=>by
  have ih:=fun cs'=>bD4 (env:=env) r cs' fun y hy=>h y (ae _ hy)
  rw[xg,iz]
  by_cases hk:k= .free
  ·subst hk
   obtain⟨c,hc⟩:=h (n,.free) aj rfl
   have e:cellOf env n=pure c:=by unfold cellOf;rw[hc]
   simp only[beq_self_eq_true,if_true,e,pure_bind,hc,Option.getD_some]
   exact ih _
  ·have hb:(k==NameKind.free)=false:=by simpa using hk
   simp only[hb,Bool.false_eq_true,if_false,pure_bind]
   exact ih _
def tT{scope:Scope}{env:Env}(h:∀y∈scope.names,y.2= .free->∃c,env.cells.lookup y.1=some c):closureFor scope env=pure (yJ env scope.names):=by
 unfold closureFor
 have e:=bD4 (env:=env) scope.names [] h
 simp only[] at e ⊢
 refine Eq.trans ?_ (gv (fun m:Sem (List (Str×Addr))=>m>>=fun cs=>pure cs) e)
 rfl
def bA1{env:Env}{x:Str}{c:Addr}:∀(names:List (Str×NameKind)) (cs:List (Str×Addr)),(∀y∈names,y.2= .free->∃c,env.cells.lookup y.1=some c) ->
  (names.foldl (fun cs y=>if y.2==NameKind.free then (y.1,(env.cells.lookup y.1).getD 0)::cs else cs) cs).lookup x=some c->cs.lookup x=some c\/env.cells.lookup x=some c
 |[],_,_,e=> .inl e
 |(n,k)::r,cs,h,e=>by
  rw[iz] at e
  have ih:=bA1 r _ (fun y hy=>h y (ae _ hy)) e
  rcases ih with q|q
  ·by_cases hk:k= .free
   ·subst hk
    obtain⟨c',hc⟩:=h (n,.free) aj rfl
    simp only[beq_self_eq_true,if_true,hc,Option.getD_some,List.lookup_cons] at q
    cases hx:x==n with
    |true =>
     rw[hx] at q
     have:x=n:=by simpa using hx
     subst this
     simp only[Option.some.injEq] at q
     subst q
     exact .inr hc
    |false =>
     rw[hx] at q
     exact .inl q
   ·have hb:(k==NameKind.free)=false:=by simpa using hk
    simp only[hb,Bool.false_eq_true,if_false] at q
    exact .inl q
  ·exact .inr q
def aM7{env:Env}{x:Str}:∀(names:List (Str×NameKind)) (cs:List (Str×Addr)),((x,NameKind.free)∈names\/∃c,cs.lookup x=some c) ->
  ∃c,(names.foldl (fun cs y=>if y.2==NameKind.free then (y.1,(env.cells.lookup y.1).getD 0)::cs else cs) cs).lookup x=some c
 |[],_,e=>by rcases e with e|e;exact absurd e (by simp);exact e
 |(n,k)::r,cs,e=>by
  rw[iz]
  refine aM7 r _ ?_
  rcases e with e|⟨c,e⟩
  ·rcases az.mp e with z|z
   ·cases z
    right
    simp only[beq_self_eq_true,if_true,List.lookup_cons]
    exact⟨_,rfl⟩
   ·exact .inl z
  ·right
   by_cases hk:k= .free
   ·subst hk
    simp only[beq_self_eq_true,if_true,List.lookup_cons]
    cases hx:x==n with
    |true=>exact⟨_,rfl⟩
    |false=>exact⟨c,e⟩
   ·have hb:(k==NameKind.free)=false:=by simpa using hk
    simp only[hb,Bool.false_eq_true,if_false]
    exact⟨c,e⟩
def oF{env:Env}{x:Str}:∀{names:List (Str×NameKind)},(∀y∈names,y.2≠ .cell) ->
  ((names.map fun(n,k)=>if (k==NameKind.free&&env.scope.kind == .function&&env.kindOf n==some .cell) then (n,NameKind.cell) else (n,k)).lookup x=some .cell \/
   (names.map fun(n,k)=>if (k==NameKind.free&&env.scope.kind == .function&&env.kindOf n==some .cell) then (n,NameKind.cell) else (n,k)).lookup x=some .free)->(x,NameKind.free)∈names
 |[],_,h=>by simp at h
 |(n,k)::r,hc,h=>by
  have ih:= @oF env x r fun y hy=>hc y (ae _ hy)
  have hk:=hc (n,k) aj
  simp only[List.map_cons] at h
  by_cases cc:(k==NameKind.free&&env.scope.kind == .function&&env.kindOf n==some .cell)=true
  ·rw[ao cc] at h
   have kf:k= .free:=by
    simp only[Bool.and_eq_true,beq_iff_eq] at cc
    exact cc.1.1
   subst kf
   simp only[List.lookup_cons] at h
   cases hx:x==n with
   |true =>
    have:x=n:=by simpa using hx
    subst this
    exact aj
   |false=>rw[hx] at h;exact ae _ (ih h)
  ·rw[ai cc] at h
   simp only[List.lookup_cons] at h
   cases hx:x==n with
   |true =>
    rw[hx] at h
    have:x=n:=by simpa using hx
    subst this
    rcases h with h|h
    ·simp only[Option.some.injEq] at h
     exact absurd h hk
    ·simp only[Option.some.injEq] at h
     subst h
     exact aj
   |false=>rw[hx] at h;exact ae _ (ih h)
abbrev aZ4(ifs:List Expr)(env:Env):Sem Bool:=forIn ifs true fun c r =>
 if r=true then do
  let ok <-isTrue c env (eval c env)
  pure (ForInStep.yield ok)
 else pure (ForInStep.yield r)
def aX3(X:Cx)(ifs:List Expr)(t:TT):Prop:=
 ∀(pins:List (Addr×Obj)) (s:Shared) (σ:St) (H:Hp) (Q:Bool->Hp->Prop),aV X pins σ H s->t σ H Q ->
  wpAny (model X.prog X.w) X.A (aZ4 ifs X.env) (TP X pins σ Q) X.xe s
def tYes:TT:=fun _ H Q=>Q true H
def fZ{X:Cx}:aX3 X [] tYes:=fun _ _ _ H _ I h=>wpAny_tests_nil ⟨H,I,h⟩
def bI6{X:Cx}{c:Expr}{t:TT}(h:PT X c t):aX3 X [c] t:=fun pins s σ H Q I q=>wpAny_tests_one (h pins s σ H Q I q)
abbrev aI5:Value->Shared->Prop:=fun _ _=>False
def aU2{prog:Program}{w:World}{A:Around}{R:Result->Shared->Prop}{s0:Shared}{elt target iter:Expr}{ifs:List Expr}{scope:Scope}{pos:Pos}{it acc:Value}{env:Env}(W:Nat->Shared->Prop)
  (one:∀k t,W k t->wpAny (model prog w) A (pyNext it) (fun r t1=>match r with
   |none=>R (.ok .next) t1
   |some v=>wpAny (model prog w) A (letOwnedTupleGo target it v) (fun _ t2=>wpAny (model prog w) A (assign target env v) (fun _ t3=>wpAny (model prog w) A (aZ4 ifs env) (fun ok t4 =>
     if ok=true then wpAny (model prog w) A (eval elt env) (fun x t5=>wpAny (model prog w) A (call (.builtin "list.append") [acc,x]) (fun _ t6=>∃j,j<k/\W j t6) aI5 t5) aI5 t4
     else ∃j,j<k/\W j t4) aI5 t3) aI5 t2) aI5 t1) aI5 t)
  (k0:Nat) (h0:W k0 s0):codeAny (model prog w) A (.compLoop (.ListComp elt [⟨target,iter,ifs,0⟩] scope pos) 0 it acc env) R s0:=by
 refine codeAny_loop rfl W (fun k t hW=>?_) k0 h0
 refine wpAny_noted (m:=compTurn (.ListComp elt [⟨target,iter,ifs,0⟩] scope pos) 0 it acc env) ?_
 have no:∀{P:Prop}{e:Value}{t:Shared},aI5 e t->P:=fun z=>z.elim
 rw[compTurn_list]
 refine aa (uv (aa (ft (one k t hW) (fun r t1 q1=>?_) fun _ _=>no)))
 match r with
 |none=>exact am q1
 |some v =>
  refine aa (ft q1 (fun _ t2 q2=>aa (ft q2 (fun _ t3 q3=>aa (ft q3 (fun ok t4 q4=>?_) fun _ _=>no)) fun _ _=>no)) fun _ _=>no)
  match ok with
  |false=>exact am ⟨rfl,q4⟩
  |true =>
   rw[ao rfl] at q4
   refine aa (aa (ft q4 (fun x t5 q5=>aa (ft q5 (fun _ t6 q6=>?_) fun _ _=>no)) fun _ _=>no))
   exact am (am ⟨rfl,q6⟩)
def aB6(ix:List (Option Nat))(σ:St):St:=ix.map fun o=>o.bind fun j=>σ[j]?.join
def bC3{ix:List (Option Nat)}{σ:St}{i:Nat}{v:V}(h:(aB6 ix σ)[i]?=some (some v)):∃j,ix[i]?=some (some j)/\σ[j]?=some (some v):=by
 unfold aB6 at h
 rw[df] at h
 cases e:ix[i]? with
 |none=>rw[e] at h;cases h
 |some o =>
  rw[e] at h
  cases o with
  |none=>cases h
  |some j =>
   have h:some (σ[j]?.join)=some (some v):=h
   refine⟨j,rfl,?_⟩
   cases q:σ[j]? with
   |none=>rw[q] at h;cases h
   |some z=>rw[q] at h;cases h;rfl
def yE(N:List Str)(sc scope:Scope)(N':List Str)(ix:List (Option Nat)):Bool:=
 ix.length==N'.length&&(ix.zip N').all (fun p=>match p.1 with|none=>true|some j=>N[j]? == some p.2&&scope.names.lookup p.2==some NameKind.free) &&
 scope.names.all (fun y=>y.2 != NameKind.cell&&(y.2 != NameKind.free || sc.names.lookup y.1==some NameKind.cell || sc.names.lookup y.1==some NameKind.free)&&(y.2 != NameKind.local || scope.names.lookup y.1==some NameKind.local)) &&
 scope.kind==ScopeKind.function
structure iA(N:List Str)(sc scope:Scope)(N':List Str)(ix:List (Option Nat)):Prop where
 len:ix.length=N'.length
 at_:∀(i j:Nat) (x:Str),ix[i]?=some (some j)->N'[i]?=some x->N[j]?=some x/\scope.names.lookup x=some .free
 nocell:∀y∈scope.names,y.2≠ .cell
 free:∀y∈scope.names,y.2= .free->sc.names.lookup y.1=some .cell\/sc.names.lookup y.1=some .free
 loc:∀y∈scope.names,y.2= .local->scope.names.lookup y.1=some .local
 kind:scope.kind= .function
def iA.of{N:List Str}{sc scope:Scope}{N':List Str}{ix:List (Option Nat)}(h:yE N sc scope N' ix=true):iA N sc scope N' ix:=by
 unfold yE at h
 simp only[Bool.and_eq_true,beq_iff_eq,List.all_eq_true] at h
 obtain⟨⟨⟨h1,h2⟩,h3⟩,h4⟩:=h
 refine⟨h1,fun i j x a b=>?_,fun y hy e=>?_,fun y hy e=>?_,fun y hy e=>?_,h4⟩
 ·have hm:(some j,x)∈ix.zip N':=bj (i:=i) (by rw[List.getElem?_zip_eq_some];exact⟨a,b⟩)
  have q:=h2 _ hm
  simp only[Bool.and_eq_true,beq_iff_eq] at q
  exact q
 ·have q:=h3 y hy
  simp only[Bool.and_eq_true,bne_iff_ne,ne_eq] at q
  exact q.1.1 e
 ·have q:=(h3 y hy).1.2
  rw[e] at q
  simpa using q
 ·have q:=(h3 y hy).2
  rw[e] at q
  simpa using q
def cI(X:Cx)(N':List Str)(scope:Scope)(C:Addr)(s₂:Shared)(H₂:Hp)(fp:List Addr):Cx where
 prog:=X.prog
 w:=X.w
 K:=X.K
 mg:=X.mg
 base:=X.base
 A:=X.A
 N:=N'
 s₀:=s₂
 H₀:=H₂
 env:=compEnvC scope (yJ X.env scope.names) C X.env
 outer:=X.stack
 stack:=X.stack
 ex:=fp
 fn:=fun _=>false
 calm:=X.calm
 pn:=[]
 xe:=fun _ _=>False
section
variable {X:Cx}{N':List Str}{ix:List (Option Nat)}{scope:Scope}{pins:List (Addr×Obj)}{σ:St}{H₂:Hp}{s₂:Shared}{fp:List Addr}{C:Addr}
def iA.cells(S:iA X.N X.env.scope scope N' ix)(I:aV X pins σ H₂ s₂):∀y∈scope.names,y.2= .free->∃c,X.env.cells.lookup y.1=some c:=fun y hy e=>I.ok.has y.1 (S.free y hy e)
def iA.get(S:iA X.N X.env.scope scope N' ix)(I:aV X pins σ H₂ s₂){x:Str}{c:Addr}(h:(yJ X.env scope.names).lookup x=some c):X.env.cells.lookup x=some c:=by
 rcases bA1 scope.names [] (S.cells I) h with q|q
 ·exact absurd q (by simp)
 ·exact q
def aU9(S:iA X.N X.env.scope scope N' ix)(I:aV X pins σ H₂ s₂)(hf:∀b∈fp,oM X pins H₂ b)(hC:s₂.heap.objs.size<=C)(hfC:∀b∈fp,b<s₂.heap.objs.size):(cI X N' scope C s₂ H₂ fp).Ok where
 mod:=I.ok.mod
 kind:=S.kind
 glob:=I.ok.glob
 blt:=I.ok.blt
 above:=hC
 inj:=fun x y c a b=>I.ok.inj x y c (S.get I a) (S.get I b)
 has:=fun x h=>aM7 scope.names [] (.inl (oF S.nocell h))
 cab:=fun x c h=>by cases h
 hd:=I.ok.hd
 frames:=I.ok.frames
 stk:= .inl rfl
 exf:=fun b hb=>⟨bv (bn (hfC b hb) hC),fun x c e=>(hf b hb).2.2.2.2.1 x c (S.get I e)⟩
 bs:=I.bs
 bsz:=ay I.ok.bsz I.sz
 noex:=fun b o e hb=>by
  rcases(hf b hb).2.2.2.1 with z|z
  ·exact I.ok.noex b o e z
  ·exact absurd (bn (aw e) (ay I.ok.bsz z)) (gy _)
 exfs:=fun b hb hm=>by
  rcases az.mp (I.stkSub b hm) with z|z
  ·exact(hf b hb).2.1 z
  ·exact(hf b hb).2.2.1 z
 funs:=I.stack
 frf:=I.stkFree
def aM4(S:iA X.N X.env.scope scope N' ix)(I:aV X pins σ H₂ s₂)(hf:∀b∈fp,oM X pins H₂ b)(hfC:∀b∈fp,b<s₂.heap.objs.size){D:Addr}{h₁:Heap}{tk:Nat}{m:Str->Option Value}{ob:Obj}
  (hC:s₂.heap.objs.size<=C) (hD:s₂.heap.objs.size<=D) (hDC:D≠C) (old:∀b o,s₂.heap.get? b=some o->h₁.get? b=some o) (hn:h₁.Ns C m) (hob:h₁.get? D=some ob) (hd:∀v,ob.data≠ .cell v) :
  aV (cI X N' scope C s₂ H₂ fp) [(D,ob)] (aB6 ix σ) H₂ { s₂ with heap:=h₁,toks:=tk }:=by
 have fr:∀a,s₂.heap.objs.size<=a->H₂ a=none:=fun a ha=>I.hok.fresh ha
 have cOf:∀x c,(yJ X.env scope.names).lookup x=some c->X.env.cells.lookup x=some c:=fun x c e=>S.get I e
 refine⟨aU9 S I hf hC hfC,rfl,I.bare,Un.kept old,⟨m,hn,fun i x v e1 e2 e3=>?_⟩,fun x c e=>?_,fr C hC,fun x c e=>I.freeC x c (cOf x c e),fun p hp=>?_,I.hok.kept old,?_⟩
 ·obtain⟨j,q1,q2⟩:=bC3 e2
  obtain⟨n1,n2⟩:=S.at_ i j x q1 e1
  have hm:(x,NameKind.free)∈scope.names:=jp n2
  have hv:Vis X.env.scope x:=by
   rcases S.free _ hm rfl with z|z
   ·exact .inr (.inl z)
   ·exact .inr (.inr z)
  obtain⟨m0,_,hl⟩:=I.loc
  obtain⟨u,r,l⟩:=hl j x v n1 q2 hv
  refine⟨u,r,?_⟩
  have hne:¬X.env.kindOf x=some .local:=fun z=>by
   have z:X.env.scope.names.lookup x=some .local:=z
   rcases S.free _ hm rfl with y|y
   ·rw[y] at z;cases z
   ·rw[y] at z;cases z
  rcases l with⟨k,_⟩|⟨k,c,e,z⟩
  ·exact absurd k hne
  ·obtain⟨c',hc'⟩:=aM7 (env:=X.env) (x:=x) scope.names [] (.inl hm)
   have hc'':=cOf x c' hc'
   rw[e] at hc''
   cases hc''
   have kk:(cI X N' scope C s₂ H₂ fp).env.kindOf x=some .cell\/(cI X N' scope C s₂ H₂ fp).env.kindOf x=some .free:=by
    rcases e3 with y|y|y
    ·exfalso
     have:∀{names:List (Str×NameKind)},names.lookup x=some .free ->
      (names.map fun(n,k)=>if (k==NameKind.free&&X.env.scope.kind == .function&&X.env.kindOf n==some .cell) then (n,NameKind.cell) else (n,k)).lookup x=some .local->False:=by
      intro names
      induction names with
      |nil=>intro a;simp at a
      |cons p r ih =>
       obtain⟨n,k⟩:=p
       intro a b
       simp only[List.map_cons] at b
       simp only[List.lookup_cons] at a
       cases hx:x==n with
       |true =>
        rw[hx] at a
        simp only[Option.some.injEq] at a
        subst a
        split at b
        ·simp[List.lookup_cons,hx] at b
        ·simp[List.lookup_cons,hx] at b
       |false =>
        rw[hx] at a
        split at b
        ·simp only[List.lookup_cons,hx] at b;exact ih a b
        ·simp only[List.lookup_cons,hx] at b;exact ih a b
     exact this n2 y
    ·exact .inl y
    ·exact .inr y
   obtain⟨oc,ho,hod⟩:=z
   exact .inr ⟨kk,c,hc',oc,old _ _ ho,hod⟩
 ·obtain⟨v,o,ho,hod⟩:=I.cell x c (cOf x c e)
  exact⟨v,o,old _ _ ho,hod⟩
 ·have hp:p∈[(D,ob)]:=hp
  have e:p=(D,ob):=by simpa using hp
  subst e
  refine⟨hob,fr D hD,hDC,fun hb=>?_,hd⟩
  have hb:D∈frs X.stack:=hb
  rcases az.mp (I.stkSub D hb) with z|z
  ·exact absurd I.lt (by rw[<-z];exact vm.mpr hD)
  ·exact I.nofs hD z
 ·show(aB6 ix σ).length=N'.length
  unfold aB6
  rw[ac,S.len]
def aL8(I:aV X pins σ H₂ s₂)(hf:∀b∈fp,oM X pins H₂ b){pins':List (Addr×Obj)}{σ':St}{H':Hp}{s':Shared}{D:Addr}{ys:List V}{its:List Value}(hC:s₂.heap.objs.size<=C)(hD:s₂.heap.objs.size<=D)
  (J:aV (cI X N' scope C s₂ H₂ fp) pins' σ' H' s') (hn:H' D=none) (hl:s'.heap.PlainList D its.toArray) (r:bC ys its) (hz:ys.length<=sizeLine):aV X pins σ (aN H' D (.lst ys)) s':=by
 have sb:Un (frs X.stack) fp H₂ H' s₂.heap s'.heap:=J.base
 have nD:∀b u,H' b=some u->b≠D:=fun b u e=>aM e hn
 refine I.call' (ch:=fp) J.os ⟨sb.keep,sb.slot,fun b o e n hx=>?_,sb.there,fun b xs e=>?_,fun b o u e=>?_,fun b ps e=>?_⟩ (fun b u e=>?_) J.bare (fun b hb=>?_)
 ·rw[aH (bv (bn (aw e) hD))]
  exact sb.free b o e n hx
 ·have q:=sb.tups b xs e
  rw[aH (nD b _ q)];exact q
 ·have q:=sb.frzs b o u e
  rw[aH (nD b _ q)];exact q
 ·obtain⟨more,q⟩:=sb.tbls b ps e
  exact⟨more,by rw[aH (nD b _ q)];exact q⟩
 ·by_cases hb:b=D
  ·subst hb
   rw[aD] at e
   cases e
   obtain⟨n,hg⟩:=hl
   exact⟨hz,its,n,r,hg⟩
  ·rw[aH hb] at e
   exact(J.hok b u e).stay (fun c v _ q=>q) (fun c q=>by rw[aH (nD c _ q)];exact q) fun c xs q=>by rw[aH (nD c _ q)];exact q
 ·obtain⟨_,f1,_,f3,f4,f5⟩:=hf b hb
  exact⟨f3,f1,f4,f5⟩
end
def mG(J:It)(g:TG)(tc:TT)(te:TE)(Kf:List V->Hp->Prop)(σ0:St)(H1:Hp):Prop:=
 ∃W:Nat->Nat->List V->St->Hp->Prop,(∃m,W 0 m [] σ0 H1)/\∀i m ys σ' H',W i m ys σ' H'->ys.length<sizeLine /\
  ((J.stop i H'/\Kf ys H')\/(J.go i H'/\∃N:List V->St->Hp->Prop,(∀ys' σ2 H2,N ys' σ2 H2->∃m',m'<m/\W (i+1) m' ys' σ2 H2)/\∀x H'',J.yld i H' x H''->g x σ' H'' fun σ2 H2=>tc σ2 H2 fun b H3 =>
   if b=true then te σ2 H3 fun y H4=>N (ys++[y]) σ2 H4 else N ys σ2 H3))
def bU4(wi:TI)(ix:List (Option Nat))(g:TG)(tc:TT)(te:TE):TE:=fun σ H Q =>
 wi σ H fun J H1=>mG J g tc te (fun ys H'=>∀l,H' l=none->Q (.ref l) (aN H' l (.lst ys))) (aB6 ix σ) H1
section
variable {X:Cx}{tg elt iter:Expr}{ifs:List Expr}{scope:Scope}{pos:Pos}{N':List Str}{ix:List (Option Nat)}{wi:TI}{g:TG}{tc:TT}{te:TE}
def bP4(X:Cx)(pins:List (Addr×Obj))(σ:St)(Kf:List V->Hp->Prop)(acc:Value)(C:Addr)(s':Shared):Prop:=
 ∃D H' ys,acc= .ref D/\H' D=none/\aV X pins σ (aN H' D (.lst ys)) s'/\(∃m,s'.heap.Ns C m)/\H' C=none/\D≠C/\C≠X.env.locals/\X.s₀.heap.objs.size<=C/\(∀x c,X.env.cells.lookup x=some c->c≠C)/\(∀p∈X.pn++pins,p.1≠C)/\Kf ys H'
def vM{pins:List (Addr×Obj)}{s₂:Shared}{σ:St}{H₂:Hp}{it:Addr}{fp:List Addr}{tn:Nat->Heap->Prop}{J:It}{Kf:List V->Hp->Prop}{RR:Value->Addr->Result->Shared->Prop}{E:Value->Shared->Prop}
  (S:iA X.N X.env.scope scope N' ix) (hc:X.calm=true)
  (hg:∀C s₂ H₂ fp,PG (cI X N' scope C s₂ H₂ fp) tg g) (ht:∀C s₂ H₂ fp,aX3 (cI X N' scope C s₂ H₂ fp) ifs tc) (he:∀C s₂ H₂ fp,PE (cI X N' scope C s₂ H₂ fp) elt te)
  (I2:aV X pins σ H₂ s₂) (T:qL X.prog X.w X.K tg J fp it tn) (st2:tn 0 s₂.heap) (f2:∀b∈fp,oM X pins H₂ b) (w:mG J g tc te Kf (aB6 ix σ) H₂)
  (hR:∀acc C s',bP4 X pins σ Kf acc C s'->RR acc C (.ok .next) s') :
  wpAny (model X.prog X.w) X.A (newList []) (fun acc s₃=>wpAny (model X.prog X.w) X.A (newFunctionEnv scope X.env.globals (yJ X.env scope.names) [] X.env.qual none .none (some X.env)) (fun cenv s₄ =>
   codeAny (model X.prog X.w) X.A (.compStart (.ListComp elt [⟨tg,iter,ifs,0⟩] scope pos) 0 (.ref it) acc { cenv with scope:=relabel scope X.env }) (RR acc cenv.locals) s₄) E s₃) E s₂:=by
 obtain⟨W,⟨m0,w0⟩,turn⟩:=w
 refine fj (wpAny_newFunctionEnv S.nocell (by intro y hy;simp at hy) (fun h₁ nsN sbN=>?_) S.kind)
 dsimp only at nsN sbN ⊢
 generalize eH:s₂.heap.push { cls:= .type "list",dict:=none,data:= .seq ([]:List Value).toArray }=G2 at nsN sbN ⊢
 have sizeC:G2.objs.size=s₂.heap.objs.size+1:=by rw[<-eH,ip]
 have neDC:s₂.heap.objs.size≠G2.objs.size:=by rw[sizeC];exact bv (dz _)
 have leC:s₂.heap.objs.size<=G2.objs.size:=by rw[sizeC];exact ud _
 have older:∀b,b<s₂.heap.objs.size->b≠G2.objs.size/\b≠s₂.heap.objs.size:=fun b hb=>⟨by rw[sizeC];exact bv (vf hb),bv hb⟩
 have keepOld:∀b o,s₂.heap.get? b=some o->h₁.get? b=some o:=fun b o e=>sbN.extBut b o (older b (aw e)).1 (ah _ (eH ▸ ah _ e))
 have accNew:h₁.PlainList s₂.heap.objs.size #[]:=⟨_,sbN.extBut _ _ neDC (ah _ (eH ▸ be _ rfl))⟩
 generalize eC:G2.objs.size=C at *
 generalize eD:s₂.heap.objs.size=D at *
 have hfC:∀b∈fp,b<s₂.heap.objs.size:=fun b hb=>by
  obtain⟨o,e,_⟩:=T.obj 0 _ st2 b hb
  exact aw e
 have hfD:∀b∈fp,b≠D:=fun b hb=>by have:=hfC b hb;rw[eD] at this;exact bv this
 have hfC':∀b∈fp,b≠C:=fun b hb=>by have:=hfC b hb;rw[eD] at this;exact bv (bn this leC)
 have geD:s₂.heap.objs.size<=D:=by rw[eD];exact af _
 have geC:s₂.heap.objs.size<=C:=by rw[eD];exact leC
 obtain⟨nn,hob⟩:=id accNew
 have J1:aV (cI X N' scope C s₂ H₂ fp) [] (aB6 ix σ) H₂ { s₂ with heap:=h₁,toks:=s₂.toks+([]:List (Str×Value)).length }:=
  (aM4 S I2 f2 hfC geC geD neDC keepOld nsN hob (fun v z=>by cases z)).pins_of (fun p hp=>absurd hp (by simp))
 have nfsD:D∉frs X.stack:=fun hb=>by
  rcases az.mp (I2.stkSub D hb) with z|z
  ·exact absurd I2.lt (by rw[<-z];exact vm.mpr geD)
  ·exact I2.nofs geD z
 have cOf:∀x c,(yJ X.env scope.names).lookup x=some c->c≠D/\c≠C:=fun x c e=>by
  obtain⟨v,z⟩:=I2.cell x c (S.get I2 e)
  have:=z.lt
  rw[eD] at this
  exact⟨bv this,bv (bn this leC)⟩
 have fpk:∀{pl:List (Addr×Obj)}{H':Hp},(∀b∈fp,H' b=none)->(∀p∈pl,p.1∉fp)->∀b∈fp,oM (cI X N' scope C s₂ H₂ fp) pl H' b:=fun {pl H'} hn hp b hb =>
  ⟨hn b hb,hfC' b hb,fun z=>by
    rcases az.mp (I2.stkSub b z) with q|q
    ·exact(f2 b hb).2.1 q
    ·exact(f2 b hb).2.2.1 q,
   .inl hb,fun x c e=>(f2 b hb).2.2.2.2.1 x c (S.get I2 e),fun p hp' z=>hp p (by simpa [cI] using hp') (by rw[z];exact hb)⟩
 have dpk:∀{H':Hp},H' D=none->∀b∈[D],oM (cI X N' scope C s₂ H₂ fp) [] H' b:=fun {H'} hn b hb=>by
  have e:b=D:=by simpa using hb
  subst e
  exact⟨hn,neDC,nfsD,.inr geD,fun x c e=>(cOf x c e).1,fun p hp=>absurd hp (by simp[cI])⟩
 have loop:codeAny (model X.prog X.w) X.A (.compLoop (.ListComp elt [⟨tg,iter,ifs,0⟩] scope pos) 0 (.ref it) (.ref D) (compEnvC scope (yJ X.env scope.names) C X.env)) (RR (.ref D) C) { s₂ with heap:=h₁,toks:=s₂.toks+([]:List (Str×Value)).length }:=by
  refine aU2 (fun n s'=>∃i ys σ' H' its,aV (cI X N' scope C s₂ H₂ fp) [] σ' H' s'/\tn i s'.heap/\(∀b∈fp,H' b=none)/\H' D=none/\s'.heap.PlainList D its.toArray/\bC ys its/\W i n ys σ' H') ?_ m0
   ⟨0,[],_,H₂,[],J1,T.keep _ _ _ st2 fun b _ o e=>keepOld b o e,fun b hb=>(f2 b hb).1,I2.hok.fresh geD,accNew,.nil,w0⟩
  rintro n s3 ⟨i,ys,σ3,H3,its,I3,st3,fr3,dn3,pl3,rv3,w3⟩
  obtain⟨nn3,hob3⟩:=id pl3
  have oD:∀b∈[D],∃o,s3.heap.get? b=some o/\∀v,o.data≠ .cell v:=fun b hb=>by
   have e:b=D:=by simpa using hb
   subst e
   exact⟨_,hob3,fun v z=>by cases z⟩
  have I3':aV (cI X N' scope C s₂ H₂ fp) (hZ [D] s3.heap) σ3 H3 s3:=by
   have:=I3.pinned (dpk dn3) oD
   simpa using this
  have pD:(D,({ cls:= .type "list",data:= .seq its.toArray nn3 }:Obj))∈hZ [D] s3.heap:=iC (by simp) hob3
  have npD:∀p∈hZ [D] s3.heap,p.1∉fp:=fun p hp z=>by
   have e:p.1=D:=by simpa using (xC hp).1
   exact hfD _ z e
  obtain⟨hys,tt⟩:=turn i n ys σ3 H3 w3
  rcases tt with⟨stop,qn⟩|⟨go,N,hN,step⟩
  ·refine ft (T.done (cI X N' scope C s₂ H₂ fp) rfl rfl rfl hc i (hZ [D] s3.heap) s3 σ3 H3 (fun _ _=>False) I3' (fpk fr3 npD) st3 stop) (fun r s4 ⟨hr,I4⟩=>?_) fun _ _ z=>z
   subst hr
   have g4:=(I4.pin _ (cg _ pD)).1
   refine hR _ _ _ ⟨D,H3,ys,rfl,dn3,aL8 I2 f2 geC geD I4 dn3 ⟨nn3,g4⟩ rv3 (fi hys),?_,?_,neDC,?_,?_,?_,?_,qn⟩
   ·obtain⟨m,hm,_⟩:=I4.loc
    exact⟨m,hm⟩
   ·exact I4.free
   ·exact jj (bn I2.lt geC)
   ·exact ay I2.sz geC
   ·intro x c e z
    obtain⟨v,q⟩:=I2.cell x c e
    exact absurd (bn q.lt geC) (by rw[z];exact gy _)
   ·intro p hp z
    exact absurd (bn (aw (I2.pin p hp).1) geC) (by rw[z];exact gy _)
  ·refine ft (T.item (cI X N' scope C s₂ H₂ fp) rfl rfl rfl hc i (hZ [D] s3.heap) s3 σ3 H3 (fun _ _=>False) I3' (fpk fr3 npD) st3 go) (fun r s4 ⟨u,hr,h4⟩=>?_) fun _ _ z=>z
   subst hr
   refine ft h4 (?_) fun _ _ z=>z;rintro _ s5 ⟨x,H5,I5,r5,y5,st5,fr5⟩
   have I5':=I5.pinned (fpk fr5 npD) (T.obj _ _ st5)
   refine ft (hg C s₂ H₂ fp _ s5 σ3 H5 x u _ I5' r5 (step x H5 y5)) (?_) fun _ _ z=>z;rintro _ s6 ⟨σ6,H6,I6,q6⟩
   refine ft (ht C s₂ H₂ fp _ s6 σ6 H6 _ I6 q6) (?_) fun _ _ z=>z;rintro b s7 ⟨H7,I7,q7⟩
   have fin:∀{s8:Shared}{σ8:St}{H8:Hp},aV (cI X N' scope C s₂ H₂ fp) (hZ [D] s3.heap++hZ fp s5.heap) σ8 H8 s8->s8.heap.get? D=some { cls:= .type "list",data:= .seq its.toArray nn3 }/\H8 D=none /\
     tn (i+1) s8.heap/\∀b∈fp,H8 b=none:=fun {s8 σ8 H8} I8=>by
    have q:=I8.pin _ (cg _ (dw _ pD))
    refine⟨q.1,q.2.1,T.keep _ _ _ st5 fun b hb o e=>(I8.pin (b,o) (cg _ (cg _ (iC hb e)))).1,fun b hb=>?_⟩
    obtain⟨o,e,d⟩:=T.obj _ _ st5 b hb
    exact(I8.pin (b,o) (cg _ (cg _ (iC hb e)))).2.1
   cases b with
   |false =>
    obtain⟨m',hm,w7⟩:=hN _ _ _ q7
    obtain⟨a1,a2,a3,a4⟩:=fin I7
    exact⟨m',hm,i+1,ys,σ6,H7,its,I7.pins_of fun p hp=>absurd hp (by simp),a3,a4,a2,⟨nn3,a1⟩,rv3,w7⟩
   |true =>
    refine ft (he C s₂ H₂ fp _ s7 σ6 H7 _ I7 q7) (?_) fun _ _ z=>z;rintro v s8 ⟨y,H8,I8,r8,n8⟩
    obtain⟨m',hm,w8⟩:=hN _ _ _ n8
    obtain⟨a1,a2,a3,a4⟩:=fin I8
    have hsz:its.toArray.size<=sizeLine:=by
     have:=rv3.length
     rw[bf]
     lia
    refine wpAny_list_append_plain (hsz:=hsz) ⟨nn3,a1⟩ fun h9 hl9 hs9=>?_
    have I9:aV (cI X N' scope C s₂ H₂ fp) [] σ6 H8 { s8 with heap:=h9 }:=
     (I8.pins_of (pins':=[]) fun p hp=>absurd hp (by simp)).turned (t':=s8.toks) (fun b o hb e=>(hs9.2 b hb).trans e) a2 neDC (.inr geD) (fun x c e=>(cOf x c e).1) fun p hp=>absurd hp (by simp[cI])
    refine⟨m',hm,i+1,ys++[y],σ6,H8,its++[v],I9,T.keep _ _ _ a3 fun b hb o e=>(hs9.2 b (hfD b hb)).trans e,a4,a2,?_,rv3.append (.cons r8 .nil),w8⟩
    have e:(its++[v]).toArray=its.toArray.push v:=by simp
    rw[e];exact hl9
 exact codeAny_compStart_list loop (T.self _ 0 _ _ _ (T.keep _ _ _ st2 fun b _ o e=>keepOld b o e) loop)
def fE(N':List Str)(ix:List (Option Nat))(hi:PI X tg iter wi)(hg:∀C s₂ H₂ fp,PG (cI X N' scope C s₂ H₂ fp) tg g)(ht:∀C s₂ H₂ fp,aX3 (cI X N' scope C s₂ H₂ fp) ifs tc)
  (he:∀C s₂ H₂ fp,PE (cI X N' scope C s₂ H₂ fp) elt te) (S:yE X.N X.env.scope scope N' ix=true:=by rfl) (hc:X.calm=true:=by rfl) (hs:∀x,foldedSetIterable iter X.env x=pure x:=by intro _;rfl) :
  PE X (.ListComp elt [⟨tg,iter,ifs,0⟩] scope pos) (bU4 wi ix g tc te):=by
 intro pins s σ H Q I h
 have S:=iA.of S
 rw[eval_ListComp]
 refine vx (use:=none) (cl:=yJ X.env scope.names) rfl hs (tT fun y hy e=>I.ok.has y.1 (S.free y hy e)) S.kind S.loc (cW (hi pins s σ H _ I h) fun xv s₁ h₁=>cW h₁ fun itv s₂ h₂=>?_)
 obtain⟨it,fp,tn,J,H₂,rfl,I2,T,st2,f2,w⟩:=h₂
 refine vM (RR:=fun acc C=>compPost (model X.prog X.w) X.A X.xe none (EP X pins σ Q) acc C) S hc hg ht he I2 T st2 f2 w fun acc C s' ce=>?_
 obtain⟨D,H',ys,rfl,dn,J',hm,cn,dc,c1,c2,c3,c4,kf⟩:=ce
 obtain⟨m,hm⟩:=hm
 refine⟨m,hm,fun h' hs'=>⟨.ref D,_,J'.turned (t':=s'.toks) (fun b o hb e=>(hs'.2 b hb).trans e) (by rw[aH dc.symm];exact cn) c1 (.inr c2) c3 c4,rfl,kf D dn⟩⟩
def yC(N':List Str)(ix:List (Option Nat)){i:Nat}{x:Str}{pos' spos:Pos}(hN:X.N.Nodup)(hxi:X.N[i]?=some x)(hx:Loc X.env.scope x)(hi:PI X tg iter wi)(hg:∀C s₂ H₂ fp,PG (cI X N' scope C s₂ H₂ fp) tg g)(ht:∀C s₂ H₂ fp,aX3 (cI X N' scope C s₂ H₂ fp) ifs tc)
  (he:∀C s₂ H₂ fp,PE (cI X N' scope C s₂ H₂ fp) elt te) (S:yE X.N X.env.scope scope N' ix=true:=by rfl) (hc:X.calm=true:=by rfl) (hs:∀x,foldedSetIterable iter X.env x=pure x:=by intro _;rfl)
  (hsw:swapsWith (.ListComp elt [⟨tg,iter,ifs,0⟩] scope pos) (some (.Name x pos')) spos.line X.env=pure true:=by rfl) (hf:X.fn x=true\/X.env.scope.names.lookup x=some .local:=by first|exact .inl rfl|exact .inr rfl|assumption) :
  PS X (.Assign [.Name x pos'] (.ListComp elt [⟨tg,iter,ifs,0⟩] scope pos) spos) (bF9 (bU4 wi ix g tc te) (xB i)):=by
 intro pins s σ H D I h
 have S:=iA.of S
 rw[exec_Assign_Name_used _ _ _ _ hsw]
 refine aa (uv (aa ?_))
 show wpAny _ X.A (do let _ <-comprehension (.ListComp elt [⟨tg,iter,ifs,0⟩] scope pos) scope X.env _ (newList []) false (eval iter X.env) (some (assign (.Name x pos') X.env))) _ _ s
 refine aa (ft (vx (use:=some (assign (.Name x pos') X.env)) (cl:=yJ X.env scope.names) (Q:=fun _ s'=>SP X pins D .next s') rfl hs (tT fun y hy e=>I.ok.has y.1 (S.free y hy e)) S.kind S.loc
  (cW (hi pins s σ H _ I h) fun xv s₁ h₁=>cW h₁ fun itv s₂ h₂=>?_)) (fun _ s' hq=>am (am hq)) fun _ _ e=>e)
 obtain⟨it,fp,tn,J,H₂,rfl,I2,T,st2,f2,w⟩:=h₂
 refine vM (RR:=fun acc C=>compPost (model X.prog X.w) X.A X.xe (some (assign (.Name x pos') X.env)) (fun _ s'=>SP X pins D .next s') acc C) S hc hg ht he I2 T st2 f2 w fun acc C s' ce=>?_
 obtain⟨D',H',ys,rfl,dn,J',hm,cn,dc,c1,c2,c3,c4,kf⟩:=ce
 obtain⟨m,hm⟩:=hm
 show wpAny _ X.A (assign (.Name x pos') X.env (.ref D')) _ _ _
 refine wpAny_assign_Name (wK (v:= .ref D') J' hN hxi hx rfl (fun s2 J2 hsb=>?_) hf)
 obtain⟨a,hsb,ha⟩:=hsb
 have hCa:C≠a:=by
  rcases ha with z|z
  ·rw[z];exact c1
  ·exact(c3 x a z).symm
 refine⟨m,hm.sameBut hsb hCa,fun h' hs'=>?_⟩
 exact⟨_,_,J2.turned (t':=s2.toks) (fun b o hb e=>(hs'.2 b hb).trans e) (by rw[aH dc.symm];exact cn) c1 (.inr c2) c3 c4,kf D' dn⟩
def pG{K:PySem.W.Frag}{a:Addr}{xs:List V}{Kf:List V->Hp->Prop}{σ0:St}{H1:Hp}(Pv:Nat->List V->St->Hp->Prop)(hz:xs.length<sizeLine)(h0:Pv 0 [] σ0 H1)(hb:∀i ys σ H,Pv i ys σ H->ys.length<=i)(hl:∀i ys σ H,i<=xs.length->Pv i ys σ H->bR K H a xs)
  (hs:∀i x ys σ H,xs[i]?=some x->Pv i ys σ H->g x σ H fun σ2 H2=>tc σ2 H2 fun b H3=>if b=true then te σ2 H3 fun y H4=>Pv (i+1) (ys++[y]) σ2 H4 else Pv (i+1) ys σ2 H3) (hd:∀ys σ H,Pv xs.length ys σ H->Kf ys H):mG (Itl K a) g tc te Kf σ0 H1:=by
 refine⟨fun i m ys σ H=>m=xs.length-i/\i<=xs.length/\Pv i ys σ H,⟨xs.length,by simp,bi _,h0⟩,?_⟩
 rintro i m ys σ H ⟨rfl,hi,p⟩
 have q:=hl i ys σ H hi p
 refine⟨cm (hb _ _ _ _ p) (cm hi hz),?_⟩
 by_cases hlt:i<xs.length
 ·refine .inr ⟨⟨xs,xs[i],q,by simp[hlt]⟩,Pv (i+1),fun ys' σ' H' p'=>⟨xs.length-(i+1),fw hlt (dz i),rfl,hlt,p'⟩,fun x H' y=>?_⟩
  obtain⟨e,y⟩:=y
  subst e
  exact hs i x ys σ _ (y xs q) p
 ·have e:i=xs.length:=by lia
  subst e
  exact .inl ⟨⟨xs,q,af _⟩,hd ys σ H p⟩
def uB{K:PySem.W.Frag}{a:Addr}{xs:List V}{Kf:List V->Hp->Prop}{σ0:St}{H1:Hp}(Pv:Nat->List V->St->Hp->Prop)(hz:xs.length<sizeLine)(h0:Pv 0 [] σ0 H1)(hb:∀i ys σ H,Pv i ys σ H->ys.length<=i)(hl:∀i ys σ H,i<=xs.length->Pv i ys σ H->aT K H a xs)
  (hs:∀i x ys σ H,xs[i]?=some x->Pv i ys σ H->g x σ H fun σ2 H2=>tc σ2 H2 fun b H3=>if b=true then te σ2 H3 fun y H4=>Pv (i+1) (ys++[y]) σ2 H4 else Pv (i+1) ys σ2 H3) (hd:∀ys σ H,Pv xs.length ys σ H->Kf ys H):mG (Itt K a) g tc te Kf σ0 H1:=by
 refine⟨fun i m ys σ H=>m=xs.length-i/\i<=xs.length/\Pv i ys σ H,⟨xs.length,by simp,bi _,h0⟩,?_⟩
 rintro i m ys σ H ⟨rfl,hi,p⟩
 have q:=hl i ys σ H hi p
 refine⟨cm (hb _ _ _ _ p) (cm hi hz),?_⟩
 by_cases hlt:i<xs.length
 ·refine .inr ⟨⟨xs,xs[i],q,by simp[hlt]⟩,Pv (i+1),fun ys' σ' H' p'=>⟨xs.length-(i+1),fw hlt (dz i),rfl,hlt,p'⟩,fun x H' y=>?_⟩
  obtain⟨e,y⟩:=y
  subst e
  exact hs i x ys σ _ (y xs q) p
 ·have e:i=xs.length:=by lia
  subst e
  exact .inl ⟨⟨xs,q,af _⟩,hd ys σ H p⟩
def fV{lo:Int}{n:Nat}{Kf:List V->Hp->Prop}{σ0:St}{H1:Hp}(Pv:Nat->List V->St->Hp->Prop)(hz:n<sizeLine)(h0:Pv 0 [] σ0 H1)(hb:∀i ys σ H,Pv i ys σ H->ys.length<=i)
  (hs:∀i ys σ H,i<n->Pv i ys σ H->g (.int (lo+i)) σ H fun σ2 H2=>tc σ2 H2 fun b H3=>if b=true then te σ2 H3 fun y H4=>Pv (i+1) (ys++[y]) σ2 H4 else Pv (i+1) ys σ2 H3) (hd:∀ys σ H,Pv n ys σ H->Kf ys H):mG (Itr lo n) g tc te Kf σ0 H1:=by
 refine⟨fun i m ys σ H=>m=n-i/\i<=n/\Pv i ys σ H,⟨n,by simp,bi _,h0⟩,?_⟩
 rintro i m ys σ H ⟨rfl,hi,p⟩
 refine⟨cm (hb _ _ _ _ p) (cm hi hz),?_⟩
 by_cases hlt:i<n
 ·refine .inr ⟨hlt,Pv (i+1),fun ys' σ' H' p'=>⟨n-(i+1),fw hlt (dz i),rfl,hlt,p'⟩,fun x H' y=>?_⟩
  obtain⟨e,y⟩:=y
  subst e y
  exact hs i ys σ _ hlt p
 ·have e:i=n:=by lia
  subst e
  exact .inl ⟨af _,hd ys σ H p⟩
end
section
variable {prog:Program}{w:World}{A:Around}{E:Value->Shared->Prop}{Q:Value->Shared->Prop}{s:Shared}{it p:Addr}{items:Array Value}
end
def cT4(i j:Int):Prop:=0<j/\j<2^250
def nZ{X:Cx}:kM X (binaryOp .FloorDiv) (rI cT4 fun i j=> .int (i / j)):=opI fun i j _ _ _ _ _ hc q=>by
 obtain⟨h0,h1⟩:=hc
 refine floordiv_int (by lia) ?_ (.inl (vy ?_))
 ·rw[uy i (by lia)];exact q
 ·have h2:j.natAbs<2^250:=by
   have e:((j.natAbs:Nat):Int)=j:=yt (by lia)
   have:((j.natAbs:Nat):Int)<((2^250:Nat):Int):=by rw[e];exact_mod_cast h1
   exact Int.ofNat_lt.mp this
  have h3:j.natAbs≠0:=by lia
  have h4:j.natAbs.log2<250:=(Nat.log2_lt h3).mpr h2
  exact bn h4 (by decide)
def Out(d l:Addr)(H H':Hp):Prop:=∀b o,H b=some o->b≠d->b≠l->H' b=some o
def Out.refl{d l:Addr}(H:Hp):Out d l H H:=fun _ _ e _ _=>e
def Out.trans{d l:Addr}{H H1 H2:Hp}(a:Out d l H H1)(b:Out d l H1 H2):Out d l H H2:=fun c o e h1 h2=>b c o (a c o e h1 h2) h1 h2
def Out.of{d l:Addr}{H H':Hp}(s:aR H H'):Out d l H H':=fun c o e _ _=>s c o e
def Out.upd_d{d l:Addr}{H:Hp}{o:HO}:Out d l H (aN H d o):=fun b u e h1 _=>by rw[aH h1];exact e
def Out.upd_l{d l:Addr}{H:Hp}{o:HO}:Out d l H (aN H l o):=fun b u e _ h1=>by rw[aH h1];exact e
def aC{H:Hp}{p:Addr}(h:H p=none)(o:HO):aR H (aN H p o):=fun b u q=>by rw[aH (aM q h)];exact q
def lE{ns:List Int}{i:Nat}{y:V}(h:(ns.map V.int)[i]?=some y):∃z,y=V.int z/\ns[i]?=some z:=by
 rw[df] at h
 cases e:ns[i]? with
 |none=>rw[e] at h;cases h
 |some z=>rw[e] at h;exact⟨z,(cq h).symm,rfl⟩
mutual
def pL(K:PySem.W.Frag)(H:Hp):PyData->V->Prop
 |.none,v=>v= .non
 |.bool b,v=>v= .bl b
 |.int i,v=>v= .int i
 |.str x,v=>v= .str x
 |.tuple ds,v=>∃a vs,v= .ref a/\aT K H a vs/\rR K H ds vs
 |.list ds,v=>∃a vs,v= .ref a/\bR K H a vs/\rR K H ds vs
 |.dict _,_=>False
def rR(K:PySem.W.Frag)(H:Hp):List PyData->List V->Prop
 |[],vs=>vs=[]
 |d::ds,vs=>∃v r,vs=v::r/\pL K H d v/\rR K H ds r
end
section
variable {X:Cx}{pins:List (Addr×Obj)}{σ:St}{H:Hp}{s:Shared}
mutual
def pL.reads(I:aV X pins σ H s):∀(d:PyData) (v:V) (u:Value),pL X.K H d v->bF v u->∃as,Reads s.heap u d as
 |.none,v,u,h,r=>by
  have h:v= .non:=h
  subst h;cases r;exact⟨_,.none⟩
 |.bool b,v,u,h,r=>by
  have h:v= .bl b:=h
  subst h;cases r;exact⟨_,.bool b⟩
 |.int i,v,u,h,r=>by
  have h:v= .int i:=h
  subst h;obtain⟨t,rfl⟩:=r;exact⟨_,.int i t⟩
 |.str x,v,u,h,r=>by
  have h:v= .str x:=h
  subst h;obtain⟨t,rfl⟩:=r;exact⟨_,.str x t⟩
 |.tuple ds,v,u,h,r=>by
  obtain⟨a,vs,rfl,hs,hl⟩:=h
  cases r
  obtain⟨its,rv,⟨o,ho,hc,n,hd⟩,_⟩:=I.tuple hs
  obtain⟨as,ra⟩:=rR.reads I ds vs its hl rv
  exact⟨_,.tuple ho hc hd (by simpa using ra)⟩
 |.list ds,v,u,h,r=>by
  obtain⟨a,vs,rfl,hs,hl⟩:=h
  cases r
  obtain⟨its,rv,pl,_⟩:=I.list hs
  obtain⟨o,ho,hc,n,hd⟩:=pl.isList
  obtain⟨as,ra⟩:=rR.reads I ds vs its hl rv
  exact⟨_,.list ho hc hd (by simpa using ra)⟩
 |.dict _,v,u,h,r=>h.elim
def rR.reads(I:aV X pins σ H s):∀(ds:List PyData) (vs:List V) (us:List Value),rR X.K H ds vs->bC vs us->∃as,ReadsAll s.heap us ds as
 |[],vs,us,h,r=>by
  have h:vs=[]:=h
  subst h;cases r;exact⟨_,.nil⟩
 |d::ds,vs,us,h,r=>by
  obtain⟨v,t,rfl,hd,ht⟩:=h
  cases r with
  |cons r1 r2 =>
   obtain⟨as,ra⟩:=pL.reads I d v _ hd r1
   obtain⟨bs,rb⟩:=rR.reads I ds t _ ht r2
   exact⟨_,.cons ra rb⟩
end
end
section
variable {X:Cx}
def cP3(K:PySem.W.Frag)(neg:Bool):R2:=fun x y H Q=>∃d e,pL K H d x/\pL K H e y/\SeqAt.shaped d=true/\SeqAt.shaped e=true/\SeqAt.noMix d e=true/\Q (.bl (if neg then !Spec.same d e else Spec.same d e)) H
def bA5{k:Nat}(hr:dE k X.A):kM X (compareOp .NotEq) (cP3 X.K true):=by
 intro pins s σ H x y v u Q I rx ry h
 obtain⟨d,e,hd,he,sd,se,mx,q⟩:=h
 obtain⟨as,ra⟩:=pL.reads I d x v hd rx
 obtain⟨bs,rb⟩:=pL.reads I e y u he ry
 exact ne_dataH_same ra rb sd se hr.units mx ⟨.bl _,H,I,rfl,q⟩
def vD{K:PySem.W.Frag}{H:Hp}:∀ns:List Int,rR K H (ns.map PyData.int) (ns.map V.int)
 |[]=>rfl
 |n::r=>⟨_,_,rfl,rfl,vD r⟩
def aD0:∀ns:List Int,PyData.canLayAll0 (ns.map PyData.int)=true
 |[]=>rfl
 |_::r=>by simp[PyData.canLayAll0,PyData.canLay0,aD0 r]
def tQ:∀ns:List Int,PyData.depthAll (ns.map PyData.int)=0
 |[]=>rfl
 |_::r=>by simp[PyData.depthAll,PyData.depth,tQ r]
def tH:∀ns ms:List Int,SeqAt.noMixAll (ns.map PyData.int) (ms.map PyData.int)=true
 |[],[]=>rfl
 |[],_::_=>rfl
 |_::_,[]=>rfl
 |_::r,_::t=>by simp[SeqAt.noMixAll,SeqAt.noMix,tH r t]
def jG:∀ns ms:List Int,Spec.sameAll (ns.map PyData.int) (ms.map PyData.int)=decide (ns=ms)
 |[],[]=>by simp[Spec.sameAll]
 |[],_::_=>by simp[Spec.sameAll]
 |_::_,[]=>by simp[Spec.sameAll]
 |a::r,b::t=>by
  simp only[List.map_cons,Spec.sameAll,Spec.same,jG r t]
  by_cases h:a=b<;>by_cases h':r=t<;>simp[h,h']
def fK:eU X (.builtin "isinstance") (fun xs H Q=>∃x n t b,xs=[x,.ty n]/\pM X.K H x t/\PySem.W.kitOne X.K t (.type n)=some b/\Q (.bl b) H):=by
 intro pins s σ H xs us Q I r h
 obtain⟨x,n,t,b,rfl,ty,e,q⟩:=h
 obtain⟨u,w',rfl,ru,rw'⟩:=aN0 r
 cases rw'
 exact aS2 I ru ty e fun tk=>⟨.bl b,H,I.tok tk,rfl,q⟩
end
section
variable {X:Cx}(K:PySem.W.Frag)
def cV2(hK:X.K=K:=by rfl):eU X (.builtin "len") (fun xs H Q=>∃p ys,xs=[.ref p]/\(bR K H p ys\/aT K H p ys)/\Q (.int ys.length) H):=by subst hK;exact cC
def cX0(hK:X.K=K:=by rfl):IxR X (cT1 K):=by subst hK;exact dC
def bB1(hK:X.K=K:=by rfl):IxR X (cK6 K):=by subst hK;exact aG
def inK(hK:X.K=K:=by rfl):kM X (compareOp .In) (rIn K false):=by subst hK;exact fU
def cY2(hK:X.K=K:=by rfl):kM X (compareOp .NotIn) (rIn K true):=by subst hK;exact nM
end
def bW{c A B:Prop}[Decidable c](hc:c)(h:A):if c then A else B:=by rw[ao hc];exact h
def bJ{c A B:Prop}[Decidable c](hc:¬c)(h:B):if c then A else B:=by rw[ai hc];exact h
def at0{α:Type}(v:α)(r:List α):mM (v::r) 0=some v:=by
 have h:(0:Int)<((v::r).length:Int):=by simp
 unfold mM ixN
 rw[ao (by decide),ao h]
 rfl
def aU(lo:Int)(n:Nat):List Int:=(List.range n).map fun(i:Nat)=>lo+(i:Int)
def bS(lo:Int)(n:Nat):(aU lo n).length=n:=by simp[aU]
def cD(lo:Int)(n:Nat):aU lo (n+1)=aU lo n++[lo+n]:=by simp[aU,List.range_succ]
def aI0{lo:Int}{n i:Nat}(h:i<n):(aU lo n)[i]?=some (lo+i):=by
 unfold aU
 rw[df,List.getElem?_range h]
 rfl
def eQ{lo z:Int}{n:Nat}:z∈aU lo n↔lo<=z/\z<lo+n:=by
 unfold aU
 rw[ci]
 constructor
 ·rintro⟨i,hi,rfl⟩
  have:=yc.mp hi
  lia
 ·rintro⟨h1,h2⟩
  exact⟨(z-lo).toNat,yc.mpr (by lia),by lia⟩
section
variable {X:Cx}
def cJ3{es:List Expr}{k:Nat}{t:TGs}{n:Nat}{pos:Pos}(K:PySem.W.Frag)(hc:X.calm=true)(h:PGs X es t)(hK:X.K=K:=by rfl)
  (hn:(assignEach es X.env).length=n:=by rfl) (hst:(assignEach es X.env).findIdx? (·.1)=none:=by rfl):PG X (.Tuple es k pos) (cM4 K n t):=by subst hK;exact kC hc h hn hst
def cY0{k:Nat}(K:PySem.W.Frag)(hr:dE k X.A)(hK:X.K=K:=by rfl):kM X (compareOp .NotEq) (cP3 K true):=by subst hK;exact bA5 hr
end
def aB5(i:Int):Prop:= -(2^250)<i/\i<2^250
def cP7(i j:Int):Prop:=aB5 i/\aB5 j
def aB5.bits{i:Int}(h:aB5 i):Builtin.Int.intBits i<=2^20:=by
 have h1:i.natAbs<2^250:=by
  have:=h.1;have:=h.2;lia
 exact ay (oy h1) (by decide)
def iO{X:Cx}:kM X (binaryOp .Mult) (rI cP7 fun i j=> .int (i*j)):=opI fun _ _ _ _ _ _ _ hc q=>mul_int q (IntMulOk.of_bits hc.1.bits hc.2.bits)
section
variable {X:Cx}
end
def pS(a b:Int):PyData:= .tuple [.int a,.int b]
def sI{K:PySem.W.Frag}{H:Hp}{p:Addr}{a b:Int}(h:H p=some (.tup [.int a,.int b])):pL K H (pS a b) (.ref p):=⟨p,_,rfl,aT.of h,_,_,rfl,rfl,_,_,rfl,rfl,rfl⟩
section
variable {X:Cx}{pins:List (Addr×Obj)}{σ:St}{H:Hp}{s:Shared}{h':Heap}
def aV.turnedNew{T:Addr}{o:HO}{rs:List Addr}{t':Nat}(I:aV X pins σ H s)(hf:∀b∈rs,oM X pins H b)(k:∀b u,b∉rs->s.heap.get? b=some u->h'.get? b=some u)
  (hp:s.heap.objs.size<=T) (new:bZ X.prog X.w (aN H T o) h' T o):aV X pins σ (aN H T o) { s with heap:=h',toks:=t' }:=by
 have fT:H T=none:=I.hok.fresh hp
 have nT:∀b u,s.heap.get? b=some u->b≠T:=fun b u e z=>absurd (aw e) (by rw[z];exact vm.mpr hp)
 have nrs:∀b u,H b=some u->b∉rs:=fun b u e z=>by rw[(hf b z).1] at e;cases e
 refine I.step (g':=s.gens) (d':=s.drawn) (ch:=rs) (fun b hb=>⟨(hf b hb).2.2.2.1,(hf b hb).2.1,(hf b hb).2.2.2.2.1,(hf b hb).2.2.2.2.2⟩) (fun b u _ _ hc e _=>k b u hc e) (fun b u _ _ hc e _=>⟨u.slots,k b u hc e⟩)
  (fun b u _ e n=>by rw[aH (nT b u e)];exact n) (fun b u hc e=>⟨u,k b u hc e⟩) (fun b xs e=>by rw[aH (aM e fT)];exact e) (fun b u v e=>by rw[aH (aM e fT)];exact e)
  (fun b ps e=>⟨#[],by rw[aH (aM e fT),e];simp⟩) (fun m hm=>?_) (fun b u e=>?_) I.bare
 ·obtain⟨u,es,ep,hu,r⟩:=hm
  exact⟨u,es,ep,k _ u (fun z=>(hf _ z).2.1 rfl) hu,r⟩
 ·by_cases hb:b=T
  ·subst hb
   rw[aD] at e
   cases e
   exact new
  ·rw[aH hb] at e
   refine(I.hok b u e).stay (fun c v hc q=>k c v ?_ q) (fun c q=>by rw[aH (aM q fT)];exact q) fun c xs q=>by rw[aH (aM q fT)];exact q
   rcases hc with z|z
   ·rw[z];exact nrs b u e
   ·exact nrs c _ z
def aV.turnedL{rs:List Addr}{t':Nat}(I:aV X pins σ H s)(hf:∀b∈rs,oM X pins H b)(k:∀b u,b∉rs->s.heap.get? b=some u->h'.get? b=some u):aV X pins σ H { s with heap:=h',toks:=t' }:=by
 have nrs:∀b u,H b=some u->b∉rs:=fun b u e z=>by rw[(hf b z).1] at e;cases e
 refine I.step (g':=s.gens) (d':=s.drawn) (ch:=rs) (fun b hb=>⟨(hf b hb).2.2.2.1,(hf b hb).2.1,(hf b hb).2.2.2.2.1,(hf b hb).2.2.2.2.2⟩) (fun b u _ _ hc e _=>k b u hc e) (fun b u _ _ hc e _=>⟨u.slots,k b u hc e⟩)
  (fun b u _ _ n=>n) (fun b u hc e=>⟨u,k b u hc e⟩) (fun b xs e=>e) (fun b u v e=>e) (fun b ps e=>⟨#[],by rw[e];simp⟩) (fun m hm=>?_) (fun b u e=>?_) I.bare
 ·obtain⟨u,es,ep,hu,r⟩:=hm
  exact⟨u,es,ep,k _ u (fun z=>(hf _ z).2.1 rfl) hu,r⟩
 ·refine(I.hok b u e).stay (fun c v hc q=>k c v ?_ q) (fun c q=>q) fun c xs q=>q
  rcases hc with z|z
  ·rw[z];exact nrs b u e
  ·exact nrs c _ z
end
section
variable {prog:Program}{w:World}{A:Around}{E:Value->Shared->Prop}{s:Shared}
def aG1{J t:Addr}{i:Nat}{its:Array Value}{v:Value}{Q:Value->Shared->Prop}(a1:s.heap.IsTupleIter J t i)(a2:s.heap.IsTuple t its)(a3:its[i]?=some v)
  (k:∀g,g.IsTupleIter J t (i+1)->Heap.SameBut J s.heap g->Q v { s with heap:=g }):wpAny (model prog w) A (Builtin.SmallTypes.nextOf (.ref J)) Q E s:=by
 obtain⟨oJ,e1,e2,e3⟩:=id a1
 obtain⟨oT,e4,_,m,e5⟩:=a2
 unfold Builtin.SmallTypes.nextOf
 refine aa (eu (name:=Str.ofString "__next__") a1.typeIs kq (eg kq a1.typeIs uj ?_ (tz _)))
 show wpAny _ _ (field (.ref J) 0>>=_) _ _ s
 refine aa (fk e1 e3 (x:= .ref t) rfl ?_)
 refine(show wpAny _ _ (if (Value.ref t==Value.none)=true then _ else _) _ _ s from ?_)
 rw[ai (show ¬((Value.ref t==Value.none)=true) by exact bu)]
 show wpAny _ _ (field (.ref J) 1>>=_) _ _ s
 refine aa (fk e1 e3 (x:= .int i 0) rfl ?_)
 refine(show wpAny _ _ (seqItems? (.ref t)>>=_) _ _ s from aa (ia e4 e5 ?_))
 simp only[Int.toNat_natCast,a3]
 refine aa (kx e1 e3 (by simp) (am ⟨v,rfl,am (k _ ?_ (ja ..))⟩))
 exact⟨_,kc _ e1 (mv (io e3 _)),(vg ..).trans e2,by rw[io e3];simp[rawInt]⟩
def nA{J t:Addr}{i:Nat}{its:Array Value}{Q:Value->Shared->Prop}(hh:A.handled=none)(a1:s.heap.IsTupleIter J t i)(a2:s.heap.IsTuple t its)(a3:its[i]?=none)
  (k:∀g e,Heap.ExtBut J s.heap g->(∃o,g.get? e=some o/\o.cls= .type "StopIteration")->E (.ref e) { s with heap:=g }):wpAny (model prog w) A (Builtin.SmallTypes.nextOf (.ref J)) Q E s:=by
 obtain⟨oJ,e1,e2,e3⟩:=id a1
 obtain⟨oT,e4,_,m,e5⟩:=a2
 unfold Builtin.SmallTypes.nextOf
 refine aa (eu (name:=Str.ofString "__next__") a1.typeIs kq (eg kq a1.typeIs uj ?_ (tz _)))
 show wpAny _ _ (field (.ref J) 0>>=_) _ _ s
 refine aa (fk e1 e3 (x:= .ref t) rfl ?_)
 refine(show wpAny _ _ (if (Value.ref t==Value.none)=true then _ else _) _ _ s from ?_)
 rw[ai (show ¬((Value.ref t==Value.none)=true) by exact bu)]
 show wpAny _ _ (field (.ref J) 1>>=_) _ _ s
 refine aa (fk e1 e3 (x:= .int i 0) rfl ?_)
 refine(show wpAny _ _ (seqItems? (.ref t)>>=_) _ _ s from aa (ia e4 e5 ?_))
 simp only[Int.toNat_natCast,a3]
 refine aa (me (aa (kx e1 e3 (by simp) ?_)))
 refine(show wpAny _ _ (newExc (.type "StopIteration") []>>=_) _ _ _ from aa ?_)
 simp only[newExc,newTuple]
 refine aa (fj ?_ (by size_fits))
 refine aa (m:=firstArgMember _ _) (mj (a:=Value.none) (by first|exact rfl|(simp only[firstArgMember];rfl)) ?_)
 refine fj ?_ (by size_fits)
 simp only[raiseNew]
 refine aa (zj ?_)
 first|rw[hh]|rw[show A.in1.handled=none from hh]
 refine aa (am (aAp ?_))
 exact k _ _ (((ja ..).extBut.push _).push _) ⟨_,be _ rfl,rfl⟩
structure aN4(g:Heap)(n l1 l2:Addr)(i:Nat):Prop where
 z:IsZip g (n+4) (n+2) (n+3) .none
 I:IsPair g (n+2) (.ref n) (.ref (n+1))
 O:∃a b,IsPair g (n+3) a b
 i1:g.IsTupleIter n l1 i
 i2:g.IsTupleIter (n+1) l2 i
def bG3{n l1 l2:Addr}{i:Nat}{xs ys:Array Value}{x y:Value}{Q:Option Value->Shared->Prop}(o1:∀j,j<5->l1≠n+j)(o2:∀j,j<5->l2≠n+j)(Z:aN4 s.heap n l1 l2 i)
  (t1:s.heap.IsTuple l1 xs) (t2:s.heap.IsTuple l2 ys) (ex:xs[i]?=some x) (ey:ys[i]?=some y)
  (k:∀g,IsZip g (n+4) (n+2) (n+3) (rawInt s.heap.objs.size)->IsPair g (n+3) x y->g.IsTupleIter n l1 (i+1)->g.IsTupleIter (n+1) l2 (i+1)->IsPair g s.heap.objs.size x y ->
   (∀c o,c≠n+4->c≠n+3->c≠n->c≠n+1->s.heap.get? c=some o->g.get? c=some o)->Q (some (.ref s.heap.objs.size)) { s with heap:=g }) :
  wpAny (model prog w) A (pyNext (.ref (n+4))) Q E s:=by
 obtain⟨hz,hI,⟨a,b,hO⟩,h1,h2⟩:=Z
 have d0:n≠n+4/\n+1≠n+4/\n+2≠n+4/\n+3≠n+4/\n+3≠n/\n+3≠n+1/\n+1≠n:=by refine⟨?_,?_,?_,?_,?_,?_,?_⟩<;>(intro z;exact absurd z (by simp))
 obtain⟨d1,d2,d3,d4,d5,d6,d7⟩:=d0
 have l10:=o1 0 (by decide);have l11:=o1 1 (by decide);have l13:=o1 3 (by decide);have l14:=o1 4 (by decide)
 have l20:=o2 0 (by decide);have l21:=o2 1 (by decide);have l23:=o2 3 (by decide);have l24:=o2 4 (by decide)
 have hT:s.TypeIs (.ref (n+4)) "zip":=⟨_,hz,rfl⟩
 unfold pyNext
 refine aa (kr (eu (name:=Str.ofString "__next__") hT sg (eg sg hT F.entry_zip_next ?_ (F.args_zip_next_1 _))))
 refine(show wpAny _ _ (field (.ref (n+4)) 2>>=_) _ _ _ from aa (fk hz rfl (x:= .bool false) rfl ?_))
 refine(show wpAny _ _ (field (.ref (n+4)) 3>>=_) _ _ _ from aa (fk hz rfl (x:= .ref (n+2)) rfl ?_))
 refine aa (ia hI rfl ?_)
 refine(show wpAny _ _ (Builtin.SmallTypes.ownedTupleIsFree (.ref (n+4))>>=_) _ _ _ from aa ?_)
 unfold Builtin.SmallTypes.ownedTupleIsFree
 refine aa (fk hz rfl (x:= .none) rfl (am ?_))
 simp only[if_true]
 refine aa (me (aa (fk hz rfl (x:= .ref (n+3)) rfl (aa (mi hz (by simp) fun g1 z1 s1=>?_)))))
 have z1:IsZip g1 (n+4) (n+2) (n+3) .ellipsis:=z1
 refine aa ?_
 simp only[List.zipIdx_cons,List.zipIdx_nil,List.forIn_cons,List.forIn_nil]
 refine aa (aa (zk (show wpAny _ _ (Builtin.SmallTypes.nextOf (.ref n)>>=_) _ _ _ from aa (aG1 (h1.at fun o e=>s1.extBut _ _ d1 e) (t1.at fun o e=>s1.extBut _ _ l14 e) ex fun g2 j2 s2=>am ?_))))
 have O2:IsPair g2 (n+3) a b:=s2.extBut _ _ d5 (s1.extBut _ _ d4 hO)
 refine aa (ia O2 rfl (aa (yu O2 fun g3 O3 s3=>?_)))
 have O3:IsPair g3 (n+3) x b:=O3
 refine aa (wpAny_letGo (am ?_))
 refine aa (aa (zk (show wpAny _ _ (Builtin.SmallTypes.nextOf (.ref (n+1))>>=_) _ _ _ from aa (aG1 (h2.at fun o e=>s3.extBut _ _ d6.symm (s2.extBut _ _ d7 (s1.extBut _ _ d2 e))) (t2.at fun o e=>s3.extBut _ _ l23 (s2.extBut _ _ l20 (s1.extBut _ _ l24 e))) ey fun g4 j4 s4=>am ?_))))
 have O4:IsPair g4 (n+3) x b:=s4.extBut _ _ d6 O3
 refine aa (ia O4 rfl (aa (yu O4 fun g5 O5 s5=>?_)))
 have O5:IsPair g5 (n+3) x y:=O5
 refine aa (wpAny_letGo (am (am ?_)))
 refine aa (ia O5 rfl (aa (wpAny_newTuple ?_)))
 have sz:g5.objs.size=s.heap.objs.size:=by rw[s5.1,s4.1,s3.1,s2.1,s1.1]
 have z5:IsZip g5 (n+4) (n+2) (n+3) .ellipsis:=s5.extBut _ _ d4.symm (s4.extBut _ _ d2.symm (s3.extBut _ _ d4.symm (s2.extBut _ _ d1.symm z1)))
 have k5:∀c o,c≠n+4->c≠n+3->c≠n->c≠n+1->s.heap.get? c=some o->g5.get? c=some o:=fun c o c1 c2 c3 c4 e=>s5.extBut _ _ c2 (s4.extBut _ _ c4 (s3.extBut _ _ c2 (s2.extBut _ _ c3 (s1.extBut _ _ c1 e))))
 have j5:g5.IsTupleIter n l1 (i+1):=j2.at fun o e=>s5.extBut _ _ d5.symm (s4.extBut _ _ d7.symm (s3.extBut _ _ d5.symm e))
 have m5:g5.IsTupleIter (n+1) l2 (i+1):=j4.at fun o e=>s5.extBut _ _ d6.symm e
 have zlt:n+4<g5.objs.size:=aw z5
 refine(show wpAny _ _ (Builtin.SmallTypes.ownedTupleHandOut (.ref (n+4)) (.ref g5.objs.size)>>=_) _ _ _ from aa ?_)
 unfold Builtin.SmallTypes.ownedTupleHandOut
 have z6:IsZip (g5.push { cls:= .type "tuple",data:= .seq #[x,y] }) (n+4) (n+2) (n+3) .ellipsis:=ah _ z5
 refine aa (mi z6 (by simp) fun g7 z7 s7=>?_)
 have z7:IsZip g7 (n+4) (n+2) (n+3) (rawInt g5.objs.size):=z7
 refine mi z7 (by simp) fun g8 z8 s8=>?_
 have z8:IsZip g8 (n+4) (n+2) (n+3) (rawInt g5.objs.size):=z8
 have up:∀c o,c≠n+4->g5.get? c=some o->g8.get? c=some o:=fun c o c1 e=>s8.extBut _ _ c1 (s7.extBut _ _ c1 (ah _ e))
 have T8:IsPair g8 g5.objs.size x y:=s8.extBut _ _ (jj zlt) (s7.extBut _ _ (jj zlt) (be _ rfl))
 rw[sz] at z8 T8
 refine am ⟨_,rfl,am ?_⟩
 refine(show Q (some (.ref g5.objs.size)) _ from ?_)
 rw[sz]
 exact k g8 z8 (up _ _ d4 O5) (j5.at fun o e=>up _ o d1 e) (m5.at fun o e=>up _ o d2 e) T8 fun c o c1 c2 c3 c4 e=>up c o c1 (k5 c o c1 c2 c3 c4 e)
def bD2{n l1 l2:Addr}{i:Nat}{xs:Array Value}{Q:Option Value->Shared->Prop}(hh:A.handled=none)(o1:∀j,j<5->l1≠n+j)(Z:aN4 s.heap n l1 l2 i)
  (t1:s.heap.IsTuple l1 xs) (ex:xs[i]?=none)
  (k:∀g,(∀c o,c≠n+4->c≠n->s.heap.get? c=some o->g.get? c=some o)->Q none { s with heap:=g }):wpAny (model prog w) A (pyNext (.ref (n+4))) Q E s:=by
 obtain⟨hz,hI,⟨a,b,hO⟩,h1,h2⟩:=Z
 have d1:n≠n+4:=by intro z;exact absurd z (by simp)
 have l14:=o1 4 (by decide)
 have hT:s.TypeIs (.ref (n+4)) "zip":=⟨_,hz,rfl⟩
 unfold pyNext
 refine aa (kr (eu (name:=Str.ofString "__next__") hT sg (eg sg hT F.entry_zip_next ?_ (F.args_zip_next_1 _))))
 refine(show wpAny _ _ (field (.ref (n+4)) 2>>=_) _ _ _ from aa (fk hz rfl (x:= .bool false) rfl ?_))
 refine(show wpAny _ _ (field (.ref (n+4)) 3>>=_) _ _ _ from aa (fk hz rfl (x:= .ref (n+2)) rfl ?_))
 refine aa (ia hI rfl ?_)
 refine(show wpAny _ _ (Builtin.SmallTypes.ownedTupleIsFree (.ref (n+4))>>=_) _ _ _ from aa ?_)
 unfold Builtin.SmallTypes.ownedTupleIsFree
 refine aa (fk hz rfl (x:= .none) rfl (am ?_))
 simp only[if_true]
 refine aa (me (aa (fk hz rfl (x:= .ref (n+3)) rfl (aa (mi hz (by simp) fun g1 z1 s1=>?_)))))
 have z1:IsZip g1 (n+4) (n+2) (n+3) .ellipsis:=z1
 refine aa ?_
 simp only[List.zipIdx_cons,List.zipIdx_nil,List.forIn_cons,List.forIn_nil]
 refine aa (aa (zk (show wpAny _ _ (Builtin.SmallTypes.nextOf (.ref n)>>=_) _ _ _ from aa (nA hh (h1.at fun o e=>s1.extBut _ _ d1 e) (t1.at fun o e=>s1.extBut _ _ l14 e) ex fun g2 e s2 he=>?_))))
 obtain⟨oe,hoe,hce⟩:=he
 have z2:IsZip g2 (n+4) (n+2) (n+3) .ellipsis:=s2 _ _ d1.symm z1
 have ez:e≠n+4:=fun q=>by subst q;rw[z2] at hoe;cases hoe;simp at hce
 refine mi z2 (by simp) fun g3 _ s3=>?_
 refine aa (jg (T:="StopIteration") (b:=true) ⟨oe,s3.extBut _ _ ez hoe,hce⟩ ua ?_)
 exact am (k _ fun c o c1 c2 q=>s3.extBut _ _ c1 (s2 _ _ c2 (s1.extBut _ _ c1 q)))
end
abbrev zA(g:Heap)(l1:Addr):Heap:=g.push { cls:= .type "tuple_iterator",data:= .fields #[.ref l1,.int 0 0] }
abbrev zB(g:Heap)(l1 l2:Addr):Heap:=(zA g l1).push { cls:= .type "tuple_iterator",data:= .fields #[.ref l2,.int 0 0] }
abbrev zC(g:Heap)(l1 l2:Addr):Heap:=(zB g l1 l2).push { cls:= .type "tuple",data:= .seq #[.ref g.objs.size,.ref (zA g l1).objs.size] }
abbrev zD(g:Heap)(l1 l2:Addr):Heap:=(zC g l1 l2).push { cls:= .type "tuple",data:= .seq #[.none,.none] }
abbrev zE(g:Heap)(l1 l2:Addr):Heap:=(zD g l1 l2).push { cls:= .type "zip",data:= .fields #[.none,.bool false,.bool false,.ref (zB g l1 l2).objs.size,.ref (zC g l1 l2).objs.size] }
def bT5(l1 l2:Addr)(xs ys:Array Value):Meets (Builtin.«zip.__new__» ⟨[.type "zip",.ref l1,.ref l2],[]⟩) (fun _ R s=>s.heap.IsTuple l1 xs/\s.heap.IsTuple l2 ys /\
   R (.ok (.ret (.ref (zD s.heap l1 l2).objs.size))) { s with heap:=zE s.heap l1 l2 }):=
 .of_wp fun prog w A R s h=>by
  obtain⟨q,g,d,tk,os⟩:=s;obtain⟨t1,t2,h⟩:=h
  have hS:=PySem.sub_zip
  have T1:Heap.IsTuple (Shared.heap ⟨q,g,d,tk,os⟩) l1 xs:=t1
  have T2:Heap.IsTuple (Shared.heap ⟨q.push { cls:= .type "tuple_iterator",data:= .fields #[.ref l1,.int 0 0] },g,d,tk,os⟩) l2 ys:=t2.at fun o e=>ah _ e
  wp_walk using jv T1,jv T2
  exact⟨_,rfl,h⟩
section
variable {prog:Program}{w:World}{A:Around}{E:Value->Shared->Prop}{s:Shared}
def aT9{l1 l2:Addr}{xs ys:Array Value}{Q:Value->Shared->Prop}(t1:s.heap.IsTuple l1 xs)(t2:s.heap.IsTuple l2 ys)
  (k:∀g,aN4 g s.heap.objs.size l1 l2 0->(∀c o,s.heap.get? c=some o->g.get? c=some o)->Q (.ref (s.heap.objs.size+4)) { s with heap:=g }) :
  wpAny (model prog w) A (call (.type "zip") [.ref l1,.ref l2]) Q E s:=by
 refine aAd F.called_zip (by decide) (F.typeCall_zip_2 _ _) (F.newCall_zip_2 _ _) (fun obj=>F.args_object_init_3 obj _ _) F.entry_zip_new (bT5 l1 l2 xs ys) ⟨t1,t2,?_⟩
 have n1:(zA s.heap l1).objs.size=s.heap.objs.size+1:=by rw[ip]
 have n2:(zB s.heap l1 l2).objs.size=s.heap.objs.size+2:=by rw[ip,n1]
 have n3:(zC s.heap l1 l2).objs.size=s.heap.objs.size+3:=by rw[ip,n2]
 have n4:(zD s.heap l1 l2).objs.size=s.heap.objs.size+4:=by rw[ip,n3]
 have b5:(zE s.heap l1 l2).get? (zD s.heap l1 l2).objs.size=some _:=be _ rfl
 have b4:(zE s.heap l1 l2).get? (zC s.heap l1 l2).objs.size=some _:=ah _ (be _ rfl)
 have b3:(zE s.heap l1 l2).get? (zB s.heap l1 l2).objs.size=some _:=ah _ (ah _ (be _ rfl))
 have b2:(zE s.heap l1 l2).get? (zA s.heap l1).objs.size=some _:=ah _ (ah _ (ah _ (be _ rfl)))
 have b1:(zE s.heap l1 l2).get? s.heap.objs.size=some _:=ah _ (ah _ (ah _ (ah _ (be _ rfl))))
 show _/\_
 rw[n2,n3,n4] at b5
 rw[n1,n2] at b3
 rw[n3] at b4
 rw[n1] at b2
 rw[n4]
 exact⟨⟨_,b5,rfl⟩,k _ ⟨b5,b3,⟨_,_,b4⟩,⟨_,b1,rfl,rfl⟩,⟨_,b2,rfl,rfl⟩⟩ fun c o q=>ah _ (ah _ (ah _ (ah _ (ah _ q))))⟩
end
def Itz(K : PySem.W.Frag)(a b : Addr) : It:=
  ⟨fun i H => ∃xs ys,aT K H a xs /\ aT K H b ys /\ xs.length = ys.length /\ i<xs.length,
   fun i H x H' => ∃t,H t = none /\ x = .ref t /\ ∀xs ys,aT K H a xs -> aT K H b ys -> ∃u v,xs[i]? = some u /\ ys[i]? = some v /\ H' = aN H t (.tup [u,v]),
   fun i H => ∃xs,aT K H a xs /\ xs.length <= i⟩
def bJ8{P:Program}{w:World}{K:PySem.W.Frag}{elts:List Expr}{x1:Nat}{pos:Pos}(a b n:Addr)(ha:a<n)(hb:b<n) :
  qL P w K (.Tuple elts x1 pos) (Itz K a b) [n,n+1,n+2,n+3,n+4] (n+4) (fun i h=>aN4 h n a b i) where
 mem:=by simp
 obj:=fun i h Z c hc=>by
  obtain⟨hz,hI,⟨u,v,hO⟩,⟨o1,e1,c1,d1⟩,⟨o2,e2,c2,d2⟩⟩:=Z
  simp only[List.mem_cons,List.not_mem_nil,or_false] at hc
  rcases hc with rfl|rfl|rfl|rfl|rfl
  ·exact⟨_,e1,fun v z=>by rw[d1] at z;cases z⟩
  ·exact⟨_,e2,fun v z=>by rw[d2] at z;cases z⟩
  ·exact⟨_,hI,fun v z=>by cases z⟩
  ·exact⟨_,hO,fun v z=>by cases z⟩
  ·exact⟨_,hz,fun v z=>by cases z⟩
 keep:=fun i h h' Z k=>⟨k _ (by simp) _ Z.z,k _ (by simp) _ Z.I,let⟨u,v,q⟩:=Z.O;⟨u,v,k _ (by simp) _ q⟩,Z.i1.at fun o e=>k _ (by simp) o e,Z.i2.at fun o e=>k _ (by simp) o e⟩
 item:=by
  intro X hP hw hK hc i pins s σ H E I hf Z hg
  subst hP hw hK
  obtain⟨xs,ys,q1,q2,hl,hi⟩:=hg
  obtain⟨is1,r1,p1,_⟩:=I.tuple q1
  obtain⟨is2,r2,p2,_⟩:=I.tuple q2
  obtain⟨u,hu,ru⟩:=r1.get (i:=i) (x:=xs[i]) (by simp[hi])
  obtain⟨v,hv,rv⟩:=r2.get (i:=i) (x:=ys[i]'(by lia)) (by simp[show i<ys.length by lia])
  refine bG3 (fun j _=>bv (bn ha (jq ..))) (fun j _=>bv (bn hb (jq ..))) Z (show s.heap.IsTuple a is1.toArray from p1) (show s.heap.IsTuple b is2.toArray from p2)
   (x:=u) (y:=v) (by simpa using hu) (by simpa using hv) fun g z1 O1 j1 m1 T1 k1=>⟨_,rfl,wpAny_letOwnedTupleGo_zip z1 fun g2 z2 sb=>?_⟩
  have nT:s.heap.objs.size≠n+4:=jj (aw Z.z)
  have kk:∀c o,c∉[n,n+1,n+2,n+3,n+4]->s.heap.get? c=some o->g2.get? c=some o:=fun c o hc e=>by
   simp only[List.mem_cons,List.not_mem_nil,or_false,not_or] at hc
   exact(sb.2 c hc.2.2.2.2).trans (k1 c o hc.2.2.2.2 hc.2.2.2.1 hc.1 hc.2.1 e)
  have TT:IsPair g2 s.heap.objs.size u v:=(sb.2 _ nT).trans T1
  have d:∀j,j<4->n+j≠n+4:=fun j hj z=>absurd (Nat.add_left_cancel z) (bv hj)
  have I2:=I.turnedNew (T:=s.heap.objs.size) (o:= .tup [xs[i],ys[i]'(by lia)]) (rs:=[n,n+1,n+2,n+3,n+4]) (t':=s.toks) hf kk (af _) ⟨by show 2<=sizeLine;decide,[u,v],.cons ru (.cons rv .nil),⟨_,TT,rfl,_,rfl,rfl⟩⟩
  refine⟨.ref s.heap.objs.size,_,I2,rfl,⟨_,I.fresh,rfl,fun xs' ys' w1 w2=>⟨xs[i],ys[i]'(by lia),?_,?_,rfl⟩⟩,⟨z2,(sb.2 _ (d 2 (by decide))).trans (k1 _ _ (d 2 (by decide)) (by simp) (by simp) (by simp) Z.I),⟨u,v,(sb.2 _ (d 3 (by decide))).trans O1⟩,j1.at fun o e=>(sb.2 _ (d 0 (by decide))).trans e,m1.at fun o e=>(sb.2 _ (d 1 (by decide))).trans e⟩,fun c hc=>?_⟩
  ·rw[I.tuple_inj w1 q1];simp[hi]
  ·rw[I.tuple_inj w2 q2];simp[show i<ys.length by lia]
  ·rw[aH (fun z=>?_)]
   ·exact(hf c hc).1
   ·obtain⟨o,e,_⟩:∃o,s.heap.get? c=some o/\True:=by
     obtain⟨hz,hI,⟨u',v',hO⟩,⟨o1,e1,c1,d1⟩,⟨o2,e2,c2,d2⟩⟩:=Z
     simp only[List.mem_cons,List.not_mem_nil,or_false] at hc
     rcases hc with rfl|rfl|rfl|rfl|rfl
     ·exact⟨_,e1,trivial⟩
     ·exact⟨_,e2,trivial⟩
     ·exact⟨_,hI,trivial⟩
     ·exact⟨_,hO,trivial⟩
     ·exact⟨_,hz,trivial⟩
    exact absurd (aw e) (by rw[z];exact gy _)
 done:=by
  intro X hP hw hK hc i pins s σ H E I hf Z hg
  subst hP hw hK
  obtain⟨xs,q1,hx⟩:=hg
  obtain⟨is1,r1,p1,_⟩:=I.tuple q1
  have hl:=r1.length
  refine bD2 (I.ok.hd hc) (fun j _=>bv (bn ha (jq ..))) Z (show s.heap.IsTuple a is1.toArray from p1) (by simp;lia) fun g k=>⟨rfl,I.turnedL (rs:=[n,n+1,n+2,n+3,n+4]) (t':=s.toks) hf fun c o hc e=>?_⟩
  simp only[List.mem_cons,List.not_mem_nil,or_false,not_or] at hc
  exact k c o hc.2.2.2.2 hc.1 e
 self:=fun _ _ _ _ _ Z h=>wpAny_pyIter_zip Z.z h
def cW9(K:PySem.W.Frag)(ta:TA):TI:=fun σ H R=>ta σ H fun vs H1=>∃a b,vs=[.ref a,.ref b]/\(∃xs,aT K H1 a xs)/\(∃ys,aT K H1 b ys)/\R (Itz K a b) H1
def cI0{X:Cx}{a b:Expr}{ta:TA}{p pos:Pos}{elts:List Expr}{x1:Nat}{tpos:Pos}(hg:Gl X "zip")(hm:X.mg "zip"=none)(ha:PA X [a,b] ta)(hs:starEach [a,b] X.env=[(false,eval a X.env),(false,eval b X.env)]:=by rfl)(hs2:starEach [b] X.env=[(false,eval b X.env)]:=by rfl) :
  PI X (.Tuple elts x1 tpos) (.Call (.Name "zip" p) [a,b] [] pos) (cW9 X.K ta):=by
 intro pins s σ H R I h
 refine gr (iV I hg hm PyProof.Rows.boot_zip (fq (cW (ha pos pins s σ H _ I h) fun us s1 ⟨vs,H1,I1,r1,q1⟩=>?_) (by rw[hs,hs2]) (by rw[hs2];rfl)))
 obtain⟨a',b',rfl,⟨xs,q1⟩,⟨ys,q2⟩,q⟩:=q1
 obtain⟨u,v,rfl,ru,rv⟩:=aN0 r1
 cases ru
 cases rv
 obtain⟨is1,_,p1,_⟩:=I1.tuple q1
 obtain⟨is2,_,p2,_⟩:=I1.tuple q2
 have la:a'<s1.heap.objs.size:=by obtain⟨o,e,_⟩:=p1;exact aw e
 have lb:b'<s1.heap.objs.size:=by obtain⟨o,e,_⟩:=p2;exact aw e
 refine aT9 (show s1.heap.IsTuple a' is1.toArray from p1) (show s1.heap.IsTuple b' is2.toArray from p2) fun g Z k=>wpAny_pyIter_zip Z.z ?_
 have I2:aV X pins σ H1 { s1 with heap:=g }:=I1.kept (t':=s1.toks) k
 refine⟨s1.heap.objs.size+4,_,_,Itz X.K a' b',H1,rfl,I2,bJ8 a' b' s1.heap.objs.size la lb,Z,fun c hc=>?_,q⟩
 have hge:s1.heap.objs.size<=c:=by
  simp only[List.mem_cons,List.not_mem_nil,or_false] at hc
  rcases hc with rfl|rfl|rfl|rfl|rfl
  ·exact af _
  all_goals exact jq ..
 exact I1.fpOk hge (I1.hok.fresh hge)
section
variable {g:TG}{tc:TT}{te:TE}
def bG4{K:PySem.W.Frag}{a b:Addr}{xs ys:List V}{Kf:List V->Hp->Prop}{σ0:St}{H1:Hp}(Pv:Nat->List V->St->Hp->Prop)(hz:xs.length<sizeLine)(hxy:xs.length=ys.length)(h0:Pv 0 [] σ0 H1)(hb:∀i zs σ H,Pv i zs σ H->zs.length<=i)
  (hl:∀i zs σ H,i<=xs.length->Pv i zs σ H->aT K H a xs/\aT K H b ys)
  (hs:∀i x y zs σ H t,xs[i]?=some x->ys[i]?=some y->Pv i zs σ H->H t=none->g (.ref t) σ (aN H t (.tup [x,y])) fun σ2 H2=>tc σ2 H2 fun b H3=>if b=true then te σ2 H3 fun v H4=>Pv (i+1) (zs++[v]) σ2 H4 else Pv (i+1) zs σ2 H3)
  (hd:∀zs σ H,Pv xs.length zs σ H->Kf zs H):mG (Itz K a b) g tc te Kf σ0 H1:=by
 refine⟨fun i m zs σ H=>m=xs.length-i/\i<=xs.length/\Pv i zs σ H,⟨xs.length,by simp,bi _,h0⟩,?_⟩
 rintro i m zs σ H ⟨rfl,hi,p⟩
 obtain⟨q1,q2⟩:=hl i zs σ H hi p
 refine⟨cm (hb _ _ _ _ p) (cm hi hz),?_⟩
 by_cases hlt:i<xs.length
 ·refine .inr ⟨⟨xs,ys,q1,q2,hxy,hlt⟩,Pv (i+1),fun zs' σ' H' p'=>⟨xs.length-(i+1),fw hlt (dz i),rfl,hlt,p'⟩,fun x H' y=>?_⟩
  obtain⟨t,ht,rfl,w⟩:=y
  obtain⟨u,v,e1,e2,rfl⟩:=w xs ys q1 q2
  exact hs i u v zs σ H t e1 e2 p ht
 ·have e:i=xs.length:=by lia
  subst e
  exact .inl ⟨⟨xs,q1,af _⟩,hd zs σ H p⟩
end
section
variable {X:Cx}{tg:Expr}
def sE:∀{ys:List Str}{us:List Value},bC (ys.map V.str) us->StrsAre us ys
 |[],_,r=>by
  cases r
  exact .nil
 |y::ys,_,r=>by
  cases r with
  |cons r1 r2 =>
   obtain⟨t,rfl⟩:=r1
   exact .cons y t (sE r2)
def cQ5(K:PySem.W.Frag):V->List V->Hp->VK->Prop:=fun x vs H Q=>∃(sep:Str) (p:Addr) (ys:List Str),x= .str sep/\vs=[.ref p]/\bR K H p (ys.map V.str)/\(ys.map (·.length)).sum+ys.length*sep.length<=16777216/\Q (.str (Txt.join sep ys)) H
def bP8:MtR X "str.join" (cQ5 X.K):=by
 intro pins s σ H x xs v us Q I rx rs h
 obtain⟨sep,p,ys,rfl,rfl,hq,hz,q⟩:=h
 obtain⟨t,rfl⟩:=rx
 obtain⟨u,rfl,ru⟩:=rs.one
 cases ru
 obtain⟨its,rv,pl,_⟩:=I.list hq
 exact join_list pl.isList (by simpa using sE rv) hz fun t' k=>⟨.str _,H,I.tok k,⟨_,rfl⟩,q⟩
end
def Ite(K : PySem.W.Frag)(a : Addr) : It:=
  ⟨fun i H => ∃xs x,bR K H a xs /\ xs[i]? = some x,
   fun i H x H' => ∃t,H t = none /\ x = .ref t /\ ∀xs,bR K H a xs -> ∃u,xs[i]? = some u /\ H' = aN H t (.tup [.int i,u]),
   fun i H => ∃xs,bR K H a xs /\ xs.length <= i⟩
def aT6{P:Program}{w:World}{K:PySem.W.Frag}{elts:List Expr}{x1:Nat}{pos:Pos}(a n:Addr) :
  qL P w K (.Tuple elts x1 pos) (Ite K a) [n,n+1] (n+1) (fun i h=>(∃old,IsEnum h (n+1) n i old)/\h.IsListIter n a i) where
 mem:=by simp
 obj:=fun i h Z c hc=>by
  obtain⟨⟨old,he⟩,⟨o1,e1,c1,d1⟩⟩:=Z
  simp only[List.mem_cons,List.not_mem_nil,or_false] at hc
  rcases hc with rfl|rfl
  ·exact⟨_,e1,fun v z=>by rw[d1] at z;cases z⟩
  ·exact⟨_,he,fun v z=>by cases z⟩
 keep:=fun i h h' Z k=>⟨let⟨old,he⟩:=Z.1;⟨old,k _ (by simp) _ he⟩,Z.2.at fun o e=>k _ (by simp) o e⟩
 item:=by
  intro X hP hw hK hc i pins s σ H E I hf Z hg
  subst hP hw hK
  obtain⟨xs,x,q1,hx⟩:=hg
  obtain⟨its,rv,pl,_⟩:=I.list q1
  obtain⟨u,hu,ru⟩:=rv.get hx
  obtain⟨⟨old,he⟩,hit⟩:=Z
  have d0:n+1≠n:=Nat.succ_ne_self n
  refine wpAny_pyNext_enum_item he hit pl.isList (x:=u) (by simpa using hu) d0 fun g z1 j1 T1 _ k1=>⟨_,rfl,uz z1 fun g2 z2 sb=>?_⟩
  have nT:s.heap.objs.size≠n+1:=jj (aw he)
  have lt:∀c∈[n,n+1],c<s.heap.objs.size:=fun c hc=>by
   simp only[List.mem_cons,List.not_mem_nil,or_false] at hc
   rcases hc with rfl|rfl
   ·obtain⟨o1,e1,_⟩:=hit
    exact aw e1
   ·exact aw he
  have kk:∀c o,c∉[n,n+1]->s.heap.get? c=some o->g2.get? c=some o:=fun c o hc e=>by
   simp only[List.mem_cons,List.not_mem_nil,or_false,not_or] at hc
   exact(sb.2 c hc.2).trans (k1 c o hc.2 hc.1 e)
  have TT:g2.get? s.heap.objs.size=some { cls:= .type "tuple",data:= .seq #[.int i s.toks,u] }:=(sb.2 _ nT).trans T1
  have I2:=I.turnedNew (T:=s.heap.objs.size) (o:= .tup [.int i,x]) (rs:=[n,n+1]) (t':=s.toks+1) hf kk (af _) ⟨by show 2<=sizeLine;decide,[.int i s.toks,u],.cons ⟨_,rfl⟩ (.cons ru .nil),⟨_,TT,rfl,_,rfl,rfl⟩⟩
  refine⟨.ref s.heap.objs.size,_,I2,rfl,⟨_,I.fresh,rfl,fun xs' w1=>⟨x,by rw[I.list_inj w1 q1];exact hx,rfl⟩⟩,⟨⟨_,by simpa using z2⟩,j1.at fun o e=>(sb.2 _ d0.symm).trans e⟩,fun c hc=>?_⟩
  rw[aH (bv (lt c hc))]
  exact(hf c hc).1
 done:=by
  intro X hP hw hK hc i pins s σ H E I hf Z hg
  subst hP hw hK
  obtain⟨xs,q1,hx⟩:=hg
  obtain⟨its,rv,pl,_⟩:=I.list q1
  obtain⟨⟨old,he⟩,hit⟩:=Z
  have hl:=rv.length
  refine wpAny_pyNext_enum_end (I.ok.hd hc) he hit pl.isList (by simp;lia) fun g k=>⟨rfl,I.turnedL (rs:=[n,n+1]) (t':=s.toks) hf fun c o hc e=>?_⟩
  simp only[List.mem_cons,List.not_mem_nil,or_false,not_or] at hc
  exact k c o hc.1 e
 self:=fun _ _ _ _ _ Z h=>by
  obtain⟨⟨old,he⟩,_⟩:=Z
  exact pf he h
def cP0(K:PySem.W.Frag)(ta:TA):TI:=fun σ H R=>ta σ H fun vs H1=>∃a,vs=[.ref a]/\(∃xs,bR K H1 a xs)/\R (Ite K a) H1
def bP5{X:Cx}{a:Expr}{ta:TA}{p pos:Pos}{elts:List Expr}{x1:Nat}{tpos:Pos}(hg:Gl X "enumerate")(hm:X.mg "enumerate"=none)(ha:PA X [a] ta)(hs:starEach [a] X.env=[(false,eval a X.env)]:=by rfl) :
  PI X (.Tuple elts x1 tpos) (.Call (.Name "enumerate" p) [a] [] pos) (cP0 X.K ta):=by
 intro pins s σ H R I h
 refine gr (iV I hg hm uk (fq (cW (ha pos pins s σ H _ I h) ?_) hs rfl));rintro us s1 ⟨vs,H1,I1,r1,q1⟩
 obtain⟨a',rfl,⟨xs,q1⟩,q⟩:=q1
 obtain⟨u,rfl,ru⟩:=jD r1
 cases ru
 obtain⟨its,_,pl,_⟩:=I1.list q1
 refine call_enumerate_list pl.isList fun g he hit _ k=>pf he ?_
 have I2:aV X pins σ H1 { s1 with heap:=g }:=I1.kept (t':=s1.toks) k
 refine⟨s1.heap.objs.size+1,_,_,Ite X.K a',H1,rfl,I2,aT6 a' s1.heap.objs.size,⟨⟨_,he⟩,hit⟩,fun c hc=>?_,q⟩
 have hge:s1.heap.objs.size<=c:=by
  simp only[List.mem_cons,List.not_mem_nil,or_false] at hc
  rcases hc with rfl|rfl
  ·exact af _
  ·exact jq ..
 exact I1.fpOk hge (I1.hok.fresh hge)
def aN7(ns:List Int):∀j,j<=ns.length->preSum (fun i=>ns.getD i 0) j=(ns.take j).sum
 |0,_=>by simp[preSum]
 |j+1,h=>by
  have ih:=aN7 ns j (by lia)
  have e:ns[j]?=some ns[j]:=by simp[show j<ns.length by lia]
  have q:ns.take (j+1)=ns.take j++[ns[j]]:=by rw[List.take_succ,e];rfl
  rw[q,oh, <-ih]
  simp[preSum,List.getD,e]
section
variable {X:Cx}
def bB7(hc:X.calm=true:=by rfl):eU X (.builtin "sum") (fun xs H Q=>∃(p:Addr) (ns:List Int),xs=[.ref p]/\bR X.K H p (ns.map V.int)/\Q (.int ns.sum) H):=by
 intro pins s σ H xs us Q I r h
 obtain⟨p,ns,rfl,hq,q⟩:=h
 obtain⟨u,rfl,ru⟩:=jD r
 cases ru
 obtain⟨its,rv,pl,hz⟩:=I.list hq
 have lp:p<s.heap.objs.size:=by
  obtain⟨o,e,_⟩:=pl.isList
  exact aw e
 have hl:=rv.length
 rw[ac] at hl
 have val:∀i v,its.toArray[i]?=some v->∃t,v=Value.int (ns.getD i 0) t:=fun i v hv=>by
  have hi:its[i]?=some v:=by simpa using hv
  have hb:i<ns.length:=by
   have:=(bz.mp hi).1
   lia
  obtain⟨u,hu,ru⟩:=rv.get (i:=i) (x:=V.int ns[i]) (by rw[df,bw hb];rfl)
  rw[hi] at hu
  cases hu
  obtain⟨t,e⟩:=ru
  exact⟨t,by rw[e];simp[List.getD,hb]⟩
 refine call_sum_walkG (wpAny_pyIter_list pl.isList ⟨s.heap.objs.size,_,_,_,_,_,fun i=>ns.getD i 0,rfl,Walks.list (A:=X.A.in1) (I.ok.hd hc) s.heap.objs.size p (bv lp) its.toArray,⟨⟨_,be _ rfl,rfl,rfl⟩,pl.isList.at fun o e=>ah _ e⟩,?_,val,?_⟩)
 ·intro b hb
  rw[ip]
  rcases az.mp hb with z|z
  ·rw[z];exact dz _
  ·have z:b=p:=by simpa using z
   rw[z];exact vf lp
 ·intro h' tk t' hk
  have kept:∀b o,s.heap.get? b=some o->h'.get? b=some o:=fun b o e=>hk b o (by
   intro z
   have z:b=s.heap.objs.size:=by simpa using z
   exact absurd (aw e) (by rw[z];exact gy _)) (ah _ e)
  refine⟨.int ns.sum,H,I.kept kept,⟨t',?_⟩,q⟩
  rw[bf, <-hl,aN7 ns _ (af _),eh]
def aH4:kM X (binaryOp .Mult) (fun x y H Q=>∃(z:Str) (n:Int),x= .str z/\y= .int n/\z.length=1/\(n=0\/n=1)/\Q (.str (if n=0 then Str.empty else z)) H):=by
 intro pins s σ H x y v u Q I rx ry h
 obtain⟨z,n,rfl,rfl,hz,hn,q⟩:=h
 obtain⟨t,rfl⟩:=rx
 obtain⟨t',rfl⟩:=ry
 rcases hn with rfl|rfl
 ·exact PySem.P.mul_str_none (by decide) (by decide) ⟨.str _,H,I.tok _,⟨_,rfl⟩,q⟩
 ·refine PySem.P.mul_str (by decide) (fun _ c=>absurd c (by simp)) (fun _ c=>absurd c (by simp)) ?_
  rw[ai (by decide),ao (by simp)]
  exact⟨.str z,H,I,⟨_,rfl⟩,q⟩
end
def nL:∀{us:List Value}{ns:List Int},IntsAre us ns->bC (ns.map V.int) us
 |_,_,.nil=> .nil
 |_,_,.cons n t r=> .cons ⟨t,rfl⟩ (nL r)
def aK6{X:Cx}:eU X (.builtin "sorted") (fun xs H Q=>∃(p:Addr) (ns:List Int),xs=[.ref p]/\bR X.K H p (ns.map V.int)/\ns.length<64 /\
  ∀ns':List Int,ns'.Perm ns->ns'.Pairwise (· <= ·)->∀l,H l=none->Q (.ref l) (aN H l (.lst (ns'.map V.int)))):=by
 intro pins s σ H xs us Q I r h
 obtain⟨p,ns,rfl,hq,hz,q⟩:=h
 obtain⟨u,rfl,ru⟩:=jD r
 cases ru
 obtain⟨its,rv,pl,_⟩:=I.list hq
 have len:=rv.length
 rw[ac] at len
 refine sorted_ints pl.isList (rW rv) (by lia) fun out ns' a1 a2 a3=>?_
 obtain⟨e,he⟩:=sortedAll_at s.heap its out
 have le:s.heap.objs.size<=s.heap.objs.size+1:=ud _
 refine⟨.ref (s.heap.objs.size+1),_,I.laid (t':=s.toks) (o:= .lst (ns'.map V.int)) (fun b o z=>sortedAll_old z) le ?_,rfl,q ns' a2 a3 _ (I.hok.fresh le)⟩
 refine⟨?_,out.toList,e,nL a1,by rw[Array.toArray_toList];exact he⟩
 rw[ac,a2.length_eq]
 exact fi (aL (by lia))
def aV.freeze{X:Cx}{pins:List (Addr×Obj)}{σ:St}{H:Hp}{s:Shared}{d:Addr}{o:Obj}{kvs:List (Key×V)}(I:aV X pins σ H s)(h:H d=some (.dK kvs))(ho:s.heap.get? d=some o) :
  aV X pins σ (aN H d (.frz o (.dK kvs))) s:=by
 have nd:∀b u,H b=some u->(∀z,u≠ .dK z)->b≠d:=fun b u e hu z=>by
  rw[z,h] at e
  exact hu _ (cq e).symm
 refine I.step (g':=s.gens) (d':=s.drawn) (t':=s.toks) (h':=s.heap) (ch:=[]) (fun _ z=>nomatch z) (fun b u _ _ _ e _=>e) (fun b u _ _ _ e _=>⟨u.slots,e⟩) (fun b u _ e n=>by rw[aH (fun z=>by rw[z,h] at n;cases n)];exact n)
  (fun b u _ e=>⟨u,e⟩) (fun b xs e=>by rw[aH (nd b _ e (by intro z c;cases c))];exact e) (fun b u v e=>by rw[aH (nd b _ e (by intro z c;cases c))];exact e)
  (fun b ps e=>⟨#[],by rw[aH (nd b _ e (by intro z c;cases c)),e];simp⟩) (fun m hm=>hm) (fun b u e=>?_) I.bare
 by_cases hb:b=d
 ·subst hb
  rw[aD] at e
  cases e
  exact⟨ho,I.hok b _ h⟩
 ·rw[aH hb] at e
  exact(I.hok b u e).stay (fun c v _ q=>q) (fun c q=>by rw[aH (nd c _ q (by intro z w;cases w))];exact q) fun c xs q=>by rw[aH (nd c _ q (by intro z w;cases w))];exact q
def bA2{κ:Type}:∀{kvs:List (κ×V)}{vs:List (κ×Value)}{i:Nat}{k:κ}{v:V},KV kvs vs->kvs[i]?=some (k,v)->∃u,vs[i]?=some (k,u)/\bF v u
 |_,_,_,_,_,.nil,e=>by simp at e
 |_,_,0,_,_,.cons r _,e=>by
  simp at e
  subst e
  obtain⟨r1,r2⟩:=r
  exact⟨_,by simp;exact Prod.ext r1.symm rfl,r2⟩
 |_,_,i+1,_,_,.cons _ r,e=>by
  obtain⟨u,e1,e2⟩:=bA2 (i:=i) r (by simpa using e)
  exact⟨u,by simpa using e1,e2⟩
def bN2{k:Key}{u:Value}(h:eF k u=true):bF (kV k) u:=by
 rcases aZ h with⟨i,t,rfl,rfl⟩|⟨x,t,rfl,rfl⟩
 ·exact⟨t,rfl⟩
 ·exact⟨t,rfl⟩
def Itd(d:Addr)(o:Obj)(kvs:List (Key×V)):It:=
 ⟨fun i H=>i<kvs.length/\H d=some (.frz o (.dK kvs)),fun i H x H'=>H'=H/\∃k v,kvs[i]?=some (k,v)/\x=kV k,fun i H=>kvs.length<=i/\H d=some (.frz o (.dK kvs))⟩
def bD7{X:Cx}{pins:List (Addr×Obj)}{σ:St}{H:Hp}{s:Shared}{d:Addr}{o:Obj}{kvs:List (Key×V)}{es:Array DictEntry}{ep:Nat}(I:aV X pins σ H s)(ho:o.data= .dict es ep)(h:H d=some (.frz o (.dK kvs))) :
  ∃vs,KV kvs vs/\s.heap.DictAt (bG X.prog X.w) d vs ep/\(d==sysModules)=false:=by
 obtain⟨e,z,ns,vs,rel,o',es',ep',h1,h2,h3,h4,h5,h6⟩:=(show bZ X.prog X.w H s.heap d (.frz o (.dK kvs)) from I.hok d _ h)
 rw[e] at h1
 cases h1
 rw[ho] at h3
 cases h3
 exact⟨vs,rel,⟨o,es,e,h2,ho,h4,h5,h6⟩,ns⟩
def aV5{P:Program}{w:World}{K:PySem.W.Frag}{tg:Expr}(d it:Addr)(o:Obj)(kvs:List (Key×V)){es:Array DictEntry}{ep:Nat}(ho:o.data= .dict es ep) :
  qL P w K tg (Itd d o kvs) [it] it (fun i h=>i<=kvs.length/\h.IsKeyIter it d i kvs.length ep) where
 mem:=by simp
 obj:=fun i h st b hb=>by
  have e:b=it:=by simpa using hb
  subst e
  obtain⟨o,e,c,q⟩:=st.2
  exact⟨o,e,fun v z=>by rw[q] at z;cases z⟩
 keep:=fun i h h' st k=>⟨st.1,st.2.at fun o e=>k it (by simp) o e⟩
 item:=by
  intro X hP hw hK hc i pins s σ H E I hf st hg
  subst hP hw hK
  obtain⟨hi,hd⟩:=hg
  obtain⟨f0,f1,f2,f3,f4,f5⟩:=hf it (by simp)
  obtain⟨vs,rel,da,ns⟩:=bD7 I ho hd
  have hl:kvs.length=vs.length:=jd rel
  obtain⟨u,hu,_⟩:=bA2 (i:=i) (k:=kvs[i].1) (v:=kvs[i].2) rel (by simp[hi])
  have st2:=st.2
  rw[hl] at st2
  refine wpAny_pyNext_dict_item st2 da hu fun key h' hk st' sb=>?_
  have I1:aV X pins σ H { s with heap:=h' }:=I.turned (t':=s.toks) (fun b o hb e=>(sb.2 b hb).trans e) f0 f1 f3 f4 f5
  obtain⟨o2,e2,c2,d2⟩:=id st'
  rw[<-hl] at st'
  exact⟨key,rfl,go_of (s:={ s with heap:=h' }) e2 c2 d2 (by decide) ⟨kV kvs[i].1,H,I1,bN2 hk,⟨rfl,kvs[i].1,kvs[i].2,by simp[hi],rfl⟩,⟨hi,st'⟩,fun b hb=>(hf b hb).1⟩⟩
 done:=by
  intro X hP hw hK hc i pins s σ H E I hf st hg
  subst hP hw hK
  obtain⟨hi,hd⟩:=hg
  obtain⟨f0,f1,f2,f3,f4,f5⟩:=hf it (by simp)
  obtain⟨vs,rel,da,ns⟩:=bD7 I ho hd
  have hl:kvs.length=vs.length:=jd rel
  have st2:=st.2
  rw[hl] at st2
  exact wpAny_pyNext_dict_end (I.ok.hd hc) st2 da (by simp;lia) fun h' eb=>⟨rfl,I.turned (t':=s.toks) (fun b o hb e=>eb b o hb e) f0 f1 f3 f4 f5⟩
 self:=fun _ _ _ _ _ st h=>sk st.2 h
def aW4(tl:TE):TI:=fun σ H R=>tl σ H fun x H1=>∃d kvs,x= .ref d/\H1 d=some (.dK kvs)/\∀o,R (Itd d o kvs) (aN H1 d (.frz o (.dK kvs)))
def bM9{X:Cx}{tg l:Expr}{tl:TE}(hl:PE X l tl):PI X tg l (aW4 tl):=by
 intro pins s σ H R I h
 refine cW (hl pins s σ H _ I h) ?_;rintro v s1 ⟨x,H1,I1,r1,q1⟩
 obtain⟨d,kvs,e,hd,q⟩:=q1
 subst e
 cases r1
 obtain⟨z,ns,vs,rel,o,es,ep,h1,h2,h3,h4,h5,h6⟩:=aN9 I1.hok hd
 have hl:kvs.length=vs.length:=jd rel
 have I2:=I1.freeze hd h1
 refine wpAny_pyIter_dict (knd:=bG X.prog X.w) ns ⟨o,es,h1,h2,h3,h4,h5,h6⟩ ?_
 have f:(aN H1 d (.frz o (.dK kvs))) s1.heap.objs.size=none:=I2.hok.fresh (af _)
 refine⟨s1.heap.objs.size,[s1.heap.objs.size],_,_,_,rfl,I2.kept (t':=s1.toks) fun b o e=>ah _ e,aV5 d _ o kvs h3,⟨bi _,⟨_,be _ rfl,rfl,by rw[hl];rfl⟩⟩,fun b hb=>?_,q o⟩
 have e:b=s1.heap.objs.size:=by simpa using hb
 subst e
 exact I2.fpOk (af _) f
def aU1{d:Addr}{o:Obj}{kvs:List (Key×V)}{g:TG}{tc:TT}{te:TE}{Kf:List V->Hp->Prop}{σ0:St}{H1:Hp}(Pv:Nat->List V->St->Hp->Prop)(hz:kvs.length<sizeLine)(h0:Pv 0 [] σ0 H1)(hb:∀i zs σ H,Pv i zs σ H->zs.length<=i)
  (hl:∀i zs σ H,i<=kvs.length->Pv i zs σ H->H d=some (.frz o (.dK kvs)))
  (hs:∀i k v zs σ H,kvs[i]?=some (k,v)->Pv i zs σ H->g (kV k) σ H fun σ2 H2=>tc σ2 H2 fun b H3=>if b=true then te σ2 H3 fun y H4=>Pv (i+1) (zs++[y]) σ2 H4 else Pv (i+1) zs σ2 H3)
  (hd:∀zs σ H,Pv kvs.length zs σ H->Kf zs H):mG (Itd d o kvs) g tc te Kf σ0 H1:=by
 refine⟨fun i m zs σ H=>m=kvs.length-i/\i<=kvs.length/\Pv i zs σ H,⟨kvs.length,by simp,bi _,h0⟩,?_⟩
 rintro i m zs σ H ⟨rfl,hi,p⟩
 have q1:=hl i zs σ H hi p
 refine⟨cm (hb _ _ _ _ p) (cm hi hz),?_⟩
 by_cases hlt:i<kvs.length
 ·refine .inr ⟨⟨hlt,q1⟩,Pv (i+1),fun zs' σ' H' p'=>⟨kvs.length-(i+1),fw hlt (dz i),rfl,hlt,p'⟩,fun x H' y=>?_⟩
  obtain⟨rfl,k,v,e1,rfl⟩:=y
  exact hs i k v zs σ _ e1 p
 ·have e:i=kvs.length:=by lia
  subst e
  exact .inl ⟨⟨af _,q1⟩,hd zs σ H p⟩
section
variable {X:Cx}
variable {g:TG}{tc:TT}{te:TE}
def aV4{K:PySem.W.Frag}{a:Addr}{xs:List V}{Kf:List V->Hp->Prop}{σ0:St}{H1:Hp}(Pv:Nat->List V->St->Hp->Prop)(hz:xs.length<sizeLine)(h0:Pv 0 [] σ0 H1)(hb:∀i zs σ H,Pv i zs σ H->zs.length<=i)
  (hl:∀i zs σ H,i<=xs.length->Pv i zs σ H->bR K H a xs)
  (hs:∀i x zs σ H t,xs[i]?=some x->Pv i zs σ H->H t=none->g (.ref t) σ (aN H t (.tup [.int i,x])) fun σ2 H2=>tc σ2 H2 fun b H3=>if b=true then te σ2 H3 fun v H4=>Pv (i+1) (zs++[v]) σ2 H4 else Pv (i+1) zs σ2 H3)
  (hd:∀zs σ H,Pv xs.length zs σ H->Kf zs H):mG (Ite K a) g tc te Kf σ0 H1:=by
 refine⟨fun i m zs σ H=>m=xs.length-i/\i<=xs.length/\Pv i zs σ H,⟨xs.length,by simp,bi _,h0⟩,?_⟩
 rintro i m zs σ H ⟨rfl,hi,p⟩
 have q1:=hl i zs σ H hi p
 refine⟨cm (hb _ _ _ _ p) (cm hi hz),?_⟩
 by_cases hlt:i<xs.length
 ·refine .inr ⟨⟨xs,xs[i],q1,by simp[hlt]⟩,Pv (i+1),fun zs' σ' H' p'=>⟨xs.length-(i+1),fw hlt (dz i),rfl,hlt,p'⟩,fun x H' y=>?_⟩
  obtain⟨t,ht,rfl,w⟩:=y
  obtain⟨u,e1,rfl⟩:=w xs q1
  exact hs i u zs σ H t e1 p ht
 ·have e:i=xs.length:=by lia
  subst e
  exact .inl ⟨⟨xs,q1,af _⟩,hd zs σ H p⟩
end
open AutoSeq1 (wpAny_loadPart')
section
variable {prog:Program}{w:World}{A:Around}{E:Value->Shared->Prop}{s:Shared}
def aU3(hh:A.handled=none)(it l:Addr)(hne:l≠it)(items:Array Value) :
  Draws prog w A it [it,l] items.size (fun i v=>items[i]?=some v) (fun i h=>h.IsTupleIter it l i/\h.IsTuple l items) where
 live:=fun _ _ st=>let⟨o,ho,_⟩:=st.1;⟨o,ho⟩
 frame:=fun _ _ _ st hk=>⟨let⟨o,ho,r⟩:=st.1;⟨o,hk it (by simp) o ho,r⟩,let⟨o,ho,r⟩:=st.2;⟨o,hk l (by simp) o ho,r⟩⟩
 item:=fun i s Q E hi st hQ=>by
  refine aG1 st.1 st.2 (v:=items[i]) (by simp[hi]) fun h' hit' hs'=>?_
  exact hQ _ h' s.toks (by simp[hi]) ⟨hit',st.2.extBut hs'.extBut hne⟩ hs'
 done:=fun s Q E st hE=>nA hh st.1 st.2 (by simp) hE
end
def sW(l:Addr)(items:Array Value)(n:Nat)(dct:Option Addr)(sl:Array (Option Value)) :
  Meets (Builtin.«enumerate.__new__» ⟨[.type "enumerate",.ref l],[]⟩) (fun _ R s=>s.heap.get? l=some { cls:= .type "tuple",dict:=dct,data:= .seq items n,slots:=sl } /\
   R (.ok (.ret (.ref (s.heap.push { cls:= .type "tuple_iterator",data:= .fields #[.ref l,.int 0 0] }).objs.size)))
    { s with heap:=(s.heap.push { cls:= .type "tuple_iterator",data:= .fields #[.ref l,.int 0 0] }).push { cls:= .type "enumerate",data:= .fields #[.none,.bool false,.ref s.heap.objs.size,rawInt 0,.none,.none] } }):=
 .of_wp fun prog w A R s h=>by
  obtain⟨hp,g,d,tk,os⟩:=s;obtain⟨hl,h⟩:=h
  have hsub:=sub_enumerate
  have hL:Heap.IsTuple (Shared.heap ⟨hp,g,d,tk,os⟩) l items:=⟨_,hl,rfl,n,rfl⟩
  wp_walk using fu hl
  refine wpAny_stack_any fun st=>am ?_
  split
  ·rename_i c _ _ _ _ _
   cases(c==Value.type "enumerate")
   ·wp_walk using fu hl,jv hL
    exact⟨_,rfl,h⟩
   ·wp_walk using fu hl,jv hL
    exact⟨_,rfl,h⟩
  ·wp_walk using fu hl,jv hL
   exact⟨_,rfl,h⟩
section
variable {prog:Program}{w:World}{A:Around}{E:Value->Shared->Prop}{s:Shared}
def uW{l:Addr}{items:Array Value}{Q:Value->Shared->Prop}(hL:s.heap.IsTuple l items)
  (h:∀h',IsEnum h' (s.heap.objs.size+1) s.heap.objs.size 0 .none->h'.IsTupleIter s.heap.objs.size l 0->h'.objs.size=s.heap.objs.size+2 ->
   (∀b o,s.heap.get? b=some o->h'.get? b=some o)->Q (.ref (s.heap.objs.size+1)) { s with heap:=h' }) :
  wpAny (model prog w) A (call (.type "enumerate") [.ref l]) Q E s:=by
 obtain⟨⟨c,dct,dt,sl⟩,hl,hc,n,hd⟩:=hL
 replace hc:c= .type "tuple":=hc
 replace hd:dt= .seq items n:=hd
 subst hc hd
 refine aAd F.called_enumerate (by decide) (F.typeCall_enumerate_1 _) (F.newCall_enumerate_1 _) (fun obj=>yv obj _) F.entry_enumerate_new
  (sW l items n dct sl) ⟨hl,?_⟩
 have hz:(s.heap.push { cls:= .type "tuple_iterator",data:= .fields #[.ref l,.int 0 0] }).objs.size=s.heap.objs.size+1:=ip ..
 show _/\_
 rw[hz]
 have he:IsEnum ((s.heap.push { cls:= .type "tuple_iterator",data:= .fields #[.ref l,.int 0 0] }).push
   { cls:= .type "enumerate",data:= .fields #[.none,.bool false,.ref s.heap.objs.size,rawInt 0,.none,.none] }) (s.heap.objs.size+1) s.heap.objs.size 0 .none:=by
  have:=be (s.heap.push { cls:= .type "tuple_iterator",data:= .fields #[.ref l,.int 0 0] })
   (o:={ cls:= .type "enumerate",data:= .fields #[.none,.bool false,.ref s.heap.objs.size,rawInt 0,.none,.none] }) rfl
  rw[hz] at this;exact this
 refine⟨⟨_,he,rfl⟩,h _ he ⟨_,ah _ (be _ rfl),rfl,rfl⟩ (by rw[ip,hz]) fun b o x=>ah _ (ah _ x)⟩
end
def Itet(K : PySem.W.Frag)(a : Addr) : It:=
  ⟨fun i H => ∃xs x,aT K H a xs /\ xs[i]? = some x,
   fun i H x H' => ∃t,H t = none /\ x = .ref t /\ ∀xs,aT K H a xs -> ∃u,xs[i]? = some u /\ H' = aN H t (.tup [.int i,u]),
   fun i H => ∃xs,aT K H a xs /\ xs.length <= i⟩
def aK9{P:Program}{w:World}{K:PySem.W.Frag}{elts:List Expr}{x1:Nat}{pos:Pos}(a n:Addr)(han:a<n) :
  qL P w K (.Tuple elts x1 pos) (Itet K a) [n,n+1] (n+1) (fun i h=>(∃old,IsEnum h (n+1) n i old)/\h.IsTupleIter n a i) where
 mem:=by simp
 obj:=fun i h Z c hc=>by
  obtain⟨⟨old,he⟩,⟨o1,e1,c1,d1⟩⟩:=Z
  simp only[List.mem_cons,List.not_mem_nil,or_false] at hc
  rcases hc with rfl|rfl
  ·exact⟨_,e1,fun v z=>by rw[d1] at z;cases z⟩
  ·exact⟨_,he,fun v z=>by cases z⟩
 keep:=fun i h h' Z k=>⟨let⟨old,he⟩:=Z.1;⟨old,k _ (by simp) _ he⟩,let⟨o,e,r⟩:=Z.2;⟨o,k _ (by simp) o e,r⟩⟩
 item:=by
  intro X hP hw hK hc i pins s σ H E I hf Z hg
  subst hP hw hK
  obtain⟨xs,x,q1,hx⟩:=hg
  obtain⟨its,rv,pl,_⟩:=I.tuple q1
  obtain⟨u,hu,ru⟩:=rv.get hx
  obtain⟨⟨old,he⟩,hit⟩:=Z
  have d0:n+1≠n:=Nat.succ_ne_self n
  have hil:i<its.toArray.size:=by
   have:=(bz.mp hu).1
   simpa using this
  refine wpAny_pyNext_enum_itemD (fp:=[n,a]) (P:=fun i v=>its.toArray[i]?=some v) (aU3 (A:=X.A.in1) (I.ok.hd hc) n a (bv han) its.toArray) he ⟨hit,pl⟩ hil d0 (fun z=>by
   simp only[List.mem_cons,List.not_mem_nil,or_false] at z
   rcases z with z|z
   ·exact d0 z
   ·exact absurd z (jj (vf han))) fun x' g tk px z1 j1 T1 _ k1=>?_
  have exu:x'=u:=by
   have:its[i]?=some x':=by simpa using px
   rw[hu] at this
   exact(cq this).symm
  subst exu
  refine⟨_,rfl,uz z1 fun g2 z2 sb=>?_⟩
  have nT:s.heap.objs.size≠n+1:=jj (aw he)
  have lt:∀c∈[n,n+1],c<s.heap.objs.size:=fun c hc=>by
   simp only[List.mem_cons,List.not_mem_nil,or_false] at hc
   rcases hc with rfl|rfl
   ·obtain⟨o1,e1,_⟩:=hit
    exact aw e1
   ·exact aw he
  have kk:∀c o,c∉[n,n+1]->s.heap.get? c=some o->g2.get? c=some o:=fun c o hc e=>by
   simp only[List.mem_cons,List.not_mem_nil,or_false,not_or] at hc
   exact(sb.2 c hc.2).trans (k1 c o hc.2 hc.1 e)
  have TT:g2.get? s.heap.objs.size=some { cls:= .type "tuple",data:= .seq #[.int i tk,x'] }:=(sb.2 _ nT).trans T1
  have I2:=I.turnedNew (T:=s.heap.objs.size) (o:= .tup [.int i,x]) (rs:=[n,n+1]) (t':=tk+1) hf kk (af _) ⟨by show 2<=sizeLine;decide,[.int i tk,x'],.cons ⟨_,rfl⟩ (.cons ru .nil),⟨_,TT,rfl,_,rfl,rfl⟩⟩
  refine⟨.ref s.heap.objs.size,_,I2,rfl,⟨_,I.fresh,rfl,fun xs' w1=>⟨x,by rw[I.tuple_inj w1 q1];exact hx,rfl⟩⟩,⟨⟨_,by simpa using z2⟩,?_⟩,fun c hc=>?_⟩
  ·obtain⟨o,e,r⟩:=j1.1
   exact⟨o,(sb.2 _ d0.symm).trans e,r⟩
  rw[aH (bv (lt c hc))]
  exact(hf c hc).1
 done:=by
  intro X hP hw hK hc i pins s σ H E I hf Z hg
  subst hP hw hK
  obtain⟨xs,q1,hx⟩:=hg
  obtain⟨its,rv,pl,_⟩:=I.tuple q1
  obtain⟨⟨old,he⟩,hit⟩:=Z
  have hl:=rv.length
  have hT:s.TypeIs (.ref (n+1)) "enumerate":=⟨_,he,rfl⟩
  unfold pyNext
  refine aa (kr (eu (name:=Str.ofString "__next__") hT yf
   (eg yf hT F.entry_enumerate_next ?_ (F.args_enumerate_next_1 _))))
  show wpAny _ _ (field (.ref (n+1)) 2>>=_) _ _ _
  refine aa (fk he rfl (x:= .ref n) rfl ?_)
  refine aa (nA (I.ok.hd hc) hit pl (by simp;lia) fun g x he' hx'=>?_)
  obtain⟨o,ho,hc'⟩:=hx'
  refine aa (jg (T:="StopIteration") (b:=true) ⟨o,ho,hc'⟩ ua ?_)
  refine am ⟨rfl,I.turnedL (rs:=[n,n+1]) (t':=s.toks) hf fun c o hc e=>?_⟩
  simp only[List.mem_cons,List.not_mem_nil,or_false,not_or] at hc
  exact he' c o hc.1 e
 self:=fun _ _ _ _ _ Z h=>by
  obtain⟨⟨old,he⟩,_⟩:=Z
  exact pf he h
def bZ1(K:PySem.W.Frag)(ta:TA):TI:=fun σ H R=>ta σ H fun vs H1=>∃a,vs=[.ref a]/\(∃xs,aT K H1 a xs)/\R (Itet K a) H1
def bI0{X:Cx}{a:Expr}{ta:TA}{p pos:Pos}{elts:List Expr}{x1:Nat}{tpos:Pos}(hg:Gl X "enumerate")(hm:X.mg "enumerate"=none)(ha:PA X [a] ta)(hs:starEach [a] X.env=[(false,eval a X.env)]:=by rfl) :
  PI X (.Tuple elts x1 tpos) (.Call (.Name "enumerate" p) [a] [] pos) (bZ1 X.K ta):=by
 intro pins s σ H R I h
 refine gr (iV I hg hm uk (fq (cW (ha pos pins s σ H _ I h) ?_) hs rfl));rintro us s1 ⟨vs,H1,I1,r1,q1⟩
 obtain⟨a',rfl,⟨xs,q1⟩,q⟩:=q1
 obtain⟨u,rfl,ru⟩:=jD r1
 cases ru
 obtain⟨its,_,pl,_⟩:=I1.tuple q1
 have la:a'<s1.heap.objs.size:=by
  obtain⟨o,e,_⟩:=id pl
  exact aw e
 refine uW pl fun g he hit _ k=>pf he ?_
 have I2:aV X pins σ H1 { s1 with heap:=g }:=I1.kept (t':=s1.toks) k
 refine⟨s1.heap.objs.size+1,_,_,Itet X.K a',H1,rfl,I2,aK9 a' s1.heap.objs.size la,⟨⟨_,he⟩,hit⟩,fun c hc=>?_,q⟩
 have hge:s1.heap.objs.size<=c:=by
  simp only[List.mem_cons,List.not_mem_nil,or_false] at hc
  rcases hc with rfl|rfl
  ·exact af _
  ·exact jq ..
 exact I1.fpOk hge (I1.hok.fresh hge)
def aS1{K:PySem.W.Frag}{a:Addr}{xs:List V}{g:TG}{tb:TS}{D:fG}{σ:St}{H:Hp}(Pv:Nat->St->Hp->Prop)(h0:Pv 0 σ H)(hl:∀i σ H,i<=xs.length->Pv i σ H->aT K H a xs)
  (hs:∀i x σ H t,xs[i]?=some x->Pv i σ H->H t=none->g (.ref t) σ (aN H t (.tup [.int i,x])) fun σ2 H2=>tb { D with nx:=Pv (i+1),ct:=Pv (i+1),bk:=D.nx } σ2 H2) (hd:∀σ H,Pv xs.length σ H->D.nx σ H) :
  ∃W:Nat->Nat->St->Hp->Prop,(∃m,W 0 m σ H)/\∀i m σ H,W i m σ H ->
   ((Itet K a).stop i H/\D.nx σ H)\/((Itet K a).go i H/\∃N:St->Hp->Prop,(∀σ' H',N σ' H'->∃m',m'<m/\W (i+1) m' σ' H')/\∀x H',(Itet K a).yld i H x H'->g x σ H' fun σ2 H2=>tb { D with nx:=N,ct:=N,bk:=D.nx } σ2 H2):=by
 refine⟨fun i m σ H=>m=xs.length-i/\i<=xs.length/\Pv i σ H,⟨xs.length,by simp,bi _,h0⟩,?_⟩
 rintro i m σ H ⟨rfl,hi,p⟩
 have q:=hl i σ H hi p
 by_cases hlt:i<xs.length
 ·refine .inr ⟨⟨xs,xs[i],q,by simp[hlt]⟩,Pv (i+1),fun σ' H' p'=>⟨xs.length-(i+1),fw hlt (dz i),rfl,hlt,p'⟩,fun x H' y=>?_⟩
  obtain⟨t,ht,rfl,w⟩:=y
  obtain⟨u,e1,rfl⟩:=w xs q
  exact hs i u σ H t e1 p ht
 ·have e:i=xs.length:=by lia
  subst e
  exact .inl ⟨⟨xs,q,af _⟩,hd σ H p⟩
open PySem PySem.Spec PyProof.Rows
section
variable {prog:Program}{w:World}{A:Around}{E:Value->Shared->Prop}{s:Shared}
end
section
variable {X:Cx}{pins:List (Addr×Obj)}{σ:St}{H:Hp}{s:Shared}{a:Addr}{y v:V}{u r:Value}{A:Around}{E:Value->Shared->Prop}
end
section
variable {X:Cx}{pins:List (Addr×Obj)}{σ:St}{H:Hp}{s:Shared}{A:Around}{E:Value->Shared->Prop}
end
open PySem PySem.Spec PyProof.Rows PySem.W
def eM(n:Nat)(p:Array Nat):Prop:=p.Perm (List.range n).toArray
def eM.get{n:Nat}{p:Array Nat}(h:eM n p)(h0:0<n)(x:Nat):p.getD x 0<n:=by
 by_cases c:x<p.size
 ·have e:p.getD x 0=p[x]:=by simp[Array.getD,c]
  have m:p[x]∈(List.range n).toArray.toList:=(je.mp h).mem_iff.mp (by simp)
  rw[e]
  simpa using m
 ·have e:p.getD x 0=0:=by simp[Array.getD,c]
  lia
def eM.rev{n:Nat}{p:Array Nat}(h:eM n p)(i j:Nat):eM n (kas_rev p i j):=(mirror_perm p i j _).trans h
section
variable {n:Nat}(h0:0<n)
include h0
end
open PySem PySem.Spec PyProof.Rows PySem.W HT
def cW6(h:Heap)(v:Value):Prop:=∃(a:Addr) (its:Array Value) (ns:List Int),v= .ref a/\IsTup h a its/\IntsAre its.toList ns
def aD3:∀{us:List Value}{ns:List Int},IntsAre us ns->∀{v:Value},v∈us->∃x t,v=Value.int x t
 |_,_,.cons n t r,v,h=>by
  rcases az.mp h with rfl|h
  ·exact⟨_,_,rfl⟩
  ·exact aD3 r h
section
variable {prog:Program}{w:World}{A:Around}{E:Value->Shared->Prop}{s:Shared}
def pN{α β:Type}{f:α->Sem β}{P:β->Prop}:∀(l:List α) {Q:List β->Shared->Prop},(∀v∈l,∀Q':β->Shared->Prop,(∀r,P r->Q' r s)->wpAny (model prog w) A (f v) Q' E s)->(∀rs,(∀r∈rs,P r)->Q rs s)->wpAny (model prog w) A (List.mapM f l) Q E s
 |[],Q,_,q=>by rw[List.mapM_nil];exact am (q [] fun r h=>absurd h di)
 |v::l,Q,h,q=>by
  rw[List.mapM_cons]
  refine aa (h v aj _ fun r pr=>?_)
  refine aa (pN l (fun v' h'=>h v' (ae _ h')) fun rs prs=>?_)
  refine am (q _ fun r' h'=>?_)
  rcases az.mp h' with rfl|h'
  ·exact pr
  ·exact prs _ h'
def qB{l:List Value}{Q:Option Value->Shared->Prop}(h:∀v∈l,∃T,s.TypeIs v T)(q:∀r,Q r s):wpAny (model prog w) A (oneTypeOnly' l.toArray) Q E s:=by
 rw[oneTypeOnly'_eq,List.mapM_toArray]
 refine aa ?_
 show wpAny _ _ (List.mapM typeOf l>>=fun a=>pure a.toArray) _ _ _
 refine aa (pN (P:=fun _=>True) l (fun v hv Q' hQ'=>?_) fun rs _=>am ?_)
 ·obtain⟨T,ht⟩:=h v hv
  exact rl ht (hQ' _ trivial)
 ·split
  ·exact am (q _)
  ·exact am (q _)
def aZ7{vs:List Value}{Q:SortKind->Shared->Prop}(h:∀v∈vs,cW6 s.heap v)(q:∀κ,(κ=general'\/κ=oneType'\/∃b,κ=tuples' b)->Q κ s):wpAny (model prog w) A (keyKind' vs.toArray) Q E s:=by
 rw[kat_kind_eq,List.mapM_toArray]
 refine aa ?_
 show wpAny _ _ (List.mapM firstOfTuple' vs>>=fun a=>pure a.toArray) _ _ _
 refine aa (pN (P:=fun r:Option Value=>∀v,r=some v->∃x t,v=Value.int x t) vs (fun v hv Q' hQ'=>?_) fun rs prs=>am ?_)
 ·obtain⟨a,its,ns,rfl,⟨o,ho,hc,n,hd⟩,ix⟩:=h v hv
  show wpAny _ _ (typeOf _>>=_) _ _ _
  refine aa (rl (T:="tuple") ⟨o,ho,hc⟩ ?_)
  rw[ai (by simp)]
  refine aa (listItems_at ho hd (am (hQ' _ fun v hv=>?_)))
  have:v∈its.toList:=by
   have:=Array.mem_of_getElem? hv
   simpa using this
  exact aD3 ix this
 ·split
  ·refine aa (me ?_)
   have e:(Array.filterMap id rs.toArray)=(rs.filterMap id).toArray:=by simp
   rw[e]
   refine aa (qB (fun v hv=>?_) fun r=>am (q _ (.inr (.inr ⟨_,rfl⟩))))
   obtain⟨r,hr,er⟩:=uf.mp hv
   obtain⟨x,t,rfl⟩:=prs r hr v er
   exact⟨_,rm s x t⟩
  ·split
   ·exact am (q _ (.inl rfl))
   ·refine aa (qB (fun v hv=>?_) fun r=>am (q _ ?_))
    ·obtain⟨a,its,ns,rfl,⟨o,ho,hc,n,hd⟩,ix⟩:=h v hv
     exact⟨"tuple",o,ho,hc⟩
    ·split
     ·exact .inr (.inl rfl)
     ·exact .inl rfl
end
open PySem PySem.Spec PyProof.Rows
section
variable {prog:Program}{w:World}{A:Around}{E:Value->Shared->Prop}{s:Shared}
end
section
variable {g:TG}{tc:TT}{te:TE}
end
section
variable {X:Cx}
end
def ItR(K:PySem.W.Frag)(a:Addr)(n:Nat):It:=
 ⟨fun i H=>∃xs,bR K H a xs/\xs.length=n/\i<n,fun i H x H'=>H'=H/\∀ys,bR K H a ys->ys.reverse[i]?=some x,fun i H=>∃xs,bR K H a xs/\xs.length=n/\n<=i⟩
def bD3{P:Program}{w:World}{K:PySem.W.Frag}{tg:Expr}(a it:Addr)(n:Nat)(ne:a≠it):qL P w K tg (ItR K a n) [it] it (fun i h=>i<=n/\h.IsRevIter it a ((n:Int)-1-(i:Int))) where
 mem:=by simp
 obj:=fun i h st b hb=>by
  have e:b=it:=by simpa using hb
  subst e
  obtain⟨_,o,e,c,d⟩:=st
  exact⟨o,e,fun v z=>by rw[d] at z;cases z⟩
 keep:=fun i h h' st k=>⟨st.1,let⟨o,e,r⟩:=st.2;⟨o,k it (by simp) o e,r⟩⟩
 item:=by
  intro X hP hw hK hc i pins s σ H E I hf st hg
  subst hP hw hK
  obtain⟨xs,hq,hn,hi⟩:=hg
  obtain⟨its,rv,p,hz⟩:=I.list hq
  have hl:=rv.length
  have sz:its.toArray.size=n:=by rw[bf];lia
  obtain⟨f0,f1,f2,f3,f4,f5⟩:=hf it (by simp)
  have Wk:=Walks.listRev (prog:=X.prog) (w:=X.w) (A:=X.A) (I.ok.hd hc) it a ne its.toArray
  refine Wk.item i s _ _ (by lia) ⟨by lia,by rw[sz];exact st.2,p.isList⟩ fun v h' tk pv st' kp=>?_
  have I1:aV X pins σ H { s with heap:=h',toks:=tk }:=I.turned (t':=tk) (fun b o hb e=>kp b o (by simpa using hb) e) f0 f1 f3 f4 f5
  have hx:i<xs.reverse.length:=by rw[ig];lia
  obtain⟨u,hu,ru⟩:=rv.get (show xs[xs.length-1-i]?=some (xs[xs.length-1-i]'(by lia)) from bw (by lia))
  obtain⟨o,e,c,d⟩:=id st'.2.1
  have ev:v=u:=by
   have:its.toArray[its.toArray.size-1-i]?=some v:=pv
   rw[sz, <-hn] at this
   have t2:its[xs.length-1-i]?=some v:=by simpa using this
   rw[hu] at t2
   exact(cq t2).symm
  subst ev
  refine⟨_,rfl,go_of (s:={ s with heap:=h',toks:=tk }) e c d (by decide) ⟨xs[xs.length-1-i]'(by lia),H,I1,ru,⟨rfl,fun ys hy=>?_⟩,⟨by lia,by have:=st'.2.1;rw[sz] at this;exact this⟩,fun b hb=>(hf b hb).1⟩⟩
  rw[I.list_inj hy hq,qv (by lia)]
  exact bw (by lia)
 done:=by
  intro X hP hw hK hc i pins s σ H E I hf st hg
  subst hP hw hK
  obtain⟨xs,hq,hn,hi⟩:=hg
  obtain⟨its,rv,p,hz⟩:=I.list hq
  have hl:=rv.length
  have sz:its.toArray.size=n:=by rw[bf];lia
  obtain⟨f0,f1,f2,f3,f4,f5⟩:=hf it (by simp)
  have Wk:=Walks.listRev (prog:=X.prog) (w:=X.w) (A:=X.A) (I.ok.hd hc) it a ne its.toArray
  have ei:i=n:=by have:=st.1;lia
  refine Wk.done s _ _ ⟨af _,by rw[sz, <-ei];have:=st.2;rw[<-ei] at this;exact this,p.isList⟩ fun h' tk kp=>⟨rfl,I.turned (t':=tk) (fun b o hb e=>kp b o (by simpa using hb) e) f0 f1 f3 f4 f5⟩
 self:=fun _ _ _ _ _ st h=>yw st.2 h
def cW2(K:PySem.W.Frag)(te:TE):TI:=fun σ H R=>te σ H fun x H1=>∃a ys,x= .ref a/\bR K H1 a ys/\R (ItR K a ys.length) H1
def cI3{X:Cx}{tg:Expr}{e:Expr}{te:TE}{p2 pos2:Pos}(he:PE X e te)(g2:Gl X "reversed")(m2:X.mg "reversed"=none)(hs2:starEach [e] X.env=[(false,eval e X.env)]:=by rfl) :
  PI X tg (.Call (.Name "reversed" p2) [e] [] pos2) (cW2 X.K te):=by
 intro pins s σ H R I h
 refine gr (iV I g2 m2 vb (fq ?_ hs2 rfl))
 rw[hs2]
 refine mh (cW (he pins s σ H _ I h) ?_);rintro u s1 ⟨x,H1,I1,r1,a,ys,ex,hq,q⟩;refine oz ?_
 subst ex
 cases r1
 obtain⟨its,rv,pl,hz⟩:=I1.list hq
 have il:=pl.isList
 have len:=rv.length
 have sz:its.toArray.size=ys.length:=by rw[bf];lia
 have aLt:a<s1.heap.objs.size:=by
  obtain⟨o,e,_⟩:=il
  exact aw e
 refine call_reversed_list il ?_
 have st:(s1.heap.push (revObj a ((its.toArray.size:Int)-1))).IsRevIter s1.heap.objs.size a ((ys.length:Int)-1-((0:Nat):Int)):=by
  rw[sz,Int.natCast_zero,Int.sub_zero]
  exact⟨_,be _ rfl,rfl,rfl⟩
 refine yw st ?_
 refine⟨s1.heap.objs.size,[s1.heap.objs.size],_,ItR X.K a ys.length,H1,rfl,I1.kept (t':=s1.toks) fun b o e=>ah _ e,bD3 a _ ys.length (bv aLt),⟨bi _,st⟩,fun b hb=>?_,q⟩
 have e:b=s1.heap.objs.size:=by simpa using hb
 subst e
 exact I1.fpOk (af _) (I1.hok.fresh (af _))
def aY5{K:PySem.W.Frag}{a:Addr}{xs:List V}{g:TG}{tb:TS}{D:fG}{σ:St}{H:Hp}(Pv:Nat->St->Hp->Prop)(z0:Pv 0 σ H)(zl:∀i σ H,i<=xs.length->Pv i σ H->bR K H a xs)
  (zs:∀(D':fG),∀i x σ H,xs.reverse[i]?=some x->Pv i σ H->g x σ H fun σ2 H2=>tb { D' with nx:=Pv (i+1),ct:=Pv (i+1),bk:=D'.nx } σ2 H2) (zd:∀σ H,Pv xs.length σ H->D.nx σ H) :
  ∃W:Nat->Nat->St->Hp->Prop,(∃m,W 0 m σ H)/\∀i m σ H,W i m σ H ->
   ((ItR K a xs.length).stop i H/\D.nx σ H)\/((ItR K a xs.length).go i H/\∃N:St->Hp->Prop,(∀σ' H',N σ' H'->∃m',m'<m/\W (i+1) m' σ' H')/\∀x H',(ItR K a xs.length).yld i H x H'->g x σ H' fun σ2 H2=>tb { D with nx:=N,ct:=N,bk:=D.nx } σ2 H2):=by
 refine⟨fun i m σ H=>m=xs.length-i/\i<=xs.length/\Pv i σ H,⟨xs.length,rfl,bi _,z0⟩,?_⟩
 rintro i m σ H ⟨rfl,le,p⟩
 have q:=zl i σ H le p
 by_cases c:i<xs.length
 ·exact .inr ⟨⟨xs,q,rfl,c⟩,Pv (i+1),fun σ' H' p'=>⟨xs.length-(i+1),by lia,rfl,c,p'⟩,fun x H' ⟨e,y⟩=>by
   subst e
   exact zs D i x σ _ (y xs q) p⟩
 ·obtain rfl:i=xs.length:=by lia
  exact .inl ⟨⟨xs,q,rfl,af _⟩,zd σ H p⟩
section
variable {X:Cx}
def mJ:eU X (.type "dict") (fun xs H Q=>∃(p:Addr) (kvs:List (Key×V)),xs=[.ref p]/\H p=some (.dK kvs)/\∀d,H d=none->Q (.ref d) (aN H d (.dK kvs))):=by
 intro pins s σ H xs us Q I r h
 obtain⟨p,kvs,rfl,hp,q⟩:=h
 obtain⟨u,rfl,ru⟩:=jD r
 cases ru
 obtain⟨z,hd,vs,rel,dd⟩:=aN9 I.hok hp
 refine kt_call_dict hd dd (by rw[<-rel.length];exact z) fun h' hm hs=>?_
 refine⟨.ref s.heap.objs.size,_,I.laid (t':=s.toks) (o:= .dK kvs) (fun b o e=>(hs.2 b (bv (aw e))).trans (ah _ e)) (af _) ?_,rfl,q _ (I.hok.fresh (af _))⟩
 exact aH8 z (ie.mpr (Ne.symm (bv I.big))) rel hm
def rCatA:R2:=fun x y H Q=>∃a b xs ys,x= .ref a/\y= .ref b/\H a=some (.tup xs)/\H b=some (.tup ys)/\xs.length+ys.length<=sizeLine/\∀r H',aR H H'->H' r=some (.tup (xs++ys))->Q (.ref r) H'
def rN:kM X (binaryOp .Add) rCatA:=by
 intro pins s σ H x y v u Q I rx ry h
 obtain⟨a,b,xs,ys,rfl,rfl,ha,hb,hz,q⟩:=h
 by_cases hx:xs=[]
 ·subst hx
  cases rx
  cases ry
  obtain⟨its,r1,p1,_⟩:=I.tuple (aT.of ha)
  obtain⟨its2,r2,p2,_⟩:=I.tuple (aT.of hb)
  cases r1
  obtain⟨⟨cls,dd,data,sl⟩,ho,hc,n,hd⟩:=id p1
  obtain⟨⟨cls2,dd2,data2,sl2⟩,ho2,hc2,n2,hd2⟩:=id p2
  simp only at hc hd hc2 hd2
  subst hc hd hc2 hd2
  exact aAa ⟨_,ho,rfl⟩ ⟨_,ho2,rfl⟩ vv zi qc ox (on _ _)
   (tuple_addW0 a b _ its2.toArray n n2 dd dd2 sl sl2 (by simp)) ⟨ho,ho2,.ref b,H,I,rfl,q b H (aR.refl _) hb⟩
 ·refine bS2 pins s σ H _ _ v u Q I rx ry ⟨a,b,xs,ys,rfl,rfl,aT.of ha,aT.of hb,hx,hz,fun e=>?_,fun _ p hp=>q p _ (aC hp _) aD⟩
  subst e
  exact q a H (aR.refl _) (by rw[jk];exact ha)
end
section
variable {prog:Program}{w:World}{A:Around}{E:Value->Shared->Prop}{s:Shared}
end
section
variable {X:Cx}{pins:List (Addr×Obj)}{σ:St}{H:Hp}{s:Shared}{A:Around}{E:Value->Shared->Prop}
end
section
variable {prog:Program}{w:World}{K:Type} [DecidableEq K] {knd:KeyKind prog w K}{A:Around}{E:Value->Shared->Prop}{s:Shared}
end
section
variable {X:Cx}
def lH:∀{ps:List Addr}{us:List Value},bC (ps.map V.ref) us->us=ps.map Value.ref
 |[],_,h=>by cases h;rfl
 |p::r,_,h=>by
  rw[bt] at h
  cases h with
  |cons h1 h2=>rw[lH h2,show _=Value.ref p from h1];rfl
end
end L2
namespace PySem
namespace F
def bS9:Slot "reversed" "__init__" "object.__init__" :=
 .of (owner:="object") (n:="__init__") (by rw[typeLookup_type,builtinLookup_eq_fast];kernel_rfl) (by decide) (by decide) (by decide)
  (by first|exact .inl (by decide)|exact .inr (by decide)) (by rw[isSubtype_type];kernel_rfl)
def called_reversed:TypeCalled "reversed" "reversed.__new__" "object.__init__" :=
 ⟨by decide,by decide,⟨_,_,mro_reversed⟩,made_reversed,by decide,sub_reversed_self,bS9⟩
def aA8:Manifest.owners.lookup (String.ofList ['d', 'e', 's', 'r', 'e', 'v', 'e', 'r'].reverse)=some Manifest.sig_reversed:=by kernel_rfl
def rv_next:Slot "reversed" "__next__" "reversed.__next__" :=
 .of (owner:="reversed") (n:="__next__") (by rw[typeLookup_type,builtinLookup_eq_fast];kernel_rfl) (by decide) (by decide) (by decide)
  (by first|exact .inl (by decide)|exact .inr (by decide)) (by rw[isSubtype_type];kernel_rfl)
def rv_entry_next:entryFor table "reversed.__next__"=some Builtin.«reversed.__next__» :=entryFor_of_tree (by kernel_rfl)
def rv_args_next(a:Value):argsOk "reversed.__next__" ⟨[a],[]⟩:=by
 unfold argsOk;rw[signature?_of (id:="reversed.__next__") (n:=['_', '_', 't', 'x', 'e', 'n', '_', '_']) (o:=['d', 'e', 's', 'r', 'e', 'v', 'e', 'r']) (by kernel_rfl) aA8];kernel_rfl
def rv_iter:Slot "reversed" "__iter__" "reversed.__iter__" :=
 .of (owner:="reversed") (n:="__iter__") (by rw[typeLookup_type,builtinLookup_eq_fast];kernel_rfl) (by decide) (by decide) (by decide)
  (by first|exact .inl (by decide)|exact .inr (by decide)) (by rw[isSubtype_type];kernel_rfl)
def rv_args_iter(a:Value):argsOk "reversed.__iter__" ⟨[a],[]⟩:=by
 unfold argsOk;rw[signature?_of (id:="reversed.__iter__") (n:=['_', '_', 'r', 'e', 't', 'i', '_', '_']) (o:=['d', 'e', 's', 'r', 'e', 'v', 'e', 'r']) (by kernel_rfl) aA8];kernel_rfl
def rv_entry_iter:entryFor table "reversed.__iter__"=some Builtin.«dict_keyiterator.__iter__» :=
 entryFor_alias (id':="dict_keyiterator.__iter__") (by kernel_rfl) (by first|rfl|decide|(unfold String.splitOn;simp +decide [String.splitOnAux])) (by decide) (by kernel_rfl)
def rv_tup_rev:typeLookup (.type "tuple") "__reversed__"=pure none:=by rw[typeLookup_type,builtinLookup_eq_fast];kernel_rfl
def rv_tup_dict:isSubtype (.type "tuple") (.type "dict")=pure false:=by rw[isSubtype_type];kernel_rfl
end F
end PySem
namespace PySem
section
variable {prog:Program}{w:World}{A:Around}{E:Value->Shared->Prop}{s:Shared}
def aJ5(l:Addr)(i:Int):Obj:={ cls:= .type "reversed",data:= .fields #[.ref l,rawInt i] }
def Heap.IsTRev(h:Heap)(a l:Addr)(i:Int):Prop:=∃o,h.get? a=some o/\o.cls= .type "reversed"/\o.data= .fields #[.ref l,rawInt i]
def Heap.IsTRev.typeIs{a l:Addr}{i:Int}(x:s.heap.IsTRev a l i):s.TypeIs (.ref a) "reversed":=let⟨o,ho,hc,_⟩:=x;⟨o,ho,hc⟩
def Heap.IsTRev.at{h h':Heap}{a l:Addr}{i:Int}(x:h.IsTRev a l i)(e:∀o,h.get? a=some o->h'.get? a=some o):h'.IsTRev a l i:=let⟨o,ho,r⟩:=x;⟨o,e _ ho,r⟩
def bM5(l:Addr)(items:Array Value):Meets (Builtin.«reversed.__new__» ⟨[.type "reversed",.ref l],[]⟩) (fun _ R s=>s.heap.IsTuple l items/\(items.size:Int)<2^63 /\
   ∀tk,R (.ok (.ret (.ref s.heap.objs.size))) { s with heap:=s.heap.push (aJ5 l ((items.size:Int)-1)),toks:=tk }):=
 .of_wp fun prog w A R s h=>by
  obtain⟨q,g,d,tk,os⟩:=s;obtain⟨t1,fit,h⟩:=h
  unfold Builtin.«reversed.__new__»
  refine wpAny_bind (wpAny_of_eq (newClass_reversed _) ?_)
  try dsimp only
  refine wpAny_bind (wpAny_of_eq (a:=()) (by first|rfl|kernel_rfl) ?_)
  refine wpAny_bind (wpAny_of_eq (a:=()) (by first|rfl|kernel_rfl) ?_)
  try dsimp only
  refine wpAny_bind (wpAny_specialOf t1.typeIs F.rv_tup_rev ?_)
  try dsimp only
  have hT:(⟨q,g,d,tk,os⟩:Shared).TypeIs (.ref l) "tuple":=t1.typeIs
  have f1:=F.rv_tup_dict
  have f2:=PyProof.Rows.slot_tuple_getitem.lookup
  have T1:PyProof.Rows.IsTup (Shared.heap ⟨q,g,d,tk,os⟩) l items:=t1
  wp_walk using PyProof.Rows.len_tuple T1 fit
  exact⟨_,rfl,h _⟩
def nY{l:Addr}{items:Array Value}{Q:Value->Shared->Prop}(hl:s.heap.IsTuple l items)(hf:(items.size:Int)<2^63)
  (h:∀tk,Q (.ref s.heap.objs.size) { s with heap:=s.heap.push (aJ5 l ((items.size:Int)-1)),toks:=tk }):wpAny (model prog w) A (call (.type "reversed") [.ref l]) Q E s:=by
 refine callType_new F.called_reversed (by decide) (F.typeCall_reversed_1 _) (F.newCall_reversed_1 _) (fun obj=>F.args_object_init_2 obj _) F.entry_reversed_new (bM5 l items) ⟨hl,hf,fun tk=>?_⟩
 exact⟨⟨_,Heap.get?_push_size _ rfl,rfl⟩,h tk⟩
def jY{it l:Addr}{i:Nat}{items:Array Value}{x:Value}{Q:Option Value->Shared->Prop}(hit:s.heap.IsTRev it l (i:Int))(hl:s.heap.IsTuple l items)(hf:(items.size:Int)<2^63)(hx:items[i]?=some x)
  (hQ:∀h' tk,h'.IsTRev it l ((i:Int)-1)->Heap.SameBut it s.heap h'->Q (some x) { s with heap:=h',toks:=tk }):wpAny (model prog w) A (pyNext (.ref it)) Q E s:=by
 obtain⟨o,ho,hc,hd⟩:=id hit
 have hlt:i<items.size:=by
  rw[Array.getElem?_eq_some_iff] at hx
  exact hx.1
 unfold pyNext
 refine wpAny_bind (wpAny_attempt (wpAny_callSpecial?_slot (name:=Str.ofString "__next__") hit.typeIs F.rv_next
  (wpAny_call_entry F.rv_next hit.typeIs F.rv_entry_next ?_ (F.rv_args_next _))))
 unfold Builtin.«reversed.__next__»
 refine wpAny_bind (wpAny_of_eq (a:=(Value.ref it,[])) rfl ?_)
 try dsimp only
 refine wpAny_bind (wpAny_field ho hd (x:= .ref l) rfl ?_)
 refine wpAny_bind (wpAny_field ho hd (x:=rawInt (i:Int)) rfl ?_)
 show wpAny _ _ (if (i:Int)<0 then _ else _) _ _ s
 rw[if_neg (by lia)]
 refine(show wpAny _ _ (specialOf (.ref l) "__getitem__" >>= _) _ _ s from wpAny_bind (wpAny_specialOf hl.typeIs PyProof.Rows.slot_tuple_getitem.lookup ?_))
 show wpAny _ _ (mkInt (i:Int)>>=_) _ _ s
 refine wpAny_bind (wpAny_mkInt ?_)
 refine wpAny_bind (wpAny_attempt (PyProof.Rows.getItem_tuple (j:=i) (x:=x) (show PyProof.Rows.IsTup _ l items from hl) (by lia) (by lia) (by unfold seqIndex?;simp;lia) hx ?_))
 show wpAny _ _ (field (.ref it) 1>>=_) _ _ _
 refine wpAny_bind (wpAny_field ho hd (x:=rawInt (i:Int)) rfl ?_)
 show wpAny _ _ (setField (.ref it) 1 (rawInt ((i:Int)-1))>>=_) _ _ _
 refine wpAny_bind (wpAny_setField ho hd (by simp) ?_)
 first
 |refine wpAny_pure ⟨x,rfl,wpAny_pure (hQ _ _ ?_ (Heap.SameBut.update ..))⟩
 |refine wpAny_bind (wpAny_pure (wpAny_pure ⟨x,rfl,wpAny_pure (hQ _ _ ?_ (Heap.SameBut.update ..))⟩))
 exact⟨_,Heap.get?_update_self _ ho (Obj.isFreed_of_fields (Obj.data_mapFields hd _)),(Obj.cls_mapFields ..).trans hc,by
  rw[Obj.data_mapFields hd];simp⟩
def kI{it l:Addr}{Q:Option Value->Shared->Prop}(hh:A.handled=none)(hit:s.heap.IsTRev it l (-1))
  (hQ:∀h',Heap.ExtBut it s.heap h'->Q none { s with heap:=h' }):wpAny (model prog w) A (pyNext (.ref it)) Q E s:=by
 obtain⟨o,ho,hc,hd⟩:=id hit
 unfold pyNext
 refine wpAny_bind (wpAny_attempt (wpAny_callSpecial?_slot (name:=Str.ofString "__next__") hit.typeIs F.rv_next
  (wpAny_call_entry F.rv_next hit.typeIs F.rv_entry_next ?_ (F.rv_args_next _))))
 unfold Builtin.«reversed.__next__»
 refine wpAny_bind (wpAny_of_eq (a:=(Value.ref it,[])) rfl ?_)
 try dsimp only
 refine wpAny_bind (wpAny_field ho hd (x:= .ref l) rfl ?_)
 refine wpAny_bind (wpAny_field ho hd (x:=rawInt (-1)) rfl ?_)
 show wpAny _ _ (if (-1:Int)<0 then _ else _) _ _ s
 rw[if_pos (by decide)]
 refine wpAny_bind (wpAny_rule ?_)
 refine(show wpAny _ _ ((setField (.ref it) 1 (rawInt (-1))>>=fun _=>setField (.ref it) 0 .none)>>=_) _ _ _ from wpAny_bind (wpAny_bind (wpAny_setField ho hd (by simp) ?_)))
 have g1:=Heap.get?_update_self (Obj.mapFields fun x=>x.setIfInBounds 1 (rawInt (-1))) ho (Obj.isFreed_of_fields (Obj.data_mapFields hd _))
 refine wpAny_setField (s:={ s with heap:=s.heap.update it _ }) g1 (Obj.data_mapFields hd _) (by simp) ?_
 have g2:Heap.ExtBut it s.heap ((s.heap.update it (Obj.mapFields fun x=>x.setIfInBounds 1 (rawInt (-1)))).update it (Obj.mapFields fun x=>x.setIfInBounds 0 Value.none)):=fun b o hb e=>(Heap.SameBut.update ..).extBut b o hb ((Heap.SameBut.update ..).extBut b o hb e)
 first
 |show wpAny _ _ (newExc (.type "StopIteration") []>>=_) _ _ _
 |(refine wpAny_bind ?_;show wpAny _ _ (newExc (.type "StopIteration") []>>=_) _ _ _)
 refine wpAny_bind ?_
 simp only[newExc,newTuple]
 refine wpAny_bind (wpAny_newObj_type ?_ (by size_fits))
 refine wpAny_bind (m:=firstArgMember _ _) (wpAny_of_eq (a:=Value.none) (by first|rfl|(simp only[firstArgMember];rfl)) ?_)
 refine wpAny_newObj_type ?_ (by size_fits)
 simp only[raiseNew]
 refine wpAny_bind (wpAny_handled ?_)
 first|rw[show A.in1.handled=none from hh]|rw[hh]
 refine wpAny_bind (wpAny_pure (wpAny_throw ?_))
 refine wpAny_bind (wpAny_isInstance (T:="StopIteration") (b:=true) ⟨_,Heap.get?_push_size _ rfl,rfl⟩ isSubtype_stop ?_)
 exact wpAny_pure (hQ _ ((g2.push _).push _))
def fN{it l:Addr}{i:Int}{Q:Value->Shared->Prop}(hit:s.heap.IsTRev it l i)(h:Q (.ref it) s):wpAny (model prog w) A (pyIter (.ref it)) Q E s:=by
 refine wpAny_pyIter_slot hit.typeIs F.rv_iter (wpAny_call_entry F.rv_iter hit.typeIs F.rv_entry_iter ?_ (F.rv_args_iter _))
 show wpAny _ _ (ret (.ref it)) _ _ s
 exact wpAny_pure ⟨_,rfl,"reversed",_,hit.typeIs,F.rv_next.lookup,h⟩
end
def Walks.tupRev{prog:Program}{w:World}{A:Around}(hh:A.handled=none)(I l:Addr)(hne:l≠I)(items:Array Value)(hf:(items.size:Int)<2^63) :
  Walks prog w A I [I,l] [I] items.size (fun i v=>items[items.size-1-i]?=some v) (fun i h=>i<=items.size/\h.IsTRev I l ((items.size:Int)-1-(i:Int))/\h.IsTuple l items) where
 sub:=fun b hb=>by simp at hb;simp[hb]
 frame:=fun _ _ _ x hk=>⟨x.1,x.2.1.at fun o e=>hk I (by simp) o e,x.2.2.at fun o e=>hk l (by simp) o e⟩
 item:=fun i s Q E hi x hQ=>by
  have e:(items.size:Int)-1-(i:Int)=((items.size-1-i:Nat):Int):=by lia
  have hit:=x.2.1
  rw[e] at hit
  have hx:items[items.size-1-i]?=some (items[items.size-1-i]'(by lia)):=Array.getElem?_eq_getElem (by lia)
  refine jY hit x.2.2 hf hx fun h' tk hit' hs'=>?_
  have e2:((items.size-1-i:Nat):Int)-1=(items.size:Int)-1-((i+1:Nat):Int):=by lia
  rw[e2] at hit'
  exact hQ _ h' tk hx ⟨hi,hit',x.2.2.at fun o eo=>(hs'.2 l hne).trans eo⟩ fun b o hb eo=>hs'.extBut b o (fun h=>hb (by simp[h])) eo
 done:=fun s Q E x hQ=>by
  have e:(items.size:Int)-1-(items.size:Int)= -1:=by lia
  have hit:=x.2.1
  rw[e] at hit
  exact kI hh hit fun h' he'=>hQ h' s.toks fun b o hb eo=>he' b o (fun h=>hb (by simp[h])) eo
 self:=fun _ _ _ _ x hQ=>fN x.2.1 hQ
section
variable {prog:Program}{w:World}{A:Around}{E:Value->Shared->Prop}{s:Shared}
end
end PySem
namespace L2
open PySem PySem.Spec PyProof.Rows
section
variable {prog:Program}{w:World}{A:Around}{E:Value->Shared->Prop}{Q:Value->Shared->Prop}{s:Shared}{it p:Addr}{items:Array Value}
end
open PySem
def lay{H:Hp}{l:Addr}(h:H l=none)(o:HO):∃H2,aN H l o=H2/\aR H H2/\H2 l=some o:=⟨_,rfl,aC h o,aD⟩
def uU:1<=sizeLine:=by decide
def cS:2<=sizeLine:=by decide
end L2
namespace Mine
open PySem L2
def gI(a b:Int):Int:=(Nat.gcd a.toNat b.toNat:Nat)
def bH(a b:Int):Int:=a / gI a b
def bA(a b:Int):Int:=b / gI a b
def xP{a b:Int}(hb:1<=b):0<gI a b:=by
 have:0<Nat.gcd a.toNat b.toNat:=Nat.gcd_pos_of_pos_right _ (by lia);unfold gI;lia
def cI4{a b c:Int}(ha:0<=a)(hb:0<=b)(hc:0<=c):gI (c*a) (c*b)=c*gI a b:=by
 obtain⟨x,rfl⟩:=gi ha;obtain⟨y,rfl⟩:=gi hb;obtain⟨z,rfl⟩:=gi hc;unfold gI;rw[<-kh, <-kh,du,du,du,du,Nat.gcd_mul_left,kh]
def aP0{a b c:Int}(ha:0<=a)(hb:1<=b)(hc:1<=c):bH (c*a) (c*b)=bH a b/\bA (c*a) (c*b)=bA a b:=by
 unfold bH bA;rw[cI4 ha (by lia) (by lia),wx _ _ (by lia),wx _ _ (by lia)];exact⟨rfl,rfl⟩
def nB{a b c d:Int}(ha:0<=a)(hb:1<=b)(hc:0<=c)(hd:1<=d)(h:a*d=c*b):bH a b=bH c d/\bA a b=bA c d:=by
 have e1:=aP0 ha hb hd;have e2:=aP0 hc hd hb;have q1:d*a=b*c:=by rw[sq d a,h,sq]
 have q2:d*b=b*d:=sq _ _;rw[q1,q2] at e1;exact⟨e1.1.symm.trans e2.1,e1.2.symm.trans e2.2⟩
def bM0{a b:Int}(ha:0<=a):gI a b ∣ a:=by
 obtain⟨x,rfl⟩:=gi ha;unfold gI;rw[du];exact wy.mpr (Nat.gcd_dvd_left _ _)
def aO2{a b:Int}(hb:0<=b):gI a b ∣ b:=by
 obtain⟨x,rfl⟩:=gi hb;unfold gI;rw[du];exact wy.mpr (Nat.gcd_dvd_right _ _)
def dG{a b:Int}(ha:0<=a)(hb:1<=b):bH a b*b=a*bA a b:=by
 have h1:=sx (bM0 (b:=b) ha);have h2:=sx (aO2 (a:=a) (b:=b) (by lia));unfold bH bA;generalize a / gI a b=x at h1 ⊢;generalize b / gI a b=y at h2 ⊢;rw[<-h1, <-h2];generalize gI (x*gI a b) (y*gI a b)=g
 grind
def bN{a b:Int}(ha:0<=a):0<=bH a b:=Int.ediv_nonneg ha (by unfold gI;lia)
def bV{a b:Int}(hb:1<=b):1<=bA a b:=by
 have h2:=sx (aO2 (a:=a) (b:=b) (by lia));have g:=xP (a:=a) hb;unfold bA;generalize b / gI a b=y at h2 ⊢
 by_cases z:0<y
 ·lia
 ·have:=cj (show 0<= -y by lia) (jw g);rw[Int.neg_mul] at this;lia
def qV{a b:Int}(ha:0<=a)(hb:1<=b):bH a b<=a:=Int.ediv_le_self _ ha
def oI{a b:Int}(hb:1<=b):bA a b<=b:=Int.ediv_le_self _ (by lia)
def bS7{a b:Int}(ha:0<=a)(hb:1<=b):bH (bH a b) (bA a b)=bH a b/\bA (bH a b) (bA a b)=bA a b:=by
 have:=nB (bN (b:=b) ha) (bV (a:=a) hb) ha hb (by rw[dG ha hb]);exact this
def shN(p q:Int)(n:Nat):Int:=(q-p)*p^n
def gW(p q:Int)(n:Nat):Int:=(q+p)*q^n
def nE(p q:Int)(n:Nat):Int:=q*p^n
def tN(p q k:Int):Int:=if 0<=k then nE p q k.toNat else gW p q (1-k).toNat-nE p q (1-k).toNat
def tD(p q k:Int):Int:=if 0<=k then gW p q k.toNat else gW p q (1-k).toNat
def oQ{p q:Int}(hp:0<=p)(h:p<=q):∀n:Nat,p^n<=q^n
 |0=>by simp
 |n+1=>by
  rw[ge,ge];exact ow (oQ hp h n) h hp (nc (by lia))
def bI8{p q:Int}(hp:1<=p)(h:p<q)(n:Nat):nE p q n<=gW p q n:=by
 unfold nE gW;have h1:=oQ (p:=p) (q:=q) (by lia) (by lia) n;have h2:0<=p^n:=nc (by lia);exact ow (by lia) h1 h2 (by lia)
def jR{p q:Int}(hp:1<=p)(h:p<q)(n:Nat):1<=gW p q n:=by
 have h1:0<q^n:=gh (by lia);have:=dk (show 0<q+p by lia) h1;unfold gW;lia
def bV8{p q:Int}(hp:1<=p)(h:p<q)(n:Nat):0<=nE p q n:=cj (by lia) (nc (by lia))
def cL9{p q:Int}(hp:1<=p)(h:p<q)(n:Nat):0<=shN p q n:=cj (by lia) (nc (by lia))
def cQ3{p q:Int}(hp:1<=p)(h:p<q)(k:Int):0<=tN p q k:=by
 unfold tN;split
 ·exact bV8 hp h _
 ·have:=bI8 hp h (1-k).toNat;lia
def aG2{p q:Int}(hp:1<=p)(h:p<q)(k:Int):1<=tD p q k:=by
 unfold tD;split<;>exact jR hp h _
def bL2{p q:Int}(hp:1<=p)(h:p<q)(k:Int):(shN p q k.natAbs*tD p q (k+1)+tN p q (k+1)*gW p q k.natAbs)*tD p q k=tN p q k*(gW p q k.natAbs*tD p q (k+1)):=by
 unfold tN tD
 by_cases c:0<=k
 ·obtain⟨n,rfl⟩:=gi c;have e1:(0:Int)<=(n:Int)+1:=by lia
  have e2:((n:Int)+1).toNat=n+1:=by lia
  simp only[if_pos c,if_pos e1,e2,Int.natAbs_natCast,Int.toNat_natCast];unfold nE gW shN;rw[ge,ge];generalize p^n=x;generalize q^n=y
  grind
 ·obtain⟨n,hn⟩:∃n:Nat,k= -((n:Int)+1):=⟨(-k-1).toNat,by lia⟩
  have e0:k.natAbs=n+1:=by lia
  have e1:(1-k).toNat=n+2:=by lia
  rw[e0];simp only[if_neg c,e1]
  by_cases d:0<=k+1
  ·have e2:n=0:=by lia
   have e3:(k+1).toNat=0:=by lia
   subst e2;simp only[if_pos d,e3];unfold nE gW shN;simp only[Nat.zero_add,Int.pow_zero,Int.pow_one,Int.pow_succ]
   grind
  ·have e4:(1-(k+1)).toNat=n+1:=by lia
   simp only[if_neg d,e4];unfold nE gW shN;rw[show n+2=n+1+1 from rfl,ge p (n+1),ge q (n+1)];generalize p^(n+1)=x;generalize q^(n+1)=y
   grind
def yL{a b:Int}(ha:a<=b)(hb:1<=b):bH a b<=bA a b:=Int.ediv_le_ediv (xP hb) ha
def aC0{x y:Int}(hx:0<=x)(hy:0<y):gI y (x % y)=gI x y:=by
 obtain⟨m,rfl⟩:=gi hx;obtain⟨n,rfl⟩:=gi (jw hy);unfold gI;rw[<-Int.natCast_emod,du,du,du,Nat.gcd_comm m n,Nat.gcd_rec n m,Nat.gcd_comm]
def aN5{x:Int}(hx:0<=x):gI x 0=x:=by
 unfold gI;simp;lia
def bT9{a b:Int}(hb:1<=b):gI a b<=b:=by
 have:Nat.gcd a.toNat b.toNat<=b.toNat:=Nat.gcd_le_right _ (by lia);unfold gI;lia
def qG{a:Int}{n:Nat}(h0:0<=a)(h9:a<=9)(hn:n<=21):0<=a^n/\a^n<2^67:=by
 refine⟨nc h0,?_⟩;have h1:=oQ h0 h9 n;obtain⟨m,hm⟩:∃m,n+m=21:=⟨21-n,by lia⟩
 have h2:(9:Int)^21=9^n*9^m:=by rw[<-hm,qd]
 have h3:(1:Int)<=9^m:=by have:(0:Int)<9^m:=gh (by decide);lia
 have h4:(0:Int)<=9^n:=nc (by decide);have h5:(9:Int)^n*1<=9^n*9^m:=gf h3 h4;have h6:(9:Int)^21<2^67:=by decide
 lia
def fF{a b:Int}{m n:Nat}(a0:0<=a)(a1:a<2^m)(b0:0<=b)(b1:b<2^n):0<=a*b/\a*b<2^(m+n):=by
 refine⟨cj a0 b0,?_⟩;rw[qd];have hp:(0:Int)<2^n:=gh (by decide);have h1:a*b<=a*2^n:=gf (jw b1) a0;have h2:a*2^n<2^m*2^n:=Int.mul_lt_mul_of_pos_right a1 hp;lia
structure bT(p q:Int):Prop where
 p1:1<=p
 pq:p<q
 q9:q<=9
def aY(H:Hp)(p:Addr)(a b:Int):Prop:=H p=some (.tup [.int a,.int b])
def zR(a b:Int):mM [V.int a,V.int b] 0=some (.int a):=rfl
def qR(a b:Int):mM [V.int a,V.int b] 1=some (.int b):=rfl
def iG(a b:Int):List V:=[.int (bH a b),.int (bA a b)]
def rA(a:Int):Prop:=0<=a/\a<2^180
def rA.below{a:Int}(h:rA a):aB5 a:=⟨by have:=h.1;lia,by have:=h.2;lia⟩
def cS1{p q:Int}(s:bT p q){n:Nat}(hn:n<=21):rA (shN p q n)/\rA (gW p q n)/\rA (nE p q n):=by
 obtain⟨h1,h2,h3⟩:=s;have e1:=qG (a:=p) (by lia) (by lia) hn;have e2:=qG (a:=q) (by lia) (by lia) hn;have q1:=fF (a:=q-p) (m:=5) (by lia) (by lia) e1.1 e1.2;have q2:=fF (a:=q+p) (m:=5) (by lia) (by lia) e2.1 e2.2;have q3:=fF (a:=q) (m:=5) (by lia) (by lia) e1.1 e1.2;have up:(2:Int)^(5+67)<2^180:=by decide
 exact⟨⟨q1.1,jx q1.2 up⟩,⟨q2.1,jx q2.2 up⟩,⟨q3.1,jx q3.2 up⟩⟩
def bC4{a b:Int}(ha:rA a)(hb:rA b)(h1:1<=b):rA (bH a b)/\rA (bA a b):=by
 have q1:=bN (b:=b) ha.1;have q2:=bV (a:=a) h1;have q3:=qV ha.1 h1;have q4:=oI (a:=a) h1;have:=ha.2;have:=hb.2;exact⟨⟨q1,by lia⟩,⟨by lia,by lia⟩⟩
def spGcd:Sp:=fun vs H Q _=>∃a b:Int,vs=[.int a,.int b]/\0<=a/\0<=b/\Q (.int (gI a b)) H
def aX7:Sp:=fun vs H Q _=>∃a b:Int,vs=[.int a,.int b]/\0<=a/\1<=b/\b<2^200*2^200/\∀p,H p=none->Q (.ref p) (aN H p (.tup (iG a b)))
def qY:Sp:=fun vs H Q _=>∃(p q:Addr) (a b c d:Int),vs=[.ref p,.ref q]/\aY H p a b/\aY H q c d/\rA a/\rA b/\rA c/\rA d/\1<=b/\1<=d/\∀r,H r=none->Q (.ref r) (aN H r (.tup (iG (a*c) (b*d))))
def spMinus:Sp:=fun vs H Q _=>∃(p q:Addr) (a b c d:Int),vs=[.ref p,.ref q]/\aY H p a b/\aY H q c d/\rA a/\rA b/\rA c/\rA d/\1<=b/\1<=d/\c*b<=a*d/\∀r,H r=none->Q (.ref r) (aN H r (.tup (iG (a*d-c*b) (b*d))))
def spPow:Sp:=fun vs H Q _=>∃(p:Addr) (a b k:Int),vs=[.ref p,.int k]/\aY H p a b/\0<=a/\a<=9/\0<=b/\b<=9/\0<=k/\k<=21/\∀r,H r=none->Q (.ref r) (aN H r (.tup [.int (a^k.toNat),.int (b^k.toNat)]))
def aI3(lo hi:Int)(f g:Int->Int->Int->Int):Sp:=fun vs H Q _=>∃(st:Addr) (p q k:Int),vs=[.ref st,.int k]/\aY H st p q/\bT p q/\lo<=k/\k<=hi /\
 ∀H' r,aR H H'->aY H' r (bH (f p q k) (g p q k)) (bA (f p q k) (g p q k))->Q (.ref r) H'
def aP5(K:W.Frag):Sp:=fun vs H Q _=>∃(a:Addr) (ns:List Int),vs=[.ref a]/\bR K H a (ns.map V.int)/\ns.length<=63/\∀H',Q (.bl true) H'
def qK(n lo hi:Int):Int:=if hi<(if lo > n then lo else n) then hi else (if lo > n then lo else n)
def bA4{n lo hi:Int}(h:lo<=hi):lo<=qK n lo hi/\qK n lo hi<=hi:=by
 unfold qK
 split<;>split<;>lia
def dH{α:Type}(R:V->α->Prop):List V->List α->Prop
 |[],[]=>True
 |v::vs,a::as=>R v a/\dH R vs as
 |_,_=>False
def dH.mono{α:Type}{R R':V->α->Prop}(h:∀v a,R v a->R' v a):∀{vs:List V}{as:List α},dH R vs as->dH R' vs as
 |[],[],_=>trivial
 |_::_,_::_,⟨e,r⟩=>⟨h _ _ e,dH.mono h r⟩
 |[],_::_,z=>z.elim
 |_::_,[],z=>z.elim
def dH.append{α:Type}{R:V->α->Prop}:∀{vs ws:List V}{as bs:List α},dH R vs as->dH R ws bs->dH R (vs++ws) (as++bs)
 |[],_,[],_,_,r=>r
 |_::_,_,_::_,_,⟨e,r⟩,r2=>⟨e,dH.append r r2⟩
 |[],_,_::_,_,z,_=>z.elim
 |_::_,_,[],_,z,_=>z.elim
def dH.length{α:Type}{R:V->α->Prop}:∀{vs:List V}{as:List α},dH R vs as->vs.length=as.length
 |[],[],_=>rfl
 |_::_,_::_,⟨_,r⟩=>by simp[dH.length r]
 |[],_::_,z=>z.elim
 |_::_,[],z=>z.elim
def dH.rep{α:Type}{R:V->α->Prop}{K:W.Frag}{H:Hp}{f:α->PyData}(h:∀v a,R v a->pL K H (f a) v):∀{vs:List V}{as:List α},dH R vs as->rR K H (as.map f) vs
 |[],[],_=>rfl
 |_::_,_::_,⟨e,r⟩=>⟨_,_,rfl,h _ _ e,dH.rep h r⟩
 |[],_::_,z=>z.elim
 |_::_,[],z=>z.elim
def TS(H H':Hp):Prop:=∀a xs,H a=some (.tup xs)->H' a=some (.tup xs)
def TS.of{H H':Hp}(s:aR H H'):TS H H':=fun _ _ e=>s _ _ e
def TS.trans{H H1 H2:Hp}(a:TS H H1)(b:TS H1 H2):TS H H2:=fun c o h=>b c o (a c o h)
def TS.lst{H:Hp}{l:Addr}{xs ys:List V}(h:H l=some (.lst xs)):TS H (aN H l (.lst ys)):=fun a o e=>by
 rw[aH (gE e h (by intro z;cases z))];exact e
def dN{H H1:Hp}{l:Addr}{ys:List V}(s:aR H H1)(h:H l=none):aR H (aN H1 l (.lst ys)):=fun b o e=>by
 rw[aH (aM e h)];exact s b o e
def cX{α:Type}{l:List α}{i:Nat}{x:α}(h:l[i]?=some x):l.take (i+1)=l.take i++[x]:=by
 rw[List.take_succ,h];rfl
def nC(H:Hp)(v:V)(e:Int×Int×Int):Prop:=∃p q,v= .ref p/\H p=some (.tup [.int e.1,.ref q])/\aY H q e.2.1 e.2.2
def nC.ts{H H':Hp}{v:V}{e:Int×Int×Int}(t:TS H H')(h:nC H v e):nC H' v e:=let⟨p,q,a,b,c⟩:=h;⟨p,q,a,t _ _ b,t _ _ c⟩
def fJ{H H':Hp}{vs:List V}{es:List (Int×Int×Int)}(t:TS H H')(h:dH (nC H) vs es):dH (nC H') vs es:=h.mono fun _ _ z=>z.ts t
def eN(p q lo hi n y:Int):Int:=if y=lo\/y=hi then nE p q (y-n).natAbs else shN p q (y-n).natAbs
def eD(p q n y:Int):Int:=gW p q (y-n).natAbs
def ent(p q lo hi n y:Int):Int×Int×Int:=(y,bH (eN p q lo hi n y) (eD p q n y),bA (eN p q lo hi n y) (eD p q n y))
def mO(p q lo hi n:Int):List (Int×Int×Int):=if lo=hi then [(lo,1,1)] else (aU lo (hi+1-lo).toNat).map (ent p q lo hi n)
def gG(lo:Int):∀n:Nat,aU lo (n+1)=lo::aU (lo+1) n
 |0=>by simp[aU]
 |n+1=>by
  rw[cD,gG lo n,cD];simp;lia
def aA0{lo hi:Int}(h:lo<hi):aU lo (hi+1-lo).toNat=[lo]++aU (lo+1) (hi-(lo+1)).toNat++[hi]:=by
 obtain⟨m,hm⟩:∃m:Nat,hi=lo+1+m:=⟨(hi-lo-1).toNat,by lia⟩
 subst hm;have e1:(lo+1+(m:Int)+1-lo).toNat=m+1+1:=by lia
 have e2:(lo+1+(m:Int)-(lo+1)).toNat=m:=by lia
 rw[e1,e2,cD,gG];simp;lia
def dJ(p q lo hi n y:Int):Int:=p^(y-n).natAbs*q^(hi-lo-((y-n).natAbs:Int)).toNat*(if y=lo\/y=hi then q else q-p)
def cP(p q lo hi n:Int):List Int:=if lo=hi then [1] else (aU lo (hi+1-lo).toNat).map (dJ p q lo hi n)
def eG(p q lo hi:Int):Int:=if lo=hi then 1 else gW p q (hi-lo).toNat
def kT(b:Int):Int->List Int->List (Int×Int×Int)
 |_,[]=>[]
 |f,s::r=>(f,bH s b,bA s b)::kT b (f+1) r
def pQ(b:Int):∀(f:Int) (l:List Int) (s:Int),kT b f (l++[s])=kT b f l++[(f+l.length,bH s b,bA s b)]
 |f,[],s=>by simp[kT]
 |f,a::r,s=>by
  simp only[List.cons_append,kT,pQ b (f+1) r s,List.length_cons];have e:f+1+(r.length:Int)=f+((r.length+1:Nat):Int):=by lia
  rw[e]
def tU(b:Int)(g:Int->Int)(lo:Int):∀m:Nat,kT b lo ((aU lo m).map g)=(aU lo m).map fun y=>(y,bH (g y) b,bA (g y) b)
 |0=>rfl
 |m+1=>by
  rw[cD,aq,aq];show kT b lo (_++[g (lo+m)])=_;rw[pQ,tU b g lo m,ac,bS];rfl
def cQ6{p q lo hi n y:Int}(s:bT p q):0<=eN p q lo hi n y:=by
 unfold eN;split
 ·exact bV8 s.p1 s.pq _
 ·exact cL9 s.p1 s.pq _
def yD{p q lo hi n y:Int}(s:bT p q):1<=dJ p q lo hi n y:=by
 unfold dJ;have h1:(0:Int)<p^(y-n).natAbs:=gh (by have:=s.p1;lia);have h2:(0:Int)<q^(hi-lo-((y-n).natAbs:Int)).toNat:=gh (by have:=s.p1;have:=s.pq;lia);have h3:(0:Int)<(if y=lo\/y=hi then q else q-p):=by have:=s.p1;have:=s.pq;split<;>lia
 have:=dk (dk h1 h2) h3;lia
def aQ6{lo hi n y:Int}(h1:lo<=n)(h2:n<=hi)(h3:lo<=y)(h4:y<=hi):(hi-lo).toNat=(hi-lo-((y-n).natAbs:Int)).toNat+(y-n).natAbs:=by lia
def bR6{p q lo hi n y:Int}(s:bT p q)(h1:lo<=n)(h2:n<=hi)(h3:lo<=y)(h4:y<=hi) :
  bH (dJ p q lo hi n y) (gW p q (hi-lo).toNat)=bH (eN p q lo hi n y) (eD p q n y)/\bA (dJ p q lo hi n y) (gW p q (hi-lo).toNat)=bA (eN p q lo hi n y) (eD p q n y):=by
 have q1:=yD (lo:=lo) (hi:=hi) (n:=n) (y:=y) s;refine nB (by lia) (jR s.p1 s.pq _) (cQ6 s) (jR s.p1 s.pq _) ?_;obtain⟨f,hf⟩:∃f:Nat,(y-n).natAbs=f:=⟨_,rfl⟩
 obtain⟨g,hg⟩:∃g:Nat,(hi-lo-(f:Int)).toNat=g:=⟨_,rfl⟩
 have hw:(hi-lo).toNat=f+g:=by rw[aQ6 h1 h2 h3 h4,hf,hg,Nat.add_comm]
 unfold dJ eN eD gW nE shN;rw[hf,hg,hw,qd];generalize p^f=a;generalize q^f=b;generalize q^g=c
 split<;>grind
def vV{p q lo hi n:Int}(s:bT p q)(h1:lo<=n)(h2:n<=hi):kT (eG p q lo hi) lo (cP p q lo hi n)=mO p q lo hi n:=by
 unfold eG cP mO
 by_cases c:lo=hi
 ·simp only[if_pos c];have e1:bH 1 1=1:=by decide
  have e2:bA 1 1=1:=by decide
  simp only[kT,e1,e2]
 ·simp only[if_neg c];rw[tU];refine gc fun y hy=>?_
  obtain⟨y1,y2⟩:=eQ.mp hy;have e:=bR6 s h1 h2 y1 (by lia);unfold ent;rw[e.1,e.2]
def cC7(xs ys:List Int):Int:=(List.zipWith (· * ·) xs ys).sum
def dF(H:Hp)(a:Addr)(ns:List Int):Prop:=H a=some (.tup (ns.map V.int))
structure Wts(ws cs:List Int):Prop where
 len:ws.length=cs.length
 few:ws.length<=3
 wt:∀x∈ws,0<=x/\x<=3
structure fG(lo hi:Int):Prop where
 a:0<=lo
 b:lo<=hi
 c:hi<=9
def spCut:Sp:=fun vs H Q _=>∃n lo hi:Int,vs=[.int n,.int lo,.int hi]/\Q (.int (qK n lo hi)) H
def spUp:Sp:=fun vs H Q _=>∃a b ws cs,vs=[.ref a,.ref b]/\dF H a ws/\dF H b cs/\Wts ws cs/\∀H',aR H H'->Q (.int (cC7 ws cs)) H'
def spLad:Sp:=fun vs H Q _=>∃st p q n lo hi,vs=[.int n,.ref st,.int lo,.int hi]/\aY H st p q/\bT p q/\fG lo hi/\lo<=n/\n<=hi/\∀H' t us,aR H H'->H' t=some (.tup us)->dH (nC H') us (mO p q lo hi n)->Q (.ref t) H'
def cG4{z:Str}{r:Int}(h0:0<=r)(h1:r<(z.length:Int)):∃c,mM z.cps.toList r=some c:=by
 have hk:r.toNat<z.cps.toList.length:=by
  rw[ff];exact(Int.toNat_lt h0).mpr h1
 have e2:((r.toNat:Nat):Int)=r:=sy h0;have q:mM z.cps.toList ((r.toNat:Nat):Int)=some z.cps.toList[r.toNat]:=xX (bw hk);rw[e2] at q;exact⟨_,q⟩
def aF2:∀{zs:List Str},(∀z∈zs,z.length=1)->(zs.map (·.length)).sum=zs.length
 |[],_=>rfl
 |z::r,h=>by
  have h1:=h z aj;have h2:=aF2 fun y hy=>h y (ae z hy)
  simp only[List.map_cons,List.sum_cons,List.length_cons,h1,h2];lia
def rP(sep:Str):∀(ys:List Str) (a:Array Nat),(ys.foldl (fun acc p=>acc++sep.cps++p.cps) a).size=a.size+(ys.map (·.length)).sum+ys.length*sep.length
 |[],a=>by simp
 |y::r,a=>by
  rw[iz,rP sep r];simp only[Array.size_append,List.map_cons,List.sum_cons,List.length_cons,Nat.add_mul,Nat.one_mul];have e1:sep.cps.size=sep.length:=rfl;have e2:y.cps.size=y.length:=rfl;lia
def bH5(sep:Str)(ys:List Str):(Txt.join sep ys).length<=(ys.map (·.length)).sum+ys.length*sep.length:=by
 cases ys with
 |nil=>exact bi _
 |cons y r =>
  show(List.foldl (fun acc p=>acc++sep.cps++p.cps) y.cps r).size<=_;rw[rP];simp only[List.map_cons,List.sum_cons,List.length_cons,Nat.add_mul,Nat.one_mul];have e2:y.cps.size=y.length:=rfl;lia
def iB{p q lo hi n:Int}(s:bT p q):∀z∈cP p q lo hi n,1<=z:=by
 unfold cP;intro z hz
 split at hz
 ·have e:z=1:=by simpa using hz
  lia
 ·obtain⟨y,_,rfl⟩:=ci.mp hz;exact yD s
def jN(u:Int×Int):Prop:=rA u.1/\rA u.2/\1<=u.2
def cY(u e:Int×Int):Int×Int:=(bH (u.1*e.2+e.1*u.2) (u.2*e.2),bA (u.1*e.2+e.1*u.2) (u.2*e.2))
def kG(T:Int->Option (Int×Int))(e:Int×Int×Int):Int->Option (Int×Int):=fun k=>if k=e.1 then some (cY ((T k).getD (0,1)) e.2) else T k
def nH(es:List (Int×Int×Int)):Int->Option (Int×Int):=es.foldl kG (fun _=>none)
def aJ7:(Int->Option (Int×Int))->List (Int×Int×Int)->Prop
 |_,[]=>True
 |T,e::r=>jN ((T e.1).getD (0,1))/\jN e.2/\aJ7 (kG T e) r
def yP:∀{es:List (Int×Int×Int)}{T:Int->Option (Int×Int)}{i:Nat}{e:Int×Int×Int},aJ7 T es->es[i]?=some e->jN ((((es.take i).foldl kG T) e.1).getD (0,1))/\jN e.2
 |[],_,_,_,_,h=>by simp at h
 |a::r,T,0,e,⟨s1,s2,_⟩,h=>by
  have q:a=e:=by simpa using h
  subst q;exact⟨s1,s2⟩
 |a::r,T,i+1,e,⟨_,_,s3⟩,h=>by
  have:=yP (i:=i) s3 (by simpa using h)
  simpa using this
def wV:∀{l:List Int},l.Pairwise (· <= ·)->l.Nodup->l.Pairwise (· < ·)
 |[],_,_=>ve
 |a::r,h,n=>by
  obtain⟨h1,h2⟩:=oq.mp h;obtain⟨n1,n2⟩:=ka.mp n;refine oq.mpr ⟨fun b hb=>?_,wV h2 n2⟩;have:=h1 b hb;have:a≠b:=fun z=>n1 (by rw[z];exact hb)
  lia
def qC(T:Int->Option (Int×Int))(ks:List Int):List (Int×Int×Int):=ks.map fun k=>(k,(T k).getD (0,1))
def uL:∀{l m:List Int},l.Pairwise (· < ·)->m.Pairwise (· < ·)->(∀x,x∈l↔x∈m)->l=m
 |[],[],_,_,_=>rfl
 |[],b::m,_,_,h=>absurd ((h b).mpr aj) (by simp)
 |a::l,[],_,_,h=>absurd ((h a).mp aj) (by simp)
 |a::l,b::m,p,q,h=>by
  obtain⟨p1,p2⟩:=oq.mp p;obtain⟨q1,q2⟩:=oq.mp q;have e:a=b:=by
   rcases az.mp ((h a).mp aj) with z|z
   ·exact z
   ·rcases az.mp ((h b).mpr aj) with w|w
    ·exact w.symm
    ·have:=q1 a z;have:=p1 b w;lia
  subst e;have e2:l=m:=uL p2 q2 fun x=>by
   constructor
   ·intro hx;rcases az.mp ((h x).mp (ae _ hx)) with z|z
    ·have:=p1 x hx;lia
    ·exact z
   ·intro hx;rcases az.mp ((h x).mpr (ae _ hx)) with z|z
    ·have:=q1 x hx;lia
    ·exact z
  rw[e2]
def bT8:Sp:=fun vs H Q _=>∃(p q:Addr) (u e:Int×Int),vs=[.ref p,.ref q]/\aY H p u.1 u.2/\aY H q e.1 e.2/\jN u/\jN e/\∀r,H r=none->Q (.ref r) (aN H r (.tup [.int (cY u e).1,.int (cY u e).2]))
def tX:Sp:=fun vs H Q _=>∃l us es,vs=[.ref l]/\H l=some (.lst us)/\dH (nC H) us es/\es.length<60/\aJ7 (fun _=>none) es /\
 ∀H' t ws ks,aR H H'->H' t=some (.tup ws)->ks.Pairwise (· < ·)->(∀k,k∈ks↔∃u,nH es k=some u/\u≠(0,1))->dH (nC H') ws (qC (nH es) ks)->Q (.ref t) H'
def oR:(Int->Int)->List Int->Int->Int
 |c,[]=>c
 |c,k::r=>oR (fun z=>if z=k then c z+1 else c z) r
def zX:∀(c:Int->Int) (ks:List Int) (y:Int),y∉ks->oR c ks y=c y
 |c,[],y,_=>rfl
 |c,a::r,y,h=>by
  have h1:¬y=a:=fun z=>h (by rw[z];exact aj)
  show oR (fun z=>if z=a then c z+1 else c z) r y=c y;rw[zX _ r y fun z=>h (ae _ z)];exact ai h1
def aP8:∀(c:Int->Int) (ks:List Int) (b:Int),(∀y,0<=c y/\c y<=b)->∀y,0<=oR c ks y/\oR c ks y<=b+ks.length
 |c,[],b,h,y=>by simpa [oR] using h y
 |c,a::r,b,h,y=>by
  have:=aP8 (fun z=>if z=a then c z+1 else c z) r (b+1) (fun z=>by have:=h z;split<;>lia) y;simp only[List.length_cons];have e:oR c (a::r) y=oR (fun z=>if z=a then c z+1 else c z) r y:=rfl;rw[e];lia
def lW(m n:Int):Option (Int×Int):=if n=0 then none else some (bH n m,bA n m)
def wE{m:Int}(hm:1<=m){T:Int->Option (Int×Int)}{c:Int->Int}(hc:∀y,0<=c y)(h:∀y,T y=lW m (c y))(k:Int):∀y,kG T (k,1,m) y=lW m (if y=k then c y+1 else c y):=by
 intro y;unfold kG
 by_cases e:y=k
 ·rw[ao e,ao e,h y];have c0:=hc y;unfold lW;rw[ai (show ¬c y+1=0 by lia)]
  by_cases z:c y=0
  ·rw[ao z,z];show some (cY (0,1) (1,m))=_;unfold cY;simp
  ·rw[ai z];show some (cY (bH (c y) m,bA (c y) m) (1,m))=_;have r:=dG c0 hm;have n1:=bN (b:=m) c0;have n2:=bV (a:=c y) hm;have q1:0<=bH (c y) m*m:=cj n1 (by lia);have q2:0<bA (c y) m*m:=dk (by lia) (by lia);have e1:=nB (a:=bH (c y) m*m+1*bA (c y) m) (b:=bA (c y) m*m) (c:=c y+1) (d:=m) (by lia) (by lia) (by lia) hm (by
    generalize bH (c y) m=a at r ⊢;generalize bA (c y) m=b at r ⊢
    grind)
   unfold cY;rw[e1.1,e1.2]
 ·rw[ai e,ai e,h y]
def zJ{m:Int}(hm:1<=m):∀(ks:List Int) (T:Int->Option (Int×Int)) (c:Int->Int),(∀y,0<=c y)->(∀y,T y=lW m (c y))->∀y,((ks.map fun k=>((k,1,m):Int×Int×Int)).foldl kG T) y=lW m (oR c ks y)
 |[],T,c,_,h,y=>h y
 |k::r,T,c,hc,h,y=>by
  simp only[List.map_cons,List.foldl_cons];exact zJ hm r _ _ (fun z=>by have:=hc z;split<;>lia) (wE hm hc h k) y
def vH{m:Int}(hm:1<=m)(h9:m<=9):∀(ks:List Int) (T:Int->Option (Int×Int)) (c:Int->Int) (b:Int),(∀y,0<=c y/\c y<=b)->b+ks.length<=1000->(∀y,T y=lW m (c y))->aJ7 T (ks.map fun k=>(k,1,m))
 |[],_,_,_,_,_,_=>trivial
 |k::r,T,c,b,hc,hb,h=>by
  simp only[List.length_cons] at hb;refine⟨?_,⟨⟨by show(0:Int)<=1;decide,by show(1:Int)<2^180;decide⟩,⟨by show 0<=m;lia,by show m<2^180;lia⟩,hm⟩,vH hm h9 r _ _ (b+1) (fun z=>by have:=hc z;split<;>lia) (by lia) (wE hm (fun y=>(hc y).1) h k)⟩;have ck:=hc k;show jN ((T k).getD (0,1));rw[h k];unfold lW
  split
  ·exact⟨⟨by decide,by decide⟩,⟨by decide,by decide⟩,by decide⟩
  ·have l1:=bN (b:=m) ck.1;have l2:=qV ck.1 hm;have l3:=bV (a:=c k) hm;have l4:=oI (a:=c k) hm;exact⟨⟨l1,by show bH (c k) m<2^180;lia⟩,⟨by show 0<=bA (c k) m;lia,by show bA (c k) m<2^180;lia⟩,l3⟩
def iW(b:Int):Int->List Int->List (Int×Int×Int)
 |_,[]=>[]
 |f,s::r=>if 0<s then (f,bH s b,bA s b)::iW b (f+1) r else iW b (f+1) r
def vC(b:Int):∀(f:Int) (l:List Int) (s:Int),iW b f (l++[s])=iW b f l++(if 0<s then [(f+l.length,bH s b,bA s b)] else [])
 |f,[],s=>by simp[iW]
 |f,a::r,s=>by
  have e:f+1+(r.length:Int)=f+((r.length+1:Nat):Int):=by lia
  simp only[List.cons_append,iW,vC b (f+1) r s,List.length_cons,e]
  split<;>simp
def zF(b:Int):∀(f:Int) (l:List Int),(iW b f l).length<=l.length
 |_,[]=>af _
 |f,a::r=>by
  have:=zF b (f+1) r;unfold iW
  split<;>simp<;>lia
def tO(b:Int)(g:Int->Int)(lo:Int):∀m:Nat,iW b lo ((aU lo m).map g)=((aU lo m).filter fun y=>decide (0<g y)).map fun y=>(y,bH (g y) b,bA (g y) b)
 |0=>rfl
 |m+1=>by
  rw[cD,aq,um,aq];show iW b lo (_++[g (lo+m)])=_;rw[vC,tO b g lo m,ac,bS]
  by_cases c:0<g (lo+m)<;>simp[c]
def uE(b:Int):∀(f:Int) (l:List Int),(∀s∈l,1<=s)->iW b f l=kT b f l
 |_,[],_=>rfl
 |f,a::r,h=>by
  have:=h a aj;unfold iW kT;rw[ao (by lia),uE b (f+1) r fun s hs=>h s (ae _ hs)]
def jQ(lo:Int):∀m:Nat,(aU lo m).Pairwise (· < ·)
 |0=>ve
 |m+1=>by
  rw[cD];refine List.pairwise_append.mpr ⟨jQ lo m,List.pairwise_singleton _ _,fun a ha b hb=>?_⟩;have:=eQ.mp ha;have e:b=lo+m:=by simpa using hb
  lia
def iS(n r lo hi:Int):List Int:=(aU (-r) (r+1 - -r).toNat).map fun u=>qK (n+u) lo hi
def gL(n r lo hi:Int):Int->Int:=oR (fun _=>0) (iS n r lo hi)
def xS(n r lo hi:Int):List (Int×Int×Int):=iW (2*r+1) lo ((aU lo (hi+1-lo).toNat).map (gL n r lo hi))
def aF9{n r lo hi:Int}(h:lo<=hi)(r0:0<=r){ks:List Int}(hk:ks.Pairwise (· < ·))(hm:∀k,k∈ks↔∃u,nH ((iS n r lo hi).map fun k=>(k,1,2*r+1)) k=some u/\u≠(0,1)) :
  qC (nH ((iS n r lo hi).map fun k=>(k,1,2*r+1))) ks=xS n r lo hi:=by
 have tt:∀y,nH ((iS n r lo hi).map fun k=>(k,1,2*r+1)) y=lW (2*r+1) (gL n r lo hi y):=fun y =>
  zJ (m:=2*r+1) (by lia) (iS n r lo hi) (fun _=>none) (fun _=>0) (fun _=>cw _) (fun _=>rfl) y
 have c0:∀y,0<=gL n r lo hi y:=fun y=>(aP8 (fun _=>0) (iS n r lo hi) 0 (fun _=>⟨cw _,cw _⟩) y).1
 have ek:ks=(aU lo (hi+1-lo).toNat).filter fun y=>decide (0<gL n r lo hi y):=by
  refine uL hk ((jQ lo _).sublist oa) fun k=>?_
  rw[hm k,tt k,dr,eQ,ph];unfold lW
  by_cases z:gL n r lo hi k=0
  ·rw[ao z]
   constructor
   ·rintro⟨u,e,_⟩;cases e
   ·rintro⟨_,q⟩;lia
  ·rw[ai z];have:=c0 k
   constructor
   ·intro _;have mem:k∈iS n r lo hi:=by
     by_cases q:k∈iS n r lo hi
     ·exact q
     ·exact absurd (zX (fun _=>0) _ k q) z
    obtain⟨u,_,rfl⟩:=ci.mp mem;have:=bA4 (n:=n+u) h;refine⟨⟨this.1,?_⟩,by lia⟩;lia
   ·intro _;refine⟨_,rfl,fun q=>?_⟩;have q1:bH (gL n r lo hi k) (2*r+1)=0:=gv Prod.fst q;have rt:=dG (a:=gL n r lo hi k) (b:=2*r+1) (by lia) (by lia);rw[q1,aAe] at rt;have p:=bV (a:=gL n r lo hi k) (b:=2*r+1) (by lia);have:=dk (show 0<gL n r lo hi k by lia) (show 0<bA (gL n r lo hi k) (2*r+1) by lia);lia
 unfold xS qC;rw[tO,ek];refine gc fun y hy=>?_
 have hy2:0<gL n r lo hi y:=by
  have:=(dr.mp hy).2;exact ar this
 rw[tt y];unfold lW;rw[ai (by lia)];rfl
def gC(p q n:Int):Int:=q^n.toNat*p^(9-n).toNat
def wC(p q n:Int):Int×Int:=(q^n.toNat,p^n.toNat)
def fA(p q:Int)(ns:List Int):Int:=(ns.map (gC p q)).sum
def mB{p q n:Int}(s:bT p q)(h0:0<=n)(h9:n<=9):1<=gC p q n/\gC p q n<2^66:=by
 obtain⟨p1,pq,q9⟩:=s;have e1:(1:Int)<=q^n.toNat:=by have:(0:Int)<q^n.toNat:=gh (by lia);lia
 have e2:(1:Int)<=p^(9-n).toNat:=by have:(0:Int)<p^(9-n).toNat:=gh (by lia);lia
 have hq:=oQ (p:=q) (q:=9) (by lia) q9 n.toNat;have hp:=oQ (p:=p) (q:=9) (by lia) (by lia) (9-n).toNat;have m9:∀j:Nat,j<=9->(9:Int)^j<2^33:=fun j hj=>by
  have:j=0\/j=1\/j=2\/j=3\/j=4\/j=5\/j=6\/j=7\/j=8\/j=9:=by lia
  rcases this with rfl|rfl|rfl|rfl|rfl|rfl|rfl|rfl|rfl|rfl<;>decide
 have b1:=m9 n.toNat (by lia);have b2:=m9 (9-n).toNat (by lia);have m:=fF (a:=q^n.toNat) (b:=p^(9-n).toNat) (m:=33) (n:=33) (by lia) (by lia) (by lia) (by lia);have p0:=dk (show 0<q^n.toNat by lia) (show 0<p^(9-n).toNat by lia);unfold gC;exact⟨by lia,m.2⟩
def wM{p n:Int}(h0:0<=n)(h9:n<=9):p^9=p^n.toNat*p^(9-n).toNat:=by
 rw[<-qd]
 congr 1
 lia
def aP6{p q n:Int}(s:bT p q)(h0:0<=n)(h9:n<=9):jN (wC p q n):=by
 obtain⟨p1,pq,q9⟩:=s;have a:=qG (a:=q) (n:=n.toNat) (by lia) (by lia) (by lia);have b:=qG (a:=p) (n:=n.toNat) (by lia) (by lia) (by lia);have e2:(1:Int)<=p^n.toNat:=by have:(0:Int)<p^n.toNat:=gh (by lia);lia
 exact⟨⟨a.1,by show q^n.toNat<2^180;lia⟩,⟨b.1,by show p^n.toNat<2^180;lia⟩,e2⟩
def vY{p q S n:Int}(s:bT p q)(hS:0<=S)(h0:0<=n)(h9:n<=9):cY (bH S (p^9),bA S (p^9)) (wC p q n)=(bH (S+gC p q n) (p^9),bA (S+gC p q n) (p^9)):=by
 have hP:1<=p^9:=by have:(0:Int)<p^9:=gh (by have:=s.p1;lia);lia
 have r:=dG hS hP;have n1:=bN (b:=p^9) hS;have n2:=bV (a:=S) hP;have fr:=aP6 s h0 h9;have g:=(mB s h0 h9).1;have q1:=cj n1 (show 0<=(wC p q n).2 by have:=fr.2.2;lia);have q2:=cj fr.1.1 (show 0<=bA S (p^9) by lia);have q3:=dk (show 0<bA S (p^9) by lia) (show 0<(wC p q n).2 by have:=fr.2.2;lia);have e:=nB (a:=bH S (p^9)*(wC p q n).2+(wC p q n).1*bA S (p^9)) (b:=bA S (p^9)*(wC p q n).2) (c:=S+gC p q n) (d:=p^9) (by lia) (by lia) (by lia) hP (by
  have sp:=wM (p:=p) h0 h9;generalize bH S (p^9)=x at r ⊢;generalize bA S (p^9)=y at r ⊢;unfold wC gC
  dsimp only
  generalize p^9=P at r sp ⊢;generalize q^n.toNat=a;generalize p^n.toNat=b at sp ⊢;generalize p^(9-n).toNat=c at sp ⊢
  grind)
 unfold cY;rw[e.1,e.2]
def aB9{p q:Int}(s:bT p q):∀(ns:List Int) (S:Int),0<=S->(∀n∈ns,0<=n/\n<=9)->(ns.map (wC p q)).foldl cY (bH S (p^9),bA S (p^9))=(bH (S+fA p q ns) (p^9),bA (S+fA p q ns) (p^9))
 |[],S,_,_=>by simp[fA]
 |n::r,S,hS,h=>by
  have hn:=h n aj;have g:=(mB s hn.1 hn.2).1;simp only[List.map_cons,List.foldl_cons];rw[vY s hS hn.1 hn.2,aB9 s r _ (by lia) fun m hm=>h m (ae _ hm)];have e:S+gC p q n+fA p q r=S+fA p q (n::r):=by simp[fA];lia
  rw[e]
def vE{p:Int}(h:1<=p):((0,1):Int×Int)=(bH 0 (p^9),bA 0 (p^9)):=by
 have hP:0<p^9:=gh (by lia);have g:gI 0 (p^9)=p^9:=by unfold gI;simp;lia
 unfold bH bA;rw[g,Int.zero_ediv,Int.ediv_self (by lia)]
def xT{p q:Int}(s:bT p q):∀(ns:List Int),(∀n∈ns,0<=n/\n<=9)->0<=fA p q ns/\fA p q ns<=ns.length*2^66
 |[],_=>by simp[fA]
 |n::r,h=>by
  have hn:=h n aj;have g:=mB s hn.1 hn.2;have ih:=xT s r fun m hm=>h m (ae _ hm)
  have e:fA p q (n::r)=gC p q n+fA p q r:=by simp[fA]
  rw[e,bo];lia
def aD1:Int×Int->List (Int×Int)->Prop
 |_,[]=>True
 |u,f::r=>jN u/\jN f/\aD1 (cY u f) r
def aC8:∀{fs:List (Int×Int)}{u:Int×Int}{i:Nat}{f:Int×Int},aD1 u fs->fs[i]?=some f->jN ((fs.take i).foldl cY u)/\jN f
 |[],_,_,_,_,h=>by simp at h
 |a::r,u,0,f,⟨s1,s2,_⟩,h=>by
  have q:a=f:=by simpa using h
  subst q;exact⟨s1,s2⟩
 |a::r,u,i+1,f,⟨_,_,s3⟩,h=>by
  have:=aC8 (i:=i) s3 (by simpa using h)
  simpa using this
def mX{S P:Int}(hS:0<=S)(h1:S<2^180)(hP:1<=P)(h2:P<2^180):jN (bH S P,bA S P):=by
 have l:=bC4 (a:=S) (b:=P) ⟨hS,h1⟩ ⟨by lia,h2⟩ hP;exact⟨l.1,l.2,bV hP⟩
def qD{p q:Int}(s:bT p q):∀(ns:List Int) (S:Int),0<=S->S+ns.length*2^66<2^180->(∀n∈ns,0<=n/\n<=9)->aD1 (bH S (p^9),bA S (p^9)) (ns.map (wC p q))
 |[],_,_,_,_=>trivial
 |n::r,S,hS,hb,h=>by
  have hn:=h n aj;have g:=mB s hn.1 hn.2;have p9:=qG (a:=p) (n:=9) (by have:=s.p1;lia) (by have:=s.pq;have:=s.q9;lia) (by decide);have hP:1<=p^9:=by have:(0:Int)<p^9:=gh (by have:=s.p1;lia);lia
  rw[bo] at hb;refine⟨mX hS (by lia) hP (by lia),aP6 s hn.1 hn.2,?_⟩;rw[vY s hS hn.1 hn.2];exact qD s r _ (by lia) (by lia) fun m hm=>h m (ae _ hm)
def xO{p q n S:Int}(s:bT p q)(hS:1<=S)(h0:0<=n)(h9:n<=9) :
  bH ((wC p q n).1*bA S (p^9)) ((wC p q n).2*bH S (p^9))=bH (gC p q n) S/\bA ((wC p q n).1*bA S (p^9)) ((wC p q n).2*bH S (p^9))=bA (gC p q n) S:=by
 have hP:1<=p^9:=by have:(0:Int)<p^9:=gh (by have:=s.p1;lia);lia
 have r:=dG (a:=S) (by lia) hP;have n2:=bV (a:=S) hP;have n1:1<=bH S (p^9):=by
  have a:=bN (a:=S) (b:=p^9) (by lia)
  by_cases z:bH S (p^9)=0
  ·rw[z,aAe] at r;have:=dk (show 0<S by lia) (show 0<bA S (p^9) by lia);lia
  ·lia
 have fr:=aP6 s h0 h9;have g:=(mB s h0 h9).1;have q1:=cj fr.1.1 (show 0<=bA S (p^9) by lia);have q2:=dk (show 0<(wC p q n).2 by have:=fr.2.2;lia) (show 0<bH S (p^9) by lia);refine nB (by lia) (by lia) (by lia) hS ?_;have sp:=wM (p:=p) h0 h9;generalize bH S (p^9)=x at r ⊢;generalize bA S (p^9)=y at r ⊢;unfold wC gC
 dsimp only
 generalize p^9=P at r sp ⊢;generalize q^n.toNat=a;generalize p^n.toNat=b at sp ⊢;generalize p^(9-n).toNat=c at sp ⊢
 grind
def aS7(H:Hp)(r:Addr)(wd x:Str)(a3 a4:V)(lo hi:Int):Prop:=H r=some (.tup [.str wd,.str x,a3,a4,.int lo,.int hi])
def aK2(H:Hp)(v:V)(ws:List Int):Prop:=∃a,v= .ref a/\dF H a ws
def aK2.ts{H H':Hp}{v:V}{ws:List Int}(t:TS H H')(h:aK2 H v ws):aK2 H' v ws:=let⟨a,e,q⟩:=h;⟨a,e,t _ _ q⟩
def cU(wss:List (List Int))(cs:List Int)(lo hi:Int):List Int:=wss.map fun ws=>qK (cC7 ws cs) lo hi
structure Few(wss:List (List Int))(cs:List Int):Prop where
 a:1<=wss.length
 b:wss.length<=4
 w:∀ws∈wss,Wts ws cs
def cT5:¬(("flat": Str)="choose"):=by decide
def bK3:¬(("flat": Str)="first"):=by decide
def bG8:¬(("choose": Str)="first"):=by decide
def aE5{a b:Str}(h:¬a=b):decide (V.str a=V.str b)=false:=dq fun z=>h (V.str.inj z)
def bH6(a:Str):decide (V.str a=V.str a)=true:=ap rfl
def FrR(H:Hp)(v:V)(f:Int×Int):Prop:=∃q,v= .ref q/\aY H q f.1 f.2
def FrR.ts{H H':Hp}{v:V}{f:Int×Int}(t:TS H H')(h:FrR H v f):FrR H' v f:=let⟨a,e,q⟩:=h;⟨a,e,t _ _ q⟩
def spCome:Sp:=fun vs H Q _=>∃l us fs,vs=[.ref l]/\H l=some (.lst us)/\dH (FrR H) us fs/\aD1 (0,1) fs/\∀H' q,aR H H'->aY H' q (fs.foldl cY (0,1)).1 (fs.foldl cY (0,1)).2->Q (.ref q) H'
def spDiv:Sp:=fun vs H Q _=>∃(p q:Addr) (u e:Int×Int),vs=[.ref p,.ref q]/\aY H p u.1 u.2/\aY H q e.1 e.2/\jN u/\jN e/\1<=e.1/\∀r,H r=none->Q (.ref r) (aN H r (.tup (iG (u.1*e.2) (u.2*e.1))))
def spFlatT:Sp:=fun vs H Q _=>∃n r lo hi:Int,vs=[.int n,.int r,.int lo,.int hi]/\0<=r/\r<=4/\fG lo hi/\∀H' t us,aR H H'->H' t=some (.tup us)->dH (nC H') us (xS n r lo hi)->Q (.ref t) H'
def spChT:Sp:=fun vs H Q _=>∃nt st p q ns,vs=[.ref nt,.ref st]/\dF H nt ns/\(∀n∈ns,0<=n/\n<=9)/\1<=ns.length/\ns.length<=4/\aY H st p q/\bT p q /\
 ∀H' t us,aR H H'->H' t=some (.tup us)->dH (nC H') us (kT (fA p q ns) 0 (ns.map (gC p q)))->Q (.ref t) H'
def jF{b:Bool}{A B:Prop}(h:b=false)(x:B):if b=true then A else B:=by subst h;exact x
def sS{b:Bool}{A B:Prop}(h:b=true)(x:A):if b=true then A else B:=by subst h;exact x
def dH.at{α:Type}{R:V->α->Prop}:∀{vs:List V}{as:List α}{i:Nat}{v:V},dH R vs as->vs[i]?=some v->∃a,as[i]?=some a/\R v a
 |[],[],_,_,_,h=>by simp at h
 |v::vs,a::as,0,w,⟨h1,_⟩,h=>by
  have e:v=w:=by simpa using h
  subst e;exact⟨a,by simp,h1⟩
 |v::vs,a::as,i+1,w,⟨_,h2⟩,h=>by
  obtain⟨b,hb,r⟩:=dH.at (i:=i) h2 (by simpa using h);exact⟨b,by simpa using hb,r⟩
def tE{H H1:Hp}{l:Addr}{o:HO}(s:aR H H1)(h:H l=none):aR H (aN H1 l o):=fun b u e=>by
 rw[aH (aM e h)];exact s b u e
def bC0{p q:Int}(s:bT p q):∀{ns:List Int},(∀n∈ns,0<=n/\n<=9)->1<=ns.length->1<=fA p q ns
 |n::r,h,_=>by
  have a1:=h n aj;have g:=(mB s a1.1 a1.2).1;have ih:=xT s r fun m hm=>h m (ae _ hm)
  have e:fA p q (n::r)=gC p q n+fA p q r:=by simp[fA]
  lia
def jB{S P:Int}(hS:1<=S)(hP:1<=P):1<=bH S P:=by
 have r:=dG (a:=S) (by lia) hP;have n2:=bV (a:=S) hP;have a:=bN (a:=S) (b:=P) (by lia)
 by_cases z:bH S P=0
 ·rw[z,aAe] at r;have:=dk (show 0<S by lia) (show 0<bA S P by lia);lia
 ·lia
def aU6(a b c d:Int):Spec.same (.tuple [.int a,.int b]) (.tuple [.int c,.int d])=decide ((a,b)=(c,d)):=by
 have e:Spec.same (.tuple ([a,b].map PyData.int)) (.tuple ([c,d].map PyData.int))=decide ([a,b]=[c,d]):=jG [a,b] [c,d];refine Eq.trans e ?_
 by_cases h1:a=c<;>by_cases h2:b=d<;>simp[h1,h2]
def bP2{wss:List (List Int)}{cs ws:List Int}{lo hi:Int}{i:Nat}(h:wss[i]?=some ws):(cU wss cs lo hi)[i]?=some (qK (cC7 ws cs) lo hi):=by
 unfold cU;rw[df,h];rfl
def sC{p q lo h n m:Int}(s:bT p q)(n0:lo<=n)(n1:n<=h)(m0:lo<=m)(m1:m<=h) :
  dJ p q lo h n m*gW p q (m-n).natAbs=(if m=lo\/m=h then nE p q (m-n).natAbs else shN p q (m-n).natAbs)*gW p q (h-lo).toNat:=by
 have e:q^(h-lo).toNat=q^(h-lo-((m-n).natAbs:Int)).toNat*q^(m-n).natAbs:=by
  rw[<-qd]
  congr 1
  exact aQ6 n0 n1 m0 m1
 unfold dJ gW
 split
 ·unfold nE;generalize q^(h-lo).toNat=a at e ⊢;generalize q^(h-lo-((m-n).natAbs:Int)).toNat=b at e ⊢;generalize q^(m-n).natAbs=c at e ⊢;generalize p^(m-n).natAbs=d
  grind
 ·unfold shN;generalize q^(h-lo).toNat=a at e ⊢;generalize q^(h-lo-((m-n).natAbs:Int)).toNat=b at e ⊢;generalize q^(m-n).natAbs=c at e ⊢;generalize p^(m-n).natAbs=d
  grind
def qF(p q lo h n m:Int):Int:=((aU m (h+1-m).toNat).map (dJ p q lo h n)).sum
def tG{p q lo h n m:Int}(hm:m<=h):qF p q lo h n m=dJ p q lo h n m+qF p q lo h n (m+1):=by
 unfold qF;have e:(h+1-m).toNat=(h+1-(m+1)).toNat+1:=by lia
 rw[e,gG,bt,dm]
def bO7{p q lo h n:Int}:qF p q lo h n (h+1)=0:=by
 unfold qF;have e:(h+1-(h+1)).toNat=0:=by lia
 rw[e];rfl
def aQ5{a b x y:Int}(hx:1<=x)(hy:1<=y)(h:a*(x*y)=b*(x*y)):a=b:=by
 have:x*y≠0:=by
  have:=dk (show 0<x by lia) (show 0<y by lia)
  lia
 exact Int.eq_of_mul_eq_mul_right this h
def aD6{p q lo h n:Int}(s:bT p q)(n0:lo<=n)(n1:n<=h):∀(k:Nat) (m:Int),lo<m->m<=h->(h-m).toNat=k->qF p q lo h n m*tD p q (m-n)=tN p q (m-n)*gW p q (h-lo).toNat:=by
 intro k
 induction k with
 |zero =>
  intro m m0 m1 hk;have e:m=h:=by lia
  subst e;have f:=sC s n0 n1 (by lia:lo<=m) (cw m);rw[ao (vw rfl)] at f;rw[tG (cw m),bO7,aAg];have c0:0<=m-n:=by lia
  have ek:(m-n).natAbs=(m-n).toNat:=by lia
  rw[ek] at f;unfold tN tD;rw[ao c0,ao c0];exact f
 |succ k ih =>
  intro m m0 m1 hk;have i:=ih (m+1) (by lia) (by lia) (by lia);have f:=sC s n0 n1 (by lia:lo<=m) m1;rw[ai (by lia)] at f;have t:=bL2 s.p1 s.pq (m-n);have d1:=jR s.p1 s.pq (m-n).natAbs;have d2:=aG2 s.p1 s.pq (m-n+1);rw[tG m1];have em:m+1-n=m-n+1:=by lia
  rw[em] at i;refine aQ5 d1 d2 ?_;generalize dJ p q lo h n m=x at f ⊢;generalize qF p q lo h n (m+1)=y at i ⊢;generalize gW p q (h-lo).toNat=u at f i ⊢;generalize gW p q (m-n).natAbs=a at f t ⊢;generalize shN p q (m-n).natAbs=b at f t;generalize tD p q (m-n+1)=c at i t ⊢;generalize tN p q (m-n+1)=d at i t;generalize tD p q (m-n)=e at t ⊢;generalize tN p q (m-n)=g at t ⊢
  grind
def vZ{p q lo h n:Int}(s:bT p q)(n0:lo<=n)(n1:n<=h)(lt:lo<h):qF p q lo h n lo=gW p q (h-lo).toNat:=by
 have f:=sC s n0 n1 (cw lo) (by lia);rw[ao (oo rfl)] at f;have t:=aD6 s n0 n1 (h-(lo+1)).toNat (lo+1) (by lia) (by lia) rfl;have d1:=jR s.p1 s.pq (lo-n).natAbs;have d2:=aG2 s.p1 s.pq (lo+1-n);rw[tG (by lia)];refine aQ5 d1 d2 ?_;have key:nE p q (lo-n).natAbs*tD p q (lo+1-n)+tN p q (lo+1-n)*gW p q (lo-n).natAbs=gW p q (lo-n).natAbs*tD p q (lo+1-n):=by
  unfold tN tD
  by_cases c:0<=lo+1-n
  ·rw[ao c,ao c];have:lo-n=0\/lo-n= -1:=by lia
   rcases this with z|z
   ·have e1:(lo-n).natAbs=0:=by lia
    have e2:(lo+1-n).toNat=1:=by lia
    rw[e1,e2];unfold nE gW;simp only[Int.pow_zero,Int.pow_one]
    grind
   ·have e1:(lo-n).natAbs=1:=by lia
    have e2:(lo+1-n).toNat=0:=by lia
    rw[e1,e2];unfold nE gW;simp only[Int.pow_zero,Int.pow_one]
    grind
  ·rw[ai c,ai c];have e1:(1-(lo+1-n)).toNat=(lo-n).natAbs:=by lia
   rw[e1];generalize nE p q (lo-n).natAbs=a;generalize gW p q (lo-n).natAbs=b
   grind
 generalize dJ p q lo h n lo=x at f ⊢;generalize qF p q lo h n (lo+1)=y at t ⊢;generalize gW p q (h-lo).toNat=u at f t ⊢;generalize gW p q (lo-n).natAbs=a at f key ⊢;generalize nE p q (lo-n).natAbs=b at f key;generalize tD p q (lo+1-n)=c at t key ⊢;generalize tN p q (lo+1-n)=d at t key
 grind
def aF7(p q lo h n m:Int):Int×Int:=if m<=lo then (1,1) else if h<m then (0,1) else (bH (tN p q (m-n)) (tD p q (m-n)),bA (tN p q (m-n)) (tD p q (m-n)))
def aW(c w:Int):Int×Int:=(bH c w,bA c w)
def iM{a b c d:Int}(ha:0<=a)(hb:1<=b)(hc:0<=c)(hd:1<=d)(h:a*d=c*b):aW a b=aW c d:=by
 have e:=nB ha hb hc hd h;unfold aW;rw[e.1,e.2]
def aC6{w:Int}(h:1<=w):aW w w=(1,1):=by
 have e:=iM (a:=w) (b:=w) (c:=1) (d:=1) (by lia) h (by decide) (by decide) (by lia);rw[e]
 decide
def gU{w:Int}(h:1<=w):aW 0 w=(0,1):=by
 have e:=iM (a:=0) (b:=w) (c:=0) (d:=1) (by lia) h (by decide) (by decide) (by lia);rw[e]
 decide
def tY(lo:Int):∀(j N:Nat),(aU lo N).drop j=aU (lo+j) (N-j)
 |0,N=>by simp
 |j+1,0=>by simp[aU]
 |j+1,N+1=>by
  rw[gG,List.drop_succ_cons,tY (lo+1) j N];have e:lo+1+(j:Int)=lo+((j+1:Nat):Int):=by lia
  rw[e,Nat.succ_sub_succ]
def aft(p q lo h n m:Int):Int:=((cP p q lo h n).drop (m-lo).toNat).sum
def bef(p q lo h n m:Int):Int:=((cP p q lo h n).take (m-lo).toNat).sum
def bN6{p q lo h n m:Int}:bef p q lo h n m+aft p q lo h n m=(cP p q lo h n).sum:=by
 unfold bef aft;rw[<-oh,yg]
def jS:∀{l:List Int},(∀x∈l,1<=x)->0<=l.sum
 |[],_=>by decide
 |a::r,h=>by
  rw[dm];have:=h a aj;have:=jS fun x hx=>h x (ae _ hx)
  lia
def aZ1{p q lo h n m:Int}(s:bT p q):0<=aft p q lo h n m:=jS fun x hx=>iB s x (yx hx)
def bY7{p q lo h n m:Int}(s:bT p q):0<=bef p q lo h n m:=jS fun x hx=>iB s x (yy hx)
def kA{p q lo h n:Int}(s:bT p q)(n0:lo<=n)(n1:n<=h):(cP p q lo h n).sum=eG p q lo h:=by
 unfold cP eG
 by_cases c:lo=h
 ·rw[ao c,ao c];rfl
 ·rw[ai c,ai c];exact vZ s n0 n1 (by lia)
def bP1{p q lo h n m:Int}(s:bT p q)(n0:lo<=n)(n1:n<=h)(m0:lo<=m)(m1:m<=h+1)(bp:1<=eG p q lo h):aF7 p q lo h n m=aW (aft p q lo h n m) (eG p q lo h):=by
 unfold aF7
 by_cases c1:m<=lo
 ·rw[ao c1];have e:m=lo:=by lia
  subst e;have e2:aft p q m h n m=eG p q m h:=by
   unfold aft;have e0:(m-m).toNat=0:=by lia
   rw[e0,uc];exact kA s n0 n1
  rw[e2,aC6 bp]
 ·rw[ai c1]
  by_cases c2:h<m
  ·rw[ao c2];have e2:aft p q lo h n m=0:=by
    unfold aft;rw[xz]
    ·rfl
    ·unfold cP
     split
     ·show 1<=_;lia
     ·rw[ac,bS];lia
   rw[e2,gU bp]
  ·rw[ai c2];have c:¬lo=h:=by lia
   have t:=aD6 s n0 n1 (h-m).toNat m (by lia) (by lia) rfl;have e2:aft p q lo h n m=qF p q lo h n m:=by
    unfold aft cP qF;rw[ai c, <-List.map_drop,tY];have a1:lo+((m-lo).toNat:Int)=m:=by lia
    have a2:(h+1-lo).toNat-(m-lo).toNat=(h+1-m).toNat:=by lia
    rw[a1,a2]
   have an:=aZ1 (lo:=lo) (h:=h) (n:=n) (m:=m) s;rw[e2] at an ⊢;have bq:eG p q lo h=gW p q (h-lo).toNat:=by unfold eG;rw[ai c]
   rw[bq] at bp ⊢;exact iM (cQ3 s.p1 s.pq _) (aG2 s.p1 s.pq _) an bp t.symm
def qX{a b c d:Int}(ha:0<=a)(hb:1<=b)(hc:0<=c)(hd:1<=d):aW ((aW a b).1*(aW c d).1) ((aW a b).2*(aW c d).2)=aW (a*c) (b*d):=by
 have r1:=dG ha hb;have r2:=dG hc hd;have n1:=bN (b:=b) ha;have n2:=bN (b:=d) hc;have p1:=bV (a:=a) hb;have p2:=bV (a:=c) hd;have q1:=cj n1 n2;have q2:=dk (show 0<bA a b by lia) (show 0<bA c d by lia);have q3:=cj ha hc;have q4:=dk (show 0<b by lia) (show 0<d by lia);refine iM q1 (by show 1<=bA a b*bA c d;lia) q3 (by lia) ?_
 show bH a b*bH c d*(b*d)=a*c*(bA a b*bA c d);generalize bH a b=x at r1 ⊢;generalize bA a b=y at r1 ⊢;generalize bH c d=z at r2 ⊢;generalize bA c d=w at r2 ⊢
 grind
def gQ{a b w:Int}(ha:0<=a)(hb:0<=b)(hw:1<=w):cY (aW a w) (aW b w)=aW (a+b) w:=by
 have r1:=dG ha hw;have r2:=dG hb hw;have n1:=bN (b:=w) ha;have n2:=bN (b:=w) hb;have p1:=bV (a:=a) hw;have p2:=bV (a:=b) hw;have q1:=cj n1 (show 0<=bA b w by lia);have q2:=cj n2 (show 0<=bA a w by lia);have q3:=dk (show 0<bA a w by lia) (show 0<bA b w by lia);show aW (bH a w*bA b w+bH b w*bA a w) (bA a w*bA b w)=_;refine iM (by lia) (by lia) (by lia) hw ?_;generalize bH a w=x at r1 ⊢;generalize bA a w=y at r1 ⊢
 generalize bH b w=z at r2 ⊢;generalize bA b w=v at r2 ⊢
 grind
def bO3{a c u:Int}(ha:0<=a)(hc:0<=c)(hu:1<=u)(h:a+c=u):aW (1*(aW a u).2-(aW a u).1*1) (1*(aW a u).2)=aW c u:=by
 have r1:=dG ha hu;have n1:=bN (b:=u) ha;have p1:=bV (a:=a) hu;have l2:=yL (a:=a) (b:=u) (by lia) hu;refine iM (by show 0<=1*bA a u-bH a u*1;lia) (by show 1<=1*bA a u;lia) hc hu ?_;show(1*bA a u-bH a u*1)*u=c*(1*bA a u);generalize bH a u=x at r1 ⊢;generalize bA a u=y at r1 ⊢
 grind
def dM:List (Int×Int×Int)->Int
 |[]=>1
 |t::r=>t.2.2*dM r
def uO(u y:Int×Int):Int×Int:=aW (u.1*y.1) (u.2*y.2)
def dD:Int->List (Int×Int×Int)->List Int
 |l,[]=>[l]
 |l,t::r=>l*t.1*dM r::dD (l*t.2.1) r
structure Tri(t:Int×Int×Int):Prop where
 a:0<=t.1
 c:0<=t.2.1
 s:t.1+t.2.1=t.2.2
 u:1<=t.2.2
def pH:∀{ts:List (Int×Int×Int)},(∀t∈ts,Tri t)->1<=dM ts
 |[],_=>by decide
 |t::r,h=>by
  have a:=(h t aj).u;have b:=pH fun x hx=>h x (ae _ hx)
  show 1<=t.2.2*dM r;have:=dk (show 0<t.2.2 by lia) (show 0<dM r by lia)
  lia
def kE:(Int->Int)->List (Int×Int)->Int->Int
 |c,[]=>c
 |c,e::r=>kE (fun z=>if z=e.1 then c z+e.2 else c z) r
def aO8:∀(c:Int->Int) (es fs:List (Int×Int)),kE c (es++fs)=kE (kE c es) fs
 |c,[],fs=>rfl
 |c,e::r,fs=>aO8 _ r fs
def aO4:∀(c:Int->Int) (es:List (Int×Int)) (y:Int),(∀e∈es,e.1≠y)->kE c es y=c y
 |c,[],y,_=>rfl
 |c,e::r,y,h=>by
  have h1:¬y=e.1:=fun z=>h e aj z.symm
  show kE (fun z=>if z=e.1 then c z+e.2 else c z) r y=c y;rw[aO4 _ r y fun x hx=>h x (ae _ hx)];exact ai h1
def OkT(w:Int)(T:Int->Option (Int×Int))(c:Int->Int):Prop:=∀y,(T y=none/\c y=0)\/T y=some (aW (c y) w)
def OkT.get{w:Int}{T:Int->Option (Int×Int)}{c:Int->Int}(hw:1<=w)(h:OkT w T c)(y:Int):(T y).getD (0,1)=aW (c y) w:=by
 rcases h y with⟨e1,e2⟩|e
 ·rw[e1,e2,gU hw];rfl
 ·rw[e];rfl
def OkT.step{w:Int}{T:Int->Option (Int×Int)}{c:Int->Int}(hw:1<=w)(hc:∀y,0<=c y)(h:OkT w T c){k v:Int}(hv:0<=v):OkT w (kG T (k,aW v w)) (fun z=>if z=k then c z+v else c z):=by
 intro y;unfold kG
 by_cases e:y=k
 ·refine .inr ?_;simp only[e,if_true];rw[h.get hw k,gQ (hc k) hv hw]
 ·simp only[e,if_false];exact h y
def aQ0{w:Int}(hw:1<=w):∀(es:List (Int×Int)) (T:Int->Option (Int×Int)) (c:Int->Int),(∀y,0<=c y)->(∀e∈es,0<=e.2)->OkT w T c->OkT w ((es.map fun e=>((e.1,aW e.2 w):Int×Int×Int)).foldl kG T) (kE c es)
 |[],T,c,_,_,h=>h
 |e::r,T,c,hc,he,h=>by
  simp only[List.map_cons,List.foldl_cons];have h1:=he e aj;exact aQ0 hw r _ _ (fun z=>by have:=hc z;split<;>lia) (fun x hx=>he x (ae _ hx)) (h.step hw hc h1)
def aC2{w b v:Int}(hw:1<=w)(hb:w<2^180)(hv:0<=v):∀(es:List (Int×Int)) (T:Int->Option (Int×Int)) (c:Int->Int) (b:Int),(∀y,0<=c y/\c y<=b)->(∀e∈es,0<=e.2/\e.2<=v)->b+es.length*v<2^180->v<2^180->OkT w T c->aJ7 T (es.map fun e=>(e.1,aW e.2 w))
 |[],_,_,_,_,_,_,_,_=>trivial
 |e::r,T,c,b,hc,he,hbd,hv2,h=>by
  have h1:=he e aj;have e3:((e::r).length:Int)*v=v+(r.length:Int)*v:=by
   rw[bo]
   push_cast
   rw[aAr,ib,Int.add_comm]
  rw[e3] at hbd;have rv:0<=(r.length:Int)*v:=cj (by lia) hv;refine⟨?_,mX h1.1 (by lia) hw hb,aC2 (b:=b) hw hb hv r _ _ (b+v) (fun z=>by have:=hc z;split<;>lia) (fun x hx=>he x (ae _ hx)) (by lia) hv2 (h.step hw (fun y=>(hc y).1) h1.1)⟩;have ck:=hc e.1;show jN ((T e.1).getD (0,1));rw[h.get hw];exact mX ck.1 (by lia) hw hb
def aS3{w:Int}(hw:1<=w){es:List (Int×Int)}(he:∀e∈es,0<=e.2){m:Nat}(hk:∀e∈es,0<=e.1/\e.1<m){ks:List Int}(hr:ks.Pairwise (· < ·))(hm:∀k,k∈ks↔∃u,nH (es.map fun e=>(e.1,aW e.2 w)) k=some u/\u≠(0,1)) :
  qC (nH (es.map fun e=>(e.1,aW e.2 w))) ks=iW w 0 ((aU 0 m).map (kE (fun _=>0) es)):=by
 have tt:OkT w (nH (es.map fun e=>(e.1,aW e.2 w))) (kE (fun _=>0) es):=aQ0 hw es (fun _=>none) (fun _=>0) (fun _=>cw _) he (fun _=> .inl ⟨rfl,rfl⟩);have nn:∀(l:List (Int×Int)) (c:Int->Int),(∀y,0<=c y)->(∀e∈l,0<=e.2)->∀y,0<=kE c l y:=by
  intro l
  induction l with
  |nil=>intro c h _ y;exact h y
  |cons e r ih =>
   intro c h he y;have:=he e aj;exact ih _ (fun z=>by have:=h z;split<;>lia) (fun x hx=>he x (ae _ hx)) y
 have c0:=nn es (fun _=>0) (fun _=>cw _) he;generalize hT:nH (es.map fun e=>(e.1,aW e.2 w))=T at tt hm ⊢;have inr:∀k,kE (fun _=>0) es k≠0->0<=k/\k<m:=fun k hk'=>by
  by_cases q:∃e∈es,e.1=k
  ·obtain⟨e,he',rfl⟩:=q;exact hk e he'
  ·exact absurd (aO4 (fun _=>0) es k fun e he' z=>q ⟨e,he',z⟩) hk'
 generalize kE (fun _=>0) es=c at tt c0 inr ⊢;have ne:∀a,0<a->aW a w≠(0,1):=fun a ha z=>by
  have q1:bH a w=0:=gv Prod.fst z;have:=jB (S:=a) (P:=w) (by lia) hw;lia
 have ek:ks=(aU 0 m).filter fun y=>decide (0<c y):=by
  refine uL hr ((jQ 0 _).sublist oa) fun k=>?_
  rw[hm k,dr,eQ,ph];have ck:=c0 k
  constructor
  ·rintro⟨u,e1,e2⟩;rcases tt k with⟨z,_⟩|z
   ·rw[z] at e1;cases e1
   ·rw[z] at e1
    cases e1
    by_cases q:c k=0
    ·rw[q,gU hw] at e2;exact absurd rfl e2
    ·have:=inr k q;exact⟨⟨this.1,by lia⟩,by lia⟩
  ·rintro⟨_,q⟩;rcases tt k with⟨_,z⟩|z
   ·lia
   ·exact⟨_,z,ne _ q⟩
 unfold qC;rw[tO,ek];refine gc fun y hy=>?_
 have hy2:0<c y:=by
  have:=(dr.mp hy).2;exact ar this
 rcases tt y with⟨_,z⟩|z
 ·lia
 ·rw[z];rfl
def wT(pb qb lo h m n:Int):Int×Int×Int:=(aft pb qb lo h n m,bef pb qb lo h n m,eG pb qb lo h)
def cA6{pb qb lo h m n:Int}(s:bT pb qb)(n0:lo<=n)(n1:n<=h)(bp:1<=eG pb qb lo h):Tri (wT pb qb lo h m n):=by
 have e1:=bN6 (p:=pb) (q:=qb) (lo:=lo) (h:=h) (n:=n) (m:=m);have e2:=kA s n0 n1;exact⟨aZ1 s,bY7 s,by show aft pb qb lo h n m+bef pb qb lo h n m=eG pb qb lo h;lia,bp⟩
def lK{pb qb lo h m:Int}:∀ns:List Int,dM (ns.map (wT pb qb lo h m))=eG pb qb lo h^ns.length
 |[]=>by simp[dM]
 |n::r=>by
  show eG pb qb lo h*dM (r.map (wT pb qb lo h m))=_;rw[lK r,bo,ge,sq]
def gO:Int->List Int->List (Int×Int)
 |_,[]=>[]
 |k,c::r=>(k,c)::gO (k+1) r
def mP:∀(k:Int) (l:List Int) (c:Int),gO k (l++[c])=gO k l++[(k+l.length,c)]
 |k,[],c=>by simp[gO]
 |k,a::r,c=>by
  have e:k+1+(r.length:Int)=k+((r.length+1:Nat):Int):=by lia
  simp only[List.cons_append,gO,mP (k+1) r c,List.length_cons,e]
def wO:∀{k:Int}{l:List Int}{e:Int×Int},e∈gO k l->(k<=e.1/\e.1<k+l.length)/\e.2∈l
 |k,[],e,h=>nomatch h
 |k,a::r,e,h=>by
  rcases az.mp h with z|z
  ·subst z;refine⟨⟨cw _,?_⟩,aj⟩;show k<k+((r.length+1:Nat):Int);lia
  ·have:=wO z;rw[bo];exact⟨⟨by lia,by lia⟩,ae _ this.2⟩
def lO:∀(k:Int) (l:List Int),(gO k l).length=l.length
 |_,[]=>rfl
 |k,a::r=>by simp[gO,lO (k+1) r]
def iK:∀(l:Int) (ts:List (Int×Int×Int)),(dD l ts).length=ts.length+1
 |_,[]=>rfl
 |l,t::r=>by simp[dD,iK]
def mN:∀(ts:List (Int×Int×Int)) (l:Int),0<=l->(∀t∈ts,Tri t)->∀c∈dD l ts,0<=c/\c<=l*dM ts
 |[],l,hl,_,c,hc=>by
  have e:c=l:=by simpa [dD] using hc
  subst e;exact⟨hl,by show c<=c*1;lia⟩
 |t::r,l,hl,h,c,hc=>by
  have ht:=h t aj;have hr:∀x∈r,Tri x:=fun x hx=>h x (ae _ hx)
  have pr:=pH hr;have q1:=cj hl ht.a;have q2:=cj hl ht.c;have es:l*t.1+l*t.2.1=l*t.2.2:=by rw[<-Int.mul_add,ht.s]
  have ep:l*dM (t::r)=l*t.2.2*dM r:=by show l*(t.2.2*dM r)=_;rw[qk]
  rw[ep];rcases az.mp hc with z|z
  ·subst z;exact⟨cj q1 (by lia),cu (by lia) (by lia)⟩
  ·have ih:=mN r (l*t.2.1) q2 hr c z;exact⟨ih.1,bm ih.2 (cu (by lia) (by lia))⟩
def sN(pa qa pb qb mk:Int)(ns:List Int)(lo hi m:Int):List (Int×Int):=gO 0 (dD (dJ pa qa lo hi mk m) (ns.map (wT pb qb lo (hi-1) m)))
def eB(pa qa pb qb mk:Int)(ns:List Int)(lo hi:Int)(j:Nat):List (Int×Int):=(aU lo j).flatMap (sN pa qa pb qb mk ns lo hi)
def kZ{pa qa pb qb mk:Int}{ns:List Int}{lo hi:Int}(j:Nat):eB pa qa pb qb mk ns lo hi (j+1)=eB pa qa pb qb mk ns lo hi j++sN pa qa pb qb mk ns lo hi (lo+j):=by
 unfold eB;rw[cD,tq];simp
def wF(pa qa pb qb lo hi:Int)(k:Nat):Int:=eG pa qa lo hi*eG pb qb lo (hi-1)^k
def aS8(w:Int)(e:Int×Int):Int×Int×Int:=(e.1,aW e.2 w)
def nJ(pa qa pb qb mk:Int)(ns:List Int)(lo hi:Int):List (Int×Int×Int):=
 iW (wF pa qa pb qb lo hi ns.length) 0 ((aU 0 (ns.length+1)).map (kE (fun _=>0) (eB pa qa pb qb mk ns lo hi (hi+1-lo).toNat)))
def tR{p q lo hi:Int}(s:bT p q)(a:0<=lo)(b:lo<=hi)(c:hi<=9):1<=eG p q lo hi/\eG p q lo hi<2^34:=by
 obtain⟨p1,pq,q9⟩:=id s;unfold eG
 split
 ·decide
 ·have e1:=jR p1 pq (hi-lo).toNat;refine⟨e1,?_⟩;have hq:=oQ (p:=q) (q:=9) (by lia) q9 (hi-lo).toNat;have m9:∀j:Nat,j<=9->(9:Int)^j<2^29:=by decide
  have b1:=m9 (hi-lo).toNat (by lia);have q0:0<q^(hi-lo).toNat:=gh (by lia);have m:=fF (a:=q+p) (b:=q^(hi-lo).toNat) (m:=5) (n:=29) (by lia) (by lia) (by lia) (by lia);exact m.2
def cE4{u:Int}(h1:1<=u)(h2:u<2^34):∀k:Nat,k<=4->1<=u^k/\u^k<2^136
 |0,_=>by rw[wc];decide
 |1,_=>by rw[ya];exact⟨h1,by lia⟩
 |2,_=>by
  have m:=fF (a:=u) (b:=u) (m:=34) (n:=34) (by lia) h2 (by lia) h2;have p:=dk (show 0<u by lia) (show 0<u by lia);have e:u^2=u*u:=by rw[ge,ya]
  rw[e];exact⟨by lia,jx m.2 (by decide)⟩
 |3,_=>by
  have i:=cE4 h1 h2 2 (by decide);have m2:=fF (a:=u) (b:=u) (m:=34) (n:=34) (by lia) h2 (by lia) h2;have m:=fF (a:=u*u) (b:=u) (m:=68) (n:=34) m2.1 m2.2 (by lia) h2;have p:=dk (dk (show 0<u by lia) (show 0<u by lia)) (show 0<u by lia);have e:u^3=u*u*u:=by rw[ge,ge,ya]
  rw[e];exact⟨by lia,jx m.2 (by decide)⟩
 |4,_=>by
  have m2:=fF (a:=u) (b:=u) (m:=34) (n:=34) (by lia) h2 (by lia) h2;have m3:=fF (a:=u*u) (b:=u) (m:=68) (n:=34) m2.1 m2.2 (by lia) h2;have m:=fF (a:=u*u*u) (b:=u) (m:=102) (n:=34) m3.1 m3.2 (by lia) h2;have p:=dk (dk (dk (show 0<u by lia) (show 0<u by lia)) (show 0<u by lia)) (show 0<u by lia)
  have e:u^4=u*u*u*u:=by rw[ge,ge,ge,ya]
  rw[e];exact⟨by lia,m.2⟩
structure bK0(lo hi:Int):Prop where
 a:0<=lo
 b:lo+1<=hi
 c:hi<=9
def aP4{pa qa pb qb lo hi:Int}{k:Nat}(sa:bT pa qa)(sb:bT pb qb)(e:bK0 lo hi)(hk:k<=4):1<=wF pa qa pb qb lo hi k/\wF pa qa pb qb lo hi k<2^170:=by
 have e1:=tR sa e.a (show lo<=hi by have:=e.b;lia) e.c;have e2:=tR (lo:=lo) (hi:=hi-1) sb e.a (by have:=e.b;lia) (by have:=e.c;lia);have e3:=cE4 e2.1 e2.2 k hk;unfold wF;have m:=fF (a:=eG pa qa lo hi) (b:=eG pb qb lo (hi-1)^k) (m:=34) (n:=136) (by lia) e1.2 (by lia) e3.2;have p:=dk (show 0<eG pa qa lo hi by lia) (show 0<eG pb qb lo (hi-1)^k by lia);exact⟨by lia,m.2⟩
def uZ{p q lo hi n y:Int}(s:bT p q)(n0:lo<=n)(n1:n<=hi)(lt:lo<hi)(y0:lo<=y)(y1:y<=hi):dJ p q lo hi n y<=eG p q lo hi:=by
 rw[<-kA s n0 n1];have hm:dJ p q lo hi n y∈cP p q lo hi n:=by
  unfold cP;rw[ai (by lia)];exact ci.mpr ⟨y,eQ.mpr ⟨y0,by lia⟩,rfl⟩
 have pos:=iB (lo:=lo) (hi:=hi) (n:=n) s;have gen:∀(l:List Int),(∀x∈l,1<=x)->∀z∈l,z<=l.sum:=by
  intro l
  induction l with
  |nil=>intro _ z hz;cases hz
  |cons a r ih =>
   intro h z hz;have hs:=jS fun x hx=>h x (ae _ hx)
   have ha:=h a aj;rw[dm];rcases az.mp hz with e|e
   ·subst e;lia
   ·have:=ih (fun x hx=>h x (ae _ hx)) z e;lia
 exact gen _ pos _ hm
def aB1{p q lo hi n:Int}(s:bT p q)(n0:lo<=n)(n1:n<=hi)(lt:lo<hi):mO p q lo hi n=(aU lo (hi+1-lo).toNat).map fun y=>(y,aW (dJ p q lo hi n y) (eG p q lo hi)):=by
 rw[<-vV s n0 n1];unfold cP;rw[ai (by lia),tU];rfl
structure InF(pa qa pb qb mk:Int)(ns:List Int)(lo hi:Int):Prop where
 sa:bT pa qa
 sb:bT pb qb
 en:bK0 lo hi
 m0:lo<=mk
 m1:mk<=hi
 nn:∀n∈ns,lo<=n/\n<=hi-1
 l1:1<=ns.length
 l4:ns.length<=4
def InF.tris{pa qa pb qb mk:Int}{ns:List Int}{lo hi m:Int}(F:InF pa qa pb qb mk ns lo hi):∀t∈ns.map (wT pb qb lo (hi-1) m),Tri t:=fun t ht=>by
 obtain⟨n,hn,rfl⟩:=ci.mp ht;have e:=F.en;have e2:=tR (lo:=lo) (hi:=hi-1) F.sb e.a (by have:=e.b;lia) (by have:=e.c;lia);exact cA6 F.sb (F.nn n hn).1 (F.nn n hn).2 e2.1
def InF.cells{pa qa pb qb mk:Int}{ns:List Int}{lo hi:Int}(F:InF pa qa pb qb mk ns lo hi):∀e∈eB pa qa pb qb mk ns lo hi (hi+1-lo).toNat,(0<=e.1/\e.1<((ns.length+1:Nat):Int))/\0<=e.2/\e.2<=wF pa qa pb qb lo hi ns.length:=fun e he=>by
 obtain⟨m,hm,hc⟩:=we.mp he;have hm:=eQ.mp hm;have en:=F.en;have:=en.b;obtain⟨⟨k0,k1⟩,hv⟩:=wO hc;have l0:=yD (lo:=lo) (hi:=hi) (n:=mk) (y:=m) F.sa;have bd:=mN _ _ (by lia) F.tris _ hv;rw[iK,ac] at k1;rw[lK] at bd;have le:=uZ F.sa F.m0 F.m1 (by lia) hm.1 (by lia);have e2:=tR (lo:=lo) (hi:=hi-1) F.sb en.a (by lia) (by have:=en.c;lia);have e3:=cE4 e2.1 e2.2 ns.length F.l4;refine⟨⟨k0,by lia⟩,bd.1,bm bd.2 ?_⟩;unfold wF;exact cu le (by lia)
def jJ{pa qa pb qb mk:Int}{ns:List Int}{lo hi:Int}:∀j:Nat,(eB pa qa pb qb mk ns lo hi j).length=j*(ns.length+1)
 |0=>by simp[eB,aU]
 |j+1=>by
  rw[kZ,bg,jJ j];unfold sN;rw[lO,iK,ac,mo]
def InF.len{pa qa pb qb mk:Int}{ns:List Int}{lo hi:Int}(F:InF pa qa pb qb mk ns lo hi):(eB pa qa pb qb mk ns lo hi (hi+1-lo).toNat).length<=50:=by
 rw[jJ];have a:(hi+1-lo).toNat<=10:=by have:=F.en.a;have:=F.en.c;lia
 have b:ns.length+1<=5:=by have:=F.l4;lia
 exact dy a b
def InF.safe{pa qa pb qb mk:Int}{ns:List Int}{lo hi:Int}(F:InF pa qa pb qb mk ns lo hi):aJ7 (fun _=>none) ((eB pa qa pb qb mk ns lo hi (hi+1-lo).toNat).map (aS8 (wF pa qa pb qb lo hi ns.length))):=by
 have w:=aP4 F.sa F.sb F.en F.l4;have l:=F.len;refine aC2 (b:=0) (v:=wF pa qa pb qb lo hi ns.length) w.1 (by lia) (by lia) _ _ (fun _=>0) 0 (fun _=>⟨cw _,cw _⟩) (fun e he=>(F.cells e he).2) ?_ (by lia) (fun _=> .inl ⟨rfl,rfl⟩);have:((eB pa qa pb qb mk ns lo hi (hi+1-lo).toNat).length:Int)*wF pa qa pb qb lo hi ns.length<=50*wF pa qa pb qb lo hi ns.length:=cu (by lia) (by lia);lia
def InF.table{pa qa pb qb mk:Int}{ns:List Int}{lo hi:Int}(F:InF pa qa pb qb mk ns lo hi){ks:List Int}(hr:ks.Pairwise (· < ·))(hm:∀k,k∈ks↔∃u,nH ((eB pa qa pb qb mk ns lo hi (hi+1-lo).toNat).map (aS8 (wF pa qa pb qb lo hi ns.length))) k=some u/\u≠(0,1)) :
  qC (nH ((eB pa qa pb qb mk ns lo hi (hi+1-lo).toNat).map (aS8 (wF pa qa pb qb lo hi ns.length)))) ks=nJ pa qa pb qb mk ns lo hi:=
 aS3 (aP4 F.sa F.sb F.en F.l4).1 (fun e he=>(F.cells e he).2.1) (fun e he=>(F.cells e he).1) hr hm
def pw1{p:Int}(h:1<=p)(n:Nat):1<=p^n:=by
 have:(0:Int)<p^n:=gh (by lia);lia
def sP:∀(c:Int->Int) (ks:List Int) (y:Int),oR c ks y=c y+(ks.count y:Nat)
 |c,[],y=>by simp[oR]
 |c,a::r,y=>by
  show oR (fun z=>if z=a then c z+1 else c z) r y=_;rw[sP _ r y,List.count_cons]
  by_cases h:y=a
  ·subst h;rw[ao rfl,ao (by simp)];lia
  ·rw[ai h,ai (by simpa using fun z=>h z.symm)];lia
def seg(lo hi a:Int)(m:Nat):List Int:=(aU a m).map fun z=>qK z lo hi
def bT7(lo hi a:Int)(m:Nat):(seg lo hi a m).length=m:=by unfold seg;rw[ac,bS]
def pY(b:Int):∀(m:Nat) (a:Int),(aU a m).map (fun u=>b+u)=aU (b+a) m
 |0,a=>rfl
 |m+1,a=>by
  rw[cD,cD,aq,pY b m a];have e:b+(a+(m:Int))=b+a+m:=by lia
  rw[<-e];rfl
def aS9{n r lo hi:Int}(r0:0<=r):iS n r lo hi=seg lo hi (n-r) (2*r+1).toNat:=by
 unfold iS seg;have e:(r+1 - -r).toNat=(2*r+1).toNat:=by lia
 rw[e,show n-r=n + -r by lia, <-pY n,jl];rfl
def bN3{z lo hi:Int}(h:lo<=hi):lo<=qK z lo hi/\qK z lo hi<=hi:=by unfold qK;constructor<;>(split<;>split<;>lia)
def cI9{lo hi a:Int}{m:Nat}(h:lo<=hi):∀z∈seg lo hi a m,lo<=z/\z<=hi:=fun z hz=>by
 obtain⟨u,_,rfl⟩:=ci.mp hz;exact bN3 h
def vA{lo hi:Int}:∀{ks:List Int},(∀z∈ks,lo<=z/\z<=hi)->((aU lo (hi+1-lo).toNat).map fun y=>((ks.count y:Nat):Int)).sum=ks.length
 |[],_=>by
  have:∀l:List Int,(l.map fun y=>((([]:List Int).count y:Nat):Int)).sum=0:=fun l=>by
   induction l with
   |nil=>rfl
   |cons y l ih=>rw[bt,dm,ih];simp
  rw[this];rfl
 |k::ks,h=>by
  have ih:=vA (ks:=ks) fun z hz=>h z (ae _ hz)
  have hk:=h k aj;have one:∀(l:List Int),l.Nodup->(l.map fun y=>(((k::ks).count y:Nat):Int)).sum=(l.map fun y=>((ks.count y:Nat):Int)).sum+if k∈l then 1 else 0:=fun l=>by
   induction l with
   |nil=>intro _;rfl
   |cons y l il =>
    intro nd;obtain⟨n1,n2⟩:=ka.mp nd;rw[bt,dm,bt,dm,il n2,List.count_cons]
    by_cases e:k=y
    ·subst e;rw[ai n1,ao (by simp),ao aj];lia
    ·rw[ai (by simpa using e)]
     by_cases m:k∈l
     ·rw[ao m,ao (ae _ m)];lia
     ·rw[ai m,ai (fun z=>by rcases az.mp z with z|z<;>contradiction)];lia
  rw[one _ ((jQ lo _).imp fun z=>by lia),ih,ao (eQ.mpr ⟨hk.1,by lia⟩),bo];lia
def pT{n r lo hi:Int}(r0:0<=r)(y:Int):gL n r lo hi y=((seg lo hi (n-r) (2*r+1).toNat).count y:Nat):=by
 unfold gL;rw[sP,aS9 r0];lia
def aW5{n r lo hi:Int}(h:lo<=hi)(r0:0<=r):((aU lo (hi+1-lo).toNat).map (gL n r lo hi)).sum=2*r+1:=by
 have e:(aU lo (hi+1-lo).toNat).map (gL n r lo hi)=(aU lo (hi+1-lo).toNat).map fun y=>(((seg lo hi (n-r) (2*r+1).toNat).count y:Nat):Int):=gc fun y _=>pT r0 y
 rw[e,vA (cI9 h),bT7];lia
section
variable {p q lo h n n' m m':Int}
end
def pV:∀{ts:List (Int×Int×Int)}{l:Int},(∀t∈ts,Tri t)->(dD l ts).sum=l*dM ts
 |[],l,_=>by simp[dD,dM]
 |t::r,l,h=>by
  have T:=h t aj;unfold dD;rw[dm,pV fun x hx=>h x (ae _ hx)];show _=l*(t.2.2*dM r);rw[<-T.s]
  grind
def aL5{ts:List (Int×Int×Int)}{l:Int}(l0:0<=l)(h:∀t∈ts,Tri t)(i:Nat):0<=(dD l ts).getD i 0:=by
 rw[vc]
 cases e:(dD l ts)[i]? with
 |none=>exact cw _
 |some c=>exact(mN ts l l0 h c (bj e)).1
def FC(L:Int->Int)(T:Int->List (Int×Int×Int))(lo:Int)(N y:Nat):Int:=((aU lo N).map fun m=>(dD (L m) (T m)).getD y 0).sum
def wN:∀(l:List Int) (k:Int) (c:Int->Int) (y:Int),kE c (gO k l) y=c y+if k<=y then l.getD (y-k).toNat 0 else 0
 |[],k,c,y=>by simp[gO,kE]
 |a::r,k,c,y=>by
  show kE (fun z=>if z=k then c z+a else c z) (gO (k+1) r) y=_;rw[wN r (k+1) _ y]
  by_cases e:y=k
  ·subst e;rw[ao rfl,ai (by lia),ao (cw _),show(y-y).toNat=0 by lia];show c y+a+0=c y+a;lia
  ·rw[ai e]
   by_cases h:k<=y
   ·rw[ao (by lia),ao h,show(y-k).toNat=(y-(k+1)).toNat+1 by lia,List.getD_cons_succ]
   ·rw[ai (by lia),ai h]
def wU{pa qa pb qb mk:Int}{ns:List Int}{lo hi:Int}{y:Int}(y0:0<=y):∀j:Nat,kE (fun _=>0) (eB pa qa pb qb mk ns lo hi j) y=FC (dJ pa qa lo hi mk) (fun m=>ns.map (wT pb qb lo (hi-1) m)) lo j y.toNat
 |0=>rfl
 |j+1=>by
  rw[kZ,aO8];unfold sN;rw[wN,ao y0,wU y0 j,show y-0=y by lia];unfold FC;rw[cD,aq,oh];simp
def aV7{pa qa pb qb mk:Int}{ns:List Int}{lo hi:Int}:(aU 0 (ns.length+1)).map (kE (fun _=>0) (eB pa qa pb qb mk ns lo hi (hi+1-lo).toNat))=(aU 0 (ns.length+1)).map fun y=>FC (dJ pa qa lo hi mk) (fun m=>ns.map (wT pb qb lo (hi-1) m)) lo (hi+1-lo).toNat y.toNat:=
 gc fun y hy=>wU (eQ.mp hy).1 _
def aE3{α:Type}(f:α->Nat->Int)(K:Nat):∀l:List α,((aU 0 K).map fun y=>(l.map fun m=>f m y.toNat).sum).sum=(l.map fun m=>((aU 0 K).map fun y=>f m y.toNat).sum).sum
 |[]=>by
  have:∀l:List Int,(l.map fun _=>(0:Int)).sum=0:=fun l=>by
   induction l with
   |nil=>rfl
   |cons _ _ ih=>rw[bt,dm,ih];rfl
  exact this _
 |a::r=>by
  have e:∀l:List Int,(l.map fun y=>((a::r).map fun m=>f m y.toNat).sum).sum=(l.map fun y=>f a y.toNat).sum+(l.map fun y=>(r.map fun m=>f m y.toNat).sum).sum:=fun l=>by
   induction l with
   |nil=>rfl
   |cons y l ih =>
    rw[bt,dm,ih,bt,dm,bt,dm,bt,dm];lia
  rw[e,aE3 f K r,bt,dm]
def bE8(l:List Int):((aU 0 l.length).map fun y=>l.getD y.toNat 0).sum=l.sum:=by
 have:∀(l:List Int) (k:Nat) (pre:List Int),pre.length=k->((aU k l.length).map fun y=>(pre++l).getD y.toNat 0).sum=l.sum:=by
  intro l
  induction l with
  |nil=>intro k pre _;rfl
  |cons a r ih =>
   intro k pre hk;rw[bo,gG,bt,dm,dm];have e:=ih (k+1) (pre++[a]) (by simp[hk]);rw[show((k+1:Nat):Int)=(k:Int)+1 by lia] at e;simp only[List.append_assoc,List.singleton_append] at e;rw[e,show((k:Int)).toNat=k by lia,vc,uw (by lia),hk];simp
 exact this l 0 [] rfl
section
variable {p q lo h:Int}
end
section
variable {pa qa pb qb mk lo hi:Int}{ns ns':List Int}{w:Nat}
abbrev trs(pb qb lo hi:Int)(ns:List Int)(m:Int):List (Int×Int×Int):=ns.map (wT pb qb lo (hi-1) m)
def cG5{p q n y:Int}(s:bT p q):0<=dJ p q lo hi n y:=by
 unfold dJ;have:=s.p1;have:=s.pq;refine cj (cj (by have:=pw1 s.p1 (y-n).natAbs;lia) (by have:=pw1 (p:=q) (by lia) (hi-lo-((y-n).natAbs:Int)).toNat;lia)) ?_
 split<;>lia
def aP7{f:Int->Int}:∀{l:List Int},(∀m∈l,0<=f m)->0<=(l.map f).sum
 |[],_=>cw _
 |x::r,h=>by
  have i:=aP7 (l:=r) fun m hm=>h m (ae _ hm)
  have k:=h x aj;rw[bt,dm];lia
abbrev cU2(pa qa pb qb mk lo hi:Int)(ns:List Int)(y:Nat):Int:=FC (dJ pa qa lo hi mk) (trs pb qb lo hi ns) lo (hi+1-lo).toNat y
abbrev csF(pa qa pb qb mk lo hi:Int)(ns:List Int):List Int:=(aU 0 (ns.length+1)).map fun y=>cU2 pa qa pb qb mk lo hi ns y.toNat
def cC6:(aU 0 (ns.length+1)).map (kE (fun _=>0) (eB pa qa pb qb mk ns lo hi (hi+1-lo).toNat))=csF pa qa pb qb mk lo hi ns:=aV7
def cH2(F:InF pa qa pb qb mk ns lo hi)(a:Int)(N:Nat):((aU 0 (ns.length+1)).map fun y=>FC (dJ pa qa lo hi mk) (trs pb qb lo hi ns) a N y.toNat).sum=((aU a N).map (dJ pa qa lo hi mk)).sum*eG pb qb lo (hi-1)^ns.length:=by
 unfold FC;rw[aE3 (fun m y=>(dD (dJ pa qa lo hi mk m) (trs pb qb lo hi ns m)).getD y 0)];generalize aU a N=l
 induction l with
 |nil=>simp
 |cons m l ih =>
  rw[bt,dm,ih,bt,dm,aAr]
  congr 1
  have e:=bE8 (dD (dJ pa qa lo hi mk m) (trs pb qb lo hi ns m));rw[iK,ac] at e;rw[e,pV F.tris,lK]
def bQ1(F:InF pa qa pb qb mk ns lo hi):(csF pa qa pb qb mk lo hi ns).sum=wF pa qa pb qb lo hi ns.length:=by
 have eb:=F.en.b;rw[cH2 F];unfold wF
 congr 1
 have e:=vZ F.sa F.m0 F.m1 (by lia);unfold qF at e;rw[e];unfold eG;rw[ai (by lia)]
def cB7(F:InF pa qa pb qb mk ns lo hi):∀c∈csF pa qa pb qb mk lo hi ns,0<=c:=fun c hc=>by
 obtain⟨y,_,rfl⟩:=ci.mp hc;exact aP7 fun m _=>aL5 (cG5 F.sa) F.tris _
end
def cH3(H:Hp)(r:Addr)(x:Str)(mk:Int)(sa sb sm:Addr)(lo hi:Int):Prop:=H r=some (.tup [.str "first",.str x,.int mk,.ref sa,.ref sb,.ref sm,.int lo,.int hi])
def mY(H:Hp)(sm:Addr)(wss:List (List Int)):Prop:=∃vs,H sm=some (.tup vs)/\dH (aK2 H) vs wss
def mY.ts{H H':Hp}{sm:Addr}{wss:List (List Int)}(t:TS H H')(h:mY H sm wss):mY H' sm wss:=let⟨vs,e,q⟩:=h;⟨vs,t _ _ e,q.mono fun _ _ z=>z.ts t⟩
def spFrom:Sp:=fun vs H Q _=>∃st p q m n lo h,vs=[.int m,.int n,.ref st,.int lo,.int h]/\aY H st p q/\bT p q/\ -10<=m-n/\m-n<=10/\∀H' r,aR H H'->aY H' r (aF7 p q lo h n m).1 (aF7 p q lo h n m).2->Q (.ref r) H'
def bT4(H:Hp)(r c:Addr)(x:Str)(mk:Int)(sa sb sm:Addr)(lo hi:Int)(wss:List (List Int))(cs:List Int)(pa qa pb qb:Int):Prop:=
 cH3 H r x mk sa sb sm lo hi/\mY H sm wss/\dF H c cs/\Few wss cs/\aY H sa pa qa/\aY H sb pb qb/\InF pa qa pb qb mk (cU wss cs lo (hi-1)) lo hi
def spFirstT:Sp:=fun vs H Q _=>∃r c x mk sa sb sm lo hi wss cs pa qa pb qb,vs=[.ref r,.ref c]/\bT4 H r c x mk sa sb sm lo hi wss cs pa qa pb qb /\
 ∀H' t us,aR H H'->H' t=some (.tup us)->dH (nC H') us (nJ pa qa pb qb mk (cU wss cs lo (hi-1)) lo hi)->Q (.ref t) H'
def bK6{α:Type}{l:List α}{i:Nat}{x:α}(h:l[i]?=some x):l.drop i=x::l.drop (i+1):=by
 obtain⟨hi,e⟩:=bz.mp h;rw[<-e];exact ol hi
end Mine
namespace L2
open PySem PySem.Spec PyProof.Rows
def aU4{K:PySem.W.Frag}{a:Addr}{xs:List V}{g:TG}{tb:TS}{D:fG}{σ:St}{H:Hp}(Pv:Nat->St->Hp->Prop)(h0:Pv 0 σ H)(hl:∀i σ H,i<=xs.length->Pv i σ H->bR K H a xs)
  (hs:∀(D':fG),∀i x σ H,xs[i]?=some x->Pv i σ H->g x σ H fun σ2 H2=>tb { D' with nx:=Pv (i+1),ct:=Pv (i+1),bk:=D'.nx } σ2 H2) (hd:∀σ H,Pv xs.length σ H->D.nx σ H) :
  ∃W:Nat->Nat->St->Hp->Prop,(∃m,W 0 m σ H)/\∀i m σ H,W i m σ H ->
   ((Itl K a).stop i H/\D.nx σ H)\/((Itl K a).go i H/\∃N:St->Hp->Prop,(∀σ' H',N σ' H'->∃m',m'<m/\W (i+1) m' σ' H')/\∀x H',(Itl K a).yld i H x H'->g x σ H' fun σ2 H2=>tb { D with nx:=N,ct:=N,bk:=D.nx } σ2 H2):=sQ Pv h0 hl (hs D) hd
def aB7{K:PySem.W.Frag}{a:Addr}{xs:List V}{g:TG}{tb:TS}{D:fG}{σ:St}{H:Hp}(Pv:Nat->St->Hp->Prop)(h0:Pv 0 σ H)(hl:∀i σ H,i<=xs.length->Pv i σ H->aT K H a xs)
  (hs:∀(D':fG),∀i x σ H,xs[i]?=some x->Pv i σ H->g x σ H fun σ2 H2=>tb { D' with nx:=Pv (i+1),ct:=Pv (i+1),bk:=D'.nx } σ2 H2) (hd:∀σ H,Pv xs.length σ H->D.nx σ H) :
  ∃W:Nat->Nat->St->Hp->Prop,(∃m,W 0 m σ H)/\∀i m σ H,W i m σ H ->
   ((Itt K a).stop i H/\D.nx σ H)\/((Itt K a).go i H/\∃N:St->Hp->Prop,(∀σ' H',N σ' H'->∃m',m'<m/\W (i+1) m' σ' H')/\∀x H',(Itt K a).yld i H x H'->g x σ H' fun σ2 H2=>tb { D with nx:=N,ct:=N,bk:=D.nx } σ2 H2):=aR1 Pv h0 hl (hs D) hd
def gZ{lo:Int}{n:Nat}{g:TG}{tb:TS}{D:fG}{σ:St}{H:Hp}(Pv:Nat->St->Hp->Prop)(h0:Pv 0 σ H)
  (hs:∀(D':fG),∀i σ H,i<n->Pv i σ H->g (.int (lo+i)) σ H fun σ2 H2=>tb { D' with nx:=Pv (i+1),ct:=Pv (i+1),bk:=D'.nx } σ2 H2) (hd:∀σ H,Pv n σ H->D.nx σ H) :
  ∃W:Nat->Nat->St->Hp->Prop,(∃m,W 0 m σ H)/\∀i m σ H,W i m σ H ->
   ((Itr lo n).stop i H/\D.nx σ H)\/((Itr lo n).go i H/\∃N:St->Hp->Prop,(∀σ' H',N σ' H'->∃m',m'<m/\W (i+1) m' σ' H')/\∀x H',(Itr lo n).yld i H x H'->g x σ H' fun σ2 H2=>tb { D with nx:=N,ct:=N,bk:=D.nx } σ2 H2):=xD Pv h0 (hs D) hd
end L2
namespace Mine
open PySem L2
def pR{p q lo h n:Int}(e:lo<=h):(cP p q lo h n).length=(h+1-lo).toNat:=by
 unfold cP
 split
 ·have:(h+1-lo).toNat=1:=by lia
  rw[this];rfl
 ·rw[ac,bS]
end Mine
namespace L2
open PySem PySem.Spec PyProof.Rows
def cA(n:Nat)(i:Int):Prop:=i.natAbs<2^n
def cA.mono{m n:Nat}{i:Int}(h:cA m i)(le:m<=n):cA n i:=bn h (jm (by decide) le)
def cA.mul{m n:Nat}{i j:Int}(h:cA m i)(k:cA n j):cA (m+n) (i*j):=by
 unfold cA at *;rw[Int.natAbs_mul,Nat.pow_add];exact Nat.mul_lt_mul'' h k
def cA.add{n:Nat}{i j:Int}(h:cA n i)(k:cA n j):cA (n+1) (i+j):=by
 unfold cA at *;rw[ot];have:=Int.natAbs_add_le i j;lia
def cA.of{n:Nat}{i:Int}(h0:0<=i)(h1:i<2^n):cA n i:=by
 unfold cA;have e:((i.natAbs:Nat):Int)=i:=yt h0;have:((i.natAbs:Nat):Int)<((2^n:Nat):Int):=by rw[e];exact_mod_cast h1
 exact Int.ofNat_lt.mp this
def cQ0(i j:Int):Prop:=∃m n,cA m i/\cA n j/\m<=100000/\n<=100000
def dZ{X:Cx}:kM X (binaryOp .Mult) (rI cQ0 fun i j=> .int (i*j)):=opI fun _ _ _ _ _ _ _ hc q=>by
 obtain⟨m,n,a,b,hm,hn⟩:=hc;exact mul_int q (IntMulOk.of_bits (ay (oy a) (ay hm (by decide))) (ay (oy b) (ay hn (by decide))))
def cP5(i j:Int):Prop:=0<j/\∃n,cA n j/\n<=8990
def fM{X:Cx}:kM X (binaryOp .FloorDiv) (rI cP5 fun i j=> .int (i / j)):=opI fun i j _ _ _ _ _ hc q=>by
 obtain⟨h0,n,h1,hn⟩:=hc;refine floordiv_int (by lia) ?_ (.inl (vy ?_))
 ·rw[uy i (by lia)];exact q
 ·have h3:j.natAbs≠0:=by lia
  exact bn ((Nat.log2_lt h3).mpr h1) (ay hn (by decide))
end L2
namespace Mine
open PySem L2
inductive dY where
 |lad (p q lo hi:Int)
 |fla (r lo hi:Int)
 |cho (p q lo hi:Int)
 |fst (pa qa pb qb mk lo hi:Int)
namespace dY
def wd:dY->Str
 |lad .. =>"ladder" | fla .. =>"flat" | cho .. =>"choose" | fst .. =>"first"
def one:dY->Bool
 |lad .. =>true|fla .. =>true|cho .. =>false|fst .. =>false
def lo:dY->Int
 |lad _ _ l _=>l|fla _ l _=>l|cho _ _ l _=>l|fst _ _ _ _ _ l _=>l
def hb:dY->Int
 |lad _ _ _ h=>h|fla _ _ h=>h|cho _ _ _ h=>h|fst _ _ _ _ _ _ h=>h-1
structure Ok(T:dY):Prop where
 l:match T with
  |lad p q lo hi=>bT p q/\fG lo hi
  |fla r lo hi=>0<=r/\r<=4/\fG lo hi
  |cho p q lo hi=>bT p q/\fG lo hi
  |fst pa qa pb qb mk lo hi=>bT pa qa/\bT pb qb/\2*pb<=qb/\bK0 lo hi/\lo<=mk/\mk<=hi
def W:dY->List Int->Int
 |lad p q lo hi,_=>eG p q lo hi
 |fla r _ _,_=>2*r+1
 |cho p q _ _,ns=>fA p q ns
 |fst pa qa pb qb _ lo hi,ns=>wF pa qa pb qb lo hi ns.length
def f0:dY->Int
 |lad _ _ l _=>l|fla _ l _=>l|cho .. =>0|fst .. =>0
def cs:dY->List Int->List Int
 |lad p q lo hi,ns=>cP p q lo hi (ns.headD 0)
 |fla r lo hi,ns=>(aU lo (hi+1-lo).toNat).map (gL (ns.headD 0) r lo hi)
 |cho p q _ _,ns=>ns.map (gC p q)
 |fst pa qa pb qb mk lo hi,ns=>csF pa qa pb qb mk lo hi ns
def tab(T:dY)(ns:List Int):List (Int×Int×Int):=iW (T.W ns) T.f0 (T.cs ns)
structure Num(T:dY)(ns:List Int):Prop where
 l1:1<=ns.length
 l4:ns.length<=4
 o:T.one=true->ns.length=1
 i:∀n∈ns,T.lo<=n/\n<=T.hb
variable {T:dY}{ns ns':List Int}{w:Nat}
def Ok.lo0(h:T.Ok):0<=T.lo/\T.lo<=T.hb/\T.hb<=9:=by
 cases T with
 |lad p q lo hi=>have e:=h.l.2;exact⟨e.a,e.b,e.c⟩
 |fla r lo hi=>have e:=h.l.2.2;exact⟨e.a,e.b,e.c⟩
 |cho p q lo hi=>have e:=h.l.2;exact⟨e.a,e.b,e.c⟩
 |fst pa qa pb qb mk lo hi=>have e:=h.l.2.2.2.1;have:=e.a;have:=e.b;have:=e.c;exact⟨e.a,by show lo<=hi-1;lia,by show hi-1<=9;lia⟩
def inF{pa qa pb qb mk lo hi:Int}(h:(fst pa qa pb qb mk lo hi).Ok)(n:(fst pa qa pb qb mk lo hi).Num ns):InF pa qa pb qb mk ns lo hi:=
 let⟨a,b,_,d,e,f⟩:=h.l;⟨a,b,d,e,f,n.i,n.l1,n.l4⟩
def one_num{α:List Int}(h:α.length=1):∃n,α=[n]:=by
 cases α with
 |nil=>cases h
 |cons n r=>cases r with|nil=>exact⟨n,rfl⟩|cons _ _=>cases h
def sums(h:T.Ok)(n:T.Num ns):(T.cs ns).sum=T.W ns/\(∀c∈T.cs ns,0<=c)/\1<=T.W ns/\T.W ns<2^170/\(T.cs ns).length<=10:=by
 cases T with
 |lad p q lo hi =>
  obtain⟨m,rfl⟩:=one_num (n.o rfl);have i:=n.i m (List.mem_singleton.mpr rfl);have i:lo<=m/\m<=hi:=i;have e:=h.l.2;have b:=tR h.l.1 e.a e.b e.c;refine⟨kA h.l.1 i.1 i.2,fun c hc=>by have:=iB h.l.1 c hc;lia,b.1,by show eG p q lo hi<2^170;have:=b.2;lia,?_⟩;show(cP p q lo hi m).length<=10;rw[pR e.b];have:=e.a;have:=e.c;lia
 |fla r lo hi =>
  obtain⟨r0,r4,e⟩:=h.l;refine⟨aW5 e.b r0,fun c hc=>?_,by show 1<=2*r+1;lia,by show 2*r+1<2^170;lia,?_⟩
  ·obtain⟨y,_,rfl⟩:=List.mem_map.mp hc;rw[pT r0];lia
  ·show((aU lo (hi+1-lo).toNat).map _).length<=10;rw[List.length_map,bS];have:=e.a;have:=e.c;lia
 |cho p q lo hi =>
  have e:=h.l.2;have bd:∀l:List Int,(∀n∈l,lo<=n/\n<=hi)->0<=fA p q l/\fA p q l<=l.length*2^66:=fun l=>by
   induction l with
   |nil=>intro _;exact⟨Int.le_refl _,Int.le_refl _⟩
   |cons m l ih =>
    intro hl;have k:=hl m List.mem_cons_self;have g:=mB h.l.1 (show 0<=m by have:=e.a;lia) (show m<=9 by have:=e.c;lia);have i:=ih fun x hx=>hl x (List.mem_cons_of_mem _ hx)
    have q:fA p q (m::l)=gC p q m+fA p q l:=by unfold fA;rw[List.map_cons,List.sum_cons]
    rw[q,List.length_cons];lia
  have b:=bd ns n.i;have l4:=n.l4;have pos:1<=fA p q ns:=by
   cases ns with
   |nil=>have:=n.l1;cases this
   |cons m l =>
    have k:lo<=m/\m<=hi:=n.i m List.mem_cons_self;have g:=mB h.l.1 (show 0<=m by have:=e.a;lia) (show m<=9 by have:=e.c;lia);have i:=bd l fun x hx=>n.i x (List.mem_cons_of_mem _ hx)
    have q:fA p q (m::l)=gC p q m+fA p q l:=by unfold fA;rw[List.map_cons,List.sum_cons]
    lia
  refine⟨rfl,fun c hc=>?_,pos,by show fA p q ns<2^170;lia,by show(ns.map _).length<=10;rw[List.length_map];lia⟩;obtain⟨y,hy,rfl⟩:=List.mem_map.mp hc;have k:lo<=y/\y<=hi:=n.i y hy;have:=(mB h.l.1 (show 0<=y by have:=e.a;lia) (show y<=9 by have:=e.c;lia)).1;lia
 |fst pa qa pb qb mk lo hi =>
  have F:=inF h n;have b:=aP4 F.sa F.sb F.en F.l4;refine⟨bQ1 F,cB7 F,b.1,b.2,?_⟩;show((aU 0 (ns.length+1)).map _).length<=10;rw[List.length_map,bS];have:=n.l4;lia
end dY
open PySem L2
def aC4(wd:Str):Bool:=inV (.str wd) [.str "ladder",.str "flat"]
def aJ4(H:Hp)(r:Addr)(wd:Str)(a3:V)(lo hb:Int):Prop:=∃xs,H r=some (.tup xs)/\mM xs 0=some (.str wd)/\mM xs (if wd="first" then 5 else 2)=some a3/\mM xs (-2)=some (.int lo)/\mM xs (-1)=some (.int (if wd="first" then hb+1 else hb))
def aB3(H:Hp)(r:Addr)(T:dY)(a3:V):Prop:=match T with
 |.lad p q lo hi=>∃x st,aS7 H r "ladder" x a3 (.ref st) lo hi/\aY H st p q
 |.fla rr lo hi=>∃x,aS7 H r "flat" x a3 (.int rr) lo hi
 |.cho p q lo hi=>∃x st,aS7 H r "choose" x a3 (.ref st) lo hi/\aY H st p q
 |.fst pa qa pb qb mk lo hi=>∃x sa sb sm,a3= .ref sm/\cH3 H r x mk sa sb sm lo hi/\aY H sa pa qa/\aY H sb pb qb
def bE0:¬(("ladder": Str)="first"):=by decide
def aB3.v{H:Hp}{r:Addr}{a3:V}:∀{T:dY},aB3 H r T a3->aJ4 H r T.wd a3 T.lo T.hb
 |.lad _ _ _ hi,⟨x,st,h,_⟩=>⟨_,h,rfl,by show mM _ (if ("ladder": Str)="first" then 5 else 2)=some a3;rw[if_neg bE0];rfl,rfl,by show _=some (V.int (if ("ladder": Str)="first" then hi+1 else hi));rw[if_neg bE0];rfl⟩
 |.fla _ _ hi,⟨x,h⟩=>⟨_,h,rfl,by show mM _ (if ("flat": Str)="first" then 5 else 2)=some a3;rw[if_neg bK3];rfl,rfl,by show _=some (V.int (if ("flat": Str)="first" then hi+1 else hi));rw[if_neg bK3];rfl⟩
 |.cho _ _ _ hi,⟨x,st,h,_⟩=>⟨_,h,rfl,by show mM _ (if ("choose": Str)="first" then 5 else 2)=some a3;rw[if_neg bG8];rfl,rfl,by show _=some (V.int (if ("choose": Str)="first" then hi+1 else hi));rw[if_neg bG8];rfl⟩
 |.fst _ _ _ _ _ _ hi,⟨x,sa,sb,sm,e,h,_⟩=>⟨_,h,rfl,by show mM _ (if ("first": Str)="first" then 5 else 2)=some a3;rw[if_pos rfl,e];rfl,rfl,by show some (V.int hi)=some (V.int (if ("first": Str)="first" then hi-1+1 else hi-1));rw[if_pos rfl,show hi-1+1=hi by lia]⟩
def aJ4.ts{H H':Hp}(t:TS H H'){r:Addr}{wd:Str}{a3:V}{lo hb:Int}(h:aJ4 H r wd a3 lo hb):aJ4 H' r wd a3 lo hb:=let⟨xs,a,b⟩:=h;⟨xs,t _ _ a,b⟩
def xY:∀T:dY,aC4 T.wd=T.one
 |.lad .. =>by show aC4 "ladder"=true;decide
 |.fla .. =>by show aC4 "flat"=true;decide
 |.cho .. =>by show aC4 "choose"=false;decide
 |.fst .. =>by show aC4 "first"=false;decide
def sH(H:Hp)(b:Bool)(a3:V)(wss:List (List Int)):Prop:=(b=true/\∃w ws,a3= .ref w/\dF H w ws/\wss=[ws])\/(b=false/\∃sm,a3= .ref sm/\mY H sm wss)
def sH.ts{H H':Hp}(t:TS H H'){b:Bool}{a3:V}{wss:List (List Int)}(h:sH H b a3 wss):sH H' b a3 wss:=by
 rcases h with⟨e,w,ws,e1,e2,e3⟩|⟨e,sm,e1,e2⟩
 ·exact .inl ⟨e,w,ws,e1,t _ _ e2,e3⟩
 ·exact .inr ⟨e,sm,e1,e2.ts t⟩
def spOneU:Sp:=fun vs H Q _=>∃wd:Str,vs=[.str wd]/\∀H',aR H H'->Q (.bl (aC4 wd)) H'
def spPlaceU:Sp:=fun vs H Q _=>∃wd:Str,vs=[.str wd]/\Q (.int (if wd="first" then 5 else 2)) H
def spSumsU:Sp:=fun vs H Q _=>∃r wd a3 lo hb wss,vs=[.ref r]/\aJ4 H r wd a3 lo hb/\sH H (aC4 wd) a3 wss/\∀H' t us,aR H H'->H' t=some (.tup us)->dH (aK2 H') us wss->Q (.ref t) H'
def spRngU:Sp:=fun vs H Q _=>∃r wd a3 lo hb,vs=[.ref r]/\aJ4 H r wd a3 lo hb/\∀H' t,aR H H'->aY H' t lo hb->Q (.ref t) H'
def spNumU:Sp:=fun vs H Q _=>∃r wd a3 lo hb wss c cs,vs=[.ref r,.ref c]/\aJ4 H r wd a3 lo hb/\sH H (aC4 wd) a3 wss/\dF H c cs/\Few wss cs/\∀H' t,aR H H'->dF H' t (cU wss cs lo hb)->Q (.ref t) H'
structure uY(T:dY)(wss:List (List Int))(cs:List Int):Prop where
 few:Few wss cs
 o:T.one=true->wss.length=1
def uY.num{T:dY}{wss:List (List Int)}{cs:List Int}(h:T.Ok)(a:uY T wss cs):T.Num (cU wss cs T.lo T.hb):=by
 have l:(cU wss cs T.lo T.hb).length=wss.length:=by unfold cU;rw[List.length_map]
 refine⟨by rw[l];exact a.few.a,by rw[l];exact a.few.b,fun e=>by rw[l];exact a.o e,fun n hn=>?_⟩;obtain⟨ws,_,rfl⟩:=List.mem_map.mp hn;exact bA4 h.lo0.2.1
def cQ4(H:Hp)(r c:Addr)(T:dY)(a3:V)(wss:List (List Int))(cs:List Int):Prop:=aB3 H r T a3/\sH H T.one a3 wss/\dF H c cs
def spThrU:Sp:=fun vs H Q _=>∃r c T a3 wss cs,vs=[.ref r,.ref c]/\cQ4 H r c T a3 wss cs/\T.Ok/\uY T wss cs/\∀H' t us,aR H H'->H' t=some (.tup us)->dH (nC H') us (T.tab (cU wss cs T.lo T.hb))->Q (.ref t) H'
end Mine
namespace L2
open PySem PySem.Spec PyProof.Rows
abbrev NKey:=Key ⊕ List Key
inductive mF:List Key->List Value->Prop where
 |nil:mF [] []
 |cons {k:Key}{v:Value}{ks:List Key}{vs:List Value}:eF k v=true->mF ks vs->mF (k::ks) (v::vs)
def mF.items{prog:Program}{w:World}:∀{ks:List Key}{vs:List Value},mF ks vs->ItemsAre (bG prog w) ks vs
 |_,_,.nil=> .nil
 |_,_,.cons h r=> .cons h (mF.items r)
def uD(h:Heap)(ks:List Key)(a:Addr):Prop:=∃o items n,h.get? a=some o/\o.cls= .type "tuple"/\o.data= .seq items n/\mF ks items.toList
def uD.key{prog:Program}{w:World}{h:Heap}{ks:List Key}{a:Addr}(t:uD h ks a):IsTupleKey (bG prog w) h ks a:=let⟨o,i,n,a,b,c,d⟩:=t;⟨o,i,n,a,b,c,d.items⟩
def pW(h:Heap):NKey->Value->Prop
 |.inl k,v=>eF k v=true
 |.inr ks,v=>∃c,v= .ref c/\uD h ks c
inductive fS(h:Heap):List NKey->List Value->Prop where
 |nil:fS h [] []
 |cons {k:NKey}{v:Value}{ks:List NKey}{vs:List Value}:pW h k v->fS h ks vs->fS h (k::ks) (v::vs)
def fY(h:Heap)(ks:List NKey)(a:Addr):Prop:=∃o items n,h.get? a=some o/\o.cls= .type "tuple"/\o.data= .seq items n/\fS h ks items.toList
def yS{k j:Key}{v:Value}(a:eF k v=true)(b:eF j v=true):k=j:=by
 rcases aZ a with⟨i,t,rfl,rfl⟩|⟨x,t,rfl,rfl⟩
 ·rcases aZ b with⟨i',t',rfl,e⟩|⟨x,t,rfl,e⟩
  ·cases e;rfl
  ·cases e
 ·rcases aZ b with⟨i',t',rfl,e⟩|⟨x,t,rfl,e⟩
  ·cases e
  ·cases e;rfl
def bI5:∀{x y:List Key}{vs:List Value},mF x vs->mF y vs->x=y
 |_,_,_,.nil,.nil=>rfl
 |_,_,_,.cons a r,.cons b t=>by rw[yS a b,bI5 r t]
def bP9{h:Heap}{x y:List Key}{a:Addr}(p:uD h x a)(q:uD h y a):x=y:=by
 obtain⟨o,i,n,a1,b1,c1,d1⟩:=p;obtain⟨o2,i2,n2,a2,b2,c2,d2⟩:=q;rw[a1] at a2
 cases a2
 rw[c1] at c2
 cases c2
 exact bI5 d1 d2
def bL3{h:Heap}:∀{x y:NKey}{v:Value},pW h x v->pW h y v->x=y
 |.inl k,.inl j,v,a,b=>by rw[yS a b]
 |.inl k,.inr j,v,a,⟨c,e,_⟩=>by
  subst e;rcases aZ (show eF k (.ref c)=true from a) with⟨i,t,_,z⟩|⟨x,t,_,z⟩<;>cases z
 |.inr k,.inl j,v,⟨c,e,_⟩,b=>by
  subst e;rcases aZ (show eF j (.ref c)=true from b) with⟨i,t,_,z⟩|⟨x,t,_,z⟩<;>cases z
 |.inr k,.inr j,v,⟨c,e,p⟩,⟨c2,e2,q⟩=>by
  subst e
  cases e2
  rw[bP9 p q]
def bI1{h:Heap}:∀{x y:List NKey}{vs:List Value},fS h x vs->fS h y vs->x=y
 |_,_,_,.nil,.nil=>rfl
 |_,_,_,.cons a r,.cons b t=>by rw[bL3 a b,bI1 r t]
def uF{h:Heap}{x y:List NKey}{a:Addr}(p:fY h x a)(q:fY h y a):x=y:=by
 obtain⟨o,i,n,a1,b1,c1,d1⟩:=p;obtain⟨o2,i2,n2,a2,b2,c2,d2⟩:=q;rw[a1] at a2
 cases a2
 rw[c1] at c2
 cases c2
 exact bI1 d1 d2
def sO{h:Heap}{a d:Addr}{o q:Obj}{items:Array Value}{n ep:Nat}{es:Array DictEntry}(ho:h.get? a=some o)(c:o.data= .seq items n)(hd:h.get? d=some q)(hq:q.data= .dict es ep):a≠d:=fun e=>by
 rw[e,hd] at ho
 cases ho
 rw[hq] at c
 cases c
def xV{h h':Heap}{d:Addr}{q:Obj}{es:Array DictEntry}{ep:Nat}(hd:h.get? d=some q)(hq:q.data= .dict es ep)(s:Heap.SameBut d h h'):∀{ks:List NKey}{vs:List Value},fS h ks vs->fS h' ks vs
 |_,_,.nil=> .nil
 |_,_,.cons (k:= .inl _) a r=> .cons a (xV hd hq s r)
 |_,_,.cons (k:= .inr _) ⟨c,e,t⟩ r=>by
  refine .cons ⟨c,e,?_⟩ (xV hd hq s r);obtain⟨o,i,n,a1,b1,c1,d1⟩:=t;exact⟨o,i,n,by rw[s.2 c (sO a1 c1 hd hq)];exact a1,b1,c1,d1⟩
section
variable {prog:Program}{w:World}
def eR(prog:Program)(w:World):NKey->Int
 |.inl k=>(bG prog w).hash k
 |.inr ks=>tupleKeyHash (bG prog w) ks
def fB:NKey->Nat
 |.inl _=>1
 |.inr ks=>ks.length+1
def oH(prog:Program)(w:World)(ks:List NKey):Int:=reduceHash (Builtin.Tuple.tupleHashOf (ks.map (eR prog w)))
def jM(ks:List NKey):Nat:=(ks.map fB).sum+1
variable {A:Around}{E:Value->Shared->Prop}{s:Shared}
def bK9{k:NKey}{v:Value}{Q:Int->Shared->Prop}(hu:A.units<cLine)(h:pW s.heap k v)(q:Q (eR prog w k) { s with toks:=s.toks+fB k }):wpAny (model prog w) A (pyHash v) Q E s:=by
 cases k with
 |inl k=>exact(bG prog w).pyHash (k:=k) h q
 |inr ks =>
  obtain⟨c,rfl,t⟩:=h;exact wpAny_pyHash_tuple hu t.key q
def aA4{Q:Array Int->Shared->Prop}(hu:A.units<cLine):∀{ks:List NKey}{vs:List Value}(hs:Array Int) (s:Shared),fS s.heap ks vs->Q (hs++(ks.map (eR prog w)).toArray) { s with toks:=s.toks+(ks.map fB).sum } ->
  wpAny (model prog w) A (forIn vs hs fun x (r:Array Int)=>do
   let i <-pyHash x
   pure (ForInStep.yield (r.push i))) Q E s
 |_,_,hs,s,.nil,q=>by
  rw[List.forIn_nil];exact am (by simpa using q)
 |k::ks,v::vs,hs,s,.cons a r,q=>by
  rw[xg];simp only[bind_assoc,pure_bind];refine aa (bK9 hu a ?_);refine aA4 hu (hs.push (eR prog w k)) { s with toks:=s.toks+fB k } r ?_;have e1:hs.push (eR prog w k)++(ks.map (eR prog w)).toArray=hs++((k::ks).map (eR prog w)).toArray:=by simp
  have e2:s.toks+fB k+(ks.map fB).sum=s.toks+((k::ks).map fB).sum:=by rw[bt,dm];lia
  rw[e1];show Q _ { s with toks:=s.toks+fB k+(ks.map fB).sum };rw[e2];exact q
def vR{ks:List NKey}{a:Addr}{Q:Int->Shared->Prop}(hu:A.units+3<cLine)(h:fY s.heap ks a)(q:Q (oH prog w ks) { s with toks:=s.toks+jM ks }):wpAny (model prog w) A (pyHash (.ref a)) Q E s:=by
 obtain⟨o,items,n,h1,h2,h3,h4⟩:=h;have hT:s.TypeIs (.ref a) "tuple":=⟨o,h1,h2⟩
 show wpAny _ _ (pyHashByItsType (.ref a)) _ _ _;unfold pyHashByItsType;refine aa (yh (by lia) ?_);refine aa (gp hT F.slot_tuple_hash.lookup ?_);rw[ai (by decide)];refine aa (gp hT F.slot_tuple_hash.lookup ?_);rw[ai (by decide)];refine aa (nq hT pi (eg pi hT aAh ?_ (zr _)));unfold Builtin.«tuple.__hash__» slotArgs;simp only[List.isEmpty_nil,Bool.not_true,Bool.false_eq_true,if_false,bind_assoc,List.length_nil,bne_self_eq_false];refine aa (am ?_);refine aa (aAi h1 h3 ?_);refine aa ?_;rw[<-jy];refine aA4 (by show A.units+1<cLine;lia) #[] s h4 ?_;unfold retInt;refine aa (aAq (am ⟨_,rfl,?_⟩));have e:(#[]++(ks.map (eR prog w)).toArray:Array Int).toList=ks.map (eR prog w):=by simp
 rw[e];show wpAny _ _ (if (decide (-(2:Int)^63<=Builtin.Tuple.tupleHashOf (ks.map (eR prog w)))&&decide (Builtin.Tuple.tupleHashOf (ks.map (eR prog w))<2^63))=true then _ else _) Q E _;unfold oH reduceHash at q;have e3:s.toks+jM ks=s.toks+(ks.map fB).sum+1:=by unfold jM;lia
 rw[e3] at q
 by_cases hr:(decide (-(2:Int)^63<=Builtin.Tuple.tupleHashOf (ks.map (eR prog w)))&&decide (Builtin.Tuple.tupleHashOf (ks.map (eR prog w))<2^63))=true
 ·rw[ao hr] at q ⊢;exact am q
 ·rw[ai hr] at q ⊢;exact aa (me (am q))
def cF4{j k:NKey}{u v:Value}(hu:A.units+1<cLine)(a:pW s.heap j u)(b:pW s.heap k v):SeqAt.EqAt A s u v (decide (j=k)):=by
 cases j with
 |inl j =>
  cases k with
  |inl k =>
   have e:decide ((Sum.inl j:NKey)=Sum.inl k)=decide (j=k):=by simp
   rw[e];intro prog w E Q q;exact(bG prog w).eqBool (a:=j) (b:=k) a b q
  |inr ks =>
   have e:decide ((Sum.inl j:NKey)=Sum.inr ks)=false:=by simp
   rw[e];obtain⟨c,rfl,o,items,n,h1,h2,h3,_⟩:=b;have ht:s.heap.IsTuple c items:=⟨o,h1,h2,n,h3⟩
   rcases aZ (show eF j u=true from a) with⟨i,t,_,rfl⟩|⟨x,t,_,rfl⟩
   ·exact yz i t ht (by lia)
   ·exact za x t ht (by lia)
 |inr js =>
  obtain⟨c,rfl,t⟩:=a
  cases k with
  |inl k =>
   have e:decide ((Sum.inr js:NKey)=Sum.inl k)=false:=by simp
   rw[e];obtain⟨o,items,n,h1,h2,h3,_⟩:=t;have ht:s.heap.IsTuple c items:=⟨o,h1,h2,n,h3⟩
   rcases aZ (show eF k v=true from b) with⟨i,t,_,rfl⟩|⟨x,t,_,rfl⟩
   ·exact zc i t ht (by lia)
   ·exact ze x t ht (by lia)
  |inr ks =>
   obtain⟨c2,rfl,t2⟩:=b;have e:decide ((Sum.inr js:NKey)=Sum.inr ks)=decide (js=ks):=by simp
   rw[e];intro prog w E Q q;exact wpAny_eqBool_tuple (knd:=bG prog w) (by lia) t.key t2.key q
def fS.at{h:Heap}:∀{ks:List NKey}{vs:List Value},fS h ks vs->∀{i:Nat}(hi:i<vs.length),∃hk:i<ks.length,pW h ks[i] vs[i]
 |_,_,.nil,i,hi=>absurd hi (sr i)
 |_,_,.cons a r,0,_=>⟨Nat.succ_pos _,a⟩
 |_,_,.cons a r,i+1,hi=>by
  obtain⟨hk,q⟩:=fS.at r (i:=i) (by simpa using hi);exact⟨by simpa using hk,by simpa using q⟩
def fS.len{h:Heap}:∀{ks:List NKey}{vs:List Value},fS h ks vs->ks.length=vs.length
 |_,_,.nil=>rfl
 |_,_,.cons _ r=>by rw[bo,bo,fS.len r]
def cH5{xs ys:List NKey}:((List.range (min xs.length ys.length)).all (fun i=>decide (xs.getD i (.inr [])=ys.getD i (.inr [])))&&xs.length==ys.length)=decide (xs=ys):=by
 rw[mf,jf,List.all_eq_true,rf,ph]
 constructor
 ·rintro⟨h,l⟩;refine wf l fun i h1 h2=>?_
  have:=ar (h i (by simp;lia))
  simpa [List.getD,h1,h2] using this
 ·rintro rfl;exact⟨fun i _=>ap rfl,rfl⟩
def aR2{x y:List NKey}{a b:Addr}{Q:Bool->Shared->Prop}(hu:A.units+3<cLine)(p:fY s.heap x a)(q:fY s.heap y b)(h:Q (decide (x=y)) s):wpAny (model prog w) A (eqBool (.ref a) (.ref b)) Q E s:=by
 by_cases e:a=b
 ·subst e;have:=uF p q;subst this;rw[ap rfl] at h;exact xc (.ref a) prog w E Q h
 ·obtain⟨o,items,n,h1,h2,h3,h4⟩:=p;obtain⟨o2,items2,n2,k1,k2,k3,k4⟩:=q;have l1:x.length=items.size:=by rw[h4.len,ff]
  have l2:y.length=items2.size:=by rw[k4.len,ff]
  have r:=SeqAt.RcAt.tuples (A:=A) (s:=s) (l:=a) (b:=b) (items:=items) (items2:=items2) (e:=fun i=>decide (x.getD i (.inr [])=y.getD i (.inr []))) ⟨o,h1,h2,n,h3⟩ ⟨o2,k1,k2,n2,k3⟩ (by lia) fun j q1 q2=>?_
  ·rw[<-l1, <-l2,cH5] at r;exact aAj e r prog w E Q h
  ·obtain⟨g1,s1⟩:=h4.at (i:=j) (by simpa using q1);obtain⟨g2,s2⟩:=k4.at (i:=j) (by simpa using q2);have e1:x.getD j (.inr [])=x[j]:=by simp[List.getD,g1]
   have e2:y.getD j (.inr [])=y[j]:=by simp[List.getD,g2]
   rw[e1,e2];simp only[Array.getElem_toList] at s1 s2;exact cF4 (by show A.units+1+1<cLine;lia) s1 s2
def aW0{d:Nat}{ks:List Key}{a:Addr}{Q:Bool->Shared->Prop}(hk:uD s.heap ks a)(h:Q true s):wpAny (model prog w) A (eqIsQuiet (d+1) (.ref a)) Q E s:=by
 have hT:=(hk.key (prog:=prog) (w:=w)).typeIs;obtain⟨o,items,n,ho,_,hd,hi⟩:=hk;unfold eqIsQuiet;refine aa (gp hT F.slot_tuple_eq.lookup ?_);show wpAny _ _ (isInstance (.ref a) (.type "tuple")>>=_) _ _ s;refine aa (jg hT ni ?_);simp only[Bool.not_true,Bool.false_eq_true,if_false];refine aa (ia ho hd ?_);refine aa ?_;show wpAny _ _ (forIn items _ _) _ _ s;rw[<-jy];refine nk _ (fun rest r s'=>r.1=none/\s'=s/\∀v∈rest,carriedByValue v=true) _ ?_ ?_ _ _ ⟨rfl,rfl,(hi.items (prog:=prog) (w:=w)).byValue⟩
 ·rintro v rest r s' ⟨hr,rfl,hall⟩;rw[vh _ (hall v aj)];refine aa (am ?_);simp only[Bool.not_true,Bool.false_eq_true,if_false];exact am ⟨rfl,rfl,fun u hu'=>hall u (ae _ hu')⟩
 ·rintro⟨r1,r2⟩ s' ⟨hr,rfl,_⟩;simp only at hr;subst hr;exact am h
def wW{d:Nat}{k:NKey}{v:Value}{Q:Bool->Shared->Prop}(hk:pW s.heap k v)(h:Q true s):wpAny (model prog w) A (eqIsQuiet (d+1) v) Q E s:=by
 cases k with
 |inl k =>
  rw[vh _ ((bG prog w).byValue k v hk)];exact am h
 |inr ks =>
  obtain⟨c,rfl,t⟩:=hk;exact aW0 t h
def aI9{ks:List NKey}{a:Addr}{Q:Bool->Shared->Prop}(hk:fY s.heap ks a)(h:Q true s):wpAny (model prog w) A (eqIsQuiet 8 (.ref a)) Q E s:=by
 obtain⟨o,items,n,ho,hc,hd,hi⟩:=hk;have hT:s.TypeIs (.ref a) "tuple":=⟨o,ho,hc⟩
 unfold eqIsQuiet;refine aa (gp hT F.slot_tuple_eq.lookup ?_);show wpAny _ _ (isInstance (.ref a) (.type "tuple")>>=_) _ _ s;refine aa (jg hT ni ?_);simp only[Bool.not_true,Bool.false_eq_true,if_false];refine aa (ia ho hd ?_);refine aa ?_;show wpAny _ _ (forIn items _ _) _ _ s;rw[<-jy];refine nk _ (fun rest r s'=>r.1=none/\s'=s/\∃ks,fS s.heap ks rest) _ ?_ ?_ _ _ ⟨rfl,rfl,ks,hi⟩
 ·rintro v rest r s' ⟨hr,rfl,ks',hall⟩
  cases hall with
  |cons a1 a2 =>
   refine aa (wW a1 ?_);simp only[Bool.not_true,Bool.false_eq_true,if_false];exact am ⟨rfl,rfl,_,a2⟩
 ·rintro⟨r1,r2⟩ s' ⟨hr,rfl,_⟩;simp only at hr;subst hr;exact am h
end
def fY.keeps{h h':Heap}{ks:List NKey}{a d:Addr}{q:Obj}{es:Array DictEntry}{ep:Nat}(t:fY h ks a)(hd:h.get? d=some q)(hq:q.data= .dict es ep)(s:Heap.SameBut d h h'):fY h' ks a:=by
 obtain⟨o,items,n,ho,hc,hdd,hi⟩:=t;exact⟨o,items,n,by rw[s.2 a (sO ho hdd hd hq)];exact ho,hc,hdd,xV hd hq s hi⟩
def bA8(prog:Program)(w:World):HeapKind prog w (List NKey) where
 is:=fY
 hash:=oH prog w
 draws:=jM
 room:=fun A=>A.units+3<cLine
 inj:=fun hx hy=>uF hx hy
 keeps:=fun x ho hd hs=>x.keeps ho hd hs
 pyHash:=fun hu hk h=>vR hu hk h
 eqBool:=fun hu hx hy h=>aR2 hu hx hy h
 quiet:=fun hk h=>aI9 hk h
def bU0{X:Cx}{j:Nat}{p p2:Pos}:PE X (.UnaryOp .USub (.Constant (.int 1) j p) p2) (tC (.int (-1))):=fun pins s σ H Q I h =>
 bJ9 (X:=X) aF4 aB pins s σ H Q I ⟨1,rfl,h⟩
section
variable {X:Cx}
def cL6(t:TT):TT:=fun σ H Q=>∃P:Bool->Hp->Prop,t σ H P/\∀b G,P b G->Q b G
def jV{e:Expr}{t:TT}(h:PT X e t):PT X e (cL6 t):=by
 intro pins s σ H Q I ⟨P,h1,h2⟩;refine cW (h pins s σ H P I h1) ?_;rintro b s' ⟨G,I',p⟩;exact ⟨G,I',h2 b G p⟩
def cK9(t:TS):TS:=fun D σ H=>∃P:St->Hp->Prop,t { D with nx:=P } σ H/\∀σ' G,P σ' G->D.nx σ' G
def lG{st:Stmt}{t:TS}(h:PS X st t):PS X st (cK9 t):=by
 intro pins s σ H D I ⟨P,h1,h2⟩;refine cW (h pins s σ H _ I h1) fun f s' q=>?_
 cases f with
 |next =>
  obtain⟨σ',G,I',p⟩:=q;exact⟨σ',G,I',h2 σ' G p⟩
 |ret v=>exact q
 |brk=>exact q
 |cont=>exact q
end
section
variable {X:Cx}{o e:Expr}{es:List Expr}{to:TE}{t:TA}{name:Str}{apos cpos:Pos}{T id:String}{r:V->List V->Hp->VK->Prop}
end
def cV4(σ:List Key)(k:Key):Bool:=σ.any fun j=>decide (j=k)
def ddS(σ:List Key)(k:Key):List Key:=if cV4 σ k=true then σ else σ++[k]
def dd(ks:List Key):List Key:=ks.foldl ddS []
section
variable {prog:Program}{w:World}{A:Around}{R:Result->Shared->Prop}{I:Addr}{fp wr:List Addr}{G:Array GenState->Array GenState->Prop}{n:Nat}{P:Nat->Value->Prop}{St:Nat->Shared->Prop}
end
section
variable {prog:Program}{w:World}{A:Around}{E:Value->Shared->Prop}{s:Shared}
end
section
variable {X:Cx}
end
section
variable {prog:Program}{w:World}{A:Around}{E:Value->Shared->Prop}{s:Shared}{a:Addr}{S:Key->Bool}{n:Nat}{led:Bool}
end
def aA7{prog:Program}{w:World}{A:Around}{E:Value->Shared->Prop}{s:Shared}{T:String}{r d:Addr}{n:Nat}{P:Nat->Value->Prop}{OK:Heap->Prop}{R:List Value->Shared->Prop}
  (K:W.KdlSrc prog w T r d n P OK) (hh:A.handled=none) (hok:OK s.heap) (hn:n<=sizeLine)
  (h:∀(h':Heap) (tk:Nat) (acc:Array Value),(∀b o,s.heap.get? b=some o->h'.get? b=some o)->s.heap.objs.size<=h'.objs.size->ItemsOf P acc n->R acc.toList { s with heap:=h',toks:=tk }) :
  wpAny (model prog w) A (collect (.ref r)) R E s:=by
 let L:=s.heap.objs.size
 let G:Result->Shared->Prop:=fun q s'=>∃(g:Heap) (tk:Nat) (acc:Array Value) (c:Nat),q= .ok (.ret (.ref L))/\s'={ s with heap:=g,toks:=tk }/\(∀b o,s.heap.get? b=some o->g.get? b=some o)/\g.get? L=some { cls:= .type "list",dict:=none,data:= .seq acc c,slots:= #[] }/\ItemsOf P acc n
 unfold collect;refine aa (wpAny_runValue (codeAny_builtin entry_proto_collect' ?_));rw[zf PySem.F.plain_proto_collect _];refine(show wpAny _ A.in1 (newList []>>=fun l=>again (.builtin "list.__iadd__" ⟨[l,.ref r],[]⟩)) _ _ s from aa (fj (am ⟨plainId_quiet wz _,codeAny_builtin entry_list_iadd' ?_⟩)));rw[zf wz _];have lt:=K.there _ hok;refine(show wpAny _ A.in1 (Builtin.List.listExtendWith (.ref L) (.ref r) (.ref L)) _ _ _ from ft (W.kdl_extend (A:=A) (R:=G) (s:={ s with heap:=s.heap.push { cls:= .type "list",data:= .seq ([]:List Value).toArray } }) K hh (K.keep _ _ hok fun b _ o e=>ah _ e) L (jj lt.1) (jj lt.2) (.ref L) 0 (be _ rfl)
  (fun g tk acc c hk hS ha=>⟨g,tk,acc,c,rfl,rfl,fun b o e=>hk b o (bv (aw e)) (ah _ e),hS,ha⟩) hn) (fun f s' x=>?_) (by rintro e s' ⟨_,_,_,_,z,_⟩;exact nomatch z))
 have last:∀(g:Heap) (tk:Nat) (acc:Array Value) (c:Nat),(∀b o,s.heap.get? b=some o->g.get? b=some o)->g.get? L=some { cls:= .type "list",dict:=none,data:= .seq acc c,slots:= #[] }->ItemsOf P acc n ->
   wpAny (model prog w) A (load L>>=fun o=>match o.data with | .seq xs _=>pure xs.toList|_=>unsupported "internal:collect") R E { s with heap:=g,toks:=tk }:=
  fun g tk acc c hk hS ha=>aa (wpAny_load hS (am (h g tk acc hk (fi (aw hS)) ha)))
 cases f with
 |done f =>
  obtain⟨g,tk,acc,c,e,rfl,hk,hS,ha⟩:=x
  cases e
  exact last g tk acc c hk hS ha
 |again c₁ =>
  refine⟨x.1,rg x.2 fun q s₂ y=>?_⟩;obtain⟨g,tk,acc,c,rfl,rfl,hk,hS,ha⟩:=y;exact last g tk acc c hk hS ha
section
variable {prog:Program}{w:World}{A:Around}{E:Value->Shared->Prop}{s:Shared}
end
section
variable {prog:Program}{w:World}{A:Around}{E:Value->Shared->Prop}{s:Shared}{a:Addr}{o:Obj}{es:Array (Int×Value)}{ep:Nat}{t:SetTable}
end
section
variable {prog:Program}{w:World}{A:Around}{E:Value->Shared->Prop}{s:Shared}{a it tp:Addr}{o:Obj}{es:Array (Int×Value)}{ep:Nat}{t:SetTable}
def aG7{α:Type}{R:α->Shared->Prop}(hh:A.handled=none)(k:∀e g,(∀c o,s.heap.get? c=some o->g.get? c=some o)->(∃oe,g.get? e=some oe/\oe.cls= .type "StopIteration")->E (.ref e) { s with heap:=g }) :
  wpAny (model prog w) A (newExc (.type "StopIteration") []>>=fun e=>raiseNew (α:=α) e) R E s:=by
 refine aa ?_;simp only[newExc,newTuple];refine aa (fj (aa (m:=firstArgMember _ _) (mj (a:=Value.none) (by first|rfl|(simp only[firstArgMember];rfl)) (fj ?_ (by size_fits)))) (by size_fits));unfold raiseNew;refine aa (zj ?_);rw[hh];refine aa (am (aAp (k _ _ (fun c o e=>ah _ (ah _ e)) ⟨_,be _ rfl,rfl⟩)))
end
def oG:entryFor table "dict_keyiterator.__next__"=some Builtin.«dict_keyiterator.__next__» :=vz (by kernel_rfl)
def yA:entryFor table "dict.__iter__"=some Builtin.«dict.__iter__» :=vz (by kernel_rfl)
section
variable {prog:Program}{w:World}{A:Around}{E:Value->Shared->Prop}{s:Shared}{d it:Addr}{o:Obj}{es:Array DictEntry}{ep i:Nat}
def aC5{e:DictEntry}{Q:Option Value->Shared->Prop}(hit:s.heap.IsKeyIter it d i es.size ep)(h1:s.heap.get? d=some o)(h3:o.data= .dict es ep)(he:es[i]?=some e)
  (hQ:∀h',h'.IsKeyIter it d (i+1) es.size ep->Heap.SameBut it s.heap h'->Q (some e.key) { s with heap:=h' }):wpAny (model prog w) A (pyNext (.ref it)) Q E s:=by
 obtain⟨oi,ho,hc,hd⟩:=id hit;unfold pyNext;refine aa (kr (eu (name:=Str.ofString "__next__") hit.typeIs jr (eg jr hit.typeIs oG ?_ (ss _))));refine(show wpAny _ _ (Builtin.Dict_items.slot0 "__next__" ⟨[.ref it],[]⟩>>=_) _ _ _ from aa ?_);unfold Builtin.Dict_items.slot0 slotArgs;simp only[List.isEmpty_nil,Bool.not_true,Bool.false_eq_true,if_false,bind_assoc,List.length_nil,bne_self_eq_false];refine aa (am (am (aa ?_)));refine(show wpAny _ _ ((typeNameOfWhole (.ref it)>>=fun _=>_)>>=fun _=>_) _ _ _ from aa (aa (jo hit.typeIs (am ?_))));refine aa (wpAny_fieldsOf ho hd ?_)
 dsimp only
 refine(show wpAny _ _ (dictEntries d>>=fun _=>_) _ _ _ from aa (vi h1 h3 ?_));rw[ai (by simp)];refine(show wpAny _ _ (dictEpoch d>>=fun _=>_) _ _ _ from aa (xi h1 h3 ?_));rw[ai (by simp)];refine am ?_;refine(show wpAny _ _ (match if (i:Int)<0 then none else es[(i:Int).toNat]? with|some e=>_|none=>_) _ _ _ from ?_);rw[ai (by lia),du,he]
 dsimp only
 refine(show wpAny _ _ ((typeNameOfWhole (.ref it)>>=fun _=>_)>>=fun _=>_) _ _ _ from aa (aa (jo hit.typeIs (am ?_))));refine aa (yi hit.typeIs ?_);refine aa (kx ho hd (by show(1:Nat)<4;decide) ?_);have hit':(s.heap.update it (Obj.mapFields (·.setIfInBounds 1 (rawInt ((i:Int)+1))))).IsKeyIter it d (i+1) es.size ep:=
  ⟨_,kc _ ho (mv (io hd _)),(vg ..).trans hc,by rw[io hd];simp[rawInt]⟩
 refine aa (ko ?_);refine(show wpAny _ _ (Builtin.Dict_items.isOneOf (.ref it) _>>=fun _=>_) _ _ _ from aa (yi (s:={ s with heap:=s.heap.update it (Obj.mapFields (·.setIfInBounds 1 (rawInt ((i:Int)+1)))) }) hit'.typeIs ?_));refine(show wpAny _ _ (pure e.key) _ _ _ from am ?_);exact am ⟨_,rfl,am (hQ _ hit' (ja ..))⟩
def aR9{Q:Option Value->Shared->Prop}(hh:A.handled=none)(hit:s.heap.IsKeyIter it d i es.size ep)(h1:s.heap.get? d=some o)(h3:o.data= .dict es ep)(he:es[i]?=none)
  (hQ:∀h',(∀c u,c≠it->s.heap.get? c=some u->h'.get? c=some u)->Q none { s with heap:=h' }):wpAny (model prog w) A (pyNext (.ref it)) Q E s:=by
 obtain⟨oi,ho,hc,hd⟩:=id hit;unfold pyNext;refine aa (kr (eu (name:=Str.ofString "__next__") hit.typeIs jr (eg jr hit.typeIs oG ?_ (ss _))));refine(show wpAny _ _ (Builtin.Dict_items.slot0 "__next__" ⟨[.ref it],[]⟩>>=_) _ _ _ from aa ?_);unfold Builtin.Dict_items.slot0 slotArgs;simp only[List.isEmpty_nil,Bool.not_true,Bool.false_eq_true,if_false,bind_assoc,List.length_nil,bne_self_eq_false];refine aa (am (am (aa ?_)));refine(show wpAny _ _ ((typeNameOfWhole (.ref it)>>=fun _=>_)>>=fun _=>_) _ _ _ from aa (aa (jo hit.typeIs (am ?_))));refine aa (wpAny_fieldsOf ho hd ?_)
 dsimp only
 refine(show wpAny _ _ (dictEntries d>>=fun _=>_) _ _ _ from aa (vi h1 h3 ?_));rw[ai (by simp)];refine(show wpAny _ _ (dictEpoch d>>=fun _=>_) _ _ _ from aa (xi h1 h3 ?_));rw[ai (by simp)];refine am ?_;refine(show wpAny _ _ (match if (i:Int)<0 then none else es[(i:Int).toNat]? with|some e=>_|none=>_) _ _ _ from ?_);rw[ai (by lia),du,he]
 dsimp only
 refine(show wpAny _ _ ((typeNameOfWhole (.ref it)>>=fun _=>_)>>=fun _=>_) _ _ _ from aa (aa (jo hit.typeIs (am ?_))));refine aa (kx ho hd (by show(0:Nat)<4;decide) ?_);refine aG7 (show A.in1.handled=none from hh) fun e g kp ex=>?_
 obtain⟨oe,e1,e2⟩:=ex;refine aa (jg (T:="StopIteration") (b:=true) ⟨oe,e1,e2⟩ ua ?_);exact am (hQ _ fun c u hc e=>kp c u (by rw[li _ _ _ _ hc];exact e))
def zZ{Q:Value->Shared->Prop}(ns:(d==sysModules)=false)(h1:s.heap.get? d=some o)(h2:o.ExactDict)(h3:o.data= .dict es ep)
  (h:Q (.ref s.heap.objs.size) { s with heap:=s.heap.push { cls:= .type "dict_keyiterator",data:= .fields #[.ref d,.int 0 0,.int (es.size:Nat) 0,.int (ep:Nat) 0] } }):wpAny (model prog w) A (pyIter (.ref d)) Q E s:=by
 have hT:s.TypeIs (.ref d) "dict":=⟨o,h1,h2.1⟩
 refine wpAny_pyIter_slot hT F.slot_dict_iter (eg F.slot_dict_iter hT yA ?_ (F.args_dict_iter_1 _));unfold Builtin.«dict.__iter__» Builtin.Dict.dictSlotNone;simp only[bind_assoc];refine aa (wpAny_notOrdered_dict hT ?_);unfold slotArgs;simp only[List.isEmpty_nil,Bool.not_true,Bool.false_eq_true,if_false,bind_assoc,List.length_nil,bne_self_eq_false];refine aa (am (aa (am ?_)));refine(show wpAny _ _ (pure d>>=fun _=>_) _ _ _ from aa (am ?_));unfold Builtin.Dict.showsAll;rw[ns,ai (by decide)];refine aa (am ?_);refine aa (vi h1 h3 ?_);refine aa (xi h1 h3 ?_);refine aa ?_;unfold newFields;refine fj (am ⟨_,rfl,"dict_keyiterator",_,⟨_,be _ rfl,rfl⟩,F.slot_dict_keyiterator_next.lookup,h⟩)
end
def aV.freezeT{X:Cx}{pins:List (Addr×Obj)}{σ:St}{H:Hp}{s:Shared}{d:Addr}{o:Obj}{kvs:List (List Key×V)}(I:aV X pins σ H s)(h:H d=some (.dT kvs))(ho:s.heap.get? d=some o) :
  aV X pins σ (aN H d (.frz o (.dT kvs))) s:=by
 have nd:∀b u,H b=some u->(∀z,u≠ .dT z)->b≠d:=fun b u e hu z=>by
  rw[z,h] at e;exact hu _ (cq e).symm
 refine I.step (g':=s.gens) (d':=s.drawn) (t':=s.toks) (h':=s.heap) (ch:=[]) (fun _ z=>nomatch z) (fun b u _ _ _ e _=>e) (fun b u _ _ _ e _=>⟨u.slots,e⟩) (fun b u _ e n=>by rw[aH (fun z=>by rw[z,h] at n;cases n)];exact n)
  (fun b u _ e=>⟨u,e⟩) (fun b xs e=>by rw[aH (nd b _ e (by intro z c;cases c))];exact e) (fun b u v e=>by rw[aH (nd b _ e (by intro z c;cases c))];exact e)
  (fun b ps e=>⟨#[],by rw[aH (nd b _ e (by intro z c;cases c)),e];simp⟩) (fun m hm=>hm) (fun b u e=>?_) I.bare
 by_cases hb:b=d
 ·subst hb;rw[aD] at e
  cases e
  refine⟨ho,?_⟩;exact(show bZ X.prog X.w H s.heap b (.dT kvs) from I.hok b _ h).stay (fun c v _ q=>q) (fun c q=>by rw[aH (nd c _ q (by intro z w;cases w))];exact q) fun c xs q=>by rw[aH (nd c _ q (by intro z w;cases w))];exact q
 ·rw[aH hb] at e;exact(I.hok b u e).stay (fun c v _ q=>q) (fun c q=>by rw[aH (nd c _ q (by intro z w;cases w))];exact q) fun c xs q=>by rw[aH (nd c _ q (by intro z w;cases w))];exact q
def bL1(d:Addr)(o:Obj)(kvs:List (List Key×V)):It:=
 ⟨fun i H=>i<kvs.length/\H d=some (.frz o (.dT kvs)),fun i H x H'=>H'=H/\∃k v b,kvs[i]?=some (k,v)/\H b=some (.tup (k.map kV))/\x= .ref b,fun i H=>kvs.length<=i/\H d=some (.frz o (.dT kvs))⟩
def uK{α β:Type}{F:α->β->Prop}:∀{l:List α}{m:List β}{i:Nat}{a:α},Paired F l m->l[i]?=some a->∃b,m[i]?=some b/\F a b
 |_,_,_,_,.nil,e=>by simp at e
 |_,_,0,_,.cons r _,e=>by
  simp at e;subst e;exact⟨_,by simp,r⟩
 |_,_,i+1,_,.cons _ r,e=>by
  obtain⟨u,e1,e2⟩:=uK (i:=i) r (by simpa using e);exact⟨u,by simpa using e1,e2⟩
def xK{X:Cx}{pins:List (Addr×Obj)}{σ:St}{H:Hp}{s:Shared}{d:Addr}{o:Obj}{kvs:List (List Key×V)}{es:Array DictEntry}{ep:Nat}(I:aV X pins σ H s)(ho:o.data= .dict es ep)(h:H d=some (.frz o (.dT kvs))) :
  s.heap.get? d=some o/\o.ExactDict/\(d==sysModules)=false/\es.size=kvs.length/\∀(i:Nat) (k:List Key) (v:V),kvs[i]?=some (k,v)->∃(e:DictEntry) (b:Addr),es[i]?=some e/\e.key= .ref b/\H b=some (.tup (k.map kV)):=by
 obtain⟨e,z,ns,xs,rel,o',es',ep',h1,h2,h3,h4,h5⟩:=(show bZ X.prog X.w H s.heap d (.frz o (.dT kvs)) from I.hok d _ h)
 rw[e] at h1
 cases h1
 rw[ho] at h3
 cases h3
 refine⟨e,h2,ns,?_,fun i k v hk=>?_⟩
 ·rw[<-ff,h4,ac,jd rel]
 ·obtain⟨q,hq,r⟩:=uK rel hk;refine⟨_,q.2.1,by rw[<-ke,h4,df,hq];rfl,rfl,r.2.1⟩
def aH6{P:Program}{w:World}{K:W.Frag}{tg:Expr}(d it:Addr)(o:Obj)(kvs:List (List Key×V)){es:Array DictEntry}{ep:Nat}(ho:o.data= .dict es ep) :
  qL P w K tg (bL1 d o kvs) [it] it (fun i h=>i<=kvs.length/\h.IsKeyIter it d i kvs.length ep) where
 mem:=by simp
 obj:=fun i h st b hb=>by
  have e:b=it:=by simpa using hb
  subst e;obtain⟨o,e,c,q⟩:=st.2;exact⟨o,e,fun v z=>by rw[q] at z;cases z⟩
 keep:=fun i h h' st k=>⟨st.1,st.2.at fun o e=>k it (by simp) o e⟩
 item:=by
  intro X hP hw hK hc i pins s σ H E I hf st hg;subst hP hw hK;obtain⟨hi,hd⟩:=hg;obtain⟨f0,f1,f2,f3,f4,f5⟩:=hf it (by simp);obtain⟨h1,h2,ns,sz,at'⟩:=xK I ho hd;obtain⟨e,b,he,kb,hb⟩:=at' i kvs[i].1 kvs[i].2 (by simp[hi]);have st2:=st.2;rw[<-sz] at st2;refine aC5 st2 h1 ho he fun h' st' sb=>?_
  have I1:aV X pins σ H { s with heap:=h' }:=I.turned (t':=s.toks) (fun b o hb e=>(sb.2 b hb).trans e) f0 f1 f3 f4 f5;obtain⟨o2,e2,c2,d2⟩:=id st';rw[sz] at st';refine⟨e.key,rfl,go_of (s:={ s with heap:=h' }) e2 c2 d2 (by decide) ⟨.ref b,H,I1,kb,⟨rfl,kvs[i].1,kvs[i].2,b,by simp[hi],hb,rfl⟩,⟨hi,st'⟩,fun b hb=>(hf b hb).1⟩⟩
 done:=by
  intro X hP hw hK hc i pins s σ H E I hf st hg;subst hP hw hK;obtain⟨hi,hd⟩:=hg;obtain⟨f0,f1,f2,f3,f4,f5⟩:=hf it (by simp);obtain⟨h1,h2,ns,sz,at'⟩:=xK I ho hd;have st2:=st.2;rw[<-sz] at st2;exact aR9 (I.ok.hd hc) st2 h1 ho (yb (by lia)) fun h' eb=>⟨rfl,I.turned (t':=s.toks) (fun b o hb e=>eb b o hb e) f0 f1 f3 f4 f5⟩
 self:=fun _ _ _ _ _ st h=>sk st.2 h
def aK5(tl:TE):TI:=fun σ H R=>tl σ H fun x H1=>∃d kvs,x= .ref d/\H1 d=some (.dT kvs)/\∀o,R (bL1 d o kvs) (aN H1 d (.frz o (.dT kvs)))
def bH3{X:Cx}{tg l:Expr}{tl:TE}(hl:PE X l tl):PI X tg l (aK5 tl):=by
 intro pins s σ H R I h;refine cW (hl pins s σ H _ I h) ?_;rintro v s1 ⟨x,H1,I1,r1,q1⟩
 obtain⟨d,kvs,e,hd,q⟩:=q1;subst e
 cases r1
 obtain⟨z,ns,xs,rel,o,es,ep,h1,h2,h3,h4,h5⟩:=(show bZ X.prog X.w H1 s1.heap d (.dT kvs) from I1.hok d _ hd)
 have I2:=I1.freezeT hd h1;obtain⟨_,_,_,sz,_⟩:=xK I2 h3 aD;refine zZ ns h1 h2 h3 ?_;have f:(aN H1 d (.frz o (.dT kvs))) s1.heap.objs.size=none:=I2.hok.fresh (af _);refine⟨s1.heap.objs.size,[s1.heap.objs.size],_,_,_,rfl,I2.kept (t':=s1.toks) fun b o e=>ah _ e,aH6 d _ o kvs h3,⟨bi _,⟨_,be _ rfl,rfl,by rw[sz];rfl⟩⟩,fun b hb=>?_,q o⟩;have e:b=s1.heap.objs.size:=by simpa using hb
 subst e;exact I2.fpOk (af _) f
def aL9{d:Addr}{o:Obj}{kvs:List (List Key×V)}{g:TG}{tc:TT}{te:TE}{Kf:List V->Hp->Prop}{σ0:St}{H1:Hp}(Pv:Nat->List V->St->Hp->Prop)(hz:kvs.length<sizeLine)(h0:Pv 0 [] σ0 H1)(hb:∀i zs σ H,Pv i zs σ H->zs.length<=i)
  (hl:∀i zs σ H,i<=kvs.length->Pv i zs σ H->H d=some (.frz o (.dT kvs)))
  (hs:∀i k v b zs σ H,kvs[i]?=some (k,v)->H b=some (.tup (k.map kV))->Pv i zs σ H->g (.ref b) σ H fun σ2 H2=>tc σ2 H2 fun b H3=>if b=true then te σ2 H3 fun y H4=>Pv (i+1) (zs++[y]) σ2 H4 else Pv (i+1) zs σ2 H3)
  (hd:∀zs σ H,Pv kvs.length zs σ H->Kf zs H):mG (bL1 d o kvs) g tc te Kf σ0 H1:=by
 refine⟨fun i m zs σ H=>m=kvs.length-i/\i<=kvs.length/\Pv i zs σ H,⟨kvs.length,by simp,bi _,h0⟩,?_⟩;rintro i m zs σ H ⟨rfl,hi,p⟩;have q1:=hl i zs σ H hi p;refine⟨cm (hb _ _ _ _ p) (cm hi hz),?_⟩
 by_cases hlt:i<kvs.length
 ·refine .inr ⟨⟨hlt,q1⟩,Pv (i+1),fun zs' σ' H' p'=>⟨kvs.length-(i+1),fw hlt (dz i),rfl,hlt,p'⟩,fun x H' y=>?_⟩;obtain⟨rfl,k,v,b,e1,e2,rfl⟩:=y;exact hs i k v b zs σ _ e1 e2 p
 ·have e:i=kvs.length:=by lia
  subst e;exact .inl ⟨⟨af _,q1⟩,hd zs σ H p⟩
section
variable {prog:Program}{w:World}{A:Around}{E:Value->Shared->Prop}{s:Shared}{a it tp:Addr}{o:Obj}{es:Array (Int×Value)}{ep:Nat}{t:SetTable}
end
section
variable {prog:Program}{w:World}{A:Around}{E:Value->Shared->Prop}{s:Shared}{a tp:Addr}{o:Obj}{es:Array (Int×Value)}{ep:Nat}{t:SetTable}
end
def aV.draw{X:Cx}{pins:List (Addr×Obj)}{σ:St}{H:Hp}{s:Shared}(I:aV X pins σ H s)(d':Drawn):aV X pins σ H { s with drawn:=d' }:=
 ⟨I.ok,I.os,I.bare,I.base,I.loc,I.cell,I.free,I.freeC,I.pin,I.hok,I.len⟩
section
variable {prog:Program}{w:World}{A:Around}{E:Value->Shared->Prop}{s:Shared}{a:Addr}{o:Obj}{es:Array (Int×Value)}{ep:Nat}{t:SetTable}
end
abbrev tk(ts:List Str):List Key:=ts.map Sum.inr
section
variable {prog:Program}{w:World}{A:Around}{R:Result->Shared->Prop}{I:Addr}{fp wr:List Addr}{G:Array GenState->Array GenState->Prop}{n:Nat}{P:Nat->Value->Prop}{St:Nat->Shared->Prop}{led:Bool}
end
section
variable {prog:Program}{w:World}{A:Around}{E:Value->Shared->Prop}{s:Shared}
end
section
variable {X:Cx}{k:Nat}
end
def aI4(H:Hp):NKey->V->Prop
 |.inl k,v=>v=kV k
 |.inr ks,v=>∃c,v= .ref c/\H c=some (.tup (ks.map kV))
def NAt(H:Hp)(ks:List NKey)(b:Addr):Prop:=∃vs,H b=some (.tup vs)/\Paired (aI4 H) ks vs
def aI4.ts{H H':Hp}(t:∀b ys,H b=some (.tup ys)->H' b=some (.tup ys)):∀{k:NKey}{v:V},aI4 H k v->aI4 H' k v
 |.inl _,_,h=>h
 |.inr _,_,⟨c,e,h⟩=>⟨c,e,t _ _ h⟩
def NAt.ts{H H':Hp}(t:∀b ys,H b=some (.tup ys)->H' b=some (.tup ys)){ks:List NKey}{b:Addr}(h:NAt H ks b):NAt H' ks b:=let⟨vs,e,r⟩:=h;⟨vs,t _ _ e,Paired.mapP r fun _ _ z=>z.ts t⟩
def aL1{k:Key}{u:Value}(h:bF (kV k) u):eF k u=true:=by
 cases k with
 |inl i=>obtain⟨t,rfl⟩:=(show ∃t,u=Value.int i t from h);simp[eF,Value.isInt,Value.isStrOf]
 |inr x=>obtain⟨t,rfl⟩:=(show ∃t,u=Value.str x t from h);simp[eF,Value.isInt,Value.isStrOf]
def bW6:∀{ks:List Key}{us:List Value},bC (ks.map kV) us->mF ks us
 |[],_,.nil=> .nil
 |k::ks,_,.cons r t=> .cons (aL1 r) (bW6 t)
section
variable {P:Program}{w:World}{H:Hp}{h:Heap}{a:Addr}
def bZ8{ks:List Key}(ok:kL P w H h)(e:H a=some (.tup (ks.map kV))):uD h ks a:=by
 obtain⟨_,its,r,o,h1,h2,n,h3,_⟩:=(show bZ P w H h a (.tup (ks.map kV)) from ok a _ e)
 exact⟨o,its.toArray,n,h1,h2,h3,by simpa using bW6 r⟩
def bG5(ok:kL P w H h):∀{ks:List NKey}{vs:List V}{us:List Value},Paired (aI4 H) ks vs->bC vs us->fS h ks us
 |_,_,_,.nil,.nil=> .nil
 |.inl k::_,_,_,.cons a r,.cons b t=> .cons (show eF k _=true from aL1 (by rw[<-(show _=kV k from a)];exact b)) (bG5 ok r t)
 |.inr ks::_,_,_,.cons ⟨c,e,q⟩ r,.cons b t=> .cons ⟨c,by subst e;exact b,bZ8 ok q⟩ (bG5 ok r t)
def bO2{ks:List NKey}(ok:kL P w H h)(e:NAt H ks a):(bA8 P w).is h ks a:=by
 obtain⟨vs,e,r⟩:=e;obtain⟨_,its,rv,o,h1,h2,n,h3,_⟩:=(show bZ P w H h a (.tup vs) from ok a _ e)
 exact⟨o,its.toArray,n,h1,h2,h3,by simpa using bG5 ok r rv⟩
end
section
variable {X:Cx}{pins:List (Addr×Obj)}{σ:St}{H:Hp}{s:Shared}{a:Addr}{y v:V}{u r:Value}{o:Option V}{A:Around}{E:Value->Shared->Prop}
end
section
variable {X:Cx}{o i e value:Expr}{pos pos' tpos:Pos}{td ty tv:TE}{k:Nat}
end
abbrev RKey:=Key ⊕ List NKey
instance rkeyEq:DecidableEq (List RKey):= @instDecidableEqList RKey (@instDecidableEqSum Key (List NKey) inferInstance inferInstance)
def aB4(h:Heap):RKey->Value->Prop
 |.inl k,v=>eF k v=true
 |.inr ks,v=>∃c,v= .ref c/\fY h ks c
inductive Ns3(h:Heap):List RKey->List Value->Prop where
 |nil:Ns3 h [] []
 |cons {k:RKey}{v:Value}{ks:List RKey}{vs:List Value}:aB4 h k v->Ns3 h ks vs->Ns3 h (k::ks) (v::vs)
def mD(h:Heap)(ks:List RKey)(a:Addr):Prop:=∃o items n,h.get? a=some o/\o.cls= .type "tuple"/\o.data= .seq items n/\Ns3 h ks items.toList
def bB0{h:Heap}:∀{x y:RKey}{v:Value},aB4 h x v->aB4 h y v->x=y
 |.inl k,.inl j,v,a,b=>by rw[yS a b]
 |.inl k,.inr j,v,a,⟨c,e,_⟩=>by
  subst e;rcases aZ (show eF k (.ref c)=true from a) with⟨i,t,_,z⟩|⟨x,t,_,z⟩<;>cases z
 |.inr k,.inl j,v,⟨c,e,_⟩,b=>by
  subst e;rcases aZ (show eF j (.ref c)=true from b) with⟨i,t,_,z⟩|⟨x,t,_,z⟩<;>cases z
 |.inr k,.inr j,v,⟨c,e,p⟩,⟨c2,e2,q⟩=>by
  subst e
  cases e2
  rw[uF p q]
def aR4{h:Heap}:∀{x y:List RKey}{vs:List Value},Ns3 h x vs->Ns3 h y vs->x=y
 |_,_,_,.nil,.nil=>rfl
 |_,_,_,.cons a r,.cons b t=>by rw[bB0 a b,aR4 r t]
def wB{h:Heap}{x y:List RKey}{a:Addr}(p:mD h x a)(q:mD h y a):x=y:=by
 obtain⟨o,i,n,a1,b1,c1,d1⟩:=p;obtain⟨o2,i2,n2,a2,b2,c2,d2⟩:=q;rw[a1] at a2
 cases a2
 rw[c1] at c2
 cases c2
 exact aR4 d1 d2
def uI{h h':Heap}{d:Addr}{q:Obj}{es:Array DictEntry}{ep:Nat}(hd:h.get? d=some q)(hq:q.data= .dict es ep)(s:Heap.SameBut d h h'):∀{ks:List RKey}{vs:List Value},Ns3 h ks vs->Ns3 h' ks vs
 |_,_,.nil=> .nil
 |_,_,.cons (k:= .inl _) a r=> .cons a (uI hd hq s r)
 |_,_,.cons (k:= .inr _) ⟨c,e,t⟩ r=>by
  exact .cons ⟨c,e,fY.keeps t hd hq s⟩ (uI hd hq s r)
section
variable {prog:Program}{w:World}{A:Around}{E:Value->Shared->Prop}{s:Shared}
def aE2{d:Nat}{ks:List NKey}{a:Addr}{Q:Bool->Shared->Prop}(hk:fY s.heap ks a)(h:Q true s):wpAny (model prog w) A (eqIsQuiet (d+2) (.ref a)) Q E s:=by
 obtain⟨o,items,n,ho,hc,hd,hi⟩:=hk;have hT:s.TypeIs (.ref a) "tuple":=⟨o,ho,hc⟩
 unfold eqIsQuiet;refine aa (gp hT F.slot_tuple_eq.lookup ?_);show wpAny _ _ (isInstance (.ref a) (.type "tuple")>>=_) _ _ s;refine aa (jg hT ni ?_);simp only[Bool.not_true,Bool.false_eq_true,if_false];refine aa (ia ho hd ?_);refine aa ?_;show wpAny _ _ (forIn items _ _) _ _ s;rw[<-jy];refine nk _ (fun rest r s'=>r.1=none/\s'=s/\∃ks,fS s.heap ks rest) _ ?_ ?_ _ _ ⟨rfl,rfl,ks,hi⟩
 ·rintro v rest r s' ⟨hr,rfl,ks',hall⟩
  cases hall with
  |cons a1 a2 =>
   refine aa (wW a1 ?_);simp only[Bool.not_true,Bool.false_eq_true,if_false];exact am ⟨rfl,rfl,_,a2⟩
 ·rintro⟨r1,r2⟩ s' ⟨hr,rfl,_⟩;simp only at hr;subst hr;exact am h
end
section
variable {prog:Program}{w:World}
def dR(prog:Program)(w:World):RKey->Int
 |.inl k=>(bG prog w).hash k
 |.inr ks=>oH prog w ks
def eJ:RKey->Nat
 |.inl _=>1
 |.inr ks=>jM ks
def oZ(prog:Program)(w:World)(ks:List RKey):Int:=reduceHash (Builtin.Tuple.tupleHashOf (ks.map (dR prog w)))
def kB(ks:List RKey):Nat:=(ks.map eJ).sum+1
variable {A:Around}{E:Value->Shared->Prop}{s:Shared}
def aU8{k:RKey}{v:Value}{Q:Int->Shared->Prop}(hu:A.units+3<cLine)(h:aB4 s.heap k v)(q:Q (dR prog w k) { s with toks:=s.toks+eJ k }):wpAny (model prog w) A (pyHash v) Q E s:=by
 cases k with
 |inl k=>exact(bG prog w).pyHash (k:=k) h q
 |inr ks =>
  obtain⟨c,rfl,t⟩:=h;exact vR hu t q
def vK{Q:Array Int->Shared->Prop}(hu:A.units+3<cLine):∀{ks:List RKey}{vs:List Value}(hs:Array Int) (s:Shared),Ns3 s.heap ks vs->Q (hs++(ks.map (dR prog w)).toArray) { s with toks:=s.toks+(ks.map eJ).sum } ->
  wpAny (model prog w) A (forIn vs hs fun x (r:Array Int)=>do
   let i <-pyHash x
   pure (ForInStep.yield (r.push i))) Q E s
 |_,_,hs,s,.nil,q=>by
  rw[List.forIn_nil];exact am (by simpa using q)
 |k::ks,v::vs,hs,s,.cons a r,q=>by
  rw[xg];simp only[bind_assoc,pure_bind];refine aa (aU8 hu a ?_);refine vK hu (hs.push (dR prog w k)) { s with toks:=s.toks+eJ k } r ?_;have e1:hs.push (dR prog w k)++(ks.map (dR prog w)).toArray=hs++((k::ks).map (dR prog w)).toArray:=by simp
  have e2:s.toks+eJ k+(ks.map eJ).sum=s.toks+((k::ks).map eJ).sum:=by rw[bt,dm];lia
  rw[e1];show Q _ { s with toks:=s.toks+eJ k+(ks.map eJ).sum };rw[e2];exact q
def aM0{ks:List RKey}{a:Addr}{Q:Int->Shared->Prop}(hu:A.units+6<cLine)(h:mD s.heap ks a)(q:Q (oZ prog w ks) { s with toks:=s.toks+kB ks }):wpAny (model prog w) A (pyHash (.ref a)) Q E s:=by
 obtain⟨o,items,n,h1,h2,h3,h4⟩:=h;have hT:s.TypeIs (.ref a) "tuple":=⟨o,h1,h2⟩
 show wpAny _ _ (pyHashByItsType (.ref a)) _ _ _;unfold pyHashByItsType;refine aa (yh (by lia) ?_);refine aa (gp hT F.slot_tuple_hash.lookup ?_);rw[ai (by decide)];refine aa (gp hT F.slot_tuple_hash.lookup ?_);rw[ai (by decide)];refine aa (nq hT pi (eg pi hT aAh ?_ (zr _)));unfold Builtin.«tuple.__hash__» slotArgs;simp only[List.isEmpty_nil,Bool.not_true,Bool.false_eq_true,if_false,bind_assoc,List.length_nil,bne_self_eq_false];refine aa (am ?_);refine aa (aAi h1 h3 ?_);refine aa ?_;rw[<-jy];refine vK (by show A.units+1+3<cLine;lia) #[] s h4 ?_;unfold retInt;refine aa (aAq (am ⟨_,rfl,?_⟩));have e:(#[]++(ks.map (dR prog w)).toArray:Array Int).toList=ks.map (dR prog w):=by simp
 rw[e];show wpAny _ _ (if (decide (-(2:Int)^63<=Builtin.Tuple.tupleHashOf (ks.map (dR prog w)))&&decide (Builtin.Tuple.tupleHashOf (ks.map (dR prog w))<2^63))=true then _ else _) Q E _;unfold oZ reduceHash at q;have e3:s.toks+kB ks=s.toks+(ks.map eJ).sum+1:=by unfold kB;lia
 rw[e3] at q
 by_cases hr:(decide (-(2:Int)^63<=Builtin.Tuple.tupleHashOf (ks.map (dR prog w)))&&decide (Builtin.Tuple.tupleHashOf (ks.map (dR prog w))<2^63))=true
 ·rw[ao hr] at q ⊢;exact am q
 ·rw[ai hr] at q ⊢;exact aa (me (am q))
def bT2{j k:RKey}{u v:Value}(hu:A.units+3<cLine)(a:aB4 s.heap j u)(b:aB4 s.heap k v):SeqAt.EqAt A s u v (decide (j=k)):=by
 cases j with
 |inl j =>
  cases k with
  |inl k =>
   have e:decide ((Sum.inl j:RKey)=Sum.inl k)=decide (j=k):=by simp
   rw[e];intro prog w E Q q;exact(bG prog w).eqBool (a:=j) (b:=k) a b q
  |inr ks =>
   have e:decide ((Sum.inl j:RKey)=Sum.inr ks)=false:=by simp
   rw[e];obtain⟨c,rfl,o,items,n,h1,h2,h3,_⟩:=b;have ht:s.heap.IsTuple c items:=⟨o,h1,h2,n,h3⟩
   rcases aZ (show eF j u=true from a) with⟨i,t,_,rfl⟩|⟨x,t,_,rfl⟩
   ·exact yz i t ht (by lia)
   ·exact za x t ht (by lia)
 |inr js =>
  obtain⟨c,rfl,t⟩:=a
  cases k with
  |inl k =>
   have e:decide ((Sum.inr js:RKey)=Sum.inl k)=false:=by simp
   rw[e];obtain⟨o,items,n,h1,h2,h3,_⟩:=t;have ht:s.heap.IsTuple c items:=⟨o,h1,h2,n,h3⟩
   rcases aZ (show eF k v=true from b) with⟨i,t,_,rfl⟩|⟨x,t,_,rfl⟩
   ·exact zc i t ht (by lia)
   ·exact ze x t ht (by lia)
  |inr ks =>
   obtain⟨c2,rfl,t2⟩:=b;have e:decide ((Sum.inr js:RKey)=Sum.inr ks)=decide (js=ks):=by simp
   rw[e];intro prog w E Q q;exact aR2 (by lia) t t2 q
def Ns3.at{h:Heap}:∀{ks:List RKey}{vs:List Value},Ns3 h ks vs->∀{i:Nat}(hi:i<vs.length),∃hk:i<ks.length,aB4 h ks[i] vs[i]
 |_,_,.nil,i,hi=>absurd hi (sr i)
 |_,_,.cons a r,0,_=>⟨Nat.succ_pos _,a⟩
 |_,_,.cons a r,i+1,hi=>by
  obtain⟨hk,q⟩:=Ns3.at r (i:=i) (by simpa using hi);exact⟨by simpa using hk,by simpa using q⟩
def Ns3.len{h:Heap}:∀{ks:List RKey}{vs:List Value},Ns3 h ks vs->ks.length=vs.length
 |_,_,.nil=>rfl
 |_,_,.cons _ r=>by rw[bo,bo,Ns3.len r]
def bN5{xs ys:List RKey}:((List.range (min xs.length ys.length)).all (fun i=>decide (xs.getD i (.inr [])=ys.getD i (.inr [])))&&xs.length==ys.length)=decide (xs=ys):=by
 rw[mf,jf,List.all_eq_true,rf,ph]
 constructor
 ·rintro⟨h,l⟩;refine wf l fun i h1 h2=>?_
  have:=ar (h i (by simp;lia))
  simpa [List.getD,h1,h2] using this
 ·rintro rfl;exact⟨fun i _=>ap rfl,rfl⟩
def bI4{x y:List RKey}{a b:Addr}{Q:Bool->Shared->Prop}(hu:A.units+6<cLine)(p:mD s.heap x a)(q:mD s.heap y b)(h:Q (decide (x=y)) s):wpAny (model prog w) A (eqBool (.ref a) (.ref b)) Q E s:=by
 by_cases e:a=b
 ·subst e;have:=wB p q;subst this;rw[ap rfl] at h;exact xc (.ref a) prog w E Q h
 ·obtain⟨o,items,n,h1,h2,h3,h4⟩:=p;obtain⟨o2,items2,n2,k1,k2,k3,k4⟩:=q;have l1:x.length=items.size:=by rw[h4.len,ff]
  have l2:y.length=items2.size:=by rw[k4.len,ff]
  have r:=SeqAt.RcAt.tuples (A:=A) (s:=s) (l:=a) (b:=b) (items:=items) (items2:=items2) (e:=fun i=>decide (x.getD i (.inr [])=y.getD i (.inr []))) ⟨o,h1,h2,n,h3⟩ ⟨o2,k1,k2,n2,k3⟩ (by lia) fun j q1 q2=>?_
  ·rw[<-l1, <-l2,bN5] at r;exact aAj e r prog w E Q h
  ·obtain⟨g1,s1⟩:=h4.at (i:=j) (by simpa using q1);obtain⟨g2,s2⟩:=k4.at (i:=j) (by simpa using q2);have e1:x.getD j (.inr [])=x[j]:=by simp[List.getD,g1]
   have e2:y.getD j (.inr [])=y[j]:=by simp[List.getD,g2]
   rw[e1,e2];simp only[Array.getElem_toList] at s1 s2;exact bT2 (by show A.units+1+3<cLine;lia) s1 s2
def aK1{d:Nat}{k:RKey}{v:Value}{Q:Bool->Shared->Prop}(hk:aB4 s.heap k v)(h:Q true s):wpAny (model prog w) A (eqIsQuiet (d+2) v) Q E s:=by
 cases k with
 |inl k =>
  rw[vh _ ((bG prog w).byValue k v hk)];exact am h
 |inr ks =>
  obtain⟨c,rfl,t⟩:=hk;exact aE2 t h
def zO{ks:List RKey}{a:Addr}{Q:Bool->Shared->Prop}(hk:mD s.heap ks a)(h:Q true s):wpAny (model prog w) A (eqIsQuiet 8 (.ref a)) Q E s:=by
 obtain⟨o,items,n,ho,hc,hd,hi⟩:=hk;have hT:s.TypeIs (.ref a) "tuple":=⟨o,ho,hc⟩
 unfold eqIsQuiet;refine aa (gp hT F.slot_tuple_eq.lookup ?_);show wpAny _ _ (isInstance (.ref a) (.type "tuple")>>=_) _ _ s;refine aa (jg hT ni ?_);simp only[Bool.not_true,Bool.false_eq_true,if_false];refine aa (ia ho hd ?_);refine aa ?_;show wpAny _ _ (forIn items _ _) _ _ s;rw[<-jy];refine nk _ (fun rest r s'=>r.1=none/\s'=s/\∃ks,Ns3 s.heap ks rest) _ ?_ ?_ _ _ ⟨rfl,rfl,ks,hi⟩
 ·rintro v rest r s' ⟨hr,rfl,ks',hall⟩
  cases hall with
  |cons a1 a2 =>
   refine aa (aK1 a1 ?_);simp only[Bool.not_true,Bool.false_eq_true,if_false];exact am ⟨rfl,rfl,_,a2⟩
 ·rintro⟨r1,r2⟩ s' ⟨hr,rfl,_⟩;simp only at hr;subst hr;exact am h
end
def mD.keeps{h h':Heap}{ks:List RKey}{a d:Addr}{q:Obj}{es:Array DictEntry}{ep:Nat}(t:mD h ks a)(hd:h.get? d=some q)(hq:q.data= .dict es ep)(s:Heap.SameBut d h h'):mD h' ks a:=by
 obtain⟨o,items,n,ho,hc,hdd,hi⟩:=t;exact⟨o,items,n,by rw[s.2 a (sO ho hdd hd hq)];exact ho,hc,hdd,uI hd hq s hi⟩
def lF(prog:Program)(w:World):HeapKind prog w (List RKey) where
 is:=mD
 hash:=oZ prog w
 draws:=kB
 room:=fun A=>A.units+6<cLine
 inj:=fun hx hy=>wB hx hy
 keeps:=fun x ho hd hs=>x.keeps ho hd hs
 pyHash:=fun hu hk h=>aM0 hu hk h
 eqBool:=fun hu hx hy h=>bI4 hu hx hy h
 quiet:=fun hk h=>zO hk h
abbrev NE3:=List RKey×Addr×V
abbrev KN3:List NE3->List (List RKey×Addr×Value)->Prop:=Paired fun p q=>p.1=q.1/\p.2.1=q.2.1/\bF p.2.2 q.2.2
def dN3(P:Program)(w:World)(a:Addr)(xs:List NE3):HO:= .ext fun h=>xs.length<=sizeLine/\(a==sysModules)=false/\(xs.map (·.1)).Nodup/\∃ys,KN3 xs ys/\∃o es ep,h.get? a=some o/\o.ExactDict/\o.data= .dict es ep/\es.toList=ys.map (entryOfKey (lF P w))
def zW(H:Hp):RKey->V->Prop
 |.inl k,v=>v=kV k
 |.inr ks,v=>∃c,v= .ref c/\NAt H ks c
def pK(H:Hp)(ks:List RKey)(b:Addr):Prop:=∃vs,H b=some (.tup vs)/\Paired (zW H) ks vs
def zW.ts{H H':Hp}(t:∀b ys,H b=some (.tup ys)->H' b=some (.tup ys)):∀{k:RKey}{v:V},zW H k v->zW H' k v
 |.inl _,_,h=>h
 |.inr _,_,⟨c,e,h⟩=>⟨c,e,NAt.ts t h⟩
def pK.ts{H H':Hp}(t:∀b ys,H b=some (.tup ys)->H' b=some (.tup ys)){ks:List RKey}{b:Addr}(h:pK H ks b):pK H' ks b:=let⟨vs,e,r⟩:=h;⟨vs,t _ _ e,Paired.mapP r fun _ _ z=>z.ts t⟩
section
variable {P:Program}{w:World}{H:Hp}{h:Heap}{a:Addr}
def aK0(ok:kL P w H h):∀{ks:List RKey}{vs:List V}{us:List Value},Paired (zW H) ks vs->bC vs us->Ns3 h ks us
 |_,_,_,.nil,.nil=> .nil
 |.inl k::_,_,_,.cons a r,.cons b t=> .cons (show eF k _=true from aL1 (by rw[<-(show _=kV k from a)];exact b)) (aK0 ok r t)
 |.inr ks::_,_,_,.cons ⟨c,e,q⟩ r,.cons b t=> .cons ⟨c,by subst e;exact b,bO2 (P:=P) (w:=w) ok q⟩ (aK0 ok r t)
def nW{ks:List RKey}(ok:kL P w H h)(e:pK H ks a):(lF P w).is h ks a:=by
 obtain⟨vs,e,r⟩:=e;obtain⟨_,its,rv,o,h1,h2,n,h3,_⟩:=(show bZ P w H h a (.tup vs) from ok a _ e)
 exact⟨o,its.toArray,n,h1,h2,h3,by simpa using aK0 ok r rv⟩
end
def lS(xs:List NE3):List (List RKey×V):=xs.map fun x=>(x.1,x.2.2)
def cO3(P:Program)(w:World)(H:Hp)(d:Addr)(l:List (List RKey×V)):Prop:=∃xs,Rd H d (dN3 P w d xs)/\lS xs=l/\∀x∈xs,pK H x.1 x.2.1
def DN3(P:Program)(w:World)(H:Hp)(d:Addr)(l:List (List RKey×V)):Prop:=∃xs,H d=some (dN3 P w d xs)/\lS xs=l/\∀x∈xs,pK H x.1 x.2.1
def DN3.r{P:Program}{w:World}{H:Hp}{d:Addr}{l:List (List RKey×V)}(h:DN3 P w H d l):cO3 P w H d l:=let⟨xs,a,b,c⟩:=h;⟨xs,.inl a,b,c⟩
def DN3.keep{P:Program}{w:World}{H H':Hp}{d:Addr}{l:List (List RKey×V)}(h:DN3 P w H d l)(t:∀b ys,H b=some (.tup ys)->H' b=some (.tup ys))(s:∀o,H d=some o->H' d=some o):DN3 P w H' d l:=
 let⟨xs,a,b,c⟩:=h;⟨xs,s _ a,b,fun x hx=>(c x hx).ts t⟩
def DN3.ext{P:Program}{w:World}{H:Hp}{d:Addr}{l:List (List RKey×V)}(h:DN3 P w H d l):∃φ,H d=some (.ext φ):=let⟨_,a,_,_⟩:=h;⟨_,a⟩
def KN3.val{xs:List NE3}{ys:List (List RKey×Addr×Value)}(r:KN3 xs ys)(k:List RKey):kQ (dA (lS xs) k) ((atKey ys k).map (·.2)):=by
 induction r with
 |nil=>exact ii
 |@cons p q ps qs h t ih =>
  obtain⟨h1,_,h2⟩:=h
  by_cases e:p.1=k
  ·have e':q.1=k:=h1.symm.trans e;have b:atKey (q::qs) k=some q.2:=by simp[atKey,List.find?_cons,e']
   rw[show lS (p::ps)=(p.1,p.2.2)::lS ps from rfl,bL e,b];exact h2
  ·have e':¬q.1=k:=fun z=>e (h1.trans z)
   have b:atKey (q::qs) k=atKey qs k:=by simp[atKey,List.find?_cons,e']
   rw[show lS (p::ps)=(p.1,p.2.2)::lS ps from rfl,aO e,b];exact ih
def fQ(xs:List NE3)(k:List RKey)(b:Addr)(v:V):List NE3:=
 if ((lS xs).any fun kv=>decide (kv.1=k))=true then xs.map (fun x=>if x.1=k then (x.1,x.2.1,v) else x) else xs++[(k,b,v)]
def pX(xs:List NE3)(k:List RKey)(b:Addr)(v:V):lS (fQ xs k b v)=cH (lS xs) k v:=by
 unfold fQ cH
 split
 ·unfold lS;rw[jl,jl];refine gc fun x _=>?_
  show(fun y:NE3=>(y.1,y.2.2)) (if x.1=k then (x.1,x.2.1,v) else x)=if x.1=k then (x.1,v) else (x.1,x.2.2)
  split<;>rfl
 ·unfold lS;rw[aq];rfl
def yQ{xs:List NE3}{k:List RKey}{b:Addr}{v:V}{x:NE3}(h:x∈fQ xs k b v):(x.1=k/\x.2.1=b)\/∃y∈xs,x.1=y.1/\x.2.1=y.2.1:=by
 unfold fQ at h
 split at h
 ·obtain⟨y,hy,e⟩:=ci.mp h;refine .inr ⟨y,hy,?_⟩
  split at e<;>(subst e;exact⟨rfl,rfl⟩)
 ·rcases br.mp h with h|h
  ·exact .inr ⟨x,h,rfl,rfl⟩
  ·rw[av.mp h];exact .inl ⟨rfl,rfl⟩
def KN3.put{xs:List NE3}{ys:List (List RKey×Addr×Value)}(r:KN3 xs ys)(k:List RKey){b:Addr}{y:V}{u:Value}(ry:bF y u):KN3 (fQ xs k b y) (storedH ys k b u):=by
 have e:((lS xs).any fun kv=>decide (kv.1=k))=(atKey ys k).isSome:=by
  rw[dQ,(r.val k).isSome_eq,pd]
 unfold fQ storedH;rw[e]
 by_cases q:(atKey ys k).isSome=true
 ·rw[ao q,ao q];clear e q
  induction r with
  |nil=>exact .nil
  |@cons p q ps qs h t ih =>
   rw[bt,bt];refine .cons ?_ ih;obtain⟨h1,h2,h3⟩:=h;unfold putAt
   by_cases e:p.1=k
   ·rw[ao e,ao (h1.symm.trans e)];exact⟨h1,h2,ry⟩
   ·rw[ai e,ai (fun z=>e (h1.trans z))];exact⟨h1,h2,h3⟩
 ·rw[ai q,ai q];exact aAo r ⟨rfl,rfl,ry⟩
def KN3.keys{xs:List NE3}{ys:List (List RKey×Addr×Value)}(r:KN3 xs ys):xs.map (·.1)=ys.map (·.1):=by
 induction r with
 |nil=>rfl
 |cons h _ ih=>rw[bt,bt,h.1,ih]
section
variable {P:Program}{w:World}{H:Hp}{h:Heap}{a:Addr}
def rM{xs:List NE3}(ok:kL P w H h)(e:Rd H a (dN3 P w a xs))(hk:∀x∈xs,pK H x.1 x.2.1):xs.length<=sizeLine/\(a==sysModules)=false/\∃ys,KN3 xs ys/\h.DictOfH (lF P w) a ys:=by
 obtain⟨z,y,nd,ys,r,o,es,ep,h1,h2,h3,h4⟩:=(show bZ P w H h a (dN3 P w a xs) from bD9 ok e).1;refine⟨z,y,ys,r,o,es,ep,h1,h2,h3,h4,fun x hx=>?_,by rw[<-r.keys];exact nd⟩;have all:∀{l:List NE3}{m:List (List RKey×Addr×Value)},KN3 l m->(∀x∈l,pK H x.1 x.2.1)->∀x∈m,(lF P w).is h x.1 x.2.1:=by
  intro l m q
  induction q with
  |nil=>intro _ x hx;exact nomatch hx
  |@cons p q ps qs hq t ih =>
   intro hl x hx;rcases az.mp hx with e|hx
   ·subst e;rw[<-hq.1, <-hq.2.1];exact nW ok (hl p aj)
   ·exact ih (fun x hx=>hl x (ae _ hx)) x hx
 exact all r hk x hx
def bJ0{xs:List NE3}{ys:List (List RKey×Addr×Value)}{H':Hp}(z:xs.length<=sizeLine)(y:(a==sysModules)=false)(r:KN3 xs ys)(dd:h.DictOfH (lF P w) a ys):bZ P w H' h a (dN3 P w a xs):=by
 obtain⟨o,es,ep,h1,h2,h3,h4,_,h5⟩:=dd;refine⟨⟨z,y,by rw[r.keys];exact h5,ys,r,o,es,ep,h1,h2,h3,h4⟩,⟨o,h1⟩,fun g1 g2 g k=>?_⟩;obtain⟨z,y,nd,ys,r,o,es,ep,h1,h2,h3,h4⟩:=g;exact⟨z,y,nd,ys,r,o,es,ep,k _ h1,h2,h3,h4⟩
def aV0{P:Program}{w:World}{H:Hp}(h:Heap)(hb:sysModules<h.objs.size):bZ P w H (h.push { cls:= .type "dict",data:= .dict #[] }) h.objs.size (dN3 P w h.objs.size []):=
 bJ0 (bi _) (ie.mpr (Ne.symm (bv hb))) .nil ⟨_, #[],0,be _ rfl,⟨rfl,rfl,rfl⟩,rfl,rfl,(fun x hx=>nomatch hx),ou⟩
end
def zK(P:Program)(w:World)(H:Hp)(a:Addr)(y:V)(r:Option V):Prop:=eS H a y r\/∃l ks b,cO3 P w H a l/\y= .ref b/\pK H ks b/\r=dA l ks
def bW1(P:Program)(w:World)(H:Hp)(a:Addr)(y v:V)(Q:Hp->Prop):Prop:=(∃H',lT H a y v H'/\Q H')\/∃l ks b,DN3 P w H a l/\y= .ref b/\pK H ks b/\l.length<sizeLine/\∀H',DN3 P w H' a (cH l ks v)->(∀c,c≠a->H' c=H c)->Q H'
def uM(xs:List NE3):(lS xs).length=xs.length:=ac _
section
variable {X:Cx}{pins:List (Addr×Obj)}{σ:St}{H:Hp}{s:Shared}{a:Addr}{y v:V}{u r:Value}{o:Option V}{A:Around}{E:Value->Shared->Prop}
def aT8(I:aV X pins σ H s)(g:zK X.prog X.w H a y o):s.TypeIs (.ref a) "dict":=by
 rcases g with g|⟨l,ks,b,⟨xs,e,_,hk⟩,_⟩
 ·exact pZ I g
 ·obtain⟨_,_,ys,_,dd⟩:=rM I.hok e hk;exact dd.typeIs
def aI7{Q:Value->Shared->Prop}(hu:A.units+8<cLine)(I:aV X pins σ H s)(g:zK X.prog X.w H a y (some v))(ry:bF y u)(h:∀w' s',aV X pins σ H s'->bF v w'->Q w' s') :
  wpAny (model X.prog X.w) A (getItem (.ref a) u) Q E s:=by
 rcases g with g|⟨l,ks,b,⟨xs,e,el,hk⟩,ey,eb,l'⟩
 ·exact wG (by lia) I g ry h
 ·subst ey el
  cases(show u=Value.ref b from ry)
  obtain⟨z,hd,ys,rel,dd⟩:=rM I.hok e hk;obtain⟨w',hw,rw'⟩:=kQ.some_of (v:=v) (o:=(atKey ys ks).map (·.2)) (by rw[l'];exact rel.val ks);obtain⟨p,hp,hp2⟩:=gz.mp hw;refine zy (show A.units+1+6<cLine by lia) (nW I.hok eb) dd hp ?_;rw[hp2];exact h w' _ (I.tok _) rw'
def aY0{Q:Value->Shared->Prop}(hu:A.units+8<cLine)(I:aV X pins σ H s)(g:zK X.prog X.w H a y o)(ry:bF y u)(h:∀s',aV X pins σ H s'->Q (.bool (!o.isSome)) s') :
  wpAny (model X.prog X.w) A (compareOp .NotIn u (.ref a)) Q E s:=by
 rcases g with g|⟨l,ks,b,⟨xs,e,el,hk⟩,ey,eb,l'⟩
 ·exact bQ2 (by lia) I g ry h
 ·subst ey el
  cases(show u=Value.ref b from ry)
  obtain⟨z,hd,ys,rel,dd⟩:=rM I.hok e hk;refine wpAny_notIn_heap (show A.units+1+6<cLine by lia) (nW I.hok eb) hd dd ?_;have q:=(rel.val ks).isSome_eq;rw[pd] at q;rw[<-q, <-l'];exact h _ (I.tok _)
def bQ8{h':Heap}{t':Nat}{xs:List NE3}{ys:List (List RKey×Addr×Value)}{ks:List RKey}{b:Addr}(I:aV X pins σ H s)(e:H a=some (dN3 X.prog X.w a xs))(hk:∀x∈xs,pK H x.1 x.2.1)(eb:pK H ks b)(rv:bF v r)(z:xs.length<sizeLine)(hd:(a==sysModules)=false)(rel:KN3 xs ys)
  (dd:h'.DictOfH (lF X.prog X.w) a (storedH ys ks b r)) (hs:Heap.SameBut a s.heap h'):∃H',aV X pins σ H' { s with heap:=h',toks:=t' }/\DN3 X.prog X.w H' a (cH (lS xs) ks v)/\∀c,c≠a->H' c=H c:=by
 have hl:(fQ xs ks b v).length<=sizeLine:=by
  have:=iJ (lS xs) ks v;rw[<-pX xs ks b v,uM,uM] at this;lia
 have he:∃q,h'.get? a=some q:=let⟨q,_,_,hq,_⟩:=dd;⟨q,hq⟩
 have nt:∀c ys,H c=some (.tup ys)->aN H a (dN3 X.prog X.w a (fQ xs ks b v)) c=some (.tup ys):=fun c ys ec=>by
  rw[aH (gE ec e (fun z=>nomatch z))];exact ec
 refine⟨aN H a (dN3 X.prog X.w a (fQ xs ks b v)),rG I (by rw[e];exact ii) hs he (bJ0 hl hd (rel.put ks rv) dd),⟨_,aD,pX xs ks b v,fun x hx=>?_⟩,fun c hc=>aH hc⟩;rcases yQ hx with⟨e1,e2⟩|⟨y,hy,e1,e2⟩
 ·rw[e1,e2];exact eb.ts nt
 ·rw[e1,e2];exact(hk y hy).ts nt
def aM6{W:Hp->Prop}{Q:Unit->Shared->Prop}(hu:A.units+8<cLine)(I:aV X pins σ H s)(g:bW1 X.prog X.w H a y v W)(ry:bF y u)(rv:bF v r)(h:∀H' s',aV X pins σ H' s'->W H'->Q () s') :
  wpAny (model X.prog X.w) A (setItem (.ref a) u r) Q E s:=by
 rcases g with⟨H',g,q⟩|⟨l,ks,b,⟨xs,e,el,hk⟩,ey,eb,l',q⟩
 ·exact wQ (by lia) I g ry rv fun s' I'=>h _ _ I' q
 ·subst ey el
  cases(show u=Value.ref b from ry)
  obtain⟨z,hd,ys,rel,dd⟩:=rM I.hok (.inl e) hk;rw[uM] at l';refine zz (hsz:=by rw[<-jd rel];exact z) (show A.units+1+6<cLine by lia) (nW I.hok eb) dd fun h' dd' hs=>?_
  obtain⟨H',I',d',o'⟩:=bQ8 I e hk eb rv l' hd rel dd' hs;exact h _ _ I' (q H' d' o')
end
def bF7(P:Program)(w:World)(td ty:TE):TE:=fun σ H Q=>td σ H fun x H1=>ty σ H1 fun y H2=>∃a v,x= .ref a/\zK P w H2 a y (some v)/\Q v H2
def aD8(P:Program)(w:World)(ty td:TE):TE:=fun σ H Q=>ty σ H fun y H1=>td σ H1 fun x H2=>∃a o,x= .ref a/\zK P w H2 a y o/\Q (.bl (!o.isSome)) H2
def aY7(P:Program)(w:World)(td ty tv:TE):TS:=fun D σ H=>tv σ H fun v H1=>td σ H1 fun x H2=>ty σ H2 fun y H3=>∃a,x= .ref a/\bW1 P w H3 a y v fun H4=>D.nx σ H4
section
variable {X:Cx}{o i e value:Expr}{pos pos' tpos:Pos}{td ty tv:TE}{k:Nat}
def aX4(hr:dE k X.A)(ho:PE X o td)(hi:PE X i ty)(hs:bC7 i):PE X (.Subscript o i pos) (bF7 X.prog X.w td ty):=by
 intro pins s σ H Q I h;have hu:=hr.units;refine aN8 PySem.F.slot_dict_getitem.lookup hs (cW (ho pins s σ H _ I h) ?_);rintro u s1 ⟨x,H1,I1,rx,q1⟩;refine cW (hi pins s1 σ H1 _ I1 q1) ?_;rintro iv s2 ⟨y,H2,I2,ry,a,v,ex,g,q2⟩;subst ex;obtain rfl:u=Value.ref a:=rx;exact⟨aT8 I2 g,aI7 (by lia) I2 g ry fun w' s3 I3 rw'=>⟨v,H2,I3,rw',q2⟩⟩
def aH7(hr:dE k X.A)(hi:PE X i ty)(ho:PE X o td):PC X .NotIn i o (aD8 X.prog X.w ty td):=by
 intro pins s σ H Q I h;have hu:=hr.units;refine cW (hi pins s σ H _ I h) ?_;rintro iv s1 ⟨y,H1,I1,ry,q1⟩;refine cW (ho pins s1 σ H1 _ I1 q1) ?_;rintro u s2 ⟨x,H2,I2,rx,a,ov,ex,g,q2⟩
 subst ex;obtain rfl:u=Value.ref a:=rx;exact aY0 (by lia) I2 g ry fun s3 I3=>⟨.bl (!ov.isSome),H2,I3,rfl,q2⟩
def bG1(hr:dE k X.A)(ho:PE X o td)(hi:PE X i ty)(hv:PE X value tv)(hs:swapsWith value (some (.Subscript o i pos')) pos.line X.env=pure false) :
  PS X (.Assign [.Subscript o i pos'] value pos) (aY7 X.prog X.w td ty tv):=by
 intro pins s σ H D I h;have hu:=hr.units;refine xp (cW (hv pins s σ H _ I h) ?_) hs;rintro r s1 ⟨v,H1,I1,rv,q1⟩;refine cW (ho pins s1 σ H1 _ I1 q1) ?_;rintro u s2 ⟨x,H2,I2,rx,q2⟩;refine cW (hi pins s2 σ H2 _ I2 q2) ?_;rintro iv s3 ⟨y,H3,I3,ry,a,ex,g⟩;subst ex;obtain rfl:u=Value.ref a:=rx;exact aM6 (by lia) I3 g ry rv fun H4 s4 I4 q3=>⟨σ,H4,I4,q3⟩
end
end L2
namespace Mine
open PySem L2
inductive Tm where
 |num (p:Addr) (n:Int)
 |nam (p:Addr) (x:Str)
 |op (p:Addr) (s:Str) (a b:Tm)
def Tm.p:Tm->Addr
 |.num p _=>p
 |.nam p _=>p
 |.op p _ _ _=>p
def Tm.names:Tm->List Str
 |.num _ _=>[]
 |.nam _ x=>[x]
 |.op _ _ a b=>a.names++b.names
def Tm.size:Tm->Nat
 |.op _ _ a b=>1+a.size+b.size
 |_=>1
def Tm.deep:Tm->Nat
 |.op _ _ a b=>1+max a.deep b.deep
 |_=>1
def bS4:List Str:=["+","-","*","<","="]
def Tm.ok:Tm->Prop
 |.num _ n=>0<=n/\n<1000
 |.nam _ _=>True
 |.op _ s a b=>s∈bS4/\a.ok/\b.ok
def qO(H:Hp):Tm->Prop
 |.num p n=>H p=some (.tup [.str "num",.int n])
 |.nam p x=>H p=some (.tup [.str "name",.str x])
 |.op p s a b=>H p=some (.tup [.str "op",.str s,.ref a.p,.ref b.p])/\qO H a/\qO H b
def qO.ts{H H':Hp}(t:TS H H'):∀{a:Tm},qO H a->qO H' a
 |.num _ _,h=>t _ _ h
 |.nam _ _,h=>t _ _ h
 |.op _ _ _ _,⟨h,ha,hb⟩=>⟨t _ _ h,qO.ts t ha,qO.ts t hb⟩
def Tm.w:Tm->Str
 |.num _ _=>"num"
 |.nam _ _=>"name"
 |.op _ _ _ _=>"op"
def Tm.rest:Tm->List V
 |.num _ n=>[.int n]
 |.nam _ x=>[.str x]
 |.op _ s a b=>[.str s,.ref a.p,.ref b.p]
def qO.at{H:Hp}:∀{t:Tm},qO H t->H t.p=some (.tup (.str t.w::t.rest))
 |.num _ _,h=>h
 |.nam _ _,h=>h
 |.op _ _ _ _,h=>h.1
def Tm.size_pos:∀t:Tm,1<=t.size
 |.num _ _=>af _
 |.nam _ _=>af _
 |.op _ _ _ _=>by unfold Tm.size;lia
def Tm.pre:Tm->List Tm
 |.num p n=>[.num p n]
 |.nam p x=>[.nam p x]
 |.op p s a b=> .op p s a b::(a.pre++b.pre)
def Tm.pre_len:∀t:Tm,t.pre.length=t.size
 |.num _ _=>rfl
 |.nam _ _=>rfl
 |.op _ _ a b=>by simp only[Tm.pre,Tm.size,List.length_cons,List.length_append,Tm.pre_len a,Tm.pre_len b];lia
def qO.pre{H:Hp}:∀{t:Tm},qO H t->∀u∈t.pre,qO H u
 |.num _ _,h,u,hu=>by rw[av.mp hu];exact h
 |.nam _ _,h,u,hu=>by rw[av.mp hu];exact h
 |.op _ _ _ _,h,u,hu=>by
  rcases az.mp hu with e|e
  ·rw[e];exact h
  ·rcases br.mp e with e|e
   ·exact qO.pre h.2.1 u e
   ·exact qO.pre h.2.2 u e
def Tm.ok_pre:∀{t:Tm},t.ok->∀u∈t.pre,u.ok
 |.num _ _,h,u,hu=>by rw[av.mp hu];exact h
 |.nam _ _,h,u,hu=>by rw[av.mp hu];exact h
 |.op _ _ _ _,h,u,hu=>by
  rcases az.mp hu with e|e
  ·rw[e];exact h
  ·rcases br.mp e with e|e
   ·exact Tm.ok_pre h.2.1 u e
   ·exact Tm.ok_pre h.2.2 u e
def Tm.names_pre:∀{t:Tm},∀u∈t.pre,∀x∈u.names,x∈t.names
 |.num _ _,u,hu,x,hx=>by rw[av.mp hu] at hx;exact hx
 |.nam _ _,u,hu,x,hx=>by rw[av.mp hu] at hx;exact hx
 |.op _ _ _ _,u,hu,x,hx=>by
  rcases az.mp hu with e|e
  ·rw[e] at hx;exact hx
  ·rcases br.mp e with e|e
   ·exact dw _ (Tm.names_pre u e x hx)
   ·exact cg _ (Tm.names_pre u e x hx)
def wo(s:Str)(a b:Int):Int:=
 if s="<" then (if a<b then 1 else 0) else if s="=" then (if a=b then 1 else 0) else if s="+" then (a+b) % 1000000 else if s="-" then (a-b) % 1000000 else a*b % 1000000
def Tm.val(ev:Str->Int):Tm->Int
 |.num _ n=>n
 |.nam _ x=>ev x
 |.op _ s a b=>wo s (a.val ev) (b.val ev)
def bW2(s:Str)(a b:Int):0<=wo s a b/\wo s a b<1000000:=by
 unfold wo
 repeat' split
 all_goals first|lia|exact⟨gq _ (by decide),gu _ (by decide)⟩
def kW(ev:Str->Int)(t:Tm)(st:List Int):Option (List Int):=match t with
 |.num _ n=>some (n::st)
 |.nam _ x=>some (ev x::st)
 |.op _ s _ _=>match st with
  |a::b::r=>some (wo s a b::r)
  |_=>none
def run(ev:Str->Int):List Tm->List Int->Option (List Int)
 |[],st=>some st
 |t::r,st=>(kW ev t st).bind (run ev r)
def nO(ev:Str->Int):∀(xs ys:List Tm) (st:List Int),run ev (xs++ys) st=(run ev xs st).bind (run ev ys)
 |[],_,_=>rfl
 |t::r,ys,st=>by
  show(kW ev t st).bind (run ev (r++ys))=((kW ev t st).bind (run ev r)).bind (run ev ys)
  cases kW ev t st with
  |none=>rfl
  |some z=>exact nO ev r ys z
def rL(ev:Str->Int):∀(t:Tm) (st:List Int),run ev t.pre.reverse st=some (t.val ev::st)
 |.num _ _,_=>rfl
 |.nam _ _,_=>rfl
 |.op p s a b,st=>by
  show run ev (List.reverse (Tm.op p s a b::(a.pre++b.pre))) st=_;rw[ml,zt,nO,nO,rL ev b st];show((run ev a.pre.reverse (b.val ev::st)).bind (run ev [Tm.op p s a b]))=_;rw[rL ev a];rfl
def cB6(ev:Str->Int)(t:Tm){i:Nat}{u:Tm}{st:List Int}(hu:t.pre.reverse[i]?=some u)(h:run ev (t.pre.reverse.take i) []=some st):∃st',kW ev u st=some st'/\run ev (t.pre.reverse.take (i+1)) []=some st':=by
 have e:t.pre.reverse=t.pre.reverse.take i++(u::t.pre.reverse.drop (i+1)):=by
  have hi:=(bz.mp hu)
  rw[<-hi.2, <-ol,yg]
 have r:=rL ev t [];rw[e,nO,h] at r;have r:(kW ev u st).bind (run ev (t.pre.reverse.drop (i+1)))=some [t.val ev]:=r
 cases q:kW ev u st with
 |none=>rw[q] at r;cases r
 |some st' =>
  refine⟨st',rfl,?_⟩;rw[cX hu,nO,h];show(kW ev u st).bind (run ev [])=some st';rw[q];rfl
def bG2{ev:Str->Int}{u:Tm}{st st':List Int}(ok:u.ok)(he:∀x∈u.names,0<=ev x/\ev x<1000000)(h:∀n∈st,0<=n/\n<1000000)(e:kW ev u st=some st'):(∀n∈st',0<=n/\n<1000000)/\st'.length<=st.length+1:=by
 cases u with
 |num p n =>
  cases e
  refine⟨fun z hz=>?_,af _⟩;rcases az.mp hz with q|q
  ·have:=ok.1;have:=ok.2;lia
  ·exact h z q
 |nam p x =>
  cases e
  refine⟨fun z hz=>?_,af _⟩;rcases az.mp hz with q|q
  ·rw[q];exact he x (by simp[Tm.names])
  ·exact h z q
 |op p s a b =>
  unfold kW at e
  cases st with
  |nil=>cases e
  |cons x st =>
   cases st with
   |nil=>cases e
   |cons y r =>
    cases e
    refine⟨fun z hz=>?_,by simp only[List.length_cons];lia⟩;rcases az.mp hz with q|q
    ·rw[q];exact bW2 s x y
    ·exact h z (ae _ (ae _ q))
def xI{ev:Str->Int}:∀{t:Tm},t.ok->(∀x∈t.names,0<=ev x/\ev x<1000000)->0<=t.val ev/\t.val ev<1000000
 |.num _ n,h,_=>⟨h.1,by have:=h.2;show n<1000000;lia⟩
 |.nam _ x,_,h=>h x (by simp[Tm.names])
 |.op _ s a b,_,_=>bW2 s _ _
def Tm.deep_pos:∀t:Tm,1<=t.deep
 |.num _ _=>af _
 |.nam _ _=>af _
 |.op _ _ _ _=>by unfold Tm.deep;lia
def spParts:Sp:=fun vs H Q _=>∃t:Tm,vs=[.ref t.p]/\qO H t/\t.size<=900/\∀(r:Addr) (H':Hp),aR H H'->H r=none->H' r=some (.lst (t.pre.map fun u=>V.ref u.p))->Q (.ref r) H'
def spWo:Sp:=fun vs H Q _=>∃(s:Str) (a b:Int),vs=[.str s,.int a,.int b]/\s∈bS4/\0<=a/\a<1000000/\0<=b/\b<1000000/\Q (.int (wo s a b)) H
structure Dv(H:Hp)(vd:Addr)(ev:Str->Int)(ns:List Str):Prop where
 ex:∃kvs,H vd=some (.dK kvs)/\(∀x∈ns,dA kvs (Sum.inr x:Key)=some (.int (ev x)))/\∀q∈kvs,∃n,q.2=V.int n
 bd:∀x∈ns,0<=ev x/\ev x<1000000
def Dv.same{H H':Hp}{vd:Addr}{ev:Str->Int}{ns:List Str}(s:aR H H')(D:Dv H vd ev ns):Dv H' vd ev ns:=⟨let⟨k,a,b⟩:=D.ex;⟨k,s _ _ a,b⟩,D.bd⟩
def Dv.sub{H:Hp}{vd:Addr}{ev:Str->Int}{ns ms:List Str}(D:Dv H vd ev ns)(h:∀x∈ms,x∈ns):Dv H vd ev ms:=⟨let⟨k,a,b,c⟩:=D.ex;⟨k,a,fun x hx=>b x (h x hx),c⟩,fun x hx=>D.bd x (h x hx)⟩
def Dv.get{H:Hp}{vd:Addr}{ev:Str->Int}{ns:List Str}(D:Dv H vd ev ns){x:Str}(hx:x∈ns):eS H vd (.str x) (some (.int (ev x))):=by
 obtain⟨k,a,b,_⟩:=D.ex;rw[<-b x hx];exact eS.k (k:=Sum.inr x) a
def spVof:Sp:=fun vs H Q _=>∃(t:Tm) (vd:Addr) (ev:Str->Int),vs=[.ref t.p,.ref vd]/\qO H t/\t.ok/\t.size<=900/\Dv H vd ev t.names/\∀H',aR H H'->Q (.int (t.val ev)) H'
inductive Rw where
 |thr (p:Addr) (x:Str) (T:dY) (a3:V) (wss:List (List Int))
 |lt (p:Addr) (x:Str) (t:Tm)
 |tell (p:Addr) (t:Tm)
 |when (p pa pb:Addr) (t:Tm) (a b:List Rw)
 |times (p pb:Addr) (n:Nat) (b:List Rw)
def Rw.p:Rw->Addr
 |.thr p _ _ _ _=>p
 |.lt p _ _=>p
 |.tell p _=>p
 |.when p _ _ _ _ _=>p
 |.times p _ _ _=>p
def kH:Nat->List Rw->List Rw
 |0,_=>[]
 |n+1,b=>b++kH n b
mutual
def Rw.cost:Rw->Nat
 |.thr _ _ _ _ _=>1
 |.lt _ _ _=>1
 |.tell _ _=>1
 |.when _ _ _ _ a b=>1+(aP a+aP b)
 |.times _ _ n b=>1+n*aP b
def aP:List Rw->Nat
 |[]=>0
 |r::rs=>r.cost+aP rs
end
def cK:∀(rs qs:List Rw),aP (rs++qs)=aP rs+aP qs
 |[],qs=>by simp[aP]
 |r::rs,qs=>by simp only[List.cons_append,aP,cK rs qs];lia
def fW(b:List Rw):∀n:Nat,aP (kH n b)=n*aP b
 |0=>by simp[kH,aP]
 |n+1=>by rw[kH,cK,fW b n,mo];lia
def zM:∀r:Rw,1<=r.cost
 |.thr _ _ _ _ _=>by simp only[Rw.cost];lia
 |.lt _ _ _=>by simp only[Rw.cost];lia
 |.tell _ _=>by simp only[Rw.cost];lia
 |.when _ _ _ _ _ _=>by simp only[Rw.cost];lia
 |.times _ _ _ _=>by simp only[Rw.cost];lia
def oY(cs:List Int)(T:dY)(wss:List (List Int)):List (Int×Int×Int):=T.tab (cU wss cs T.lo T.hb)
abbrev Ev:=Str->Int
def cF(e:Ev)(x:Str)(v:Int):Ev:=fun y=>if y=x then v else e y
abbrev Lf:=List Int×Int×Int
def oO(cs:List Int):Nat->List Rw->Ev->List Int->Int×Int->List Lf
 |0,_,_,_,_=>[]
 |_+1,[],_,td,sh=>[(td,sh)]
 |n+1,.thr _ x T _ wss::rs,e,td,sh=>(oY cs T wss).reverse.flatMap fun z=>oO cs n rs (cF e x z.1) td (uO sh z.2)
 |n+1,.lt _ x t::rs,e,td,sh=>oO cs n rs (cF e x (t.val e)) td sh
 |n+1,.tell _ t::rs,e,td,sh=>oO cs n rs e (td++[t.val e]) sh
 |n+1,.when _ _ _ t a b::rs,e,td,sh=>oO cs n ((if t.val e=0 then b else a)++rs) e td sh
 |n+1,.times _ _ k b::rs,e,td,sh=>oO cs n (kH k b++rs) e td sh
def jC(cs:List Int):∀(n m:Nat) (rs:List Rw) (e:Ev) (td:List Int) (sh:Int×Int),aP rs<n->n<=m->oO cs n rs e td sh=oO cs m rs e td sh
 |0,_,_,_,_,_,h,_=>absurd h (sr _)
 |n+1,0,_,_,_,_,_,h=>absurd h (by lia)
 |n+1,m+1,[],e,td,sh,_,_=>by simp only[oO]
 |n+1,m+1,.thr _ x T _ wss::rs,e,td,sh,h,h2=>by
  simp only[aP,Rw.cost] at h;simp only[oO]
  congr 1
  funext z
  exact jC cs n m rs _ _ _ (by lia) (by lia)
 |n+1,m+1,.lt _ x t::rs,e,td,sh,h,h2=>by
  simp only[aP,Rw.cost] at h;simp only[oO];exact jC cs n m rs _ _ _ (by lia) (by lia)
 |n+1,m+1,.tell _ t::rs,e,td,sh,h,h2=>by
  simp only[aP,Rw.cost] at h;simp only[oO];exact jC cs n m rs _ _ _ (by lia) (by lia)
 |n+1,m+1,.when _ _ _ t a b::rs,e,td,sh,h,h2=>by
  simp only[aP,Rw.cost] at h;simp only[oO];exact jC cs n m _ _ _ _ (by rw[cK];split<;>lia) (by lia)
 |n+1,m+1,.times _ _ k b::rs,e,td,sh,h,h2=>by
  simp only[aP,Rw.cost] at h;simp only[oO];exact jC cs n m _ _ _ _ (by rw[cK,fW];lia) (by lia)
def LV(cs:List Int)(rs:List Rw)(e:Ev)(td:List Int)(sh:Int×Int):List Lf:=oO cs (aP rs+1) rs e td sh
section
variable {cs:List Int}{rs:List Rw}{e:Ev}{td:List Int}{sh:Int×Int}
def tI{n:Nat}(h:aP rs<n):oO cs n rs e td sh=LV cs rs e td sh:=(jC cs _ _ rs e td sh (dz _) h).symm
def cG8:LV cs [] e td sh=[(td,sh)]:=by simp only[LV,oO]
def bZ5{p:Addr}{x:Str}{T:dY}{a3:V}{wss:List (List Int)}:LV cs (.thr p x T a3 wss::rs) e td sh=(oY cs T wss).reverse.flatMap fun z=>LV cs rs (cF e x z.1) td (uO sh z.2):=by
 unfold LV;simp only[aP,Rw.cost,oO]
 congr 1
 funext z
 exact tI (by lia)
def cK1{p:Addr}{x:Str}{t:Tm}:LV cs (.lt p x t::rs) e td sh=LV cs rs (cF e x (t.val e)) td sh:=by
 conv=>lhs;unfold LV
 simp only[aP,Rw.cost,oO];exact tI (by lia)
def bL9{p:Addr}{t:Tm}:LV cs (.tell p t::rs) e td sh=LV cs rs e (td++[t.val e]) sh:=by
 conv=>lhs;unfold LV
 simp only[aP,Rw.cost,oO];exact tI (by lia)
def bR2{p pa pb:Addr}{t:Tm}{a b:List Rw}:LV cs (.when p pa pb t a b::rs) e td sh=LV cs ((if t.val e=0 then b else a)++rs) e td sh:=by
 conv=>lhs;unfold LV
 simp only[aP,Rw.cost,oO];exact tI (by rw[cK];split<;>lia)
def aX2{p pb:Addr}{k:Nat}{b:List Rw}:LV cs (.times p pb k b::rs) e td sh=LV cs (kH k b++rs) e td sh:=by
 conv=>lhs;unfold LV
 simp only[aP,Rw.cost,oO];exact tI (by rw[cK,fW];lia)
end
mutual
def okR(NM:List Str)(cs:List Int):Rw->Prop
 |.thr _ x T _ wss=>(T.Ok/\uY T wss cs)/\x∈NM
 |.lt _ x t=>(t.ok/\t.size<=12)/\x∈NM
 |.tell _ t=>t.ok/\t.size<=12
 |.when _ _ _ t a b=>(t.ok/\t.size<=12)/\pA NM cs a/\pA NM cs b
 |.times _ _ _ b=>pA NM cs b
def pA(NM:List Str)(cs:List Int):List Rw->Prop
 |[]=>True
 |r::rs=>okR NM cs r/\pA NM cs rs
end
def pA.app{NM:List Str}{cs:List Int}:∀{rs qs:List Rw},pA NM cs rs->pA NM cs qs->pA NM cs (rs++qs)
 |[],_,_,h=>h
 |_::_,_,⟨h,k⟩,h2=>⟨h,pA.app k h2⟩
def pA.rep{NM:List Str}{cs:List Int}{b:List Rw}(h:pA NM cs b):∀n:Nat,pA NM cs (kH n b)
 |0=>trivial
 |n+1=>h.app (pA.rep h n)
def szT(T:dY)(wss:List (List Int)):Nat:=match T with
 |.lad _ _ lo hi=>(hi+1-lo).toNat
 |.fla _ lo hi=>(hi+1-lo).toNat
 |.cho .. =>wss.length
 |.fst .. =>wss.length+1
mutual
def wR:Rw->Nat
 |.thr _ _ T _ wss=>szT T wss
 |.lt _ _ _=>1
 |.tell _ _=>1
 |.when _ _ _ _ a b=>wL a*wL b
 |.times _ _ n b=>wL b^n
def wL:List Rw->Nat
 |[]=>1
 |r::rs=>wR r*wL rs
end
def mI:∀(rs qs:List Rw),wL (rs++qs)=wL rs*wL qs
 |[],qs=>by simp[wL]
 |r::rs,qs=>by simp only[List.cons_append,wL,mI rs qs,Nat.mul_assoc]
def aL3(b:List Rw):∀n:Nat,wL (kH n b)=wL b^n
 |0=>by simp[kH,wL]
 |n+1=>by rw[kH,mI,aL3 b n,ot,mq]
def psm{a b:Int}(ha:1<=a)(hb:1<=b):1<=a*b:=dk ha hb
def cF9{cs:List Int}{T:dY}{wss:List (List Int)}(h:T.Ok):(T.cs (cU wss cs T.lo T.hb)).length=szT T wss:=by
 have l:(cU wss cs T.lo T.hb).length=wss.length:=by unfold cU;rw[ac]
 cases T with
 |lad p q lo hi =>
  show(cP p q lo hi _).length=_;rw[pR h.l.2.b];rfl
 |fla r lo hi =>
  show((aU lo (hi+1-lo).toNat).map _).length=_;rw[ac,bS];rfl
 |cho p q lo hi =>
  show(List.map _ _).length=_;rw[ac,l];rfl
 |fst pa qa pb qb mk lo hi =>
  show((aU 0 (_+1)).map _).length=_;rw[ac,bS,l];rfl
def rZ{b:Int}:∀{f:Int}{l:List Int}{z:Int×Int×Int},z∈iW b f l->∃c∈l,0<c/\z.2=aW c b/\f<=z.1/\z.1<f+l.length
 |_,[],z,h=>absurd h di
 |f,s::r,z,h=>by
  unfold iW at h
  by_cases c:0<s
  ·rw[ao c] at h;rcases az.mp h with rfl|h
   ·exact⟨s,aj,c,rfl,cw _,by show f<f+((r.length+1:Nat):Int);lia⟩
   ·obtain⟨c',h1,h2,h3,h4,h5⟩:=rZ h;exact⟨c',ae _ h1,h2,h3,by lia,by show z.1<f+((r.length+1:Nat):Int);lia⟩
  ·rw[ai c] at h;obtain⟨c',h1,h2,h3,h4,h5⟩:=rZ h;exact⟨c',ae _ h1,h2,h3,by lia,by show z.1<f+((r.length+1:Nat):Int);lia⟩
def aO9{b:Int}:∀{f:Int}{l:List Int},0<l.sum->iW b f l≠[]
 |_,[],h=>absurd h (by decide)
 |f,s::r,h=>by
  unfold iW
  by_cases c:0<s
  ·rw[ao c];exact List.cons_ne_nil _ _
  ·rw[ai c];rw[dm] at h;exact aO9 (by lia)
def rT:∀{l:List Int}{c:Int},(∀x∈l,0<=x)->c∈l->c<=l.sum
 |[],_,_,h=>absurd h di
 |s::r,c,nn,h=>by
  have n0:0<=s:=nn s aj;have n1:0<=r.sum:=by
   have:∀{l:List Int},(∀x∈l,0<=x)->0<=l.sum:=by
    intro l
    induction l with
    |nil=>intro _;decide
    |cons a l ih=>intro h;rw[dm];have:=h a aj;have:=ih fun x hx=>h x (ae _ hx);lia
   exact this fun x hx=>nn x (ae _ hx)
  rw[dm];rcases az.mp h with rfl|h
  ·lia
  ·have:=rT (fun x hx=>nn x (ae _ hx)) h;lia
def mT(cs:List Int)(T:dY)(wss:List (List Int)):Int:=if szT T wss=1 then 1 else T.W (cU wss cs T.lo T.hb)
section
variable {cs:List Int}{T:dY}{wss:List (List Int)}
structure cL2(cs:List Int)(T:dY)(wss:List (List Int)):Prop where
 ne:oY cs T wss≠[]
 le:(oY cs T wss).length<=szT T wss
 l10:szT T wss<=10
 m1:1<=mT cs T wss
 m2:szT T wss=1/\mT cs T wss=1\/2<=szT T wss/\mT cs T wss<2^170
 sh:∀z∈oY cs T wss,(0<=z.1/\z.1<=20)/\∃c,1<=c/\c<=mT cs T wss/\z.2=aW c (mT cs T wss)
def cP2(h:T.Ok):0<=T.f0/\T.f0<=9:=by
 cases T with
 |lad p q lo hi=>have e:=h.l.2;have:=e.a;have:=e.b;have:=e.c;exact⟨e.a,by show lo<=9;lia⟩
 |fla r lo hi=>have e:=h.l.2.2;have:=e.a;have:=e.b;have:=e.c;exact⟨e.a,by show lo<=9;lia⟩
 |cho p q lo hi=>exact⟨cw _,by show(0:Int)<=9;decide⟩
 |fst pa qa pb qb mk lo hi=>exact⟨cw _,by show(0:Int)<=9;decide⟩
def mQ(h:T.Ok)(a:uY T wss cs):cL2 cs T wss:=by
 have nm:=a.num h;obtain⟨s1,s2,s3,s4,s5⟩:=dY.sums h nm;have l:=cF9 (cs:=cs) (wss:=wss) h;have ne:oY cs T wss≠[]:=aO9 (by rw[s1];lia);have le:(oY cs T wss).length<=szT T wss:=by
  have:=zF (T.W (cU wss cs T.lo T.hb)) T.f0 (T.cs (cU wss cs T.lo T.hb));rw[l] at this;exact this
 have p1:1<=szT T wss:=ay (qe.mpr fun z=>ne (ik z)) le;rw[l] at s5;have fb:=cP2 h;have key:∀z∈oY cs T wss,(0<=z.1/\z.1<=20)/\∃c∈T.cs (cU wss cs T.lo T.hb),0<c/\z.2=aW c (T.W (cU wss cs T.lo T.hb)):=by
  intro z hz;obtain⟨c,h1,h2,h3,h4,h5⟩:=rZ hz;rw[l] at h5;exact⟨⟨by lia,by lia⟩,c,h1,h2,h3⟩
 by_cases q:szT T wss=1
 ·have em:mT cs T wss=1:=by unfold mT;rw[ao q]
  refine⟨ne,le,by lia,by rw[em];decide,.inl ⟨q,em⟩,fun z hz=>?_⟩;obtain⟨hb,c,h1,h2,h3⟩:=key z hz;refine⟨hb,1,cw _,by rw[em];decide,?_⟩;have ec:c=T.W (cU wss cs T.lo T.hb):=by
   have l1:(T.cs (cU wss cs T.lo T.hb)).length=1:=l.trans q;obtain⟨x,ex⟩:=dY.one_num l1;rw[ex] at h1 s1;rw[av.mp h1, <-s1];simp
  rw[h3,ec,em,aC6 s3]
  decide
 ·have em:mT cs T wss=T.W (cU wss cs T.lo T.hb):=by unfold mT;rw[ai q]
  refine⟨ne,le,by lia,by rw[em];exact s3,.inr ⟨by lia,by rw[em];exact s4⟩,fun z hz=>?_⟩;obtain⟨hb,c,h1,h2,h3⟩:=key z hz;refine⟨hb,c,h2,?_,by rw[em];exact h3⟩;rw[em, <-s1];exact rT s2 h1
end
mutual
def mR(cs:List Int):Rw->Int
 |.thr _ _ T _ wss=>mT cs T wss
 |.lt _ _ _=>1
 |.tell _ _=>1
 |.when _ _ _ _ a b=>mL cs a*mL cs b
 |.times _ _ n b=>mL cs b^n
def mL(cs:List Int):List Rw->Int
 |[]=>1
 |r::rs=>mR cs r*mL cs rs
end
def pJ(cs:List Int):∀(rs qs:List Rw),mL cs (rs++qs)=mL cs rs*mL cs qs
 |[],qs=>by simp[mL]
 |r::rs,qs=>by simp only[List.cons_append,mL,pJ cs rs qs,Int.mul_assoc]
def aL0(cs:List Int)(b:List Rw):∀n:Nat,mL cs (kH n b)=mL cs b^n
 |0=>by simp[kH,mL]
 |n+1=>by rw[kH,pJ,aL0 cs b n,ge,sq]
def yO(m:Int)(w:Nat):Prop:=1<=m/\∃k:Nat,m<=2^(170*k)/\2^k<=w
def yO.one:yO 1 1:=⟨cw _,0,by decide,by decide⟩
def yO.mul{m m':Int}{w w':Nat}(h:yO m w)(h':yO m' w'):yO (m*m') (w*w'):=by
 obtain⟨a,k,b,c⟩:=h;obtain⟨a',k',b',c'⟩:=h';refine⟨psm a a',k+k',?_,?_⟩
 ·rw[qf,qd];exact ow b b' (by lia) (by have:(0:Int)<2^(170*k):=gh (by decide);lia)
 ·rw[Nat.pow_add];exact dy c c'
def yO.pow{m:Int}{w:Nat}(h:yO m w):∀n:Nat,yO (m^n) (w^n)
 |0=>by rw[wc,Nat.pow_zero];exact yO.one
 |n+1=>by rw[ge,ot];exact(h.pow n).mul h
mutual
def lgR{NM:List Str}{cs:List Int}:∀r:Rw,okR NM cs r->yO (mR cs r) (wR r)
 |.thr _ _ T _ wss,h=>by
  have o:=mQ h.1.1 h.1.2;refine⟨o.m1,?_⟩;rcases o.m2 with⟨a,b⟩|⟨a,b⟩
  ·exact⟨0,by show mT cs T wss<=_;rw[b];decide,by show _<=szT T wss;rw[a];decide⟩
  ·exact⟨1,jw b,a⟩
 |.lt _ _ _,_=>yO.one
 |.tell _ _,_=>yO.one
 |.when _ _ _ _ a b,h=>(yX a h.2.1).mul (yX b h.2.2)
 |.times _ _ n b,h=>(yX b h).pow n
def yX{NM:List Str}{cs:List Int}:∀rs:List Rw,pA NM cs rs->yO (mL cs rs) (wL rs)
 |[],_=>yO.one
 |r::rs,h=>(lgR r h.1).mul (yX rs h.2)
end
def yO.bd{m:Int}{w:Nat}(h:yO m w)(hw:w<=40):1<=m/\m<=2^850:=by
 obtain⟨a,k,b,c⟩:=h;refine⟨a,bm b ?_⟩;have k4:k<=5:=by
  rcases aAk 5 k with z|z
  ·have:2^6<=2^k:=jm (by decide) z;lia
  ·exact z
 have:(2:Nat)^(170*k)<=2^850:=jm (by decide) (by lia)
 exact_mod_cast this
def yO.w1{m:Int}{w:Nat}(h:yO m w):1<=w:=by
 obtain⟨_,k,_,c⟩:=h;have:0<2^k:=qg (by decide);lia
def ShM(N:Int)(u:Int×Int):Prop:=1<=N/\∃c,1<=c/\c<=N/\u=aW c N
def ShM.mul{N m:Int}{u y:Int×Int}(h:ShM N u)(h':ShM m y):ShM (N*m) (uO u y):=by
 obtain⟨a,c,c1,c2,rfl⟩:=h;obtain⟨a',d,d1,d2,rfl⟩:=h';exact⟨psm a a',c*d,psm c1 d1,ow c2 d2 (by lia) (by lia),qX (by lia) a (by lia) a'⟩
def ShM.dv{N M:Int}{u:Int×Int}(h:ShM N u)(hM:1<=M)(d:N ∣ M):ShM M u:=by
 obtain⟨a,c,c1,c2,rfl⟩:=h;obtain⟨k,rfl⟩:=d;have k1:1<=k:=by
  rcases Int.lt_or_le 0 k with z|z
  ·exact z
  ·have:=Int.mul_nonpos_of_nonneg_of_nonpos (show 0<=N by lia) z;lia
 exact⟨hM,c*k,psm c1 k1,cu c2 (by lia),iM (by lia) a (by have:=psm c1 k1;lia) hM (by grind)⟩
mutual
def aH3:Rw->List Str->List Str
 |.thr _ x _ _ _,D=>x::D
 |.lt _ x _,D=>x::D
 |.tell _ _,D=>D
 |.when _ _ _ _ a b,D=>(mV a D).filter fun x=>decide (x∈mV b D)
 |.times _ _ _ b,D=>mV b D
def mV:List Rw->List Str->List Str
 |[],D=>D
 |r::rs,D=>mV rs (aH3 r D)
end
mutual
def knR:Rw->List Str->Prop
 |.thr _ _ _ _ _,_=>True
 |.lt _ _ t,D=>∀x∈t.names,x∈D
 |.tell _ t,D=>∀x∈t.names,x∈D
 |.when _ _ _ t a b,D=>(∀x∈t.names,x∈D)/\knL a D/\knL b D
 |.times _ _ n b,D=>(1<=n/\n<=100)/\knL b D
def knL:List Rw->List Str->Prop
 |[],_=>True
 |r::rs,D=>knR r D/\knL rs (aH3 r D)
end
abbrev kJ(D D':List Str):Prop:=∀x∈D,x∈D'
mutual
def cI5:∀(r:Rw) (D:List Str),kJ D (aH3 r D)
 |.thr _ x _ _ _,D=>fun y h=>ae _ h
 |.lt _ x _,D=>fun y h=>ae _ h
 |.tell _ _,D=>fun y h=>h
 |.when _ _ _ _ a b,D=>fun y h=>dr.mpr ⟨lL a D y h,ap (lL b D y h)⟩
 |.times _ _ _ b,D=>lL b D
def lL:∀(rs:List Rw) (D:List Str),kJ D (mV rs D)
 |[],D=>fun y h=>h
 |r::rs,D=>fun y h=>lL rs _ y (cI5 r D y h)
end
mutual
def aC1:∀(r:Rw) {D D':List Str},kJ D D'->kJ (aH3 r D) (aH3 r D')
 |.thr _ x _ _ _,D,D',s=>fun y h=>by
  rcases az.mp h with e|h
  ·rw[e];exact aj
  ·exact ae _ (s y h)
 |.lt _ x _,D,D',s=>fun y h=>by
  rcases az.mp h with e|h
  ·rw[e];exact aj
  ·exact ae _ (s y h)
 |.tell _ _,D,D',s=>s
 |.when _ _ _ _ a b,D,D',s=>fun y h=>by
  obtain⟨h1,h2⟩:=dr.mp h;exact dr.mpr ⟨jH a s y h1,ap (jH b s y (ar h2))⟩
 |.times _ _ _ b,D,D',s=>jH b s
def jH:∀(rs:List Rw) {D D':List Str},kJ D D'->kJ (mV rs D) (mV rs D')
 |[],D,D',s=>s
 |r::rs,D,D',s=>jH rs (aC1 r s)
end
mutual
def bM2:∀(r:Rw) {D D':List Str},kJ D D'->knR r D->knR r D'
 |.thr _ x _ _ _,_,_,_,_=>trivial
 |.lt _ x t,_,_,s,h=>fun y hy=>s y (h y hy)
 |.tell _ t,_,_,s,h=>fun y hy=>s y (h y hy)
 |.when _ _ _ t a b,_,_,s,h=>⟨fun y hy=>s y (h.1 y hy),fO a s h.2.1,fO b s h.2.2⟩
 |.times _ _ _ b,_,_,s,h=>⟨h.1,fO b s h.2⟩
def fO:∀(rs:List Rw) {D D':List Str},kJ D D'->knL rs D->knL rs D'
 |[],_,_,_,_=>trivial
 |r::rs,_,_,s,h=>⟨bM2 r s h.1,fO rs (aC1 r s) h.2⟩
end
def tK:∀(rs qs:List Rw) (D:List Str),mV (rs++qs) D=mV qs (mV rs D)
 |[],_,_=>rfl
 |r::rs,qs,D=>tK rs qs (aH3 r D)
def nU:∀{rs qs:List Rw}{D:List Str},knL rs D->knL qs (mV rs D)->knL (rs++qs) D
 |[],_,_,_,h=>h
 |r::rs,qs,D,h,k=>⟨h.1,nU h.2 k⟩
def aR3{b:List Rw}:∀{n:Nat}{D:List Str},knL b D->knL (kH n b) D
 |0,_,_=>trivial
 |n+1,D,h=>nU h (aR3 (fO b (lL b D) h))
def bG0{b:List Rw}{n:Nat}{D:List Str}(h:1<=n):kJ (mV b D) (mV (kH n b) D):=by
 cases n with
 |zero=>exact absurd h (by decide)
 |succ n=>intro y hy;rw[kH,tK];exact lL _ _ y hy
mutual
def sV:Rw->Nat
 |.thr _ _ _ _ _=>0
 |.lt _ _ _=>0
 |.tell _ _=>1
 |.when _ _ _ _ a b=>max (eI a) (eI b)
 |.times _ _ n b=>n*eI b
def eI:List Rw->Nat
 |[]=>0
 |r::rs=>sV r+eI rs
end
def kP:∀(rs qs:List Rw),eI (rs++qs)=eI rs+eI qs
 |[],qs=>by simp[eI]
 |r::rs,qs=>by simp only[List.cons_append,eI,kP rs qs];lia
def zU(b:List Rw):∀n:Nat,eI (kH n b)=n*eI b
 |0=>by simp[kH,eI]
 |n+1=>by rw[kH,kP,zU b n,mo];lia
structure Rn where
 rs:List Rw
 e:Ev
 td:List Int
 sh:Int×Int
def Rn.lv(cs:List Int)(r:Rn):List Lf:=LV cs r.rs r.e r.td r.sh
structure Gd(NM:List Str)(cs:List Int)(M:Int)(D:List Str)(r:Rn):Prop where
 ok:pA NM cs r.rs
 kn:knL r.rs D
 bd:∀x∈D,0<=r.e x/\r.e x<1000000
 tl:r.td.length+eI r.rs<=4
 tb:∀n∈r.td,0<=n/\n<1000000
 sh:∃N,ShM N r.sh/\N*mL cs r.rs ∣ M
structure Nx(cs:List Int)(r r':Rn):Prop where
 lv:r.lv cs=r'.lv cs
 co:aP r'.rs<=aP r.rs
 w:wL r'.rs<=wL r.rs
 s:r'.sh=r.sh
def Nx.rfl'{cs:List Int}{r:Rn}:Nx cs r r:=⟨rfl,af _,af _,rfl⟩
def Nx.tr{cs:List Int}{a b c:Rn}(h:Nx cs a b)(k:Nx cs b c):Nx cs a c:=⟨h.lv.trans k.lv,ay k.co h.co,ay k.w h.w,k.s.trans h.s⟩
section
variable {NM:List Str}{cs:List Int}{M:Int}{D:List Str}{rs:List Rw}{e:Ev}{td:List Int}{sh:Int×Int}
def bK2{x:Str}{v:Int}(h:∀x∈D,0<=e x/\e x<1000000)(hv:0<=v/\v<1000000):∀y∈x::D,0<=cF e x v y/\cF e x v y<1000000:=by
 intro y hy;unfold cF
 by_cases c:y=x
 ·rw[ao c];exact hv
 ·rw[ai c];rcases az.mp hy with z|z
  ·exact absurd z c
  ·exact h y z
def bY9{N a b:Int}(h:N*(a*b) ∣ M):N*b ∣ M:=zm ⟨a,by grind⟩ h
def aO3{p:Addr}{x:Str}{t:Tm}(g:Gd NM cs M D ⟨.lt p x t::rs,e,td,sh⟩):Gd NM cs M (x::D) ⟨rs,cF e x (t.val e),td,sh⟩/\Nx cs ⟨.lt p x t::rs,e,td,sh⟩ ⟨rs,cF e x (t.val e),td,sh⟩/\aP rs<aP (.lt p x t::rs):=by
 have hv:=xI g.ok.1.1.1 fun y hy=>g.bd y (g.kn.1 y hy)
 have tl:=g.tl;simp only[eI,sV] at tl;refine⟨⟨g.ok.2,g.kn.2,bK2 g.bd hv,by show td.length+eI rs<=4;lia,g.tb,?_⟩,⟨cK1,?_,?_,rfl⟩,?_⟩
 ·obtain⟨N,a,b⟩:=g.sh;exact⟨N,a,by have b:N*(1*mL cs rs) ∣ M:=b;rw[ib] at b;exact b⟩
 ·simp only[aP,Rw.cost];lia
 ·simp only[wL,wR];lia
 ·simp only[aP,Rw.cost];lia
def wY{p:Addr}{t:Tm}(g:Gd NM cs M D ⟨.tell p t::rs,e,td,sh⟩):Gd NM cs M D ⟨rs,e,td++[t.val e],sh⟩/\Nx cs ⟨.tell p t::rs,e,td,sh⟩ ⟨rs,e,td++[t.val e],sh⟩/\aP rs<aP (.tell p t::rs):=by
 have hv:=xI g.ok.1.1 fun y hy=>g.bd y (g.kn.1 y hy)
 have tl:=g.tl;simp only[eI,sV] at tl;refine⟨⟨g.ok.2,g.kn.2,g.bd,by show(td++[t.val e]).length+eI rs<=4;rw[bg,qu];lia,?_,?_⟩,⟨bL9,?_,?_,rfl⟩,?_⟩
 ·intro n hn;rcases br.mp hn with z|z
  ·exact g.tb n z
  ·rw[av.mp z];exact hv
 ·obtain⟨N,a,b⟩:=g.sh;exact⟨N,a,by have b:N*(1*mL cs rs) ∣ M:=b;rw[ib] at b;exact b⟩
 ·simp only[aP,Rw.cost];lia
 ·simp only[wL,wR];lia
 ·simp only[aP,Rw.cost];lia
def xH{p pa pb:Addr}{t:Tm}{a b:List Rw}{rs':List Rw}(g:Gd NM cs M D ⟨.when p pa pb t a b::rs,e,td,sh⟩)(er:rs'=if t.val e=0 then b else a) :
  Gd NM cs M D ⟨rs'++rs,e,td,sh⟩/\Nx cs ⟨.when p pa pb t a b::rs,e,td,sh⟩ ⟨rs'++rs,e,td,sh⟩/\aP (rs'++rs)<aP (.when p pa pb t a b::rs):=by
 have tl:=g.tl;simp only[eI,sV] at tl;have ok:=g.ok;have la:=yX a ok.1.2.1;have lb:=yX b ok.1.2.2;have wa:=la.w1;have wb:=lb.w1;have kn:=g.kn;have lv:LV cs (.when p pa pb t a b::rs) e td sh=LV cs (rs'++rs) e td sh:=by rw[bR2,er]
 obtain⟨N,h1,h2⟩:=g.sh;have h2:N*(mL cs a*mL cs b*mL cs rs) ∣ M:=h2;have key:pA NM cs rs'/\knL rs' D/\kJ (aH3 (.when p pa pb t a b) D) (mV rs' D)/\eI rs'<=max (eI a) (eI b)/\aP rs'<=aP a+aP b/\wL rs'<=wL a*wL b/\N*(mL cs rs'*mL cs rs) ∣ M:=by
  by_cases c:t.val e=0
  ·rw[ao c] at er;subst er;exact⟨ok.1.2.2,kn.1.2.2,fun y hy=>ar (dr.mp hy).2,by lia,by lia,qh _ wa,bY9 (a:=mL cs a) (by rw[<-qk (mL cs a)];exact h2)⟩
  ·rw[ai c] at er;subst er;exact⟨ok.1.2.1,kn.1.2.1,fun y hy=>(dr.mp hy).1,by lia,by lia,lq _ wb,zm ⟨mL cs b,by grind⟩ h2⟩
 obtain⟨k1,k2,k3,k4,k5,k6,k7⟩:=key;refine⟨⟨k1.app ok.2,nU k2 (fO rs k3 kn.2),g.bd,by show td.length+eI (rs'++rs)<=4;rw[kP];lia,g.tb,N,h1,by show N*mL cs (rs'++rs) ∣ M;rw[pJ];exact k7⟩,⟨lv,?_,?_,rfl⟩,?_⟩
 ·simp only[cK,aP,Rw.cost];lia
 ·show wL (rs'++rs)<=wL a*wL b*wL rs;rw[mI];exact dy k6 (af _)
 ·simp only[cK,aP,Rw.cost];lia
def rV{p pb:Addr}{n:Nat}{b:List Rw}(g:Gd NM cs M D ⟨.times p pb n b::rs,e,td,sh⟩) :
  Gd NM cs M D ⟨kH n b++rs,e,td,sh⟩/\Nx cs ⟨.times p pb n b::rs,e,td,sh⟩ ⟨kH n b++rs,e,td,sh⟩/\aP (kH n b++rs)<aP (.times p pb n b::rs):=by
 have tl:=g.tl;simp only[eI,sV] at tl;have ok:=g.ok;have kn:=g.kn;obtain⟨N,h1,h2⟩:=g.sh;have h2:N*(mL cs b^n*mL cs rs) ∣ M:=h2;refine⟨⟨(pA.rep ok.1 n).app ok.2,nU (aR3 kn.1.2) (fO rs (bG0 kn.1.1.1) kn.2),g.bd,by show td.length+eI (kH n b++rs)<=4;rw[kP,zU];lia,g.tb,N,h1,by show N*mL cs (kH n b++rs) ∣ M;rw[pJ,aL0];exact h2⟩,⟨aX2,?_,?_,rfl⟩,?_⟩
 ·simp only[cK,fW,aP,Rw.cost];lia
 ·show wL (kH n b++rs)<=wL b^n*wL rs;rw[mI,aL3];exact af _
 ·simp only[cK,fW,aP,Rw.cost];lia
def sL(cs:List Int)(x:Str)(T:dY)(wss:List (List Int))(r:Rn):List Rn:=(oY cs T wss).map fun z=>⟨r.rs,cF r.e x z.1,r.td,uO r.sh z.2⟩
def zY{p:Addr}{x:Str}{T:dY}{a3:V}{wss:List (List Int)}(g:Gd NM cs M D ⟨.thr p x T a3 wss::rs,e,td,sh⟩) :
  (∀r∈sL cs x T wss ⟨rs,e,td,sh⟩,Gd NM cs M (x::D) r/\r.rs=rs)/\(sL cs x T wss ⟨rs,e,td,sh⟩).length<=10/\((sL cs x T wss ⟨rs,e,td,sh⟩).map fun r=>wL r.rs).sum<=wL (.thr p x T a3 wss::rs) /\
  LV cs (.thr p x T a3 wss::rs) e td sh=(sL cs x T wss ⟨rs,e,td,sh⟩).reverse.flatMap (Rn.lv cs):=by
 have ok:=g.ok;have o:=mQ ok.1.1.1 ok.1.1.2;have tl:=g.tl;simp only[eI,sV] at tl;obtain⟨N,h1,h2⟩:=g.sh;have h2:N*(mT cs T wss*mL cs rs) ∣ M:=h2;refine⟨fun r hr=>?_,?_,?_,?_⟩
 ·obtain⟨z,hz,rfl⟩:=ci.mp hr;obtain⟨zb,c,c1,c2,c3⟩:=o.sh z hz;exact⟨⟨ok.2,g.kn.2,bK2 g.bd ⟨zb.1,by lia⟩,by show td.length+eI rs<=4;lia,g.tb,N*mT cs T wss,h1.mul ⟨o.m1,c,c1,c2,c3⟩,by show N*mT cs T wss*mL cs rs ∣ M;rw[qk];exact h2⟩,rfl⟩
 ·unfold sL;rw[ac];exact ay o.le o.l10
 ·have:∀l:List (Int×Int×Int),((l.map fun z=>(⟨rs,cF e x z.1,td,uO sh z.2⟩:Rn)).map fun r=>wL r.rs).sum=l.length*wL rs:=by
   intro l
   induction l with
   |nil=>simp
   |cons a l ih=>simp only[List.map_cons,List.sum_cons,ih,List.length_cons,Nat.succ_mul];lia
  unfold sL;rw[this];exact dy o.le (af _)
 ·rw[bZ5];unfold sL;rw[<-wj,List.flatMap_map];rfl
end
def uS(H:Hp)(r:Addr)(x:Str)(T:dY)(a3:V):Prop:=match T with
 |.lad p q lo hi=>∃st,aS7 H r "ladder" x a3 (.ref st) lo hi/\aY H st p q
 |.fla rr lo hi=>aS7 H r "flat" x a3 (.int rr) lo hi
 |.cho p q lo hi=>∃st,aS7 H r "choose" x a3 (.ref st) lo hi/\aY H st p q
 |.fst pa qa pb qb mk lo hi=>∃sa sb sm,a3= .ref sm/\cH3 H r x mk sa sb sm lo hi/\aY H sa pa qa/\aY H sb pb qb
def uS.t{H:Hp}{r:Addr}{x:Str}{a3:V}:∀{T:dY},uS H r x T a3->aB3 H r T a3
 |.lad ..,⟨st,h,k⟩=>⟨x,st,h,k⟩
 |.fla ..,h=>⟨x,h⟩
 |.cho ..,⟨st,h,k⟩=>⟨x,st,h,k⟩
 |.fst ..,⟨sa,sb,sm,h⟩=>⟨x,sa,sb,sm,h⟩
def uS.ts{H H':Hp}(t:TS H H'){r:Addr}{x:Str}{a3:V}:∀{T:dY},uS H r x T a3->uS H' r x T a3
 |.lad ..,⟨st,h,k⟩=>⟨st,t _ _ h,t _ _ k⟩
 |.fla ..,h=>t _ _ h
 |.cho ..,⟨st,h,k⟩=>⟨st,t _ _ h,t _ _ k⟩
 |.fst ..,⟨sa,sb,sm,e,h,k,l⟩=>⟨sa,sb,sm,e,t _ _ h,t _ _ k,t _ _ l⟩
def uS.at{H:Hp}{r:Addr}{x:Str}{a3:V}:∀{T:dY},uS H r x T a3->∃us,H r=some (.tup (.str T.wd :: .str x::us))
 |.lad ..,⟨st,h,k⟩=>⟨_,h⟩
 |.fla ..,h=>⟨_,h⟩
 |.cho ..,⟨st,h,k⟩=>⟨_,h⟩
 |.fst ..,⟨sa,sb,sm,e,h,k,l⟩=>⟨_,h⟩
def bK(rs:List Rw):List V:=rs.map fun r=> .ref r.p
mutual
def vN(H:Hp):Rw->Prop
 |.thr p x T a3 wss=>uS H p x T a3/\sH H T.one a3 wss
 |.lt p x t=>H p=some (.tup [.str "let",.str x,.ref t.p])/\qO H t
 |.tell p t=>H p=some (.tup [.str "tell",.ref t.p])/\qO H t
 |.when p pa pb t a b=>H p=some (.tup [.str "when",.ref t.p,.ref pa,.ref pb])/\qO H t/\H pa=some (.tup (bK a))/\H pb=some (.tup (bK b))/\bO H a/\bO H b
 |.times p pb n b=>H p=some (.tup [.str "times",.int n,.ref pb])/\H pb=some (.tup (bK b))/\bO H b
def bO(H:Hp):List Rw->Prop
 |[]=>True
 |r::rs=>vN H r/\bO H rs
end
mutual
def vN.ts{H H':Hp}(t:TS H H'):∀(r:Rw),vN H r->vN H' r
 |.thr _ _ _ _ _,⟨h,k⟩=>⟨h.ts t,k.ts t⟩
 |.lt _ _ _,⟨h,k⟩=>⟨t _ _ h,k.ts t⟩
 |.tell _ _,⟨h,k⟩=>⟨t _ _ h,k.ts t⟩
 |.when _ _ _ _ a b,⟨h,k,ha,hb,ra,rb⟩=>⟨t _ _ h,k.ts t,t _ _ ha,t _ _ hb,bO.ts t a ra,bO.ts t b rb⟩
 |.times _ _ _ b,⟨h,hb,rb⟩=>⟨t _ _ h,t _ _ hb,bO.ts t b rb⟩
def bO.ts{H H':Hp}(t:TS H H'):∀(rs:List Rw),bO H rs->bO H' rs
 |[],_=>trivial
 |r::rs,⟨h,k⟩=>⟨vN.ts t r h,bO.ts t rs k⟩
end
def bO.app{H:Hp}:∀{rs qs:List Rw},bO H rs->bO H qs->bO H (rs++qs)
 |[],_,_,h=>h
 |_::_,_,⟨h,k⟩,h2=>⟨h,bO.app k h2⟩
def bO.rep{H:Hp}{b:List Rw}(h:bO H b):∀n:Nat,bO H (kH n b)
 |0=>trivial
 |n+1=>bO.app h (bO.rep h n)
def mZ(ns:List Int):List NKey:=ns.map fun n=> .inl (.inl n)
def aW2(ws:List Int):NKey:= .inr (ws.map fun n=> .inl n)
def kN(n:Int):RKey:= .inl (.inl n)
def kS(s:Str):RKey:= .inl (.inr s)
def fH(x:Str)(T:dY)(wss:List (List Int)):List RKey:=match T with
 |.lad p q lo hi=>[kS "ladder",kS x,.inr (mZ (wss.headD [])),.inr (mZ [p,q]),kN lo,kN hi]
 |.fla r lo hi=>[kS "flat",kS x,.inr (mZ (wss.headD [])),kN r,kN lo,kN hi]
 |.cho p q lo hi=>[kS "choose",kS x,.inr (wss.map aW2),.inr (mZ [p,q]),kN lo,kN hi]
 |.fst pa qa pb qb mk lo hi=>[kS "first",kS x,kN mk,.inr (mZ [pa,qa]),.inr (mZ [pb,qb]),.inr (wss.map aW2),kN lo,kN hi]
def uC{a b:List Int}(h:mZ a=mZ b):a=b:=by
 induction a generalizing b with
 |nil=>cases b with|nil=>rfl|cons _ _=>cases h
 |cons x a ih =>
  cases b with
  |nil=>cases h
  |cons y b =>
   have h1:(Sum.inl (Sum.inl x):NKey)::mZ a=Sum.inl (Sum.inl y)::mZ b:=h;injection h1 with e1 e2
   rw[ih e2,ny (ny e1)]
def aG6{a b:List Int}(h:(a.map fun n=>(Sum.inl n:Key))=b.map fun n=> .inl n):a=b:=by
 induction a generalizing b with
 |nil=>cases b with|nil=>rfl|cons _ _=>cases h
 |cons x a ih =>
  cases b with
  |nil=>cases h
  |cons y b =>
   simp only[List.map_cons] at h;injection h with e1 e2
   rw[ih e2,ny e1]
def aA9{a b:List (List Int)}(h:a.map aW2=b.map aW2):a=b:=by
 induction a generalizing b with
 |nil=>cases b with|nil=>rfl|cons _ _=>cases h
 |cons x a ih =>
  cases b with
  |nil=>cases h
  |cons y b =>
   simp only[List.map_cons] at h;injection h with e1 e2
   rw[ih e2,aG6 (cy e1)]
def iX{a b:Int}(h:kN a=kN b):a=b:=ny (ny h)
def rK{a b c d:Int}(h:mZ [a,b]=mZ [c,d]):a=c/\b=d:=by
 have:=uC h;injection this with e1 e2
 injection e2 with e2 _
 exact⟨e1,e2⟩
def aB0{a b:List (List Int)}(la:a.length=1)(lb:b.length=1)(h:a.headD []=b.headD []):a=b:=by
 match a,la,b,lb,h with
 |[x],_,[y],_,h=>rw[show x=y from h]
def cE7{x x':Str}{T T':dY}{wss wss':List (List Int)}(h:fH x T wss=fH x' T' wss'):T.wd=T'.wd:=by
 have e:∀(y:Str) (U:dY) (vss:List (List Int)),(fH y U vss).head?=some (kS U.wd):=fun y U vss=>by cases U<;>rfl
 have z:=e x T wss;rw[h,e] at z;exact(cy (ny (cq z))).symm
def aW9{x x':Str}{T T':dY}{wss wss':List (List Int)}(o:T.one=true->wss.length=1)(o':T'.one=true->wss'.length=1)(h:fH x T wss=fH x' T' wss'):T=T'/\wss=wss':=by
 have w:=cE7 h
 cases T with
 |lad p q lo hi =>
  cases T' with
  |lad p' q' lo' hi' =>
   unfold fH at h;injection h with _ h;injection h with _ h;injection h with h1 h;injection h with h2 h;injection h with h3 h;injection h with h4 _
   obtain⟨rfl,rfl⟩:=rK (cy h2);rw[iX h3,iX h4,aB0 (o rfl) (o' rfl) (uC (cy h1))];exact⟨rfl,rfl⟩
  |fla r' lo' hi'=>exact absurd w (by dsimp only[dY.wd];decide)
  |cho p' q' lo' hi'=>exact absurd w (by dsimp only[dY.wd];decide)
  |fst pa qa pb qb mk lo' hi'=>exact absurd w (by dsimp only[dY.wd];decide)
 |fla r lo hi =>
  cases T' with
  |lad p' q' lo' hi'=>exact absurd w (by dsimp only[dY.wd];decide)
  |fla r' lo' hi' =>
   unfold fH at h;injection h with _ h;injection h with _ h;injection h with h1 h;injection h with h2 h;injection h with h3 h;injection h with h4 _
   rw[iX h2,iX h3,iX h4,aB0 (o rfl) (o' rfl) (uC (cy h1))];exact⟨rfl,rfl⟩
  |cho p' q' lo' hi'=>exact absurd w (by dsimp only[dY.wd];decide)
  |fst pa qa pb qb mk lo' hi'=>exact absurd w (by dsimp only[dY.wd];decide)
 |cho p q lo hi =>
  cases T' with
  |lad p' q' lo' hi'=>exact absurd w (by dsimp only[dY.wd];decide)
  |fla r' lo' hi'=>exact absurd w (by dsimp only[dY.wd];decide)
  |cho p' q' lo' hi' =>
   unfold fH at h;injection h with _ h;injection h with _ h;injection h with h1 h;injection h with h2 h;injection h with h3 h;injection h with h4 _
   obtain⟨rfl,rfl⟩:=rK (cy h2);rw[iX h3,iX h4,aA9 (cy h1)];exact⟨rfl,rfl⟩
  |fst pa qa pb qb mk lo' hi'=>exact absurd w (by dsimp only[dY.wd];decide)
 |fst pa qa pb qb mk lo hi =>
  cases T' with
  |lad p' q' lo' hi'=>exact absurd w (by dsimp only[dY.wd];decide)
  |fla r' lo' hi'=>exact absurd w (by dsimp only[dY.wd];decide)
  |cho p' q' lo' hi'=>exact absurd w (by dsimp only[dY.wd];decide)
  |fst pa' qa' pb' qb' mk' lo' hi' =>
   unfold fH at h;injection h with _ h;injection h with _ h;injection h with h1 h;injection h with h2 h;injection h with h3 h;injection h with h4 h;injection h with h5 h;injection h with h6 _
   obtain⟨rfl,rfl⟩:=rK (cy h2);obtain⟨rfl,rfl⟩:=rK (cy h3);rw[iX h1,iX h5,iX h6,aA9 (cy h4)];exact⟨rfl,rfl⟩
def bC5{H:Hp}:∀ns:List Int,Paired (aI4 H) (mZ ns) (ns.map V.int)
 |[]=> .nil
 |n::ns=> .cons rfl (bC5 ns)
def bW9:∀ns:List Int,(ns.map fun n=>(Sum.inl n:Key)).map kV=ns.map V.int
 |[]=>rfl
 |n::ns=>by simp only[List.map_cons,bW9 ns];rfl
def bU8{H:Hp}:∀{vs:List V}{wss:List (List Int)},dH (aK2 H) vs wss->Paired (aI4 H) (wss.map aW2) vs
 |[],[],_=> .nil
 |v::vs,ws::wss,h=> .cons (by obtain⟨a,e,h1⟩:=h.1;exact⟨a,e,by rw[bW9];exact h1⟩) (bU8 h.2)
 |[],_::_,h=>absurd h id
 |_::_,[],h=>absurd h id
def aD4{H:Hp}{a:Addr}{ns:List Int}(h:dF H a ns):NAt H (mZ ns) a:=⟨_,h,bC5 ns⟩
def rE{H:Hp}{a:Addr}{p q:Int}(h:aY H a p q):NAt H (mZ [p,q]) a:=⟨_,h,bC5 [p,q]⟩
def zN{H:Hp}{a:Addr}{wss:List (List Int)}(h:mY H a wss):NAt H (wss.map aW2) a:=let⟨vs,e,t⟩:=h;⟨vs,e,bU8 t⟩
def yG{H:Hp}{p:Addr}{x:Str}{T:dY}{a3:V}{wss:List (List Int)}(h:vN H (.thr p x T a3 wss)):pK H (fH x T wss) p:=by
 obtain⟨h,s⟩:=h;rcases s with⟨e,w,ws,rfl,hw,rfl⟩|⟨e,sm,rfl,hs⟩
 ·cases T with
  |lad p q lo hi=>obtain⟨st,h,k⟩:=h;exact⟨_,h,.cons rfl (.cons rfl (.cons ⟨w,rfl,aD4 hw⟩ (.cons ⟨st,rfl,rE k⟩ (.cons rfl (.cons rfl .nil)))))⟩
  |fla r lo hi=>exact⟨_,h,.cons rfl (.cons rfl (.cons ⟨w,rfl,aD4 hw⟩ (.cons rfl (.cons rfl (.cons rfl .nil)))))⟩
  |cho p q lo hi=>cases e
  |fst pa qa pb qb mk lo hi=>cases e
 ·cases T with
  |lad p q lo hi=>cases e
  |fla r lo hi=>cases e
  |cho p q lo hi=>obtain⟨st,h,k⟩:=h;exact⟨_,h,.cons rfl (.cons rfl (.cons ⟨sm,rfl,zN hs⟩ (.cons ⟨st,rfl,rE k⟩ (.cons rfl (.cons rfl .nil)))))⟩
  |fst pa qa pb qb mk lo hi =>
   obtain⟨sa,sb,sm',e',h,k,l⟩:=h
   cases e'
   exact⟨_,h,.cons rfl (.cons rfl (.cons rfl (.cons ⟨sa,rfl,rE k⟩ (.cons ⟨sb,rfl,rE l⟩ (.cons ⟨sm,rfl,zN hs⟩ (.cons rfl (.cons rfl .nil)))))))⟩
end Mine
namespace L2
open PySem PySem.Spec PyProof.Rows
def aV2(K:W.Frag)(a:Addr)(n:Nat):It:=
 ⟨fun i H=>∃xs,aT K H a xs/\xs.length=n/\i<n,fun i H x H'=>H'=H/\∀ys,aT K H a ys->ys.reverse[i]?=some x,fun i H=>∃xs,aT K H a xs/\xs.length=n/\n<=i⟩
def aV9{P:Program}{w:World}{K:W.Frag}{tg:Expr}(a it:Addr)(n:Nat)(ne:a≠it):qL P w K tg (aV2 K a n) [it] it (fun i h=>i<=n/\h.IsTRev it a ((n:Int)-1-(i:Int))) where
 mem:=by simp
 obj:=fun i h st b hb=>by
  have e:b=it:=by simpa using hb
  subst e;obtain⟨_,o,e,c,d⟩:=st;exact⟨o,e,fun v z=>by rw[d] at z;cases z⟩
 keep:=fun i h h' st k=>⟨st.1,let⟨o,e,r⟩:=st.2;⟨o,k it (by simp) o e,r⟩⟩
 item:=by
  intro X hP hw hK hc i pins s σ H E I hf st hg;subst hP hw hK;obtain⟨xs,hq,hn,hi⟩:=hg;obtain⟨its,rv,p,hz⟩:=I.tuple hq;have hl:=rv.length;have sz:its.toArray.size=n:=by rw[bf];lia
  obtain⟨f0,f1,f2,f3,f4,f5⟩:=hf it (by simp);have Wk:=Walks.tupRev (prog:=X.prog) (w:=X.w) (A:=X.A) (I.ok.hd hc) it a ne its.toArray (by rw[bf];have:=jc;have:=rv.length;lia);refine Wk.item i s _ _ (by lia) ⟨by lia,by rw[sz];exact st.2,(show s.heap.IsTuple a its.toArray from p)⟩ fun v h' tk pv st' kp=>?_
  have I1:aV X pins σ H { s with heap:=h',toks:=tk }:=I.turned (t':=tk) (fun b o hb e=>kp b o (by simpa using hb) e) f0 f1 f3 f4 f5;have hx:i<xs.reverse.length:=by rw[ig];lia
  obtain⟨u,hu,ru⟩:=rv.get (show xs[xs.length-1-i]?=some (xs[xs.length-1-i]'(by lia)) from bw (by lia));obtain⟨o,e,c,d⟩:=id st'.2.1;have ev:v=u:=by
   have:its.toArray[its.toArray.size-1-i]?=some v:=pv;rw[sz, <-hn] at this;have t2:its[xs.length-1-i]?=some v:=by simpa using this
   rw[hu] at t2;exact(cq t2).symm
  subst ev;refine⟨_,rfl,go_of (s:={ s with heap:=h',toks:=tk }) e c d (by decide) ⟨xs[xs.length-1-i]'(by lia),H,I1,ru,⟨rfl,fun ys hy=>?_⟩,⟨by lia,by have:=st'.2.1;rw[sz] at this;exact this⟩,fun b hb=>(hf b hb).1⟩⟩;rw[I.tuple_inj hy hq,qv (by lia)];exact bw (by lia)
 done:=by
  intro X hP hw hK hc i pins s σ H E I hf st hg;subst hP hw hK;obtain⟨xs,hq,hn,hi⟩:=hg;obtain⟨its,rv,p,hz⟩:=I.tuple hq;have hl:=rv.length;have sz:its.toArray.size=n:=by rw[bf];lia
  obtain⟨f0,f1,f2,f3,f4,f5⟩:=hf it (by simp);have Wk:=Walks.tupRev (prog:=X.prog) (w:=X.w) (A:=X.A) (I.ok.hd hc) it a ne its.toArray (by rw[bf];have:=jc;have:=rv.length;lia);have ei:i=n:=by have:=st.1;lia
  refine Wk.done s _ _ ⟨af _,by rw[sz, <-ei];have:=st.2;rw[<-ei] at this;exact this,(show s.heap.IsTuple a its.toArray from p)⟩ fun h' tk kp=>⟨rfl,I.turned (t':=tk) (fun b o hb e=>kp b o (by simpa using hb) e) f0 f1 f3 f4 f5⟩
 self:=fun _ _ _ _ _ st h=>fN st.2 h
def cM5(K:W.Frag)(te:TE):TI:=fun σ H R=>te σ H fun x H1=>∃a ys,x= .ref a/\aT K H1 a ys/\R (aV2 K a ys.length) H1
def bS0{X:Cx}{tg:Expr}{e:Expr}{te:TE}{p2 pos2:Pos}(he:PE X e te)(g2:Gl X "reversed")(m2:X.mg "reversed"=none)(hs2:starEach [e] X.env=[(false,eval e X.env)]:=by rfl) :
  PI X tg (.Call (.Name "reversed" p2) [e] [] pos2) (cM5 X.K te):=by
 intro pins s σ H R I h;refine gr (iV I g2 m2 vb (fq ?_ hs2 rfl));rw[hs2];refine mh (cW (he pins s σ H _ I h) ?_);rintro u s1 ⟨x,H1,I1,r1,a,ys,ex,hq,q⟩;refine oz ?_;subst ex
 cases r1
 obtain⟨its,rv,pl,hz⟩:=I1.tuple hq;have il:=(show s1.heap.IsTuple a its.toArray from pl)
 have len:=rv.length;have sz:its.toArray.size=ys.length:=by rw[bf];lia
 have aLt:a<s1.heap.objs.size:=by
  obtain⟨o,e,_⟩:=il;exact aw e
 refine nY il (by rw[bf];have:=jc;have:=rv.length;lia) fun tk0=>?_
 have st:(s1.heap.push (aJ5 a ((its.toArray.size:Int)-1))).IsTRev s1.heap.objs.size a ((ys.length:Int)-1-((0:Nat):Int)):=by
  rw[sz,Int.natCast_zero,Int.sub_zero];exact⟨_,be _ rfl,rfl,rfl⟩
 refine fN st ?_;refine⟨s1.heap.objs.size,[s1.heap.objs.size],_,aV2 X.K a ys.length,H1,rfl,I1.kept (t':=tk0) fun b o e=>ah _ e,aV9 a _ ys.length (bv aLt),⟨bi _,st⟩,fun b hb=>?_,q⟩;have e:b=s1.heap.objs.size:=by simpa using hb
 subst e;exact I1.fpOk (af _) (I1.hok.fresh (af _))
def aT1{K:PySem.W.Frag}{a:Addr}{xs:List V}{g:TG}{tb:TS}{D:fG}{σ:St}{H:Hp}(Pv:Nat->St->Hp->Prop)(z0:Pv 0 σ H)(zl:∀i σ H,i<=xs.length->Pv i σ H->aT K H a xs)
  (zs:∀(D':fG),∀i x σ H,xs.reverse[i]?=some x->Pv i σ H->g x σ H fun σ2 H2=>tb { D' with nx:=Pv (i+1),ct:=Pv (i+1),bk:=D'.nx } σ2 H2) (zd:∀σ H,Pv xs.length σ H->D.nx σ H) :
  ∃W:Nat->Nat->St->Hp->Prop,(∃m,W 0 m σ H)/\∀i m σ H,W i m σ H ->
   ((aV2 K a xs.length).stop i H/\D.nx σ H)\/((aV2 K a xs.length).go i H/\∃N:St->Hp->Prop,(∀σ' H',N σ' H'->∃m',m'<m/\W (i+1) m' σ' H')/\∀x H',(aV2 K a xs.length).yld i H x H'->g x σ H' fun σ2 H2=>tb { D with nx:=N,ct:=N,bk:=D.nx } σ2 H2):=by
 refine⟨fun i m σ H=>m=xs.length-i/\i<=xs.length/\Pv i σ H,⟨xs.length,rfl,bi _,z0⟩,?_⟩;rintro i m σ H ⟨rfl,le,p⟩;have q:=zl i σ H le p
 by_cases c:i<xs.length
 ·exact .inr ⟨⟨xs,q,rfl,c⟩,Pv (i+1),fun σ' H' p'=>⟨xs.length-(i+1),by lia,rfl,c,p'⟩,fun x H' ⟨e,y⟩=>by
   subst e;exact zs D i x σ _ (y xs q) p⟩
 ·obtain rfl:i=xs.length:=by lia
  exact .inl ⟨⟨xs,q,rfl,af _⟩,zd σ H p⟩
section
variable {X:Cx}
end
section
variable {prog:Program}{w:World}{A:Around}{E:Value->Shared->Prop}{s:Shared}{d it v:Addr}{o:Obj}{es:Array DictEntry}{ep i:Nat}
end
section
variable {prog:Program}{w:World}{A:Around}{E:Value->Shared->Prop}{s:Shared}
end
section
variable {X:Cx}
end
section
variable {X:Cx}
end
open PySem PySem.Spec PyProof.Rows PySem.MeetsSeq
section
variable {prog:Program}{w:World}{A:Around}{E:Value->Shared->Prop}{s:Shared}
end
section
variable {X:Cx}{pins:List (Addr×Obj)}{σ:St}{H:Hp}{s:Shared}
end
open PySem PySem.Spec PyProof.Rows
section
variable {prog:Program}{w:World}{A:Around}{d it v:Addr}{o:Obj}{es:Array DictEntry}{ep:Nat}
end
section
variable {X:Cx}{pins:List (Addr×Obj)}{σ:St}{H:Hp}{s:Shared}{d:Addr}{vs:List V}
end
section
variable {X:Cx}
end
section
variable {X:Cx}{pins:List (Addr×Obj)}{σ:St}{H:Hp}{s:Shared}{A:Around}{E:Value->Shared->Prop}
end
section
variable {X:Cx}{o i e value:Expr}{pos pos' tpos:Pos}{td ty tv:TE}{k:Nat}
end
section
variable {prog:Program}{w:World}{A:Around}{E:Value->Shared->Prop}{s:Shared}{a:Addr}{o:Obj}{es:Array (Int×Value)}{ep:Nat}{t:SetTable}
def cY3(t:SetTable)(i:Nat):Nat:=match i with
 |0=>0
 |i+1=>t.place.getD i 0+1
end
section
variable {prog:Program}{w:World}{A:Around}{E:Value->Shared->Prop}{s:Shared}{a:Addr}{o:Obj}{es:Array (Int×Value)}{ep:Nat}{t:SetTable}
end
open PySem PySem.Spec PyProof.Rows PySem.W
def dL{α:Type}(n:Nat)(f:Nat->Nat)(R:α->Prop):KasT α->Prop
 |.ret a=>R a
 |.ask i j k=>i<n/\j<n/\dL n f R (k (decide (f i<f j)))
def dL.bind{α β:Type}{n:Nat}{f:Nat->Nat}{R:α->Prop}{S:β->Prop}{g:α->KasT β}:∀{t:KasT α},dL n f R t->(∀a,R a->dL n f S (g a))->dL n f S (t.bind g)
 |.ret a,h,k=>by rw[KasT.bind.eq_1];exact k a h
 |.ask i j _,h,k=>by rw[KasT.bind.eq_2];exact⟨h.1,h.2.1,dL.bind h.2.2 k⟩
def dL.wp{α:Type}{n:Nat}{f:Nat->Nat}{R:α->Prop}{cmp:Nat->Nat->(Bool->Shared->Prop)->Shared->Prop}{Q:α->Shared->Prop}{s:Shared}(hc:∀i j C,i<n->j<n->C (decide (f i<f j)) s->cmp i j C s)(hq:∀a,R a->Q a s):∀{t:KasT α},dL n f R t->KasT.kasWp cmp t Q s
 |.ret a,h=>by rw[KasT.kasWp.eq_1];exact hq a h
 |.ask i j k,h=>by rw[KasT.kasWp.eq_2];exact hc i j _ h.1 h.2.1 (dL.wp hc hq h.2.2)
def dL.yes{α:Type}{n:Nat}{f:Nat->Nat}{R:α->Prop}{i j:Nat}{k:Bool->KasT α}(hi:i<n)(hj:j<n)(c:f i<f j)(h:dL n f R (k true)):dL n f R (.ask i j k):=⟨hi,hj,by rw[ap c];exact h⟩
def dL.no{α:Type}{n:Nat}{f:Nat->Nat}{R:α->Prop}{i j:Nat}{k:Bool->KasT α}(hi:i<n)(hj:j<n)(c:¬f i<f j)(h:dL n f R (k false)):dL n f R (.ask i j k):=⟨hi,hj,by rw[dq c];exact h⟩
def dL.mono{α:Type}{n:Nat}{f:Nat->Nat}{R S:α->Prop}(k:∀a,R a->S a):∀{t:KasT α},dL n f R t->dL n f S t
 |.ret a,h=>k a h
 |.ask _ _ _,h=>⟨h.1,h.2.1,dL.mono k h.2.2⟩
def eM.size{n:Nat}{p:Array Nat}(h:eM n p):p.size=n:=by
 have:=(je.mp h).length_eq
 simpa using this
def eM.inj{n:Nat}{p:Array Nat}(h:eM n p){i j:Nat}(hi:i<n)(hj:j<n)(e:p.getD i 0=p.getD j 0):i=j:=by
 have z:=h.size;have nd:p.toList.Nodup:=((je.mp h).nodup_iff).mpr (by simpa using List.nodup_range);have ei:p.getD i 0=p.toList[i]'(by simp[z,hi]):=by simp[Array.getD,z,hi]
 have ej:p.getD j 0=p.toList[j]'(by simp[z,hj]):=by simp[Array.getD,z,hj]
 rw[ei,ej] at e;exact(ql nd).mp e
section
variable {n:Nat}{f:Nat->Nat}
def kk(f:Nat->Nat)(p:Array Nat)(k:Nat):Nat:=f (p.getD k 0)
def Up(f:Nat->Nat)(p:Array Nat)(m:Nat):Prop:=∀i j,i<j->j<m->kk f p i<kk f p j
def Dn(f:Nat->Nat)(p:Array Nat)(m:Nat):Prop:=∀i j,i<j->j<m->kk f p j<kk f p i
def kU{p q:Array Nat}{i j:Nat}(h:p[i]?=q[j]?):p.getD i 0=q.getD j 0:=by
 rw[uq,uq,h]
def aY4{p:Array Nat}{j:Nat}(hj:j<=p.size)(k:Nat):kk f (kas_rev p 0 j) k=if k<j then kk f p (j-1-k) else kk f p k:=by
 have e:=getElem?_mirror_all (xs:=p) (i:=0) (j:=j) hj k;unfold kk kas_rev
 by_cases c:k<j
 ·rw[ao ⟨bi _,c⟩] at e;rw[ao c,kU e];simp
 ·rw[ai fun z=>c z.2] at e;rw[ai c,kU e]
def bF1{p:Array Nat}{x l:Nat}(hx:x<p.size)(hl:l<=x)(k:Nat):kk f (bubble p x (x-l)) k=if k=l then kk f p x else if l<k/\k<=x then kk f p (k-1) else kk f p k:=by
 have e:=getElem?_bubble (xs:=p) (src:=x) hx (x-l) (Nat.sub_le _ _) k;have s:x-(x-l)=l:=by lia
 rw[s] at e;unfold kk
 by_cases c:k=l
 ·rw[ao c] at e;rw[ao c,kU e]
 ·rw[ai c] at e;rw[ai c]
  by_cases d:l<k/\k<=x
  ·rw[ao d] at e;rw[ao d,kU e]
  ·rw[ai d] at e;rw[ai d,kU e]
variable (hf:∀i j,i<n->j<n->f i=f j->i=j)
include hf
def aX1{p:Array Nat}(h:eM n p){i j:Nat}(hi:i<n)(hj:j<n)(e:i≠j):kk f p i≠kk f p j:=fun q=>by
 have h0:0<n:=by lia
 exact e (h.inj hi hj (hf _ _ (h.get h0 _) (h.get h0 _) q))
def bM3{p:Array Nat}(h:eM n p){x:Nat}(u:Up f p x)(x1:1<=x)(xn:x<n)(c:¬kk f p x<kk f p (x-1)):Up f p (x+1):=fun i j hij hj=>by
 have:=aX1 hf h xn (show x-1<n by lia) (by lia)
 by_cases e:j=x
 ·rw[e]
  by_cases d:i=x-1
  ·rw[d];lia
  ·have:=u i (x-1) (by lia) (by lia);lia
 ·exact u i j hij (by lia)
omit hf in
def bL6{p:Array Nat}{x:Nat}(u:Dn f p x)(x1:1<=x)(c:kk f p x<kk f p (x-1)):Dn f p (x+1):=fun i j hij hj=>by
 by_cases e:j=x
 ·rw[e]
  by_cases d:i=x-1
  ·rw[d];exact c
  ·have:=u i (x-1) (by lia) (by lia);lia
 ·exact u i j hij (by lia)
def bE1{p:Array Nat}(h:eM n p):∀(k x:Nat),1<=x->x+k<=n->Up f p x->dL n f (fun r=>x<=r/\r<=x+k/\Up f p r/\(r=x+k\/kk f p r<kk f p (r-1))) (kas_asc p k x)
 |0,x,x1,xn,u=>by rw[kas_asc.eq_1];exact⟨af _,by lia,u,.inl rfl⟩
 |k+1,x,x1,xn,u=>by
  have h0:0<n:=by lia
  rw[show k+1=k.succ from rfl,kas_asc.eq_2]
  by_cases c:kk f p x<kk f p (x-1)
  ·exact dL.yes (h.get h0 _) (h.get h0 _) c (show dL n f _ (KasT.ret x) from⟨af _,by lia,u,.inr c⟩)
  ·refine dL.no (h.get h0 _) (h.get h0 _) c ?_;show dL n f _ (kas_asc p k (x+1));have ih:=bE1 h k (x+1) (by lia) (by lia) (bM3 hf h u x1 (by lia) c);have e:x+1+k=x+k.succ:=by lia
   rw[e] at ih;refine dL.mono ?_ ih;rintro r ⟨a,b,c,d⟩;exact⟨by lia,b,c,d⟩
def bG6{p:Array Nat}(h:eM n p):∀(k x:Nat),1<=x->x+k<=n->Dn f p x->dL n f (fun r:Array Nat×Nat×Nat=>r.1=p/\r.2.2=0/\1<=r.2.1/\r.2.1<=x+k/\Dn f p r.2.1) (kas_desc k p x 0)
 |0,x,x1,xn,u=>by rw[kas_desc.eq_1];exact⟨rfl,rfl,x1,af _,u⟩
 |k+1,x,x1,xn,u=>by
  have h0:0<n:=by lia
  rw[show k+1=k.succ from rfl,kas_desc.eq_2]
  by_cases c:kk f p x<kk f p (x-1)
  ·refine dL.yes (h.get h0 _) (h.get h0 _) c ?_;show dL n f _ (kas_desc k p (x+1) 0);have ih:=bG6 h k (x+1) (by lia) (by lia) (bL6 u x1 c);have e:x+1+k=x+k.succ:=by lia
   rw[e] at ih;exact ih
  ·refine dL.no (h.get h0 _) (h.get h0 _) c ?_;have:=aX1 hf h (show x<n by lia) (show x-1<n by lia) (by lia);have d:kk f p (x-1)<kk f p x:=by lia
   exact dL.yes (h.get h0 _) (h.get h0 _) d (show dL n f _ (KasT.ret (p,x,0)) from⟨rfl,rfl,x1,jq _ _,u⟩)
def cF8{p:Array Nat}(h:eM n p){x:Nat}(x1:1<=x)(xn:x<=n)(u:Dn f p x):dL n f (fun r:Nat×Array Nat=>eM n r.2/\1<=r.1/\r.1<=n/\Up f r.2 r.1) (kas_tail3 x n p):=by
 rw[kas_tail3.eq_1];have up:Up f (kas_rev p 0 x) x:=fun i j hij hj=>by
  have z:=h.size;rw[aY4 (by lia),aY4 (by lia),ao (by lia),ao hj];exact u _ _ (by lia) (by lia)
 refine(bE1 hf (h.rev 0 x) (n-x) x x1 (by lia) up).bind fun a ⟨h1,h2,h3,_⟩=>?_
 exact⟨h.rev 0 x,by lia,by lia,h3⟩
def bO1(h0:1<=n){p:Array Nat}(h:eM n p):dL n f (fun r:Nat×Array Nat=>eM n r.2/\1<=r.1/\r.1<=n/\Up f r.2 r.1) (kas_count n p):=by
 rw[kas_count.eq_1];refine(bE1 hf h (n-1) 1 (af _) (by lia) fun i j a b=>by lia).bind fun x ⟨h1,h2,h3,h4⟩=>?_
 by_cases c:x=n
 ·rw[ao (by simpa using c)];exact⟨h,h1,by lia,h3⟩
 ·rw[ai (by simpa using c)]
  by_cases d:x > 1
  ·rw[ao d];have q:kk f p 0<kk f p (x-1):=h3 0 (x-1) (by lia) (by lia);exact dL.yes (h.get h0 _) (h.get h0 _) q (show dL n f _ (KasT.ret (x,p)) from⟨h,h1,by dsimp only;lia,h3⟩)
  ·rw[ai d,kas_descPart.eq_1];have x1:x=1:=by lia
   subst x1;have q:kk f p 1<kk f p 0:=by
    rcases h4 with e|e
    ·lia
    ·exact e
   have dn:Dn f p 2:=fun i j hij hj=>by
    have a:i=0:=by lia
    have b:j=1:=by lia
    rw[a,b];exact q
   refine(bG6 hf h (n-(1+1)) (1+1) (by lia) (by lia) dn).bind fun r hr=>?_
   obtain⟨p',m,q'⟩:=r;obtain⟨e1,e2,e3,e4,e5⟩:=hr
   dsimp only at e1 e2 e3 e4 e5 ⊢
   subst e1 e2;rw[ai (gy 0)];exact cF8 hf h e3 (by lia) e5
def yU{p:Array Nat}(h:eM n p){k:Nat}(kn:k<n)(u:Up f p k):∀(g l r:Nat),r-l<=g->l<=r->r<=k->(∀i,i<l->kk f p i<kk f p k)->(∀i,r<=i->i<k->kk f p k<kk f p i) ->
  dL n f (fun m=>m<=k/\(∀i,i<m->kk f p i<kk f p k)/\∀i,m<=i->i<k->kk f p k<kk f p i) (kas_place p k g l r)
 |0,l,r,hg,lr,rk,a,b=>by
  rw[kas_place.eq_def];have e:l=r:=by lia
  exact⟨by lia,a,fun i hi=>b i (by lia)⟩
 |g+1,l,r,hg,lr,rk,a,b=>by
  have h0:0<n:=by lia
  rw[kas_place.eq_def];show dL n f _ (if l ≥ r then _ else _)
  by_cases c:l ≥ r
  ·rw[ao c];exact⟨by lia,a,fun i hi=>b i (by lia)⟩
  ·rw[ai c];have m1:(l+r) / 2<r:=by lia
   have m2:l<=(l+r) / 2:=by lia
   generalize (l+r) / 2=m at m1 m2 ⊢
   by_cases d:kk f p k<kk f p m
   ·refine dL.yes (h.get h0 _) (h.get h0 _) d ?_;show dL n f _ (kas_place p k g l m);refine yU h kn u g l m (by lia) m2 (by lia) a fun i hi hk=>?_
    by_cases e:i=m
    ·rw[e];exact d
    ·have:=u m i (by lia) hk;lia
   ·refine dL.no (h.get h0 _) (h.get h0 _) d ?_;show dL n f _ (kas_place p k g (m+1) r);refine yU h kn u g (m+1) r (by lia) (by lia) rk (fun i hi=>?_) b;have:=aX1 hf h (show m<n by lia) kn (by lia)
    by_cases e:i=m
    ·rw[e];lia
    ·have:=u i m (by lia) (by lia);lia
def bV5:∀(g:Nat) {p:Array Nat}(x:Nat),eM n p->x+g=n->Up f p x->dL n f (fun q=>eM n q/\Up f q n) (kas_bin g p x)
 |0,p,x,h,e,u=>by
  rw[kas_bin.eq_1];have:x=n:=by lia
  subst this;exact⟨h,u⟩
 |g+1,p,x,h,e,u=>by
  have z:=h.size;rw[show g+1=g.succ from rfl,kas_bin.eq_2];refine(yU hf h (show x<n by lia) u x 0 x (by lia) (by lia) (af _) (fun i hi=>by lia) (fun i a b=>by lia)).bind fun l ⟨h1,h2,h3⟩=>?_
  refine bV5 g _ ((bubble_perm p _ _).trans h) (by lia) fun i j hij hj=>?_
  rw[bF1 (by lia) h1,bF1 (by lia) h1];rcases Nat.lt_trichotomy i l with c|c|c
  ·rw[ai (by lia),ai (by lia)];rcases Nat.lt_trichotomy j l with d|d|d
   ·rw[ai (by lia),ai (by lia)];exact u _ _ hij (by lia)
   ·rw[ao d];exact h2 _ c
   ·rw[ai (by lia),ao (by lia)];exact u _ _ (by lia) (by lia)
  ·rw[ao c,ai (by lia),ao (by lia)];exact h3 _ (by lia) (by lia)
  ·rw[ai (by lia),ao (by lia),ai (by lia),ao (by lia)];exact u _ _ (by lia) (by lia)
def cH1(h0:1<=n):dL n f (fun q=>eM n q/\Up f q n) (kas_sort n):=by
 unfold kas_sort;refine(bO1 hf h0 (Array.Perm.refl _)).bind fun r ⟨h1,h2,h3,h4⟩=>?_
 split
 ·rename_i c
  rw[Nat.max_eq_left h2];exact bV5 hf _ _ h1 (by lia) h4
 ·rename_i c
  have:r.1=n:=by lia
  rw[this] at h4;exact⟨h1,h4⟩
end
open PySem PySem.Spec PyProof.Rows
section
variable {prog:Program}{w:World}{A:Around}{E:Value->Shared->Prop}{s:Shared}{a:Addr}{S:Key->Bool}{n:Nat}{led:Bool}
end
section
variable {prog:Program}{w:World}{A:Around}{R:Result->Shared->Prop}{I:Addr}{fp wr:List Addr}{G:Array GenState->Array GenState->Prop}{n:Nat}{P:Nat->Value->Prop}{St:Nat->Shared->Prop}{led:Bool}
end
section
variable {prog:Program}{w:World}{A:Around}{E:Value->Shared->Prop}{s:Shared}
end
def tb(m:Nat):SetTable:={ SetTable.fresh 0 0 true with mask:=m }
def bs(m:Nat)(h:Int):Nat->Nat×Nat
 |0=>(SetTable.bits h % (m+1),SetTable.bits h)
 |L+1=>SetTable.leap m (bs m h L).1 (bs m h L).2
def lf(m i:Nat):Nat:=(i*5+1) % (m+1)
section
variable {prog:Program}{w:World}{A:Around}{E:Value->Shared->Prop}{s:Shared}{K:Type} [DecidableEq K] {knd:KeyKind prog w K}
variable (knd) in
end
section
variable {prog:Program}{w:World}{A:Around}{E:Value->Shared->Prop}{s:Shared}{K:Type} [DecidableEq K] {knd:KeyKind prog w K}
end
section
variable {prog:Program}{w:World}{A:Around}{E:Value->Shared->Prop}{s:Shared}{K:Type} [DecidableEq K] {knd:KeyKind prog w K}
end
section
variable {prog:Program}{w:World}{A:Around}{K:Type} [DecidableEq K] {knd:KeyKind prog w K}{I:Addr}{fp wr:List Addr}{G:Array GenState->Array GenState->Prop}{n:Nat}{P:Nat->Value->Prop}{St:Nat->Shared->Prop}{R:Result->Shared->Prop}
variable (knd) in
end
section
variable {prog:Program}{w:World}{A:Around}{E:Value->Shared->Prop}{s:Shared}{K:Type} [DecidableEq K] {knd:KeyKind prog w K}
end
def eA(H:Hp)(bs:List Addr)(nss:List (List Int)):Prop:=bs.length=nss.length/\∀(i:Nat) b ns,bs[i]?=some b->nss[i]?=some ns->H b=some (.tup (ns.map V.int))
def bR1{ns ms:List Int}(h:ns.map (Sum.inl:Int->Key)=ms.map Sum.inl):ns=ms:=by
 induction ns generalizing ms with
 |nil=>cases ms with|nil=>rfl|cons _ _=>cases h
 |cons x r ih =>
  cases ms with
  |nil=>cases h
  |cons y t =>
   rw[bt,bt] at h;injection h with h1 h2
   injection h1 with h1
   rw[h1,ih h2]
open PySem PySem.Spec PyProof.Rows PySem.W HT
def qN:∀a:List Int,HT.lexLt a a=false
 |[]=>rfl
 |x::r=>by rw[lexLt_cons,ao rfl];exact qN r
def pO:∀{a b c:List Int},HT.lexLt a b=true->HT.lexLt b c=true->HT.lexLt a c=true
 |[],[],_,h,_=>by cases h
 |[],_::_,[],_,h=>by cases h
 |[],_::_,_::_,_,_=>rfl
 |_::_,[],_,h,_=>by cases h
 |_::_,_::_,[],_,h=>by cases h
 |x::a,y::b,z::c,h,k=>by
  rw[lexLt_cons] at h k ⊢
  by_cases e:x=y
  ·subst e;rw[ao rfl] at h
   by_cases f:x=z
   ·rw[ao f] at k ⊢;exact pO h k
   ·rw[ai f] at k ⊢;exact k
  ·rw[ai e] at h;have h:=ar h
   by_cases f:y=z
   ·subst f;rw[ai e];exact ap h
   ·rw[ai f] at k;have k:=ar k;rw[ai (by lia)];exact ap (by lia)
def xZ:∀{a b:List Int},HT.lexLt a b=false->HT.lexLt b a=false->a=b
 |[],[],_,_=>rfl
 |[],_::_,h,_=>by cases h
 |_::_,[],_,h=>by cases h
 |x::a,y::b,h,k=>by
  rw[lexLt_cons] at h k
  by_cases e:x=y
  ·subst e;rw[ao rfl] at h k;rw[xZ h k]
  ·rw[ai e] at h;rw[ai (fun z=>e z.symm)] at k;have h:=aAl h;have k:=aAl k;lia
def fD{α:Type}{l:List α}{d:α}{i:Nat}(h:i<l.length):l.getD i d=l[i]:=by simp[List.getD,h]
def vI{α:Type}{p q:α->Bool}:∀{l:List α}{x:α},(∀y∈l,p y=true->q y=true)->x∈l->q x=true->p x=false->l.countP p<l.countP q
 |y::r,x,h,m,qx,px=>by
  have hr:∀y∈r,p y=true->q y=true:=fun z hz=>h z (ae _ hz)
  have le:r.countP p<=r.countP q:=List.countP_mono_left hr;rw[List.countP_cons,List.countP_cons]
  by_cases e:x=y
  ·subst e;rw[qx,px];simp;lia
  ·have m':x∈r:=by
    rcases az.mp m with z|z
    ·exact absurd z e
    ·exact z
   have ih:=vI hr m' qx px;have hy:=h y aj
   cases hp:p y
   ·simp;lia
   ·rw[hy hp];simp;lia
def rkL(nss:List (List Int))(i:Nat):Nat:=nss.countP fun y=>HT.lexLt y (nss.getD i [])
def bU3{nss:List (List Int)}{i j:Nat}(hi:i<nss.length)(h:HT.lexLt (nss.getD i []) (nss.getD j [])=true):rkL nss i<rkL nss j:=by
 refine vI (x:=nss.getD i []) (fun y _ hy=>pO hy h) ?_ h (qN _);rw[fD hi];exact List.getElem_mem hi
def xJ{nss:List (List Int)}(nd:nss.Nodup){i j:Nat}(hi:i<nss.length)(hj:j<nss.length):decide (rkL nss i<rkL nss j)=HT.lexLt (nss.getD i []) (nss.getD j []):=by
 cases h:HT.lexLt (nss.getD i []) (nss.getD j []) with
 |true=>exact ap (bU3 hi h)
 |false =>
  refine dq fun c=>?_
  cases k:HT.lexLt (nss.getD j []) (nss.getD i []) with
  |true=>have:=bU3 hj k;lia
  |false =>
   have e:=xZ h k;rw[fD hi,fD hj] at e;have:=(ql nd).mp e;subst this;lia
def bY3{nss:List (List Int)}(nd:nss.Nodup)(i j:Nat)(hi:i<nss.length)(hj:j<nss.length)(e:rkL nss i=rkL nss j):i=j:=by
 have a:=xJ nd hi hj;have b:=xJ nd hj hi;rw[e,dq (gy _)] at a b;have e:=xZ a.symm b.symm;rw[fD hi,fD hj] at e;exact(ql nd).mp e
def cS7(h:Heap)(bs:List Addr)(nss:List (List Int)):Prop:=bs.length=nss.length/\∀(i:Nat),i<bs.length->∃its,IsTup h (bs.getD i 0) its/\IntsAre its.toList (nss.getD i [])
section
variable {prog:Program}{w:World}{A:Around}{E:Value->Shared->Prop}{s:Shared}
def bU7{b fin:Bool}{Q:Bool->Shared->Prop}(hu:A.units<cLine):∀{us vs:List Value}{ns ms:List Int}(i:Nat),IntsAre us ns->IntsAre vs ms->fin=decide (us.length<vs.length)->Q (HT.lexLt ns ms) s->KatLex prog w A b fin Q (us.zip vs) i s
 |_,_,_,_,i,.nil,.nil,e,q=>by subst e;exact kat_nil q
 |_,_,_,_,i,.nil,.cons _ _ _,e,q=>by subst e;exact kat_nil q
 |_,_,_,_,i,.cons _ _ _,.nil,e,q=>by subst e;exact kat_nil q
 |_,_,_,_,i,.cons x t r,.cons y u r',e,q=>by
  rw[uh];refine kat_cons (ug x t y u prog w _ _ ?_);rw[lexLt_cons] at q;rw[KatGo.eq_1]
  by_cases c:x=y
  ·rw[ao c] at q;rw[ao (by simpa using c)];exact bU7 hu (i+1) r r' (by simpa using e) q
  ·rw[ai c] at q;rw[ai (by simpa using c)]
   cases hb:(b&&i==0)
   ·exact kat_one _ _ (zp q)
   ·exact kat_lt_int q
def cW8{a c:Addr}{its jts:Array Value}{ns ms:List Int}{κ:SortKind}{Q:Bool->Shared->Prop}(hu:A.units+1<cLine)(hx:IsTup s.heap a its)(ix:IntsAre its.toList ns)(hy:IsTup s.heap c jts)(iy:IntsAre jts.toList ms)(hk:κ=general'\/κ=oneType'\/∃b,κ=tuples' b)(hQ:Q (HT.lexLt ns ms) s) :
  wpAny (model prog w) A (keyLt' κ (.ref a) (.ref c)) Q E s:=by
 rcases hk with rfl|rfl|⟨b,rfl⟩
 ·exact kat_one _ _ (aH5 hx hy ix iy (by lia) hQ)
 ·show wpAny _ _ (oneLt' true _ _) _ _ _;rw[oneLt'_eq];refine aa (yh (by lia) ?_);obtain⟨⟨cls,dd,data,sl⟩,ho,hc,n,hd⟩:=id hx;obtain⟨⟨cls2,dd2,data2,sl2⟩,ho2,hc2,n2,hd2⟩:=id hy;simp only at hc hd hc2 hd2;subst hc hd hc2 hd2;refine aa (wpAny_callSpecialIfBound?_slot (T:="tuple") ⟨_,ho,rfl⟩ qr (jt qr ⟨_,ho,rfl⟩ xt (ww _ _) (mH a c its jts n n2 dd dd2 sl sl2 ns ms ix iy) ⟨ho,ho2,?_⟩));exact jn hQ
 ·obtain⟨o,ho,hc,n,hd⟩:=id hx;obtain⟨o2,ho2,hc2,n2,hd2⟩:=id hy;exact kat_lt ho hd ho2 hd2 (bU7 (by lia) 0 ix iy (by simp) hQ)
def iL(bs:List Addr)(p:List Nat):List Addr:=p.map fun i=>bs.getD i 0
def mC(nss:List (List Int))(p:List Nat):List (List Int):=p.map fun i=>nss.getD i []
def jU{α:Type}(l:List α)(d:α):(List.range l.length).map (fun i=>l.getD i d)=l:=by
 apply wf
 ·simp
 ·intro i h1 h2;simp[List.getD,h2]
def cN7{nss:List (List Int)}(nd:nss.Nodup){p:Array Nat}(hp:eM nss.length p)(u:Up (rkL nss) p nss.length):(mC nss p.toList).Pairwise fun a b=>HT.lexLt a b=true:=by
 unfold mC;rw[pj,vn];intro i j hi hj hij;have z:=hp.size;rw[ff] at hi hj;have h0:0<nss.length:=by lia
 have a:=u i j hij (by lia);have b:=xJ nd (hp.get h0 i) (hp.get h0 j);rw[ap (show rkL nss (p.getD i 0)<rkL nss (p.getD j 0) from a)] at b;have ei:p.toList[i]=p.getD i 0:=by simp[Array.getD,hi]
 have ej:p.toList[j]=p.getD j 0:=by simp[Array.getD,hj]
 rw[ei,ej];exact b.symm
def bF3{bs:List Addr}{p:Array Nat}(hp:eM bs.length p):(p.toList.map fun i=>(bs.map Value.ref).getD i Value.none)=(iL bs p.toList).map Value.ref:=by
 unfold iL;rw[jl];refine gc fun i hi=>?_
 have hi:i<bs.length:=by
  have:=(je.mp hp).mem_iff.mp hi
  simpa using this
 simp[List.getD,hi]
def aL7{a:Addr}{bs:List Addr}{nss:List (List Int)}{n:Nat}{P:PySem.Fin->Shared->Prop}(hu:A.units+1<cLine)(hl:s.heap.get? a=some (seqObj "list" (bs.map Value.ref).toArray n))(hn:bs.length<64)(ht:cS7 s.heap bs nss)(nd:nss.Nodup)(hc:∀b∈bs,b≠a)
  (q:∀(h':Heap) (p:List Nat) (c:Nat),(∀b o,b≠a->s.heap.get? b=some o->h'.get? b=some o)->h'.get? a=some (seqObj "list" ((iL bs p).map Value.ref).toArray c)->p.Perm (List.range bs.length)->(mC nss p).Pairwise (fun a b=>HT.lexLt a b=true)->P (Fin.done (Flow.ret Value.none)) { s with heap:=h' }) :
  wpAny (model prog w) A (Builtin.«list.sort» { pos:=[Value.ref a] }) P E s:=by
 obtain⟨vs,hv⟩:∃vs,vs=bs.map Value.ref:=⟨_,rfl⟩
 have vl:vs.length=bs.length:=by rw[hv,ac]
 rw[<-hv] at hl;have la:=aw hl;have zs:vs.length<=sizeLine:=fi (aL (by lia));have zs2:vs.toArray.size<=sizeLine:=by rw[bf];exact zs
 rw[list_sort_plain];refine aa (listItems_at hl rfl ?_);refine aa (zn hl rfl ?_ zs2 (by show(0:Nat)<=_;lia));have hl1:=xj hl fun _=> #[]
 have k1:∀b o,b≠a->s.heap.get? b=some o->(s.heap.update a (Obj.mapSeq fun _=> #[])).get? b=some o:=fun b o hb e=>by
  rw[li _ _ _ _ hb];exact e
 generalize s.heap.update a (Obj.mapSeq fun _=> #[])=h1 at hl1 k1 ⊢;refine aa (aAs hl1 rfl ?_);refine aa (wpAny_newTuple ?_ zs);refine aa (wpAny_newList ?_ (bi _));have k2:∀b o,h1.get? b=some o->((h1.push { cls:= .type "tuple",data:= .seq vs.toArray }).push { cls:= .type "list",data:= .seq ([]:List Value).toArray }).get? b=some o:=fun b o e=>ah _ (ah _ e)
 dsimp only
 generalize ((h1.push { cls:= .type "tuple",data:= .seq vs.toArray }).push { cls:= .type "list",data:= .seq ([]:List Value).toArray })=h2 at k2 ⊢;have hl2:=k2 _ _ hl1;have ht2:∀i,i<bs.length->∃its,IsTup h2 (bs.getD i 0) its/\IntsAre its.toList (nss.getD i []):=fun i hi=>by
  obtain⟨its,⟨o,ho,r⟩,ix⟩:=ht.2 i hi;refine⟨its,⟨o,k2 _ _ (k1 _ _ (hc _ ?_) ho),r⟩,ix⟩;rw[fD hi];exact List.getElem_mem hi
 refine ko ?_
 by_cases c:vs.length<2
 ·rw[ao (by simpa using c)];refine aa (am ?_);rw[ao (by simpa using c)];refine aa (am ?_);have f:failedOf (SortSt.mk' general' (vs.toArray.zip vs.toArray) #[] 7 none)=none:=rfl;have e:Array.map (fun x=>x.snd) (arrOf (SortSt.mk' general' (vs.toArray.zip vs.toArray) #[] 7 none))=((iL bs (List.range bs.length)).map Value.ref).toArray:=by
   show Array.map (fun x=>x.snd) (vs.toArray.zip vs.toArray)=_;unfold iL;rw[jU, <-hv]
   apply Array.ext
   ·simp
   ·intro i h1 h2;simp
  have pw:(mC nss (List.range bs.length)).Pairwise (fun a b=>HT.lexLt a b=true):=by
   unfold mC;rw[ht.1,jU];have:nss.length<2:=by rw[<-ht.1];lia
   rw[vn];intro i j hi hj hij;lia
  refine aa (aAs hl2 rfl ?_);refine aa (zn hl2 rfl ?_ (bi _) (by dsimp only;rw[e,bf,ac];unfold iL;rw[ac,List.length_range];lia))
  try rw[f]
  try dsimp only
  rw[ai (by simp)];refine am ?_;have hl3:=xj hl2 fun _=>Array.map (fun x=>x.snd) (arrOf (SortSt.mk' general' (vs.toArray.zip vs.toArray) #[] 7 none))
  refine q _ _ _ (fun b o hb e0=>?_) (by rw[<-e];exact hl3) (List.Perm.refl _) pw;rw[li _ _ _ _ hb];exact k2 _ _ (k1 _ _ hb e0)
 ·rw[ai (by simpa using c)];refine aa (aZ7 (vs:=vs) (fun v hv'=>?_) fun κ hk=>?_)
  ·rw[hv] at hv';obtain⟨b,hb,rfl⟩:=ci.mp hv';obtain⟨i,hi,e⟩:=zg.mp hb;obtain⟨its,x1,x2⟩:=ht2 i hi;rw[fD hi,e] at x1;exact⟨b,its,_,rfl,x1,x2⟩
  rw[ai (by simpa using c)];refine aa ?_;refine ft (kat_run (ks:=vs) (vs:=vs) (Q:=fun st s'=>s'={ s with heap:=h2 }/\failedOf st=none/\∃p:List Nat,Array.map (fun x=>x.snd) (arrOf st)=((iL bs p).map Value.ref).toArray/\p.Perm (List.range bs.length)/\(mC nss p).Pairwise (fun a b=>HT.lexLt a b=true)) (G:=fun p s'=>s'={ s with heap:=h2 }/\eM bs.length p/\Up (rkL nss) p bs.length) rfl (by lia) (by lia) (fun p st s' hp ha hf hG=>⟨hG.1,hf,p.toList,by rw[kat_snds rfl ha,hv,bF3 hG.2.1],by have:=je.mp hG.2.1;simpa using this,cN7 nd (by rw[<-ht.1];exact hG.2.1) (by rw[<-ht.1];exact hG.2.2)⟩) ?_) ?_ (fun _ _ h=>h)
  rotate_left
  ·rintro⟨_,st⟩ s' ⟨rfl,f,p,e,pm,pw⟩
   dsimp only at f e ⊢
   refine aa (aAs hl2 rfl ?_);refine aa (zn hl2 rfl ?_ (bi _) (by show(Array.map (fun x=>x.snd) (arrOf st)).size<=_;rw[e,bf,ac];unfold iL;rw[ac,pm.length_eq,List.length_range];lia))
   try rw[f]
   dsimp only
   rw[ai (by simp)];refine am ?_;have hl3:=xj hl2 fun _=>Array.map (fun x=>x.snd) (arrOf st)
   refine q _ p _ (fun b o hb e0=>?_) (by rw[<-e];exact hl3) pm pw;rw[li _ _ _ _ hb];exact k2 _ _ (k1 _ _ hb e0)
  ·rw[vl];have hz:=ht.1;refine dL.wp (n:=bs.length) (f:=rkL nss) (fun i j C hi hj hC=>?_) (fun p hp=>⟨rfl,hp⟩) (cH1 (fun i j hi hj=>bY3 nd i j (by lia) (by lia)) (by lia));unfold kas_ask;obtain⟨its,x1,x2⟩:=ht2 i hi;obtain⟨jts,y1,y2⟩:=ht2 j hj;rw[xJ nd (by lia) (by lia)] at hC;have ei:vs.getD i Value.none= .ref (bs.getD i 0):=by rw[hv];simp[List.getD,hi]
   have ej:vs.getD j Value.none= .ref (bs.getD j 0):=by rw[hv];simp[List.getD,hj]
   rw[ei,ej];exact cW8 hu x1 x2 y1 y2 hk hC
end
def uG{bs:List Addr}{p:List Nat}(h:p.Perm (List.range bs.length)):(iL bs p).Perm bs:=by
 have:=h.map fun i=>bs.getD i 0
 rw[jU] at this;exact this
def aH9{nss:List (List Int)}{p:List Nat}(h:p.Perm (List.range nss.length)):(mC nss p).Perm nss:=by
 have:=h.map fun i=>nss.getD i []
 rw[jU] at this;exact this
def eA.pick{H:Hp}{bs:List Addr}{nss:List (List Int)}(t:eA H bs nss){p:List Nat}(h:p.Perm (List.range bs.length)):eA H (iL bs p) (mC nss p):=by
 refine⟨by unfold iL mC;rw[ac,ac],fun i b ns h1 h2=>?_⟩;unfold iL at h1;unfold mC at h2;rw[df] at h1 h2;obtain⟨j,hj,rfl⟩:=gz.mp h1;rw[hj] at h2
 cases h2
 have lj:j<bs.length:=by
  have:=h.mem_iff.mp (bj hj)
  simpa using this
 have ln:=t.1;refine t.2 j _ _ ?_ ?_
 ·rw[fD lj];exact bw lj
 ·dsimp only;rw[fD (by lia)];exact bw (by lia)
section
variable {X:Cx}{k:Nat}
def bS3{pins:List (Addr×Obj)}{σ:St}{H:Hp}{s:Shared}{bs:List Addr}{nss:List (List Int)}(I:aV X pins σ H s)(t:eA H bs nss):cS7 s.heap bs nss:=by
 refine⟨t.1,fun i hi=>?_⟩;have ln:=t.1;have ha:=t.2 i bs[i] nss[i] (bw hi) (bw (by lia));obtain⟨jts,rj,tp,_⟩:=I.tuple (aT.of ha);rw[fD hi,fD (by lia)];exact⟨jts.toArray,tp,rW (by simpa using rj)⟩
def tL{pins:List (Addr×Obj)}{σ:St}{H:Hp}{s:Shared}{Q:VK}{h':Heap}{d':Drawn}{t:Nat}{bs:List Addr}{nss:List (List Int)}(hr:dE k X.A)(I:aV X pins σ H s)(ht:eA H bs nss)(nd:nss.Nodup)(h64:bs.length<64)(keep:∀b o,s.heap.get? b=some o->h'.get? b=some o)(le:s.heap.objs.size<=h'.objs.size)
  (q:∀(bs':List Addr) (nss':List (List Int)),bs'.Perm bs->nss'.Perm nss->eA H bs' nss'->nss'.Pairwise (fun a b=>HT.lexLt a b=true)->∀l,H l=none->Q (.ref l) (aN H l (.lst (bs'.map V.ref)))) :
  wpAny (model X.prog X.w) X.A.in1 (newList (bs.map Value.ref)>>=fun l=>holding [l] (call (.builtin "list.sort") [l] [])>>=fun _=>ret l) (fun fin s'=>∃v,fin= .done (.ret v)/\EP X pins σ Q v s') X.xe { s with heap:=h',drawn:=d',toks:=t }:=by
 refine aa (wpAny_newList ?_ (by rw[jc,ac];lia));have un:=hr.units;have hoL:(h'.push (seqObj "list" (bs.map Value.ref).toArray 0)).get? h'.objs.size=some (seqObj "list" (bs.map Value.ref).toArray 0):=be _ rfl;have tc:=bS3 I ht;have k2:∀b o,s.heap.get? b=some o->(h'.push (seqObj "list" (bs.map Value.ref).toArray 0)).get? b=some o:=fun b o z=>ah _ (keep b o z)
 refine aa (ko (eg slot_list_sort ⟨_,hoL,rfl⟩ entry_list_sort (aL7 (nss:=nss) (by show X.A.units+1+1+1<cLine;lia) hoL h64 ⟨tc.1,fun i hi=>?_⟩ nd (fun b hb z=>?_) fun h'' p c k3 hD pm pw=>⟨_,rfl,?_⟩) (args_list_sort _)))
 ·obtain⟨its,⟨o,ho,r⟩,ix⟩:=tc.2 i hi;exact⟨its,⟨o,k2 _ _ ho,r⟩,ix⟩
 ·obtain⟨i,hi,e⟩:=zg.mp hb;obtain⟨its,⟨o,ho,r⟩,ix⟩:=tc.2 i hi;rw[fD hi,e,z] at ho;exact absurd (aw ho) (vm.mpr le)
 ·refine am ⟨_,rfl,?_⟩;refine⟨.ref h'.objs.size,_,(I.draw d').laid (t':=t) (o:= .lst ((iL bs p).map V.ref)) (fun b o z=>k3 b o (fun e=>absurd (aw z) (by rw[e];exact vm.mpr le)) (k2 b o z)) le ?_,rfl,q _ _ (uG pm) (aH9 (by rw[<-ht.1];exact pm)) (ht.pick pm) pw _ (I.hok.fresh le)⟩;refine⟨?_,(iL bs p).map Value.ref,c,lH _,hD⟩;rw[ac,(uG pm).length_eq];exact fi (aL (by lia))
where lH:∀bs:List Addr,bC (bs.map V.ref) (bs.map Value.ref)
 |[]=> .nil
 |b::r=> .cons rfl (lH r)
def zH(hr:dE k X.A):eU X (.builtin "sorted") (fun xs H Q=>∃(p:Addr) (bs:List Addr) (nss:List (List Int)),xs=[.ref p]/\bR X.K H p (bs.map V.ref)/\bs.length<64/\eA H bs nss/\nss.Nodup /\
  ∀(bs':List Addr) (nss':List (List Int)),bs'.Perm bs->nss'.Perm nss->eA H bs' nss'->nss'.Pairwise (fun a b=>HT.lexLt a b=true)->∀l,H l=none->Q (.ref l) (aN H l (.lst (bs'.map V.ref)))):=by
 intro pins s σ H xs us Q I r h;obtain⟨p,bs,nss,rfl,hq,hz,ht,nd,q⟩:=h;obtain⟨u,rfl,ru⟩:=jD r
 cases ru
 obtain⟨its,rv,pl,_⟩:=I.list hq;have e:its=bs.map Value.ref:=refs_of rv;subst e;refine vo kind_sorted plain_sorted entry_sorted (args_sorted1 _) ?_;unfold Builtin.«sorted»;refine aa (m:=checkCount "sorted" 1 1 _) (am ?_);refine aa (collect_list pl.isList ?_ (by rw[jc,ac];lia));refine tL (d':=s.drawn) (t:=s.toks) hr I ht nd hz (fun b o e=>?_) ?_ q
 ·rw[li _ _ _ _ (bv (aw e))];exact ah _ e
 ·rw[Heap.size_update,size_push'];lia
where refs_of:∀{bs:List Addr}{us:List Value},bC (bs.map V.ref) us->us=bs.map Value.ref
 |[],_,h=>by cases h;rfl
 |b::r,_,h=>by
  rw[bt] at h
  cases h with
  |cons h1 h2 =>
   cases h1
   rw[refs_of h2];rfl
end
open PySem PySem.Spec PyProof.Rows
def cR9(t:TE):TE:=fun σ H Q=>∃P:V->Hp->Prop,t σ H P/\∀v G,P v G->Q v G
def nN{X:Cx}{e:Expr}{t:TE}(h:PE X e t):PE X e (cR9 t):=by
 intro pins s σ H Q I ⟨P,h1,h2⟩;refine cW (h pins s σ H P I h1) ?_;rintro v s' ⟨x,G,I',r,p⟩;exact ⟨x,G,I',r,h2 x G p⟩
section
variable {X:Cx}
def bB4{e:Expr}{t1 t2:TE}(h1:PE X e t1)(h2:PE X e t2):PE X e (fun σ H Q=>t1 σ H Q\/t2 σ H Q):=fun pins s σ H Q I h=>h.elim (h1 pins s σ H Q I) (h2 pins s σ H Q I)
def cR4{tg l:Expr}{t1 t2:TI}(h1:PI X tg l t1)(h2:PI X tg l t2):PI X tg l (fun σ H R=>t1 σ H R\/t2 σ H R):=fun pins s σ H R I h=>h.elim (h1 pins s σ H R I) (h2 pins s σ H R I)
def bN4{f:Value}{r1 r2:List V->Hp->VK->Prop}(h1:eU X f r1)(h2:eU X f r2):eU X f (fun xs H Q=>r1 xs H Q\/r2 xs H Q):=fun pins s σ H xs us Q I v h=>h.elim (h1 pins s σ H xs us Q I v) (h2 pins s σ H xs us Q I v)
def aF3{pos:Pos}:PE X (.Dict [] [] pos) (fun σ H Q=>tDNewK σ H Q\/tDNewT σ H Q):=bB4 sK bJ3
def bD1{tg l:Expr}{tl:TE}(hl:PE X l tl):PI X tg l (fun σ H R=>aW4 tl σ H R\/aK5 tl σ H R):=cR4 (bM9 hl) (bH3 hl)
end
section
variable {X:Cx}{pos pos':Pos}{o i value:Expr}{td ty tv:TE}{k:Nat}
def cW0(P:Program)(w:World)(hP:X.prog=P:=by rfl)(hw:X.w=w:=by rfl):PE X (.Dict [] [] pos) (fun _ H Q=>∀p,H p=none->Q (.ref p) (aN H p (dN3 P w p []))):=by
 subst hP hw;exact fun pins s σ H Q I h=>vt ⟨.ref s.heap.objs.size,_,I.laid (a:=s.heap.objs.size) (o:=dN3 X.prog X.w s.heap.objs.size []) (t':=s.toks) (fun _ _ q=>ah _ q) (af _) (aV0 s.heap I.big),rfl,h _ (I.hok.fresh (af _))⟩
def cX5(P:Program)(w:World)(hr:dE k X.A)(ho:PE X o td)(hi:PE X i ty)(hs:bC7 i:=by exact fun _ _=>rfl)(hP:X.prog=P:=by rfl)(hw:X.w=w:=by rfl):PE X (.Subscript o i pos) (bF7 P w td ty):=by subst hP hw;exact aX4 hr ho hi hs
def cX9(P:Program)(w:World)(hr:dE k X.A)(ho:PE X o td)(hi:PE X i ty)(hv:PE X value tv)(hs:swapsWith value (some (.Subscript o i pos')) pos.line X.env=pure false:=by rfl)(hP:X.prog=P:=by rfl)(hw:X.w=w:=by rfl):PS X (.Assign [.Subscript o i pos'] value pos) (aY7 P w td ty tv):=by subst hP hw;exact bG1 hr ho hi hv hs
def cV6(P:Program)(w:World)(hr:dE k X.A)(hi:PE X i ty)(ho:PE X o td)(hP:X.prog=P:=by rfl)(hw:X.w=w:=by rfl):PC X .NotIn i o (aD8 P w ty td):=by subst hP hw;exact aH7 hr hi ho
end
def bX2{X:Cx}{pos:Pos}(P:Program)(w:World)(hP:X.prog=P:=by rfl)(hw:X.w=w:=by rfl):PE X (.Dict [] [] pos) (fun σ H Q=>(∀p,H p=none->Q (.ref p) (aN H p (dN3 P w p [])))\/tDNewK σ H Q):=bB4 (cW0 P w hP hw) sK
def cN{α:Type}{n:Nat}{us:List α}(h:us.length=n+1):∃u r,us=u::r/\r.length=n:=by
 cases us with
 |nil=>cases h
 |cons u r=>exact⟨u,r,rfl,su h⟩
section
variable {K:W.Frag}{x qual:Str}{st:Stmt}{f:Addr}{fd:FuncData}{p1 p2 p3 p4 p5:Str}
def yZ.b1(F:yZ K x qual st f fd)(h:∀(kV doc pm:Value) (an:Option Addr) (cdv ct u1:Value),bindArgs (W.fnOf x qual (cE st) (bX st) (bB st) .none kV doc pm an cdv ct) ⟨[u1],[]⟩=pure [(p1,u1)]):gM K fd [p1] []:=by
 refine F.binds fun kV doc pm an cdv ct us h0=>?_
 obtain⟨u1,r1,rfl,h1⟩:=cN (n:=0) h0
 cases iq.mp h1
 exact h kV doc pm an cdv ct u1
def yZ.b2(F:yZ K x qual st f fd)(h:∀(kV doc pm:Value) (an:Option Addr) (cdv ct u1 u2:Value),bindArgs (W.fnOf x qual (cE st) (bX st) (bB st) .none kV doc pm an cdv ct) ⟨[u1,u2],[]⟩=pure [(p1,u1),(p2,u2)]):gM K fd [p1,p2] []:=by
 refine F.binds fun kV doc pm an cdv ct us h0=>?_
 obtain⟨u1,r1,rfl,h1⟩:=cN (n:=1) h0;obtain⟨u2,r2,rfl,h2⟩:=cN (n:=0) h1
 cases iq.mp h2
 exact h kV doc pm an cdv ct u1 u2
def yZ.b3(F:yZ K x qual st f fd)(h:∀(kV doc pm:Value) (an:Option Addr) (cdv ct u1 u2 u3:Value),bindArgs (W.fnOf x qual (cE st) (bX st) (bB st) .none kV doc pm an cdv ct) ⟨[u1,u2,u3],[]⟩=pure [(p1,u1),(p2,u2),(p3,u3)]):gM K fd [p1,p2,p3] []:=by
 refine F.binds fun kV doc pm an cdv ct us h0=>?_
 obtain⟨u1,r1,rfl,h1⟩:=cN (n:=2) h0;obtain⟨u2,r2,rfl,h2⟩:=cN (n:=1) h1;obtain⟨u3,r3,rfl,h3⟩:=cN (n:=0) h2
 cases iq.mp h3
 exact h kV doc pm an cdv ct u1 u2 u3
def yZ.b4(F:yZ K x qual st f fd)(h:∀(kV doc pm:Value) (an:Option Addr) (cdv ct u1 u2 u3 u4:Value),bindArgs (W.fnOf x qual (cE st) (bX st) (bB st) .none kV doc pm an cdv ct) ⟨[u1,u2,u3,u4],[]⟩=pure [(p1,u1),(p2,u2),(p3,u3),(p4,u4)]):gM K fd [p1,p2,p3,p4] []:=by
 refine F.binds fun kV doc pm an cdv ct us h0=>?_
 obtain⟨u1,r1,rfl,h1⟩:=cN (n:=3) h0;obtain⟨u2,r2,rfl,h2⟩:=cN (n:=2) h1;obtain⟨u3,r3,rfl,h3⟩:=cN (n:=1) h2;obtain⟨u4,r4,rfl,h4⟩:=cN (n:=0) h3
 cases iq.mp h4
 exact h kV doc pm an cdv ct u1 u2 u3 u4
def yZ.b5(F:yZ K x qual st f fd)(h:∀(kV doc pm:Value) (an:Option Addr) (cdv ct u1 u2 u3 u4 u5:Value),bindArgs (W.fnOf x qual (cE st) (bX st) (bB st) .none kV doc pm an cdv ct) ⟨[u1,u2,u3,u4,u5],[]⟩=pure [(p1,u1),(p2,u2),(p3,u3),(p4,u4),(p5,u5)]):gM K fd [p1,p2,p3,p4,p5] []:=by
 refine F.binds fun kV doc pm an cdv ct us h0=>?_
 obtain⟨u1,r1,rfl,h1⟩:=cN (n:=4) h0;obtain⟨u2,r2,rfl,h2⟩:=cN (n:=3) h1;obtain⟨u3,r3,rfl,h3⟩:=cN (n:=2) h2;obtain⟨u4,r4,rfl,h4⟩:=cN (n:=1) h3;obtain⟨u5,r5,rfl,h5⟩:=cN (n:=0) h4
 cases iq.mp h5
 exact h kV doc pm an cdv ct u1 u2 u3 u4 u5
end
section
variable {K:W.Frag}{x qual:Str}{st:Stmt}{f:Addr}{fd:FuncData}{p1 p2 p3 p4 p5 p6:Str}
end
section
variable {P:Program}{w:World}{K:W.Frag}{mg:Str->Option Value}{base:Heap}
def Cl(P:Program)(w:World)(K:W.Frag)(mg:Str->Option Value)(base:Heap)(n:Nat)(sp:Sp)(x:Str):Prop:=∃f d ps,kK P w K mg base CX0 n f d ps sp/\gM K d ps []/\W.keepIn K (.ref f)=true/\mg x=some (.ref f)
def eV(P:Program)(w:World)(K:W.Frag)(mg:Str->Option Value)(base:Heap)(x q:Str)(st:Stmt)(n:Nat)(ps:List Str)(sp:Sp):Prop:=∀{f:Addr}{d:FuncData},yZ K x q st f d->kK P w K mg base CX0 n f d ps sp
def fL{x q:Str}{st:Stmt}{k:Nat}{ps:List Str}{sp:Sp}(N:List Str)
  (hb:∀{f:Addr}{cdv:Value}{A:Around}{outer:List Env}{s:Shared}{vs:List V}{E:XK}(H:Hp) (Q:VK),N.Nodup->dE k (A.deeper (envOfC q (bB st) s.heap.objs.size f cdv))->sp vs H Q E ->
   ∃t,yW (aF0 CX0 P w K mg base N q (bB st) f cdv A outer s H E).nox (bX st) t/\t { nx:=fun _ H'=>Q .non H',rt:=Q } (lV N vs) H)
  (len:∀vs H Q E,sp vs H Q E->vs.length=ps.length:=by intro _ _ _ _ h;(repeat obtain⟨_,h⟩:=h);subst_vars;rfl)
  (S:nI N ps (bB st):=by refine⟨rfl,rfl,rfl,?_,rfl,?_,?_⟩<;>decide):eV P w K mg base x q st (k+1) ps sp:=
 fun F=>F.ok S len fun _ _ _ _ H _ Q _ hr h=>hb H Q S.nd hr h
def DefAt(K:W.Frag)(x q:Str)(st:Stmt)(f:Addr):Prop:=∃(oc:Value) (od:Option Addr) (kV dc pm:Value) (an:Option Addr) (cd ct:Value) (sl:Array (Option Value)),K.lookup f=some ⟨oc,od,.func (W.fnOf x q (cE st) (bX st) (bB st) .none kV dc pm an cd ct),sl⟩/\W.codeIn K cd q=true/\W.keepIn K (.ref f)=true
def TopAt(K:W.Frag)(x:Str)(st:Stmt):Prop:=∃f,W.nsIn K mainGlobals x=some (some (.ref f))/\DefAt K x x st f
def DefAt.of{x q:Str}{st:Stmt}{f:Addr}{oc:Value}{od:Option Addr}{kV dc pm:Value}{an:Option Addr}{cd ct:Value}{sl:Array (Option Value)}(l:K.lookup f=some ⟨oc,od,.func (W.fnOf x q (cE st) (bX st) (bB st) .none kV dc pm an cd ct),sl⟩)(c:W.codeIn K cd q=true)(k:W.keepIn K (.ref f)=true):DefAt K x q st f:=⟨_,_,_,_,_,_,_,_,_,l,c,k⟩
def TopAt.of{x:Str}{st:Stmt}{f:Addr}{oc:Value}{od:Option Addr}{kV dc pm:Value}{an:Option Addr}{cd ct:Value}{sl:Array (Option Value)}(a:W.nsIn K mainGlobals x=some (some (.ref f)))(l:K.lookup f=some ⟨oc,od,.func (W.fnOf x x (cE st) (bX st) (bB st) .none kV dc pm an cd ct),sl⟩)(c:W.codeIn K cd x=true)(k:W.keepIn K (.ref f)=true):TopAt K x st:=⟨_,a,.of l c k⟩
def DefAt.fn{x q:Str}{st:Stmt}{f:Addr}:DefAt K x q st f->∃d,yZ K x q st f d
 |⟨_,_,_,_,_,_,_,_,_,l,c,k⟩=>⟨_,aY8 l c k⟩
structure Zx(P:Program)(w:World)(K:W.Frag)(mg:Str->Option Value)(base:Heap):Prop where
 ns:∀x u,W.nsIn K mainGlobals x=some (some u)->mg x=some u
 no:∀x,W.nsIn K mainGlobals x=some none->mg x=none
def Zx.of{h:Heap}(X:K.In h)(G:h.Ns mainGlobals mg):Zx P w K mg base:=⟨fun _ _ e=>W.mg_of X G e,fun _ e=>W.mg_none_of X G e⟩
variable {x p1 p2 p3 p4 p5 p6:Str}{st:Stmt}{n:Nat}{sp:Sp}
def Zx.cl(Z:Zx P w K mg base)(t:TopAt K x st){ps:List Str}(ok:eV P w K mg base x x st n ps sp)(b:∀{f d},yZ K x x st f d->gM K d ps []):Cl P w K mg base n sp x:=
 let⟨_,a,t⟩:=t;let⟨_,F⟩:=t.fn;⟨_,_,_,ok F,b F,F.kp,Z.ns _ _ a⟩
def Zx.c1(Z:Zx P w K mg base)(t:TopAt K x st)(ok:eV P w K mg base x x st n [p1] sp)(h:∀(kV doc pm:Value) (an:Option Addr) (cdv ct u1:Value),bindArgs (W.fnOf x x (cE st) (bX st) (bB st) .none kV doc pm an cdv ct) ⟨[u1],[]⟩=pure [(p1,u1)]:=by intros;rfl):Cl P w K mg base n sp x:=Z.cl t ok fun F=>F.b1 h
def Zx.c2(Z:Zx P w K mg base)(t:TopAt K x st)(ok:eV P w K mg base x x st n [p1,p2] sp)(h:∀(kV doc pm:Value) (an:Option Addr) (cdv ct u1 u2:Value),bindArgs (W.fnOf x x (cE st) (bX st) (bB st) .none kV doc pm an cdv ct) ⟨[u1,u2],[]⟩=pure [(p1,u1),(p2,u2)]:=by intros;rfl):Cl P w K mg base n sp x:=Z.cl t ok fun F=>F.b2 h
def Zx.c3(Z:Zx P w K mg base)(t:TopAt K x st)(ok:eV P w K mg base x x st n [p1,p2,p3] sp)(h:∀(kV doc pm:Value) (an:Option Addr) (cdv ct u1 u2 u3:Value),bindArgs (W.fnOf x x (cE st) (bX st) (bB st) .none kV doc pm an cdv ct) ⟨[u1,u2,u3],[]⟩=pure [(p1,u1),(p2,u2),(p3,u3)]:=by intros;rfl):Cl P w K mg base n sp x:=Z.cl t ok fun F=>F.b3 h
def Zx.c4(Z:Zx P w K mg base)(t:TopAt K x st)(ok:eV P w K mg base x x st n [p1,p2,p3,p4] sp)(h:∀(kV doc pm:Value) (an:Option Addr) (cdv ct u1 u2 u3 u4:Value),bindArgs (W.fnOf x x (cE st) (bX st) (bB st) .none kV doc pm an cdv ct) ⟨[u1,u2,u3,u4],[]⟩=pure [(p1,u1),(p2,u2),(p3,u3),(p4,u4)]:=by intros;rfl):Cl P w K mg base n sp x:=Z.cl t ok fun F=>F.b4 h
def Zx.c5(Z:Zx P w K mg base)(t:TopAt K x st)(ok:eV P w K mg base x x st n [p1,p2,p3,p4,p5] sp)(h:∀(kV doc pm:Value) (an:Option Addr) (cdv ct u1 u2 u3 u4 u5:Value),bindArgs (W.fnOf x x (cE st) (bX st) (bB st) .none kV doc pm an cdv ct) ⟨[u1,u2,u3,u4,u5],[]⟩=pure [(p1,u1),(p2,u2),(p3,u3),(p4,u4),(p5,u5)]:=by intros;rfl):Cl P w K mg base n sp x:=Z.cl t ok fun F=>F.b5 h
def okn{q:Str}{k:Nat}{ps:List Str}:eV P w K mg base x q st k ps (fun _ _ _ _=>False):=fun _=>⟨fun _ _ _ _ h=>h.elim,fun _ _ _ _ _ _ _ _ _ _ _ _ _ h=>h.elim⟩
end
section
variable {X:Cx}{x:Str}{p pos pos':Pos}{e:Expr}{es:List Expr}{t:TA}{te:TE}
def bP{k:Nat}{sp:Sp}(C:Cl X.prog X.w X.K X.mg X.base k sp x){n:Nat}(hr:dE n X.A)(ha:PA X (e::es) t)(hn:k<=n:=by first|decide|lia)(hg:Gl X x:=by rfl)(hdb:(x==("__debug__": Str))=false:=by decide)(he:starEach (e::es) X.env=(false,eval e X.env)::starEach es X.env:=by rfl)
  (hpl:(backTo pos (starEach es X.env)).any (·.1)=false:=by rfl):PE X (.Call (.Name x p) (e::es) [] pos) (aZ8 sp [] E0 t):=let⟨_,_,_,g,b,k,m⟩:=C;aQ8 g (hr.mono hn) hg m k b .nil bE9 ha hdb he hpl
def cZ(i:Nat){rest:List Stmt}{u:TS}(hN:X.N.Nodup)(he:PE X e te)(h2:yW X rest u)(hi:X.N[i]?=some x:=by rfl)(hx:Loc X.env.scope x:=by first|exact oo rfl|exact vw rfl)(hs:swapsWith e (some (.Name x pos')) pos.line X.env=pure false:=by rfl)
  (hf:X.fn x=true\/X.env.scope.names.lookup x=some .local:=by first|exact .inl rfl|exact .inr rfl|assumption):yW X (.Assign [.Name x pos'] e pos::rest) (cL8 (bF9 te (xB i)) u):=aF (aK7 hN hi hx he hs hf) h2
def psz(i:Nat)(hN:X.N.Nodup)(he:PE X e te)(hi:X.N[i]?=some x:=by rfl)(hx:Loc X.env.scope x:=by first|exact oo rfl|exact vw rfl)(hs:swapsWith e (some (.Name x pos')) pos.line X.env=pure false:=by rfl)
  (hf:X.fn x=true\/X.env.scope.names.lookup x=some .local:=by first|exact .inl rfl|exact .inr rfl|assumption):PS X (.Assign [.Name x pos'] e pos) (bF9 te (xB i)):=aK7 hN hi hx he hs hf
def gX(i:Nat)(hN:X.N.Nodup:=by dsimp only[cI];decide)(hi:X.N[i]?=some x:=by rfl)(hx:Loc X.env.scope x:=by first|exact oo rfl|exact vw rfl)(hf:X.fn x=true\/X.env.scope.names.lookup x=some .local:=by first|exact .inl rfl|exact .inr rfl|assumption):PG X (.Name x pos) (xB i):=bL5 hN hi hx hf
def xN{tg iter:Expr}{body:List Stmt}{wi:TI}{g:TG}{tb:TS}(hi:PI X tg iter wi)(hg:PG X tg g)(hb:yW X body tb)(hp:PassesOwn (model X.prog X.w) X.A X.env X.xe:=by exact ij)(hc:X.calm=true:=by rfl)
  (hs:∀x,foldedSetIterable iter X.env x=pure x:=by intro _;rfl):PS X (.For tg iter body [] pos) (cO1 wi g tb):=cG9 hp hc hi hg hb hs
variable {id T:String}{r:List V->Hp->VK->Prop}
def pB(hc:eU X (.builtin id) r)(hm:X.mg x=none)(hv:bootBuiltins x=some (.builtin id))(ha:PA X (e::es) t)(hg:Gl X x:=by rfl)(hn:x≠"__name__":=by decide)(hdb:(x==("__debug__": Str))=false:=by decide)
  (he:starEach (e::es) X.env=(false,eval e X.env)::starEach es X.env:=by rfl) (hpl:(backTo pos (starEach es X.env)).any (·.1)=false:=by rfl):PE X (.Call (.Name x p) (e::es) [] pos) (tCB r t):=bK4 hc hg hm hv ha hn hdb he hpl
def uX(hc:eU X (.type T) r)(hm:X.mg x=none)(hv:bootBuiltins x=some (.type T))(ha:PA X (e::es) t)(hg:Gl X x:=by rfl)(hn:x≠"__name__":=by decide)(hdb:(x==("__debug__": Str))=false:=by decide)
  (he:starEach (e::es) X.env=(false,eval e X.env)::starEach es X.env:=by rfl) (hpl:(backTo pos (starEach es X.env)).any (·.1)=false:=by rfl):PE X (.Call (.Name x p) (e::es) [] pos) (tCB r t):=aS4 hc hg hm hv ha hn hdb he hpl
variable {a b:Expr}{ta tb:TE}
def bQ{r:R2}(hr:IxR X r)(ha:PE X a ta)(hb:PE X b tb)(hs:aQ2 b:=by exact fun _ _=>rfl):PE X (.Subscript a b pos) (tOp r ta tb):=cR2 hr ha hb hs
def eO{op:CmpOp}{r:R2}(ho:kM X (compareOp op) r)(ha:PE X a ta)(hb:PE X b tb)(hm:behindInMarks op b=false:=by first|exact bH8 _|rfl):PT X (.Compare a [op] [b] pos) (bV3 (tOp r ta tb)):=bM1 ho ha hb hm
def pec{op:CmpOp}{r:R2}(ho:kM X (compareOp op) r)(ha:PE X a ta)(hb:PE X b tb)(hm:behindInMarks op b=false:=by first|exact bH8 _|rfl):PE X (.Compare a [op] [b] pos) (tOp r ta tb):=bR0 ho ha hb hm
def qH(hu:X.A.units+1<cLine)(ho:PE X a ta)(hi:PE X b tb)(hs:bC7 b:=by exact fun _ _=>rfl):PE X (.Subscript a b pos) (bV6 ta tb):=bR5 hu ho hi hs
def pdp{tv:TE}(hu:X.A.units+1<cLine)(ho:PE X a ta)(hi:PE X b tb)(hv:PE X e tv)(hs:swapsWith e (some (.Subscript a b pos')) pos.line X.env=pure false:=by rfl):PS X (.Assign [.Subscript a b pos'] e pos) (bU9 ta tb tv):=bP7 hu ho hi hv hs
def aQ(ha:PE X a ta)(h:starEach [a] X.env=[(false,eval a X.env)]:=by rfl):PA X [a] (bW3 ta tNil):=aA ha eL h
def pgl{v:Addr}(hm:X.mg x=some (.ref v))(hg:Gl X x:=by rfl)(hd:(x==("__debug__": Str))=false:=by decide):PE X (.Name x pos) (tC (.ref v)):=rF hg hm rfl hd
end
end L2
namespace Mine
open PySem L2
def cV(S:List Addr)(H H':Hp):Prop:=∀b o,H b=some o->b∉S->H' b=some o
def cV.refl{S:List Addr}(H:Hp):cV S H H:=fun _ _ e _=>e
def cV.trans{S:List Addr}{H H1 H2:Hp}(a:cV S H H1)(b:cV S H1 H2):cV S H H2:=fun c o e h=>b c o (a c o e h) h
def cV.of{S:List Addr}{H H':Hp}(s:aR H H'):cV S H H':=fun c o e _=>s c o e
def cV.up{S:List Addr}{H H1:Hp}{p:Addr}{o:HO}(a:cV S H H1)(h:p∈S):cV S H (aN H1 p o):=fun b u e n=>by
 rw[aH fun z=>n (by rw[z];exact h)];exact a b u e n
mutual
def vP:Rw->List (List RKey)
 |.thr _ x T _ wss=>[fH x T wss]
 |.lt _ _ _=>[]
 |.tell _ _=>[]
 |.when _ _ _ _ a b=>dB a++dB b
 |.times _ _ _ b=>dB b
def dB:List Rw->List (List RKey)
 |[]=>[]
 |r::rs=>vP r++dB rs
end
def iY:∀(rs qs:List Rw),dB (rs++qs)=dB rs++dB qs
 |[],qs=>rfl
 |r::rs,qs=>by simp only[List.cons_append,dB,iY rs qs,List.append_assoc]
def wA{b:List Rw}:∀{n:Nat}{k:List RKey},k∈dB (kH n b)->k∈dB b
 |0,_,h=>absurd h di
 |n+1,k,h=>by
  rw[kH,iY] at h;rcases br.mp h with h|h
  ·exact h
  ·exact wA h
def uV(H:Hp):V->List Rw->Prop
 |v,[]=>v= .non
 |v,r::rs=>∃c v',v= .ref c/\H c=some (.tup [.ref r.p,v'])/\uV H v' rs
def uV.ts{H H':Hp}(t:TS H H'):∀{v:V}{rs:List Rw},uV H v rs->uV H' v rs
 |_,[],h=>h
 |_,_::_,⟨c,v',e,h,k⟩=>⟨c,v',e,t _ _ h,k.ts t⟩
def jX(cv:V)(kd tl sp:Addr):List (Str×V):=[("coming",cv),("known",.ref kd),("told",.ref tl),("share",.ref sp)]
structure RnT(K:W.Frag)(C:Addr):Prop where
 cl:Cls K C
 n1:iU K C "coming"
 n2:iU K C "known"
 n3:iU K C "told"
 n4:iU K C "share"
def aR0(cv:V)(kd tl sp:Addr):gJ "share" (.ref sp) (gJ "told" (.ref tl) (gJ "known" (.ref kd) (gJ "coming" cv [])))=jX cv kd tl sp:=by
 have h1:¬(("coming": Str)="known"):=by decide
 have h2:¬(("coming": Str)="told"):=by decide
 have h3:¬(("known": Str)="told"):=by decide
 have h4:¬(("coming": Str)="share"):=by decide
 have h5:¬(("known": Str)="share"):=by decide
 have h6:¬(("told": Str)="share"):=by decide
 simp only[gJ,if_neg h1,if_neg h2,if_neg h3,if_neg h4,if_neg h5,if_neg h6,jX]
def nV(cv:V)(kd tl sp:Addr):(jX cv kd tl sp).lookup ("coming": Str)=some cv/\(jX cv kd tl sp).lookup ("known": Str)=some (.ref kd)/\(jX cv kd tl sp).lookup ("told": Str)=some (.ref tl)/\(jX cv kd tl sp).lookup ("share": Str)=some (.ref sp):=by
 rw[<-aR0];simp only[kR];refine⟨?_,?_,?_,?_⟩
 ·rw[ai (by decide),ai (by decide),ai (by decide),ao trivial]
 ·rw[ai (by decide),ai (by decide),ao trivial]
 ·rw[ai (by decide),ao trivial]
 ·rw[ao trivial]
def qP(cv cv':V)(kd tl sp:Addr):gJ "coming" cv' (jX cv kd tl sp)=jX cv' kd tl sp:=by
 simp only[jX,gJ,if_pos]
def dU(ks:List Str)(e:Ev):List (Key×V):=ks.map fun y=>(.inr y,.int (e y))
def zP{ks:List Str}{e:Ev}{x:Str}(h:x∈ks):dA (dU ks e) (Sum.inr x)=some (.int (e x)):=by
 induction ks with
 |nil=>exact absurd h di
 |cons k ks ih =>
  by_cases c:k=x
  ·subst c;exact bL (p:=((Sum.inr k:Key),V.int (e k))) rfl
  ·exact(aO (p:=((Sum.inr k:Key),V.int (e k))) (r:=dU ks e) (k:=Sum.inr x) (fun z=>c (cy z))).trans (ih ((az.mp h).resolve_left fun z=>c z.symm))
def dP(ks:List Str)(x:Str):List Str:=if x∈ks then ks else ks++[x]
def oK{ks:List Str}{e:Ev}{x:Str}{v:Int}:cH (dU ks e) (Sum.inr x) (.int v)=dU (dP ks x) (cF e x v):=by
 by_cases h:x∈ks
 ·unfold cH dP;rw[ao (by rw[dQ,zP h];rfl),ao h];unfold dU;rw[jl];refine gc fun k _=>?_
  show(if ((Sum.inr k:Key)=Sum.inr x) then ((Sum.inr k:Key),V.int v) else (Sum.inr k,V.int (e k)))=(.inr k,.int (cF e x v k))
  unfold cF
  by_cases c:k=x
  ·subst c;simp
  ·rw[ai (fun z=>c (cy z)),ai c]
 ·have hk:(Sum.inr x:Key)∉(dU ks e).map (·.1):=fun z=>by
   unfold dU at z;rw[jl] at z;obtain⟨y,hy,ey⟩:=ci.mp z;exact h (by rw[<-(cy (show(Sum.inr y:Key)=Sum.inr x from ey))];exact hy)
  unfold dP;rw[ai h];have e1:cH (dU ks e) (Sum.inr x) (.int v)=dU ks e++[(.inr x,.int v)]:=by
   have nn:dA (dU ks e) (Sum.inr x)=none:=by
    clear hk
    induction ks with
    |nil=>rfl
    |cons k ks ih =>
     have hn:=fun z=>h (ae k z)
     exact(aO (p:=((Sum.inr k:Key),V.int (e k))) (r:=dU ks e) (k:=Sum.inr x) (fun z=>h (by rw[<-cy z];exact aj))).trans (ih hn)
   unfold cH;rw[ai (by rw[dQ,nn];decide)]
  rw[e1];unfold dU;rw[aq]
  congr 1
  ·refine gc fun k hk=>?_
   unfold cF;rw[ai fun z=>h (by rw[<-z];exact hk)]
  ·simp[cF]
def oN{ks:List Str}{x:Str}:kJ (x::ks) (dP ks x):=fun y hy=>by
 unfold dP
 by_cases h:x∈ks
 ·rw[ao h];rcases az.mp hy with e|e
  ·rw[e];exact h
  ·exact e
 ·rw[ai h];rcases az.mp hy with e|e
  ·rw[e];exact cg _ aj
  ·exact dw _ e
def iQ{ks:List Str}{x:Str}:kJ (dP ks x) (x::ks):=fun y hy=>by
 unfold dP at hy
 by_cases h:x∈ks
 ·rw[ao h] at hy;exact ae _ hy
 ·rw[ai h] at hy;rcases br.mp hy with e|e
  ·exact ae _ e
  ·rw[av.mp e];exact aj
def qZ{ks:List Str}{x:Str}(n:ks.Nodup):(dP ks x).Nodup:=by
 unfold dP
 by_cases h:x∈ks
 ·rw[ao h];exact n
 ·rw[ai h];refine iw.mpr ⟨n,by simp,fun a ha b hb e=>h ?_⟩;rw[<-av.mp hb, <-e];exact ha
structure kO(C:Addr)(NM:List Str)(H:Hp)(x kd tl:Addr)(ks:List Str)(r:Rn):Prop where
 ex:∃dx cv sp,H x=some (.ins C dx (jX cv kd tl sp))/\uV H cv r.rs/\aY H sp r.sh.1 r.sh.2
 kn:H kd=some (.dK (dU ks r.e))
 nd:ks.Nodup
 sb:kJ ks NM
 tl:H tl=some (.lst (r.td.map V.int))
 rw:bO H r.rs
def kO.ts{C:Addr}{NM:List Str}{H H':Hp}{x kd tl:Addr}{ks:List Str}{r:Rn}(h:kO C NM H x kd tl ks r)(t:TS H H')(e1:H' x=H x)(e2:H' kd=H kd)(e3:H' tl=H tl):kO C NM H' x kd tl ks r:=by
 obtain⟨⟨dx,cv,sp,a,b,c⟩,d,n,s,f,g⟩:=h;exact⟨⟨dx,cv,sp,e1.trans a,b.ts t,t _ _ c⟩,e2.trans d,n,s,e3.trans f,bO.ts t _ g⟩
def kO.same{C:Addr}{NM:List Str}{H H':Hp}{x kd tl:Addr}{ks:List Str}{r:Rn}(h:kO C NM H x kd tl ks r)(s:aR H H'):kO C NM H' x kd tl ks r:=by
 obtain⟨dx,cv,sp,a,_⟩:=h.ex;exact h.ts (.of s) ((s _ _ a).trans a.symm) ((s _ _ h.kn).trans h.kn.symm) ((s _ _ h.tl).trans h.tl.symm)
structure GdK(NM:List Str)(KS:List (List RKey))(cs:List Int)(M:Int)(ks:List Str)(r:Rn):Prop where
 g:Gd NM cs M ks r
 k:∀k∈dB r.rs,k∈KS
def Gd.sbs{NM:List Str}{cs:List Int}{M:Int}{D D':List Str}{r:Rn}(g:Gd NM cs M D r)(h:kJ D D')(h':kJ D' D):Gd NM cs M D' r:=⟨g.ok,fO _ h g.kn,fun x hx=>g.bd x (h' x hx),g.tl,g.tb,g.sh⟩
def spPut:Sp:=fun vs H Q _=>∃(pa:Addr) (cv:V) (a rs:List Rw),vs=[.ref pa,cv]/\H pa=some (.tup (bK a))/\uV H cv rs/\∀H' cv',aR H H'->uV H' cv' (a++rs)->Q cv' H'
def cL1:Rw->Prop
 |.thr .. =>True
 |_=>False
def bE2(C:Addr):Sp:=fun vs H Q _=>∃(x kd tl:Addr) (NM:List Str) (KS:List (List RKey)) (cs:List Int) (M:Int) (ks:List Str) (r:Rw) (rs:List Rw) (e:Ev) (td:List Int) (sh:Int×Int),vs=[.ref x,.ref r.p] /\
 kO C NM H x kd tl ks ⟨rs,e,td,sh⟩/\vN H r/\¬cL1 r/\NM.length<=100/\GdK NM KS cs M ks ⟨r::rs,e,td,sh⟩ /\
 ∀H' ks' rn',kO C NM H' x kd tl ks' rn'->GdK NM KS cs M ks' rn'->Nx cs ⟨r::rs,e,td,sh⟩ rn'->aP rn'.rs<aP (r::rs)->cV [x,kd,tl] H H'->Q .non H'
def bI2(C:Addr):Sp:=fun vs H Q _=>∃(x kd tl:Addr) (NM:List Str) (KS:List (List RKey)) (cs:List Int) (M:Int) (ks:List Str) (rn:Rn),vs=[.ref x]/\kO C NM H x kd tl ks rn/\NM.length<=100/\GdK NM KS cs M ks rn /\
 (∀H' ks' rn',kO C NM H' x kd tl ks' rn'->rn'.rs=[]->GdK NM KS cs M ks' rn'->Nx cs rn rn'->cV [x,kd,tl] H H'->Q .non H') /\
 ∀H' ks' (rn':Rn) p y T a3 wss,kO C NM H' x kd tl ks' rn'->vN H' (.thr p y T a3 wss)->GdK NM KS cs M ks' ⟨.thr p y T a3 wss::rn'.rs,rn'.e,rn'.td,rn'.sh⟩->Nx cs rn ⟨.thr p y T a3 wss::rn'.rs,rn'.e,rn'.td,rn'.sh⟩->cV [x,kd,tl] H H'->Q (.ref p) H'
def aN3(K:W.Frag)(C:Addr):Sp:=fun vs H Q _=>∃(x dx kd tl sp:Addr) (cv:V),vs=[.ref x,cv,.ref kd,.ref tl,.ref sp]/\H x=some (.ins C dx [])/\∀H',(∀b,b≠x->H' b=H b)->H' x=some (.ins C dx (jX cv kd tl sp))->Q .non H'
def bF2{f:Str}{v:V}{fs:List (Str×V)}{n:Nat}(h:fs.length<=n):(gJ f v fs).length<=n+1:=by
 induction fs generalizing n with
 |nil=>simp[gJ]
 |cons a r ih =>
  unfold gJ
  split
  ·rw[bo] at h ⊢;lia
  ·rw[bo] at h ⊢;have:=ih (n:=n-1) (by lia);lia
def gY{β:Type}[DecidableEq β]:∀{l m:List β},l.Nodup->(∀x∈l,x∈m)->l.length<=m.length
 |[],m,_,_=>bi _
 |x::r,m,nd,hs=>by
  have hx:=hs x aj;have nd:=ka.mp nd;have ih:=gY (m:=m.erase x) nd.2 fun y hy=>(List.mem_erase_of_ne fun e=>nd.1 (by rw[<-e];exact hy)).mpr (hs y (ae _ hy))
  rw[List.length_erase_of_mem hx] at ih;have:=List.length_pos_of_mem hx;rw[bo];lia
def bC6:List Str:=["ladder","flat","choose","first"]
def cF6:∀T:dY,inV (.str T.wd) (bC6.map V.str)=true
 |.lad .. =>by show inV (.str "ladder") _=true;decide
 |.fla .. =>by show inV (.str "flat") _=true;decide
 |.cho .. =>by show inV (.str "choose") _=true;decide
 |.fst .. =>by show inV (.str "first") _=true;decide
def dO:∀xs:List Str,(xs.map V.str).all mE=true
 |[]=>rfl
 |x::xs=>by rw[bt,ux,dO xs];rfl
def aQ4:∀l:List Tm,l.length<=(l.flatMap Tm.pre).length
 |[]=>af _
 |t::r=>by have:=aQ4 r;have:=t.size_pos;rw[bo,gj,bg,Tm.pre_len];lia
def cV5:¬(V.str "num"=V.str "op"):=by decide
def cX4:¬(V.str "name"=V.str "op"):=by decide
def wNN:¬(V.str "name"=V.str "num"):=by decide
def wON:¬(V.str "op"=V.str "num"):=by decide
def wOM:¬(V.str "op"=V.str "name"):=by decide
def wH{H:Hp}{a:Addr}{o o':HO}(h:H a=some o)(hn:∀xs,o≠ .tup xs):TS H (aN H a o'):=fun b ys e=>by
 by_cases c:b=a
 ·subst c;rw[h] at e;exact absurd (cq e) (hn ys)
 ·rw[aH c];exact e
section
variable {C:Addr}{NM:List Str}{H H1:Hp}{X kd tl:Addr}{ks:List Str}{rs:List Rw}{e:Ev}{td:List Int}{sh:Int×Int}
def kO.ne(h:kO C NM H X kd tl ks ⟨rs,e,td,sh⟩):X≠kd/\X≠tl/\kd≠tl:=by
 obtain⟨dx,cv,sp,a,_⟩:=h.ex;exact⟨gE a h.kn (by intro z;cases z),gE a h.tl (by intro z;cases z),gE h.kn h.tl (by intro z;cases z)⟩
def cN5{x:Str}{v:Int}(h:kO C NM H X kd tl ks ⟨rs,e,td,sh⟩)(hx:x∈NM):kO C NM (aN H kd (.dK (cH (dU ks e) (Sum.inr x) (.int v)))) X kd tl (dP ks x) ⟨rs,cF e x v,td,sh⟩/\cV [X,kd,tl] H (aN H kd (.dK (cH (dU ks e) (Sum.inr x) (.int v)))):=by
 have n:=h.ne;obtain⟨⟨dx,cv,sp,a,b,c⟩,d,nd,sb,f,g⟩:=h;have t:=wH (o':= .dK (cH (dU ks e) (Sum.inr x) (.int v))) d (by intro xs z;cases z);refine⟨⟨⟨dx,cv,sp,(aH n.1).trans a,b.ts t,t _ _ c⟩,by rw[aD,oK],qZ nd,fun y hy=>?_,(aH n.2.2.symm).trans f,bO.ts t _ g⟩,(cV.refl H).up (by simp)⟩;rcases az.mp (iQ y hy) with z|z
 ·rw[z];exact hx
 ·exact sb y z
def bS8{v:Int}(h:kO C NM H X kd tl ks ⟨rs,e,td,sh⟩):kO C NM (aN H tl (.lst (td.map V.int++[.int v]))) X kd tl ks ⟨rs,e,td++[v],sh⟩/\cV [X,kd,tl] H (aN H tl (.lst (td.map V.int++[.int v]))):=by
 have n:=h.ne;obtain⟨⟨dx,cv,sp,a,b,c⟩,d,nd,sb,f,g⟩:=h;have t:=wH (o':= .lst (td.map V.int++[.int v])) f (by intro xs z;cases z);exact⟨⟨⟨dx,cv,sp,(aH n.2.1).trans a,b.ts t,t _ _ c⟩,(aH n.2.2).trans d,nd,sb,by rw[aD,aq];rfl,bO.ts t _ g⟩,(cV.refl H).up (by simp)⟩
def xU{dx sp:Addr}{cv cv':V}{rs':List Rw}(h:kO C NM H X kd tl ks ⟨rs,e,td,sh⟩)(hX:H X=some (.ins C dx (jX cv kd tl sp)))(hc:uV H cv' rs')(hr:bO H rs') :
  kO C NM (aN H X (.ins C dx (jX cv' kd tl sp))) X kd tl ks ⟨rs',e,td,sh⟩/\cV [X,kd,tl] H (aN H X (.ins C dx (jX cv' kd tl sp))):=by
 have n:=h.ne;obtain⟨⟨dx',cv'',sp',a,b,c⟩,d,nd,sb,f,g⟩:=h;have ea:=a.symm.trans hX;have t:=wH (o':= .ins C dx (jX cv' kd tl sp)) hX (by intro xs z;cases z);have esp:sp'=sp:=by
  injection ea with ea
  injection ea with _ _ ea
  unfold jX at ea;injection ea with _ ea
  injection ea with _ ea
  injection ea with _ ea
  injection ea with ea _
  injection ea with _ ea
  injection ea
 subst esp;exact⟨⟨⟨dx,cv',sp',aD,hc.ts t,t _ _ c⟩,(aH n.1.symm).trans d,nd,sb,(aH n.2.1.symm).trans f,bO.ts t _ hr⟩,(cV.refl H).up (by simp)⟩
end
def Gd.dv{NM:List Str}{cs:List Int}{M:Int}{ks:List Str}{r:Rn}{H:Hp}{kd:Addr}{ns:List Str}(g:Gd NM cs M ks r)(h:H kd=some (.dK (dU ks r.e)))(hn:∀x∈ns,x∈ks):Dv H kd r.e ns:=
 ⟨⟨_,h,fun x hx=>zP (hn x hx),fun q hq=>by obtain⟨y,_,rfl⟩:=ci.mp hq;exact⟨_,rfl⟩⟩,fun x hx=>g.bd x (hn x hx)⟩
def sM{ks NM:List Str}{e:Ev}(nd:ks.Nodup)(sb:kJ ks NM)(h:NM.length<=100):(dU ks e).length<sizeLine:=by
 have l:=gY nd sb;unfold dU;rw[ac];exact aL (by lia)
abbrev En:=List Int×Int×Int
def xG:Bool->Hp->V->List Int->Prop
 |true,H,v,a=>∃p,v= .ref p/\H p=some (.tup (a.map V.int))
 |false,_,v,a=>∃n,a=[n]/\v= .int n
def xG.ts{H H':Hp}(t:TS H H'):∀{b:Bool}{v:V}{a:List Int},xG b H v a->xG b H' v a
 |true,_,_,⟨p,e,h⟩=>⟨p,e,t _ _ h⟩
 |false,_,_,h=>h
def qU(b:Bool)(H:Hp)(v:V)(e:En):Prop:=∃p x q,v= .ref p/\H p=some (.tup [x,.ref q])/\xG b H x e.1/\aY H q e.2.1 e.2.2
def qU.ts{H H':Hp}(t:TS H H'){b:Bool}{v:V}{e:En}(h:qU b H v e):qU b H' v e:=
 let⟨p,x,q,e1,h1,h2,h3⟩:=h;⟨p,x,q,e1,t _ _ h1,h2.ts t,t _ _ h3⟩
def yF(b:Bool)(H:Hp)(t:Addr)(es:List En):Prop:=∃us,H t=some (.tup us)/\dH (qU b H) us es
def yF.ts{H H':Hp}(s:TS H H'){b:Bool}{t:Addr}{es:List En}(h:yF b H t es):yF b H' t es:=
 let⟨us,h1,h2⟩:=h;⟨us,s _ _ h1,h2.mono fun _ _ z=>z.ts s⟩
def aG4(H:Hp):Option V->Option (Int×Int)->Prop
 |none,none=>True
 |some v,some f=>FrR H v f
 |_,_=>False
def aG4.ts{H H':Hp}(t:TS H H'):∀{o:Option V}{f:Option (Int×Int)},aG4 H o f->aG4 H' o f
 |none,none,_=>trivial
 |some _,some _,h=>FrR.ts t h
 |none,some _,h=>h
 |some _,none,h=>h
def aI2(ns:List Int):(ns.map Sum.inl:List Key).map kV=ns.map V.int:=by
 rw[jl];rfl
def bB2{w c:Int}(h0:0<=w)(h1:1<=c):aW (1*(aW w c).1) (1*(aW w c).2)=aW w c:=by
 rw[ib,ib];have:=bS7 h0 h1;exact Prod.ext this.1 this.2
def aD7{H:Hp}:∀ns:List Int,dH (xG false H) (ns.map V.int) (ns.map fun n=>[n])
 |[]=>trivial
 |n::r=>⟨⟨n,rfl,rfl⟩,aD7 r⟩
def lR(b:Bool)(a:List Int):PyData:=if b then .tuple (a.map PyData.int) else .int (a.headD 0)
def bQ0{K:W.Frag}{H:Hp}:∀{b:Bool}{v:V}{a:List Int},xG b H v a->pL K H (lR b a) v
 |true,_,a,⟨p,rfl,h⟩=>⟨p,_,rfl,aT.of h,vD a⟩
 |false,_,_,⟨n,rfl,rfl⟩=>rfl
def aG5{α:Type}{l:List α}{a:α}(nd:l.Nodup)(h:a∉l):(l++[a]).Nodup:=by
 rw[iw];refine⟨nd,by simp,fun x hx y hy z=>?_⟩;have:y=a:=by simpa using hy
 subst this;exact h (z ▸ hx)
def xR{n:Nat}{i j:Int}(h:cA n j)(h0:0<=i)(h1:i<=j):cA n i:=cm (by lia) h
def rD(n:Nat)(u:Int×Int):Prop:=0<=u.1/\1<=u.2/\cA n u.1/\cA n u.2
def rD.mono{m n:Nat}{u:Int×Int}(h:rD m u)(l:m<=n):rD n u:=⟨h.1,h.2.1,h.2.2.1.mono l,h.2.2.2.mono l⟩
def rD.add{m n:Nat}{u e:Int×Int}(h:rD m u)(k:rD n e):rD (m+n+1) (cY u e):=by
 obtain⟨u0,u1,u2,u3⟩:=h;obtain⟨e0,e1,e2,e3⟩:=k;have q1:0<=u.1*e.2+e.1*u.2:=yj (cj u0 (by lia)) (cj e0 (by lia));have q2:1<=u.2*e.2:=dk (by lia) (by lia);have b1:cA (m+n+1) (u.1*e.2+e.1*u.2):=cA.add (u2.mul e3) ((e2.mul u3).mono (by lia));have b2:cA (m+n+1) (u.2*e.2):=(u3.mul e3).mono (by lia);exact⟨bN q1,bV q2,xR b1 (bN q1) (qV q1 q2),xR b2 (by have:=bV (a:=u.1*e.2+e.1*u.2) q2;show 0<=bA _ _;lia) (oI q2)⟩
def bX1:rD 1 (0,1):=⟨by decide,by decide,by unfold cA;decide,by unfold cA;decide⟩
def Ups(as:List (List Int)):Prop:=as.Pairwise fun a b=>HT.lexLt a b=true
def cQ9(n m:Int):HT.lexLt [n] [m]=decide (n<m):=by
 rw[HT.lexLt_cons]
 split
 ·rename_i h
  subst h;simp[HT.lexLt_nil_nil]
 ·rfl
def Ups.nodup{as:List (List Int)}(h:Ups as):as.Nodup:=by
 rw[nv];exact h.imp fun q z=>by rw[z,qN] at q;cases q
def bH1{as bs:List (List Int)}(ha:Ups as)(hb:Ups bs)(h:∀x,x∈as↔x∈bs):as=bs:=
 List.Perm.eq_of_pairwise (le:=fun a b=>HT.lexLt a b=true) (fun a b _ _ x y=>by have:=pO x y;rw[qN] at this;cases this) ha hb ((List.perm_ext_iff_of_nodup ha.nodup hb.nodup).mpr fun x=>h x)
def aX8{ns:List Int}(h:ns.Pairwise (· <= ·))(nd:ns.Nodup):Ups (ns.map fun n=>[n]):=by
 unfold Ups;rw[pj];have:=wV h nd;exact this.imp fun {a b} q=>by rw[cQ9];exact ap q
def dS(T:List Int->Option (Int×Int))(e:En):List Int->Option (Int×Int):=fun k=>if k=e.1 then some (cY ((T k).getD (0,1)) e.2) else T k
def gS(es:List En):List Int->Option (Int×Int):=es.foldl dS (fun _=>none)
def yY(es:List En)(a:List Int):List (Int×Int):=(es.filter fun e=>decide (e.1=a)).map (·.2)
def aY9(e:En)(r:List En)(a:List Int):yY (e::r) a=if e.1=a then e.2::yY r a else yY r a:=by
 unfold yY;rw[List.filter_cons]
 by_cases c:e.1=a
 ·simp[c]
 ·simp[c]
def aC7:∀(es:List En) (T:List Int->Option (Int×Int)) (a:List Int),es.foldl dS T a=if yY es a=[] then T a else some ((yY es a).foldl cY ((T a).getD (0,1)))
 |[],T,a=>by simp[yY]
 |e::r,T,a=>by
  rw[iz,aC7 r,aY9];unfold dS
  by_cases c:e.1=a
  ·rw[ao c,ao c.symm]
   by_cases d:yY r a=[]
   ·rw[d];simp
   ·rw[ai d];simp
  ·have c':¬a=e.1:=fun z=>c z.symm
   rw[ai c];simp only[if_neg c']
def rB(es:List En)(a:List Int):gS es a=if yY es a=[] then none else some ((yY es a).foldl cY (0,1)):=by
 unfold gS;rw[aC7];rfl
def jT{es:List En}{i:Nat}{e:En}{T:List Int->Option (Int×Int)}(h:es[i]?=some e):(es.take (i+1)).foldl dS T=dS ((es.take i).foldl dS T) e:=by
 rw[cX h,List.foldl_append];rfl
def iE(T:List Int->Option (Int×Int))(ks:List (List Int)):List En:=ks.map fun k=>(k,(T k).getD (0,1))
def gF(a:List Int):Key:=Sum.inl (a.headD 0)
def gT(a:List Int):List Key:=a.map Sum.inl
def gdA:Bool->List Int->Prop
 |false,a=>∃n,a=[n]
 |true,_=>True
def bF0{H:Hp}{x:V}{a:List Int}:∀{b:Bool},xG b H x a->gdA b a
 |false,⟨n,e,_⟩=>⟨n,e⟩
 |true,_=>trivial
structure KvG{κ:Type}[DecidableEq κ](g:List Int->κ)(G:List Int->Prop)(H:Hp)(kvs:List (κ×V))(ks:List (List Int))(T:List Int->Option (Int×Int)):Prop where
 keys:kvs.map (·.1)=ks.map g
 nd:ks.Nodup
 gd:∀a∈ks,G a
 val:∀a,G a->aG4 H (dA kvs (g a)) (T a)
 mem:∀a,G a->(a∈ks↔∃u,T a=some u)
def KvG.nil{κ:Type}[DecidableEq κ]{g:List Int->κ}{gd:List Int->Prop}{H:Hp}:KvG g gd H [] [] fun _=>none:=
 ⟨rfl,ou,fun _ h=>(nomatch h),fun _ _=>trivial,fun a _=>⟨fun h=>(nomatch h),fun⟨_,h⟩=>(nomatch h)⟩⟩
def KvG.ts{κ:Type}[DecidableEq κ]{g:List Int->κ}{gd:List Int->Prop}{H H':Hp}{kvs:List (κ×V)}{ks:List (List Int)}{T:List Int->Option (Int×Int)}(s:TS H H')(h:KvG g gd H kvs ks T):KvG g gd H' kvs ks T:=
 ⟨h.keys,h.nd,h.gd,fun a ha=>(h.val a ha).ts s,h.mem⟩
def uR(ks:List (List Int))(a:List Int):List (List Int):=if a∈ks then ks else ks++[a]
def aA3(ks:List (List Int))(a:List Int):(uR ks a).length<=ks.length+1:=by unfold uR;split<;>simp
def aU7{κ:Type}[DecidableEq κ]{kvs:List (κ×V)}{k:κ}{v:V}:(∃x,dA kvs k=some x)->(cH kvs k v).map (·.1)=kvs.map (·.1):=by
 rintro⟨x,hx⟩;unfold cH;rw[dQ,hx];simp only[Option.isSome_some,if_true,List.map_map];refine gc fun p _=>?_
 simp only[Function.comp]
 split<;>rfl
def KvG.put{κ:Type}[DecidableEq κ]{g:List Int->κ}{gd:List Int->Prop}(hg:∀x y,gd x->gd y->g x=g y->x=y){H:Hp}{kvs:List (κ×V)}{ks:List (List Int)}{T:List Int->Option (Int×Int)}{a:List Int}{q:Addr}{f:Int×Int}
  (h:KvG g gd H kvs ks T) (ga:gd a) (hq:aY H q f.1 f.2):KvG g gd H (cH kvs (g a) (.ref q)) (uR ks a) fun k=>if k=a then some f else T k:=by
 refine⟨?_,?_,fun x hx=>?_,fun x gx=>?_,fun x gx=>?_⟩
 ·unfold uR;have va:=h.val a ga
  by_cases c:a∈ks
  ·rw[ao c];obtain⟨u,hu⟩:=(h.mem a ga).mp c;rw[hu] at va
   cases e:dA kvs (g a) with
   |none=>rw[e] at va;exact va.elim
   |some x=>rw[aU7 ⟨x,e⟩,h.keys]
  ·rw[ai c];have hu:T a=none:=by
    cases e:T a with
    |none=>rfl
    |some u=>exact absurd ((h.mem a ga).mpr ⟨u,e⟩) c
   rw[hu] at va
   cases e:dA kvs (g a) with
   |none=>rw[gD _ e,aq,h.keys,aq];rfl
   |some x=>rw[e] at va;exact va.elim
 ·unfold uR
  split
  ·exact h.nd
  ·rename_i c;exact aG5 h.nd c
 ·unfold uR at hx
  split at hx
  ·exact h.gd x hx
  ·rcases br.mp hx with z|z
   ·exact h.gd x z
   ·rw[av.mp z];exact ga
 ·rw[bF5]
  by_cases c:x=a
  ·rw[ao (by rw[c]),ao c];exact⟨q,rfl,hq⟩
  ·rw[ai fun z=>c (hg x a gx ga z),ai c];exact h.val x gx
 ·unfold uR
  by_cases c:x=a
  ·subst c;rw[ao rfl]
   constructor
   ·exact fun _=>⟨f,rfl⟩
   ·intro _
    split
    ·assumption
    ·simp
  ·rw[ai c];rw[<-h.mem x gx]
   split
   ·rfl
   ·rw[br,av]
    constructor
    ·rintro(z|z)
     ·exact z
     ·exact absurd z c
    ·exact .inl
def bZ7(x y:List Int)(hx:gdA false x)(hy:gdA false y)(e:gF x=gF y):x=y:=by
 obtain⟨n,rfl⟩:=hx;obtain⟨m,rfl⟩:=hy;have e:(Sum.inl n:Key)=Sum.inl m:=e;injection e with e
 rw[e]
def cB9(x y:List Int)(_:gdA true x)(_:gdA true y)(e:gT x=gT y):x=y:=bR1 e
def uN:Bool->Hp->HO->List (List Int)->(List Int->Option (Int×Int))->Prop
 |false,H,u,ks,T=>∃kvs:List (Key×V),u= .dK kvs/\KvG gF (gdA false) H kvs ks T
 |true,H,u,ks,T=>∃kvs:List (List Key×V),u= .dT kvs/\KvG gT (gdA true) H kvs ks T
def uN.ts{H H':Hp}(s:TS H H'){u:HO}{ks:List (List Int)}{T:List Int->Option (Int×Int)}:∀{b:Bool},uN b H u ks T->uN b H' u ks T
 |false,⟨kvs,e,h⟩=>⟨kvs,e,h.ts s⟩
 |true,⟨kvs,e,h⟩=>⟨kvs,e,h.ts s⟩
def uN.isD{H:Hp}{u:HO}{ks:List (List Int)}{T:List Int->Option (Int×Int)}{d:Addr}(r:Rd H d u):∀{b:Bool},uN b H u ks T->IsD H d
 |false,⟨kvs,e,_⟩=> .inl ⟨kvs,by rw[<-e];exact r⟩
 |true,⟨kvs,e,_⟩=> .inr ⟨kvs,by rw[<-e];exact r⟩
def uN.not_tup{H:Hp}{u:HO}{ks:List (List Int)}{T:List Int->Option (Int×Int)}:∀{b:Bool},uN b H u ks T->∀xs,u≠ .tup xs
 |false,⟨_,e,_⟩,xs,z=>by rw[e] at z;cases z
 |true,⟨_,e,_⟩,xs,z=>by rw[e] at z;cases z
def uN.get{H:Hp}{u:HO}{ks:List (List Int)}{T:List Int->Option (Int×Int)}{d:Addr}{x:V}{a:List Int}(r:Rd H d u):∀{b:Bool},uN b H u ks T->xG b H x a->∃o,eS H d x o/\aG4 H o (T a)
 |false,⟨kvs,e,h⟩,⟨n,ea,ex⟩=>⟨_,.inl ⟨kvs,gF a,by rw[<-e];exact r,by rw[ex,ea];rfl,rfl⟩,h.val a ⟨n,ea⟩⟩
 |true,⟨kvs,e,h⟩,⟨p,ex,hp⟩=>⟨_,.inr ⟨kvs,gT a,p,by rw[<-e];exact r,ex,by unfold gT;rw[aI2];exact hp,rfl⟩,h.val a trivial⟩
def uN.nodup{H:Hp}{u:HO}{ks:List (List Int)}{T:List Int->Option (Int×Int)}:∀{b:Bool},uN b H u ks T->ks.Nodup
 |false,⟨_,_,h⟩=>h.nd
 |true,⟨_,_,h⟩=>h.nd
def uN.mem{H:Hp}{u:HO}{ks:List (List Int)}{T:List Int->Option (Int×Int)}:∀{b:Bool},uN b H u ks T->∀a,gdA b a->(a∈ks↔∃u,T a=some u)
 |false,⟨_,_,h⟩=>h.mem
 |true,⟨_,_,h⟩=>h.mem
def uN.gd{H:Hp}{u:HO}{ks:List (List Int)}{T:List Int->Option (Int×Int)}:∀{b:Bool},uN b H u ks T->∀a∈ks,gdA b a
 |false,⟨_,_,h⟩=>h.gd
 |true,⟨_,_,h⟩=>h.gd
def nP{κ:Type}{kvs:List (κ×V)}{ks:List (List Int)}{g:List Int->κ}(h:kvs.map (·.1)=ks.map g):kvs.length=ks.length:=by
 have:=gv List.length h
 simpa using this
def xL{H:Hp}{d:Addr}{u u':HO}(h:H d=some u)(n:∀xs,u≠ .tup xs):TS H (aN H d u'):=fun b xs q=>by
 rw[aH (fun z=>by rw[z,h] at q;exact n _ (cq q))];exact q
def uN.put{H:Hp}{u:HO}{ks:List (List Int)}{T:List Int->Option (Int×Int)}{d q:Addr}{x:V}{a:List Int}{f:Int×Int}(r:H d=some u)(hq:aY H q f.1 f.2)(hz:ks.length<sizeLine):∀{b:Bool},uN b H u ks T->xG b H x a ->
  ∃u',lT H d x (.ref q) (aN H d u')/\uN b (aN H d u') u' (uR ks a) fun k=>if k=a then some f else T k
 |false,⟨kvs,e,h⟩,⟨n,ea,ex⟩=>by
  subst e;refine⟨.dK (cH kvs (gF a) (.ref q)),.inl ⟨kvs,gF a,r,by rw[ex,ea];rfl,by rw[nP h.keys];exact hz,rfl⟩,_,rfl,?_⟩;exact(h.put bZ7 ⟨n,ea⟩ hq).ts (xL r fun xs z=>by cases z)
 |true,⟨kvs,e,h⟩,⟨p,ex,hp⟩=>by
  subst e;refine⟨.dT (cH kvs (gT a) (.ref q)),.inr ⟨kvs,gT a,p,r,ex,by unfold gT;rw[aI2];exact hp,by rw[nP h.keys];exact hz,rfl⟩,_,rfl,?_⟩;exact(h.put cB9 trivial hq).ts (xL r fun xs z=>by cases z)
def cM0{σ:St}{H:Hp}{Q:VK}(b:Bool)(h:∀d u,H d=none->uN b (aN H d u) u [] (fun _=>none)->Q (.ref d) (aN H d u)):tDNewK σ H Q\/tDNewT σ H Q:=by
 cases b
 ·exact .inl fun d hd=>h d _ hd ⟨[],rfl,KvG.nil⟩
 ·exact .inr fun d hd=>h d _ hd ⟨[],rfl,KvG.nil⟩
def ItA:Bool->Addr->Obj->HO->List (List Int)->It->Prop
 |false,d,o,u,ks,J=>∃kvs:List (Key×V),u= .dK kvs/\J=Itd d o kvs/\kvs.map (·.1)=ks.map gF
 |true,d,o,u,ks,J=>∃kvs:List (List Key×V),u= .dT kvs/\J=bL1 d o kvs/\kvs.map (·.1)=ks.map gT
def cT0{H:Hp}{u:HO}{ks:List (List Int)}{T:List Int->Option (Int×Int)}{d:Addr}{tl:TE}{σ:St}{R:It->Hp->Prop}(r:H d=some u)(htl:∀F:VK,F (.ref d) H->tl σ H F):∀{b:Bool},uN b H u ks T ->
  (∀o J,ItA b d o u ks J->R J (aN H d (.frz o u)))->aW4 tl σ H R\/aK5 tl σ H R
 |false,⟨kvs,e,h⟩,q=> .inl (htl _ ⟨d,kvs,rfl,by rw[<-e];exact r,fun o=>by have:=q o _ ⟨kvs,e,rfl,h.keys⟩;rw[e] at this;exact this⟩)
 |true,⟨kvs,e,h⟩,q=> .inr (htl _ ⟨d,kvs,rfl,by rw[<-e];exact r,fun o=>by have:=q o _ ⟨kvs,e,rfl,h.keys⟩;rw[e] at this;exact this⟩)
def aQ7{κ:Type}{kvs:List (κ×V)}{ks:List (List Int)}{g:List Int->κ}(h:kvs.map (·.1)=ks.map g){i:Nat}{k:κ}{v:V}(e:kvs[i]?=some (k,v)):∃a,ks[i]?=some a/\k=g a:=by
 have:(kvs.map (·.1))[i]?=some k:=by rw[df,e];rfl
 rw[h,df] at this;obtain⟨a,h1,h2⟩:=gz.mp this;exact⟨a,h1,h2.symm⟩
def bY4{d:Addr}{o:Obj}{u:HO}{ks:List (List Int)}{J:It}{g:TG}{tc:TT}{te:TE}{Kf:List V->Hp->Prop}{σ0:St}{H1:Hp}(Pv:Nat->List V->St->Hp->Prop)(hz:ks.length<sizeLine)(h0:Pv 0 [] σ0 H1)(hb:∀i zs σ H,Pv i zs σ H->zs.length<=i)
  (hl:∀i zs σ H,i<=ks.length->Pv i zs σ H->H d=some (.frz o u)):∀{b:Bool},ItA b d o u ks J->(∀a∈ks,gdA b a) ->
  (∀i a x zs σ H,ks[i]?=some a->xG b H x a->Pv i zs σ H->g x σ H fun σ2 H2=>tc σ2 H2 fun b H3=>if b=true then te σ2 H3 fun y H4=>Pv (i+1) (zs++[y]) σ2 H4 else Pv (i+1) zs σ2 H3) ->
  (∀zs σ H,Pv ks.length zs σ H->Kf zs H)->mG J g tc te Kf σ0 H1
 |false,⟨kvs,e,ej,hk⟩,gd,hs,hd=>by
  subst e ej;have ln:=nP hk;refine aU1 Pv (by rw[ln];exact hz) h0 hb (fun i zs σ H hi p=>hl i zs σ H (by rw[<-ln];exact hi) p) (fun i k v zs σ H hv p=>?_) (by rw[ln];exact hd);obtain⟨a,ha,rfl⟩:=aQ7 hk hv;obtain⟨n,rfl⟩:=gd a (bj ha);exact hs i _ _ zs σ H ha ⟨n,rfl,rfl⟩ p
 |true,⟨kvs,e,ej,hk⟩,gd,hs,hd=>by
  subst e ej;have ln:=nP hk;refine aL9 Pv (by rw[ln];exact hz) h0 hb (fun i zs σ H hi p=>hl i zs σ H (by rw[<-ln];exact hi) p) (fun i k v b' zs σ H hv hb' p=>?_) (by rw[ln];exact hd);obtain⟨a,ha,rfl⟩:=aQ7 hk hv;exact hs i _ _ zs σ H ha ⟨b',rfl,by rw[<-aI2];exact hb'⟩ p
def aB8{H:Hp}:∀{zs:List V}{as:List (List Int)},dH (xG true H) zs as->∃bs:List Addr,zs=bs.map V.ref/\eA H bs as
 |[],[],_=>⟨[],rfl,rfl,fun i b ns h=>by simp at h⟩
 |v::zs,a::as,⟨⟨p,e,h⟩,t⟩=>by
  obtain⟨bs,e2,l,k⟩:=aB8 t;refine⟨p::bs,by rw[e,e2];rfl,by simp[l],fun i b ns h1 h2=>?_⟩
  cases i with
  |zero =>
   simp at h1 h2;subst h1 h2;exact h
  |succ i=>exact k i b ns (by simpa using h1) (by simpa using h2)
def zL{H:Hp}:∀{bs:List Addr}{as:List (List Int)},eA H bs as->dH (xG true H) (bs.map V.ref) as
 |[],[],_=>trivial
 |[],_::_,⟨l,_⟩=>by simp at l
 |_::_,[],⟨l,_⟩=>by simp at l
 |b::bs,a::as,⟨l,k⟩=>⟨⟨b,rfl,k 0 b a rfl rfl⟩,zL ⟨by simpa using l,fun i x y h1 h2=>k (i+1) x y (by simpa using h1) (by simpa using h2)⟩⟩
def vU{H:Hp}:∀{zs:List V}{as:List (List Int)},dH (xG false H) zs as->∃ns:List Int,zs=ns.map V.int/\as=ns.map fun n=>[n]
 |[],[],_=>⟨[],rfl,rfl⟩
 |v::zs,a::as,⟨⟨n,e,h⟩,t⟩=>by
  obtain⟨ns,e2,e3⟩:=vU t;exact⟨n::ns,by rw[h,e2];rfl,by rw[e,e3];rfl⟩
def eA.ts{H H':Hp}(s:TS H H'){bs:List Addr}{as:List (List Int)}(h:eA H bs as):eA H' bs as:=⟨h.1,fun i b ns h1 h2=>s _ _ (h.2 i b ns h1 h2)⟩
def uP{ns:List Int}(h:(ns.map fun n=>[n]).Nodup):ns.Nodup:=by
 rw[nv,pj] at h;rw[nv];exact h.imp fun z q=>z (by rw[q])
def bI3(K:W.Frag):List V->Hp->VK->Prop:=fun xs H Q =>
 (∃(p:Addr) (ns:List Int),xs=[.ref p]/\bR K H p (ns.map V.int)/\ns.length<64/\∀ns':List Int,ns'.Perm ns->ns'.Pairwise (· <= ·)->∀l,H l=none->Q (.ref l) (aN H l (.lst (ns'.map V.int)))) \/
 ∃(p:Addr) (bs:List Addr) (nss:List (List Int)),xs=[.ref p]/\bR K H p (bs.map V.ref)/\bs.length<64/\eA H bs nss/\nss.Nodup /\
  ∀(bs':List Addr) (nss':List (List Int)),bs'.Perm bs->nss'.Perm nss->eA H bs' nss'->nss'.Pairwise (fun a b=>HT.lexLt a b=true)->∀l,H l=none->Q (.ref l) (aN H l (.lst (bs'.map V.ref)))
def aM3{X:Cx}{k:Nat}(hr:dE k X.A):eU X (.builtin "sorted") (bI3 X.K):=bN4 aK6 (zH hr)
def cN9{K:W.Frag}{H:Hp}{Q:VK}{l:Addr}{zs:List V}{as:List (List Int)}(hl:H l=some (.lst zs))(nd:as.Nodup)(h64:zs.length<64):∀{b:Bool},dH (xG b H) zs as ->
  (∀zs' as' l',as'.Perm as->Ups as'->H l'=none->dH (xG b (aN H l' (.lst zs'))) zs' as'->Q (.ref l') (aN H l' (.lst zs')))->bI3 K [.ref l] H Q
 |false,tw,q=>by
  obtain⟨ns,rfl,rfl⟩:=vU tw;refine .inl ⟨l,ns,rfl,bR.of hl,by simpa using h64,fun ns' p s l' hl'=>q _ (ns'.map fun n=>[n]) l' (p.map _) (aX8 s (p.symm.nodup (uP nd))) hl' (aD7 ns')⟩
 |true,tw,q=>by
  obtain⟨bs,rfl,t⟩:=aB8 tw;exact .inr ⟨l,bs,as,rfl,bR.of hl,by simpa using h64,t,nd,fun bs' nss' p1 p2 t' s l' hl'=>q _ nss' l' p2 s hl' (zL (eA.ts (.of (aC hl' _)) t'))⟩
def iF(b:Bool)(e:En):PyData:= .tuple [lR b e.1,pS e.2.1 e.2.2]
def bB3{K:W.Frag}{b:Bool}{H:Hp}{v:V}{e:En}(h:qU b H v e):pL K H (iF b e) v:=by
 obtain⟨p,x,q,e1,h1,h2,h3⟩:=h;exact⟨p,_,e1,aT.of h1,_,_,rfl,bQ0 h2,_,_,rfl,sI h3,rfl⟩
def bD6(b:Bool)(a:List Int):(lR b a).canLay0=true/\(lR b a).depth<=1:=by
 cases b
 ·exact⟨by simp[lR,PyData.canLay0],by simp[lR,PyData.depth]⟩
 ·refine⟨by simp[lR,PyData.canLay0,aD0],?_⟩;simp only[lR,PyData.depth,tQ,if_true];lia
def aE8(b:Bool):∀es:List En,PyData.canLayAll0 (es.map (iF b))=true/\PyData.depthAll (es.map (iF b))<=2
 |[]=>⟨rfl,bi _⟩
 |e::r=>by
  have ih:=aE8 b r;obtain⟨a1,a2⟩:=bD6 b e.1;simp only[List.map_cons,iF,pS,PyData.canLayAll0,PyData.canLay0,PyData.depthAll,PyData.depth,ih.1,a1] at *;exact⟨by simp,by lia⟩
def nR(b:Bool)(es:List En):SeqAt.shaped (.tuple (es.map (iF b)))=true:=by
 obtain⟨h1,h2⟩:=aE8 b es;simp only[SeqAt.shaped,PyData.canLay0,h1,Bool.true_and];exact ap (by simp only[PyData.depth];lia)
def jG:∀ns:List Int,Spec.sameAll (ns.map PyData.int) (ns.map PyData.int)=true
 |[]=>rfl
 |n::r=>by simp[Spec.sameAll,Spec.same,jG r]
def vB(b:Bool)(a:List Int):Spec.same (lR b a) (lR b a)=true/\SeqAt.noMix (lR b a) (lR b a)=true:=by
 cases b
 ·exact⟨by simp[lR,Spec.same],by simp[lR,SeqAt.noMix]⟩
 ·exact⟨by simp[lR,Spec.same,jG],by simp[lR,SeqAt.noMix,tH]⟩
def sJ(b:Bool):∀es:List En,SeqAt.noMixAll (es.map (iF b)) (es.map (iF b))=true
 |[]=>rfl
 |e::r=>by simp[iF,pS,SeqAt.noMixAll,SeqAt.noMix,sJ b r,(vB b e.1).2]
def vG(b:Bool):∀es:List En,Spec.sameAll (es.map (iF b)) (es.map (iF b))=true
 |[]=>rfl
 |e::r=>by simp[iF,pS,Spec.sameAll,Spec.same,vG b r,(vB b e.1).1]
def bG9{K:W.Frag}{b:Bool}{H:Hp}{us:List V}{es:List En}(h:dH (qU b H) us es):rR K H (es.map (iF b)) us:=dH.rep (fun _ _ z=>bB3 z) h
def spLowY:Sp:=fun vs H Q _=>∃a b:Int,vs=[.int a,.int b]/\0<=a/\1<=b/\(∃n,cA n b/\n<=8990)/\∀p,H p=none->Q (.ref p) (aN H p (.tup (iG a b)))
def spAddX:Sp:=fun vs H Q _=>∃(p q:Addr) (u e:Int×Int) (m n:Nat),vs=[.ref p,.ref q]/\aY H p u.1 u.2/\aY H q e.1 e.2/\rD m u/\rD n e/\m<=4000/\n<=4000/\∀r,H r=none->Q (.ref r) (aN H r (.tup [.int (cY u e).1,.int (cY u e).2]))
end Mine
namespace HT
open PySem PySem.Spec PyProof.Rows L2
section
variable {prog:Program}{w:World}{A:Around}{E:Value->Shared->Prop}{s:Shared}
def getItem_tuple_all{t sl:Addr}{items:Array Value}{vl vu:Value}{lo hi:Option Int}{Q:Value->Shared->Prop}(ht:IsTup s.heap t items)(hs:s.heap.IsSliceOf sl vl vu .none)(pl:IsPart vl lo)(pu:IsPart vu hi)
  (hw:sIx items.size 0 lo=0/\sIx items.size items.size hi=items.size) (h:Q (.ref t) s):wpAny (model prog w) A (getItem (.ref t) (.ref sl)) Q E s:=by
 obtain⟨os,hos,hcs,hds⟩:=id hs;have hTs:s.TypeIs (.ref sl) "slice":=⟨os,hos,hcs⟩
 unfold getItem
 try with_reducible refine wpAny_holding ?_
 first|refine wpAny_bind (wpAny_pure ?_)|skip
 refine wpAny_bind (wpAny_sequenceKey ht.typeIs (by decide) ?_);refine wpAny_bind (wpAny_callSpecial?_slot (name:=Str.ofString "__getitem__") ht.typeIs PyProof.Rows.slot_tuple_getitem
  (wpAny_call_entry PyProof.Rows.slot_tuple_getitem ht.typeIs entry_tuple_getitem ?_ (args_tuple_getitem _ _)))
 show wpAny _ _ (Builtin.Tuple.tupleItemsOf (.ref t)>>=_) _ _ s;refine wpAny_bind (tupleItemsOf_ ht ?_);refine wpAny_bind (wpAny_typeOf hTs ?_);rw[if_pos (by decide)];refine wpAny_bind (jL hs pl pu ?_);have hyes:(((sIx items.size 0 lo:Nat):Int)==0&&(1:Int)==1&&(sIx items.size items.size hi-sIx items.size 0 lo)==items.size)=true:=by
  rw[hw.1,hw.2];simp
 show wpAny _ _ (if (((sIx items.size 0 lo:Nat):Int)==0&&(1:Int)==1&&(sIx items.size items.size hi-sIx items.size 0 lo)==items.size)=true then _ else _) _ _ s;rw[if_pos hyes];refine wpAny_bind (show wpAny _ _ (typeOf (.ref t)>>=fun _=>_) _ _ _ from wpAny_bind (wpAny_typeOf ht.typeIs (wpAny_pure ?_)));rw[if_pos (by decide)];exact wpAny_bind (wpAny_rule (wpAny_pure ⟨_,rfl,wpAny_pure h⟩))
end
end HT
namespace L2
open PySem PySem.Spec PyProof.Rows
def rSlA:V->Option Int->Option Int->Hp->VK->Prop:=fun x lo hi H Q=>∃a xs,x= .ref a/\H a=some (.tup xs)/\∀r H',aR H H'->H' r=some (.tup (iZ xs lo hi))->Q (.ref r) H'
def bQ6{X:Cx}:SlR X rSlA:=by
 intro pins s σ H x v vl vu lo hi sl Q I rx hs pl pu h;obtain⟨a,xs,rfl,ha,q⟩:=h
 by_cases c:HT.sIx xs.length 0 lo=0/\HT.sIx xs.length xs.length hi=xs.length
 ·cases rx
  obtain⟨its,r,ht,hz⟩:=I.tuple (aT.of ha);have hlen:its.toArray.size=xs.length:=by rw[bf];exact r.length.symm
  refine⟨"tuple",_,PyProof.Rows.slot_tuple_getitem.lookup,ht.typeIs,?_⟩;refine HT.getItem_tuple_all ht hs pl pu (by rw[hlen];exact c) ⟨.ref a,H,I,rfl,q a H (aR.refl _) ?_⟩;unfold iZ;rw[c.1,c.2,uc,aAm,eh];exact ha
 ·exact cH4 pins s σ H (.ref a) v vl vu lo hi sl Q I rx hs pl pu ⟨a,xs,rfl,aT.of ha,c,fun p hp=>q p _ (aC hp _) aD⟩
end L2
namespace Mine
open PySem L2
def nS(T:List Int->Option (Int×Int))(e:En):dS T e=fun k=>if k=e.1 then some (cY ((T e.1).getD (0,1)) e.2) else T k:=by
 funext k
 unfold dS
 by_cases c:k=e.1
 ·rw[ao c,ao c,c]
 ·rw[ai c,ai c]
def lZ(T:List Int->Option (Int×Int))(a:List Int):Bool:=decide (T a≠some (0,1))
def wX{H:Hp}{t:Option (Int×Int)}{o:Option V}{z:Addr}(h:aG4 H o t)(hz:aY H z 0 1):∃q,o.getD (.ref z)= .ref q/\aY H q (t.getD (0,1)).1 (t.getD (0,1)).2:=by
 cases t with
 |none =>
  cases o with
  |none=>exact⟨z,rfl,hz⟩
  |some v=>exact h.elim
 |some s =>
  cases o with
  |none=>exact h.elim
  |some v =>
   obtain⟨q,e,hq⟩:=h;exact⟨q,e,hq⟩
def pP{H:Hp}{f:Int×Int}{o:Option V}(h:aG4 H o (some f)):∃q,o=some (.ref q)/\aY H q f.1 f.2:=by
 cases o with
 |none=>exact h.elim
 |some v =>
  obtain⟨q,e,hq⟩:=h;exact⟨q,by rw[e],hq⟩
def aR7{es:List En}{a:List Int}{f:Int×Int}(h:gS es a=some f):∃e∈es,e.1=a:=by
 rw[rB] at h
 split at h
 ·cases h
 ·rename_i c
  unfold yY at c;obtain⟨e,he⟩:=List.exists_mem_of_ne_nil _ (fun z=>c (by rw[z];rfl):(es.filter fun e=>decide (e.1=a))≠[]);exact⟨e,(dr.mp he).1,ar (dr.mp he).2⟩
def aF1{α:Type}{R:V->α->Prop}:∀{us:List V}{as:List α},dH R us as->∀{a:α},a∈as->∃v,R v a
 |[],[],_,_,m=>absurd m di
 |[],_::_,h,_,_=>h.elim
 |_::_,[],h,_,_=>h.elim
 |_::_,_::_,⟨h,t⟩,a,m=>by
  rcases az.mp m with e|e
  ·exact⟨_,by rw[e];exact h⟩
  ·exact aF1 t e
def cE0{σ:St}{H:Hp}{F:List V->Hp->Prop}(h:F [] H):tNil σ H F:=h
def spTimesX:Sp:=fun vs H Q _=>∃(p q:Addr) (u e:Int×Int),vs=[.ref p,.ref q]/\aY H p u.1 u.2/\aY H q e.1 e.2/\rD 900 u/\rD 900 e/\∀r,H r=none->Q (.ref r) (aN H r (.tup (iG (u.1*e.1) (u.2*e.2))))
def bO6(es:List En):Prop:=(∀e∈es,rD 900 e.2)/\∀i a f,(es.take i).foldl dS (fun _=>none) a=some f->rD 900 f
def spMrg:Sp:=fun vs H Q _=>∃b l us es,vs=[.ref l]/\H l=some (.lst us)/\dH (qU b H) us es/\es.length<=60/\bO6 es /\
 ∀H' t ks,aR H H'->yF b H' t (iE (gS es) ks)->Ups ks->(∀k,k∈ks↔∃u,gS es k=some u/\u≠(0,1))->Q (.ref t) H'
def b72{n:Nat}{a:Int}(h:rA a)(hn:180<=n):cA n a:=(cA.of h.1 h.2).mono hn
def uA{vs:List V}{H:Hp}{Q:VK}{E:XK}(h:qY vs H Q E):spTimesX vs H Q E:=by
 obtain⟨p,q,a,b,c,d,e,h1,h2,ha,hb,hc,hd,b1,d1,k⟩:=h;exact⟨p,q,(a,b),(c,d),e,h1,h2,⟨ha.1,b1,b72 ha (by decide),b72 hb (by decide)⟩,⟨hc.1,d1,b72 hc (by decide),b72 hd (by decide)⟩,k⟩
def cF2{vs:List V}{H:Hp}{Q:VK}{E:XK}(h:bT8 vs H Q E):spAddX vs H Q E:=by
 obtain⟨p,q,u,e,ev,h1,h2,hu,he,k⟩:=h;obtain⟨ha,hb,b1⟩:=hu;obtain⟨hc,hd,d1⟩:=he;exact⟨p,q,u,e,180,180,ev,h1,h2,⟨ha.1,b1,b72 ha (by decide),b72 hb (by decide)⟩,⟨hc.1,d1,b72 hc (by decide),b72 hd (by decide)⟩,by decide,by decide,k⟩
def bF8{vs:List V}{H:Hp}{Q:VK}{E:XK}(h:aX7 vs H Q E):spLowY vs H Q E:=by
 obtain⟨a,b,e,h1,h2,h3,k⟩:=h;exact⟨a,b,e,h1,h2,⟨400,cA.of (by lia) h3,by decide⟩,k⟩
def Cl.imp{P:Program}{w:World}{K:W.Frag}{mg:Str->Option Value}{base:Heap}{n:Nat}{sp sp':Sp}{x:Str}(C:Cl P w K mg base n sp x)(h:∀{vs:List V}{H:Hp}{Q:VK}{E:XK},sp' vs H Q E->sp vs H Q E):Cl P w K mg base n sp' x:=
 let⟨f,d,ps,F,r⟩:=C;⟨f,d,ps,F.imp fun _ _ _ _ z=>h z,r⟩
def OvM(M:Int)(u:Int×Int):Prop:=∃c,0<=c/\c<=M/\u=aW c M
def aK4{M S:Int}{n:Nat}(h0:0<=S)(hM:1<=M)(h1:S<2^n)(h2:M<2^n):rD n (aW S M):=
 ⟨bN h0,bV hM,cA.of (bN h0) (jh (qV h0 hM) h1),cA.of (by have:=bV (a:=S) hM;show 0<=bA S M;lia) (jh (oI hM) h2)⟩
def bJ4{M:Int}{es:List En}(hM:1<=M)(hM2:M<=2^850)(hl:es.length<=60)(h:∀e∈es,OvM M e.2):bO6 es:=by
 have p1:(2:Int)^850*64<2^900:=by decide
 have b:∀S:Int,0<=S->S<=60*M->rD 900 (aW S M):=fun S h0 h1=>aK4 h0 hM (by generalize (2:Int)^850=x at *;generalize (2:Int)^900=y at *;lia) (by generalize (2:Int)^850=x at *;generalize (2:Int)^900=y at *;lia)
 have key:∀i,i<=es.length->∀a f,(es.take i).foldl dS (fun _=>none) a=some f->∃S,0<=S/\S<=i*M/\f=aW S M:=by
  intro i
  induction i with
  |zero=>intro _ a f h;cases h
  |succ i ih =>
   intro hi a f hf;have he:=bw (show i<es.length by lia);rw[jT he,nS] at hf;obtain⟨c,c0,c1,ec⟩:=h _ (bj he);have im:((i+1:Nat):Int)*M=(i:Int)*M+M:=by rw[qo,aAr,ib]
   have i0:0<=(i:Int)*M:=cj (uo _) (by lia);have hf:(if a=es[i].1 then some (cY (((es.take i).foldl dS (fun _=>none) es[i].1).getD (0,1)) es[i].2) else (es.take i).foldl dS (fun _=>none) a)=some f:=hf
   by_cases q:a=es[i].1
   ·rw[ao q] at hf
    cases hf
    cases r:(es.take i).foldl dS (fun _=>none) es[i].1 with
    |none =>
     refine⟨c,c0,by lia,?_⟩;rw[ec];have z:=gU hM;show cY (0,1) _=_;rw[<-z,gQ (cw _) c0 hM,sv]
    |some g =>
     obtain⟨S,s0,s1,rfl⟩:=ih (by lia) _ _ r;refine⟨S+c,by lia,by lia,?_⟩;rw[ec];exact gQ s0 c0 hM
   ·rw[ai q] at hf;obtain⟨S,s0,s1,e⟩:=ih (by lia) a f hf;exact⟨S,s0,by lia,e⟩
 refine⟨fun e he=>?_,fun i a f hf=>?_⟩
 ·obtain⟨c,c0,c1,ec⟩:=h e he;rw[ec];exact b c c0 (by lia)
 ·rcases aAk es.length i with z|z
  ·rw[ju (fi z)] at hf;obtain⟨S,s0,s1,rfl⟩:=key es.length (af _) a f (by rw[eh];exact hf);refine b S s0 (bm s1 (cu (by lia) (by lia)))
  ·obtain⟨S,s0,s1,rfl⟩:=key i z a f hf;refine b S s0 (bm s1 (cu (by lia) (by lia)))
def oneA(e:Int×Int×Int):En:=([e.1],e.2)
structure Alk(T:Int->Option (Int×Int))(T':List Int->Option (Int×Int)):Prop where
 a:∀k,T' [k]=T k
 b:∀k u,T' k=some u->∃n,k=[n]
def bG7{T:Int->Option (Int×Int)}{T':List Int->Option (Int×Int)}(h:Alk T T')(e:Int×Int×Int):Alk (kG T e) (dS T' (oneA e)):=by
 refine⟨fun k=>?_,fun k u hu=>?_⟩
 ·unfold kG dS oneA
  by_cases c:k=e.1
  ·rw[ao c,ao (by rw[c]),h.a]
  ·rw[ai c,ai (fun z=>c (by injection z)),h.a]
 ·unfold dS oneA at hu
  by_cases c:k=[e.1]
  ·exact⟨_,c⟩
  ·rw[ai c] at hu;exact h.b k u hu
def sZ:∀(es:List (Int×Int×Int)) {T:Int->Option (Int×Int)}{T':List Int->Option (Int×Int)},Alk T T'->Alk (es.foldl kG T) ((es.map oneA).foldl dS T')
 |[],_,_,h=>h
 |e::r,_,_,h=>sZ r (bG7 h e)
def bP3(es:List (Int×Int×Int)):Alk (nH es) (gS (es.map oneA)):=sZ es ⟨fun _=>rfl,fun _ _ h=>nomatch h⟩
def cI1{u:Int×Int}(h:jN u):rD 180 u:=⟨h.1.1,h.2.2,b72 h.1 (af _),b72 h.2.1 (af _)⟩
def bZ2{es:List (Int×Int×Int)}(h:aJ7 (fun _=>none) es):bO6 (es.map oneA):=by
 refine⟨fun e he=>?_,?_⟩
 ·obtain⟨e',he',rfl⟩:=ci.mp he;obtain⟨i,hi⟩:=List.mem_iff_getElem?.mp he';exact(cI1 (yP h hi).2).mono (by decide)
 ·have key:∀i a f,((es.map oneA).take i).foldl dS (fun _=>none) a=some f->rD 361 f:=by
   intro i
   induction i with
   |zero=>intro a f h;cases h
   |succ i ih =>
    intro a f hf;rcases aAk i es.length with z|z
    ·have he:=bw z;have he':(es.map oneA)[i]?=some (oneA es[i]):=by rw[df,he];rfl
     rw[jT he',nS] at hf;have sf:=yP h he;have al:=sZ (es.take i) (T:=fun _=>none) (T':=fun _=>none) ⟨fun _=>rfl,fun _ _ h=>nomatch h⟩;rw[List.map_take] at al;have hf:(if a=(oneA es[i]).1 then some (cY ((((es.map oneA).take i).foldl dS (fun _=>none) (oneA es[i]).1).getD (0,1)) (oneA es[i]).2) else ((es.map oneA).take i).foldl dS (fun _=>none) a)=some f:=hf
     by_cases q:a=(oneA es[i]).1
     ·rw[ao q] at hf
      cases hf
      have e2:((es.map oneA).take i).foldl dS (fun _=>none) (oneA es[i]).1=_:=al.a es[i].1;rw[e2];exact(cI1 sf.1).add (cI1 sf.2)
     ·rw[ai q] at hf;exact ih a f hf
    ·rw[ju (by rw[ac];lia)] at hf;rw[ju (by rw[ac];lia)] at ih;exact ih a f hf
  exact fun i a f hf=>(key i a f hf).mono (by decide)
def aE4{H:Hp}:∀{us:List V}{es:List (Int×Int×Int)},dH (nC H) us es->dH (qU false H) us (es.map oneA)
 |[],[],_=>trivial
 |u::us,e::es,h=>⟨let⟨p,q,e1,h1,h2⟩:=h.1;⟨p,_,q,e1,h1,⟨e.1,rfl,rfl⟩,h2⟩,aE4 h.2⟩
 |[],_::_,h=>absurd h id
 |_::_,[],h=>absurd h id
def aD5{H:Hp}:∀{us:List V}{es:List (Int×Int×Int)},dH (qU false H) us (es.map oneA)->dH (nC H) us es
 |[],[],_=>trivial
 |u::us,e::es,h=>⟨by
   obtain⟨p,x,q,e1,h1,⟨n,en,ex⟩,h2⟩:=h.1;have:n=e.1:=by have en:[e.1]=[n]:=en;injection en with en;exact en.symm
   exact⟨p,q,e1,by rw[h1,ex,this],h2⟩,aD5 h.2⟩
 |[],_::_,h=>absurd h id
 |_::_,[],h=>absurd h id
def cU9{ks:List (List Int)}(h:∀k∈ks,∃n,k=[n]):∃ns:List Int,ks=ns.map fun n=>[n]:=by
 induction ks with
 |nil=>exact⟨[],rfl⟩
 |cons k ks ih =>
  obtain⟨n,rfl⟩:=h k aj;obtain⟨ns,rfl⟩:=ih fun x hx=>h x (ae _ hx)
  exact⟨n::ns,rfl⟩
def aO5{vs:List V}{H:Hp}{Q:VK}{E:XK}(h:tX vs H Q E):spMrg vs H Q E:=by
 obtain⟨l,us,es,e,hl,tw,h60,sf,k⟩:=h;refine⟨false,l,us,es.map oneA,e,hl,aE4 tw,by rw[ac];lia,bZ2 sf,fun H' t ks s ht up hm=>?_⟩;have al:=bP3 es;obtain⟨ns,rfl⟩:=cU9 fun k hk=>by obtain⟨u,hu,_⟩:=(hm k).mp hk;exact al.b k u hu
 obtain⟨ws,h1,h2⟩:=ht;refine k H' t ws ns s h1 ?_ (fun n=>?_) ?_
 ·have:(ns.map fun n=>[n]).Pairwise fun a b=>HT.lexLt a b=true:=up
  rw[pj] at this;exact this.imp fun {a b} z=>by rw[cQ9] at z;exact ar z
 ·rw[<-al.a n, <-hm [n]]
  constructor
  ·exact fun z=>ci.mpr ⟨n,z,rfl⟩
  ·intro z;obtain⟨m,hm',e⟩:=ci.mp z;injection e with e
   rw[<-e];exact hm'
 ·refine aD5 ?_;have e2:iE (gS (es.map oneA)) (ns.map fun n=>[n])=(qC (nH es) ns).map oneA:=by
   unfold iE qC;rw[jl,jl];refine gc fun n _=>?_
   show([n],(gS (es.map oneA) [n]).getD (0,1))=([n],(nH es n).getD (0,1))
   rw[al.a]
  rw[<-e2];exact h2
end Mine
namespace L2
open PySem PySem.Spec PyProof.Rows
def MkL(P:Program)(w:World)(K:W.Frag)(mg:Str->Option Value)(base:Heap)(n:Nat)(sp:Sp)(C:Addr)(x:Str):Prop:=∃f d ps,Mk K C f/\kK P w K mg base CX0 n f d ps sp/\gM K d ps []/\mg x=some (.ref C)
def pml{X:Cx}{x:Str}{p pos:Pos}{e:Expr}{es:List Expr}{t:TA}{C:Addr}{k:Nat}{sp:Sp}(M:MkL X.prog X.w X.K X.mg X.base k sp C x){n:Nat}(hr:dE n X.A)(ha:PA X (e::es) t)(hn:k+1<=n:=by first|decide|lia)(hg:Gl X x:=by rfl)(hdb:(x==("__debug__": Str))=false:=by decide)(he:starEach (e::es) X.env=(false,eval e X.env)::starEach es X.env:=by rfl)
  (hpl:(backTo pos (starEach es X.env)).any (·.1)=false:=by rfl):PE X (.Call (.Name x p) (e::es) [] pos) (bV0 C sp [] E0 t):=let⟨_,_,_,m,g,b,h⟩:=M;bQ5 m g (hr.mono hn) hg h b .nil bE9 ha hdb he hpl
end L2
namespace Mine
open PySem L2
abbrev Hn:=Addr×Addr×Addr×List Str
def RnQ(C:Addr)(NM:List Str)(H:Hp)(h:Hn)(r:Rn):Prop:=kO C NM H h.1 h.2.1 h.2.2.1 h.2.2.2 r
def fI(C:Addr)(NM:List Str)(H:Hp):List Hn->List Rn->Prop
 |[],[]=>True
 |h::hs,r::rs=>RnQ C NM H h r/\fI C NM H hs rs
 |_,_=>False
def fI.mono{C:Addr}{NM:List Str}{H H':Hp}:∀{hs:List Hn}{rs:List Rn},fI C NM H hs rs->(∀h∈hs,∀r,RnQ C NM H h r->RnQ C NM H' h r)->fI C NM H' hs rs
 |[],[],_,_=>trivial
 |h::hs,r::rs,⟨a,b⟩,f=>⟨f h aj r a,b.mono fun x hx=>f x (ae _ hx)⟩
 |[],_::_,h,_=>h
 |_::_,[],h,_=>h
def fI.same{C:Addr}{NM:List Str}{H H':Hp}{hs:List Hn}{rs:List Rn}(h:fI C NM H hs rs)(s:aR H H'):fI C NM H' hs rs:=h.mono fun _ _ _ z=>kO.same z s
def fI.length{C:Addr}{NM:List Str}{H:Hp}:∀{hs:List Hn}{rs:List Rn},fI C NM H hs rs->hs.length=rs.length
 |[],[],_=>rfl
 |h::hs,r::rs,⟨_,b⟩=>by simp only[List.length_cons,b.length]
 |[],_::_,h=>absurd h id
 |_::_,[],h=>absurd h id
def fI.app{C:Addr}{NM:List Str}{H:Hp}:∀{hs gs:List Hn}{rs qs:List Rn},fI C NM H hs rs->fI C NM H gs qs->fI C NM H (hs++gs) (rs++qs)
 |[],_,[],_,_,h=>h
 |_::_,_,_::_,_,⟨a,b⟩,h=>⟨a,b.app h⟩
 |[],_,_::_,_,h,_=>absurd h id
 |_::_,_,[],_,h,_=>absurd h id
def fI.split{C:Addr}{NM:List Str}{H:Hp}:∀{hs:List Hn}{rs:List Rn}{r:Rn},fI C NM H hs (rs++[r])->∃gs g,hs=gs++[g]/\fI C NM H gs rs/\RnQ C NM H g r
 |[],[],_,h=>absurd h id
 |[],_::_,_,h=>absurd h id
 |[h],[],r,⟨a,_⟩=>⟨[],h,rfl,trivial,a⟩
 |_::_::_,[],_,⟨_,b⟩=>absurd b id
 |h::hs,q::rs,r,⟨a,b⟩=>let⟨gs,g,e,b1,b2⟩:=fI.split b;⟨h::gs,g,by rw[e];rfl,⟨a,b1⟩,b2⟩
def fI.there{C:Addr}{NM:List Str}{H:Hp}:∀{hs:List Hn}{rs:List Rn},fI C NM H hs rs->∀h∈hs,(∃dx fs,H h.1=some (.ins C dx fs))/\(∃kvs,H h.2.1=some (.dK kvs))/\∃xs,H h.2.2.1=some (.lst xs)
 |h::hs,r::rs,⟨a,b⟩,g,hg=>by
  rcases az.mp hg with e|e
  ·rw[e];obtain⟨dx,cv,sp,q,_⟩:=a.ex;exact⟨⟨dx,_,q⟩,⟨_,a.kn⟩,_,a.tl⟩
  ·exact b.there g e
 |[],[],_,_,hg=>absurd hg di
 |[],_::_,h,_,_=>absurd h id
 |_::_,[],h,_,_=>absurd h id
def fI.not_in{C:Addr}{NM:List Str}{H:Hp}{hs:List Hn}{rs:List Rn}(h:fI C NM H hs rs)(a:Addr)(ha:H a=none):a∉hs.map (·.1)/\a∉hs.map (·.2.1)/\a∉hs.map (·.2.2.1):=by
 refine⟨fun z=>?_,fun z=>?_,fun z=>?_⟩
 all_goals
  obtain⟨g,hg,rfl⟩:=ci.mp z;obtain⟨⟨_,_,q1⟩,⟨_,q2⟩,_,q3⟩:=h.there g hg
 ·rw[ha] at q1;cases q1
 ·rw[ha] at q2;cases q2
 ·rw[ha] at q3;cases q3
structure Frs(H:Hp)(hs:List Hn):Prop where
 x:(hs.map (·.1)).Nodup
 k:(hs.map (·.2.1)).Nodup
 t:(hs.map (·.2.2.1)).Nodup
 n:∀h∈hs,H h.1=none/\H h.2.1=none/\H h.2.2.1=none
def aT2(rn:Rn)(y:Str)(z:Int×Int×Int):Rn:=⟨rn.rs,cF rn.e y z.1,rn.td,uO rn.sh z.2⟩
def cR(hs:List Hn):List V:=hs.map fun h=> .ref h.1
def bV7(C:Addr):Sp:=fun vs H Q _=>∃(x kd tl:Addr) (NM ks:List Str) (rn:Rn) (y:Str) (t:Addr) (us:List V) (tb:List (Int×Int×Int)),vs=[.ref x,.str y,.ref t]/\kO C NM H x kd tl ks rn/\y∈NM/\NM.length<=100/\H t=some (.tup us)/\dH (nC H) us tb/\tb.length<=10/\rn.td.length<=4/\rD 900 rn.sh/\(∀z∈tb,rD 900 z.2) /\
 ∀H' l hs,aR H H'->H l=none->H' l=some (.lst (cR hs))->fI C NM H' hs (tb.map (aT2 rn y))->Frs H hs->(∀h∈hs,h.2.2.2=dP ks y)->Q (.ref l) H'
def jW(NM:List Str)(KS:List (List RKey))(cs:List Int)(M:Int):List Hn->List Rn->Prop
 |[],[]=>True
 |h::hs,r::rs=>GdK NM KS cs M h.2.2.2 r/\jW NM KS cs M hs rs
 |_,_=>False
def jW.app{NM:List Str}{KS:List (List RKey)}{cs:List Int}{M:Int}:∀{hs gs:List Hn}{rs qs:List Rn},jW NM KS cs M hs rs->jW NM KS cs M gs qs->jW NM KS cs M (hs++gs) (rs++qs)
 |[],_,[],_,_,h=>h
 |_::_,_,_::_,_,⟨a,b⟩,h=>⟨a,b.app h⟩
 |[],_,_::_,_,h,_=>absurd h id
 |_::_,_,[],_,h,_=>absurd h id
def jW.split{NM:List Str}{KS:List (List RKey)}{cs:List Int}{M:Int}:∀{gs:List Hn}{g:Hn}{rs:List Rn}{r:Rn},gs.length=rs.length->jW NM KS cs M (gs++[g]) (rs++[r])->jW NM KS cs M gs rs/\GdK NM KS cs M g.2.2.2 r
 |[],_,[],_,_,⟨a,_⟩=>⟨trivial,a⟩
 |_::_,_,_::_,_,l,⟨a,b⟩=>let⟨c,d⟩:=jW.split (su l) b;⟨⟨a,c⟩,d⟩
 |[],_,_::_,_,l,_=>absurd l (by simp)
 |_::_,_,[],_,l,_=>absurd l (by simp)
def jW.all{NM:List Str}{KS:List (List RKey)}{cs:List Int}{M:Int}{ks:List Str}:∀{hs:List Hn}{rs:List Rn},hs.length=rs.length->(∀h∈hs,h.2.2.2=ks)->(∀r∈rs,GdK NM KS cs M ks r)->jW NM KS cs M hs rs
 |[],[],_,_,_=>trivial
 |h::hs,r::rs,l,a,b=>⟨by rw[a h aj];exact b r aj,jW.all (su l) (fun x hx=>a x (ae _ hx)) fun x hx=>b x (ae _ hx)⟩
 |[],_::_,l,_,_=>absurd l (by simp)
 |_::_,[],l,_,_=>absurd l (by simp)
def wS(rns:List Rn):Nat:=(rns.map fun r=>wL r.rs).sum
def aJ9(a b:List Rn):wS (a++b)=wS a+wS b:=by unfold wS;rw[aq,oh]
def aJ6(r:Rn):wS [r]=wL r.rs:=by simp[wS]
def bA6{NM:List Str}{KS:List (List RKey)}{cs:List Int}{M:Int}:∀{hs:List Hn}{rs:List Rn},jW NM KS cs M hs rs->rs.length<=wS rs
 |[],[],_=>bi _
 |h::hs,r::rs,⟨a,b⟩=>by
  have:=bA6 b;have:=(yX r.rs a.g.ok).w1;show rs.length+1<=wS ([r]++rs);rw[aJ9,aJ6];lia
 |[],_::_,h=>absurd h id
 |_::_,[],h=>absurd h id
def mS(rns:List Rn):Nat:=(rns.map fun r=>11^(aP r.rs)).sum
def aG9(a b:List Rn):mS (a++b)=mS a+mS b:=by unfold mS;rw[aq,oh]
def aL6(r:Rn):mS [r]=11^aP r.rs:=by simp[mS]
def bV1{n:Nat}:∀{rns:List Rn},(∀r∈rns,aP r.rs=n)->mS rns=rns.length*11^n
 |[],_=>by simp[mS]
 |r::rs,h=>by
  have ih:=bV1 fun x hx=>h x (ae _ hx)
  show mS ([r]++rs)=(rs.length+1)*11^n;rw[aG9,aL6,ih,h r aj,mo];lia
def bR3{rn r':Rn}{kids:List Rn}{n:Nat}(h:n+1<=aP rn.rs)(hk:∀r∈kids,aP r.rs=n)(l:kids.length<=10):mS kids<mS [rn]:=by
 rw[bV1 hk,aL6];have p:0<11^n:=qg (by decide);have:11^(n+1)<=11^aP rn.rs:=jm (by decide) h;rw[ot] at this;have:kids.length*11^n<=10*11^n:=Nat.mul_le_mul_right _ l;lia
def lvS(cs:List Int)(rns:List Rn):List Lf:=rns.reverse.flatMap (Rn.lv cs)
def aO0(cs:List Int)(a b:List Rn):lvS cs (a++b)=lvS cs b++lvS cs a:=by unfold lvS;rw[zt,tq]
def bT3(cs:List Int)(r:Rn):lvS cs [r]=r.lv cs:=by simp[lvS]
structure qI(H:Hp)(KS:List (List RKey))(cs:List Int)(l:List (List RKey×V)):Prop where
 nd:(l.map (·.1)).Nodup
 ks:∀e∈l,e.1∈KS
 tb:∀e∈l,∃x T wss t us,e.1=fH x T wss/\(T.one=true->wss.length=1)/\e.2= .ref t/\H t=some (.tup us)/\dH (nC H) us (oY cs T wss)
def qI.ts{H H':Hp}(s:TS H H'){KS:List (List RKey)}{cs:List Int}{l:List (List RKey×V)}(h:qI H KS cs l):qI H' KS cs l:=
 ⟨h.nd,h.ks,fun e he=>let⟨x,T,wss,t,us,a,b,c,d,f⟩:=h.tb e he;⟨x,T,wss,t,us,a,b,c,s _ _ d,fJ s f⟩⟩
def qI.len{H:Hp}{KS:List (List RKey)}{cs:List Int}{l:List (List RKey×V)}(h:qI H KS cs l):l.length<=KS.length:=by
 have:=gY h.nd (m:=KS) fun x hx=>by obtain⟨e,he,rfl⟩:=ci.mp hx;exact h.ks e he
 rw[ac] at this;exact this
def aX6{κ:Type}[DecidableEq κ]{l:List (κ×V)}{k:κ}{v:V}(h:dA l k=some v):(k,v)∈l:=by
 induction l with
 |nil=>cases h
 |cons e r ih =>
  by_cases c:e.1=k
  ·rw[bL c] at h
   cases h
   rw[<-c];exact aj
  ·rw[aO c] at h;exact ae _ (ih h)
def qI.get{H:Hp}{KS:List (List RKey)}{cs:List Int}{l:List (List RKey×V)}(h:qI H KS cs l){x:Str}{T:dY}{wss:List (List Int)}{v:V}(o:T.one=true->wss.length=1)(e:dA l (fH x T wss)=some v):∃t us,v= .ref t/\H t=some (.tup us)/\dH (nC H) us (oY cs T wss):=by
 obtain⟨x',T',wss',t,us,a,b,c,d,f⟩:=h.tb _ (aX6 e);obtain⟨rfl,rfl⟩:=aW9 o b a;exact⟨t,us,c,d,f⟩
def qI.put{H:Hp}{KS:List (List RKey)}{cs:List Int}{l:List (List RKey×V)}(h:qI H KS cs l){x:Str}{T:dY}{wss:List (List Int)}{t:Addr}{us:List V}(o:T.one=true->wss.length=1)(hk:fH x T wss∈KS)(e:dA l (fH x T wss)=none)(ht:H t=some (.tup us))(tw:dH (nC H) us (oY cs T wss)) :
  qI H KS cs (cH l (fH x T wss) (.ref t))/\dA (cH l (fH x T wss) (.ref t)) (fH x T wss)=some (.ref t):=by
 have hn:fH x T wss∉l.map (·.1):=fun z=>by
  obtain⟨q,hq,eq⟩:=ci.mp z;have:∀(m:List (List RKey×V)),q∈m->dA m (fH x T wss)≠none:=by
   intro m
   induction m with
   |nil=>intro z;exact absurd z di
   |cons a r ih =>
    intro z
    by_cases c:a.1=fH x T wss
    ·rw[bL c];exact fun z=>nomatch z
    ·rw[aO c];rcases az.mp z with e|e
     ·rw[e] at eq;exact absurd eq c
     ·exact ih e
  exact this l hq e
 have ep:cH l (fH x T wss) (.ref t)=l++[(fH x T wss,.ref t)]:=by
  unfold cH;rw[ai (by rw[dQ,e];decide)]
 rw[ep];refine⟨⟨?_,fun q hq=>?_,fun q hq=>?_⟩,?_⟩
 ·rw[aq];refine iw.mpr ⟨h.nd,by simp,fun a ha b hb eab=>hn ?_⟩;rw[aAn] at hb;have hb:b=fH x T wss:=av.mp hb;rw[<-hb, <-eab];exact ha
 ·rcases br.mp hq with z|z
  ·exact h.ks q z
  ·rw[av.mp z];exact hk
 ·rcases br.mp hq with z|z
  ·exact h.tb q z
  ·rw[av.mp z];exact⟨x,T,wss,t,us,rfl,o,rfl,ht,tw⟩
 ·clear ep h
  induction l with
  |nil=>exact bL rfl
  |cons a r ih =>
   by_cases c:a.1=fH x T wss
   ·exact absurd (by rw[<-c];exact aj) hn
   ·rw[List.cons_append,aO c];rw[aO c] at e;exact ih e fun z=>hn (ae _ z)
def e0:Ev:=fun _=>0
def bX3(C:Addr):Sp:=fun vs H Q _=>∃(pg pr c:Addr) (kv:V) (most:Int) (NM:List Str) (KS:List (List RKey)) (cs:List Int) (M:Int) (rs:List Rw),vs=[.ref pg,.ref c,.int most]/\40<=most/\most<2^40 /\
 H pg=some (.tup [kv,.ref pr])/\H pr=some (.tup (bK rs))/\bO H rs/\dF H c cs/\NM.length<=100/\KS.length<=100/\GdK NM KS cs M [] ⟨rs,e0,[],(1,1)⟩/\1<=M/\M<=2^850/\wL rs<=40 /\
 ∀H' l us,aR H H'->H' l=some (.lst us)->dH (qU true H') us (LV cs rs e0 [] (1,1))->(LV cs rs e0 [] (1,1)).length<=40->(∀e∈LV cs rs e0 [] (1,1),OvM M e.2)->Q (.ref l) H'
structure Wt(P:Program)(w:World)(C:Addr)(NM:List Str)(KS:List (List RKey))(cs:List Int)(M:Int)(TOT:List Lf)(H G:Hp)(tb el wl:Addr)(E X:List Lf)(nX:Nat)(us:List V)(hs:List Hn)(rns:List Rn)(l:List (List RKey×V)):Prop where
 s:aR H G
 d:DN3 P w G tb l
 db:H tb=none
 dt:qI G KS cs l
 e:G el=some (.lst us)
 en:H el=none
 et:dH (qU true G) us E
 w:G wl=some (.lst (cR hs))
 wn:H wl=none
 ne:el≠wl
 q:fI C NM G hs rns
 f:Frs H hs
 tl:∀h∈hs,h.2.2.1≠el/\h.2.2.1≠wl
 g:jW NM KS cs M hs rns
 t:TOT=E++(X++lvS cs rns)
 n:E.length+(nX+wS rns)<=40
 ov:∀e∈E,OvM M e.2
structure Cur(H:Hp)(el wl:Addr)(gs:List Hn)(g:Hn):Prop where
 x:g.1∉gs.map (·.1)
 k:g.2.1∉gs.map (·.2.1)
 t:g.2.2.1∉gs.map (·.2.2.1)
 f:H g.1=none/\H g.2.1=none/\H g.2.2.1=none
 ne:g.2.2.1≠el/\g.2.2.1≠wl
section
variable {P:Program}{w:World}{C:Addr}{NM:List Str}{KS:List (List RKey)}{cs:List Int}{M:Int}{TOT:List Lf}{H G G':Hp}{tb el wl:Addr}{E X:List Lf}{nX:Nat}{us:List V}{hs gs:List Hn}{rns:List Rn}{l:List (List RKey×V)}{g:Hn}{r:Rn}
def Wt.keep(h:Wt P w C NM KS cs M TOT H G tb el wl E X nX us hs rns l)(s:aR H G')(t:TS G G')(ed:∀o,G tb=some o->G' tb=some o)(ee:G' el=G el)(ew:G' wl=G wl)(eq:∀h∈hs,G' h.1=G h.1/\G' h.2.1=G h.2.1/\G' h.2.2.1=G h.2.2.1):Wt P w C NM KS cs M TOT H G' tb el wl E X nX us hs rns l:=
 ⟨s,h.d.keep t ed,h.db,h.dt.ts t,ee.trans h.e,h.en,h.et.mono fun _ _ z=>z.ts t,ew.trans h.w,h.wn,h.ne,h.q.mono fun x hx _ z=>kO.ts z t (eq x hx).1 (eq x hx).2.1 (eq x hx).2.2,h.f,h.tl,h.g,h.t,h.n,h.ov⟩
def Wt.same(h:Wt P w C NM KS cs M TOT H G tb el wl E X nX us hs rns l)(s:aR G G'):Wt P w C NM KS cs M TOT H G' tb el wl E X nX us hs rns l:=
 h.keep (h.s.trans s) (.of s) (fun o e=>s _ _ e) ((s _ _ h.e).trans h.e.symm) ((s _ _ h.w).trans h.w.symm) fun x hx=>by
  obtain⟨⟨_,_,q1⟩,⟨_,q2⟩,_,q3⟩:=h.q.there x hx;exact⟨(s _ _ q1).trans q1.symm,(s _ _ q2).trans q2.symm,(s _ _ q3).trans q3.symm⟩
def bD{a b:Addr}{o o':HO}(ha:G a=some o)(hb:G b=some o')(h:o≠o'):a≠b:=fun z=>h (by rw[z,hb] at ha;exact(cq ha).symm)
def Wt.off(h:Wt P w C NM KS cs M TOT H G tb el wl E X nX us gs rns l)(c:Cur H el wl gs g)(hr:RnQ C NM G g r)(o:cV [g.1,g.2.1,g.2.2.1] G G'):Wt P w C NM KS cs M TOT H G' tb el wl E X nX us gs rns l:=by
 obtain⟨dx,cv,sp,hx,_⟩:=hr.ex;have hk:=hr.kn;have ht:=hr.tl;have out:∀a o,G a=some o->a≠g.1->a≠g.2.1->a≠g.2.2.1->G' a=some o:=fun a o' e n1 n2 n3=>o a o' e (by simp only[List.mem_cons,List.not_mem_nil,or_false];exact fun z=>z.elim n1 fun z=>z.elim n2 n3)
 have s:aR H G':=fun a o' e=>out a o' (h.s _ _ e) (fun z=>by rw[z,c.f.1] at e;cases e) (fun z=>by rw[z,c.f.2.1] at e;cases e) (fun z=>by rw[z,c.f.2.2] at e;cases e)
 have t:TS G G':=fun a ys e=>out a _ e (bD e hx (by intro z;cases z)) (bD e hk (by intro z;cases z)) (bD e ht (by intro z;cases z))
 have sb:∀{a o'},G a=some o'->a≠g.1->a≠g.2.1->a≠g.2.2.1->G' a=G a:=fun e n1 n2 n3=>(out _ _ e n1 n2 n3).trans e.symm
 obtain⟨φ,ed⟩:=h.d.ext;refine h.keep s t (fun o' e=>out tb o' e ?_ ?_ ?_) (sb h.e (bD h.e hx (by intro z;cases z)) (bD h.e hk (by intro z;cases z)) c.ne.1.symm) (sb h.w (bD h.w hx (by intro z;cases z)) (bD h.w hk (by intro z;cases z)) c.ne.2.symm) fun x hx'=>?_
 ·exact bD ed hx (by intro z;cases z)
 ·exact bD ed hk (by intro z;cases z)
 ·exact bD ed ht (by intro z;cases z)
 obtain⟨⟨_,_,q1⟩,⟨_,q2⟩,_,q3⟩:=h.q.there x hx';have m1:x.1≠g.1:=fun z=>c.x (by rw[<-z];exact ci.mpr ⟨x,hx',rfl⟩)
 have m2:x.2.1≠g.2.1:=fun z=>c.k (by rw[<-z];exact ci.mpr ⟨x,hx',rfl⟩)
 have m3:x.2.2.1≠g.2.2.1:=fun z=>c.t (by rw[<-z];exact ci.mpr ⟨x,hx',rfl⟩)
 exact⟨sb q1 m1 (bD q1 hk (by intro z;cases z)) (bD q1 ht (by intro z;cases z)),sb q2 (bD q2 hx (by intro z;cases z)) m2 (bD q2 ht (by intro z;cases z)),sb q3 (bD q3 hx (by intro z;cases z)) (bD q3 hk (by intro z;cases z)) m3⟩
def Wt.pop(h:Wt P w C NM KS cs M TOT H G tb el wl E [] 0 us (gs++[g]) (rns++[r]) l) :
  Wt P w C NM KS cs M TOT H (aN G wl (.lst (cR gs))) tb el wl E (r.lv cs) (wL r.rs) us gs rns l/\RnQ C NM (aN G wl (.lst (cR gs))) g r/\Cur H el wl gs g/\GdK NM KS cs M g.2.2.2 r:=by
 obtain⟨gs',g',e1,q1,q2⟩:=fI.split h.q;obtain⟨rfl,e2⟩:=List.append_inj' e1 rfl;obtain rfl:g=g':=by injection e2
 obtain⟨g1,g2⟩:=jW.split q1.length h.g;have t:TS G (aN G wl (.lst (cR gs))):=TS.lst h.w;have nw:∀a,a≠wl->aN G wl (.lst (cR gs)) a=G a:=fun a n=>aH n
 have hn:=h.t;have nn:=h.n;rw[aO0,bT3,xf] at hn;rw[aJ9,aJ6] at nn;obtain⟨dx,cv,sp,hx,_⟩:=q2.ex;obtain⟨φ,ed⟩:=h.d.ext;have mem:∀x∈gs,x∈gs++[g]:=fun x hx=>dw _ hx
 have ng:g∈gs++[g]:=cg _ aj;have nd:∀(f:Hn->Addr),((gs++[g]).map f).Nodup->(gs.map f).Nodup/\f g∉gs.map f:=fun f n=>by
  rw[aq] at n;obtain⟨a,_,c⟩:=iw.mp n;exact⟨a,fun z=>c _ z _ (by simp) rfl⟩
 refine⟨⟨dN h.s h.wn,h.d.keep t fun o e=>by rw[nw tb (bD ed h.w (by intro z;cases z))];exact e,h.db,h.dt.ts t,(nw el h.ne).trans h.e,h.en,h.et.mono fun _ _ z=>z.ts t,aD,h.wn,h.ne,q1.mono fun x hx' r' z=>?_,⟨(nd _ h.f.x).1,(nd _ h.f.k).1,(nd _ h.f.t).1,fun x hx'=>h.f.n x (mem x hx')⟩,fun x hx'=>h.tl x (mem x hx'),g1,hn,by lia,h.ov⟩,?_,⟨(nd _ h.f.x).2,(nd _ h.f.k).2,(nd _ h.f.t).2,h.f.n g ng,h.tl g ng⟩,g2⟩
 ·obtain⟨_,_,_,p1,_⟩:=z.ex;exact kO.ts z t (nw _ (bD p1 h.w (by intro z;cases z))) (nw _ (bD z.kn h.w (by intro z;cases z))) (nw _ (h.tl x (mem x hx')).2)
 ·exact kO.ts q2 t (nw _ (bD hx h.w (by intro z;cases z))) (nw _ (bD q2.kn h.w (by intro z;cases z))) (nw _ (h.tl g ng).2)
end
def at1{v u:V}{r:List V}:mM (v::u::r) 1=some u:=by
 unfold mM ixN;rw[ao (by decide),ao (by simp only[List.length_cons];lia)];rfl
section
variable {P:Program}{w:World}{C:Addr}{NM:List Str}{KS:List (List RKey)}{cs:List Int}{M:Int}{TOT:List Lf}{H G G':Hp}{tb el wl:Addr}{E X:List Lf}{nX:Nat}{us:List V}{hs gs:List Hn}{rns:List Rn}{l:List (List RKey×V)}{g:Hn}{r:Rn}
def Wt.fin{v:V}{lf:Lf}(h:Wt P w C NM KS cs M TOT H G tb el wl E [lf] nX us gs rns l)(n1:1<=nX)(hv:qU true G v lf)(ho:OvM M lf.2):Wt P w C NM KS cs M TOT H (aN G el (.lst (us++[v]))) tb el wl (E++[lf]) [] 0 (us++[v]) gs rns l:=by
 have t:TS G (aN G el (.lst (us++[v]))):=TS.lst h.e;have nw:∀a,a≠el->aN G el (.lst (us++[v])) a=G a:=fun a n=>aH n
 obtain⟨φ,ed⟩:=h.d.ext;have nn:=h.n;refine⟨dN h.s h.en,h.d.keep t fun o e=>by rw[nw tb (bD ed h.e (by intro z;cases z))];exact e,h.db,h.dt.ts t,aD,h.en,dH.append (h.et.mono fun _ _ z=>z.ts t) ⟨hv.ts t,trivial⟩,(nw wl h.ne.symm).trans h.w,h.wn,h.ne,h.q.mono fun x hx' r' z=>?_,h.f,h.tl,h.g,?_,?_,fun e he=>?_⟩
 ·obtain⟨_,_,_,p1,_⟩:=z.ex;exact kO.ts z t (nw _ (bD p1 h.e (by intro z;cases z))) (nw _ (bD z.kn h.e (by intro z;cases z))) (nw _ (h.tl x hx').1)
 ·rw[h.t,iu];rfl
 ·rw[bg,qu];lia
 ·rcases br.mp he with z|z
  ·exact h.ov e z
  ·rw[av.mp z];exact ho
def Wt.push{G0:Hp}{ks:List Hn}{krs:List Rn}(h:Wt P w C NM KS cs M TOT H G tb el wl E X nX us gs rns l)(s0:aR H G0)(he:∃o,G0 el=some o)(hw:∃o,G0 wl=some o)(hg:∀x∈gs,(∃o,G0 x.1=some o)/\(∃o,G0 x.2.1=some o)/\∃o,G0 x.2.2.1=some o)
  (q:fI C NM G ks krs) (fr:Frs G0 ks) (gd:jW NM KS cs M ks krs) (eX:X=lvS cs krs) (en:wS krs<=nX):Wt P w C NM KS cs M TOT H (aN G wl (.lst (cR gs++cR ks))) tb el wl E [] 0 us (gs++ks) (rns++krs) l:=by
 have t:TS G (aN G wl (.lst (cR gs++cR ks))):=TS.lst h.w;have nw:∀a,a≠wl->aN G wl (.lst (cR gs++cR ks)) a=G a:=fun a n=>aH n
 obtain⟨φ,ed⟩:=h.d.ext;have nn:=h.n;have tlk:∀x∈ks,x.2.2.1≠el/\x.2.2.1≠wl:=fun x hx=>by
  obtain⟨_,_,n3⟩:=fr.n x hx;obtain⟨o,eo⟩:=he;obtain⟨o',eo'⟩:=hw;exact⟨fun z=>(by rw[z,eo] at n3;cases n3),fun z=>(by rw[z,eo'] at n3;cases n3)⟩
 have two:∀{hs':List Hn}{rs':List Rn},fI C NM G hs' rs'->(∀x∈hs',x.2.2.1≠wl)->fI C NM (aN G wl (.lst (cR gs++cR ks))) hs' rs':=fun q' n'=>q'.mono fun x hx' r' z=>by
  obtain⟨_,_,_,p1,_⟩:=z.ex;exact kO.ts z t (nw _ (bD p1 h.w (by intro z;cases z))) (nw _ (bD z.kn h.w (by intro z;cases z))) (nw _ (n' x hx'))
 have nd:∀(f:Hn->Addr),(gs.map f).Nodup->(ks.map f).Nodup->(∀x∈gs,∃o,G0 (f x)=some o)->(∀x∈ks,G0 (f x)=none)->((gs++ks).map f).Nodup:=fun f n1 n2 h1 h2=>by
  rw[aq];refine iw.mpr ⟨n1,n2,fun a ha b hb e=>?_⟩;obtain⟨x,hx,rfl⟩:=ci.mp ha;obtain⟨y,hy,rfl⟩:=ci.mp hb;obtain⟨o,eo⟩:=h1 x hx;rw[e,h2 y hy] at eo
  cases eo
 refine⟨dN h.s h.wn,h.d.keep t fun o e=>by rw[nw tb (bD ed h.w (by intro z;cases z))];exact e,h.db,h.dt.ts t,(nw el h.ne).trans h.e,h.en,h.et.mono fun _ _ z=>z.ts t,by rw[aD];unfold cR;rw[aq],h.wn,h.ne,fI.app (two h.q fun x hx=>(h.tl x hx).2) (two q fun x hx=>(tlk x hx).2),
  ⟨nd _ h.f.x fr.x (fun x hx=>(hg x hx).1) fun x hx=>(fr.n x hx).1,nd _ h.f.k fr.k (fun x hx=>(hg x hx).2.1) fun x hx=>(fr.n x hx).2.1,nd _ h.f.t fr.t (fun x hx=>(hg x hx).2.2) fun x hx=>(fr.n x hx).2.2,fun x hx=>?_⟩,fun x hx=>?_,jW.app h.g gd,?_,?_,h.ov⟩
 ·rcases br.mp hx with z|z
  ·exact h.f.n x z
  ·obtain⟨a,b,c⟩:=fr.n x z;exact⟨s0.free a,s0.free b,s0.free c⟩
 ·rcases br.mp hx with z|z
  ·exact h.tl x z
  ·exact tlk x z
 ·rw[aO0,h.t,eX];rfl
 ·rw[aJ9];lia
def Wt.put{G':Hp}{l':List (List RKey×V)}(h:Wt P w C NM KS cs M TOT H G tb el wl E X nX us gs rns l)(d:DN3 P w G' tb l')(o:∀c,c≠tb->G' c=G c)(dt:qI G KS cs l'):Wt P w C NM KS cs M TOT H G' tb el wl E X nX us gs rns l'/\TS G G':=by
 obtain⟨φ,ed⟩:=h.d.ext;have t:TS G G':=fun a ys e=>by rw[o a (bD e ed (by intro z;cases z))];exact e
 have s:aR H G':=fun a o' e=>by rw[o a fun z=>by rw[z,h.db] at e;cases e];exact h.s _ _ e
 refine⟨⟨s,d,h.db,dt.ts t,(o el (bD h.e ed (by intro z;cases z))).trans h.e,h.en,h.et.mono fun _ _ z=>z.ts t,(o wl (bD h.w ed (by intro z;cases z))).trans h.w,h.wn,h.ne,h.q.mono fun x hx' r' z=>?_,h.f,h.tl,h.g,h.t,h.n,h.ov⟩,t⟩;obtain⟨_,_,_,p1,_⟩:=z.ex;exact kO.ts z t (o _ (bD p1 ed (by intro z;cases z))) (o _ (bD z.kn ed (by intro z;cases z))) (o _ (bD z.tl ed (by intro z;cases z)))
end
structure bU5(NM:List Str)(KS:List (List RKey))(H:Hp)(pg c:Addr)(cs:List Int)(M:Int)(rs:List Rw):Prop where
 at':∃kv pr,H pg=some (.tup [kv,.ref pr])/\H pr=some (.tup (bK rs))
 rw:bO H rs
 c:dF H c cs
 nm:NM.length<=100
 ks:KS.length<=100
 g:GdK NM KS cs M [] ⟨rs,e0,[],(1,1)⟩
 m1:1<=M
 m2:M<=2^850
 w:wL rs<=40
def spTold:Sp:=fun vs H Q _=>∃(pg c:Addr) (most:Int) (NM:List Str) (KS:List (List RKey)) (cs:List Int) (M:Int) (rs:List Rw),vs=[.ref pg,.ref c,.int most]/\40<=most/\most<2^40/\bU5 NM KS H pg c cs M rs /\
 ∀H' t ks,aR H H'->yF true H' t (iE (gS (LV cs rs e0 [] (1,1))) ks)->Ups ks->(∀k,k∈ks↔∃u,gS (LV cs rs e0 [] (1,1)) k=some u/\u≠(0,1))->Q (.ref t) H'
structure hV(H:Hp)(p l:Addr)(sd n:Int)(ls:List Int):Prop where
 pc:H p=some (.lst [.int sd,.int n,.ref l])
 lc:H l=some (.lst (ls.map V.int))
 ne:p≠l
 s0:0<=sd
 s1:sd<2147483647
 n0:0<=n
 l0:∀x∈ls,0<=x
def jE(H:Hp)(p l:Addr):Prop:=∃sd n ls,hV H p l sd n ls
def hV.seed{H:Hp}{p l:Addr}{sd n:Int}{ls:List Int}(D:hV H p l sd n ls){v:Int}(h0:0<=v)(h1:v<2147483647):hV (aN H p (.lst [.int v,.int n,.ref l])) p l v n ls:=
 ⟨aD,by rw[aH D.ne.symm];exact D.lc,D.ne,h0,h1,D.n0,D.l0⟩
def hV.number{H:Hp}{p l:Addr}{sd n:Int}{ls:List Int}(D:hV H p l sd n ls){v:Int}(h0:0<=v):hV (aN H p (.lst [.int sd,.int v,.ref l])) p l sd v ls:=
 ⟨aD,by rw[aH D.ne.symm];exact D.lc,D.ne,D.s0,D.s1,h0,D.l0⟩
def hV.left{H:Hp}{p l:Addr}{sd n:Int}{ls ls':List Int}(D:hV H p l sd n ls)(h:∀x∈ls',0<=x):hV (aN H l (.lst (ls'.map V.int))) p l sd n ls':=
 ⟨by rw[aH D.ne];exact D.pc,aD,D.ne,D.s0,D.s1,D.n0,h⟩
def hV.out{H H':Hp}{p l:Addr}{sd n:Int}{ls:List Int}(D:hV H p l sd n ls)(s:aR H H'):hV H' p l sd n ls:=⟨s _ _ D.pc,s _ _ D.lc,D.ne,D.s0,D.s1,D.n0,D.l0⟩
def jE.same{H H':Hp}{p l:Addr}(D:jE H p l)(s:aR H H'):jE H' p l:=let⟨sd,n,ls,q⟩:=D;⟨sd,n,ls,q.out s⟩
def jE.ts{H H':Hp}{p l:Addr}(D:jE H p l)(o:Out p l H H'):TS H H':=fun a xs e=>by
 obtain⟨sd,n,ls,q⟩:=D;exact o a _ e (gE e q.pc (by intro z;cases z)) (gE e q.lc (by intro z;cases z))
def fC{H:Hp}{p l r:Addr}(D:jE H p l)(h:H r=none):r≠p/\r≠l:=by
 obtain⟨sd,n,ls,q⟩:=D;exact⟨(aM q.pc h).symm,(aM q.lc h).symm⟩
def qQ{H:Hp}{p l a:Addr}{ys:List V}(D:jE H p l)(n1:a≠p)(n2:a≠l):jE (aN H a (.lst ys)) p l:=by
 obtain⟨sd,n,ls,q⟩:=D;exact⟨sd,n,ls,(aH n1.symm).trans q.pc,(aH n2.symm).trans q.lc,q.ne,q.s0,q.s1,q.n0,q.l0⟩
def eP{H H':Hp}{p l a:Addr}{o:HO}(h:H a=some o)(n1:a≠p)(n2:a≠l)(u:Out p l H H'):H' a=some o:=u a o h n1 n2
def pE{H H2:Hp}{p l a:Addr}(D2:jE H2 p l)(o:Out p l H H2)(h:H2 a=none):H a=none:=by
 obtain⟨n1,n2⟩:=fC D2 h
 cases e:H a with
 |none=>rfl
 |some u=>rw[o a u e n1 n2] at h;cases h
def spDrawP:Sp:=fun vs H Q _=>∃(p l:Addr) (m:Int),vs=[.ref p,.int m]/\jE H p l/\0<m/\m<2^64 /\
 ∀(r:Int) (H':Hp),0<=r->r<m->jE H' p l->Out p l H H'->Q (.int r) H'
def spSumP:Sp:=fun vs H Q _=>∃p l k,vs=[.ref p,.int k]/\jE H p l/\1<=k/\k<=3/\∀r ws H',dF H' r ws->ws.length=k.toNat->(∀x∈ws,0<=x/\x<=3)->jE H' p l->Out p l H H'->Q (.ref r) H'
def cR1{r:Int}(h0:0<=r)(h1:r<3):∃v:Int,mM [V.int 2,V.int 2,V.int 4] r=some (.int v)/\2<=v/\v<=4:=by
 have:r=0\/r=1\/r=2:=by lia
 rcases this with rfl|rfl|rfl
 ·exact⟨2,rfl,by decide,by decide⟩
 ·exact⟨2,rfl,by decide,by decide⟩
 ·exact⟨4,rfl,by decide,by decide⟩
def spSteepP:Sp:=fun vs H Q _=>∃(p l:Addr) (t:Int),vs=[.ref p,.int t]/\jE H p l/\∀(r:Addr) (a b:Int) (H':Hp),aY H' r a b->bT a b->(t=2->2*a<=b)->jE H' p l->Out p l H H'->Q (.ref r) H'
def aU0{a b k:Int}(k2:2<=k)(ha:a % k=0)(hb:b % k=0)(h:bT a b):bT (a / k) (b / k)/\a / k<a/\(2*a<=b->2*(a / k)<=b / k):=by
 have ea:=yl a k;have eb:=yl b k;rw[ha,aAg] at ea;rw[hb,aAg] at eb;generalize a / k=x at ea ⊢;generalize b / k=y at eb ⊢;have h1:=h.p1;have h2:=h.pq;have h3:=h.q9;rw[<-ea] at h1 h2;rw[<-eb] at h2 h3;have kp:0<k:=by lia
 have x1:0<x:=Int.pos_of_mul_pos_right (a:=k) (by lia) kp |> fun z=>z
 have xy:x<y:=Int.lt_of_mul_lt_mul_left h2 (by lia);have yk:2*y<=k*y:=cu k2 (by lia);have xk:2*x<=k*x:=cu k2 (by lia);refine⟨⟨by lia,xy,by lia⟩,by rw[<-ea];lia,fun z=>?_⟩;rw[<-ea, <-eb] at z;have z:k*(2*x)<=k*y:=by rw[Int.mul_left_comm];exact z
 exact Int.le_of_mul_le_mul_left z kp
def spAgain:Sp:=fun vs H Q _=>∃(a:Nat) (n:Nat),vs=[.int a,.int n]/\a<=40/\n<=40/\∀H',aR H H'->Q (.int ((a^n:Nat):Int)) H'
def iH(kn rw ag rn hg:Int)(nl:Addr):List (Key×V):=[(.inr "kinds",.int kn),(.inr "rows",.int rw),(.inr "again",.int ag),(.inr "runs",.int rn),(.inr "high",.int hg),(.inr "names",.ref nl)]
section
variable {kn rw ag rn hg:Int}{nl:Addr}
def cC8:¬((Sum.inr "kinds": Key)=(Sum.inr "rows": Key)):=fun z=>absurd (cy z) (by decide)
def bZ0:¬((Sum.inr "kinds": Key)=(Sum.inr "again": Key)):=fun z=>absurd (cy z) (by decide)
def cE6:¬((Sum.inr "kinds": Key)=(Sum.inr "runs": Key)):=fun z=>absurd (cy z) (by decide)
def cM1:¬((Sum.inr "kinds": Key)=(Sum.inr "high": Key)):=fun z=>absurd (cy z) (by decide)
def cL0:¬((Sum.inr "kinds": Key)=(Sum.inr "names": Key)):=fun z=>absurd (cy z) (by decide)
def bQ7:¬((Sum.inr "rows": Key)=(Sum.inr "again": Key)):=fun z=>absurd (cy z) (by decide)
def bM8:¬((Sum.inr "rows": Key)=(Sum.inr "runs": Key)):=fun z=>absurd (cy z) (by decide)
def cC5:¬((Sum.inr "rows": Key)=(Sum.inr "high": Key)):=fun z=>absurd (cy z) (by decide)
def cI6:¬((Sum.inr "rows": Key)=(Sum.inr "names": Key)):=fun z=>absurd (cy z) (by decide)
def bL4:¬((Sum.inr "again": Key)=(Sum.inr "runs": Key)):=fun z=>absurd (cy z) (by decide)
def cE5:¬((Sum.inr "again": Key)=(Sum.inr "high": Key)):=fun z=>absurd (cy z) (by decide)
def cJ0:¬((Sum.inr "again": Key)=(Sum.inr "names": Key)):=fun z=>absurd (cy z) (by decide)
def cA9:¬((Sum.inr "runs": Key)=(Sum.inr "high": Key)):=fun z=>absurd (cy z) (by decide)
def cD2:¬((Sum.inr "runs": Key)=(Sum.inr "names": Key)):=fun z=>absurd (cy z) (by decide)
def cP1:¬((Sum.inr "high": Key)=(Sum.inr "names": Key)):=fun z=>absurd (cy z) (by decide)
def bJ5:dA (iH kn rw ag rn hg nl) (Sum.inr "kinds": Key)=some (.int kn):=by
 unfold iH;rw[bL rfl]
def aN6:dA (iH kn rw ag rn hg nl) (Sum.inr "rows": Key)=some (.int rw):=by
 unfold iH;rw[aO cC8,bL rfl]
def uH:dA (iH kn rw ag rn hg nl) (Sum.inr "again": Key)=some (.int ag):=by
 unfold iH;rw[aO bZ0,aO bQ7,bL rfl]
def yN:dA (iH kn rw ag rn hg nl) (Sum.inr "runs": Key)=some (.int rn):=by
 unfold iH;rw[aO cE6,aO bM8,aO bL4,bL rfl]
def aP9:dA (iH kn rw ag rn hg nl) (Sum.inr "high": Key)=some (.int hg):=by
 unfold iH;rw[aO cM1,aO cC5,aO cE5,aO cA9,bL rfl]
def aX9:dA (iH kn rw ag rn hg nl) (Sum.inr "names": Key)=some (.ref nl):=by
 unfold iH;rw[aO cL0,aO cI6,aO cJ0,aO cD2,aO cP1,bL rfl]
def bR7{y:Int}:cH (iH kn rw ag rn hg nl) (Sum.inr "rows": Key) (.int y)=iH kn y ag rn hg nl:=by
 unfold cH;rw[ao (by rw[dQ,aN6];rfl)];unfold iH;simp only[List.map_cons,List.map_nil];rw[ai cC8,ao trivial,ai (fun z=>bQ7 z.symm),ai (fun z=>bM8 z.symm),ai (fun z=>cC5 z.symm),ai (fun z=>cI6 z.symm)]
def aZ5{y:Int}:cH (iH kn rw ag rn hg nl) (Sum.inr "again": Key) (.int y)=iH kn rw y rn hg nl:=by
 unfold cH;rw[ao (by rw[dQ,uH];rfl)];unfold iH;simp only[List.map_cons,List.map_nil];rw[ai bZ0,ai bQ7,ao trivial,ai (fun z=>bL4 z.symm),ai (fun z=>cE5 z.symm),ai (fun z=>cJ0 z.symm)]
def bP6{y:Int}:cH (iH kn rw ag rn hg nl) (Sum.inr "runs": Key) (.int y)=iH kn rw ag y hg nl:=by
 unfold cH;rw[ao (by rw[dQ,yN];rfl)];unfold iH;simp only[List.map_cons,List.map_nil];rw[ai cE6,ai bM8,ai bL4,ao trivial,ai (fun z=>cA9 z.symm),ai (fun z=>cD2 z.symm)]
end
def spFew:Sp:=fun vs H Q _=>∃(sc nl:Addr) (kn rw rn hg:Int) (n:Nat),vs=[.ref sc]/\H sc=some (.dK (iH kn rw n rn hg nl))/\n<=27/\1<=rn/\rn<=40/\∀(m:Nat) (H':Hp),aR H H'->1<=m->m<=6->((m^n:Nat):Int)<=rn->Q (.int m) H'
def spBnd:Sp:=fun vs H Q _=>∃(p l sc nl:Addr) (kn rw ag rn m:Int),vs=[.ref p,.ref sc,.int m]/\jE H p l/\H sc=some (.dK (iH kn rw ag rn 9 nl))/\1<=m/\m<=1000/\∀(r:Addr) (lo hi:Int) (H':Hp),aY H' r lo hi->0<=lo->hi<=9->hi=lo+(if 10<m then 10 else m)-1->jE H' p l->Out p l H H'->Q (.ref r) H'
def spCrowdP:Sp:=fun vs H Q _=>∃p l k,vs=[.ref p,.int k]/\jE H p l/\1<=k/\k<=3/\∀r cs H',dF H' r cs->cs.length=k.toNat->(∀x∈cs,0<=x/\x<=1000000)->jE H' p l->Out p l H H'->Q (.ref r) H'
def cU0{r:Int}(h0:0<=r)(h1:r<3):∃v:Int,mM [V.int 3,V.int 12,V.int 1000001] r=some (.int v)/\1<=v/\v<=1000001:=by
 have:r=0\/r=1\/r=2:=by lia
 rcases this with rfl|rfl|rfl
 ·exact⟨3,rfl,by decide,by decide⟩
 ·exact⟨12,rfl,by decide,by decide⟩
 ·exact⟨1000001,rfl,by decide,by decide⟩
def Out.new{p l a:Addr}{H G:Hp}{o:HO}(u:Out p l H G)(h:H a=none):Out p l H (aN G a o):=fun b v e n1 n2=>by
 rw[aH (aM e h)];exact u b v e n1 n2
def nG(w:Str)(xs:List Str):inV (.str w) (xs.map V.str)=decide (w∈xs):=by
 unfold inV;rw[List.any_map]
 induction xs with
 |nil=>rfl
 |cons x r ih =>
  rw[md,ih];have e:(eqV (V.str x) (V.str w))=decide (x=w):=rfl;show(eqV (V.str x) (V.str w) || _)=_;rw[e]
  by_cases c:x=w
  ·simp[c]
  ·have c2:¬w=x:=fun z=>c z.symm
   simp[c,c2]
def rC{xs:List Str}{i:Nat}{v:V}(h:(xs.map V.str)[i]?=some v):∃x,v= .str x/\xs[i]?=some x:=by
 rw[df] at h
 cases e:xs[i]? with
 |none=>rw[e] at h;cases h
 |some r=>rw[e] at h;exact⟨r,(cq h).symm,rfl⟩
def oU{r x y z:Int}(h0:0<=r)(h1:r<3):∃w,mM [V.int x,V.int y,V.int z] r=some (.int w)/\(w=x\/w=y\/w=z):=by
 have:r=0\/r=1\/r=2:=by lia
 rcases this with rfl|rfl|rfl
 ·exact⟨x,rfl,.inl rfl⟩
 ·exact⟨y,rfl,.inr (.inl rfl)⟩
 ·exact⟨z,rfl,.inr (.inr rfl)⟩
def cE3{r:Int}(h0:0<=r)(h1:r<5):∃c,mM ("+-*<=": Str).cps.toList r=some c/\(⟨#[c]⟩:Str)∈bS4:=by
 have:r=0\/r=1\/r=2\/r=3\/r=4:=by lia
 rcases this with rfl|rfl|rfl|rfl|rfl
 ·exact⟨43,rfl,by decide⟩
 ·exact⟨45,rfl,by decide⟩
 ·exact⟨42,rfl,by decide⟩
 ·exact⟨60,rfl,by decide⟩
 ·exact⟨61,rfl,by decide⟩
def aI8{α:Type}{xs:List α}{r:Int}(h0:0<=r)(h1:r<(xs.length:Int)):∃v,xs[r.toNat]?=some v/\mM xs r=some v:=by
 have hk:r.toNat<xs.length:=by lia
 refine⟨_,bw hk,?_⟩;have q:=xX (bw hk);rw[sy h0] at q;exact q
mutual
def aT0:Rw->Nat
 |.when _ _ _ _ a b=>1+max (lQ a) (lQ b)
 |.times _ _ _ b=>1+lQ b
 |.thr _ _ _ _ _=>0
 |.lt _ _ _=>0
 |.tell _ _=>0
def lQ:List Rw->Nat
 |[]=>0
 |r::rs=>max (aT0 r) (lQ rs)
end
def aA5:∀(rs qs:List Rw),lQ (rs++qs)=max (lQ rs) (lQ qs)
 |[],qs=>by simp[lQ]
 |r::rs,qs=>by simp only[List.cons_append,lQ,aA5 rs qs];lia
structure jP(xs ns ns':List Str)(kn:Int)(rw rw' ag rn rn':Nat)(rs:List Rw)(told m:Nat):Prop where
 ok:∀cs:List Int,(cs.length:Int)=kn->pA xs cs rs
 kn:knL rs ns
 out:kJ ns' (mV rs ns)
 tel:eI rs<=told
 key:(dB rs).length+rw'<=rw
 run:wL rs^ag*rn'<=rn
 up:kJ ns ns'
 dep:lQ rs<=m
 cost:aP rs+3^m*rw'<=3^m*(rw+told)
section
variable {xs ns ns1 ns2:List Str}{kn:Int}{rw rw1 rw2 ag rn rn1 rn2:Nat}{rs qs:List Rw}{t t' m:Nat}
def jP.nil:jP xs ns ns kn rw rw ag rn rn [] 0 m:=⟨fun _ _=>trivial,trivial,fun _ h=>h,af _,by simp[dB],by simp[wL],fun _ h=>h,bi _,by simp[aP]⟩
def jP.app(a:jP xs ns ns1 kn rw rw1 ag rn rn1 rs t m)(b:jP xs ns1 ns2 kn rw1 rw2 ag rn1 rn2 qs t' m):jP xs ns ns2 kn rw rw2 ag rn rn2 (rs++qs) (t+t') m:=by
 refine⟨fun cs h=>(a.ok cs h).app (b.ok cs h),nU a.kn (fO _ a.out b.kn),fun y hy=>?_,?_,?_,?_,fun y hy=>b.up y (a.up y hy),?_,?_⟩
 ·rw[tK];exact jH _ a.out y (b.out y hy)
 ·rw[kP];have:=a.tel;have:=b.tel;lia
 ·rw[iY,bg];have:=a.key;have:=b.key;lia
 ·rw[mI,Nat.mul_pow,zo];exact ay (dy (af _) b.run) a.run
 ·rw[aA5];exact Nat.max_le.mpr ⟨a.dep,b.dep⟩
 ·have c1:=a.cost;have c2:=b.cost;rw[cK];rw[qf] at c1 c2 ⊢;rw[qf];lia
def aJ2{P k cb rw1 D t:Nat}(k3:k<=3)(h:cb<=P*D+P*t)(p1:1<=P):1+k*cb+P*3*rw1<=P*3*(rw1+D+1+k*t):=by
 have c3:=dy (af k) h;rw[qf] at c3;have c4:k*(P*D)<=3*(P*D):=dy k3 (af _);have e:P*3*(rw1+D+1+k*t)=3*(P*rw1)+3*(P*D)+3*P+3*(k*(P*t)):=by grind
 have e2:P*3*rw1=3*(P*rw1):=by grind
 rw[e,e2];lia
def bL8(m:Nat):1<=3^m:=qg (by decide)
def zS{m rw rw':Nat}(h:rw' + 1<=rw):1+3^m*rw'<=3^m*(rw+0):=by
 have:=dy (af (3^m)) h;rw[qf,Nat.mul_one] at this;have:=bL8 m;rw[Nat.add_zero];lia
def tZ{r:Rw}:wL [r]=wR r:=by simp only[wL];lia
def jP.lt{p:Addr}{x:Str}{u:Tm}{ns':List Str}(ok:u.ok)(sz:u.size<=12)(nm:∀y∈u.names,y∈ns)(hx:x∈xs)(h':kJ ns' (x::ns))(up:kJ ns ns')(hr:rw' + 1<=rw):jP xs ns ns' kn rw rw' ag rn rn [.lt p x u] 0 m:=
 ⟨fun _ _=>⟨⟨⟨ok,by lia⟩,hx⟩,trivial⟩,⟨nm,trivial⟩,h',by simp[eI,sV],by simp only[dB,vP,List.append_nil,List.length_nil];lia,by rw[tZ];simp[wR],up,by simp[lQ,aT0],by simp only[aP,Rw.cost];exact zS hr⟩
def jP.tell{p:Addr}{u:Tm}(ok:u.ok)(sz:u.size<=12)(nm:∀y∈u.names,y∈ns):jP xs ns ns kn rw rw ag rn rn [.tell p u] 1 m:=
 ⟨fun _ _=>⟨⟨ok,by lia⟩,trivial⟩,⟨nm,trivial⟩,fun _ h=>h,by simp[eI,sV],by simp[dB,vP],by rw[tZ];simp[wR],fun _ h=>h,by simp[lQ,aT0],by simp only[aP,Rw.cost];rw[qf];have:=bL8 m;lia⟩
def jP.thr{p:Addr}{x:Str}{T:dY}{a3:V}{wss:List (List Int)}{ns':List Str}(ok:T.Ok)(ak:∀cs:List Int,(cs.length:Int)=kn->uY T wss cs)(hx:x∈xs)(h':kJ ns' (x::ns))(up:kJ ns ns')(hr:rw' + 1<=rw)(hw:szT T wss^ag*rn1<=rn):jP xs ns ns' kn rw rw' ag rn rn1 [.thr p x T a3 wss] 0 m:=
 ⟨fun cs h=>⟨⟨⟨ok,ak cs h⟩,hx⟩,trivial⟩,⟨trivial,trivial⟩,h',by simp[eI,sV],by simp only[dB,vP,List.append_nil,List.length_singleton];lia,by rw[tZ];exact hw,up,by simp[lQ,aT0],by simp only[aP,Rw.cost];exact zS hr⟩
def jP.when{p pa pb:Addr}{u:Tm}{a b:List Rw}{na nb ns':List Str}(ok:u.ok)(sz:u.size<=12)(nm:∀y∈u.names,y∈ns)(da:jP xs ns na kn rw rw1 ag rn rn1 a t m)(db:jP xs ns nb kn rw1 rw2 ag rn1 rn2 b t m)(h':∀y∈ns',y∈na/\y∈nb)(up:kJ ns ns'):jP xs ns ns' kn (rw+1) rw2 ag rn rn2 [.when p pa pb u a b] t (m+1):=by
 refine⟨fun cs h=>⟨⟨⟨ok,by lia⟩,da.ok cs h,db.ok cs h⟩,trivial⟩,⟨⟨nm,da.kn,db.kn⟩,trivial⟩,fun y hy=>dr.mpr ⟨da.out y (h' y hy).1,ap (db.out y (h' y hy).2)⟩,?_,?_,?_,up,?_,?_⟩
 ·simp only[eI,sV];have:=da.tel;have:=db.tel;lia
 ·simp only[dB,vP,List.append_nil,List.length_append];have:=da.key;have:=db.key;lia
 ·rw[tZ];show(wL a*wL b)^ag*rn2<=rn;rw[Nat.mul_pow,zo];exact ay (dy (af _) db.run) da.run
 ·simp only[lQ,aT0];have:=da.dep;have:=db.dep;lia
 ·have c1:=da.cost;have c2:=db.cost;have k1:=da.key;have k2:=db.key;simp only[aP,Rw.cost,Nat.pow_succ];have h2:=dy (af (3^m)) (show rw2<=rw by lia);have:=bL8 m;simp only[Nat.mul_add,Nat.mul_one] at c1 c2 ⊢;rw[ur (3^m) 3 rw2,ur (3^m) 3 rw,ur (3^m) 3 t];lia
def jP.times{p pb:Addr}{k:Nat}{b:List Rw}(k1:1<=k)(k3:k<=3)(d:jP xs ns ns1 kn rw rw1 (ag*k) rn rn1 b t m):jP xs ns ns1 kn (rw+1) rw1 ag rn rn1 [.times p pb k b] (k*t) (m+1):=by
 refine⟨fun cs h=>⟨d.ok cs h,trivial⟩,⟨⟨⟨k1,by lia⟩,d.kn⟩,trivial⟩,d.out,?_,?_,?_,d.up,?_,?_⟩
 ·simp only[eI,sV];exact dy (af _) d.tel
 ·simp only[dB,vP,List.append_nil];have:=d.key;lia
 ·rw[tZ];show(wL b^k)^ag*rn1<=rn;rw[<-Nat.pow_mul,mq k];exact d.run
 ·simp only[lQ,aT0];have:=d.dep;lia
 ·have c1:=d.cost;have k1:=d.key;simp only[aP,Rw.cost,Nat.pow_succ];obtain⟨D,rfl⟩:∃D,rw=rw1+D:=⟨rw-rw1,by lia⟩
  have c2:aP b<=3^m*D+3^m*t:=by
   simp only[Nat.mul_add] at c1;lia
  have c5:=aJ2 (rw1:=rw1) k3 c2 (bL8 m);simp only[Nat.add_assoc] at c5 ⊢;lia
def jP.less(d:jP xs ns ns1 kn rw rw1 ag rn rn1 rs t m)(h:t<=t'):jP xs ns ns1 kn rw rw1 ag rn rn1 rs t' m:=⟨d.ok,d.kn,d.out,ay d.tel h,d.key,d.run,d.up,d.dep,ay d.cost (dy (af _) (by lia))⟩
end
structure Sc(H:Hp)(p l sc nl nh:Addr)(kn:Int)(rw ag rn:Nat)(xs ns:List Str):Prop where
 pot:jE H p l
 sc:H sc=some (.dK (iH kn rw ag rn 9 nl))
 nm:H nl=some (.lst (xs.map V.str))
 hn:H nh=some (.lst (ns.map V.str))
 n1:nl≠p
 n2:nl≠l
 n3:nh≠p
 n4:nh≠l
 n5:nh≠nl
 k1:1<=kn
 k3:kn<=3
 x3:xs.length=3
 r1:1<=rn
 r2:rn<=40
 a1:1<=ag
 a2:ag<=27
 w1:rw<=4
 nd:ns.Nodup
 sb:kJ ns xs
section
variable {H H':Hp}{p l sc nl nh:Addr}{kn:Int}{rw ag rn:Nat}{xs ns:List Str}
def Sc.ns3(S:Sc H p l sc nl nh kn rw ag rn xs ns):ns.length<=3:=by have:=gY S.nd S.sb;have:=S.x3;lia
def Sc.scp(S:Sc H p l sc nl nh kn rw ag rn xs ns):sc≠p/\sc≠l:=by
 obtain⟨a,b,c,q⟩:=S.pot;exact⟨gE S.sc q.pc (by intro z;cases z),gE S.sc q.lc (by intro z;cases z)⟩
def Sc.scn(S:Sc H p l sc nl nh kn rw ag rn xs ns):sc≠nl/\sc≠nh:=⟨gE S.sc S.nm (by intro z;cases z),gE S.sc S.hn (by intro z;cases z)⟩
def Sc.out(S:Sc H p l sc nl nh kn rw ag rn xs ns)(P:jE H' p l)(o:Out p l H H'):Sc H' p l sc nl nh kn rw ag rn xs ns:=
 ⟨P,o _ _ S.sc S.scp.1 S.scp.2,o _ _ S.nm S.n1 S.n2,o _ _ S.hn S.n3 S.n4,S.n1,S.n2,S.n3,S.n4,S.n5,S.k1,S.k3,S.x3,S.r1,S.r2,S.a1,S.a2,S.w1,S.nd,S.sb⟩
def Sc.same(S:Sc H p l sc nl nh kn rw ag rn xs ns)(s:aR H H'):Sc H' p l sc nl nh kn rw ag rn xs ns:=S.out (S.pot.same s) (.of s)
def Sc.ts(S:Sc H p l sc nl nh kn rw ag rn xs ns)(o:cV [p,l,sc,nh] H H'):TS H H':=fun a ys e=>o a _ e fun z=>by
 obtain⟨_,_,_,q⟩:=S.pot;simp only[List.mem_cons,List.not_mem_nil,or_false] at z;rcases z with z|z|z|z
 ·rw[z,q.pc] at e;cases e
 ·rw[z,q.lc] at e;cases e
 ·rw[z,S.sc] at e;cases e
 ·rw[z,S.hn] at e;cases e
def cV.out{sc nh:Addr}(o:Out p l H H'):cV [p,l,sc,nh] H H':=fun b u e n=>o b u e (fun z=>n (by simp[z])) fun z=>n (by simp[z])
def Sc.put(S:Sc H p l sc nl nh kn rw ag rn xs ns){rw' ag' rn':Nat}(r1:1<=rn')(r2:rn'<=40)(a1:1<=ag')(a2:ag'<=27)(w1:rw'<=4):Sc (aN H sc (.dK (iH kn rw' ag' rn' 9 nl))) p l sc nl nh kn rw' ag' rn' xs ns/\cV [p,l,sc,nh] H (aN H sc (.dK (iH kn rw' ag' rn' 9 nl))):=by
 obtain⟨a,b,c,q⟩:=S.pot;refine⟨⟨⟨a,b,c,(aH S.scp.1.symm).trans q.pc,(aH S.scp.2.symm).trans q.lc,q.ne,q.s0,q.s1,q.n0,q.l0⟩,aD,(aH S.scn.1.symm).trans S.nm,(aH S.scn.2.symm).trans S.hn,S.n1,S.n2,S.n3,S.n4,S.n5,S.k1,S.k3,S.x3,r1,r2,a1,a2,w1,S.nd,S.sb⟩,cV.up (.refl _) (by simp)⟩
def Sc.names(S:Sc H p l sc nl nh kn rw ag rn xs ns){ns':List Str}(nd:ns'.Nodup)(sb:kJ ns' xs):Sc (aN H nh (.lst (ns'.map V.str))) p l sc nl nh kn rw ag rn xs ns'/\cV [p,l,sc,nh] H (aN H nh (.lst (ns'.map V.str))):=
 ⟨⟨qQ S.pot S.n3 S.n4,(aH S.scn.2).trans S.sc,(aH S.n5.symm).trans S.nm,aD,S.n1,S.n2,S.n3,S.n4,S.n5,S.k1,S.k3,S.x3,S.r1,S.r2,S.a1,S.a2,S.w1,nd,sb⟩,cV.up (.refl _) (by simp)⟩
def Sc.at(S:Sc H p l sc nl nh kn rw ag rn xs ns){nh':Addr}{ns':List Str}(h:H nh'=some (.lst (ns'.map V.str)))(n3:nh'≠p)(n4:nh'≠l)(n5:nh'≠nl)(nd:ns'.Nodup)(sb:kJ ns' xs):Sc H p l sc nl nh' kn rw ag rn xs ns':=
 ⟨S.pot,S.sc,S.nm,h,S.n1,S.n2,n3,n4,n5,S.k1,S.k3,S.x3,S.r1,S.r2,S.a1,S.a2,S.w1,nd,sb⟩
def Sc.keep(S:Sc H p l sc nl nh kn rw ag rn xs ns)(o:cV [p,l,sc,nh] H H'){a:Addr}{ys:List V}(h:H a=some (.lst ys))(n1:a≠p)(n2:a≠l)(n3:a≠nh):H' a=some (.lst ys):=o a _ h fun z=>by
 simp only[List.mem_cons,List.not_mem_nil,or_false] at z;rcases z with z|z|z|z
 ·exact n1 z
 ·exact n2 z
 ·rw[z,S.sc] at h;cases h
 ·exact n3 z
def Sc.g_again(S:Sc H p l sc nl nh kn rw ag rn xs ns):eS H sc (.str "again") (some (.int ag)):=by rw[<-uH (kn:=kn) (rw:=rw) (ag:=ag) (rn:=rn) (hg:=9) (nl:=nl)];exact eS.k (k:=Sum.inr "again") S.sc
def Sc.g_runs(S:Sc H p l sc nl nh kn rw ag rn xs ns):eS H sc (.str "runs") (some (.int rn)):=by rw[<-yN (kn:=kn) (rw:=rw) (ag:=ag) (rn:=rn) (hg:=9) (nl:=nl)];exact eS.k (k:=Sum.inr "runs") S.sc
def Sc.g_rows(S:Sc H p l sc nl nh kn rw ag rn xs ns):eS H sc (.str "rows") (some (.int rw)):=by rw[<-aN6 (kn:=kn) (rw:=rw) (ag:=ag) (rn:=rn) (hg:=9) (nl:=nl)];exact eS.k (k:=Sum.inr "rows") S.sc
def Sc.g_high(S:Sc H p l sc nl nh kn rw ag rn xs ns):eS H sc (.str "high") (some (.int 9)):=by rw[<-aP9 (kn:=kn) (rw:=rw) (ag:=ag) (rn:=rn) (hg:=9) (nl:=nl)];exact eS.k (k:=Sum.inr "high") S.sc
def Sc.g_kinds(S:Sc H p l sc nl nh kn rw ag rn xs ns):eS H sc (.str "kinds") (some (.int kn)):=by rw[<-bJ5 (kn:=kn) (rw:=rw) (ag:=ag) (rn:=rn) (hg:=9) (nl:=nl)];exact eS.k (k:=Sum.inr "kinds") S.sc
def Sc.g_names(S:Sc H p l sc nl nh kn rw ag rn xs ns):eS H sc (.str "names") (some (.ref nl)):=by rw[<-aX9 (kn:=kn) (rw:=rw) (ag:=ag) (rn:=rn) (hg:=9) (nl:=nl)];exact eS.k (k:=Sum.inr "names") S.sc
def Sc.p_rows(S:Sc H p l sc nl nh kn rw ag rn xs ns){y:Int}:lT H sc (.str "rows") (.int y) (aN H sc (.dK (iH kn y ag rn 9 nl))):=by
 have:=lT.k (k:=Sum.inr "rows") (v:= .int y) S.sc (by show 6<sizeLine;decide);rw[bR7] at this;exact this
def Sc.p_again(S:Sc H p l sc nl nh kn rw ag rn xs ns){y:Int}:lT H sc (.str "again") (.int y) (aN H sc (.dK (iH kn rw y rn 9 nl))):=by
 have:=lT.k (k:=Sum.inr "again") (v:= .int y) S.sc (by show 6<sizeLine;decide);rw[aZ5] at this;exact this
def Sc.p_runs(S:Sc H p l sc nl nh kn rw ag rn xs ns){y:Int}:lT H sc (.str "runs") (.int y) (aN H sc (.dK (iH kn rw ag y 9 nl))):=by
 have:=lT.k (k:=Sum.inr "runs") (v:= .int y) S.sc (by show 6<sizeLine;decide);rw[bP6] at this;exact this
end
def bK8(K:W.Frag):Sp:=fun vs H Q _=>∃(a:Addr) (ns:List Int),vs=[.ref a,.int 0]/\bR K H a (ns.map V.int)/\ns.length<=63/\∀p l H',jE H' p l->aR H H'->Q (.ref p) H'
def bB5(ns:List Int)(lo hi:Option Int):∃ms:List Int,iZ (ns.map V.int) lo hi=ms.map V.int/\ms.length<=ns.length:=by
 refine⟨(ns.drop (HT.sIx ns.length 0 lo)).take (HT.sIx ns.length ns.length hi-HT.sIx ns.length 0 lo),?_,?_⟩
 ·unfold iZ;rw[ac,List.map_take,List.map_drop]
 ·rw[ef,qm];lia
def vQ:List Str:=["kind","ladders","flats","chose","firs","lets","tells","whens","ends","o","ofs","time"]
def bN9{r:Int}(h0:0<=r)(h1:r<12):∃w:Str,mM (vQ.map V.str) r=some (.str w)/\w.length<=8:=by
 obtain⟨v,hv,ha⟩:=aI8 (xs:=vQ.map V.str) h0 h1;obtain⟨w,rfl,hw⟩:=rC hv;exact⟨w,ha,(by decide:∀w∈vQ,w.length<=8) w (bj hw)⟩
def pU(a b:Str):(a++b).length=a.length+b.length:=by
 show(a.cps++b.cps).size=a.cps.size+b.cps.size;exact Array.size_append
def lzs:List Str:=["z","y","x"]
def bO0{w:Str}{s:Nat}{ws:List Str}(s3:s<=3)(hs:kJ (lzs.take (s-1)) ws)(hw:0<s->w=lzs.getD (s-1) "")(c:w∈ws)(l2:ws.length<=2):s<=2/\kJ (lzs.take (s+1-1)) ws:=by
 have key:kJ (lzs.take s) ws:=by
  have:s=0\/s=1\/s=2\/s=3:=by lia
  rcases this with rfl|rfl|rfl|rfl
  ·exact fun _ z=>nomatch z
  ·intro y hy;rw[av.mp (show y∈[("z": Str)] from hy)];rw[hw (by decide)] at c;exact c
  ·intro y hy;rcases az.mp (show y∈[("z": Str),"y"] from hy) with e|e
   ·rw[e];exact hs _ (show("z": Str)∈[("z": Str)] from aj)
   ·rw[av.mp e];rw[hw (by decide)] at c;exact c
  ·intro y hy;rcases az.mp (show y∈[("z": Str),"y","x"] from hy) with e|e
   ·rw[e];exact hs _ (show("z": Str)∈[("z": Str),"y"] from aj)
   ·rcases az.mp e with e|e
    ·rw[e];exact hs _ (show("y": Str)∈[("z": Str),"y"] from ae _ aj)
    ·rw[av.mp e];rw[hw (by decide)] at c;exact c
 have nd:lzs.Nodup:=by decide
 have:=gY (nd.sublist (List.take_sublist s lzs)) key;rw[ef] at this;have e3:lzs.length=3:=rfl;rw[e3] at this;exact⟨by lia,key⟩
def cS9{s:Nat}(h:s<=2):∃c,mM ("zyxwvutsrqponmlkjihgfedcba": Str).cps.toList ((s:Int) % 26)=some c/\(⟨#[c]⟩:Str)=lzs.getD s "":=by
 have:s=0\/s=1\/s=2:=by lia
 rcases this with rfl|rfl|rfl
 ·exact⟨122,rfl,rfl⟩
 ·exact⟨121,rfl,rfl⟩
 ·exact⟨120,rfl,rfl⟩
def spNameP:Sp:=fun vs H Q _=>∃p l,vs=[.ref p]/\jE H p l/\∀(w:Str) (H':Hp),w.length<=20->jE H' p l->Out p l H H'->Q (.str w) H'
def spNamesP:Sp:=fun vs H Q _=>∃(p l:Addr) (n:Int),vs=[.ref p,.int n]/\jE H p l/\1<=n/\n<=3/\∀(r:Addr) (ws:List Str) (H':Hp),H r=none->H' r=some (.lst (ws.map V.str))->ws.length=n.toNat->jE H' p l->Out p l H H'->r≠p->r≠l->Q (.ref r) H'
def bE3:Nat->Sp
 |0=>fun _ _ _ _=>False
 |n+1=>fun vs H Q _=>∃(p l nh:Addr) (ns:List Str) (room:Int),vs=[.ref p,.ref nh,.int room]/\jE H p l/\H nh=some (.lst (ns.map V.str))/\nh≠p/\nh≠l/\ns.length<=3/\1<=room/\room<=((n+1:Nat):Int)/\room<=12 /\
  ∀(t:Tm) (H':Hp),jE H' p l->Out p l H H'->qO H' t->(∀y∈t.names,y∈ns)->(t.size:Int)<=room->t.ok->Q (.ref t.p) H'
def spThrP:Sp:=fun vs H Q _=>∃(p l sc nl nh:Addr) (kn:Int) (rw ag rn:Nat) (xs ns:List Str) (x:Str),vs=[.ref p,.ref sc,.str x]/\Sc H p l sc nl nh kn rw ag rn xs ns /\
 ∀(pt:Addr) (T:dY) (a3:V) (wss:List (List Int)) (rn':Nat) (H':Hp),vN H' (.thr pt x T a3 wss)->T.Ok->(∀cs:List Int,(cs.length:Int)=kn->uY T wss cs)->szT T wss^ag*rn'<=rn->Sc H' p l sc nl nh kn rw ag rn' xs ns->cV [p,l,sc,nh] H H'->Q (.ref pt) H'
def yH:Nat->Sp
 |0=>fun _ _ _ _=>False
 |m+1=>fun vs H Q _=>∃(p l sc nl nh:Addr) (kn:Int) (rw ag rn left:Nat) (deep:Int) (xs ns:List Str),vs=[.ref p,.ref sc,.ref nh,.int left,.int deep]/\Sc H p l sc nl nh kn rw ag rn xs ns/\left<=3/\deep+(m:Int)=3/\ag*3^m<=27 /\
  ∀(t:Addr) (rs:List Rw) (rw' rn':Nat) (ns':List Str) (H':Hp),H' t=some (.tup (bK rs))->rs.length<=9->bO H' rs->Sc H' p l sc nl nh kn rw' ag rn' xs ns'->jP xs ns ns' kn rw rw' ag rn rn' rs left m->cV [p,l,sc,nh] H H'->Q (.ref t) H'
def yB(b:Bool)(m:Nat):Sp:=fun vs H Q _=>∃(p l sc nl nh:Addr) (kn:Int) (rw ag rn left:Nat) (deep:Int) (xs ns:List Str),vs=[.ref p,.ref sc,.ref nh,.int left,.int deep]/\Sc H p l sc nl nh kn rw ag rn xs ns/\left<=3/\deep+(m:Int)=3/\ag*3^m<=27/\(if b then 1<=rw/\1<=m else 0<left\/0<rw) /\
  ∀(t:Addr) (r:Rw) (told rw' rn':Nat) (ns':List Str) (H':Hp),H' t=some (.tup [.ref r.p,.int told])->vN H' r->Sc H' p l sc nl nh kn rw' ag rn' xs ns'->jP xs ns ns' kn rw rw' ag rn rn' [r] told m->told<=left->rw'<rw+told->cV [p,l,sc,nh] H H'->Q (.ref t) H'
def rJ{T:dY}{wss:List (List Int)}{kn:Int}(l1:1<=wss.length)(l4:wss.length<=4)(k3:kn<=3)(hw:∀ws∈wss,ws.length=kn.toNat/\∀x∈ws,0<=x/\x<=3)(o:T.one=true->wss.length=1):∀cs:List Int,(cs.length:Int)=kn->uY T wss cs:=
 fun cs h=>⟨⟨l1,l4,fun ws hs=>⟨by rw[(hw ws hs).1];lia,by rw[(hw ws hs).1];lia,(hw ws hs).2⟩⟩,o⟩
def bF6{few many ag rn:Nat}(h:((few^ag:Nat):Int)<=rn)(h1:1<=many)(hm:many<=few)(r2:rn<=40):1<=rn / many^ag/\rn / many^ag<=40/\many^ag*(rn / many^ag)<=rn/\0<many^ag/\many^ag<=40:=by
 have p:0<many^ag:=qg h1;have q:many^ag<=few^ag:=zu hm ag;have q2:few^ag<=rn:=by exact_mod_cast h
 refine⟨(Nat.le_div_iff_mul_le p).mpr (by lia),ay (Nat.div_le_self _ _) r2,Nat.mul_div_le _ _,p,by lia⟩
section
variable {H H0 H1 H2:Hp}{p l sc nl nh a:Addr}{kn:Int}{rw ag rn:Nat}{xs ns:List Str}
def Sc.fresh(S:Sc H1 p l sc nl nh kn rw ag rn xs ns)(o:cV [p,l,sc,nh] H0 H1)(h:H1 a=none):H0 a=none:=by
 obtain⟨_,_,_,q⟩:=S.pot
 cases e:H0 a with
 |none=>rfl
 |some u =>
  have z:a∉[p,l,sc,nh]:=fun z=>by
   simp only[List.mem_cons,List.not_mem_nil,or_false] at z;rcases z with z|z|z|z
   ·rw[z,q.pc] at h;cases h
   ·rw[z,q.lc] at h;cases h
   ·rw[z,S.sc] at h;cases h
   ·rw[z,S.hn] at h;cases h
  rw[o a u e z] at h
  cases h
def cV.in{p l sc nh a:Addr}(h:H0 a=none)(o:cV [p,l,sc,nh] H0 H1)(o':cV [p,l,sc,a] H1 H2):cV [p,l,sc,nh] H0 H2:=fun b u e n=>o' b u (o b u e n) fun z=>by
 simp only[List.mem_cons,List.not_mem_nil,or_false] at z n;rcases z with z|z|z|z
 ·exact n (.inl z)
 ·exact n (.inr (.inl z))
 ·exact n (.inr (.inr (.inl z)))
 ·rw[z,h] at e;cases e
def Sc.new(S:Sc H p l sc nl nh kn rw ag rn xs ns)(h:H a=none):a≠p/\a≠l/\a≠nl/\a≠nh:=by
 obtain⟨n1,n2⟩:=fC S.pot h;exact⟨n1,n2,(aM S.nm h).symm,(aM S.hn h).symm⟩
def bR9{na nb:List Str}(h:ns.Nodup)(ha:na.Nodup):(ns++na.filter fun x=>decide (x∈nb)&&decide (¬x∈ns)).Nodup:=by
 refine iw.mpr ⟨h,ha.sublist oa,fun x hx y hy e=>?_⟩;have:=(dr.mp hy).2;rw[jf] at this;exact ar this.2 (by rw[<-e];exact hx)
def bP0{na nb:List Str}{x:Str}(h:x∈ns++na.filter fun x=>decide (x∈nb)&&decide (¬x∈ns)):x∈ns\/(x∈na/\x∈nb):=by
 rcases br.mp h with q|q
 ·exact .inl q
 ·obtain⟨q1,q2⟩:=dr.mp q;rw[jf] at q2;exact .inr ⟨q1,ar q2.1⟩
end
def bC8{kn rw ag rn hg:Int}{nl:Addr}:kD [] (iH kn rw ag rn hg nl)=iH kn rw ag rn hg nl:=by
 unfold kD iH;simp only[List.foldl_cons,List.foldl_nil];have e0:cH ([]:List (Key×V)) (Sum.inr "kinds": Key) (V.int kn)=[((Sum.inr "kinds": Key),V.int kn)]:=rfl;have e1:cH [((Sum.inr "kinds": Key),V.int kn)] (Sum.inr "rows": Key) (V.int rw)=[((Sum.inr "kinds": Key),V.int kn),((Sum.inr "rows": Key),V.int rw)]:=gD _ (by rw[aO cC8,iD]);have e2:cH [((Sum.inr "kinds": Key),V.int kn),((Sum.inr "rows": Key),V.int rw)] (Sum.inr "again": Key) (V.int ag)=[((Sum.inr "kinds": Key),V.int kn),((Sum.inr "rows": Key),V.int rw),((Sum.inr "again": Key),V.int ag)]:=gD _ (by rw[aO bZ0,aO bQ7,iD]);have e3:cH [((Sum.inr "kinds": Key),V.int kn),((Sum.inr "rows": Key),V.int rw),((Sum.inr "again": Key),V.int ag)] (Sum.inr "runs": Key) (V.int rn)=[((Sum.inr "kinds": Key),V.int kn),((Sum.inr "rows": Key),V.int rw),((Sum.inr "again": Key),V.int ag),((Sum.inr "runs": Key),V.int rn)]:=gD _ (by rw[aO cE6,aO bM8,aO bL4,iD])
 have e4:cH [((Sum.inr "kinds": Key),V.int kn),((Sum.inr "rows": Key),V.int rw),((Sum.inr "again": Key),V.int ag),((Sum.inr "runs": Key),V.int rn)] (Sum.inr "high": Key) (V.int hg)=[((Sum.inr "kinds": Key),V.int kn),((Sum.inr "rows": Key),V.int rw),((Sum.inr "again": Key),V.int ag),((Sum.inr "runs": Key),V.int rn),((Sum.inr "high": Key),V.int hg)]:=gD _ (by rw[aO cM1,aO cC5,aO cE5,aO cA9,iD]);have e5:cH [((Sum.inr "kinds": Key),V.int kn),((Sum.inr "rows": Key),V.int rw),((Sum.inr "again": Key),V.int ag),((Sum.inr "runs": Key),V.int rn),((Sum.inr "high": Key),V.int hg)] (Sum.inr "names": Key) (V.ref nl)=[((Sum.inr "kinds": Key),V.int kn),((Sum.inr "rows": Key),V.int rw),((Sum.inr "again": Key),V.int ag),((Sum.inr "runs": Key),V.int rn),((Sum.inr "high": Key),V.int hg),((Sum.inr "names": Key),V.ref nl)]:=gD _ (by rw[aO cL0,aO cI6,aO cJ0,aO cD2,aO cP1,iD]);rw[e0,e1,e2,e3,e4,e5]
def jP.more{xs ns ns1:List Str}{kn:Int}{rw rw0 rw1 ag rn rn1:Nat}{rs:List Rw}{t m:Nat}(d:jP xs ns ns1 kn rw rw1 ag rn rn1 rs t m)(h:rw<=rw0):jP xs ns ns1 kn rw0 rw1 ag rn rn1 rs t m:=⟨d.ok,d.kn,d.out,d.tel,ay d.key h,d.run,d.up,d.dep,ay d.cost (dy (af _) (by lia))⟩
def Out.in{p l d nh:Addr}{H H1 H2:Hp}(o:Out p l H H1)(h1:H d=none)(h2:H nh=none)(o':cV [p,l,d,nh] H1 H2):Out p l H H2:=fun b u e n1 n2=>o' b u (o b u e n1 n2) fun z=>by
 simp only[List.mem_cons,List.not_mem_nil,or_false] at z;rcases z with z|z|z|z
 ·exact n1 z
 ·exact n2 z
 ·rw[z,h1] at e;cases e
 ·rw[z,h2] at e;cases e
structure aH0(xs:List Str)(kn:Int)(rs:List Rw):Prop where
 ok:∀cs:List Int,(cs.length:Int)=kn->pA xs cs rs
 kn:knL rs []
 tel:eI rs<=4
 key:(dB rs).length<=100
 w:wL rs<=40
 dep:lQ rs<=3
 x3:xs.length=3
 cost:aP rs<=216
def jP.pg{xs ns1:List Str}{kn:Int}{rw1 rn1:Nat}{rs:List Rw}{t:Nat}(d:jP xs [] ns1 kn 5 rw1 1 40 rn1 rs t 3)(h:t<=3)(r1:1<=rn1)(x3:xs.length=3):aH0 xs kn rs:=
 ⟨d.ok,d.kn,by have:=d.tel;lia,by have:=d.key;lia,by have:=d.run;rw[Nat.pow_one] at this;exact ay (lq _ r1) this,d.dep,x3,by have:=d.cost;simp only[show 3^3=27 from rfl] at this;lia⟩
def spPrgP:Sp:=fun vs H Q _=>∃p l,vs=[.ref p,.int 3,.int 40,.int 9]/\jE H p l/\∀(pg kt pr:Addr) (ks xs:List Str) (rs:List Rw) (H':Hp),H' pg=some (.tup [.ref kt,.ref pr])->H' kt=some (.tup (ks.map V.str))->1<=ks.length->ks.length<=3->H' pr=some (.tup (bK rs))->bO H' rs->aH0 xs ks.length rs->jE H' p l->Out p l H H'->Q (.ref pg) H'
end Mine
namespace L2
open PySem PySem.Spec PyProof.Rows
end L2
namespace Mine
open PySem L2
def aH0.prg{xs:List Str}{kn:Int}{rs:List Rw}{H:Hp}{pg kt pr c:Addr}{cs:List Int}(P:aH0 xs kn rs)(h1:H pg=some (.tup [.ref kt,.ref pr]))(h2:H pr=some (.tup (bK rs)))(h3:bO H rs)(hc:dF H c cs)(l:(cs.length:Int)=kn):bU5 xs (dB rs) H pg c cs (mL cs rs) rs:=by
 have ok:=P.ok cs l;have b:=(yX rs ok).bd P.w;exact⟨⟨_,_,h1,h2⟩,h3,hc,by have:=P.x3;lia,P.key,⟨⟨ok,P.kn,(fun _ z=>nomatch z),by show 0+eI rs<=4;have:=P.tel;lia,(fun _ z=>nomatch z),1,⟨cw _,1,cw _,cw _,by show((1:Int),(1:Int))=aW 1 1;decide⟩,by rw[ib];exact Int.dvd_refl _⟩,fun k hk=>hk⟩,b.1,b.2,P.w⟩
def aP2:∀T:dY,¬(V.str T.wd=V.str "when")/\¬(V.str T.wd=V.str "times")
 |.lad .. =>by dsimp only[dY.wd];constructor<;>decide
 |.fla .. =>by dsimp only[dY.wd];constructor<;>decide
 |.cho .. =>by dsimp only[dY.wd];constructor<;>decide
 |.fst .. =>by dsimp only[dY.wd];constructor<;>decide
def Crd(kn:Nat)(H:Hp)(v:V):Prop:=∃(c:Addr) (cs:List Int),v= .ref c/\dF H c cs/\(cs.length:Int)=kn/\∀x∈cs,0<=x/\x<=1000000
def Crd.ts{kn:Nat}{H H':Hp}{v:V}(h:Crd kn H v)(t:TS H H'):Crd kn H' v:=let⟨c,cs,e,a,b⟩:=h;⟨c,cs,e,t _ _ a,b⟩
def aP3{K:W.Frag}{b:Bool}{H:Hp}{t:Addr}{es:List En}(h:yF b H t es):pL K H (.tuple (es.map (iF b))) (.ref t):=let⟨us,a,c⟩:=h;⟨t,us,rfl,aT.of a,bG9 c⟩
def cD8{xs:List V}{r:Int}(h0:0<=r)(h1:r<=xs.length):iZ xs none (some r)=xs.take r.toNat:=by
 unfold iZ;rw[show r=((r.toNat:Nat):Int) by lia,HT.sIx_nat,HT.sIx_none,uc,aAm,du,Nat.min_eq_left (by lia)]
def bJ6{xs:List V}{r:Int}(h0:0<=r)(h1:r<=xs.length):iZ xs (some r) none=xs.drop r.toNat:=by
 unfold iZ;rw[show r=((r.toNat:Nat):Int) by lia,HT.sIx_nat,HT.sIx_none,du,Nat.min_eq_left (by lia),ju (by rw[qm];lia)]
def aS0(b:Bool)(es:List En):Spec.same (.tuple (es.map (iF b))) (.tuple (es.map (iF b)))=true:=vG b es
def lP(u y:Int×Int):Int×Int:=(u.1*y.1,u.2*y.2)
def gP(cs:List Int):Nat->List Rw->Ev->List Int->Int×Int->List Lf
 |0,_,_,_,_=>[]
 |_+1,[],_,td,sh=>[(td,sh)]
 |n+1,.thr _ x T _ wss::rs,e,td,sh=>(oY cs T wss).flatMap fun z=>gP cs n rs (cF e x z.1) td (lP sh z.2)
 |n+1,.lt _ x t::rs,e,td,sh=>gP cs n rs (cF e x (t.val e)) td sh
 |n+1,.tell _ t::rs,e,td,sh=>gP cs n rs e (td++[t.val e]) sh
 |n+1,.when _ _ _ t a b::rs,e,td,sh=>gP cs n ((if t.val e=0 then b else a)++rs) e td sh
 |n+1,.times _ _ k b::rs,e,td,sh=>gP cs n (kH k b++rs) e td sh
def jI(cs:List Int):∀(n m:Nat) (rs:List Rw) (e:Ev) (td:List Int) (sh:Int×Int),aP rs<n->n<=m->gP cs n rs e td sh=gP cs m rs e td sh
 |0,_,_,_,_,_,h,_=>absurd h (sr _)
 |n+1,0,_,_,_,_,_,h=>absurd h (by lia)
 |n+1,m+1,[],e,td,sh,_,_=>by simp only[gP]
 |n+1,m+1,.thr _ x T _ wss::rs,e,td,sh,h,h2=>by
  simp only[aP,Rw.cost] at h;simp only[gP]
  congr 1
  funext z
  exact jI cs n m rs _ _ _ (by lia) (by lia)
 |n+1,m+1,.lt _ x t::rs,e,td,sh,h,h2=>by
  simp only[aP,Rw.cost] at h;simp only[gP];exact jI cs n m rs _ _ _ (by lia) (by lia)
 |n+1,m+1,.tell _ t::rs,e,td,sh,h,h2=>by
  simp only[aP,Rw.cost] at h;simp only[gP];exact jI cs n m rs _ _ _ (by lia) (by lia)
 |n+1,m+1,.when _ _ _ t a b::rs,e,td,sh,h,h2=>by
  simp only[aP,Rw.cost] at h;simp only[gP];exact jI cs n m _ _ _ _ (by rw[cK];split<;>lia) (by lia)
 |n+1,m+1,.times _ _ k b::rs,e,td,sh,h,h2=>by
  simp only[aP,Rw.cost] at h;simp only[gP];exact jI cs n m _ _ _ _ (by rw[cK,fW];lia) (by lia)
def WV(cs:List Int)(rs:List Rw)(e:Ev)(td:List Int)(sh:Int×Int):List Lf:=gP cs (aP rs+1) rs e td sh
section
variable {cs:List Int}{rs:List Rw}{e:Ev}{td:List Int}{sh:Int×Int}
def tV{n:Nat}(h:aP rs<n):gP cs n rs e td sh=WV cs rs e td sh:=(jI cs _ _ rs e td sh (dz _) h).symm
def cI8:WV cs [] e td sh=[(td,sh)]:=by simp only[WV,gP]
def bZ4{p:Addr}{x:Str}{T:dY}{a3:V}{wss:List (List Int)}:WV cs (.thr p x T a3 wss::rs) e td sh=(oY cs T wss).flatMap fun z=>WV cs rs (cF e x z.1) td (lP sh z.2):=by
 unfold WV;simp only[aP,Rw.cost,gP]
 congr 1
 funext z
 exact tV (by lia)
def cO7{p:Addr}{x:Str}{t:Tm}:WV cs (.lt p x t::rs) e td sh=WV cs rs (cF e x (t.val e)) td sh:=by
 conv=>lhs;unfold WV
 simp only[aP,Rw.cost,gP];exact tV (by lia)
def bL7{p:Addr}{t:Tm}:WV cs (.tell p t::rs) e td sh=WV cs rs e (td++[t.val e]) sh:=by
 conv=>lhs;unfold WV
 simp only[aP,Rw.cost,gP];exact tV (by lia)
def bM7{p pa pb:Addr}{t:Tm}{a b:List Rw}:WV cs (.when p pa pb t a b::rs) e td sh=WV cs ((if t.val e=0 then b else a)++rs) e td sh:=by
 conv=>lhs;unfold WV
 simp only[aP,Rw.cost,gP];exact tV (by rw[cK];split<;>lia)
def bA7{p pb:Addr}{k:Nat}{b:List Rw}:WV cs (.times p pb k b::rs) e td sh=WV cs (kH k b++rs) e td sh:=by
 conv=>lhs;unfold WV
 simp only[aP,Rw.cost,gP];exact tV (by rw[cK,fW];lia)
end
def lY(l:Lf):Lf:=(l.1,aW l.2.1 l.2.2)
def aA2{u y:Int×Int}{c m:Int}(h1:0<=u.1)(h2:1<=u.2)(hc:1<=c)(hm:1<=m)(e:y=aW c m):uO (aW u.1 u.2) y=aW (lP u y).1 (lP u y).2:=by
 have y1:1<=y.1:=by rw[e];exact jB hc hm
 have y2:1<=y.2:=by rw[e];exact bV hm
 have ey:y=aW y.1 y.2:=by
  have:=bB2 (w:=c) (c:=m) (by lia) hm;rw[ib,ib] at this;rw[e];exact this.symm
 have:=qX h1 h2 (show 0<=y.1 by lia) y2;rw[<-ey] at this;exact this
def aR8{α β:Type}{f g:α->List β}:∀l:List α,(∀z∈l,(f z).Perm (g z))->(l.flatMap f).Perm (l.flatMap g)
 |[],_=> .refl _
 |a::l,h=>by
  rw[gj,gj];exact(h a aj).append (aR8 l fun z hz=>h z (ae _ hz))
def bE7{α β:Type}{f:α->List β}{l m:List α}(p:l.Perm m):(l.flatMap f).Perm (m.flatMap f):=by
 induction p with
 |nil=>exact .refl _
 |cons a _ ih=>rw[gj,gj];exact ih.append_left _
 |swap a b l =>
  simp only[List.flatMap_cons];rw[<-iu, <-iu];exact List.perm_append_comm.append_right _
 |trans _ _ h k=>exact h.trans k
def jA{NM:List Str}{cs:List Int}:∀(n:Nat) (rs:List Rw) (e:Ev) (td:List Int) (sh:Int×Int),pA NM cs rs->0<=sh.1->1<=sh.2->((gP cs n rs e td sh).map lY).Perm (oO cs n rs e td (aW sh.1 sh.2))
 |0,_,_,_,_,_,_,_=> .refl _
 |n+1,[],_,_,_,_,_,_=>by simp only[gP,oO];exact .refl _
 |n+1,.thr _ x T _ wss::rs,e,td,sh,ok,h0,h1=>by
  have o:=mQ ok.1.1.1 ok.1.1.2;simp only[gP,oO];rw[List.map_flatMap];refine List.Perm.trans (aR8 _ fun z hz=>?_) (bE7 (List.reverse_perm _).symm);obtain⟨_,c,c1,c2,c3⟩:=o.sh z hz;have m1:=o.m1;rw[aA2 h0 h1 c1 m1 c3];have z1:1<=z.2.1:=by rw[c3];exact jB c1 m1
  have z2:1<=z.2.2:=by rw[c3];exact bV m1
  exact jA n rs _ _ _ ok.2 (cj h0 (by lia)) (psm h1 z2)
 |n+1,.lt _ x t::rs,e,td,sh,ok,h0,h1=>by simp only[gP,oO];exact jA n rs _ _ _ ok.2 h0 h1
 |n+1,.tell _ t::rs,e,td,sh,ok,h0,h1=>by simp only[gP,oO];exact jA n rs _ _ _ ok.2 h0 h1
 |n+1,.when _ _ _ t a b::rs,e,td,sh,ok,h0,h1=>by
  simp only[gP,oO];refine jA n _ _ _ _ (pA.app ?_ ok.2) h0 h1
  split
  ·exact ok.1.2.2
  ·exact ok.1.2.1
 |n+1,.times _ _ k b::rs,e,td,sh,ok,h0,h1=>by
  simp only[gP,oO];exact jA n _ _ _ _ ((pA.rep ok.1 k).app ok.2) h0 h1
def bN7{NM:List Str}{cs:List Int}{rs:List Rw}{e:Ev}{td:List Int}(ok:pA NM cs rs):((WV cs rs e td (1,1)).map lY).Perm (LV cs rs e td (1,1)):=by
 have:=jA (aP rs+1) rs e td (1,1) ok (by decide) (by decide);rw[show aW (1,1).1 (1,1).2=((1:Int),(1:Int)) by decide] at this;exact this
def aT3{M:Int}(hM:1<=M){us vs:List (Int×Int)}(p:us.Perm vs):(∀u∈us,OvM M u)->∀S,0<=S->us.foldl cY (aW S M)=vs.foldl cY (aW S M):=by
 induction p with
 |nil=>intro _ _ _;rfl
 |cons u _ ih =>
  intro h S h0;obtain⟨c,c0,c1,rfl⟩:=h u aj;rw[iz,iz,gQ h0 c0 hM];exact ih (fun x hx=>h x (ae _ hx)) _ (by lia)
 |swap u v _ =>
  intro h S h0;obtain⟨c,c0,c1,rfl⟩:=h v aj;obtain⟨d,d0,d1,rfl⟩:=h u (ae _ aj);simp only[List.foldl_cons];rw[gQ h0 c0 hM,gQ h0 d0 hM,gQ (by lia) d0 hM,gQ (by lia) c0 hM,show S+c+d=S+d+c by lia]
 |trans p1 _ ih1 ih2 =>
  intro h S h0;exact(ih1 h S h0).trans (ih2 (fun x hx=>h x (p1.mem_iff.mpr hx)) S h0)
def aZ0{M:Int}(hM:1<=M){es fs:List En}(p:es.Perm fs)(h:∀e∈es,OvM M e.2):gS es=gS fs:=by
 funext a
 have q:(yY es a).Perm (yY fs a):=(p.filter _).map _;have hq:∀u∈yY es a,OvM M u:=fun u hu=>by
  obtain⟨e,he,rfl⟩:=ci.mp hu;exact h e (dr.mp he).1
 rw[rB,rB]
 by_cases c:yY es a=[]
 ·rw[ao c,ao (by rw[c] at q;exact q.symm.eq_nil)]
 ·rw[ai c,ai fun z=>c (by rw[z] at q;exact q.eq_nil)];have:=aT3 hM q hq 0 (cw _);rw[gU hM] at this;rw[this]
end Mine
namespace L2
open PySem PySem.Spec PyProof.Rows
section
variable {prog:Program}{w:World}{A:Around}{d it:Addr}{o:Obj}{es:Array DictEntry}{ep:Nat}
def bK5(hh:A.handled=none)(hne:d≠it)(h3:o.data= .dict es ep) :
  Walks prog w A it [it,d] [it] es.size (fun i v=>∃e,es[i]?=some e/\v=e.key) (fun i h=>h.IsKeyIter it d i es.size ep/\h.get? d=some o) where
 sub:=fun b hb=>by simp at hb;simp[hb]
 frame:=fun _ _ _ st hk=>⟨let⟨oi,q1,q2⟩:=st.1;⟨oi,hk it (by simp) _ q1,q2⟩,hk d (by simp) _ st.2⟩
 item:=fun i s Q E hi st hQ=>aC5 st.1 st.2 h3 (oj hi) fun h' hit' sb=>hQ _ h' s.toks ⟨_,oj hi,rfl⟩ ⟨hit',(sb.2 d hne).trans st.2⟩ fun b o hb e=>(sb.2 b (fun z=>hb (by simp[z]))).trans e
 done:=fun s Q E st hQ=>aR9 hh st.1 st.2 h3 (yb (af _)) fun h' k=>hQ h' s.toks fun b o hb e=>k b o (fun z=>hb (by simp[z])) e
 self:=fun _ _ _ _ st hQ=>sk st.1 hQ
def bZ9(lo:(d==sysModules)=false)(h2:o.ExactDict)(h3:o.data= .dict es ep):W.KdlSrc prog w "dict" d d es.size (fun i x=>∃e,es[i]?=some e/\x=e.key) (fun h=>h.get? d=some o) where
 type:=fun _ x=>⟨o,x,h2.1⟩
 there:=fun _ x=>⟨aw x,aw x⟩
 keep:=fun _ _ x k=>k d (.inl rfl) _ x
 notList:=by decide
 notTuple:=by decide
 hint:=fun _ _ _ _ x q=>W.kdl_hint_dict ⟨o,x,h2.1⟩ q
 iter:=fun _ _ hh x=>⟨_,_,(fun _ _ q=>zZ lo x h2 h3 q),bK5 hh (bv (aw x)) h3,⟨⟨_,be _ rfl,rfl,rfl⟩,ah _ x⟩⟩
end
def bA0:∀ns:List Int,(ns.map fun n=>(Sum.inl n:Key)).map kV=ns.map V.int
 |[]=>rfl
 |n::ns=>by simp only[List.map_cons,bA0 ns];rfl
def zV{X:Cx}{k:Nat}(hr:dE k X.A):eU X (.builtin "sorted") (fun xs H Q=>∃(d:Addr) (kvs:List (List Key×V)) (nss:List (List Int)),xs=[.ref d]/\H d=some (.dT kvs)/\kvs.map (·.1)=nss.map (fun ns=>ns.map Sum.inl)/\kvs.length<64/\nss.Nodup /\
  ∀(bs':List Addr) (nss':List (List Int)),nss'.Perm nss->eA H bs' nss'->nss'.Pairwise (fun a b=>HT.lexLt a b=true)->∀l,H l=none->Q (.ref l) (aN H l (.lst (bs'.map V.ref)))):=by
 intro pins s σ H xs us Q I r h;obtain⟨d,kvs,nss,rfl,hd,hk,hz,nd,q⟩:=h;obtain⟨u,rfl,ru⟩:=jD r
 cases ru
 obtain⟨z,lo,ys,rel,o,es,ep,h1,h2,h3,h4,h5⟩:=(show bZ X.prog X.w H s.heap d (.dT kvs) from I.hok d _ hd)
 have ly:kvs.length=ys.length:=jd rel;have ln:kvs.length=nss.length:=by have:=gv List.length hk;rw[ac,ac] at this;exact this
 have sz:es.size=ys.length:=by rw[<-ff,h4,ac]
 have ht:eA H (ys.map (·.2.1)) nss:=by
  refine⟨by rw[ac];lia,fun i b ns hb hn=>?_⟩;rw[df] at hb;obtain⟨y,hy,rfl⟩:=gz.mp hb;have hi:i<kvs.length:=by rw[ly];exact(bz.mp hy).1
  obtain⟨y',hy',r1,r2,_⟩:=uK rel (bw hi);rw[hy] at hy'
  cases hy'
  have e:kvs[i].1=ns.map Sum.inl:=by
   have:=gv (fun l=>l[i]?) hk;simp only[List.getElem?_map,hn,List.getElem?_eq_getElem hi] at this;exact cq this
  rw[r2,e,bA0]
 refine vo kind_sorted plain_sorted entry_sorted (args_sorted1 _) ?_;unfold Builtin.«sorted»;refine aa (m:=checkCount "sorted" 1 1 _) (am ?_);refine aa (aA7 (A:=X.A.in1) (bZ9 lo h2 h3) hr.hd h1 (by rw[sz, <-ly];exact z) fun h' tk acc keep le hacc=>?_);have ea:acc.toList=(ys.map (·.2.1)).map Value.ref:=by
  refine List.ext_getElem? fun i=>?_
  rw[jl,df]
  by_cases hi:i<ys.length
  ·have ha:i<acc.toList.length:=by rw[ff,hacc.1,sz];exact hi
   obtain⟨e,he,ev⟩:=hacc.2 i acc.toList[i] (by rw[<-ke];exact bw ha);rw[<-ke,h4,df,bw hi] at he;have he:=cq he;rw[bw ha,ev, <-he,bw hi];rfl
  ·have ha:acc.toList.length<=i:=by rw[ff,hacc.1,sz];lia
   rw[yn ha,yn (by lia)];rfl
 rw[ea];exact tL (d':=s.drawn) (t:=tk) hr I ht nd (by rw[ac];lia) keep le fun bs' nss' _ z2 z3 z4 l hl=>q bs' nss' z2 z3 z4 l hl
section
variable {X:Cx}
end
section
variable {prog:Program}{w:World}{A:Around}{E:Value->Shared->Prop}{s:Shared}
end
section
variable {X:Cx}{pos:Pos}
end
open PySem PySem.Spec PyProof.Rows PySem.MeetsSeq
def aV6:fillsNumberSlot (.type "tuple") "mul"=pure false:=
 PySem.fillsNumberSlot_seq (id:="tuple.__mul__") (r:=some (.builtin "tuple.__rmul__")) PySem.F.slot_tuple_mul.lookup (by decide) PySem.F.slot_tuple_rmul.lookup (by decide)
def bR4:seqRepeat? (.type "tuple")=pure (some (.builtin "tuple.__mul__")):=by
 unfold seqRepeat?;rw[PySem.seqSlot_of (T:="tuple") (name:="__mul__") (id:="tuple.__mul__") PySem.F.slot_tuple_mul.lookup (by decide)]
 try rw[PySem.seqSlot_of (T:="tuple") (name:="__rmul__") (id:="tuple.__rmul__") PySem.F.slot_tuple_rmul.lookup (by decide)]
 rfl
def aY1(a:Int)(t:Tok)(l:Addr)(its:Array Value)(n:Nat)(dd:Option Addr)(sl:Array (Option Value)) :
  Meets (Builtin.«int.__rmul__» ⟨[.int a t,.ref l],[]⟩) (fun _ R s=>s.heap.get? l=some { cls:= .type "tuple",dict:=dd,data:= .seq its n,slots:=sl }/\R (.ok (.ret Value.notImplemented)) s):=
 .of_wp fun prog w A R s h=>by
  obtain⟨hp,g,d,tk,os⟩:=s;obtain⟨hl,h⟩:=h
  wp_walk
  exact⟨_,rfl,h⟩
end L2
set_option maxRecDepth 1000
namespace L2
open PySem PySem.Spec PyProof.Rows PySem.MeetsSeq
def aE6(a:Int)(t:Tok)(l:Addr)(its:Array Value)(n:Nat)(dd:Option Addr)(sl:Array (Option Value))(h1:1<=a)(h2:a<=1000)(h3:(its.isEmpty || a==1)=true) :
  Meets (Builtin.«tuple.__mul__» ⟨[.ref l,.int a t],[]⟩) (fun _ R s=>s.heap.get? l=some { cls:= .type "tuple",dict:=dd,data:= .seq its n,slots:=sl }/\R (.ok (.ret (.ref l))) s):=
 .of_wp fun prog w A R s h=>by
  obtain⟨hp,g,d,tk,os⟩:=s;obtain⟨hl,h⟩:=h;have c1:¬(a < -(2^63) || a ≥ 2^63)=true:=by simp only[Bool.or_eq_true,decide_eq_true_eq];lia
  wp_walk using fu hl
  rw[ai c1]
  wp_walk using fu hl
  exact⟨_,rfl,h⟩
def bH7(a:Int)(t:Tok)(l:Addr)(its:Array Value)(n:Nat)(dd:Option Addr)(sl:Array (Option Value))(h0:2<=a)(h1:a<=1000)(hi:its.size*a.toNat<=1000)(he:¬its.isEmpty=true) :
  Meets (Builtin.«tuple.__mul__» ⟨[.ref l,.int a t],[]⟩) (fun _ R s=>s.heap.get? l=some { cls:= .type "tuple",dict:=dd,data:= .seq its n,slots:=sl }/\R (.ok (.ret (.ref s.heap.objs.size))) { s with heap:=s.heap.push { cls:= .type "tuple",data:= .seq (List.replicate a.toNat its.toList).flatten.toArray } }):=
 .of_wp fun prog w A R s h=>by
  obtain⟨hp,g,d,tk,os⟩:=s;obtain⟨hl,h⟩:=h;have hm:(its.size:Int)*a<=1000:=by
   have e:(its.size:Int)*a=((its.size*a.toNat:Nat):Int):=by rw[kh,sy (by lia)]
   lia
  have c1:¬(a < -(2^63) || a ≥ 2^63)=true:=by simp only[Bool.or_eq_true,decide_eq_true_eq];lia
  have c2:¬(its.isEmpty || a==1)=true:=by simp only[Bool.or_eq_true,beq_iff_eq];rintro(z|z);exact he z;lia
  have c3:¬(decide (a<=0) || its.isEmpty)=true:=by simp only[Bool.or_eq_true,decide_eq_true_eq];rintro(z|z);lia;exact he z
  have c4:¬((its.size:Int)*a > (2^63-1) / 8):=by lia
  have c5:¬Builtin.Tuple.tupleTooMany ((its.size:Int)*a)=true:=by
   unfold Builtin.Tuple.tupleTooMany;rw[jc];generalize (its.size:Int)*a=z at hm;simp only[decide_eq_true_eq,Bool.or_eq_true];lia
  have e0:List.foldl (fun x1 x2=>x1++x2) #[] (List.replicate a.toNat its)=(List.replicate a.toNat its.toList).flatten.toArray:=by
   have:=oV its.toList a.toNat [];rw[xf] at this;exact this
  have c6:¬((List.replicate a.toNat its.toList).flatten.toArray.size > sizeLine):=by rw[jc,bf,xM,ff,mq];lia
  wp_walk using fu hl
  rw[ai c1]
  wp_walk using fu hl
  rw[ai c2]
  wp_walk using fu hl
  rw[ai c3]
  wp_walk using fu hl
  rw[ai c4]
  wp_walk using fu hl
  first
   |(rw[ai c5];wp_walk using fu hl;rw[e0,ai c6])
   |rw[e0,ai c6]
  wp_walk
  exact⟨_,rfl,h⟩
def bQ3{X:Cx}:kM X (binaryOp .Mult) (fun x y H Q=>∃(l:Addr) (k:Int) (xs:List V),x= .ref l/\y= .int k/\H l=some (.tup xs)/\1<=k/\k<=1000/\xs.length*k.toNat<=1000/\∀p H',aR H H'->H' p=some (.tup (List.replicate k.toNat xs).flatten)->Q (.ref p) H'):=by
 intro pins s σ H x y v u Q I rx ry h;obtain⟨l,k,xs,rfl,rfl,hH,h1,h2,h3,q⟩:=h
 cases rx
 obtain⟨t,rfl⟩:=ry;obtain⟨its,r,T,_⟩:=I.tuple (.inl (.inl hH));obtain⟨⟨cls,dd,data,sl⟩,ho,hc,n,hd⟩:=id T;simp only at hc hd;subst hc hd;have ty:s.TypeIs (.ref l) "tuple":=⟨_,ho,rfl⟩
 have hlen:=r.length;refine vk (T:="tuple") (U:="int") (by decide) ty (fun s'=>rm s' k t) aV6 F.fills_int_mul rq bR4 F.slot_int_index.lookup
  (jt rq (rm s k t) F.entry_int_rmul (F.args_int_rmul_2 _ _) (aY1 k t l its.toArray n dd sl) ⟨ho,rfl,ty,?_⟩)
 by_cases c1:k=1
 ·refine jt wm ty vj (ut _ _) (aE6 k t l its.toArray n dd sl (by lia) (by lia) (by rw[c1];simp)) ⟨ho,⟨.ref l,H,I,rfl,q l H (aR.refl _) ?_⟩⟩;rw[c1];show _=some (HO.tup (List.replicate 1 xs).flatten);simp[hH]
 by_cases c2:its.toArray.isEmpty=true
 ·refine jt wm ty vj (ut _ _) (aE6 k t l its.toArray n dd sl (by lia) (by lia) (by rw[c2];rfl)) ⟨ho,⟨.ref l,H,I,rfl,q l H (aR.refl _) ?_⟩⟩;have e:xs=[]:=by
   have z:its=[]:=by simpa using c2
   rw[z] at hlen;exact ik hlen
  rw[hH,e]
  congr 2
  generalize k.toNat=m
  induction m with
  |zero=>rfl
  |succ m ih=>rw[gb,ir, <-ih];rfl
 ·have es:its.toArray.size=xs.length:=by simpa using hlen.symm
  refine jt wm ty vj (ut _ _) (bH7 k t l its.toArray n dd sl (by lia) h2 (by rw[es];exact h3) c2) ⟨ho,?_⟩;have rr:bC (List.replicate k.toNat xs).flatten (List.replicate k.toNat its).flatten:=by
   generalize k.toNat=m
   induction m with
   |zero=>exact .nil
   |succ m ih=>rw[gb,gb,ir,ir];exact r.append ih
  refine⟨.ref _,_,I.laid (o:= .tup (List.replicate k.toNat xs).flatten) (t':=s.toks) (fun b o e=>ah _ e) (af _) (show bZ X.prog X.w _ _ _ (.tup (List.replicate k.toNat xs).flatten) from⟨by rw[xM,jc,mq];lia,_,rr,kF.new _ _⟩),rfl,q _ _ (aC I.fresh _) aD⟩
end L2
namespace Mine
open PySem L2
def aO7:Nat->Sp
 |0=>fun _ _ _ _=>False
 |n+1=>fun vs H Q _=>∃(t:Tm) (vd:Addr) (ev:Str->Int),vs=[.ref t.p,.ref vd]/\qO H t/\t.ok/\t.deep<=n+1/\Dv H vd ev t.names/\∀H',aR H H'->Q (.int (t.val ev)) H'
def opD(x y z:Int):List (Key×V):=[(.inr "+",.int x),(.inr "-",.int y),(.inr "*",.int z)]
def ok1:¬((Sum.inr "+": Key)=(Sum.inr "-": Key)):=fun z=>absurd (cy z) (by decide)
def ok2:¬((Sum.inr "+": Key)=(Sum.inr "*": Key)):=fun z=>absurd (cy z) (by decide)
def ok3:¬((Sum.inr "-": Key)=(Sum.inr "*": Key)):=fun z=>absurd (cy z) (by decide)
def bH9{x y z:Int}:dA (opD x y z) (Sum.inr "+": Key)=some (.int x)/\dA (opD x y z) (Sum.inr "-": Key)=some (.int y)/\dA (opD x y z) (Sum.inr "*": Key)=some (.int z):=by
 unfold opD;exact⟨by rw[bL rfl],by rw[aO ok1,bL rfl],by rw[aO ok2,aO ok3,bL rfl]⟩
def bD0{x y z:Int}:kD [] (opD x y z)=opD x y z:=by
 unfold kD opD;simp only[List.foldl_cons,List.foldl_nil];have e0:cH ([]:List (Key×V)) (Sum.inr "+": Key) (V.int x)=[((Sum.inr "+": Key),V.int x)]:=rfl;have e1:cH [((Sum.inr "+": Key),V.int x)] (Sum.inr "-": Key) (V.int y)=[((Sum.inr "+": Key),V.int x),((Sum.inr "-": Key),V.int y)]:=gD _ (by rw[aO ok1,iD]);have e2:cH [((Sum.inr "+": Key),V.int x),((Sum.inr "-": Key),V.int y)] (Sum.inr "*": Key) (V.int z)=[((Sum.inr "+": Key),V.int x),((Sum.inr "-": Key),V.int y),((Sum.inr "*": Key),V.int z)]:=gD _ (by rw[aO ok2,aO ok3,iD]);rw[e0,e1,e2]
def cU6{c:Prop}[Decidable c]:(if decide c=true then (1:Int) else 0)=if c then 1 else 0:=by by_cases h:c<;>simp[h]
structure vW(NM:List Str)(cs:List Int)(M:Int)(ks:List Str)(rs:List Rw)(e:Ev)(td:List Int)(sh:Int×Int):Prop where
 g:Gd NM cs M ks ⟨rs,e,td,aW sh.1 sh.2⟩
 s1:1<=sh.1
 s2:sh.1<=sh.2
 sb:sh.2*mL cs rs<=2^850
 w:wL rs<=40
 nd:ks.Nodup
 nm:kJ ks NM
section
variable {NM:List Str}{cs:List Int}{M:Int}{ks:List Str}{rs:List Rw}{e:Ev}{td:List Int}{sh:Int×Int}
def bD8{a b c:Int}(h:b<=c)(a1:1<=a)(h2:a*c<=2^850):a*b<=2^850:=bm (gf h (by lia)) h2
def vW.lt{p:Addr}{x:Str}{t:Tm}(h:vW NM cs M ks (.lt p x t::rs) e td sh):vW NM cs M (dP ks x) rs (cF e x (t.val e)) td sh/\aP rs<aP (.lt p x t::rs):=by
 obtain⟨g2,n2,l2⟩:=aO3 h.g;refine⟨⟨g2.sbs oN iQ,h.s1,h.s2,?_,ay n2.w h.w,qZ h.nd,fun y hy=>?_⟩,l2⟩
 ·have:=h.sb;have this:sh.2*(1*mL cs rs)<=2^850:=this;rw[ib] at this;exact this
 ·rcases az.mp (iQ y hy) with z|z
  ·rw[z];exact h.g.ok.1.2
  ·exact h.nm y z
def vW.tell{p:Addr}{t:Tm}(h:vW NM cs M ks (.tell p t::rs) e td sh):vW NM cs M ks rs e (td++[t.val e]) sh/\aP rs<aP (.tell p t::rs):=by
 obtain⟨g2,n2,l2⟩:=wY h.g;refine⟨⟨g2,h.s1,h.s2,?_,ay n2.w h.w,h.nd,h.nm⟩,l2⟩;have:=h.sb;have this:sh.2*(1*mL cs rs)<=2^850:=this;rw[ib] at this;exact this
def vW.when{p pa pb:Addr}{t:Tm}{a b rs':List Rw}(h:vW NM cs M ks (.when p pa pb t a b::rs) e td sh)(er:rs'=if t.val e=0 then b else a):vW NM cs M ks (rs'++rs) e td sh/\aP (rs'++rs)<aP (.when p pa pb t a b::rs):=by
 obtain⟨g2,n2,l2⟩:=xH h.g er;refine⟨⟨g2,h.s1,h.s2,?_,ay n2.w h.w,h.nd,h.nm⟩,l2⟩;have ok:=h.g.ok;have la:=(yX a ok.1.2.1).1;have lb:=(yX b ok.1.2.2).1;have lr:=(yX rs ok.2).1;have sb:sh.2*(mL cs a*mL cs b*mL cs rs)<=2^850:=h.sb;refine bD8 ?_ (by have:=h.s1;have:=h.s2;lia) sb;rw[pJ];refine cu ?_ (by lia)
 by_cases c:t.val e=0
 ·rw[er,ao c];have:=cu la (show 0<=mL cs b by lia);rw[ib] at this;exact this
 ·rw[er,ai c];have:=gf lb (show 0<=mL cs a by lia);rw[ku] at this;exact this
def vW.times{p pb:Addr}{n:Nat}{b:List Rw}(h:vW NM cs M ks (.times p pb n b::rs) e td sh):vW NM cs M ks (kH n b++rs) e td sh/\aP (kH n b++rs)<aP (.times p pb n b::rs):=by
 obtain⟨g2,n2,l2⟩:=rV h.g;refine⟨⟨g2,h.s1,h.s2,?_,ay n2.w h.w,h.nd,h.nm⟩,l2⟩;rw[pJ,aL0];exact h.sb
def vW.thr{p:Addr}{x:Str}{T:dY}{a3:V}{wss:List (List Int)}(h:vW NM cs M ks (.thr p x T a3 wss::rs) e td sh){z:Int×Int×Int}(hz:z∈oY cs T wss):vW NM cs M (dP ks x) rs (cF e x z.1) td (lP sh z.2)/\1<=z.2.1/\z.2.1<=z.2.2/\z.2.2<2^850:=by
 have ok:=h.g.ok;have o:=mQ ok.1.1.1 ok.1.1.2;obtain⟨_,c,c1,c2,c3⟩:=o.sh z hz;have m1:=o.m1;have z1:1<=z.2.1:=by rw[c3];exact jB c1 m1
 have z2:z.2.2<=mT cs T wss:=by rw[c3];exact oI m1
 have z3:z.2.1<=z.2.2:=by rw[c3];exact yL c2 m1
 have s1:=h.s1;have s2:=h.s2;have st:=(zY h.g).1 ⟨rs,cF e x z.1,td,uO (aW sh.1 sh.2) z.2⟩ (ci.mpr ⟨z,hz,rfl⟩);rw[aA2 (by lia) (by lia) c1 m1 c3] at st;have mb:mT cs T wss<2^850:=by
  rcases o.m2 with q|q
  ·rw[q.2];decide
  ·exact jx q.2 (by decide)
 refine⟨⟨st.1.sbs oN iQ,psm s1 z1,ow s2 z3 (by lia) (by lia),?_,?_,qZ h.nd,fun y hy=>?_⟩,z1,z3,by lia⟩
 ·have sb:sh.2*(mT cs T wss*mL cs rs)<=2^850:=h.sb;show sh.2*z.2.2*mL cs rs<=2^850;rw[qk];exact bD8 (cu z2 (by have:=(yX rs ok.2).1;lia)) (by lia) sb
 ·have w:szT T wss*wL rs<=40:=h.w;have:1<=szT T wss:=ay (qe.mpr fun z=>o.ne (ik z)) o.le;exact ay (qh _ this) w
 ·rcases az.mp (iQ y hy) with q|q
  ·rw[q];exact ok.1.2
  ·exact h.nm y q
def iR:∀(n:Nat) (rs:List Rw) (e:Ev) (td:List Int) (sh:Int×Int),pA NM cs rs->(gP cs n rs e td sh).length<=wL rs
 |0,rs,_,_,_,ok=>bi _
 |n+1,[],_,_,_,_=>by simp[gP,wL]
 |n+1,.thr _ x T _ wss::rs,e,td,sh,ok=>by
  have o:=mQ ok.1.1.1 ok.1.1.2;simp only[gP];have:∀l:List (Int×Int×Int),(l.flatMap fun z=>gP cs n rs (cF e x z.1) td (lP sh z.2)).length<=l.length*wL rs:=by
   intro l
   induction l with
   |nil=>simp
   |cons a l ih =>
    rw[gj,bg,bo,mo];have:=iR n rs (cF e x a.1) td (lP sh a.2) ok.2;lia
  exact ay (this _) (dy o.le (af _))
 |n+1,.lt _ x t::rs,e,td,sh,ok=>by simp only[gP,wL,wR,Nat.one_mul];exact iR n rs _ _ _ ok.2
 |n+1,.tell _ t::rs,e,td,sh,ok=>by simp only[gP,wL,wR,Nat.one_mul];exact iR n rs _ _ _ ok.2
 |n+1,.when _ _ _ t a b::rs,e,td,sh,ok=>by
  simp only[gP];have wa:=(yX a ok.1.2.1).w1;have wb:=(yX b ok.1.2.2).w1;have key:pA NM cs (if t.val e=0 then b else a)/\wL (if t.val e=0 then b else a)<=wL a*wL b:=by
   by_cases c:t.val e=0
   ·rw[ao c];exact⟨ok.1.2.2,qh _ wa⟩
   ·rw[ai c];exact⟨ok.1.2.1,lq _ wb⟩
  refine ay (iR n _ _ _ _ (key.1.app ok.2)) ?_;rw[mI];exact dy key.2 (af _)
 |n+1,.times _ _ k b::rs,e,td,sh,ok=>by
  simp only[gP];refine ay (iR n _ _ _ _ ((pA.rep ok.1 k).app ok.2)) ?_;rw[mI,aL3];exact af _
end
def lB:∀rs:List Rw,rs.length<=aP rs
 |[]=>bi _
 |r::rs=>by have:=lB rs;have:=zM r;rw[bo];simp only[aP];lia
def wJ(r:Rw)(rs:List Rw):bK (r::rs)= .ref r.p::bK rs:=rfl
def rX(rs qs:List Rw):bK rs++bK qs=bK (rs++qs):=by unfold bK;rw[aq]
def zG(b:List Rw):∀n:Nat,(List.replicate n (bK b)).flatten=bK (kH n b)
 |0=>rfl
 |n+1=>by rw[gb,ir,zG b n,kH,rX]
def aH2(ks:List Str)(x:Str):dP (dP ks x) x=dP ks x:=by
 have:x∈dP ks x:=oN x aj;show(if x∈dP ks x then dP ks x else dP ks x++[x])=_;rw[ao this]
def aF5(e:Ev)(x:Str)(u v:Int):cF (cF e x u) x v=cF e x v:=by
 funext y
 unfold cF
 by_cases c:y=x
 ·rw[ao c,ao c]
 ·rw[ai c,ai c,ai c]
def aX0:∀t:Tm,2*t.deep<=t.size+1
 |.num _ _=>by simp[Tm.deep,Tm.size]
 |.nam _ _=>by simp[Tm.deep,Tm.size]
 |.op _ _ a b=>by have:=aX0 a;have:=aX0 b;have:=a.size_pos;have:=b.size_pos;simp only[Tm.deep,Tm.size];lia
def aZ6{t:Tm}(h:t.size<=12):t.deep<=6:=by have:=aX0 t;lia
def aM9:∀T:dY,¬(V.str T.wd=V.str "tell")/\¬(V.str T.wd=V.str "let")
 |.lad .. =>by dsimp only[dY.wd];constructor<;>decide
 |.fla .. =>by dsimp only[dY.wd];constructor<;>decide
 |.cho .. =>by dsimp only[dY.wd];constructor<;>decide
 |.fst .. =>by dsimp only[dY.wd];constructor<;>decide
def cX3{α:Type}(u v:α)(r:List α):mM (u::v::r) 1=some v:=xX (xs:=u::v::r) (j:=1) rfl
def aO6:Nat->Sp
 |0=>fun _ _ _ _=>False
 |n+1=>fun vs H Q _=>∃(pr vd c tl sp:Addr) (NM:List Str) (cs:List Int) (M:Int) (ks:List Str) (rs:List Rw) (e:Ev) (td:List Int) (sh:Int×Int),vs=[.ref pr,.ref vd,.ref c,.ref tl,.ref sp]/\H pr=some (.tup (bK rs))/\bO H rs/\H vd=some (.dK (dU ks e))/\dF H c cs/\dF H tl td/\aY H sp sh.1 sh.2/\NM.length<=100/\vW NM cs M ks rs e td sh/\aP rs<=n/\aP rs<=216 /\
  ∀l us H',aR H H'->H' l=some (.lst us)->dH (qU true H') us (WV cs rs e td sh)->Q (.ref l) H'
def Lfo(M:Int)(l:Lf):Prop:=1<=l.2.1/\l.2.1<=l.2.2/\l.2.2<=2^850/\∃c,1<=c/\c<=M/\aW l.2.1 l.2.2=aW c M
def oP{NM:List Str}{cs:List Int}{M:Int}(hM:1<=M):∀(n:Nat) (ks:List Str) (rs:List Rw) (e:Ev) (td:List Int) (sh:Int×Int),vW NM cs M ks rs e td sh->∀l∈gP cs n rs e td sh,Lfo M l
 |0,_,_,_,_,_,_,_,h=>absurd h di
 |n+1,ks,[],e,td,sh,W,l,h=>by
  simp only[gP] at h;rw[av.mp h];have sb:sh.2*1<=2^850:=W.sb;rw[ku] at sb;obtain⟨N,hN,hd⟩:=W.g.sh;have hd:N*1 ∣ M:=hd;rw[ku] at hd;obtain⟨_,c,c1,c2,c3⟩:=hN.dv hM hd;exact⟨W.s1,W.s2,sb,c,c1,c2,c3⟩
 |n+1,ks,.thr _ x T _ wss::rs,e,td,sh,W,l,h=>by
  simp only[gP] at h;obtain⟨z,hz,h⟩:=we.mp h;exact oP hM n _ rs _ _ _ (W.thr hz).1 l h
 |n+1,ks,.lt _ x t::rs,e,td,sh,W,l,h=>by simp only[gP] at h;exact oP hM n _ rs _ _ _ W.lt.1 l h
 |n+1,ks,.tell _ t::rs,e,td,sh,W,l,h=>by simp only[gP] at h;exact oP hM n _ rs _ _ _ W.tell.1 l h
 |n+1,ks,.when _ _ _ t a b::rs,e,td,sh,W,l,h=>by simp only[gP] at h;exact oP hM n _ _ _ _ _ (W.when rfl).1 l h
 |n+1,ks,.times _ _ k b::rs,e,td,sh,W,l,h=>by simp only[gP] at h;exact oP hM n _ _ _ _ _ W.times.1 l h
def aH0.wk{xs:List Str}{kn:Int}{rs:List Rw}{cs:List Int}(P:aH0 xs kn rs)(l:(cs.length:Int)=kn):vW xs cs (mL cs rs) [] rs e0 [] (1,1)/\1<=mL cs rs/\mL cs rs<=2^850:=by
 have ok:=P.ok cs l;have b:=(yX rs ok).bd P.w;refine⟨⟨⟨ok,P.kn,(fun _ z=>nomatch z),by show 0+eI rs<=4;have:=P.tel;lia,(fun _ z=>nomatch z),1,⟨cw _,1,cw _,cw _,by show aW 1 1=aW 1 1;rfl⟩,by rw[ib];exact Int.dvd_refl _⟩,by decide,by decide,?_,P.w,ou,(fun _ z=>nomatch z)⟩,b.1,b.2⟩;show 1*mL cs rs<=2^850;rw[ib];exact b.2
def bB6{H:Hp}{bs:List Addr}{nss:List (List Int)}(t:eA H bs nss):dH (xG true H) (bs.map V.ref) nss:=by
 obtain⟨l,h⟩:=t
 induction bs generalizing nss with
 |nil=>cases nss with|nil=>exact trivial|cons _ _=>cases l
 |cons b bs ih =>
  cases nss with
  |nil=>cases l
  |cons n nss =>
   exact⟨⟨b,rfl,h 0 b n rfl rfl⟩,ih (su l) fun i c m hc hm=>h (i+1) c m (by simpa using hc) (by simpa using hm)⟩
def spRunsL:Sp:=fun vs H Q _=>∃(pg kt pr c:Addr) (xs:List Str) (kn:Int) (rs:List Rw) (cs:List Int),vs=[.ref pg,.ref c]/\H pg=some (.tup [.ref kt,.ref pr])/\H pr=some (.tup (bK rs))/\bO H rs/\dF H c cs/\aH0 xs kn rs/\(cs.length:Int)=kn /\
 ∀l us H',aR H H'->H' l=some (.lst us)->dH (qU true H') us (WV cs rs e0 [] (1,1))->Q (.ref l) H'
def spLTb:Sp:=fun vs H Q _=>∃(l:Addr) (us:List V) (ws:List Lf) (M:Int),vs=[.ref l]/\H l=some (.lst us)/\dH (qU true H) us ws/\ws.length<=60/\1<=M/\M<=2^850/\(∀w∈ws,Lfo M w) /\
 ∀H' t ks,aR H H'->yF true H' t (iE (gS (ws.map lY)) ks)->Ups ks->(∀k,k∈ks↔∃u,gS (ws.map lY) k=some u)->Q (.ref t) H'
def spWhL:Sp:=fun vs H Q _=>∃n:Int,vs=[.int n]/\∀H',aR H H'->Q (.bl true) H'
def spIsS:Sp:=fun vs H Q _=>∃(p:Addr) (a b:Int),vs=[.ref p]/\aY H p a b/\∀H',aR H H'->Q (.bl true) H'
def spIsTb:Sp:=fun vs H Q _=>∃(t u:Addr) (es:List En),vs=[.ref t,.ref u]/\yF true H t es/\yF true H u es/\(∀e∈es,e.1.length<=60)/\∀H',aR H H'->Q (.bl true) H'
def bA9{M:Int}{ws:List Lf}(h:∀w∈ws,Lfo M w):∀e∈ws.map lY,OvM M e.2:=fun e he=>by
 obtain⟨w,hw,rfl⟩:=ci.mp he;obtain⟨_,_,_,c,c1,c2,c3⟩:=h w hw;exact⟨c,by lia,c2,c3⟩
def bR8{M:Int}(hM:1<=M){ws:List Lf}(h:∀w∈ws,Lfo M w){a:List Int}{u:Int×Int}(hu:gS (ws.map lY) a=some u):u≠(0,1):=by
 rw[rB] at hu
 by_cases c:yY (ws.map lY) a=[]
 ·rw[ao c] at hu;cases hu
 ·rw[ai c] at hu;have hu:=cq hu;have key:∀us:List (Int×Int),(∀v∈us,∃c,1<=c/\v=aW c M)->∀S:Int,0<=S->∃S':Int,S+(us.length:Int)<=S'/\us.foldl cY (aW S M)=aW S' M:=by
   intro us
   induction us with
   |nil=>intro _ S _;exact⟨S,by simp,rfl⟩
   |cons v us ih =>
    intro hv S h0;obtain⟨c,c1,rfl⟩:=hv v aj;rw[iz,gQ h0 (by lia) hM];obtain⟨S',h1,h2⟩:=ih (fun x hx=>hv x (ae _ hx)) (S+c) (by lia);exact⟨S',by rw[bo];lia,h2⟩
  obtain⟨S',h1,h2⟩:=key (yY (ws.map lY) a) (fun v hv=>by
   obtain⟨e,he,rfl⟩:=ci.mp hv;obtain⟨w,hw,rfl⟩:=ci.mp (dr.mp he).1;obtain⟨_,_,_,c,c1,c2,c3⟩:=h w hw;exact⟨c,c1,c3⟩) 0 (cw _)
  rw[gU hM] at h2;rw[h2] at hu;have pos:1<=(yY (ws.map lY) a).length:=qe.mpr fun z=>c (ik z)
  intro z;rw[z] at hu;have p1:1<=bH S' M:=jB (by lia) hM;have hu:bH S' M=0:=gv Prod.fst hu;lia
def aK8(n:Nat):(List.replicate n (V.bl true)).all mE=true:=by
 induction n with
 |zero=>rfl
 |succ n ih=>rw[gb,ux,ih];rfl
def bH2(n:Nat):inV (.bl false) (List.replicate n (V.bl true))=false:=by
 unfold inV
 induction n with
 |zero=>rfl
 |succ n ih=>rw[gb,md,ih];rfl
def jO{NM:List Str}{cs:List Int}{M:Int}:∀(n:Nat) (ks:List Str) (rs:List Rw) (e:Ev) (td:List Int) (sh:Int×Int),vW NM cs M ks rs e td sh->∀l∈gP cs n rs e td sh,l.1.length<=4
 |0,_,_,_,_,_,_,_,h=>absurd h di
 |n+1,ks,[],e,td,sh,W,l,h=>by
  simp only[gP] at h;rw[av.mp h];have:=W.g.tl;have this:td.length+0<=4:=this;exact this
 |n+1,ks,.thr _ x T _ wss::rs,e,td,sh,W,l,h=>by
  simp only[gP] at h;obtain⟨z,hz,h⟩:=we.mp h;exact jO n _ rs _ _ _ (W.thr hz).1 l h
 |n+1,ks,.lt _ x t::rs,e,td,sh,W,l,h=>by simp only[gP] at h;exact jO n _ rs _ _ _ W.lt.1 l h
 |n+1,ks,.tell _ t::rs,e,td,sh,W,l,h=>by simp only[gP] at h;exact jO n _ rs _ _ _ W.tell.1 l h
 |n+1,ks,.when _ _ _ t a b::rs,e,td,sh,W,l,h=>by simp only[gP] at h;exact jO n _ _ _ _ _ (W.when rfl).1 l h
 |n+1,ks,.times _ _ k b::rs,e,td,sh,W,l,h=>by simp only[gP] at h;exact jO n _ _ _ _ _ W.times.1 l h
def bB8{NM:List Str}{cs:List Int}{M:Int}{rs:List Rw}(W:vW NM cs M [] rs e0 [] (1,1)){y:List Int}{u:Int×Int}(h:gS ((WV cs rs e0 [] (1,1)).map lY) y=some u):y.length<=60:=by
 obtain⟨e,he,rfl⟩:=aR7 h;obtain⟨w,hw,rfl⟩:=ci.mp he;have:=jO _ _ _ _ _ _ W w hw;show w.1.length<=60;lia
namespace dY
def tab_lad{p q lo hi n:Int}(h:(lad p q lo hi).Ok)(a:lo<=n)(b:n<=hi):(lad p q lo hi).tab [n]=mO p q lo hi n:=by
 show iW (eG p q lo hi) lo (cP p q lo hi n)=_;rw[uE _ _ _ (iB h.l.1),vV h.l.1 a b]
def tab_cho{p q lo hi:Int}{ns:List Int}(h:(cho p q lo hi).Ok)(hn:∀n∈ns,lo<=n/\n<=hi):(cho p q lo hi).tab ns=kT (fA p q ns) 0 (ns.map (gC p q)):=by
 have e:=h.l.2;refine uE _ _ _ fun s hs=>?_
 obtain⟨y,hy,rfl⟩:=List.mem_map.mp hs;have k:=hn y hy;exact(mB h.l.1 (show 0<=y by have:=e.a;lia) (show y<=9 by have:=e.c;lia)).1
def tab_fst{pa qa pb qb mk lo hi:Int}{ns:List Int}:(fst pa qa pb qb mk lo hi).tab ns=nJ pa qa pb qb mk ns lo hi:=by
 unfold nJ;rw[cC6];rfl
end dY
open PySem L2
namespace dY
end dY
open PySem L2
def cJ4:¬(("ladder": Str)="choose"):=by decide
def cJ5:¬(("ladder": Str)="flat"):=by decide
end Mine
namespace L2
open PySem PySem.Spec PyProof.Rows
def pC{K:PySem.W.Frag}{a:Addr}{xs:List V}{g:TG}{tb:TS}{D:fG}{σ:St}{H:Hp}(Pv:Nat->St->Hp->Prop)(h0:Pv 0 σ H)(hl:∀i σ H,i<=xs.length->Pv i σ H->bR K H a xs)
  (hs:∀(D':fG) (N:St->Hp->Prop),∀i,(∀σ H,Pv (i+1) σ H->N σ H)->∀x σ H,xs[i]?=some x->Pv i σ H->g x σ H fun σ2 H2=>tb { D' with nx:=N,ct:=N,bk:=D'.nx } σ2 H2) (hd:∀σ H,Pv xs.length σ H->D.nx σ H) :
  ∃W:Nat->Nat->St->Hp->Prop,(∃m,W 0 m σ H)/\∀i m σ H,W i m σ H ->
   ((Itl K a).stop i H/\D.nx σ H)\/((Itl K a).go i H/\∃N:St->Hp->Prop,(∀σ' H',N σ' H'->∃m',m'<m/\W (i+1) m' σ' H')/\∀x H',(Itl K a).yld i H x H'->g x σ H' fun σ2 H2=>tb { D with nx:=N,ct:=N,bk:=D.nx } σ2 H2):=aU4 Pv h0 hl (fun D' i x σ H hi p=>hs D' (Pv (i+1)) i (fun _ _ z=>z) x σ H hi p) hd
def zI{K:PySem.W.Frag}{a:Addr}{xs:List V}{g:TG}{tb:TS}{D:fG}{σ:St}{H:Hp}(Pv:Nat->St->Hp->Prop)(h0:Pv 0 σ H)(hl:∀i σ H,i<=xs.length->Pv i σ H->aT K H a xs)
  (hs:∀(D':fG) (N:St->Hp->Prop),∀i,(∀σ H,Pv (i+1) σ H->N σ H)->∀x σ H,xs[i]?=some x->Pv i σ H->g x σ H fun σ2 H2=>tb { D' with nx:=N,ct:=N,bk:=D'.nx } σ2 H2) (hd:∀σ H,Pv xs.length σ H->D.nx σ H) :
  ∃W:Nat->Nat->St->Hp->Prop,(∃m,W 0 m σ H)/\∀i m σ H,W i m σ H ->
   ((Itt K a).stop i H/\D.nx σ H)\/((Itt K a).go i H/\∃N:St->Hp->Prop,(∀σ' H',N σ' H'->∃m',m'<m/\W (i+1) m' σ' H')/\∀x H',(Itt K a).yld i H x H'->g x σ H' fun σ2 H2=>tb { D with nx:=N,ct:=N,bk:=D.nx } σ2 H2):=aB7 Pv h0 hl (fun D' i x σ H hi p=>hs D' (Pv (i+1)) i (fun _ _ z=>z) x σ H hi p) hd
def rO{lo:Int}{n:Nat}{g:TG}{tb:TS}{D:fG}{σ:St}{H:Hp}(Pv:Nat->St->Hp->Prop)(h0:Pv 0 σ H)
  (hs:∀(D':fG) (N:St->Hp->Prop),∀i,(∀σ H,Pv (i+1) σ H->N σ H)->∀σ H,i<n->Pv i σ H->g (.int (lo+i)) σ H fun σ2 H2=>tb { D' with nx:=N,ct:=N,bk:=D'.nx } σ2 H2) (hd:∀σ H,Pv n σ H->D.nx σ H) :
  ∃W:Nat->Nat->St->Hp->Prop,(∃m,W 0 m σ H)/\∀i m σ H,W i m σ H ->
   ((Itr lo n).stop i H/\D.nx σ H)\/((Itr lo n).go i H/\∃N:St->Hp->Prop,(∀σ' H',N σ' H'->∃m',m'<m/\W (i+1) m' σ' H')/\∀x H',(Itr lo n).yld i H x H'->g x σ H' fun σ2 H2=>tb { D with nx:=N,ct:=N,bk:=D.nx } σ2 H2):=gZ Pv h0 (fun D' i σ H hi p=>hs D' (Pv (i+1)) i (fun _ _ z=>z) σ H hi p) hd
section
variable {P:Program}{w:World}{K:W.Frag}{mg:Str->Option Value}{base:Heap}
structure cW1(K:W.Frag)(x qual:Str)(st:Stmt)(f:Addr)(fd:FuncData):Prop where
 ex:∃(oc:Value) (od:Option Addr) (dV kV doc pm:Value) (an:Option Addr) (cdv ct:Value) (osl:Array (Option Value)),
  fd=W.fnOf x qual (cE st) (bX st) (bB st) dV kV doc pm an cdv ct/\K.lookup f=some ⟨oc,od,.func fd,osl⟩/\W.codeIn K cdv qual=true
def cA1(P:Program)(w:World)(K:W.Frag)(mg:Str->Option Value)(base:Heap)(x q:Str)(st:Stmt)(n:Nat)(ps:List Str)(sp:Sp):Prop:=∀{f:Addr}{d:FuncData},cW1 K x q st f d->kK P w K mg base CX0 n f d ps sp
def cU1{x q:Str}{st:Stmt}{k:Nat}{ps:List Str}{sp:Sp}(N:List Str)
  (hb:∀{f:Addr}{cdv:Value}{A:Around}{outer:List Env}{s:Shared}{vs:List V}{E:XK}(H:Hp) (Q:VK),N.Nodup->dE k (A.deeper (envOfC q (bB st) s.heap.objs.size f cdv))->sp vs H Q E ->
   ∃t,yW (aF0 CX0 P w K mg base N q (bB st) f cdv A outer s H E).nox (bX st) t/\t { nx:=fun _ H'=>Q .non H',rt:=Q } (lV N vs) H)
  (len:∀vs H Q E,sp vs H Q E->vs.length=ps.length:=by intro _ _ _ _ h;(repeat obtain⟨_,h⟩:=h);subst_vars;rfl)
  (S:nI N ps (bB st):=by refine⟨rfl,rfl,rfl,?_,rfl,?_,?_⟩<;>decide):cA1 P w K mg base x q st (k+1) ps sp:=fun F=>by
 obtain⟨oc,od,dV,kV,doc,pm,an,cdv,ct,osl,rfl,lk,hcd⟩:=F.ex;refine bV9 lk hcd S len fun A outer s H vs Q E hr hsp=>?_
 obtain⟨t,h,q⟩:=hb H Q S.nd hr hsp;exact⟨t,h.nox,q⟩
def ClD(P:Program)(w:World)(K:W.Frag)(mg:Str->Option Value)(base:Heap)(n:Nat)(sp:Sp)(x:Str)(dvs:List V):Prop:=∃f d ps ds,kK P w K mg base CX0 n f d ps sp/\gM K d ps ds/\bC dvs ds/\W.keepIn K (.ref f)=true/\mg x=some (.ref f)
def cA2(K:W.Frag)(x:Str)(st:Stmt)(f:Addr)(i:Int):Prop:=∃(oc:Value) (od:Option Addr) (T:Addr) (kV dc pm:Value) (an:Option Addr) (cd ct:Value) (sl:Array (Option Value)) (o:Obj) (n:Nat) (t:Tok),K.lookup f=some ⟨oc,od,.func (W.fnOf x x (cE st) (bX st) (bB st) (.ref T) kV dc pm an cd ct),sl⟩/\W.codeIn K cd x=true/\W.keepIn K (.ref f)=true/\K.lookup T=some o/\o.data= .seq #[.int i t] n
def TopAtD(K:W.Frag)(x:Str)(st:Stmt)(i:Int):Prop:=∃f,W.nsIn K mainGlobals x=some (some (.ref f))/\cA2 K x st f i
def TopAtD.of{x:Str}{st:Stmt}{i:Int}{f:Addr}{oc:Value}{od:Option Addr}{T:Addr}{kV dc pm:Value}{an:Option Addr}{cd ct:Value}{sl:Array (Option Value)}{oc2:Value}{od2:Option Addr}{n:Nat}{t:Tok}{sl2:Array (Option Value)}(a:W.nsIn K mainGlobals x=some (some (.ref f)))(l:K.lookup f=some ⟨oc,od,.func (W.fnOf x x (cE st) (bX st) (bB st) (.ref T) kV dc pm an cd ct),sl⟩)(c:W.codeIn K cd x=true)(k:W.keepIn K (.ref f)=true)(h:K.lookup T=some ⟨oc2,od2,.seq #[.int i t] n,sl2⟩):TopAtD K x st i:=⟨_,a,_,_,_,_,_,_,_,_,_,_,_,_,_,l,c,k,h,rfl⟩
def Zx.cd{x p1 p2 p3:Str}{st:Stmt}{n:Nat}{sp:Sp}{i:Int}(Z:Zx P w K mg base)(t:TopAtD K x st i)(ok:cA1 P w K mg base x x st n [p1,p2,p3] sp)
  (h:∀(T:Addr) (kV doc pm:Value) (an:Option Addr) (cdv ct u1 u2:Value),∃k,bindArgs (W.fnOf x x (cE st) (bX st) (bB st) (.ref T) kV doc pm an cdv ct) ⟨[u1,u2],[]⟩=seqItems? (.ref T)>>=k/\∀v,k (some #[v])=pure [(p1,u1),(p2,u2),(p3,v)]:=by intros;exact⟨_,rfl,fun _=>rfl⟩):ClD P w K mg base n sp x [.int i]:=by
 obtain⟨f,a,oc,od,T,kV,dc,pm,an,cd,ct,sl,o,m,tk,l,c,k,h1,h2⟩:=t;refine⟨f,_,_,[.int i tk],ok ⟨_,_,_,_,_,_,_,_,_,_,rfl,l,c⟩,fun s us hK hl=>?_,.cons ⟨tk,rfl⟩ .nil,k,Z.ns _ _ a⟩;rw[bg] at hl;have hl:us.length=2:=su hl;obtain⟨u1,r1,rfl,e1⟩:=cN (n:=1) hl;obtain⟨u2,r2,rfl,e2⟩:=cN (n:=0) e1
 cases iq.mp e2
 obtain⟨kk,b1,b2⟩:=h T kV dc pm an cd ct u1 u2;exact BindsTo.of_defaults rfl (hK _ _ h1) h2 b1 (b2 _)
end
section
variable {X:Cx}{x:Str}{p pos:Pos}{e:Expr}{es:List Expr}{t:TA}
def cX1{k:Nat}{sp:Sp}{dvs:List V}(C:ClD X.prog X.w X.K X.mg X.base k sp x dvs){n:Nat}(hr:dE n X.A)(ha:PA X (e::es) t)(hn:k<=n:=by first|decide|lia)(hg:Gl X x:=by rfl)(hdb:(x==("__debug__": Str))=false:=by decide)(he:starEach (e::es) X.env=(false,eval e X.env)::starEach es X.env:=by rfl)
  (hpl:(backTo pos (starEach es X.env)).any (·.1)=false:=by rfl):PE X (.Call (.Name x p) (e::es) [] pos) (aZ8 sp dvs E0 t):=let⟨_,_,_,_,g,b,v,k,m⟩:=C;aQ8 g (hr.mono hn) hg m k b v bE9 ha hdb he hpl
end
end L2
namespace Mine
open PySem L2
def inC(s:Stmt)(i:Nat):Stmt:=match s with
 |.ClassDef _ _ _ b _ _ _ _ _ _ _=>b.getD i (.Pass ⟨0,0,0,0⟩)
 |_=> .Pass ⟨0,0,0,0⟩
def top(i:Nat):Stmt:=PySem.Challenge.pw_pairedthrows_k25_tables_of_programs.main.body.getD i (.Pass ⟨0,0,0,0⟩)
abbrev cK5:Stmt:=top 5
abbrev bC1:Stmt:=top 6
abbrev bU1:Stmt:=top 7
abbrev cQ2:Stmt:=top 8
abbrev cT6:Stmt:=top 9
abbrev cM3:Stmt:=top 11
abbrev cN6:Stmt:=top 12
abbrev cN4:Stmt:=top 13
abbrev bE6:Stmt:=top 14
abbrev bA3:Stmt:=top 15
abbrev bW4:Stmt:=top 16
abbrev cL5:Stmt:=top 17
abbrev sWo:Stmt:=top 20
abbrev cO0:Stmt:=top 21
abbrev bW5:Stmt:=top 23
abbrev bV4:Stmt:=top 24
abbrev cP8:Stmt:=top 26
abbrev sUp:Stmt:=top 27
abbrev cR7:Stmt:=top 28
abbrev bJ1:Stmt:=top 29
abbrev cQ7:Stmt:=top 30
abbrev bU2:Stmt:=top 31
abbrev cP4:Stmt:=top 32
abbrev aW6:Stmt:=top 33
abbrev cT3:Stmt:=top 34
abbrev bW0:Stmt:=top 35
abbrev aQ9:Stmt:=top 36
abbrev cT2:Stmt:=top 37
abbrev cN1:Stmt:=inC (top 39) 0
abbrev cK3:Stmt:=top 40
abbrev bX0:Stmt:=top 41
abbrev cR6:Stmt:=top 42
abbrev bU6:Stmt:=top 43
abbrev cM2:Stmt:=top 44
abbrev bV2:Stmt:=top 45
abbrev cR3:Stmt:=top 47
abbrev bW7:Stmt:=top 48
abbrev cS0:Stmt:=top 49
abbrev cQ8:Stmt:=top 50
abbrev cK4:Stmt:=top 51
abbrev cS2:Stmt:=top 52
abbrev cO8:Stmt:=top 53
abbrev cO4:Stmt:=top 54
abbrev cM6:Stmt:=top 55
abbrev cK7:Stmt:=top 56
abbrev cS6:Stmt:=top 57
abbrev cN2:Stmt:=top 58
abbrev cP9:Stmt:=top 59
abbrev cS5:Stmt:=top 60
abbrev cR8:Stmt:=top 61
abbrev cJ1:Stmt:=top 62
abbrev cO9:Stmt:=top 63
abbrev cO5:Stmt:=top 64
abbrev cO2:Stmt:=top 65
abbrev cJ6:Stmt:=top 66
abbrev cK2:Stmt:=top 67
abbrev cK0:Stmt:=top 68
abbrev cL3:Stmt:=top 69
abbrev cL4:Stmt:=top 70
abbrev cS3:Stmt:=top 71
abbrev bH4:Stmt:=top 72
section
variable {P:Program}{w:World}{K:W.Frag}{mg:Str->Option Value}{base:Heap}
def cG3  : eV P w K mg base "parts_of" "parts_of" cQ2 1 ["term"] spParts:=by
 refine fL ["term","parts","waiting","part"] fun H Q nd hr h=>?_
 obtain⟨t,rfl,ht,hz,k⟩:=h;have hu:=gN hr;refine⟨_,(cZ 1 nd (cM eL)
  (cZ 2 nd (cM (aQ (pv 0)))
  (aF (fR ij (aE0 (pv 2) (fun _=>rfl))
  (cZ 3 nd (yM bh ki kj yV (pv 2))
  (aF (cO (eZ bh cz de cJ (pv 1) (aQ (pv 3))))
  (aE (bM (eO cG (bQ aG (pv 3) aB) aJ) (aE (cO (eZ bh ky lh lN (pv 2) (aQ (cM (aA (bQ aG (pv 3) aB) (aQ (bQ aG (pv 3) aB)))))))) aX)))))
  (aE (aK (pv 1)))))),?_⟩
 refine⟨bi _,fun l1 hl1=>?_⟩;obtain⟨H1,e0,s1,h1⟩:=lay hl1 (.lst []);rw[e0];clear e0;refine⟨_,rfl,uU,fun l2 hl2=>?_⟩;have n2:=s1.free hl2;have ne:l2≠l1:=(aM h1 hl2).symm;have s2:=s1.trans (aC hl2 (.lst [.ref t.p]));have h12:aN H1 l2 (.lst [.ref t.p]) l1=some (.lst []):=by rw[aH ne.symm];exact h1
 have h2:aN H1 l2 (.lst [.ref t.p]) l2=some (.lst [.ref t.p]):=aD;generalize aN H1 l2 (.lst [.ref t.p])=H2 at s2 h12 h2 ⊢;refine⟨fun m σ G=>∃(ps stk:List Tm) (v3:Option V),σ=[some (.ref t.p),some (.ref l1),some (.ref l2),v3]/\aR H G/\G l1=some (.lst (ps.map fun u=>V.ref u.p))/\G l2=some (.lst (stk.reverse.map fun u=>V.ref u.p))/\ps++stk.flatMap Tm.pre=t.pre/\(∀u∈stk,qO H u)/\m=(stk.flatMap Tm.pre).length,
  ⟨_,[],[t],none,rfl,s2,h12,h2,by simp,fun u hu=>by rw[List.mem_singleton.mp hu];exact ht,rfl⟩,?_⟩
 rintro m σ G ⟨ps,stk,v3,rfl,s3,g1,g2,eq,hs,rfl⟩;refine⟨_,rfl,_,.inl ⟨_,bR.of g2,rfl⟩,?_⟩;have lt:=gv List.length eq;rw[bg,Tm.pre_len] at lt;have ls:stk.length<=(stk.flatMap Tm.pre).length:=aQ4 stk
 cases stk with
 |nil =>
  refine bJ (by simp) ?_;rw[List.flatMap_nil,jk] at eq;exact⟨_,rfl,k l1 G s3 hl1 (by rw[<-eq];exact g1)⟩
 |cons u rest =>
  refine bW (by simp) ?_;have hu:=hs u aj;have up:=u.size_pos;rw[gj,bg,Tm.pre_len] at lt;rw[bo,gj,bg,Tm.pre_len] at ls;refine⟨fun σ' G'=>∃(ps' stk':List Tm) (v3:Option V),σ'=[some (.ref t.p),some (.ref l1),some (.ref l2),v3]/\aR H G'/\G' l1=some (.lst (ps'.map fun u=>V.ref u.p))/\G' l2=some (.lst (stk'.reverse.map fun u=>V.ref u.p))/\ps'++stk'.flatMap Tm.pre=t.pre/\(∀u∈stk',qO H u)/\(stk'.flatMap Tm.pre).length+1=((u::rest).flatMap Tm.pre).length,
   (by rintro σ' G' ⟨ps',stk',v3',e1,e2,e3,e4,e5,e6,e7⟩;exact ⟨_,by lia,ps',stk',v3',e1,e2,e3,e4,e5,e6,rfl⟩),?_⟩
  have er:(u::rest).reverse.map (fun u=>V.ref u.p)=rest.reverse.map (fun u=>V.ref u.p)++[V.ref u.p]:=by rw[ml,aq];rfl
  rw[er] at g2;refine⟨_,rfl,.inl ⟨rfl,_,bR.of g2⟩,l2,_,V.ref u.p,rfl,rfl,g2,by simp,?_⟩;rw[nu];have s4:=dN (ys:=rest.reverse.map fun u=>V.ref u.p) s3 n2;have g3:aN G l2 (.lst (rest.reverse.map fun u=>V.ref u.p)) l2=some (.lst (rest.reverse.map fun u=>V.ref u.p)):=aD;have g4:aN G l2 (.lst (rest.reverse.map fun u=>V.ref u.p)) l1=some (.lst (ps.map fun u=>V.ref u.p)):=by rw[aH ne.symm];exact g1
  generalize aN G l2 (.lst (rest.reverse.map fun u=>V.ref u.p))=G1 at s4 g3 g4 ⊢;refine⟨_,rfl,.inl ⟨rfl,_,bR.of g4⟩,_,rfl,l1,_,_,rfl,rfl,g4,aL (by rw[ac];lia),?_⟩;have s5:=dN (ys:=(ps++[u]).map fun u=>V.ref u.p) s4 hl1;have ea:(ps.map fun u=>V.ref u.p)++[V.ref u.p]=(ps++[u]).map fun u=>V.ref u.p:=by rw[aq];rfl
  rw[ea];have g5:aN G1 l1 (.lst ((ps++[u]).map fun u=>V.ref u.p)) l1=some (.lst ((ps++[u]).map fun u=>V.ref u.p)):=aD;have g6:aN G1 l1 (.lst ((ps++[u]).map fun u=>V.ref u.p)) l2=some (.lst (rest.reverse.map fun u=>V.ref u.p)):=by rw[aH ne];exact g3
  generalize aN G1 l1 (.lst ((ps++[u]).map fun u=>V.ref u.p))=G2 at s5 g5 g6 ⊢;have hu5:=hu.ts (.of s5);refine⟨_,rfl,u.p,_,_,.str u.w,rfl,rfl,aT.of hu5.at,at0 _ _,rfl,_,rfl,?_⟩
  cases u with
  |op p s a b =>
   refine bW (ap rfl) ?_;refine⟨_,rfl,.inl ⟨rfl,_,bR.of g6⟩,_,rfl,p,_,_,.ref b.p,rfl,rfl,aT.of hu5.1,rfl,_,rfl,p,_,_,.ref a.p,rfl,rfl,aT.of hu5.1,rfl,cS,fun l3 hl3=>?_⟩;have s6:=s5.trans (aC hl3 (.lst [.ref b.p,.ref a.p]));have n31:l1≠l3:=aM g5 hl3;have n32:l2≠l3:=aM g6 hl3;have g7:aN G2 l3 (.lst [.ref b.p,.ref a.p]) l3=some (.lst [.ref b.p,.ref a.p]):=aD;have g8:aN G2 l3 (.lst [.ref b.p,.ref a.p]) l1=_:=(aH n31).trans g5;have g9:aN G2 l3 (.lst [.ref b.p,.ref a.p]) l2=_:=(aH n32).trans g6;generalize aN G2 l3 (.lst [.ref b.p,.ref a.p])=G3 at s6 g7 g8 g9 ⊢;refine⟨l2,l3,_,_,rfl,rfl,g9,g7,by rw[ac,ig];have:=aL (n:=1000) (af _);show rest.length+2<=_;lia,?_⟩;have ez:(rest.reverse.map fun u=>V.ref u.p)++[.ref b.p,.ref a.p]=(a::b::rest).reverse.map fun u=>V.ref u.p:=by simp
   rw[ez];refine⟨ps++[.op p s a b],a::b::rest,_,rfl,dN s6 n2,(aH ne.symm).trans g8,aD,?_,fun x hx=>?_,?_⟩
   ·rw[<-eq];simp[Tm.pre]
   ·rcases az.mp hx with e|e
    ·rw[e];exact hu.2.1
    ·rcases az.mp e with e|e
     ·rw[e];exact hu.2.2
     ·exact hs x (ae _ e)
   ·simp[Tm.pre]<;>lia
  |num p n =>
   refine bJ (fun z=>cV5 (ar z)) ?_;refine⟨ps++[.num p n],rest,_,rfl,s5,g5,g6,?_,fun x hx=>hs x (ae _ hx),?_⟩
   ·rw[<-eq];simp[Tm.pre]
   ·simp[Tm.pre]<;>lia
  |nam p n =>
   refine bJ (fun z=>cX4 (ar z)) ?_;refine⟨ps++[.nam p n],rest,_,rfl,s5,g5,g6,?_,fun x hx=>hs x (ae _ hx),?_⟩
   ·rw[<-eq];simp[Tm.pre]
   ·simp[Tm.pre]<;>lia
def cN3{tW:Tok}(m_WRAP:mg "WRAP"=some (.int 1000000 tW)):eV P w K mg base "worked_out" "worked_out" sWo 1 ["sign","one","other"] spWo:=by
 refine fL ["sign","one","other"] fun H Q nd hr h=>?_
 obtain⟨s,a,b,rfl,hs,a0,a1,b0,b1,k⟩:=h;refine⟨_,(aF (bM (eO cG (pv 0) aJ) (aE (aK (gK (eO lX (pv 1) (pv 2)) aB aB))) aX)
  (aF (bM (eO cG (pv 0) aJ) (aE (aK (gK (eO cG (pv 1) (pv 2)) aB aB))) aX)
  (aF (bM (eO cG (pv 0) aJ) (aE (aK (aI eW (aI bE (pv 1) (pv 2)) (rF (v:= .int 1000000) (by rfl) m_WRAP ⟨_,rfl⟩)))) aX)
  (aF (bM (eO cG (pv 0) aJ) (aE (aK (aI eW (aI cQ (pv 1) (pv 2)) (rF (v:= .int 1000000) (by rfl) m_WRAP ⟨_,rfl⟩)))) aX)
  (aE (aK (aI eW (aI kX (pv 1) (pv 2)) (rF (v:= .int 1000000) (by rfl) m_WRAP ⟨_,rfl⟩)))))))),?_⟩
 unfold wo at k;refine⟨_,rfl,rfl,_,rfl,?_⟩
 by_cases c1:s="<"
 ·rw[ao c1] at k;refine bW (by rw[c1];exact ap rfl) ?_;refine⟨_,rfl,_,rfl,_,_,rfl,rfl,_,rfl,?_⟩
  by_cases c:a<b
  ·rw[ao c] at k;exact bW (ap c) k
  ·rw[ai c] at k;exact bJ (by simpa using c) k
 rw[ai c1] at k;refine bJ (fun z=>c1 (by have z:=ar z;injection z)) ?_;refine⟨_,rfl,rfl,_,rfl,?_⟩
 by_cases c2:s="="
 ·rw[ao c2] at k;refine bW (by rw[c2];exact ap rfl) ?_;refine⟨_,rfl,_,rfl,rfl,_,rfl,?_⟩
  by_cases c:a=b
  ·rw[ao c] at k;exact bW (ap (by rw[c])) k
  ·rw[ai c] at k;exact bJ (fun z=>c (by have z:=ar z;injection z)) k
 rw[ai c2] at k;refine bJ (fun z=>c2 (by have z:=ar z;injection z)) ?_;refine⟨_,rfl,rfl,_,rfl,?_⟩;have q1:(0:Int)<1000000:=by decide
 by_cases c3:s="+"
 ·rw[ao c3] at k;refine bW (by rw[c3];exact ap rfl) ?_;exact⟨_,rfl,_,rfl,_,_,rfl,rfl,_,_,rfl,rfl,q1,k⟩
 rw[ai c3] at k;refine bJ (fun z=>c3 (by have z:=ar z;injection z)) ?_;refine⟨_,rfl,rfl,_,rfl,?_⟩
 by_cases c4:s="-"
 ·rw[ao c4] at k;refine bW (by rw[c4];exact ap rfl) ?_;exact⟨_,rfl,_,rfl,_,_,rfl,rfl,_,_,rfl,rfl,q1,k⟩
 rw[ai c4] at k;refine bJ (fun z=>c4 (by have z:=ar z;injection z)) ?_;exact⟨_,rfl,_,rfl,_,_,rfl,rfl,.inl ⟨by lia,by lia⟩,_,_,rfl,rfl,q1,k⟩
def cD0(C_Prt:Cl P w K mg base 1 spParts "parts_of")(C_Wo:Cl P w K mg base 1 spWo "worked_out")(m_reversed:mg "reversed"=none):eV P w K mg base "value_of" "value_of" cO0 2 ["term","values"] spVof:=by
 refine fL ["term","values","ready","part","one","other"] fun H Q nd hr h=>?_
 obtain⟨t,vd,ev,rfl,ht,ok,hz,D0,k⟩:=h;have hu:=gN hr;refine⟨_,(cZ 2 nd (cM eL)
  (aF (xN (cI3 (bP C_Prt hr (aQ (pv 0))) (by rfl) m_reversed) (gX 3 nd)
  (aE (bM (eO cG (bQ aG (pv 3) aB) aJ) (aE (cO (eZ bh cz de cJ (pv 2) (aQ (bQ aG (pv 3) aB))))) (aE (bM (eO cG (bQ aG (pv 3) aB) aJ) (aE (cO (eZ bh cz de cJ (pv 2) (aQ (qH hu (pv 1) (bQ aG (pv 3) aB)))))) (cZ 4 nd (yM bh ki kj yV (pv 2))
  (cZ 5 nd (yM bh ki kj yV (pv 2))
  (aE (cO (eZ bh cz de cJ (pv 2) (aQ (bP C_Wo hr (aA (bQ aG (pv 3) aB) (aA (pv 4) (aQ (pv 5))))))))))))))))
  (aE (aK (bQ dC (pv 2) aB))))),?_⟩
 refine⟨bi _,fun l1 hl1=>?_⟩;obtain⟨H1,e0,s1,h1⟩:=lay hl1 (.lst []);rw[e0];clear e0;refine⟨_,rfl,t,rfl,ht.ts (.of s1),hz,fun r H2 s2 nr h2=>⟨r,_,rfl,bR.of h2,?_⟩⟩;have s3:=s1.trans s2;have h3:=s2 _ _ h1;have nlr:r≠l1:=fun z=>by rw[z,h1] at nr;cases nr
 have pl:=Tm.pre_len t;refine aY5 (K:=K) (a:=r) (xs:=t.pre.map fun u=>V.ref u.p) (fun i σ G=>∃(st:List Int) (v3 v4 v5:Option V),σ=[some (.ref t.p),some (.ref vd),some (.ref l1),v3,v4,v5]/\aR H G/\G r=some (.lst (t.pre.map fun u=>V.ref u.p))/\G l1=some (.lst (st.reverse.map V.int))/\run ev (t.pre.reverse.take i) []=some st/\(∀n∈st,0<=n/\n<1000000)/\st.length<=i)
  ⟨[],_,_,_,rfl,s3,h2,h3,rfl,fun _ z=>absurd z di,af _⟩ (by rintro i σ G _ ⟨_,_,_,_,_,_,e,_⟩;exact bR.of e) ?_ ?_
 ·rintro D' i x σ G hx ⟨st,v3,v4,v5,rfl,s4,g1,g2,hrun,hb,hl⟩;obtain⟨u,hu,rfl⟩:∃u,t.pre.reverse[i]?=some u/\x=V.ref u.p:=by
   rw[<-wj,df] at hx
   cases e:t.pre.reverse[i]? with
   |none=>rw[e] at hx;cases hx
   |some u=>rw[e] at hx;exact⟨u,rfl,(cq hx).symm⟩
  have mu:u∈t.pre:=List.mem_reverse.mp (bj hu);have ui:=(bz.mp hu).1;rw[ig] at ui;obtain⟨st',e1,e2⟩:=cB6 ev t hu hrun;have hU:=(qO.pre ht u mu).ts (.of s4);have okU:=Tm.ok_pre ok u mu;have nmU:=Tm.names_pre u mu;have bd:=bG2 okU (fun x hx=>D0.bd x (nmU x hx)) hb e1;refine⟨_,rfl,u.p,_,_,.str u.w,rfl,rfl,aT.of hU.at,at0 _ _,rfl,_,rfl,?_⟩;have sz:(st.reverse.map V.int).length<sizeLine:=by rw[ac,ig];exact aL (by lia)
  generalize hP:u.p=P
  cases u with
  |num p n =>
   obtain rfl:p=P:=hP
   cases e1
   refine bW (ap rfl) ?_;refine⟨_,rfl,.inl ⟨rfl,_,bR.of g2⟩,_,rfl,p,_,_,.int n,rfl,rfl,aT.of hU,rfl,l1,_,_,rfl,rfl,g2,sz,?_⟩;refine⟨n::st,_,_,_,rfl,dN s4 hl1,(aH nlr).trans g1,?_,e2,bd.1,by have:=bd.2;lia⟩;rw[aD,ml,aq];rfl
  |nam p y =>
   obtain rfl:p=P:=hP
   cases e1
   refine bJ (fun z=>wNN (ar z)) ?_;refine⟨_,rfl,p,_,_,.str "name",rfl,rfl,aT.of hU,rfl,rfl,_,rfl,?_⟩;refine bW (ap rfl) ?_;refine⟨_,rfl,.inl ⟨rfl,_,bR.of g2⟩,_,rfl,_,rfl,p,_,_,.str y,rfl,rfl,aT.of hU,rfl,vd,.int (ev y),rfl,(D0.same s4).get (nmU y (by simp[Tm.names])),l1,_,_,rfl,rfl,g2,sz,?_⟩;refine⟨ev y::st,_,_,_,rfl,dN s4 hl1,(aH nlr).trans g1,?_,e2,bd.1,by have:=bd.2;lia⟩;rw[aD,ml,aq];rfl
  |op p s a b =>
   obtain rfl:p=P:=hP;refine bJ (fun z=>wON (ar z)) ?_;refine⟨_,rfl,p,_,_,.str "op",rfl,rfl,aT.of hU.1,rfl,rfl,_,rfl,?_⟩;refine bJ (fun z=>wOM (ar z)) ?_;unfold kW at e1
   match st,e1,g2,hb,hl,bd,e2 with
   |x::y::q,e1,g2,hb,hl,bd,e2 =>
    cases e1
    have ex:((x::y::q).reverse.map V.int)=(q.reverse.map V.int++[V.int y])++[V.int x]:=by simp
    rw[ex] at g2;have bx:=hb x aj;have by':=hb y (ae _ aj)
    refine⟨_,rfl,.inl ⟨rfl,_,bR.of g2⟩,l1,_,.int x,rfl,rfl,g2,by simp,?_⟩;rw[nu];have s5:=dN (ys:=q.reverse.map V.int++[V.int y]) s4 hl1;have g3:aN G l1 (.lst (q.reverse.map V.int++[V.int y])) l1=some (.lst (q.reverse.map V.int++[V.int y])):=aD;have g4:aN G l1 (.lst (q.reverse.map V.int++[V.int y])) r=_:=(aH nlr).trans g1;have hU5:aN G l1 (.lst (q.reverse.map V.int++[V.int y])) p=_:=TS.lst g2 _ _ hU.1;generalize aN G l1 (.lst (q.reverse.map V.int++[V.int y]))=G1 at s5 g3 g4 hU5 ⊢;refine⟨_,rfl,.inl ⟨rfl,_,bR.of g3⟩,l1,_,.int y,rfl,rfl,g3,by simp,?_⟩;rw[nu];have s6:=dN (ys:=q.reverse.map V.int) s5 hl1;have g5:aN G1 l1 (.lst (q.reverse.map V.int)) l1=some (.lst (q.reverse.map V.int)):=aD;have g6:aN G1 l1 (.lst (q.reverse.map V.int)) r=_:=(aH nlr).trans g4;have hU6:aN G1 l1 (.lst (q.reverse.map V.int)) p=_:=TS.lst g3 _ _ hU5;generalize aN G1 l1 (.lst (q.reverse.map V.int))=G2 at s6 g5 g6 hU6 ⊢
    refine⟨_,rfl,.inl ⟨rfl,_,bR.of g5⟩,_,rfl,p,_,_,.str s,rfl,rfl,aT.of hU6,rfl,_,rfl,_,rfl,s,x,y,rfl,okU.1,bx.1,bx.2,by'.1,by'.2,l1,_,_,rfl,rfl,g5,aL (by rw[ac,ig];simp only[List.length_cons] at hl;lia),?_⟩;refine⟨wo s x y::q,_,_,_,rfl,dN s6 hl1,(aH nlr).trans g6,?_,e2,bd.1,by have:=bd.2;simp only[List.length_cons] at *;lia⟩;rw[aD,ml,aq];rfl
 ·rintro σ G ⟨st,v3,v4,v5,rfl,s4,g1,g2,hrun,hb,hl⟩;rw[ac, <-ig,eh,rL] at hrun
  cases hrun
  exact⟨_,rfl,l1,_,_,.int (t.val ev),rfl,rfl,bR.of g2,rfl,k G s4⟩
def cC1{cL:Addr}(T:RnT K cL)  : eV P w K mg base "__init__" "Run.__init__" cN1 1 ["self","coming","known","told","share"] (aN3 K cL):=by
 refine fL ["self","coming","known","told","share"] fun H Q nd hr h=>?_
 obtain⟨x,dx,kd,tl,sp,cv,rfl,hx,k⟩:=h;refine⟨_,(aF (mK (pv 0) (pv 1) rfl)
  (aF (mK (pv 0) (pv 2) rfl)
  (aF (mK (pv 0) (pv 3) rfl)
  (aE (mK (pv 0) (pv 4) rfl))))),?_⟩
 refine⟨_,rfl,_,rfl,x,cL,dx,_,rfl,hx,T.cl,T.n1,by decide,?_⟩;refine⟨_,rfl,_,rfl,x,cL,dx,_,rfl,aD,T.cl,T.n2,by show 1<1000;decide,?_⟩;rw[rH];refine⟨_,rfl,_,rfl,x,cL,dx,_,rfl,aD,T.cl,T.n3,cm (bF2 (bF2 (n:=0) (af _))) (by decide),?_⟩;rw[rH];refine⟨_,rfl,_,rfl,x,cL,dx,_,rfl,aD,T.cl,T.n4,cm (bF2 (bF2 (bF2 (n:=0) (af _)))) (by decide),?_⟩;rw[rH,aR0];exact k _ (fun b hb=>aH hb) aD
def cA0(m_reversed:mg "reversed"=none):eV P w K mg base "put_ahead" "put_ahead" cK3 1 ["rows","coming"] spPut:=by
 refine fL ["rows","coming","row"] fun H Q nd hr h=>?_
 obtain⟨pa,cv,a,rs,rfl,ha,hc,k⟩:=h;refine⟨_,(aF (xN (bS0 (pv 0) (by rfl) m_reversed) (gX 2 nd)
  (aE (psz 1 nd (aS (aA (pv 2) (aQ (pv 1)))))))
  (aE (aK (pv 1)))),?_⟩
 refine⟨_,rfl,pa,_,rfl,aT.of ha,?_⟩;refine aT1 (K:=K) (a:=pa) (xs:=bK a) (fun i σ G=>∃(cv':V) (v2:Option V),σ=[some (.ref pa),some cv',v2]/\aR H G/\uV G cv' (a.drop (a.length-i)++rs))
  ⟨cv,_,rfl,.refl _,by rw[aAm,List.drop_length];exact hc⟩ (by rintro i σ G _ ⟨_,_,_,s,_⟩;exact aT.of (s _ _ ha)) ?_ ?_
 ·rintro D' i v σ G hv ⟨cv',v2,rfl,s,hc'⟩;unfold bK at hv;rw[<-wj,df] at hv;obtain⟨r,hr,rfl⟩:=gz.mp hv;have hi:=(bz.mp hr).1;rw[ig] at hi;rw[qv hi] at hr;refine⟨_,rfl,_,rfl,cS,fun t ht=>⟨.ref t,_,rfl,s.trans (aC ht _),?_⟩⟩;have e:a.drop (a.length-(i+1))=r::a.drop (a.length-i):=by
   have h2:=bz.mp hr;rw[show a.length-(i+1)=a.length-1-i by lia,ol h2.1,h2.2,show a.length-1-i+1=a.length-i by lia]
  rw[e];exact⟨t,cv',rfl,aD,hc'.ts (.of (aC ht _))⟩
 ·rintro σ G ⟨cv',v2,rfl,s,hc'⟩;rw[show a.length-(bK a).length=0 by unfold bK;rw[ac];lia,uc] at hc';exact⟨_,rfl,k _ _ s hc'⟩
def bN0{cL:Addr}(T:RnT K cL)(C_Vof:Cl P w K mg base 2 spVof "value_of")(C_Put:Cl P w K mg base 1 spPut "put_ahead")(m_range:mg "range"=none):eV P w K mg base "take_row" "take_row" bX0 3 ["run","row"] (bE2 cL):=by
 refine fL ["run","row","rows","time"] fun H Q nd hr h=>?_
 obtain⟨x,kd,tl,NM,KS,cs,M,ks,r,rs,e,td,sh,rfl,h,hw,nt,hN,gk,k⟩:=h;have hu:=gN hr;refine⟨_,(aE (bM (eO cG (bQ aG (pv 1) aB) aJ) (aE (pdp hu (eY (pv 0) rfl) (bQ aG (pv 1) aB) (bP C_Vof hr (aA (bQ aG (pv 1) aB) (aQ (eY (pv 0) rfl)))))) (aE (bM (eO cG (bQ aG (pv 1) aB) aJ) (aE (cO (eZ bh cz de cJ (eY (pv 0) rfl) (aQ (bP C_Vof hr (aA (bQ aG (pv 1) aB) (aQ (eY (pv 0) rfl)))))))) (aE (bM (eO cG (bQ aG (pv 1) aB) aJ) (cZ 2 nd (gK (eO bK7 (bP C_Vof hr (aA (bQ aG (pv 1) aB) (aQ (eY (pv 0) rfl)))) aB) (bQ aG (pv 1) aB) (bQ aG (pv 1) aB))
  (aE (mK (pv 0) (bP C_Put hr (aA (pv 2) (aQ (eY (pv 0) rfl)))) rfl))) (aE (xN (eK (by rfl) m_range (aQ (bQ aG (pv 1) aB))) (gX 3 nd)
  (aE (mK (pv 0) (bP C_Put hr (aA (bQ aG (pv 1) aB) (aQ (eY (pv 0) rfl)))) rfl)))))))))),?_⟩
 obtain⟨dx,cv,sp,hX,hc,hs⟩:=h.ex;have ok:=gk.g.ok;have kn:=gk.g.kn;have at4:=nV cv kd tl sp;have tl4:=gk.g.tl;have tlS:(td.map V.int).length<sizeLine:=by rw[ac];exact aL (by show td.length<=1000;have:td.length+eI (r::rs)<=4:=tl4;lia)
 cases r with
 |thr p y T a3 wss=>exact absurd trivial nt
 |lt p y t =>
  refine⟨_,rfl,p,_,_,.str "let",rfl,rfl,aT.of hw.1,rfl,rfl,_,rfl,bW (ap rfl) ?_⟩;refine⟨_,rfl,p,_,_,.ref t.p,rfl,rfl,aT.of hw.1,rfl,_,rfl,x,cL,dx,_,_,rfl,hX,T.cl,T.n2,at4.2.1,t,kd,e,rfl,hw.2,ok.1.1.1,ay ok.1.1.2 (by decide),gk.g.dv h.kn kn.1,fun H1 s1=>?_⟩;have h1:=h.same s1;refine⟨_,rfl,x,cL,dx,_,_,rfl,s1 _ _ hX,T.cl,T.n2,at4.2.1,_,rfl,p,_,_,.str y,rfl,rfl,aT.of (s1 _ _ hw.1),rfl,kd,_,rfl,lT.k (k:=Sum.inr y) h1.kn (sM h.nd h.sb hN),?_⟩;obtain⟨h2,o2⟩:=cN5 (v:=t.val e) h1 ok.1.2;obtain⟨g2,n2,l2⟩:=aO3 gk.g;exact k _ _ _ h2 ⟨g2.sbs oN iQ,gk.k⟩ n2 l2 ((cV.of s1).trans o2)
 |tell p t =>
  refine⟨_,rfl,p,_,_,.str "tell",rfl,rfl,aT.of hw.1,rfl,rfl,_,rfl,bJ (by decide) ?_⟩;refine⟨_,rfl,p,_,_,.str "tell",rfl,rfl,aT.of hw.1,rfl,rfl,_,rfl,bW (ap rfl) ?_⟩;refine⟨_,rfl,x,cL,dx,_,_,rfl,hX,T.cl,T.n3,at4.2.2.1,.inl ⟨rfl,_,bR.of h.tl⟩,_,rfl,p,_,_,.ref t.p,rfl,rfl,aT.of hw.1,rfl,_,rfl,x,cL,dx,_,_,rfl,hX,T.cl,T.n2,at4.2.1,t,kd,e,rfl,hw.2,ok.1.1,ay ok.1.2 (by decide),gk.g.dv h.kn kn.1,fun H1 s1=>?_⟩;have h1:=h.same s1;refine⟨tl,_,_,rfl,rfl,h1.tl,tlS,?_⟩;obtain⟨h2,o2⟩:=bS8 (v:=t.val e) h1;obtain⟨g2,n2,l2⟩:=wY gk.g;exact k _ _ _ h2 ⟨g2,gk.k⟩ n2 l2 ((cV.of s1).trans o2)
 |when p pa pb t a b =>
  obtain⟨hp,ht,ha,hb,ra,rb⟩:=id hw;refine⟨_,rfl,p,_,_,.str "when",rfl,rfl,aT.of hp,rfl,rfl,_,rfl,bJ (by decide) ?_⟩;refine⟨_,rfl,p,_,_,.str "when",rfl,rfl,aT.of hp,rfl,rfl,_,rfl,bJ (by decide) ?_⟩;refine⟨_,rfl,p,_,_,.str "when",rfl,rfl,aT.of hp,rfl,rfl,_,rfl,bW (ap rfl) ?_⟩;refine⟨_,rfl,p,_,_,.ref t.p,rfl,rfl,aT.of hp,rfl,_,rfl,x,cL,dx,_,_,rfl,hX,T.cl,T.n2,at4.2.1,t,kd,e,rfl,ht,ok.1.1.1,ay ok.1.1.2 (by decide),gk.g.dv h.kn kn.1.1,fun H1 s1=>?_⟩;have h1:=h.same s1;refine⟨rfl,_,rfl,?_⟩;have fin:∀(pr:Addr) (rr:List Rw),H1 pr=some (.tup (bK rr))->bO H1 rr->rr=(if t.val e=0 then b else a)->(∀q∈dB rr,q∈dB a++dB b)->∀H2 cv2,aR H1 H2->uV H2 cv2 (rr++rs)->Q .non (aN H2 x (.ins cL dx (jX cv2 kd tl sp))):=fun pr rr hpr hrr er hq H2 cv2 s2 hc2=>by
   have h2:=h1.same s2;obtain⟨h3,o3⟩:=xU h2 (s2 _ _ (s1 _ _ hX)) hc2 (bO.app (bO.ts (.of s2) _ hrr) h2.rw);obtain⟨g3,n3,l3⟩:=xH gk.g er;refine k _ _ _ h3 ⟨g3,fun q hq'=>gk.k q ?_⟩ n3 l3 ((cV.of (s1.trans s2)).trans o3);have hq':q∈dB (rr++rs):=hq';rw[iY] at hq';show q∈(dB a++dB b)++dB rs;rcases br.mp hq' with z|z
   ·exact dw _ (hq q z)
   ·exact cg _ z
  by_cases c:t.val e=0
  ·refine bJ (by rw[c];decide) ?_;refine⟨_,rfl,p,_,_,.ref pb,rfl,rfl,aT.of (s1 _ _ hp),rfl,?_⟩;refine⟨_,rfl,_,rfl,x,cL,dx,_,_,rfl,s1 _ _ hX,T.cl,T.n1,at4.1,pb,cv,b,rs,rfl,s1 _ _ hb,hc.ts (.of s1),fun H2 cv2 s2 hc2=>?_⟩;refine⟨_,rfl,x,cL,dx,_,rfl,s2 _ _ (s1 _ _ hX),T.cl,T.n1,by show 4<1000;decide,?_⟩;rw[qP];exact fin pb b (s1 _ _ hb) (bO.ts (.of s1) _ rb) (by rw[ao c]) (fun q hq=>cg _ hq) H2 cv2 s2 hc2
  ·refine bW (by simpa using c) ?_;refine⟨_,rfl,p,_,_,.ref pa,rfl,rfl,aT.of (s1 _ _ hp),rfl,?_⟩;refine⟨_,rfl,_,rfl,x,cL,dx,_,_,rfl,s1 _ _ hX,T.cl,T.n1,at4.1,pa,cv,a,rs,rfl,s1 _ _ ha,hc.ts (.of s1),fun H2 cv2 s2 hc2=>?_⟩;refine⟨_,rfl,x,cL,dx,_,rfl,s2 _ _ (s1 _ _ hX),T.cl,T.n1,by show 4<1000;decide,?_⟩;rw[qP];exact fin pa a (s1 _ _ ha) (bO.ts (.of s1) _ ra) (by rw[ai c]) (fun q hq=>dw _ hq) H2 cv2 s2 hc2
 |times p pb n b =>
  obtain⟨hp,hb,rb⟩:=id hw;refine⟨_,rfl,p,_,_,.str "times",rfl,rfl,aT.of hp,rfl,rfl,_,rfl,bJ (by decide) ?_⟩;refine⟨_,rfl,p,_,_,.str "times",rfl,rfl,aT.of hp,rfl,rfl,_,rfl,bJ (by decide) ?_⟩;refine⟨_,rfl,p,_,_,.str "times",rfl,rfl,aT.of hp,rfl,rfl,_,rfl,bJ (by decide) ?_⟩;have n100:=kn.1.1.2;refine⟨_,rfl,p,_,_,.int n,rfl,rfl,aT.of hp,rfl,n,rfl,by lia,by lia,?_⟩;refine gZ (n:=n) (fun i σ G=>∃(v3:Option V),σ=[some (.ref x),some (.ref p),none,v3]/\kO cL NM G x kd tl ks ⟨kH i b++rs,e,td,sh⟩/\cV [x,kd,tl] H G/\TS H G) ⟨_,rfl,h,.refl _,fun _ _ z=>z⟩ ?_ ?_
  ·rintro D' i σ G hi ⟨v3,rfl,hg,og,tg⟩;obtain⟨dx,cv,sp,hX,hc,hs⟩:=hg.ex;have at4:=nV cv kd tl sp;refine⟨_,rfl,p,_,_,.ref pb,rfl,rfl,aT.of (tg _ _ hp),rfl,_,rfl,x,cL,dx,_,_,rfl,hX,T.cl,T.n1,at4.1,pb,cv,b,_,rfl,tg _ _ hb,hc,fun H2 cv2 s2 hc2=>?_⟩;refine⟨_,rfl,x,cL,dx,_,rfl,s2 _ _ hX,T.cl,T.n1,by show 4<1000;decide,?_⟩;rw[qP];have h2:=hg.same s2;have t2:=tg.trans (.of s2);obtain⟨h3,o3⟩:=xU h2 (s2 _ _ hX) hc2 (bO.app (bO.ts t2 _ rb) h2.rw);rw[<-iu] at h3;exact⟨_,rfl,h3,og.trans ((cV.of s2).trans o3),t2.trans (wH (s2 _ _ hX) (by intro xs z;cases z))⟩
  ·rintro σ G ⟨v3,rfl,hg,og,tg⟩;obtain⟨g3,n3,l3⟩:=rV gk.g;refine k _ _ _ hg ⟨g3,fun q hq=>gk.k q ?_⟩ n3 l3 og;have hq:q∈dB (kH n b++rs):=hq;rw[iY] at hq;show q∈dB b++dB rs;rcases br.mp hq with z|z
   ·exact dw _ (wA z)
   ·exact cg _ z
def bY2{cL:Addr}(T:RnT K cL){cT:Addr}(m_THROWS:mg "THROWS"=some (.ref cT))(hT:∀H,aT K H cT (bC6.map V.str))(C_Take:Cl P w K mg base 3 (bE2 cL) "take_row"):eV P w K mg base "next_throw" "next_throw" cR6 4 ["run"] (bI2 cL):=by
 refine fL ["run","row"] fun H Q nd hr h=>?_
 obtain⟨x,kd,tl,NM,KS,cs,M,ks,rn,rfl,h,hN,gk,k0,k⟩:=h;refine⟨_,(aF (fR ij (aM2 (bO5 (eY (pv 0) rfl)))
  (cZ 1 nd (bQ aG (eY (pv 0) rfl) aB)
  (aF (mK (pv 0) (bQ aG (eY (pv 0) rfl) aB) rfl)
  (aF (bM (eO fU (bQ aG (pv 1) aB) (pgl m_THROWS)) (aE (aK (pv 1))) aX)
  (aE (cO (bP C_Take hr (aA (pv 0) (aQ (pv 1))))))))))
  (aE (aK bJ7))),?_⟩
 refine⟨fun m σ G=>∃(ks':List Str) (rn':Rn) (v1:Option V),σ=[some (.ref x),v1]/\kO cL NM G x kd tl ks' rn'/\GdK NM KS cs M ks' rn'/\Nx cs rn rn'/\cV [x,kd,tl] H G/\m=aP rn'.rs,
  ⟨_,ks,rn,_,rfl,h,gk,.rfl',.refl _,rfl⟩,?_⟩
 rintro m σ G ⟨ks',⟨rs,e,td,sh⟩,v1,rfl,hg,gg,ng,og,rfl⟩;obtain⟨dx,cv,sp,hX,hc,hs⟩:=hg.ex;have at4:=nV cv kd tl sp;refine⟨_,rfl,x,cL,dx,_,_,rfl,hX,T.cl,T.n1,at4.1,_,rfl,?_⟩
 cases rs with
 |nil =>
  obtain rfl:cv= .non:=hc;refine bJ (by decide) ?_;exact k0 _ _ _ hg rfl gg ng og
 |cons r rs =>
  obtain⟨c,v',rfl,h1,h2⟩:=hc;refine bW rfl ?_;refine⟨fun σ' G'=>∃(ks':List Str) (rn':Rn) (v1:Option V),σ'=[some (.ref x),v1]/\kO cL NM G' x kd tl ks' rn'/\GdK NM KS cs M ks' rn'/\Nx cs rn rn'/\cV [x,kd,tl] H G'/\aP rn'.rs<aP (r::rs),
   (by rintro σ' G' ⟨ks2,rn2,v2,e1,e2,e3,e4,e5,e6⟩;exact ⟨_,e6,ks2,rn2,v2,e1,e2,e3,e4,e5,rfl⟩),?_⟩
  refine⟨_,rfl,x,cL,dx,_,_,rfl,hX,T.cl,T.n1,at4.1,c,_,_,.ref r.p,rfl,rfl,aT.of h1,rfl,?_⟩;refine⟨_,rfl,x,cL,dx,_,_,rfl,hX,T.cl,T.n1,at4.1,c,_,_,v',rfl,rfl,aT.of h1,rfl,_,rfl,x,cL,dx,_,rfl,hX,T.cl,T.n1,by show 4<1000;decide,?_⟩;rw[qP];have tu:=wH (o':= .ins cL dx (jX v' kd tl sp)) hX (by intro xs z;cases z);obtain⟨h3,o3⟩:=xU hg hX h2 hg.rw.2;have hw:=vN.ts tu _ hg.rw.1;replace og:=og.trans o3;generalize aN G x (.ins cL dx (jX v' kd tl sp))=G1 at h3 og hw ⊢
  cases r with
  |thr p y T a3 wss =>
   obtain⟨us,hp⟩:=hw.1.at;refine⟨_,rfl,p,_,_,.str T.wd,rfl,rfl,aT.of hp,at0 _ _,cT,_,rfl,.inr (hT _),rfl,dO _,_,rfl,sS (cF6 T) ?_⟩;exact⟨_,rfl,k _ _ _ p y T a3 wss h3 hw gg ng og⟩
  |lt p y t =>
   refine⟨_,rfl,p,_,_,.str "let",rfl,rfl,aT.of hw.1,at0 _ _,cT,_,rfl,.inr (hT _),rfl,dO _,_,rfl,jF (by decide) ?_⟩;exact⟨_,rfl,_,rfl,x,kd,tl,NM,KS,cs,M,ks',_,rs,e,td,sh,rfl,h3,hw,id,hN,gg,fun H2 ks2 rn2 h4 g4 n4 l4 o4=>⟨ks2,rn2,_,rfl,h4,g4,ng.tr n4,og.trans o4,l4⟩⟩
  |tell p t =>
   refine⟨_,rfl,p,_,_,.str "tell",rfl,rfl,aT.of hw.1,at0 _ _,cT,_,rfl,.inr (hT _),rfl,dO _,_,rfl,jF (by decide) ?_⟩;exact⟨_,rfl,_,rfl,x,kd,tl,NM,KS,cs,M,ks',_,rs,e,td,sh,rfl,h3,hw,id,hN,gg,fun H2 ks2 rn2 h4 g4 n4 l4 o4=>⟨ks2,rn2,_,rfl,h4,g4,ng.tr n4,og.trans o4,l4⟩⟩
  |when p pa pb t a b =>
   refine⟨_,rfl,p,_,_,.str "when",rfl,rfl,aT.of hw.1,at0 _ _,cT,_,rfl,.inr (hT _),rfl,dO _,_,rfl,jF (by decide) ?_⟩;exact⟨_,rfl,_,rfl,x,kd,tl,NM,KS,cs,M,ks',_,rs,e,td,sh,rfl,h3,hw,id,hN,gg,fun H2 ks2 rn2 h4 g4 n4 l4 o4=>⟨ks2,rn2,_,rfl,h4,g4,ng.tr n4,og.trans o4,l4⟩⟩
  |times p pb n b =>
   refine⟨_,rfl,p,_,_,.str "times",rfl,rfl,aT.of hw.1,at0 _ _,cT,_,rfl,.inr (hT _),rfl,dO _,_,rfl,jF (by decide) ?_⟩;exact⟨_,rfl,_,rfl,x,kd,tl,NM,KS,cs,M,ks',_,rs,e,td,sh,rfl,h3,hw,id,hN,gg,fun H2 ks2 rn2 h4 g4 n4 l4 o4=>⟨ks2,rn2,_,rfl,h4,g4,ng.tr n4,og.trans o4,l4⟩⟩
def cA3  : eV P w K mg base "common_divisor" "common_divisor" cM3 1 ["one","other"] spGcd:=by
 refine fL ["one","other","remainder"] fun H Q nd hr h=>?_
 obtain⟨a,b,rfl,ha,hb,k⟩:=h;refine⟨_,(aF (fR ij (eO bK7 (pv 1) aB)
  (cZ 2 nd (aI eW (pv 0) (pv 1))
  (cZ 0 nd (pv 1)
  (aE (psz 1 nd (pv 2))))))
  (aE (aK (pv 0)))),?_⟩
 refine⟨fun j σ H1=>H1=H/\∃(x y:Int) (r:Option V),σ=[some (.int x),some (.int y),r]/\0<=x/\0<=y/\gI x y=gI a b/\j=y.toNat,⟨_,rfl,a,b,none,rfl,ha,hb,rfl,rfl⟩,?_⟩;rintro j σ H1 ⟨rfl,x,y,r,rfl,hx,hy,hg,rfl⟩;refine⟨_,rfl,rfl,_,rfl,?_⟩
 by_cases y0:y=0
 ·subst y0;refine cR0 rfl ⟨_,rfl,?_⟩;rw[<-hg,aN5 hx] at k;exact k
 ·have yp:0<y:=by lia
  have e:(!decide (V.int y=V.int 0))=true:=by simp[y0]
  rw[e];refine⟨fun σ' H'=>H'=H1/\∃r',σ'=[some (.int y),some (.int (x % y)),r'],fun σ' H' ⟨e1,r',e2⟩=>⟨(x % y).toNat,?_,e1,y,x % y,r',e2,hy,gq _ y0,(aC0 hx yp).trans hg,rfl⟩,?_⟩
  ·have:=gu x yp;have:=gq x y0;lia
  ·exact⟨_,rfl,_,rfl,_,_,rfl,rfl,yp,_,rfl,_,rfl,rfl,_,rfl⟩
def cA7(C_Gcd:Cl P w K mg base 1 spGcd "common_divisor"):eV P w K mg base "lowest" "lowest" cN6 2 ["top","bottom"] spLowY:=by
 refine fL ["top","bottom","divisor"] fun H Q nd hr h=>?_
 obtain⟨a,b,rfl,ha,hb,hz,k⟩:=h;refine⟨_,(cZ 2 nd (bP C_Gcd hr (aA (pv 0) (aQ (pv 1))))
  (aE (aK (aS (aA (aI fM (pv 0) (pv 2)) (aQ (aI fM (pv 1) (pv 2)))))))),?_⟩
 have g0:0<gI a b:=xP hb;obtain⟨n,hn,hn2⟩:=hz;have g1:∃n,cA n (gI a b)/\n<=8990:=⟨n,xR hn (by lia) (bT9 hb),hn2⟩
 refine⟨_,rfl,_,rfl,a,b,rfl,ha,by lia,?_⟩;refine⟨_,rfl,_,rfl,_,_,rfl,rfl,⟨g0,g1⟩,_,rfl,_,rfl,_,_,rfl,rfl,⟨g0,g1⟩,cS,fun p hp=>k p hp⟩
def cF1(C_Low:Cl P w K mg base 2 spLowY "lowest"):eV P w K mg base "added" "added" cN4 3 ["one","other"] spAddX:=by
 refine fL ["one","other"] fun H Q nd hr h=>?_
 obtain⟨p,q,⟨a,b⟩,⟨c,d⟩,m,n,rfl,hp,hq,⟨a0,b1,ab,bb⟩,⟨c0,d1,cb,db⟩,hm,hn,k⟩:=h;refine⟨_,(aE (aK (bP C_Low hr (aA (aI bE (aI dZ (bQ aG (pv 0) aB) (bQ aG (pv 1) aB)) (aI dZ (bQ aG (pv 1) aB) (bQ aG (pv 0) aB))) (aQ (aI dZ (bQ aG (pv 0) aB) (bQ aG (pv 1) aB))))))),?_⟩;replace a0:0<=a:=a0;replace b1:1<=b:=b1;replace c0:0<=c:=c0;replace d1:1<=d:=d1;have q1:0<=a*d+c*b:=yj (cj a0 (by lia)) (cj c0 (by lia));have q2:1<=b*d:=dk (by lia) (by lia);refine⟨_,rfl,p,_,_,_,rfl,rfl,aT.of hp,zR a b,_,rfl,q,_,_,_,rfl,rfl,aT.of hq,qR c d,_,_,rfl,rfl,⟨m,n,ab,db,by lia,by lia⟩,?_⟩;refine⟨_,rfl,q,_,_,_,rfl,rfl,aT.of hq,zR c d,_,rfl,p,_,_,_,rfl,rfl,aT.of hp,qR a b,_,_,rfl,rfl,⟨n,m,cb,bb,by lia,by lia⟩,_,_,rfl,rfl,?_⟩;refine⟨_,rfl,p,_,_,_,rfl,rfl,aT.of hp,qR a b,_,rfl,q,_,_,_,rfl,rfl,aT.of hq,qR c d,_,_,rfl,rfl,⟨m,n,bb,db,by lia,by lia⟩,?_⟩
 exact⟨_,_,rfl,q1,q2,⟨m+n,bb.mul db,by lia⟩,k⟩
def bK1(C_Low:Cl P w K mg base 2 spLowY "lowest"):eV P w K mg base "times" "times" bE6 3 ["one","other"] spTimesX:=by
 refine fL ["one","other"] fun H Q nd hr h=>?_
 obtain⟨p,q,⟨a,b⟩,⟨c,d⟩,rfl,hp,hq,⟨a0,b1,ab,bb⟩,⟨c0,d1,cb,db⟩,k⟩:=h;refine⟨_,(aE (aK (bP C_Low hr (aA (aI dZ (bQ aG (pv 0) aB) (bQ aG (pv 1) aB)) (aQ (aI dZ (bQ aG (pv 0) aB) (bQ aG (pv 1) aB))))))),?_⟩;replace a0:0<=a:=a0;replace b1:1<=b:=b1;replace c0:0<=c:=c0;replace d1:1<=d:=d1;have q2:1<=b*d:=dk (by lia) (by lia);refine⟨_,rfl,p,_,_,_,rfl,rfl,aT.of hp,zR a b,_,rfl,q,_,_,_,rfl,rfl,aT.of hq,zR c d,_,_,rfl,rfl,⟨900,900,ab,cb,by decide,by decide⟩,?_⟩;refine⟨_,rfl,p,_,_,_,rfl,rfl,aT.of hp,qR a b,_,rfl,q,_,_,_,rfl,rfl,aT.of hq,qR c d,_,_,rfl,rfl,⟨900,900,bb,db,by decide,by decide⟩,?_⟩;exact⟨_,_,rfl,cj a0 c0,q2,⟨900+900,bb.mul db,by decide⟩,k⟩
def bT0(C_Add:Cl P w K mg base 3 spAddX "added")(m_sorted:mg "sorted"=none)(m_tuple:mg "tuple"=none):eV P w K mg base "merged" "merged" bV4 4 ["pairs"] spMrg:=by
 refine fL ["pairs","totals","pair","answers"] fun H Q nd hr h=>?_
 obtain⟨b,l,us,es,rfl,hl,tw,h60,fx,k⟩:=h;have hu:=gN hr;have hr1:dE 1 _:=hr.mono (by decide);have hr3:dE 3 _:=hr.mono (by decide);refine⟨_,(cZ 1 nd aF3
  (aF (xN (iT (pv 0)) (gX 2 nd)
  (aE (pdp hu (pv 1) (bQ aG (pv 2) aB) (bP C_Add hr (aA (aA6 hu (pv 1) (bQ aG (pv 2) aB) (aS (aA aB (aQ aB))) ⟨rfl,rfl,rfl,rfl⟩) (aQ (bQ aG (pv 2) aB)))))))
  (cZ 3 nd (pB (aM3 hr1) m_sorted wq (aQ (fE ["answer","totals"] [none,some 1] (bD1 (pv 1)) (fun _ _ _ _=>(gX 0)) (fun _ _ _ _=>(bI6 (eO (cY0 K hr1) (qH hu (pv 1) (pv 0)) (aS (aA aB (aQ aB)))))) (fun _ _ _ _=>(pv 0)))))
  (aE (aK (uX bU m_tuple dj (aQ (fE ["answer","totals"] [none,some 1] (iT (pv 3)) (fun _ _ _ _=>(gX 0)) (fun _ _ _ _=>fZ) (fun _ _ _ _=>(aS (aA (pv 0) (aQ (qH hu (pv 1) (pv 0)))))))))))))),?_⟩
 have ul:=tw.length;refine cM0 b fun d u hd Dh=>?_
 refine⟨_,rfl,l,rfl,⟨_,bR.of (aC hd _ _ _ hl)⟩,sQ (K:=K) (a:=l) (xs:=us) (fun i σ H1=>∃ks u v2,σ=[some (.ref l),some (.ref d),v2,none]/\aR H H1/\H1 d=some u/\uN b H1 u ks ((es.take i).foldl dS fun _=>none)/\ks.length<=i)
  ⟨[],u,_,rfl,aC hd _,aD,Dh,af _⟩ (by rintro i σ H1 _ ⟨_,_,_,_,e,_⟩;exact bR.of (e _ _ hl)) ?_ ?_⟩
 ·rintro i v σ H1 hv ⟨ks,u,v2,rfl,s1,hd1,dh,hkl⟩;obtain⟨e,he,p,x,q,rfl,hp,hx,hq⟩:=tw.at hv;have hi:i<es.length:=(bz.mp he).1;have fe:=fx.1 e (bj he);have bx:=fx.2 i;rw[jT he,nS];generalize (es.take i).foldl dS (fun _=>none)=T at dh bx ⊢;refine⟨_,rfl,d,rfl,dh.isD (.inl hd1),_,rfl,p,_,_,x,rfl,rfl,aT.of (s1 _ _ hp),rfl,?_⟩;refine⟨cS,fun t0 ht0=>?_⟩;have s2:=s1.trans (aC ht0 (.tup [.int 0,.int 1]));have hd2:=aC ht0 (.tup [.int 0,.int 1]) _ _ hd1;have dh2:=dh.ts (.of (aC ht0 (.tup [.int 0,.int 1])));have h01:aY (aN H1 t0 (.tup [.int 0,.int 1])) t0 0 1:=aD;generalize aN H1 t0 (.tup [.int 0,.int 1])=H2 at s2 hd2 dh2 h01 ⊢;obtain⟨o,dg,og⟩:=dh2.get (.inl hd2) (hx.ts (.of s2));obtain⟨g,hg,tg⟩:=wX og h01;have fg:rD 900 ((T e.1).getD (0,1)):=by
   cases c:T e.1 with
   |none=>exact bX1.mono (by decide)
   |some f=>exact bx _ _ c
  refine⟨o,dg,_,rfl,p,_,_,.ref q,rfl,rfl,aT.of (s2 _ _ hp),rfl,?_⟩;refine⟨g,q,_,e.2,900,900,by rw[hg];rfl,tg,s2 _ _ hq,fg,fe,by decide,by decide,fun r hr'=>?_⟩;have hr3:aY (aN H2 r (.tup [.int (cY ((T e.1).getD (0,1)) e.2).1,.int (cY ((T e.1).getD (0,1)) e.2).2])) r (cY ((T e.1).getD (0,1)) e.2).1 (cY ((T e.1).getD (0,1)) e.2).2:=aD;have s3':=aC hr' (.tup [.int (cY ((T e.1).getD (0,1)) e.2).1,.int (cY ((T e.1).getD (0,1)) e.2).2]);generalize aN H2 r (.tup [.int (cY ((T e.1).getD (0,1)) e.2).1,.int (cY ((T e.1).getD (0,1)) e.2).2])=H3 at s3' hr3 ⊢;have s3:=s2.trans s3';obtain⟨u',dp,dh4⟩:=(dh2.ts (.of s3')).put (s3' _ _ hd2) hr3 (aL (by lia)) (hx.ts (.of s3));refine⟨_,rfl,_,rfl,p,_,_,x,rfl,rfl,aT.of (s3 _ _ hp),rfl,d,_,rfl,dp,?_⟩;refine⟨uR ks e.1,u',_,rfl,tE s3 hd,aD,dh4,ay (aA3 _ _) (by lia)⟩
 ·rintro σ H1 ⟨ks,u,v2,rfl,s1,hd1,dh,hkl⟩;rw[ul,eh] at dh;have eT:es.foldl dS (fun _=>none)=gS es:=rfl;rw[eT] at dh;have tm:∀a f,gS es a=some f->gdA b a:=fun a f h=>by
   obtain⟨e,he,rfl⟩:=aR7 h;obtain⟨v,p,x,q,_,_,hx,_⟩:=aF1 tw he;exact bF0 hx
  generalize gS es=T at dh k tm;clear eT;refine cT0 hd1 (fun F hF=>⟨_,rfl,hF⟩) dh fun o J hJ=>?_
  have s2:aR H (aN H1 d (.frz o u)):=tE s1 hd;have hd2:aN H1 d (.frz o u) d=some (.frz o u):=aD;have dh2:=dh.ts (xL (u':= .frz o u) hd1 dh.not_tup);generalize aN H1 d (.frz o u)=H2 at s2 hd2 dh2 ⊢;refine bY4 (o:=o) (u:=u) (fun i zs σ H3=>aR H2 H3/\(∃v,σ=[v,some (.ref d)])/\dH (xG b H3) zs ((ks.take i).filter (lZ T))) (aL (by lia)) ⟨aR.refl _,⟨_,rfl⟩,trivial⟩
   (fun i zs σ H3 ⟨_,_,e⟩=>by
    rw[e.length];exact ay (qw _ _) (by rw[ef];lia)) (by rintro i zs σ H3 _ ⟨e,_⟩;exact e _ _ hd2) hJ dh.gd ?_ ?_
  ·rintro i a x zs σ H3 ha ax ⟨s3,⟨v',rfl⟩,tw3⟩;obtain⟨f,hf⟩:=(dh.mem a (bF0 ax)).mp (bj ha);obtain⟨o',dg,og⟩:=(dh2.ts (.of s3)).get (.inr ⟨o,s3 _ _ hd2⟩) ax;rw[hf] at og;obtain⟨q,rfl,hq⟩:=pP og;refine⟨_,rfl,_,rfl,d,.ref q,rfl,dg,?_⟩;refine⟨cS,fun t0 ht0=>?_⟩;have s4:=aC ht0 (.tup [.int 0,.int 1]);refine⟨pS f.1 f.2,pS 0 1,sI (s4 _ _ hq),sI aD,rfl,rfl,rfl,_,rfl,?_⟩;rw[cX ha,um];have tw4:=tw3.mono fun _ _ z=>xG.ts (.of s4) z
   unfold pS;rw[aU6]
   by_cases c:f=(0,1)
   ·refine bJ (by simp[c]) ⟨s3.trans s4,⟨_,rfl⟩,?_⟩;have e:lZ T a=false:=by unfold lZ;rw[hf,c];rfl
    rw[show [a].filter (lZ T)=[] by simp[e],jk];exact tw4
   ·refine bW (by simp[c]) ⟨_,rfl,s3.trans s4,⟨_,rfl⟩,?_⟩;have e:lZ T a=true:=by unfold lZ;rw[hf];simp[c]
    rw[show [a].filter (lZ T)=[a] by simp[e]];exact dH.append tw4 ⟨ax.ts (.of s4),trivial⟩
  ·rintro zs σ H3 ⟨s3,_,tw3⟩ l3 hl3;rw[eh] at tw3;have s4:=s3.trans (aC hl3 (.lst zs));have h3:aN H3 l3 (.lst zs) l3=some (.lst zs):=aD;replace tw3:=tw3.mono fun _ _ z=>xG.ts (.of (aC hl3 (.lst zs))) z
   generalize aN H3 l3 (.lst zs)=H4 at s4 h3 tw3 ⊢;have lz:=tw3.length;have lf:=qw (lZ T) ks;refine cE0 ?_;refine cN9 h3 (dh.nodup.sublist oa) (by lia) tw3 fun zs' as l4 pm up hl4 tw5=>?_
   have s5:=s4.trans (aC hl4 (.lst zs'));have h5:aN H4 l4 (.lst zs') l4=some (.lst zs'):=aD;generalize aN H4 l4 (.lst zs')=H5 at s5 h5 tw5 ⊢;have al:as.length<=60:=by rw[pm.length_eq];lia
   have lz':=tw5.length;refine⟨_,rfl,l4,rfl,⟨_,bR.of h5⟩,pG (K:=K) (a:=l4) (xs:=zs') (fun i ys σ H6=>aR H5 H6/\(∃v,σ=[v,some (.ref d)])/\dH (qU b H6) ys (iE T (as.take i)))
    (aL (by lia)) ⟨aR.refl _,⟨_,rfl⟩,trivial⟩ (fun i zs σ H5 ⟨_,_,e⟩=>by
     rw[e.length];unfold iE;rw[ac,ef];lia) (by rintro i zs σ H5 _ ⟨e,_⟩;exact bR.of (e _ _ h5)) ?_ ?_⟩
   ·rintro i y ys σ H6 hy ⟨s6,⟨v,rfl⟩,tw6⟩;obtain⟨a,ha,ax⟩:=tw5.at hy;have ma:=dr.mp (pm.mem_iff.mp (bj ha));obtain⟨f,hf⟩:=(dh.mem a (bF0 ax)).mp ma.1;have g6:=s5.trans s6;obtain⟨o',dg,og⟩:=(dh2.ts (.of g6)).get (.inr ⟨o,g6 _ _ hd2⟩) (ax.ts (.of s6));rw[hf] at og;obtain⟨q,rfl,hq⟩:=pP og;refine⟨_,rfl,_,rfl,_,rfl,d,.ref q,rfl,dg,?_⟩;refine⟨cS,fun t ht=>⟨s6.trans (aC ht _),⟨_,rfl⟩,?_⟩⟩;have s7:=aC ht (.tup [y,.ref q]);rw[cX ha];unfold iE at tw6 ⊢;rw[aq];refine dH.append (tw6.mono fun _ _ z=>qU.ts (.of s7) z) ⟨⟨t,y,q,rfl,aD,ax.ts (.of (s6.trans s7)),?_⟩,trivial⟩
    dsimp only
    rw[hf];exact s7 _ _ hq
   ·rintro ys σ H6 ⟨s6,_,tw6⟩ l6 hl6;rw[lz',eh] at tw6;refine⟨l6,_,rfl,.inl ⟨bR.of aD,fun u6 hu'=>?_⟩⟩;have s7:=(aC hl6 (.lst ys)).trans (aC hu' (.tup ys));refine k _ u6 as (s2.trans (s5.trans (s6.trans s7))) ⟨ys,aD,tw6.mono fun _ _ z=>qU.ts (.of s7) z⟩ up fun a=>?_
    rw[pm.mem_iff,dr]
    constructor
    ·rintro⟨h1,h2⟩;obtain⟨f,hf⟩:=(dh.mem a (dh.gd a h1)).mp h1;refine⟨f,hf,fun z=>?_⟩;unfold lZ at h2;rw[hf,z] at h2;simp at h2
    ·rintro⟨f,hf,hne⟩;refine⟨(dh.mem a (tm a f hf)).mpr ⟨f,hf⟩,?_⟩;unfold lZ;rw[hf];simp[hne]
def bS5{cL:Addr}(T:RnT K cL)(MK:MkL P w K mg base 1 (aN3 K cL) cL "Run")(C_Times:Cl P w K mg base 3 spTimesX "times")(m_dict:mg "dict"=none)(m_list:mg "list"=none):eV P w K mg base "parted" "parted" bU6 4 ["run","name","table"] (bV7 cL):=by
 refine fL ["run","name","table","runs","value","share","known"] fun H Q nd hr h=>?_
 obtain⟨x,kd,tl,NM,ks,rn,y,t,us,tb,rfl,h,hy,hN,ht,tw,l10,td4,fs,fz,k⟩:=h;have hu:=gN hr;refine⟨_,(cZ 3 nd (cM eL)
  (aF (xN (mU (pv 2)) (kC rfl (bY (gX 4 nd) (bY (gX 5 nd) gB)))
  (cZ 6 nd (uX mJ m_dict qi (aQ (eY (pv 0) rfl)))
  (aF (pdp hu (pv 6) (pv 1) (pv 4))
  (aE (cO (eZ bh cz de cJ (pv 3) (aQ (pml MK hr (aA (eY (pv 0) rfl) (aA (pv 6) (aA (uX jZ m_list qj (aQ (eY (pv 0) rfl))) (aQ (bP C_Times hr (aA (eY (pv 0) rfl) (aQ (pv 5))))))))))))))))
  (aE (aK (pv 3))))),?_⟩
 obtain⟨dx0,cv,sp,hX,hc,hs⟩:=h.ex;have at4:=nV cv kd tl sp;refine⟨bi _,fun ll hll=>?_⟩;obtain⟨H1,e0,s1,g1⟩:=lay hll (.lst []);rw[e0];clear e0;refine⟨_,rfl,t,rfl,⟨_,aT.of (s1 _ _ ht)⟩,aB7 (K:=K) (a:=t) (xs:=us) (fun i σ G=>∃(hs:List Hn) (v4 v5 v6:Option V),σ=[some (.ref x),some (.str y),some (.ref t),some (.ref ll),v4,v5,v6]/\aR H G/\G ll=some (.lst (cR hs))/\fI cL NM G hs ((tb.take i).map (aT2 rn y))/\Frs H hs/\∀h∈hs,h.2.2.2=dP ks y/\h.2.2.1≠ll)
  ⟨[],_,_,_,rfl,s1,g1,trivial,⟨.nil,.nil,.nil,fun _ z=>absurd z di⟩,fun _ z=>absurd z di⟩ (by rintro i σ G _ ⟨_,_,_,_,_,s,_⟩;exact aT.of (s _ _ ht)) ?_ ?_⟩
 ·rintro D' i v σ G hv ⟨hs',v4,v5,v6,rfl,s2,gl,twk,fr,hk⟩;obtain⟨z,hz,p,q,rfl,hp,hq⟩:=tw.at hv;refine⟨p,_,rfl,aT.of (s2 _ _ hp),rfl,_,_,rfl,_,_,rfl,rfl,?_⟩;have h2:=h.same s2;have hX2:=s2 _ _ hX;refine⟨_,rfl,x,cL,dx0,_,_,rfl,hX2,T.cl,T.n2,at4.2.1,kd,_,rfl,h2.kn,fun d2 hd2=>?_⟩;refine⟨_,rfl,_,rfl,_,rfl,d2,_,rfl,lT.k (k:=Sum.inr y) aD (sM h.nd h.sb hN),?_⟩;rw[rH,oK];have s3:=aC hd2 (.dK (dU (dP ks y) (cF rn.e y z.1)));have gd:aN G d2 (.dK (dU (dP ks y) (cF rn.e y z.1))) d2=_:=aD;have f2:=s2.free hd2;generalize aN G d2 (.dK (dU (dP ks y) (cF rn.e y z.1)))=G3 at s3 gd ⊢;have hX3:=s3 _ _ hX2;have s23:=s2.trans s3;refine⟨_,rfl,.inl ⟨rfl,_,bR.of (s3 _ _ gl)⟩,_,rfl,x,cL,dx0,_,_,rfl,hX3,T.cl,T.n1,at4.1,_,rfl,_,rfl,x,cL,dx0,_,_,rfl,hX3,T.cl,T.n3,at4.2.2.1,tl,_,rfl,.inl (bR.of (s23 _ _ h.tl)),fun l3 hl3=>?_⟩;have s4:=aC hl3 (.lst (rn.td.map V.int));have gt:aN G3 l3 (.lst (rn.td.map V.int)) l3=_:=aD
  have f3:=s23.free hl3;generalize aN G3 l3 (.lst (rn.td.map V.int))=G4 at s4 gt ⊢;have s24:=s23.trans s4;refine⟨_,rfl,x,cL,dx0,_,_,rfl,s24 _ _ hX,T.cl,T.n4,at4.2.2.2,_,rfl,sp,q,rn.sh,z.2,rfl,s24 _ _ hs,s24 _ _ hq,fs,fz z (bj hz),fun sp' hsp=>?_⟩;have s5:=aC hsp (.tup (iG (rn.sh.1*z.2.1) (rn.sh.2*z.2.2)));have gs:aY (aN G4 sp' (.tup (iG (rn.sh.1*z.2.1) (rn.sh.2*z.2.2)))) sp' (uO rn.sh z.2).1 (uO rn.sh z.2).2:=aD;generalize aN G4 sp' (.tup (iG (rn.sh.1*z.2.1) (rn.sh.2*z.2.2)))=G5 at s5 gs ⊢;have s25:=s24.trans s5;refine fun X dX nX ndX neX=>⟨X,dX,d2,l3,sp',cv,rfl,aD,fun G6 o6 hX6=>⟨rfl,?_⟩⟩
  have s6:aR G5 G6:=fun b o hb=>by
   have n1:b≠X:=fun z=>by rw[z,nX] at hb;cases hb
   have n2:b≠dX:=fun z=>by rw[z,ndX] at hb;cases hb
   rw[o6 b n1,aH n1,aH n2];exact hb
  have s26:=s25.trans s6;have s36:aR G G6:=s3.trans (s4.trans (s5.trans s6));have fX:H X=none:=s25.free nX;have gl6:=s36 _ _ gl;have hl:hs'.length<=10:=by rw[twk.length,ac,ef];lia
  refine⟨ll,_,_,rfl,rfl,gl6,by unfold cR;rw[ac];exact aL (by lia),?_⟩;have nl3:l3≠ll:=(aM (s3 _ _ gl) hl3).symm;have h6:kO cL NM G6 X d2 l3 (dP ks y) (aT2 rn y z):=⟨⟨dX,cv,sp',hX6,hc.ts (.of s26),s6 _ _ gs⟩,(s4.trans (s5.trans s6)) _ _ gd,qZ h.nd,fun w hw=>(az.mp (iQ w hw)).elim (fun e=>by rw[e];exact hy) (h.sb w),(s5.trans s6) _ _ gt,bO.ts (.of s26) _ h.rw⟩
  have nin:∀a,G a=none->a∉hs'.map (·.1)/\a∉hs'.map (·.2.1)/\a∉hs'.map (·.2.2.1):=twk.not_in;have dX1:=nin X (s3.free ((s4.trans s5).free nX));have dk1:=nin d2 hd2;have dl1:=nin l3 (s3.free hl3);have s7:aR H (aN G6 ll (.lst (cR hs'++[.ref X]))):=dN s26 hll;have n7:∀a,a≠ll->aN G6 ll (.lst (cR hs'++[.ref X])) a=G6 a:=fun a n=>aH n
  refine⟨hs'++[(X,d2,l3,dP ks y)],_,_,_,rfl,s7,by rw[aD];unfold cR;rw[aq];rfl,?_,?_,?_⟩
  ·rw[cX hz,aq];have tu:TS G6 (aN G6 ll (.lst (cR hs'++[.ref X]))):=TS.lst gl6;refine fI.app ((twk.same s36).mono fun g hg r hr=>?_) ⟨?_,trivial⟩
   ·obtain⟨dx',cv',sp'',q1,_⟩:=hr.ex;exact kO.ts hr tu (n7 _ (gE q1 gl6 (by intro z;cases z))) (n7 _ (gE hr.kn gl6 (by intro z;cases z))) (n7 _ (hk g hg).2)
   ·exact kO.ts h6 tu (n7 _ (gE hX6 gl6 (by intro z;cases z))) (n7 _ (gE h6.kn gl6 (by intro z;cases z))) (n7 _ nl3)
  ·have app:∀{f:Hn->Addr}{g:Hn},(hs'.map f).Nodup->f g∉hs'.map f->((hs'++[g]).map f).Nodup:=fun n h=>by
    rw[aq];refine iw.mpr ⟨n,by simp,fun a ha b hb e=>h ?_⟩;rw[aAn] at hb;rw[<-av.mp hb, <-e];exact ha
   refine⟨app fr.x dX1.1,app fr.k dk1.2.1,app fr.t dl1.2.2,fun g hg=>?_⟩;rcases br.mp hg with e|e
   ·exact fr.n g e
   ·rw[av.mp e];exact⟨fX,f2,f3⟩
  ·intro g hg;rcases br.mp hg with e|e
   ·exact hk g e
   ·rw[av.mp e];exact⟨rfl,nl3⟩
 ·rintro σ G ⟨hs',v4,v5,v6,rfl,s2,gl,twk,fr,hk⟩;rw[tw.length,eh] at twk;exact⟨_,rfl,k G ll hs' s2 hll gl twk fr fun h hh=>(hk h hh).1⟩
def bY6{cL:Addr}(T:RnT K cL)(MK:MkL P w K mg base 1 (aN3 K cL) cL "Run")(C_Nxt:Cl P w K mg base 4 (bI2 cL) "next_throw")(C_Put:Cl P w K mg base 1 spPut "put_ahead")(C_Thr:Cl P w K mg base 8 spThrU "thrown")(C_Prt2:Cl P w K mg base 4 (bV7 cL) "parted")(m_len:mg "len"=none)(m_tuple:mg "tuple"=none):eV P w K mg base "all_runs" "all_runs" cM2 9 ["program","crowd","most"] (bX3 cL):=by
 refine fL ["program","crowd","most","tables","ended","waiting","run","row"] fun H Q nd hr h=>?_
 obtain⟨pg,pr,c,kv,most,NM,KS,cs,M,rs,rfl,m30,mb,hpg,hpr,hrs,hcs,hN,hK,gk,M1,M2,w30,k⟩:=h;refine⟨_,(cZ 3 nd (bX2 P w)
  (cZ 4 nd (cM eL)
  (cZ 5 nd (cM (aQ (pml MK hr (aA (bP C_Put hr (aA (bQ aG (pv 0) aB) (aQ bJ7))) (aA (bX2 P w) (aA (cM eL) (aQ (aS (aA aB (aQ aB))))))))))
  (aF (fR ij (aE0 (pv 5) (fun _=>rfl))
  (aF (bM (eO iP (aI bE (pB cC m_len ic (aQ (pv 4))) (pB cC m_len ic (aQ (pv 5)))) (pv 2)) jK aX)
  (cZ 6 nd (yM bh ki kj yV (pv 5))
  (cZ 7 nd (bP C_Nxt hr (aQ (pv 6)))
  (aE (bM (aM2 (cH8 (pv 7))) (aE (cO (eZ bh cz de cJ (pv 4) (aQ (aS (aA (uX bU m_tuple dj (aQ (eY (pv 6) rfl))) (aQ (eY (pv 6) rfl)))))))) (aF (lG (bM (aM2 (cV6 P w hr (pv 7) (pv 3))) (aE (cX9 P w hr (pv 3) (pv 7) (bP C_Thr hr (aA (pv 7) (aQ (pv 1)))))) aX))
  (aE (cO (eZ bh ky lh lN (pv 5) (aQ (bP C_Prt2 hr (aA (pv 6) (aA (bQ aG (pv 7) aB) (aQ (cX5 P w hr (pv 3) (pv 7)))))))))))))))))
  (aE (aK (pv 4))))))),?_⟩
 refine .inl fun tb htb=>?_
 have dn0:DN3 P w (aN H tb (dN3 P w tb [])) tb []:=⟨[],aD,rfl,fun _ z=>absurd z di⟩
 have s1:=aC htb (dN3 P w tb []);generalize aN H tb (dN3 P w tb [])=H1 at dn0 s1 ⊢;refine⟨bi _,fun el hel=>?_⟩;have eln:=s1.free hel;have s2:=s1.trans (aC hel (.lst []));have g2:aN H1 el (.lst []) el=some (.lst []):=aD;have dn2:DN3 P w (aN H1 el (.lst [])) tb []:=dn0.keep (TS.of (aC hel _)) (fun o e=>aC hel _ _ _ e);generalize aN H1 el (.lst [])=H2 at s2 g2 dn2 ⊢;refine⟨_,rfl,pg,_,_,.ref pr,rfl,rfl,aT.of (s2 _ _ hpg),rfl,pr,.non,rs,[],rfl,s2 _ _ hpr,rfl,fun H3 cv s3 hc=>?_⟩;refine .inr fun kd hkd=>?_
 have s4:=aC hkd (.dK []);have gk4:aN H3 kd (.dK []) kd=some (.dK []):=aD;have f4:=(s2.trans s3).free hkd;generalize aN H3 kd (.dK [])=H4 at s4 gk4 ⊢;refine⟨bi _,fun tl htl=>?_⟩;have s5:=aC htl (.lst []);have gt5:aN H4 tl (.lst []) tl=some (.lst []):=aD;have f5:=(s2.trans (s3.trans s4)).free htl;have nte:tl≠el:=(aM ((s3.trans s4) _ _ g2) htl).symm;generalize aN H4 tl (.lst [])=H5 at s5 gt5 ⊢;refine⟨cS,fun sp hsp=>?_⟩;have s6:=aC hsp (.tup [.int 1,.int 1]);have gs6:aY (aN H5 sp (.tup [.int 1,.int 1])) sp 1 1:=aD;generalize aN H5 sp (.tup [.int 1,.int 1])=H6 at s6 gs6 ⊢;refine fun X dX nX ndX neX=>⟨X,dX,kd,tl,sp,cv,rfl,aD,fun H7 o7 hX7=>⟨rfl,?_⟩⟩
 have s7:aR H6 H7:=fun b o hb=>by
  have n1:b≠X:=fun z=>by rw[z,nX] at hb;cases hb
  have n2:b≠dX:=fun z=>by rw[z,ndX] at hb;cases hb
  rw[o7 b n1,aH n1,aH n2];exact hb
 have fX:=(s2.trans (s3.trans (s4.trans (s5.trans s6)))).free nX;refine⟨uU,fun wl hwl=>?_⟩;have s8:=aC hwl (.lst [.ref X]);have gw8:aN H7 wl (.lst [.ref X]) wl=some (.lst [.ref X]):=aD;have wln:=(s2.trans (s3.trans (s4.trans (s5.trans (s6.trans s7))))).free hwl;have new:el≠wl:=aM ((s3.trans (s4.trans (s5.trans (s6.trans s7)))) _ _ g2) hwl;have ntw:tl≠wl:=aM ((s6.trans s7) _ _ gt5) hwl;generalize aN H7 wl (.lst [.ref X])=H8 at s8 gw8 ⊢;have t38:aR H3 H8:=s4.trans (s5.trans (s6.trans (s7.trans s8)));have t28:aR H2 H8:=s3.trans t38;have w0:Wt P w cL NM KS cs M (LV cs rs e0 [] (1,1)) H H8 tb el wl [] [] 0 [] [(X,kd,tl,[])] [⟨rs,e0,[],(1,1)⟩] []:=by
  refine⟨s2.trans t28,dn2.keep (TS.of t28) (fun o e=>t28 _ _ e),htb,⟨.nil,fun _ z=>absurd z di,fun _ z=>absurd z di⟩,t28 _ _ g2,eln,trivial,gw8,wln,new,⟨⟨⟨dX,cv,sp,s8 _ _ hX7,?_,(s7.trans s8) _ _ gs6⟩,(s5.trans (s6.trans (s7.trans s8))) _ _ gk4,.nil,fun _ z=>absurd z di,(s6.trans (s7.trans s8)) _ _ gt5,bO.ts (.of (s2.trans t28)) _ hrs⟩,trivial⟩,
   ⟨by simp,by simp,by simp,fun x hx=>by rw[List.mem_singleton.mp hx];exact⟨fX,f4,f5⟩⟩,fun x hx=>by rw[av.mp hx];exact⟨nte,ntw⟩,⟨gk,trivial⟩,by simp[lvS,Rn.lv],by rw[aJ6];simpa using w30,fun _ z=>absurd z di⟩
  have hc':=hc.ts (.of t38);rw[jk] at hc';exact hc'
 have SB:aR H H8:=s2.trans t28;clear s7 s6 s5 s4 s3 t38 t28 hX7 gs6 gt5 gk4 gw8 s8 new ntw nte fX f4 f5 o7 nX ndX neX hc g2 dn2 hsp htl hkd hwl hel;refine⟨fun m σ G=>∃(E:List Lf) (us:List V) (hs:List Hn) (rns:List Rn) (l:List (List RKey×V)) (v6 v7:Option V),σ=[some (.ref pg),some (.ref c),some (.int most),some (.ref tb),some (.ref el),some (.ref wl),v6,v7]/\Wt P w cL NM KS cs M (LV cs rs e0 [] (1,1)) H G tb el wl E [] 0 us hs rns l/\m=mS rns,
  ⟨_,[],[],_,_,[],_,_,rfl,w0,rfl⟩,?_⟩
 rintro m σ G ⟨E,us,hs,rns,l,v6,v7,rfl,W,rfl⟩;refine⟨_,rfl,_,.inl ⟨_,bR.of W.w,rfl⟩,?_⟩;rcases List.eq_nil_or_concat rns with rfl|⟨rs0,r,er⟩
 ·obtain rfl:hs=[]:=ik W.q.length;refine bJ (by simp[cR]) ?_;have eE:LV cs rs e0 [] (1,1)=E:=by rw[W.t];simp[lvS]
  have nn:=W.n;exact⟨_,rfl,k _ el us W.s W.e (by rw[eE];exact W.et) (by rw[eE];lia) (by rw[eE];exact W.ov)⟩
 ·rw[List.concat_eq_append] at er;subst er;obtain⟨gs,g,rfl,_,_⟩:=fI.split W.q;refine bW (by simp[cR]) ?_;refine⟨fun σ' G'=>∃(E:List Lf) (us:List V) (hs:List Hn) (rns:List Rn) (l:List (List RKey×V)) (v6 v7:Option V),σ'=[some (.ref pg),some (.ref c),some (.int most),some (.ref tb),some (.ref el),some (.ref wl),v6,v7]/\Wt P w cL NM KS cs M (LV cs rs e0 [] (1,1)) H G' tb el wl E [] 0 us hs rns l/\mS rns<mS (rs0++[r]),
   (by rintro σ' G' ⟨E2,us2,hs2,rns2,l2,v62,v72,e1,e2,e3⟩;exact ⟨_,e3,E2,us2,hs2,rns2,l2,v62,v72,e1,e2,rfl⟩),?_⟩
  have lu:us.length=E.length:=W.et.length;have nn:=W.n;have wg:=bA6 W.g;have lg:(cR (gs++[g])).length=(rs0++[r]).length:=by unfold cR;rw[ac];exact W.q.length
  refine⟨_,rfl,el,us,rfl,.inl (bR.of W.e),_,rfl,wl,_,rfl,.inl (bR.of W.w),_,_,rfl,rfl,_,rfl,_,_,rfl,rfl,_,rfl,bJ ?_ ?_⟩
  ·rw[lu,lg];simp only[decide_eq_true_eq];lia
  have ew:cR (gs++[g])=cR gs++[.ref g.1]:=by unfold cR;rw[aq];rfl
  have gw:=W.w;rw[ew] at gw;refine⟨_,rfl,.inl ⟨rfl,_,bR.of gw⟩,wl,_,V.ref g.1,rfl,rfl,gw,by simp,?_⟩;rw[nu];obtain⟨W1,q1,c1,k1⟩:=W.pop;have mr:mS (rs0++[r])=mS rs0+mS [r]:=aG9 _ _;clear W gw lu nn wg lg ew;generalize aN G wl (.lst (cR gs))=G1 at W1 q1 ⊢;refine⟨_,rfl,g.1,g.2.1,g.2.2.1,NM,KS,cs,M,g.2.2.2,r,rfl,q1,hN,k1,fun G2 ks2 rn2 h2 e2 g2 n2 o2=>?_,fun G2 ks2 rn2 p y T' a3 wss h2 hw2 g2 n2 o2=>?_⟩
  ·have W2:=W1.off c1 q1 o2;obtain⟨rs2,e3,td,sh⟩:=rn2;obtain rfl:rs2=[]:=e2;obtain⟨dx,cv2,sp2,hX,_,hs2⟩:=h2.ex;have at4:=nV cv2 g.2.1 g.2.2.1 sp2;refine⟨_,rfl,_,rfl,bW rfl ?_⟩;refine⟨_,rfl,.inl ⟨rfl,_,bR.of W2.e⟩,_,rfl,g.1,cL,dx,_,_,rfl,hX,T.cl,T.n3,at4.2.2.1,g.2.2.1,_,rfl,.inl ⟨bR.of h2.tl,fun t1 ht1=>?_⟩⟩;have s3:=aC ht1 (.tup (td.map V.int));have gt1:aN G2 t1 (.tup (td.map V.int)) t1=_:=aD;generalize aN G2 t1 (.tup (td.map V.int))=G3 at s3 gt1 ⊢;refine⟨_,rfl,g.1,cL,dx,_,_,rfl,s3 _ _ hX,T.cl,T.n4,at4.2.2.2,cS,fun t2 ht2=>?_⟩;have s4:=s3.trans (aC ht2 (.tup [.ref t1,.ref sp2]));have gt2:aN G3 t2 (.tup [.ref t1,.ref sp2]) t2=_:=aD;have gt3:=aC ht2 (.tup [.ref t1,.ref sp2]) _ _ gt1;generalize aN G3 t2 (.tup [.ref t1,.ref sp2])=G4 at s4 gt2 gt3 ⊢;have lvr:r.lv cs=[(td,sh)]:=n2.lv.trans cG8;have W4:=W2.same s4;rw[lvr] at W4;have nn:=W4.n;have lu:us.length=E.length:=W4.et.length;refine⟨el,_,_,rfl,rfl,W4.e,aL (by lia),?_⟩
   have ov:OvM M sh:=by
    obtain⟨N,hs,hd⟩:=g2.g.sh;have hd:N*1 ∣ M:=hd;rw[ku] at hd;obtain⟨_,c,c1,c2,e⟩:=hs.dv M1 hd;exact⟨c,by lia,c2,e⟩
   have W5:=W4.fin (v:= .ref t2) (yX r.rs k1.g.ok).w1 ⟨t2,_,sp2,rfl,gt2,⟨t1,rfl,gt3⟩,s4 _ _ hs2⟩ ov;refine⟨_,_,gs,rs0,l,_,_,rfl,W5,?_⟩;rw[mr,aL6];have:0<11^aP r.rs:=qg (by decide);lia
  ·have W2:=W1.off c1 q1 o2;obtain⟨us3,hp⟩:=hw2.1.at;refine⟨_,rfl,_,rfl,bJ (by simp) ?_⟩;have okt:=g2.g.ok.1;have kin:fH y T' wss∈KS:=g2.k _ (dw _ aj);have o1:=okt.1.2.o;refine⟨fun σ' G'=>σ'=[some (.ref pg),some (.ref c),some (.int most),some (.ref tb),some (.ref el),some (.ref wl),some (.ref g.1),some (.ref p)]/\∃l' t us4,Wt P w cL NM KS cs M (LV cs rs e0 [] (1,1)) H G' tb el wl E (r.lv cs) (wL r.rs) us gs rs0 l'/\kO cL NM G' g.1 g.2.1 g.2.2.1 ks2 rn2/\vN G' (.thr p y T' a3 wss)/\dA l' (fH y T' wss)=some (.ref t)/\G' t=some (.tup us4)/\dH (nC G') us4 (oY cs T' wss),?_,?_⟩
   ·refine⟨_,rfl,_,rfl,tb,_,rfl,.inr ⟨l,fH y T' wss,p,W2.d.r,rfl,yG hw2,rfl⟩,_,rfl,?_⟩
    cases ev:dA l (fH y T' wss) with
    |none =>
     refine bW rfl ?_;refine⟨_,rfl,_,rfl,p,c,T',a3,wss,cs,rfl,⟨hw2.1.t,hw2.2,W2.s _ _ hcs⟩,okt.1.1,okt.1.2,fun G3 t us4 s3 ht tw=>?_⟩;have W3:=W2.same s3;have hw3:=vN.ts (.of s3) _ hw2;obtain⟨d5,v5⟩:=W3.dt.put o1 kin ev ht tw;refine⟨_,rfl,_,rfl,tb,rfl,.inr ⟨l,fH y T' wss,p,W3.d,rfl,yG hw3,aL (by have:=W3.dt.len;lia),fun G4 dn4 o4=>?_⟩⟩;obtain⟨W4,t4⟩:=W3.put dn4 o4 d5;have h3:=h2.same s3;obtain⟨φ,ed⟩:=W3.d.ext;obtain⟨_,_,_,p1,_⟩:=h3.ex;exact⟨rfl,_,t,us4,W4,kO.ts h3 t4 (o4 _ (bD p1 ed (by intro z;cases z))) (o4 _ (bD h3.kn ed (by intro z;cases z))) (o4 _ (bD h3.tl ed (by intro z;cases z))),vN.ts t4 _ hw3,v5,t4 _ _ ht,fJ t4 tw⟩
    |some v =>
     refine bJ (by simp) ?_;obtain⟨t,us4,rfl,ht,tw⟩:=W2.dt.get o1 ev;exact⟨rfl,l,t,us4,W2,h2,hw2,ev,ht,tw⟩
   ·rintro σ' G5 ⟨rfl,l5,t,us4,W5,h5,hw5,ev,ht,tw⟩;obtain⟨us5,hp5⟩:=hw5.1.at;have tok:=mQ okt.1.1 okt.1.2;obtain⟨kg,kl,kw,kv⟩:=zY g2.g;obtain⟨N,hsN,hdN⟩:=g2.g.sh;have dvN:N ∣ M:=zm ⟨_,rfl⟩ hdN;have P9:(2:Int)^850<2^900:=by decide
    have Q9:(2:Int)^170<2^900:=by decide
    have fs:rD 900 rn2.sh:=by
     obtain⟨_,c',c1',c2',e⟩:=hsN.dv M1 dvN;rw[e];exact aK4 (by lia) M1 (by generalize (2:Int)^850=x at *;generalize (2:Int)^900=y at *;lia) (by generalize (2:Int)^850=x at *;generalize (2:Int)^900=y at *;lia)
    have fz:∀z∈oY cs T' wss,rD 900 z.2:=fun z hz=>by
     obtain⟨_,c',c1',c2',e⟩:=tok.sh z hz;have mb:mT cs T' wss<2^900:=by
      rcases tok.m2 with⟨_,z⟩|⟨_,z⟩
      ·rw[z];decide
      ·exact jx z Q9
     rw[e];exact aK4 (by lia) tok.m1 (jh c2' mb) mb
    have td4:rn2.td.length<=4:=by have:rn2.td.length+eI (Rw.thr p y T' a3 wss::rn2.rs)<=4:=g2.g.tl;lia
    refine⟨_,rfl,.inl ⟨rfl,_,bR.of W5.w⟩,_,rfl,_,rfl,p,_,_,.str y,rfl,rfl,aT.of hp5,at1,_,rfl,_,rfl,tb,_,rfl,.inr ⟨l5,fH y T' wss,p,W5.d.r,rfl,yG hw5,ev.symm⟩,g.1,g.2.1,g.2.2.1,NM,ks2,rn2,y,t,us4,oY cs T' wss,rfl,h5,okt.2,hN,ht,tw,ay tok.le tok.l10,td4,fs,fz,fun G6 l6 hs6 s6 nl6 gl6 q6 fr6 ek6=>?_⟩;have W6:=W5.same s6;have nn:=W6.n;have wg:=bA6 W6.g;have l1:(cR gs).length=rs0.length:=by unfold cR;rw[ac];exact W6.q.length
    have l2:(cR hs6).length<=10:=by unfold cR;rw[ac,q6.length];exact kl
    refine⟨wl,l6,_,_,rfl,rfl,W6.w,gl6,by have:=aL (n:=100) (by decide);lia,?_⟩;have gd6:jW NM KS cs M hs6 ((oY cs T' wss).map (aT2 rn2 y)):=jW.all q6.length ek6 fun r' hr'=>by
     obtain⟨a,b⟩:=kg r' hr';exact⟨a.sbs oN iQ,fun q hq=>g2.k q (cg _ (by rw[b] at hq;exact hq))⟩
    have there:∀x∈gs,(∃o,G5 x.1=some o)/\(∃o,G5 x.2.1=some o)/\∃o,G5 x.2.2.1=some o:=fun x hx=>by
     obtain⟨⟨_,_,q1⟩,⟨_,q2⟩,_,q3⟩:=W5.q.there x hx;exact⟨⟨_,q1⟩,⟨_,q2⟩,_,q3⟩
    have W7:=W6.push W5.s ⟨_,W5.e⟩ ⟨_,W5.w⟩ there q6 fr6 gd6 (n2.lv.trans kv) (ay kw n2.w);refine⟨E,us,gs++hs6,rs0++(oY cs T' wss).map (aT2 rn2 y),l5,_,_,rfl,W7,?_⟩;have co:=n2.co;simp only[aP,Rw.cost] at co;have mk:=bR3 (rn:=r) (r':=r) (kids:=(oY cs T' wss).map (aT2 rn2 y)) (n:=aP rn2.rs) (by lia) (fun r' hr'=>by rw[(kg r' hr').2]) kl;rw[mr,aG9];lia
def cF0  : eV P w K mg base "has_one_sum" "has_one_sum" cK5 1 ["sort"] spOneU:=by
 refine fL ["sort"] fun H Q nd hr h=>?_
 obtain⟨wd,rfl,k⟩:=h;refine⟨_,(aE (aK (pec fU (pv 0) (aS (aA aJ (aQ aJ)))))),?_⟩;refine⟨_,rfl,cS,fun t ht=>⟨t,[.str "ladder",.str "flat"],rfl,.inr (aT.of aD),rfl,rfl,?_⟩⟩;exact k _ (aC ht _)
def bJ2  : eV P w K mg base "place_of_sums" "place_of_sums" bC1 1 ["sort"] spPlaceU:=by
 refine fL ["sort"] fun H Q nd hr h=>?_
 obtain⟨wd,rfl,k⟩:=h;refine⟨_,(aE (aK (gK (eO cG (pv 0) aJ) aB aB))),?_⟩;refine⟨_,rfl,rfl,_,rfl,?_⟩
 by_cases c:wd="first"
 ·rw[ao c] at k;exact sS (by rw[c];exact bH6 _) k
 ·rw[ai c] at k;exact jF (aE5 c) k
def bT1(C_Place:Cl P w K mg base 1 spPlaceU "place_of_sums")(C_One:Cl P w K mg base 1 spOneU "has_one_sum"):eV P w K mg base "sums_of" "sums_of" bU1 2 ["row"] spSumsU:=by
 refine fL ["row","asked"] fun H Q nd hr h=>?_
 obtain⟨r,wd,a3,lo,hb,wss,rfl,hw,so,k⟩:=h;refine⟨_,(cZ 1 nd (bQ aG (pv 0) (bP C_Place hr (aQ (bQ aG (pv 0) aB))))
  (aE (aK (gK (pF (bP C_One hr (aQ (bQ aG (pv 0) aB)))) (aS (aQ (pv 1))) (pv 1))))),?_⟩
 obtain⟨xs,hx,x0,x2,_,_⟩:=hw;refine⟨_,rfl,_,rfl,r,_,_,_,rfl,rfl,aT.of hx,x0,wd,rfl,r,_,_,_,rfl,rfl,aT.of hx,x2,?_⟩;refine⟨_,rfl,r,_,_,_,rfl,rfl,aT.of hx,x0,wd,rfl,fun H1 s1=>⟨_,rfl,?_⟩⟩;rcases so with⟨e,w,ws,rfl,hws,rfl⟩|⟨e,sm,rfl,vs,hsm,tw⟩
 ·refine sS e ?_;exact⟨_,rfl,uU,fun t ht=>k _ t _ (s1.trans (aC ht _)) aD ⟨⟨w,rfl,aC ht _ _ _ (s1 _ _ hws)⟩,trivial⟩⟩
 ·refine jF e ?_;exact⟨_,rfl,k _ sm vs s1 (s1 _ _ hsm) (tw.mono fun _ _ z=>z.ts (.of s1))⟩
def cD6  : eV P w K mg base "range_of_sums" "range_of_sums" cT6 1 ["row"] spRngU:=by
 refine fL ["row"] fun H Q nd hr h=>?_
 obtain⟨r,wd,a3,lo,hb,rfl,hw,k⟩:=h;refine⟨_,(aE (aK (aS (aA (bQ aG (pv 0) (bJ9 aF4 aB)) (aQ (gK (eO cG (bQ aG (pv 0) aB) aJ) (aI cQ (bQ aG (pv 0) bU0) aB) (bQ aG (pv 0) bU0))))))),?_⟩;obtain⟨xs,hx,x0,_,xl,xh⟩:=hw;refine⟨_,rfl,_,rfl,r,_,_,_,rfl,rfl,aT.of hx,xl,?_⟩;refine⟨_,rfl,r,_,_,_,rfl,rfl,aT.of hx,x0,rfl,_,rfl,?_⟩
 by_cases c:wd="first"
 ·rw[ao c] at xh;refine sS (by rw[c];exact bH6 _) ?_;refine⟨_,rfl,r,_,_,_,rfl,rfl,aT.of hx,xh,_,_,rfl,rfl,cS,fun t ht=>k _ t (aC ht _) ?_⟩;show aN H t _ t=some (.tup [.int lo,.int hb]);rw[aD];show some (HO.tup [V.int lo,V.int (hb+1-1)])=_;rw[show hb+1-1=hb by lia]
 ·rw[ai c] at xh;exact jF (aE5 c) ⟨_,rfl,r,_,_,_,rfl,rfl,aT.of hx,xh,cS,fun t ht=>k _ t (aC ht _) aD⟩
def cB0(m_min:mg "min"=none)(m_max:mg "max"=none):eV P w K mg base "cut" "cut" cP8 1 ["number","low","high"] spCut:=by
 refine fL ["number","low","high"] fun H Q nd hr h=>?_
 obtain⟨n,lo,hi,rfl,k⟩:=h;refine⟨_,(aE (aK (pB (lJ rfl) m_min nj (aA (pB (wZ rfl) m_max yo (aA (pv 0) (aQ (pv 1)))) (aQ (pv 2)))))),?_⟩;exact⟨_,rfl,_,rfl,_,_,rfl,_,rfl,_,_,rfl,k⟩
def cP6(m_sum:mg "sum"=none)(m_zip:mg "zip"=none):eV P w K mg base "added_up" "added_up" sUp 1 ["weights","crowd"] spUp:=by
 refine fL ["weights","crowd"] fun H Q nd hr h=>?_
 obtain⟨a,b,ws,cs,rfl,ha,hb,W,k⟩:=h;refine⟨_,(aE (aK (pB bB7 m_sum PyProof.Rows.boot_sum (aQ (fE ["weight","count"] [none,none] (cI0 (by rfl) m_zip (aA (pv 0) (aQ (pv 1)))) (fun _ _ _ _=>(cJ3 K (n:=2) rfl (bY (gX 0) (bY (gX 1) gB)))) (fun _ _ _ _=>fZ) (fun _ _ _ _=>(aI kX (pv 0) (pv 1)))))))),?_⟩;obtain⟨hl,h3,hw⟩:=W;refine⟨_,rfl,_,rfl,?_⟩;refine⟨a,b,rfl,⟨_,aT.of ha⟩,⟨_,aT.of hb⟩,bG4 (xs:=ws.map V.int) (ys:=cs.map V.int) (fun i zs σ H2=>aR H H2/\(∃v1 v2,σ=[v1,v2])/\zs=((List.zipWith (· * ·) ws cs).take i).map V.int)
  (by rw[ac];exact aL (by lia)) (by rw[ac,ac];lia) ⟨aR.refl _,⟨_,_,rfl⟩,rfl⟩ (by rintro i zs σ H2 ⟨_,_,e⟩;rw[e,ac,ef];lia) (by rintro i zs σ H2 _ ⟨e,_⟩;exact⟨aT.of (e _ _ ha),aT.of (e _ _ hb)⟩) ?_ ?_⟩
 ·rintro i x y zs σ H2 t hx hy ⟨s2,⟨v1,v2,rfl⟩,rfl⟩ ht;obtain⟨x',rfl,hx'⟩:=lE hx;obtain⟨y',rfl,hy'⟩:=lE hy;have hb:=hw x' (bj hx');refine⟨t,_,rfl,aT.of aD,rfl,_,_,rfl,_,_,rfl,rfl,?_⟩;refine⟨_,rfl,_,rfl,_,_,rfl,rfl,.inl ⟨by lia,by lia⟩,s2.trans (aC ht _),⟨_,_,rfl⟩,?_⟩;have hz:(List.zipWith (· * ·) ws cs)[i]?=some (x'*y'):=by rw[List.getElem?_zipWith,hx',hy']
  rw[cX hz,aq];rfl
 ·rintro zs σ H2 ⟨s2,_,rfl⟩ l2 hl2;have e:(List.zipWith (· * ·) ws cs).take (ws.map V.int).length=List.zipWith (· * ·) ws cs:=by
   rw[ju];rw[List.length_zipWith,ac];lia
  rw[e];exact⟨l2,List.zipWith (· * ·) ws cs,rfl,bR.of aD,k _ (s2.trans (aC hl2 _))⟩
def cD1(C_Rng:Cl P w K mg base 1 spRngU "range_of_sums")(C_Cut:Cl P w K mg base 1 spCut "cut")(C_Up:Cl P w K mg base 1 spUp "added_up")(C_Sums:Cl P w K mg base 2 spSumsU "sums_of")(m_tuple:mg "tuple"=none):eV P w K mg base "number_of" "number_of" cR7 3 ["row","crowd"] spNumU:=by
 refine fL ["row","crowd","bounds"] fun H Q nd hr h=>?_
 obtain⟨r,wd,a3,lo,hi,wss,c,cs,rfl,hw,so,hcs,few,k⟩:=h;refine⟨_,(cZ 2 nd (bP C_Rng hr (aQ (pv 0)))
  (aE (aK (uX bU m_tuple dj (aQ (fE ["weights","crowd","bounds"] [none,some 1,some 2] (mU (bP C_Sums hr (aQ (pv 0)))) (fun _ _ _ _=>(gX 0)) (fun _ _ _ _=>fZ) (fun _ _ _ _=>(bP C_Cut hr (aA (bP C_Up hr (aA (pv 0) (aQ (pv 1)))) (aA (bQ (bB1 K) (pv 2) aB) (aQ (bQ (bB1 K) (pv 2) aB)))))))))))),?_⟩
 refine⟨_,rfl,r,wd,a3,lo,hi,rfl,hw,fun H0 b s0 hb=>?_⟩;refine⟨_,rfl,r,wd,a3,lo,hi,wss,rfl,hw.ts (.of s0),so.ts (.of s0),fun H1 t us s1' ht tw=>?_⟩;have hb1:=s1' _ _ hb;have s1:=s0.trans s1';have ul:=tw.length;have fa:=few.a;have fb:=few.b;have nl:(cU wss cs lo hi).length=wss.length:=by unfold cU;rw[ac]
 refine⟨t,rfl,⟨_,aT.of ht⟩,uB (xs:=us) (fun i zs σ H2=>aR H1 H2/\(∃v,σ=[v,some (.ref c),some (.ref b)])/\zs=((cU wss cs lo hi).take i).map V.int)
  (aL (by lia)) ⟨aR.refl _,⟨_,rfl⟩,rfl⟩ (by rintro i zs σ H2 ⟨_,_,e⟩;rw[e,ac,ef];lia) (by rintro i zs σ H2 _ ⟨e,_⟩;exact aT.of (e _ _ ht)) ?_ ?_⟩
 ·rintro i y zs σ H2 hy ⟨s2,⟨v,rfl⟩,rfl⟩;obtain⟨ws,hws,a,rfl,hia⟩:=tw.at hy;refine⟨_,rfl,_,rfl,a,c,ws,cs,rfl,s2 _ _ hia,(s1.trans s2) _ _ hcs,few.w ws (bj hws),fun H3 s3=>?_⟩;have hb3:=s3 _ _ (s2 _ _ hb1);refine⟨_,rfl,b,_,_,_,rfl,rfl,aT.of hb3,rfl,_,rfl,b,_,_,_,rfl,rfl,aT.of hb3,rfl,_,_,_,rfl,s2.trans s3,⟨_,rfl⟩,?_⟩;rw[cX (bP2 hws),aq];rfl
 ·rintro zs σ H2 ⟨s2,_,rfl⟩ l2 hl2;have e:(cU wss cs lo hi).take us.length=cU wss cs lo hi:=by rw[ul, <-nl,eh]
  rw[e];exact⟨l2,_,rfl,.inl ⟨bR.of aD,fun u hu'=>k _ u (s1.trans (s2.trans ((aC hl2 _).trans (aC hu' _)))) aD⟩⟩
def bE5(C_Low:Cl P w K mg base 2 aX7 "lowest"):eV P w K mg base "minus" "minus" bA3 3 ["one","other"] spMinus:=by
 refine fL ["one","other"] fun H Q nd hr h=>?_
 obtain⟨p,q,a,b,c,d,rfl,hp,hq,ha,hb,hc,hd,b1,d1,hle,k⟩:=h;refine⟨_,(aE (aK (bP C_Low hr (aA (aI cQ (aI iO (bQ aG (pv 0) aB) (bQ aG (pv 1) aB)) (aI iO (bQ aG (pv 1) aB) (bQ aG (pv 0) aB))) (aQ (aI iO (bQ aG (pv 0) aB) (bQ aG (pv 1) aB))))))),?_⟩;have m2:=fF hb.1 hb.2 hd.1 hd.2;have m3:1<=b*d:=by have:=dk (show 0<b by lia) (show 0<d by lia);lia
 refine⟨_,rfl,p,_,_,_,rfl,rfl,aT.of hp,zR a b,_,rfl,q,_,_,_,rfl,rfl,aT.of hq,qR c d,_,_,rfl,rfl,⟨ha.below,hd.below⟩,?_⟩;refine⟨_,rfl,q,_,_,_,rfl,rfl,aT.of hq,zR c d,_,rfl,p,_,_,_,rfl,rfl,aT.of hp,qR a b,_,_,rfl,rfl,⟨hc.below,hb.below⟩,_,_,rfl,rfl,?_⟩;refine⟨_,rfl,p,_,_,_,rfl,rfl,aT.of hp,qR a b,_,rfl,q,_,_,_,rfl,rfl,aT.of hq,qR c d,_,_,rfl,rfl,⟨hb.below,hd.below⟩,?_⟩;exact⟨_,_,rfl,by lia,m3,jx m2.2 (by decide),k⟩
def bM6(C_Low:Cl P w K mg base 2 aX7 "lowest"):eV P w K mg base "divided" "divided" bW4 3 ["one","other"] spDiv:=by
 refine fL ["one","other"] fun H Q nd hr h=>?_
 obtain⟨p,q,⟨a,b⟩,⟨c,d⟩,rfl,hp,hq,⟨ha,hb,b1⟩,⟨hc,hd,d1⟩,c1,k⟩:=h;refine⟨_,(aE (aK (bP C_Low hr (aA (aI iO (bQ aG (pv 0) aB) (bQ aG (pv 1) aB)) (aQ (aI iO (bQ aG (pv 0) aB) (bQ aG (pv 1) aB))))))),?_⟩;replace ha:rA a:=ha;replace hb:rA b:=hb;replace hc:rA c:=hc;replace hd:rA d:=hd;replace b1:1<=b:=b1;replace d1:1<=d:=d1;replace c1:1<=c:=c1;have m1:=fF ha.1 ha.2 hd.1 hd.2;have m2:=fF hb.1 hb.2 hc.1 hc.2;have m3:1<=b*c:=by have:=dk (show 0<b by lia) (show 0<c by lia);lia
 refine⟨_,rfl,p,_,_,_,rfl,rfl,aT.of hp,zR a b,_,rfl,q,_,_,_,rfl,rfl,aT.of hq,qR c d,_,_,rfl,rfl,⟨ha.below,hd.below⟩,?_⟩;refine⟨_,rfl,p,_,_,_,rfl,rfl,aT.of hp,qR a b,_,rfl,q,_,_,_,rfl,rfl,aT.of hq,zR c d,_,_,rfl,rfl,⟨hb.below,hc.below⟩,?_⟩;exact⟨_,_,rfl,m1.1,m3,jx m2.2 (by decide),k⟩
def bY0(m_range:mg "range"=none):eV P w K mg base "power" "power" cL5 1 ["one","k"] spPow:=by
 refine fL ["one","k","top","bottom","step"] fun H Q nd hr h=>?_
 obtain⟨p,a,b,n,rfl,hp,a0,a9,b0,b9,n0,n1,k⟩:=h;refine⟨_,(cZ 2 nd aB
  (cZ 3 nd aB
  (aF (xN (eK (by rfl) m_range (aQ (pv 1))) (gX 4 nd)
  (cZ 2 nd (aI iO (pv 2) (bQ aG (pv 0) aB))
  (aE (psz 3 nd (aI iO (pv 3) (bQ aG (pv 0) aB))))))
  (aE (aK (aS (aA (pv 2) (aQ (pv 3))))))))),?_⟩
 refine⟨_,rfl,_,rfl,by lia,by lia,xD (n:=n.toNat) (fun i σ H1=>H1=H/\∃v,σ=[some (.ref p),some (.int n),some (.int (a^i)),some (.int (b^i)),v])
  ⟨rfl,none,by rw[wc,wc];rfl⟩ ?_ ?_⟩
 ·rintro i σ H1 hi ⟨rfl,v,rfl⟩;have e1:=qG (n:=i) a0 a9 (by lia);have e2:=qG (n:=i) b0 b9 (by lia);refine⟨_,rfl,_,rfl,p,_,_,_,rfl,rfl,aT.of hp,zR a b,_,_,rfl,rfl,⟨⟨by lia,by lia⟩,⟨by lia,by lia⟩⟩,?_⟩;refine⟨_,rfl,_,rfl,p,_,_,_,rfl,rfl,aT.of hp,qR a b,_,_,rfl,rfl,⟨⟨by lia,by lia⟩,⟨by lia,by lia⟩⟩,?_⟩;refine⟨rfl,some (.int (0+(i:Int))),?_⟩;rw[ge,ge];rfl
 ·rintro σ H1 ⟨rfl,v,rfl⟩;exact⟨_,rfl,_,rfl,cS,fun r hr'=>k r hr'⟩
def bQ9(C_Add:Cl P w K mg base 3 bT8 "added"):eV P w K mg base "come_to" "come_to" bW5 4 ["shares"] spCome:=by
 refine fL ["shares","total","share"] fun H Q nd hr h=>?_
 obtain⟨l,us,fs,rfl,hl,tw,sf,k⟩:=h;refine⟨_,(cZ 1 nd (aS (aA aB (aQ aB)))
  (aF (xN (iT (pv 0)) (gX 2 nd)
  (aE (psz 1 nd (bP C_Add hr (aA (pv 1) (aQ (pv 2)))))))
  (aE (aK (pv 1))))),?_⟩
 refine⟨cS,fun t0 ht0=>?_⟩;refine⟨_,rfl,l,rfl,⟨_,bR.of (aC ht0 _ _ _ hl)⟩,sQ (K:=K) (a:=l) (xs:=us) (fun i σ H1=>∃q v2,σ=[some (.ref l),some (.ref q),v2]/\aR H H1/\aY H1 q ((fs.take i).foldl cY (0,1)).1 ((fs.take i).foldl cY (0,1)).2)
  ⟨t0,_,rfl,aC ht0 _,aD⟩ (by rintro i σ H1 _ ⟨_,_,_,e,_⟩;exact bR.of (e _ _ hl)) ?_ ?_⟩
 ·rintro i v σ H1 hv ⟨q,v2,rfl,s1,hq⟩;obtain⟨f,hf,qq,rfl,hqq⟩:=tw.at hv;have sa:=aC8 sf hf;refine⟨_,rfl,_,rfl,q,qq,_,f,rfl,hq,s1 _ _ hqq,sa.1,sa.2,fun r hr'=>⟨r,_,rfl,s1.trans (aC hr' _),?_⟩⟩;rw[cX hf,List.foldl_append];exact aD
 ·rintro σ H1 ⟨q,v2,rfl,s1,hq⟩;rw[tw.length,eh] at hq;exact⟨_,rfl,k _ q s1 hq⟩
def bE4(C_Times:Cl P w K mg base 3 qY "times")(C_Pow:Cl P w K mg base 1 spPow "power")(m_abs:mg "abs"=none):eV P w K mg base "share_of" "share_of" bJ1 4 ["steepness","k"] (aI3 (-21) 21 (fun p q k=>shN p q k.natAbs) (fun p q k=>gW p q k.natAbs)):=by
 refine fL ["steepness","k","top","bottom"] fun H Q nd hr h=>?_
 obtain⟨st,p,q,n,rfl,hst,hs,n0,n1,k⟩:=h;refine⟨_,(cZ 2 nd (bQ aG (pv 0) aB)
  (cZ 3 nd (bQ aG (pv 0) aB)
  (aE (aK (bP C_Times hr (aA (aS (aA (aI cQ (pv 3) (pv 2)) (aQ (aI bE (pv 3) (pv 2))))) (aQ (bP C_Pow hr (aA (pv 0) (aQ (pB aW8 m_abs PyProof.Rows.boot_abs (aQ (pv 1))))))))))))),?_⟩
 obtain⟨p1,pq,q9⟩:=id hs;refine⟨_,rfl,st,_,_,_,rfl,rfl,aT.of hst,zR p q,_,rfl,st,_,_,_,rfl,rfl,aT.of hst,qR p q,?_⟩;refine⟨_,rfl,_,rfl,_,_,rfl,rfl,_,rfl,_,rfl,_,_,rfl,rfl,cS,fun t ht=>?_⟩;have g1:aR H (aN H t (.tup [.int (q-p),.int (q+p)])):=aC ht _;have ht1:aY (aN H t (.tup [.int (q-p),.int (q+p)])) t (q-p) (q+p):=aD;generalize aN H t (.tup [.int (q-p),.int (q+p)])=H1 at g1 ht1 ⊢;have ea:(if n<0 then -n else n)=(n.natAbs:Int):=by split<;>lia
 refine⟨_,rfl,_,rfl,_,rfl,st,p,q,_,rfl,g1 _ _ hst,by lia,by lia,by lia,by lia,by rw[ea];lia,by rw[ea];lia,fun r hr'=>?_⟩;rw[ea,du];have g2:aR H1 (aN H1 r (.tup [.int (p^n.natAbs),.int (q^n.natAbs)])):=aC hr' _;have hr2:aY (aN H1 r (.tup [.int (p^n.natAbs),.int (q^n.natAbs)])) r (p^n.natAbs) (q^n.natAbs):=aD;generalize aN H1 r (.tup [.int (p^n.natAbs),.int (q^n.natAbs)])=H2 at g2 hr2 ⊢;have e1:=qG (a:=p) (n:=n.natAbs) (by lia) (by lia) (by lia);have e2:=qG (a:=q) (n:=n.natAbs) (by lia) (by lia) (by lia);have e3:1<=q^n.natAbs:=by have:(0:Int)<q^n.natAbs:=gh (by lia);lia
 refine⟨t,r,_,_,_,_,rfl,g2 _ _ ht1,hr2,⟨by lia,by lia⟩,⟨by lia,by lia⟩,⟨e1.1,by lia⟩,⟨e2.1,by lia⟩,by lia,e3,fun u hu'=>?_⟩;exact k _ u (g1.trans (g2.trans (aC hu' _))) aD
def cB1(C_Times:Cl P w K mg base 3 qY "times")(C_Pow:Cl P w K mg base 1 spPow "power"):eV P w K mg base "far_tail" "far_tail" cQ7 4 ["steepness","k"] (aI3 0 21 (fun p q k=>nE p q k.toNat) (fun p q k=>gW p q k.toNat)):=by
 refine fL ["steepness","k"] fun H Q nd hr h=>?_
 obtain⟨st,p,q,n,rfl,hst,hs,n0,n1,k⟩:=h;refine⟨_,(aE (aK (bP C_Times hr (aA (aS (aA (bQ aG (pv 0) aB) (aQ (aI bE (bQ aG (pv 0) aB) (bQ aG (pv 0) aB))))) (aQ (bP C_Pow hr (aA (pv 0) (aQ (pv 1))))))))),?_⟩;obtain⟨p1,pq,q9⟩:=id hs;refine⟨_,rfl,st,_,_,_,rfl,rfl,aT.of hst,qR p q,_,rfl,st,_,_,_,rfl,rfl,aT.of hst,qR p q,_,rfl,st,_,_,_,rfl,rfl,aT.of hst,zR p q,_,_,rfl,rfl,cS,fun t ht=>?_⟩;have g1:aR H (aN H t (.tup [.int q,.int (q+p)])):=aC ht _;have ht1:aY (aN H t (.tup [.int q,.int (q+p)])) t q (q+p):=aD;generalize aN H t (.tup [.int q,.int (q+p)])=H1 at g1 ht1 ⊢;refine⟨_,rfl,_,rfl,st,p,q,n,rfl,g1 _ _ hst,by lia,by lia,by lia,by lia,n0,n1,fun r hr'=>?_⟩;have g2:aR H1 (aN H1 r (.tup [.int (p^n.toNat),.int (q^n.toNat)])):=aC hr' _;have hr2:aY (aN H1 r (.tup [.int (p^n.toNat),.int (q^n.toNat)])) r (p^n.toNat) (q^n.toNat):=aD;generalize aN H1 r (.tup [.int (p^n.toNat),.int (q^n.toNat)])=H2 at g2 hr2 ⊢
 have e1:=qG (a:=p) (n:=n.toNat) (by lia) (by lia) (by lia);have e2:=qG (a:=q) (n:=n.toNat) (by lia) (by lia) (by lia);have e3:1<=q^n.toNat:=by have:(0:Int)<q^n.toNat:=gh (by lia);lia
 refine⟨t,r,_,_,_,_,rfl,g2 _ _ ht1,hr2,⟨by lia,by lia⟩,⟨by lia,by lia⟩,⟨e1.1,by lia⟩,⟨e2.1,by lia⟩,by lia,e3,fun u hu'=>?_⟩;exact k _ u (g1.trans (g2.trans (aC hu' _))) aD
def bO4(C_Minus:Cl P w K mg base 3 spMinus "minus")(C_Far:Cl P w K mg base 4 (aI3 0 21 (fun p q k=>nE p q k.toNat) (fun p q k=>gW p q k.toNat)) "far_tail"):eV P w K mg base "tail_of" "tail_of" bU2 5 ["steepness","k"] (aI3 (-20) 21 tN tD):=by
 refine fL ["steepness","k"] fun H Q nd hr h=>?_
 obtain⟨st,p,q,n,rfl,hst,hs,n0,n1,k⟩:=h;refine⟨_,(aF (bM (eO bW8 (pv 1) aB) (aE (aK (bP C_Far hr (aA (pv 0) (aQ (pv 1)))))) aX)
  (aE (aK (bP C_Minus hr (aA (aS (aA aB (aQ aB))) (aQ (bP C_Far hr (aA (pv 0) (aQ (aI cQ aB (pv 1))))))))))),?_⟩
 obtain⟨p1,pq,q9⟩:=id hs;refine⟨_,rfl,_,_,rfl,rfl,_,rfl,?_⟩;refine aB2 (fun c=>?_) (fun c=>?_)
 ·have c0:0<=n:=ar c;refine⟨_,rfl,_,rfl,st,p,q,n,rfl,hst,hs,c0,n1,fun H' r s t=>k H' r s ?_⟩;unfold tN tD;simp only[if_pos c0];exact t
 ·have c0:¬0<=n:=fun z=>c (ap z)
  refine⟨cS,fun t ht=>?_⟩;have g1:aR H (aN H t (.tup [.int 1,.int 1])):=aC ht _;have ht1:aY (aN H t (.tup [.int 1,.int 1])) t 1 1:=aD;generalize aN H t (.tup [.int 1,.int 1])=H1 at g1 ht1 ⊢;refine⟨_,rfl,_,rfl,_,_,rfl,rfl,st,p,q,1-n,rfl,g1 _ _ hst,hs,by lia,by lia,fun H2 r g2 hr2'=>?_⟩;have hr2:aY H2 r (bH (nE p q (1-n).toNat) (gW p q (1-n).toNat)) (bA (nE p q (1-n).toNat) (gW p q (1-n).toNat)):=hr2';have bd:=cS1 hs (n:=(1-n).toNat) (by lia);have sp:=jR p1 pq (1-n).toNat;have lb:=bC4 bd.2.2 bd.2.1 sp;have l1:=bV (a:=nE p q (1-n).toNat) sp;have l2:=yL (bI8 p1 pq (1-n).toNat) sp;refine⟨t,r,1,1,_,_,rfl,g2 _ _ ht1,hr2,⟨by decide,by decide⟩,⟨by decide,by decide⟩,lb.1,lb.2,by decide,l1,by lia,fun u hu'=>?_⟩;refine k _ u (g1.trans (g2.trans (aC hu' _))) ?_;have rt:=dG (a:=nE p q (1-n).toNat) (b:=gW p q (1-n).toNat) bd.2.2.1 sp;have e:=nB (a:=1*bA (nE p q (1-n).toNat) (gW p q (1-n).toNat)-bH (nE p q (1-n).toNat) (gW p q (1-n).toNat)*1) (b:=1*bA (nE p q (1-n).toNat) (gW p q (1-n).toNat))
   (c:=gW p q (1-n).toNat-nE p q (1-n).toNat) (d:=gW p q (1-n).toNat) (by lia) (by lia) (by have:=bI8 p1 pq (1-n).toNat;lia) sp (by
    generalize bA (nE p q (1-n).toNat) (gW p q (1-n).toNat)=y at rt ⊢;generalize bH (nE p q (1-n).toNat) (gW p q (1-n).toNat)=x at rt ⊢
    grind)
  unfold tN tD;simp only[if_neg c0];rw[<-e.1, <-e.2];exact aD
def bN1(C_Tail:Cl P w K mg base 5 (aI3 (-20) 21 tN tD) "tail_of"):eV P w K mg base "share_from" "share_from" bW0 6 ["mark","number","steepness","low","high"] spFrom:=by
 refine fL ["mark","number","steepness","low","high"] fun H Q nd hr h=>?_
 obtain⟨st,p,q,m,n,lo,h,rfl,hst,hs,b0,b1,k⟩:=h;refine⟨_,(aF (bM (eO bD5 (pv 0) (pv 3)) (aE (aK (aS (aA aB (aQ aB))))) aX)
  (aF (bM (eO iP (pv 0) (pv 4)) (aE (aK (aS (aA aB (aQ aB))))) aX)
  (aE (aK (bP C_Tail hr (aA (pv 2) (aQ (aI cQ (pv 0) (pv 1))))))))),?_⟩
 refine⟨_,rfl,_,rfl,_,_,rfl,rfl,_,rfl,?_⟩
 by_cases c1:m<=lo
 ·refine bW (by simp[c1]) ?_;refine⟨cS,fun t ht=>k _ t (aC ht _) ?_⟩;unfold aF7;rw[ao c1];exact aD
 refine bJ (by simp;lia) ?_;refine⟨_,rfl,_,rfl,_,_,rfl,rfl,_,rfl,?_⟩
 by_cases c2:h<m
 ·refine bW (by simp[c2]) ?_;refine⟨cS,fun t ht=>k _ t (aC ht _) ?_⟩;unfold aF7;rw[ai c1,ao c2];exact aD
 refine bJ (by simp;lia) ?_;refine⟨_,rfl,_,rfl,_,rfl,_,_,rfl,rfl,st,p,q,m-n,rfl,hst,hs,by lia,by lia,fun H' r s1 h1=>k H' r s1 ?_⟩;unfold aF7;rw[ai c1,ai c2];exact h1
def bZ6(C_Tail:Cl P w K mg base 5 (aI3 (-20) 21 tN tD) "tail_of")(C_Share:Cl P w K mg base 4 (aI3 (-21) 21 (fun p q k=>shN p q k.natAbs) (fun p q k=>gW p q k.natAbs)) "share_of")(m_tuple:mg "tuple"=none)(m_range:mg "range"=none):eV P w K mg base "ladder_table" "ladder_table" cP4 6 ["number","steepness","low","high"] spLad:=by
 refine fL ["number","steepness","low","high","between","lowest_rung","highest_rung"] fun H Q nd hr h=>?_
 obtain⟨st,p,q,n,lo,hi,rfl,hst,hs,en,n0,n1,k⟩:=h;refine⟨_,(aF (bM (eO cG (pv 2) (pv 3)) (aE (aK (aS (aQ (aS (aA (pv 2) (aQ (aS (aA aB (aQ aB)))))))))) aX)
  (aF (yC ["rung","steepness","number"] [none,some 1,some 0] (i:=4) nd rfl (oo rfl) (pI (by rfl) m_range (aA (aI bE (pv 2) aB) (aQ (pv 3)))) (fun _ _ _ _=>(gX 0)) (fun _ _ _ _=>fZ) (fun _ _ _ _=>(aS (aA (pv 0) (aQ (bP C_Share hr (aA (pv 1) (aQ (aI cQ (pv 0) (pv 2))))))))))
  (cZ 5 nd (aS (aA (pv 2) (aQ (bP C_Tail hr (aA (pv 1) (aQ (aI cQ (pv 0) (pv 2))))))))
  (cZ 6 nd (aS (aA (pv 3) (aQ (bP C_Tail hr (aA (pv 1) (aQ (aI cQ (pv 3) (pv 0))))))))
  (aE (aK (uX bU m_tuple dj (aQ (aI yK (aI yK (cM (aQ (pv 5))) (pv 4)) (cM (aQ (pv 6)))))))))))),?_⟩
 obtain⟨a1,a2,a3⟩:=id en;refine⟨_,rfl,_,rfl,rfl,_,rfl,?_⟩
 by_cases c:lo=hi
 ·refine bW (by simp[c]) ?_;refine⟨_,rfl,cS,fun t1 ht1=>⟨cS,fun t2 ht2=>⟨uU,fun t3 ht3=>?_⟩⟩⟩;refine k _ t3 _ ((aC ht1 _).trans ((aC ht2 _).trans (aC ht3 _))) aD ?_;unfold mO;rw[ao c];exact⟨⟨t2,t1,rfl,aC ht3 _ _ _ aD,aC ht3 _ _ _ (aC ht2 _ _ _ aD)⟩,trivial⟩
 refine bJ (by simp[c]) ?_;have lt:lo<hi:=by lia
 refine⟨_,rfl,_,_,rfl,rfl,_,rfl,_,_,rfl,⟨by lia,by lia,by lia,by lia⟩,fV (n:=(hi-(lo+1)).toNat) (fun i zs σ H2=>aR H H2/\(∃v,σ=[v,some (.ref st),some (.int n)])/\dH (nC H2) zs ((aU (lo+1) i).map (ent p q lo hi n)))
  (aL (by lia)) ⟨aR.refl _,⟨_,rfl⟩,trivial⟩ (by rintro i zs σ H2 ⟨_,_,e⟩;rw[e.length,ac,bS];exact af _) ?_ ?_⟩
 ·rintro i zs σ H2 hi' ⟨s2,⟨v,rfl⟩,tw⟩;refine⟨_,rfl,_,rfl,_,rfl,_,rfl,_,_,rfl,rfl,st,p,q,lo+1+i-n,rfl,s2 _ _ hst,hs,by lia,by lia,fun H3 r s3 hr'=>⟨cS,fun t ht=>?_⟩⟩;refine⟨s2.trans (s3.trans (aC ht _)),⟨_,rfl⟩,?_⟩;rw[cD,aq];refine dH.append (fJ (.of (s3.trans (aC ht _))) tw) ⟨⟨t,r,rfl,aD,?_⟩,trivial⟩;have hne:¬(lo+1+(i:Int)=lo\/lo+1+(i:Int)=hi):=by lia
  have hr2:=aC ht (.tup [.int (lo+1+i),.ref r]) _ _ hr';unfold ent eN eD;rw[ai hne];exact hr2
 rintro bs σ H2 ⟨s2,_,tw⟩ lb hlb;have g2:aR H (aN H2 lb (.lst bs)):=s2.trans (aC hlb _);have hb2:aN H2 lb (.lst bs) lb=some (.lst bs):=aD;have tw2:=fJ (.of (aC hlb (.lst bs))) tw;have hbl:bs.length<=1000:=by rw[tw.length,ac,bS];lia
 generalize aN H2 lb (.lst bs)=H3 at g2 hb2 tw2 ⊢;refine⟨_,rfl,_,rfl,_,rfl,_,rfl,_,_,rfl,rfl,st,p,q,n-lo,rfl,g2 _ _ hst,hs,by lia,by lia,fun H4 r4 s4 h4=>⟨cS,fun t4 ht4=>?_⟩⟩;have g4:=s4.trans (aC ht4 (.tup [.int lo,.ref r4]));have e4:nC (aN H4 t4 (.tup [.int lo,.ref r4])) (.ref t4) (ent p q lo hi n lo):=by
  refine⟨t4,r4,rfl,aD,aC ht4 _ _ _ ?_⟩;have ek:(lo-n).natAbs=(n-lo).toNat:=by lia
  have c0:0<=n-lo:=by lia
  unfold tN tD at h4;simp only[if_pos c0] at h4;unfold ent eN eD;rw[ao (oo rfl),ek];exact h4
 generalize aN H4 t4 (.tup [.int lo,.ref r4])=H5 at g4 e4 ⊢;refine⟨_,rfl,_,rfl,_,rfl,_,rfl,_,_,rfl,rfl,st,p,q,hi-n,rfl,g4 _ _ (g2 _ _ hst),hs,by lia,by lia,fun H6 r6 s6 h6=>⟨cS,fun t6 ht6=>?_⟩⟩;have g6:=s6.trans (aC ht6 (.tup [.int hi,.ref r6]));have e6:nC (aN H6 t6 (.tup [.int hi,.ref r6])) (.ref t6) (ent p q lo hi n hi):=by
  refine⟨t6,r6,rfl,aD,aC ht6 _ _ _ ?_⟩;have ek:(hi-n).natAbs=(hi-n).toNat:=by lia
  have c0:0<=hi-n:=by lia
  unfold tN tD at h6;simp only[if_pos c0] at h6;unfold ent eN eD;rw[ao (vw rfl),ek];exact h6
 generalize aN H6 t6 (.tup [.int hi,.ref r6])=H7 at g6 e6 ⊢;refine⟨_,rfl,uU,fun l1 hl1=>?_⟩;have hb7:H7 lb=some (.lst bs):=g6 _ _ (g4 _ _ hb2);refine⟨_,rfl,l1,lb,_,_,rfl,rfl,aD,aC hl1 _ _ _ hb7,fi (aL (by show 1+bs.length<=1000;rw[tw.length,ac,bS];lia)),fun l2 hl2=>?_⟩;refine⟨_,rfl,uU,fun l3 hl3=>?_⟩;refine⟨l2,l3,_,_,rfl,rfl,aC hl3 _ _ _ aD,aD,fi (aL (by rw[bg];show 1+bs.length+1<=1000;rw[tw.length,ac,bS];lia)),fun l4 hl4=>?_⟩;refine⟨l4,_,rfl,.inl ⟨bR.of aD,fun u hu'=>?_⟩⟩;have gg:=(aC hl1 (.lst [.ref t4])).trans ((aC hl2 _).trans ((aC hl3 _).trans ((aC hl4 _).trans (aC hu' (.tup ([V.ref t4]++bs++[V.ref t6]))))));refine k _ u _ (g2.trans (g4.trans (g6.trans gg))) aD ?_;unfold mO;rw[ai c,aA0 lt,aq,aq];refine dH.append (dH.append ⟨e4.ts ((TS.of g6).trans (TS.of gg)),trivial⟩ (fJ ((TS.of (g4.trans g6)).trans (TS.of gg)) tw2)) ⟨e6.ts (TS.of gg),trivial⟩
def aW7(C_Merg:Cl P w K mg base 4 tX "merged")(C_Cut:Cl P w K mg base 1 spCut "cut")(m_range:mg "range"=none):eV P w K mg base "flat_table" "flat_table" aW6 5 ["number","spread","low","high"] spFlatT:=by
 refine fL ["number","spread","low","high","share"] fun H Q nd hr h=>?_
 obtain⟨n,r,lo,hi,rfl,r0,r4,en,k⟩:=h;refine⟨_,(cZ 4 nd (aS (aA aB (aQ (aI bE (aI iO aB (pv 1)) aB))))
  (aE (aK (bP C_Merg hr (aQ (fE ["move","share","low","high","number"] [none,some 4,some 2,some 3,some 0] (pI (by rfl) m_range (aA (bJ9 aF4 (pv 1)) (aQ (aI bE (pv 1) aB)))) (fun _ _ _ _=>(gX 0)) (fun _ _ _ _=>fZ) (fun _ _ _ _=>(aS (aA (bP C_Cut hr (aA (aI bE (pv 4) (pv 0)) (aA (pv 2) (aQ (pv 3))))) (aQ (pv 1))))))))))),?_⟩
 have ea:=en.a;have eb:=en.b;have ec:=en.c;refine⟨_,rfl,_,_,rfl,rfl,⟨⟨by lia,by lia⟩,⟨by lia,by lia⟩⟩,_,_,rfl,rfl,cS,fun t0 ht0=>?_⟩;have s0:=aC ht0 (.tup [.int 1,.int (2*r+1)]);have h0:aY (aN H t0 (.tup [.int 1,.int (2*r+1)])) t0 1 (2*r+1):=aD;generalize aN H t0 (.tup [.int 1,.int (2*r+1)])=H0 at s0 h0 ⊢;refine⟨_,rfl,_,rfl,_,rfl,_,_,rfl,rfl,_,_,rfl,⟨by lia,by lia,by lia,by lia⟩,fV (n:=(r+1 - -r).toNat) (fun i zs σ H2=>aR H0 H2/\(∃v,σ=[v,some (.ref t0),some (.int lo),some (.int hi),some (.int n)])/\dH (nC H2) zs (((aU (-r) i).map fun u=>qK (n+u) lo hi).map fun k=>(k,1,2*r+1)))
  (aL (by lia)) ⟨aR.refl _,⟨_,rfl⟩,trivial⟩ (by rintro i zs σ H2 ⟨_,_,e⟩;rw[e.length,ac,ac,bS];exact af _) ?_ ?_⟩
 ·rintro i zs σ H2 hi' ⟨s2,⟨v,rfl⟩,tw⟩;refine⟨_,rfl,_,rfl,_,_,rfl,rfl,_,rfl,_,rfl,_,_,_,rfl,_,rfl,cS,fun t ht=>?_⟩;refine⟨s2.trans (aC ht _),⟨_,rfl⟩,?_⟩;rw[cD,aq,aq];exact dH.append (fJ (.of (aC ht _)) tw) ⟨⟨t,t0,rfl,aD,aC ht _ _ _ (s2 _ _ h0)⟩,trivial⟩
 ·rintro zs σ H2 ⟨s2,_,tw⟩ l2 hl2;have fl:(iS n r lo hi).length<=9:=by unfold iS;rw[ac,bS];lia
  refine⟨l2,zs,(iS n r lo hi).map fun k=>(k,1,2*r+1),rfl,aD,fJ (.of (aC hl2 _)) tw,by rw[ac];lia,vH (m:=2*r+1) (by lia) (by lia) (iS n r lo hi) (fun _=>none) (fun _=>0) 0 (fun _=>⟨cw _,cw _⟩) (by lia) (fun _=>rfl),fun H3 t ws ks s3 ht hk hm two=>?_⟩;rw[aF9 eb r0 hk hm] at two;exact k H3 t ws (s0.trans (s2.trans ((aC hl2 _).trans s3))) ht two
def cD7(C_Come:Cl P w K mg base 4 spCome "come_to")(C_Pow:Cl P w K mg base 1 spPow "power")(C_Divd:Cl P w K mg base 3 spDiv "divided")(m_tuple:mg "tuple"=none)(m_enumerate:mg "enumerate"=none):eV P w K mg base "choose_table" "choose_table" cT3 5 ["numbers","steepness"] spChT:=by
 refine fL ["numbers","steepness","weights","total"] fun H Q nd hr h=>?_
 obtain⟨nt,st,p,q,ns,rfl,hnt,h9,l1,l4,hst,hs,k⟩:=h;refine⟨_,(aF (yC ["number","steepness"] [none,some 1] (i:=2) nd rfl (oo rfl) (mU (pv 0)) (fun _ _ _ _=>(gX 0)) (fun _ _ _ _=>fZ) (fun _ _ _ _=>(bP C_Pow hr (aA (aS (aA (bQ (bB1 K) (pv 1) aB) (aQ (bQ (bB1 K) (pv 1) aB)))) (aQ (pv 0))))))
  (cZ 3 nd (bP C_Come hr (aQ (pv 2)))
  (aE (aK (uX bU m_tuple dj (aQ (fE ["place","weight","total"] [none,none,some 3] (bP5 (by rfl) m_enumerate (aQ (pv 2))) (fun _ _ _ _=>(cJ3 K (n:=2) rfl (bY (gX 0) (bY (gX 1) gB)))) (fun _ _ _ _=>fZ) (fun _ _ _ _=>(aS (aA (pv 0) (aQ (bP C_Divd hr (aA (pv 1) (aQ (pv 2))))))))))))))),?_⟩
 obtain⟨p1,pq,q9⟩:=id hs;refine⟨_,rfl,nt,rfl,⟨_,aT.of hnt⟩,uB (xs:=ns.map V.int) (fun i zs σ H2=>aR H H2/\(∃v,σ=[v,some (.ref st)])/\dH (FrR H2) zs ((ns.take i).map (wC p q)))
  (aL (by rw[ac];lia)) ⟨aR.refl _,⟨_,rfl⟩,trivial⟩ (by rintro i zs σ H2 ⟨_,_,e⟩;rw[e.length,ac,ef];lia) (by rintro i zs σ H2 _ ⟨e,_⟩;exact aT.of (e _ _ hnt)) ?_ ?_⟩
 ·rintro i y zs σ H2 hy ⟨s2,⟨v,rfl⟩,tw⟩;obtain⟨n,rfl,hn⟩:=lE hy;have n9:=h9 n (bj hn);refine⟨_,rfl,st,_,_,_,rfl,rfl,aT.of (s2 _ _ hst),qR p q,_,rfl,st,_,_,_,rfl,rfl,aT.of (s2 _ _ hst),zR p q,cS,fun t ht=>?_⟩;refine⟨_,rfl,t,q,p,n,rfl,aD,by lia,by lia,by lia,by lia,by lia,by lia,fun r hr'=>?_⟩;have s4:=(aC ht (.tup [.int q,.int p])).trans (aC hr' (.tup [.int (q^n.toNat),.int (p^n.toNat)]));refine⟨s2.trans s4,⟨_,rfl⟩,?_⟩;rw[cX hn,aq];exact dH.append (tw.mono fun _ _ z=>z.ts (.of s4)) ⟨⟨r,rfl,aD⟩,trivial⟩
 rintro zs σ H2 ⟨s2,_,tw⟩ lb hlb;rw[ac,eh] at tw;have zl:zs.length=ns.length:=by rw[tw.length,ac]
 have g2:=s2.trans (aC hlb (.lst zs));have hb2:aN H2 lb (.lst zs) lb=some (.lst zs):=aD;have tw2:dH (FrR (aN H2 lb (.lst zs))) zs (ns.map (wC p q)):=tw.mono fun _ _ z=>z.ts (.of (aC hlb _))
 generalize aN H2 lb (.lst zs)=H3 at g2 hb2 tw2 ⊢;have sf:aD1 (0,1) (ns.map (wC p q)):=by
  rw[vE p1];exact qD hs ns 0 (cw _) (by lia) h9
 have et:(ns.map (wC p q)).foldl cY (0,1)=(bH (fA p q ns) (p^9),bA (fA p q ns) (p^9)):=by
  rw[vE p1,aB9 hs ns 0 (cw _) h9,sv]
 refine⟨_,rfl,lb,zs,ns.map (wC p q),rfl,hb2,tw2,sf,fun H4 qt s4 hqt=>?_⟩;rw[et] at hqt;have S1:=bC0 hs h9 l1;have Sb:=xT hs ns h9;have p9:=qG (a:=p) (n:=9) (by lia) (by lia) (by decide);have hP:1<=p^9:=by have:(0:Int)<p^9:=gh (by lia);lia
 generalize hS:fA p q ns=T at hqt S1 Sb;have fr:=mX (S:=T) (P:=p^9) (by lia) (by lia) hP (by lia);have hb4:=s4 _ _ hb2;refine⟨_,rfl,lb,rfl,⟨_,bR.of hb4⟩,aV4 (K:=K) (a:=lb) (xs:=zs) (fun i ys σ H5=>aR H4 H5/\(∃v1 v2,σ=[v1,v2,some (.ref qt)])/\dH (nC H5) ys (kT T 0 ((ns.take i).map (gC p q))))
  (aL (by lia)) ⟨aR.refl _,⟨_,_,rfl⟩,trivial⟩ (fun i ys σ H5 ⟨_,_,e⟩=>by
   rw[e.length];have e2:∀(l:List Int) (f:Int),(kT T f l).length=l.length:=by
    intro l
    induction l with
    |nil=>intro f;rfl
    |cons a r ih=>intro f;simp[kT,ih]
   rw[e2,ac,ef];lia) (by rintro i ys σ H5 _ ⟨e,_⟩;exact bR.of (e _ _ hb4)) ?_ ?_⟩
 ·rintro i x ys σ H5 t hx ⟨s5,⟨v1,v2,rfl⟩,tw5⟩ ht;obtain⟨f,hf,qq,rfl,hqq⟩:=tw2.at hx;rw[df] at hf;obtain⟨n,hn,rfl⟩:=gz.mp hf;have n9:=h9 n (bj hn);have hi:i<ns.length:=(bz.mp hn).1;have s6:=s5.trans (aC ht (.tup [.int i,.ref qq]));have tw6:=fJ (.of (aC ht (.tup [.int i,.ref qq]))) tw5;have ht6:aN H5 t (.tup [.int i,.ref qq]) t=some (.tup [.int i,.ref qq]):=aD;generalize aN H5 t (.tup [.int i,.ref qq])=H6 at s6 tw6 ht6 ⊢;refine⟨t,_,rfl,aT.of ht6,rfl,_,_,rfl,_,_,rfl,rfl,?_⟩;refine⟨_,rfl,_,rfl,_,rfl,qq,qt,wC p q n,(bH T (p^9),bA T (p^9)),rfl,s6 _ _ (s4 _ _ hqq),s6 _ _ hqt,aP6 hs n9.1 n9.2,fr,jB S1 hP,fun r hr'=>⟨cS,fun u hu'=>?_⟩⟩;have cs:=xO hs S1 n9.1 n9.2;have hr7:aY (aN H6 r (.tup (iG ((wC p q n).1*bA T (p^9)) ((wC p q n).2*bH T (p^9))))) r (bH (gC p q n) T) (bA (gC p q n) T):=by
   rw[<-cs.1, <-cs.2];exact aD
  have s7:=aC hr' (.tup (iG ((wC p q n).1*bA T (p^9)) ((wC p q n).2*bH T (p^9))));generalize aN H6 r (.tup (iG ((wC p q n).1*bA T (p^9)) ((wC p q n).2*bH T (p^9))))=H7 at hr7 s7 hu' ⊢;refine⟨s6.trans (s7.trans (aC hu' _)),⟨_,_,rfl⟩,?_⟩;rw[cX hn,aq];show dH _ _ (kT T 0 ((ns.take i).map (gC p q)++[gC p q n]));rw[pQ];have el:((ns.take i).map (gC p q)).length=i:=by rw[ac,ef];lia
  rw[el,sv];exact dH.append (fJ (.of (s7.trans (aC hu' _))) tw6) ⟨⟨u,r,rfl,aD,aC hu' _ _ _ hr7⟩,trivial⟩
 ·rintro ys σ H5 ⟨s5,_,tw5⟩ l6 hl6;rw[zl,eh] at tw5;refine⟨l6,_,rfl,.inl ⟨bR.of aD,fun u hu'=>?_⟩⟩;have s6:=(aC hl6 (.lst ys)).trans (aC hu' (.tup ys));refine k _ u ys (g2.trans (s4.trans (s5.trans s6))) aD ?_;rw[hS];exact fJ (.of s6) tw5
def aS6(C_Num:Cl P w K mg base 3 spNumU "number_of")(C_Lad:Cl P w K mg base 6 spLad "ladder_table")(C_Merg:Cl P w K mg base 4 tX "merged")(C_From:Cl P w K mg base 6 spFrom "share_from")(C_Times:Cl P w K mg base 3 qY "times")(C_Minus:Cl P w K mg base 3 spMinus "minus")(m_enumerate:mg "enumerate"=none)(m_len:mg "len"=none):eV P w K mg base "first_table" "first_table" aQ9 7 ["row","crowd"] spFirstT:=by
 refine fL ["row","crowd","low","high","numbers","pairs","mark","share","left","place","number","yes"] fun H Q nd hr h=>?_
 obtain⟨r,c,x,mk,sa,sb,sm,lo,hi,wss,cs,pa,qa,pb,qb,rfl,FA,k⟩:=h;have hr6:dE 6 _:=hr.mono (by decide);refine⟨_,(cZ 2 nd (bQ aG (pv 0) aB)
  (cZ 3 nd (bQ aG (pv 0) aB)
  (cZ 4 nd (bP C_Num hr (aA (pv 0) (aQ (pv 1))))
  (cZ 5 nd (cM eL)
  (aF (xN (mU (bP C_Lad hr (aA (bQ aG (pv 0) aB) (aA (bQ aG (pv 0) aB) (aA (pv 2) (aQ (pv 3))))))) (kC rfl (bY (gX 6 nd) (bY (gX 7 nd) gB)))
  (cZ 8 nd (pv 7)
  (aF (xN (bI0 (by rfl) m_enumerate (aQ (pv 4))) (kC rfl (bY (gX 9 nd) (bY (gX 10 nd) gB)))
  (cZ 11 nd (bP C_From hr (aA (pv 6) (aA (pv 10) (aA (bQ aG (pv 0) aB) (aA (pv 2) (aQ (aI cQ (pv 3) aB)))))))
  (aF (cO (eZ bh cz de cJ (pv 5) (aQ (aS (aA (pv 9) (aQ (bP C_Times hr (aA (pv 8) (aQ (pv 11))))))))))
  (aE (psz 8 nd (bP C_Times hr (aA (pv 8) (aQ (bP C_Minus hr (aA (aS (aA aB (aQ aB))) (aQ (pv 11))))))))))))
  (aE (cO (eZ bh cz de cJ (pv 5) (aQ (aS (aA (pB cC m_len ic (aQ (pv 4))) (aQ (pv 8)))))))))))
  (aE (aK (bP C_Merg hr (aQ (pv 5)))))))))),?_⟩
 obtain⟨hw,so,hcs,few,hsa,hsb,F⟩:=id FA;have ea:=F.en.a;have eb:=F.en.b;have ec:=F.en.c;refine⟨_,rfl,r,_,_,_,rfl,rfl,aT.of hw,rfl,?_⟩;refine⟨_,rfl,r,_,_,_,rfl,rfl,aT.of hw,rfl,?_⟩;refine⟨_,rfl,_,rfl,r,"first",.ref sm,lo,hi-1,wss,c,cs,rfl,aB3.v (T:= .fst pa qa pb qb mk lo hi) ⟨x,sa,sb,sm,rfl,hw,hsa,hsb⟩,.inr ⟨xY (.fst pa qa pb qb mk lo hi),sm,rfl,so⟩,hcs,few,fun H1 nt s1 hnt=>?_⟩;generalize hns:cU wss cs lo (hi-1)=ns at hnt F k;refine⟨bi _,fun lp hlp=>?_⟩;have hlp0:H lp=none:=by
  cases q:H lp with
  |none=>rfl
  |some o=>rw[s1 _ _ q] at hlp;cases hlp
 have s1':=s1.trans (aC hlp (.lst []));have hnt1:=aC hlp (.lst []) _ _ hnt;have hlp1:aN H1 lp (.lst []) lp=some (.lst []):=aD;generalize aN H1 lp (.lst [])=H1' at s1' hnt1 hlp1 ⊢;refine⟨_,rfl,r,_,_,_,rfl,rfl,aT.of (s1' _ _ hw),rfl,_,rfl,r,_,_,_,rfl,rfl,aT.of (s1' _ _ hw),rfl,_,rfl,_,rfl,?_⟩;refine⟨sa,pa,qa,mk,lo,hi,rfl,s1' _ _ hsa,F.sa,⟨ea,by lia,ec⟩,F.m0,F.m1,fun H2 lt us s2 hlt tw=>?_⟩;rw[aB1 F.sa F.m0 F.m1 (by lia)] at tw;have g2:=s1'.trans s2;have hlp2:=s2 _ _ hlp1;have hnt2:dF H2 nt ns:=s2 _ _ hnt1;have wb:=aP4 F.sa F.sb F.en F.l4;have ul:us.length=(hi+1-lo).toNat:=by rw[tw.length,ac,bS]
 have l4:=F.l4;have b34:=tR F.sa ea (show lo<=hi by lia) ec;have u34:=tR (lo:=lo) (hi:=hi-1) F.sb ea (by lia) (by lia);refine⟨lt,rfl,⟨_,aT.of hlt⟩,aR1 (K:=K) (a:=lt) (xs:=us) (fun j σ Hj=>∃ps v6 v7 v8 v9 v10 v11,σ=[some (.ref r),some (.ref c),some (.int lo),some (.int hi),some (.ref nt),some (.ref lp),v6,v7,v8,v9,v10,v11]/\aR H Hj/\TS H2 Hj/\Hj lp=some (.lst ps)/\dH (nC Hj) ps ((eB pa qa pb qb mk ns lo hi j).map (aS8 (wF pa qa pb qb lo hi ns.length))))
  ⟨[],_,_,_,_,_,_,rfl,g2,fun _ _ e=>e,hlp2,trivial⟩ (by rintro j σ Hj _ ⟨_,_,_,_,_,_,_,_,_,t,_⟩;exact aT.of (t _ _ hlt)) ?_ ?_⟩
 ·rintro j v σ Hj hv ⟨ps,v6,v7,v8,v9,v10,v11,rfl,sj,tj,hlpj,twj⟩;have hj:j<(hi+1-lo).toNat:=by rw[<-ul];exact(bz.mp hv).1
  obtain⟨e,he,t,q0,rfl,ht,hq0⟩:=tw.at hv;rw[df,aI0 hj] at he;have ee:e=(lo+(j:Int),aW (dJ pa qa lo hi mk (lo+(j:Int))) (eG pa qa lo hi)):=(cq he).symm;subst ee;refine⟨t,_,rfl,aT.of (tj _ _ ht),rfl,_,_,rfl,_,_,rfl,rfl,?_⟩;refine⟨_,rfl,?_⟩;have l0:=yD (lo:=lo) (hi:=hi) (n:=mk) (y:=lo+(j:Int)) F.sa;have lb:=uZ F.sa F.m0 F.m1 (show lo<hi by lia) (show lo<=lo+(j:Int) by lia) (show lo+(j:Int)<=hi by lia);have tris:=F.tris (m:=lo+(j:Int));have pe:eG pa qa lo hi*dM (ns.map (wT pb qb lo (hi-1) (lo+(j:Int))))=(wF pa qa pb qb lo hi ns.length):=by rw[lK];rfl
  have psl:=twj.length;rw[ac,jJ] at psl;have jb:j*(ns.length+1)<=10*5:=dy (show j<=10 by lia) (show ns.length+1<=5 by lia);refine⟨_,rfl,nt,rfl,⟨_,aT.of (tj _ _ hnt2)⟩,aS1 (K:=K) (a:=nt) (xs:=ns.map V.int) (fun i σ Hi=>∃ps2 l D dc q v9 v10 v11,σ=[some (.ref r),some (.ref c),some (.int lo),some (.int hi),some (.ref nt),some (.ref lp),some (.int (lo+(j:Int))),some (.ref q0),some (.ref q),v9,v10,v11]/\aR H Hi/\TS H2 Hi/\Hi lp=some (.lst ps2) /\
    dH (nC Hi) ps2 ((eB pa qa pb qb mk ns lo hi j++gO 0 dc).map (aS8 (wF pa qa pb qb lo hi ns.length)))/\dD (dJ pa qa lo hi mk (lo+(j:Int))) (ns.map (wT pb qb lo (hi-1) (lo+(j:Int))))=dc++dD l ((ns.map (wT pb qb lo (hi-1) (lo+(j:Int)))).drop i)/\dc.length=i /\
    aY Hi q (aW l D).1 (aW l D).2/\0<=l/\l<=D/\1<=D/\D*dM ((ns.map (wT pb qb lo (hi-1) (lo+(j:Int)))).drop i)=(wF pa qa pb qb lo hi ns.length))
   ⟨ps,dJ pa qa lo hi mk (lo+(j:Int)),eG pa qa lo hi,[],q0,_,_,_,rfl,sj,tj,hlpj,by rw[show gO 0 []=[] from rfl,jk];exact twj,rfl,rfl,tj _ _ hq0,by lia,lb,b34.1,pe⟩ (by rintro i σ Hi _ ⟨_,_,_,_,_,_,_,_,_,_,t,_⟩;exact aT.of (t _ _ hnt2)) ?_ ?_⟩
  ·rintro i y σ Hi t2 hy ⟨ps2,l,D,dc,q,v9,v10,v11,rfl,si,ti,hlpi,twi,ecc,dl,hq,l0',lD,D1,pD⟩ ht2;obtain⟨n,rfl,hn⟩:=lE hy;have hin:i<ns.length:=(bz.mp hn).1;have nn:=F.nn n (bj hn);have hdrop:(ns.map (wT pb qb lo (hi-1) (lo+(j:Int)))).drop i=wT pb qb lo (hi-1) (lo+(j:Int)) n::(ns.map (wT pb qb lo (hi-1) (lo+(j:Int)))).drop (i+1):=bK6 (by rw[df,hn];rfl);have tt:Tri (wT pb qb lo (hi-1) (lo+(j:Int)) n):=tris _ (ci.mpr ⟨n,bj hn,rfl⟩);rw[hdrop] at ecc pD;have prp:1<=dM ((ns.map (wT pb qb lo (hi-1) (lo+(j:Int)))).drop (i+1)):=pH fun t ht=>tris t (yx ht)
   generalize (ns.map (wT pb qb lo (hi-1) (lo+(j:Int)))).drop (i+1)=rest at ecc pD prp ⊢;have ta:0<=aft pb qb lo (hi-1) n (lo+(j:Int)):=tt.a;have tc:0<=bef pb qb lo (hi-1) n (lo+(j:Int)):=tt.c;have tS:aft pb qb lo (hi-1) n (lo+(j:Int))+bef pb qb lo (hi-1) n (lo+(j:Int))=eG pb qb lo (hi-1):=tt.s;have pD':D*(eG pb qb lo (hi-1)*dM rest)=(wF pa qa pb qb lo hi ns.length):=pD;have ecc':dD (dJ pa qa lo hi mk (lo+(j:Int))) (ns.map (wT pb qb lo (hi-1) (lo+(j:Int))))=dc++(l*aft pb qb lo (hi-1) n (lo+(j:Int))*dM rest::dD (l*bef pb qb lo (hi-1) n (lo+(j:Int))) rest):=ecc;have up:1<=eG pb qb lo (hi-1)*dM rest:=by
    have:=dk (show 0<eG pb qb lo (hi-1) by lia) (show 0<dM rest by lia);lia
   have dW:=gf up (show 0<=D by lia);rw[pD',ku] at dW;have si2:=si.trans (aC ht2 (.tup [.int i,.int n]));have ti2:=ti.trans (TS.of (aC ht2 (.tup [.int i,.int n])));have hlpi2:=aC ht2 (.tup [.int i,.int n]) _ _ hlpi;have twi2:=fJ (.of (aC ht2 (.tup [.int i,.int n]))) twi;have hq2:=aC ht2 (.tup [.int i,.int n]) _ _ hq;have htt:aN Hi t2 (.tup [.int i,.int n]) t2=some (.tup [.int i,.int n]):=aD;generalize aN Hi t2 (.tup [.int i,.int n])=Ha at si2 ti2 hlpi2 twi2 hq2 htt ⊢;refine⟨t2,_,rfl,aT.of htt,rfl,_,_,rfl,_,_,rfl,rfl,?_⟩;refine⟨_,rfl,_,rfl,_,rfl,r,_,_,_,rfl,rfl,aT.of (si2 _ _ hw),rfl,_,rfl,_,rfl,_,_,rfl,rfl,?_⟩;refine⟨sb,pb,qb,lo+(j:Int),n,lo,hi-1,rfl,si2 _ _ hsb,F.sb,by lia,by lia,fun Hb qy sB hqy=>?_⟩;rw[bP1 F.sb nn.1 nn.2 (by lia) (by lia) u34.1] at hqy;have si3:=si2.trans sB;have ti3:=ti2.trans (TS.of sB);have hlp3:=sB _ _ hlpi2;have tw3:=fJ (.of sB) twi2
   have hq3:aY Hb q (aW l D).1 (aW l D).2:=sB _ _ hq2;generalize aft pb qb lo (hi-1) n (lo+(j:Int))=A at ta tS ecc' hqy ⊢;generalize bef pb qb lo (hi-1) n (lo+(j:Int))=C at tc tS ecc' ⊢;generalize hU:eG pb qb lo (hi-1)=U at tS pD' up hqy u34;have fl:jN (aW l D):=mX l0' (by lia) D1 (by lia);have fy:jN (aW A U):=mX ta (by lia) u34.1 (by lia);have fc:jN (aW C U):=mX tc (by lia) u34.1 (by lia);have x1:=cj l0' ta;have x2:=cj l0' tc;have x3:=dk (show 0<D by lia) (show 0<U by lia);have x4:=cj x1 (show 0<=dM rest by lia);refine⟨_,rfl,.inl ⟨rfl,_,bR.of hlp3⟩,?_⟩;refine⟨_,rfl,_,rfl,_,rfl,q,qy,_,_,_,_,rfl,hq3,hqy,fl.1,fl.2.1,fy.1,fy.2.1,fl.2.2,fy.2.2,fun r6 hr6=>⟨cS,fun t6 ht6=>?_⟩⟩;have e6:aW ((aW l D).1*(aW A U).1) ((aW l D).2*(aW A U).2)=aW (l*A*dM rest) (wF pa qa pb qb lo hi ns.length):=by
    rw[qX l0' D1 ta u34.1];refine iM x1 (by lia) x4 wb.1 ?_;rw[<-pD'];generalize dM rest=pr
    grind
   have hr6':aY (aN Hb r6 (.tup (iG ((aW l D).1*(aW A U).1) ((aW l D).2*(aW A U).2)))) r6 (aW (l*A*dM rest) (wF pa qa pb qb lo hi ns.length)).1 (aW (l*A*dM rest) (wF pa qa pb qb lo hi ns.length)).2:=by
    rw[<-e6];exact aD
   have s6:=aC hr6 (.tup (iG ((aW l D).1*(aW A U).1) ((aW l D).2*(aW A U).2)));generalize aN Hb r6 (.tup (iG ((aW l D).1*(aW A U).1) ((aW l D).2*(aW A U).2)))=Hc at hr6' s6 ht6 ⊢;have s7:=s6.trans (aC ht6 (.tup [.int i,.ref r6]));have ht7:aN Hc t6 (.tup [.int i,.ref r6]) t6=some (.tup [.int i,.ref r6]):=aD;have hr7:=aC ht6 (.tup [.int i,.ref r6]) _ _ hr6';generalize aN Hc t6 (.tup [.int i,.ref r6])=Hd at s7 ht7 hr7 ⊢;have hlp7:=s7 _ _ hlp3;have psl2:=tw3.length;rw[ac,bg,jJ,lO,dl] at psl2;refine⟨lp,ps2,_,rfl,rfl,hlp7,aL (by lia),?_⟩;have tl:TS Hd (aN Hd lp (.lst (ps2++[.ref t6]))):=TS.lst hlp7;have si8:aR H (aN Hd lp (.lst (ps2++[.ref t6]))):=dN (si3.trans s7) hlp0;have tb8:=(TS.of s7).trans tl;have hlp8:aN Hd lp (.lst (ps2++[.ref t6])) lp=some (.lst (ps2++[.ref t6])):=aD;have tw8:dH (nC (aN Hd lp (.lst (ps2++[.ref t6])))) (ps2++[.ref t6]) ((eB pa qa pb qb mk ns lo hi j++gO 0 (dc++[l*A*dM rest])).map (aS8 (wF pa qa pb qb lo hi ns.length))):=by
    rw[mP, <-iu,aq];refine dH.append (fJ tb8 tw3) ⟨⟨t6,r6,rfl,?_,tl _ _ hr7⟩,trivial⟩;rw[dl];show _=some (HO.tup [.int (0+(i:Int)),.ref r6]);rw[sv];exact tl _ _ ht7
   have hq8:aY (aN Hd lp (.lst (ps2++[.ref t6]))) q (aW l D).1 (aW l D).2:=tb8 _ _ hq3;have hqy8:aY (aN Hd lp (.lst (ps2++[.ref t6]))) qy (aW A U).1 (aW A U).2:=tb8 _ _ hqy;have ti8:=ti3.trans tb8;generalize aN Hd lp (.lst (ps2++[.ref t6]))=He at si8 hlp8 tw8 hq8 hqy8 ti8 ⊢;have le:=yL (a:=A) (b:=U) (by lia) u34.1;refine⟨_,rfl,cS,fun t9 ht9=>⟨_,rfl,t9,qy,1,1,_,_,rfl,aD,aC ht9 _ _ _ hqy8,⟨by decide,by decide⟩,⟨by decide,by decide⟩,fy.1,fy.2.1,by decide,fy.2.2,by show bH A U*1<=1*bA A U;lia,fun r9 hr9=>?_⟩⟩;have e9:=bO3 ta tc u34.1 tS;have hr9':aY (aN (aN He t9 (.tup [.int 1,.int 1])) r9 (.tup (iG (1*(aW A U).2-(aW A U).1*1) (1*(aW A U).2)))) r9 (aW C U).1 (aW C U).2:=by
    rw[<-e9];exact aD
   have s9:=(aC ht9 (.tup [.int 1,.int 1])).trans (aC hr9 (.tup (iG (1*(aW A U).2-(aW A U).1*1) (1*(aW A U).2))));generalize aN (aN He t9 (.tup [.int 1,.int 1])) r9 (.tup (iG (1*(aW A U).2-(aW A U).1*1) (1*(aW A U).2)))=Hf at hr9' s9 ⊢;refine⟨q,r9,_,_,_,_,rfl,s9 _ _ hq8,hr9',fl.1,fl.2.1,fc.1,fc.2.1,fl.2.2,fc.2.2,fun ra hra=>?_⟩;have e10:=qX l0' D1 tc u34.1;have sA:=s9.trans (aC hra (.tup (iG ((aW l D).1*(aW C U).1) ((aW l D).2*(aW C U).2))));have hra':aY (aN Hf ra (.tup (iG ((aW l D).1*(aW C U).1) ((aW l D).2*(aW C U).2)))) ra (aW (l*C) (D*U)).1 (aW (l*C) (D*U)).2:=by
    rw[<-e10];exact aD
   have lC:l*C<=D*U:=bm (gf (show C<=U by lia) l0') (cu lD (by lia));refine⟨ps2++[.ref t6],l*C,D*U,dc++[l*A*dM rest],ra,_,_,_,rfl,si8.trans sA,ti8.trans (TS.of sA),sA _ _ hlp8,fJ (.of sA) tw8,?_,by rw[bg,dl];rfl,hra',x2,lC,by lia,?_⟩
   ·rw[ecc',iu];rfl
   ·rw[qk];exact pD'
  ·rintro σ Hi ⟨ps2,l,D,dc,q,v9,v10,v11,rfl,si,ti,hlpi,twi,ecc,dl,hq,l0',lD,D1,pD⟩;rw[ac] at ecc dl pD;have hdr:(ns.map (wT pb qb lo (hi-1) (lo+(j:Int)))).drop ns.length=[]:=by rw[xz];rw[ac];exact af _
   rw[hdr] at ecc pD;have pD1:D*1=(wF pa qa pb qb lo hi ns.length):=pD;rw[ku] at pD1;subst pD1;refine⟨_,rfl,.inl ⟨rfl,_,bR.of hlpi⟩,?_⟩;refine⟨_,rfl,nt,_,rfl,.inr (aT.of (ti _ _ hnt2)),_,rfl,cS,fun t6 ht6=>?_⟩;obtain⟨Hd,e0,s7,ht7⟩:=lay ht6 (.tup [.int ((ns.map V.int).length:Int),.ref q]);rw[e0];clear e0;have hlp7:=s7 _ _ hlpi;have psl2:=twi.length;rw[ac,bg,jJ,lO,dl] at psl2;refine⟨lp,ps2,_,rfl,rfl,hlp7,aL (by lia),?_⟩;have tl:TS Hd (aN Hd lp (.lst (ps2++[.ref t6]))):=TS.lst hlp7;have tb8:=(TS.of s7).trans tl;refine⟨ps2++[.ref t6],_,_,_,_,_,_,rfl,dN (si.trans s7) hlp0,ti.trans tb8,aD,?_⟩;rw[kZ];unfold sN;rw[ecc];show dH _ _ ((eB pa qa pb qb mk ns lo hi j++gO 0 (dc++[l])).map _);rw[mP, <-iu,aq];refine dH.append (fJ tb8 twi) ⟨⟨t6,q,rfl,?_,tb8 _ _ hq⟩,trivial⟩;rw[dl];show _=some (HO.tup [.int (0+(ns.length:Int)),.ref q])
   rw[sv];rw[ac] at ht7;exact tl _ _ ht7
 ·rintro σ Hj ⟨ps,v6,v7,v8,v9,v10,v11,rfl,sj,tj,hlpj,twj⟩;rw[ul] at twj;refine⟨_,rfl,lp,ps,_,rfl,hlpj,twj,by rw[ac];have:=F.len;lia,F.safe,fun H3 t ws ks s3 ht hk hm two=>?_⟩;rw[F.table hk hm] at two;exact k H3 t ws (sj.trans s3) ht two
def cC9(C_Num:Cl P w K mg base 3 spNumU "number_of")(C_Lad:Cl P w K mg base 6 spLad "ladder_table")(C_FirstT:Cl P w K mg base 7 spFirstT "first_table")(C_ChT:Cl P w K mg base 5 spChT "choose_table")(C_FlatT:Cl P w K mg base 5 spFlatT "flat_table"):eV P w K mg base "thrown" "thrown" cT2 8 ["row","crowd"] spThrU:=by
 refine fL ["row","crowd","numbers"] fun H Q nd hr h=>?_
 obtain⟨r,c,T,a3,wss,cs,rfl,⟨hrow,so,hcs⟩,hok,ak,k⟩:=h;refine⟨_,(aF (bM (eO cG (bQ aG (pv 0) aB) aJ) (aE (aK (bP C_FirstT hr (aA (pv 0) (aQ (pv 1)))))) aX)
  (cZ 2 nd (bP C_Num hr (aA (pv 0) (aQ (pv 1))))
  (aF (bM (eO cG (bQ aG (pv 0) aB) aJ) (aE (aK (bP C_ChT hr (aA (pv 2) (aQ (bQ aG (pv 0) aB)))))) aX)
  (aF (bM (eO cG (bQ aG (pv 0) aB) aJ) (aE (aK (bP C_FlatT hr (aA (bQ aG (pv 2) aB) (aA (bQ aG (pv 0) aB) (aA (bQ aG (pv 0) aB) (aQ (bQ aG (pv 0) aB)))))))) aX)
  (aE (aK (bP C_Lad hr (aA (bQ aG (pv 2) aB) (aA (bQ aG (pv 0) aB) (aA (bQ aG (pv 0) aB) (aQ (bQ aG (pv 0) aB)))))))))))),?_⟩
 have nm:=ak.num hok
 cases T with
 |fst pa qa pb qb mk lo hi =>
  obtain⟨x,sa,sb,sm,rfl,hw,hsa,hsb⟩:=hrow;rcases so with⟨z,_⟩|⟨_,sm',e,so⟩
  ·cases z
  cases e
  refine⟨_,rfl,r,_,_,_,rfl,rfl,aT.of hw,rfl,rfl,_,rfl,sS (bH6 _) ?_⟩;refine⟨_,rfl,_,rfl,r,c,x,mk,sa,sb,sm,lo,hi,wss,cs,pa,qa,pb,qb,rfl,⟨hw,so,hcs,ak.few,hsa,hsb,dY.inF hok nm⟩,fun H1 t us s1 ht tw=>k H1 t us s1 ht ?_⟩;rw[dY.tab_fst];exact tw
 |cho p q lo hi =>
  have hv:=aB3.v hrow;obtain⟨x,st,hw,hst⟩:=hrow;refine⟨_,rfl,r,_,_,_,rfl,rfl,aT.of hw,rfl,rfl,_,rfl,jF (aE5 bG8) ?_⟩;refine⟨_,rfl,_,rfl,r,_,a3,lo,hi,wss,c,cs,rfl,hv,by rw[xY];exact so,hcs,ak.few,fun H1 t s1 ht=>?_⟩;have hw1:=s1 _ _ hw;refine⟨_,rfl,r,_,_,_,rfl,rfl,aT.of hw1,rfl,rfl,_,rfl,sS (bH6 _) ?_⟩;have e:=hok.l.2;have ea:=e.a;have ec:=e.c;refine⟨_,rfl,_,rfl,r,_,_,_,rfl,rfl,aT.of hw1,rfl,t,st,p,q,_,rfl,ht,fun n hn=>?_,nm.l1,nm.l4,s1 _ _ hst,hok.l.1,fun H2 u us s2 hu' tw=>k H2 u us (s1.trans s2) hu' ?_⟩
  ·have i:lo<=n/\n<=hi:=nm.i n hn;exact⟨by lia,by lia⟩
  ·rw[dY.tab_cho hok nm.i];exact tw
 |fla rr lo hi =>
  have hv:=aB3.v hrow;obtain⟨x,hw⟩:=hrow;refine⟨_,rfl,r,_,_,_,rfl,rfl,aT.of hw,rfl,rfl,_,rfl,jF (aE5 bK3) ?_⟩;refine⟨_,rfl,_,rfl,r,_,a3,lo,hi,wss,c,cs,rfl,hv,by rw[xY];exact so,hcs,ak.few,fun H1 t s1 ht=>?_⟩;have hw1:=s1 _ _ hw;refine⟨_,rfl,r,_,_,_,rfl,rfl,aT.of hw1,rfl,rfl,_,rfl,jF (aE5 cT5) ?_⟩;refine⟨_,rfl,r,_,_,_,rfl,rfl,aT.of hw1,rfl,rfl,_,rfl,sS (bH6 _) ?_⟩;obtain⟨n,en⟩:=dY.one_num (nm.o rfl);have en:cU wss cs lo hi=[n]:=en;rw[en] at ht;have kk:∀H' t us,aR H H'->H' t=some (.tup us)->dH (nC H') us ((dY.fla rr lo hi).tab (cU wss cs lo hi))->Q (.ref t) H':=k;rw[en] at kk;refine⟨_,rfl,t,_,_,_,rfl,rfl,aT.of ht,rfl,_,rfl,r,_,_,_,rfl,rfl,aT.of hw1,rfl,_,rfl,r,_,_,_,rfl,rfl,aT.of hw1,rfl,_,rfl,r,_,_,_,rfl,rfl,aT.of hw1,rfl,?_⟩;exact⟨n,rr,lo,hi,rfl,hok.l.1,hok.l.2.1,hok.l.2.2,fun H2 u us s2 hu' tw=>kk H2 u us (s1.trans s2) hu' tw⟩
 |lad p q lo hi =>
  have hv:=aB3.v hrow;obtain⟨x,st,hw,hst⟩:=hrow;refine⟨_,rfl,r,_,_,_,rfl,rfl,aT.of hw,rfl,rfl,_,rfl,jF (aE5 bE0) ?_⟩;refine⟨_,rfl,_,rfl,r,_,a3,lo,hi,wss,c,cs,rfl,hv,by rw[xY];exact so,hcs,ak.few,fun H1 t s1 ht=>?_⟩;have hw1:=s1 _ _ hw;refine⟨_,rfl,r,_,_,_,rfl,rfl,aT.of hw1,rfl,rfl,_,rfl,jF (aE5 cJ4) ?_⟩;refine⟨_,rfl,r,_,_,_,rfl,rfl,aT.of hw1,rfl,rfl,_,rfl,jF (aE5 cJ5) ?_⟩;obtain⟨n,en⟩:=dY.one_num (nm.o rfl);have en:cU wss cs lo hi=[n]:=en;have i:lo<=n/\n<=hi:=nm.i n (by show n∈cU wss cs lo hi;rw[en];exact av.mpr rfl);rw[en] at ht;have kk:∀H' t us,aR H H'->H' t=some (.tup us)->dH (nC H') us ((dY.lad p q lo hi).tab (cU wss cs lo hi))->Q (.ref t) H':=k;rw[en,dY.tab_lad hok i.1 i.2] at kk;refine⟨_,rfl,t,_,_,_,rfl,rfl,aT.of ht,rfl,_,rfl,r,_,_,_,rfl,rfl,aT.of hw1,rfl,_,rfl,r,_,_,_,rfl,rfl,aT.of hw1,rfl,_,rfl,r,_,_,_,rfl,rfl,aT.of hw1,rfl,?_⟩;exact⟨st,p,q,n,lo,hi,rfl,s1 _ _ hst,hok.l.1,hok.l.2,i.1,i.2,fun H2 u us s2 hu' tw=>kk H2 u us (s1.trans s2) hu' tw⟩
def bN8{cL:Addr}(C_Merg:Cl P w K mg base 4 spMrg "merged")(C_All:Cl P w K mg base 9 (bX3 cL) "all_runs"):cA1 P w K mg base "told_table" "told_table" bV2 10 ["program","crowd","most"] spTold:=by
 refine cU1 ["program","crowd","most"] fun H Q nd hr h=>?_
 obtain⟨pg,c,most,NM,KS,cs,M,rs,rfl,m30,mb,pk,k⟩:=h;refine⟨_,(aE (aK (bP C_Merg hr (aQ (bP C_All hr (aA (pv 0) (aA (pv 1) (aQ (pv 2))))))))),?_⟩;obtain⟨kv,pr,h1,h2⟩:=pk.at';refine⟨_,rfl,_,rfl,_,rfl,pg,pr,c,kv,most,NM,KS,cs,M,rs,rfl,m30,mb,h1,h2,pk.rw,pk.c,pk.nm,pk.ks,pk.g,pk.m1,pk.m2,pk.w,fun H' l us s hl tw l30 ov=>?_⟩;exact⟨true,l,us,_,rfl,hl,tw,by lia,bJ4 pk.m1 pk.m2 (by lia) ov,fun H2 t ks s2=>k H2 t ks (s.trans s2)⟩
def bM4(m_len:mg "len"=none):eV P w K mg base "_law_draw" "_law_draw" bW7 1 ["_law_pot_here","_law_many"] spDrawP:=by
 refine fL ["_law_pot_here","_law_many","_law_digit","_law_one"] fun H Q nd hr h=>?_
 obtain⟨p,l,m,rfl,D,m0,m1,k⟩:=h;refine⟨_,(aF (fR ij (PW.pt (kY (eO cG (bQ dC (pv 0) aB) aB) (iN (eO iP (pB cC m_len ic (aQ (bQ dC (pv 0) aB))) aB))))
  (aE (oX (eZ bh ki kj bL0 (bQ dC (pv 0) aB) (aQ aB)) (aG0 (pv 0) aB sR))))
  (aF (bM (eO iP (bQ dC (pv 0) aB) aB) (cZ 2 nd (aI eW (bQ dC (pv 0) aB) (pv 1))
  (aF (oX (aI fM (bQ dC (pv 0) aB) (pv 1)) (aG0 (pv 0) aB sR))
  (aE (aK (pv 2))))) aX)
  (cZ 3 nd (aI eW (aI bE (aI dZ (bQ dC (pv 0) aB) aB) aB) aB)
  (aF (oX (aI bE (aI eW (aI bE (aI dZ (pv 3) aB) aB) aB) aB) (aG0 (pv 0) aB sR))
  (aE (aK (aI eW (aI fM (aI bE (aI dZ (aI eW (aI dZ (pv 3) (pv 3)) aB) aB) (bQ dC (pv 0) aB)) aB) (pv 1)))))))),?_⟩
 obtain⟨sd0,n0,ls0,D0⟩:=D;refine⟨fun j σ G=>∃(sd n:Int) (ls:List Int),σ=[some (.ref p),some (.int m),none,none]/\hV G p l sd n ls/\Out p l H G/\j=ls.length,⟨_,sd0,n0,ls0,rfl,D0,.refl _,rfl⟩,?_⟩;rintro j σ G ⟨sd,n,ls,rfl,D,o,rfl⟩;refine⟨_,rfl,p,_,_,.int n,rfl,rfl,bR.of D.pc,rfl,rfl,_,rfl,?_⟩
 by_cases c:n=0
 ·refine bW (by rw[c];exact ap rfl) ?_;refine⟨_,rfl,p,_,_,.ref l,rfl,rfl,bR.of D.pc,rfl,l,_,rfl,.inl (bR.of D.lc),_,_,rfl,rfl,_,rfl,?_⟩
  cases ls with
  |cons x ls =>
   refine bW (by simp) ?_;refine⟨fun σ' G'=>∃(sd n:Int) (ls':List Int),σ'=[some (.ref p),some (.int m),none,none]/\hV G' p l sd n ls'/\Out p l H G'/\ls'.length<(x::ls).length,(by rintro σ' G' ⟨a,b,d,e1,e2,e3,e4⟩;exact ⟨_,e4,a,b,d,e1,e2,e3,rfl⟩),?_⟩;have x0:=D.l0 x aj;refine⟨_,rfl,p,_,_,.ref l,rfl,rfl,bR.of D.pc,rfl,.inl ⟨rfl,_,bR.of D.lc⟩,l,_,0,0,.int x,rfl,rfl,D.lc,by decide,by decide,xu (by decide) (by simp),rfl,?_⟩;have D1:=D.left (ls':=ls) fun y hy=>D.l0 y (ae _ hy)
   refine⟨_,rfl,p,_,1,1,rfl,rfl,D1.pc,rfl,?_⟩;exact⟨sd,x,ls,rfl,D1.number x0,(o.trans .upd_l).trans .upd_d,by simp⟩
  |nil =>
   refine bJ (by simp) ?_;refine⟨_,rfl,p,_,_,.int n,rfl,rfl,bR.of D.pc,rfl,_,_,rfl,rfl,_,rfl,bJ (by rw[c];simp) ?_⟩;have s0:=D.s0;have s1:=D.s1;have bs:cA 64 sd:=cA.of s0 (by lia);refine⟨_,rfl,p,_,_,.int sd,rfl,rfl,bR.of D.pc,rfl,_,_,rfl,rfl,⟨64,64,bs,by unfold cA;decide,by decide,by decide⟩,_,_,rfl,rfl,_,_,rfl,rfl,(show(0:Int)<2147483647 by decide),?_⟩;have a0:=gq (sd*48271+7919) (show(2147483647:Int)≠0 by decide);have a1:=gu (sd*48271+7919) (show(0:Int)<2147483647 by decide);obtain⟨x,ex⟩:∃x,x=(sd*48271+7919) % 2147483647:=⟨_,rfl⟩
   rw[<-ex] at a0 a1;have bx:cA 64 x:=cA.of a0 (by lia);rw[ex] at bx;refine⟨_,rfl,_,_,rfl,rfl,⟨64,64,bx,by unfold cA;decide,by decide,by decide⟩,_,_,rfl,rfl,_,_,rfl,rfl,(show(0:Int)<2147483399 by decide),_,_,rfl,rfl,?_⟩;have b0:=gq ((sd*48271+7919) % 2147483647*40692+12345) (show(2147483399:Int)≠0 by decide);have b1:=gu ((sd*48271+7919) % 2147483647*40692+12345) (show(0:Int)<2147483399 by decide);refine⟨_,rfl,p,_,0,0,rfl,rfl,D.pc,rfl,?_⟩;have D2:=D.seed (v:=((sd*48271+7919) % 2147483647*40692+12345) % 2147483399+1) (by lia) (by lia);have c0:=gq ((sd*48271+7919) % 2147483647*((sd*48271+7919) % 2147483647)) (show(2147483629:Int)≠0 by decide);have c1:=gu ((sd*48271+7919) % 2147483647*((sd*48271+7919) % 2147483647)) (show(0:Int)<2147483629 by decide);refine⟨_,rfl,_,rfl,_,_,rfl,rfl,⟨64,64,bx,bx,by decide,by decide⟩,_,_,rfl,rfl,(show(0:Int)<2147483629 by decide),_,_,rfl,rfl,⟨64,64,cA.of c0 (by lia),by unfold cA;decide,by decide,by decide⟩,_,rfl,p,_,_,.int _,rfl,rfl,bR.of D2.pc,rfl,_,_,rfl,rfl,_,_,rfl,rfl,⟨(show(0:Int)<64 by decide),64,by unfold cA;decide,by decide⟩,_,rfl,_,_,rfl,rfl,m0,?_⟩
   exact k _ _ (gq _ (by lia)) (gu _ m0) ⟨_,_,_,D2⟩ (o.trans .upd_d)
 ·have np:0<n:=by have:=D.n0;lia
  refine bJ (fun z=>c (by have z:=ar z;injection z)) ?_;refine⟨_,rfl,p,_,_,.int n,rfl,rfl,bR.of D.pc,rfl,_,_,rfl,rfl,_,rfl,bW (ap np) ?_⟩;refine⟨_,rfl,p,_,_,.int n,rfl,rfl,bR.of D.pc,rfl,_,rfl,_,_,rfl,rfl,m0,?_⟩;refine⟨_,rfl,p,_,_,.int n,rfl,rfl,bR.of D.pc,rfl,_,rfl,_,_,rfl,rfl,⟨m0,64,cA.of (by lia) m1,by decide⟩,_,rfl,p,_,1,1,rfl,rfl,D.pc,rfl,?_⟩;exact⟨_,rfl,k _ _ (gq _ (by lia)) (gu _ m0) ⟨_,_,_,D.number (Int.ediv_nonneg D.n0 (by lia))⟩ (o.trans .upd_d)⟩
def bX6(C_Draw:Cl P w K mg base 1 spDrawP "_law_draw")(m_tuple:mg "tuple"=none)(m_range:mg "range"=none):eV P w K mg base "_law_sum" "_law_sum" cS2 2 ["_law_pot_here","_law_many"] spSumP:=by
 refine fL ["_law_pot_here","_law_many"] fun H Q nd hr h=>?_
 obtain⟨p,l,n,rfl,D,n0,n1,k⟩:=h;refine⟨_,(aE (aK (uX bU m_tuple dj (aQ (fE ["_law_k","_law_pot_here"] [none,some 0] (eK (by rfl) m_range (aQ (pv 1))) (fun _ _ _ _=>(gX 0)) (fun _ _ _ _=>fZ) (fun _ _ _ _=>(bP C_Draw hr (aA (pv 1) (aQ (bQ (cX0 K) (cM (aA aB (aA aB (aQ aB)))) (bP C_Draw hr (aA (pv 1) (aQ aB))))))))))))),?_⟩;refine⟨_,rfl,n,rfl,by lia,by lia,fV (fun i ys σ H2=>jE H2 p l/\Out p l H H2/\(∃v,σ=[v,some (.ref p)])/\∃ws:List Int,ys=ws.map V.int/\ws.length=i/\∀x∈ws,0<=x/\x<=3) (aL (by lia)) ⟨D,Out.refl H,⟨_,rfl⟩,[],rfl,rfl,fun _ z=>nomatch z⟩
  (by rintro i ys σ H2 ⟨_,_,_,zs,e,e2,_⟩;rw[e,ac];lia) ?_ ?_⟩
 ·rintro i ys σ H2 hi ⟨D2,o2,⟨v,rfl⟩,ws,rfl,hl,h1⟩;refine⟨_,rfl,by show 3<=sizeLine;decide,fun ll hll=>?_⟩;have n2:=fC D2 hll;have s3:=aC hll (.lst [.int 2,.int 2,.int 4]);have g3:aN H2 ll (.lst [.int 2,.int 2,.int 4]) ll=_:=aD;have D3:=D2.same s3;generalize aN H2 ll (.lst [.int 2,.int 2,.int 4])=H3 at s3 g3 D3 ⊢;refine⟨_,rfl,p,l,3,rfl,D3,by decide,by decide,fun r H4 r0 r1 D4 o4=>?_⟩;obtain⟨v4,hv,v2,v3⟩:=cR1 r0 r1;refine⟨ll,_,r,.int v4,rfl,rfl,bR.of (o4 _ _ g3 n2.1 n2.2),hv,p,l,v4,rfl,D4,by lia,by lia,fun x H5 x0 x1 D5 o5=>?_⟩;refine⟨D5,o2.trans ((Out.of s3).trans (o4.trans o5)),⟨_,rfl⟩,ws++[x],by rw[aq];rfl,by rw[bg,hl];rfl,fun z hz=>?_⟩;rcases br.mp hz with q|q
  ·exact h1 z q
  ·rw[av.mp q];lia
 ·rintro ys σ H2 ⟨D2,o2,_,ws,rfl,hl,h1⟩ q hq;exact⟨q,_,rfl,.inl ⟨bR.of aD,fun u hu'=>k u ws _ aD hl h1 (D2.same ((aC hq _).trans (aC hu' _))) (o2.trans (Out.of ((aC hq _).trans (aC hu' _))))⟩⟩
def bY5(m_range:mg "range"=none):eV P w K mg base "_law_again" "_law_again" cO4 1 ["_law_number","_law_many"] spAgain:=by
 refine fL ["_law_number","_law_many","_law_found","_law_k"] fun H Q nd hr h=>?_
 obtain⟨a,n,rfl,ha,hn,k⟩:=h;refine⟨_,(cZ 2 nd aB
  (aF (xN (eK (by rfl) m_range (aQ (pv 1))) (gX 3 nd)
  (aE (psz 2 nd (aI dZ (pv 2) (pv 0)))))
  (aE (aK (pv 2))))),?_⟩
 refine⟨_,rfl,n,rfl,by lia,by lia,gZ (n:=n) (fun i σ G=>G=H/\i<=n/\∃v3,σ=[some (.int a),some (.int n),some (.int ((a^i:Nat):Int)),v3]) ⟨rfl,bi _,_,rfl⟩ ?_ ?_⟩
 ·rintro D' i σ G hi ⟨rfl,_,v3,rfl⟩;have b1:cA 400 ((a^i:Nat):Int):=by
   unfold cA;rw[Int.natAbs_natCast];exact cm (zu ha i) (cm (jm (by decide) (show i<=40 by lia)) (by decide))
  refine⟨_,rfl,_,rfl,_,_,rfl,rfl,⟨400,400,b1,cA.of (uo _) (by have:(64:Int)<2^400:=(by decide);generalize (2:Int)^400=x at *;lia),by decide,by decide⟩,rfl,hi,some (.int (0+i)),?_⟩;rw[ot,kh];rfl
 ·rintro σ G ⟨rfl,_,v3,rfl⟩;exact⟨_,rfl,k _ (.refl _)⟩
def cD4(C_Draw:Cl P w K mg base 1 spDrawP "_law_draw")(m_range:mg "range"=none)(m_max:mg "max"=none):eV P w K mg base "_law_steep" "_law_steep" cO8 2 ["_law_pot_here","_law_least"] spSteepP:=by
 refine fL ["_law_pot_here","_law_least","_law_q","_law_p","_law_by"] fun H Q nd hr h=>?_
 obtain⟨p,l,t,rfl,D,k⟩:=h;refine⟨_,(cZ 2 nd (aI bE aB (bP C_Draw hr (aA (pv 0) (aQ aB))))
  (cZ 3 nd (nN (gK (eO cG (pv 1) aB) (aI bE aB (bP C_Draw hr (aA (pv 0) (aQ (pB (wZ rfl) m_max yo (aA aB (aQ (aI fM (pv 2) aB)))))))) (aI bE aB (bP C_Draw hr (aA (pv 0) (aQ (aI cQ (pv 2) aB)))))))
  (aF (xN (pI (by rfl) m_range (aA aB (aQ aB))) (gX 4 nd)
  (aE (fR ij (PW.pt (kY (eO cG (aI eW (pv 3) (pv 4)) aB) (iN (eO cG (aI eW (pv 2) (pv 4)) aB))))
  (aE (aJ1 (i:=3) (j:=2) rfl nd rfl rfl (by decide) rfl rfl (aA (aI fM (pv 3) (pv 4)) (aQ (aI fM (pv 2) (pv 4)))) rfl)))))
  (aE (aK (aS (aA (pv 3) (aQ (pv 2))))))))),?_⟩
 refine⟨_,rfl,p,l,8,rfl,D,by decide,by decide,fun r H1 r0 r1 D1 o1=>⟨_,_,rfl,rfl,?_⟩⟩;refine⟨fun v G=>∃x:Int,v= .int x/\1<=x/\x<2+r/\(t=2->2*x<=2+r)/\jE G p l/\Out p l H G,?_,?_⟩
 ·refine⟨_,rfl,rfl,_,rfl,?_⟩
  by_cases c:t=2
  ·refine bW (by rw[c];exact ap rfl) ?_;refine⟨_,rfl,_,rfl,_,_,rfl,rfl,⟨(show(0:Int)<2 by decide),64,by unfold cA;decide,by decide⟩,1,_,rfl,p,l,_,rfl,D1,?_,?_,fun s H2 s0 s1 D2 o2=>⟨_,_,rfl,rfl,1+s,rfl,by lia,?_,fun _=>?_,D2,o1.trans o2⟩⟩
   all_goals
    have q1:1<=(2+r) / 2:=by lia
    have q2:(if (2+r) / 2 > 1 then (2+r) / 2 else 1)=(2+r) / 2:=by split<;>lia
   ·show 0<(if (2+r) / 2 > 1 then (2+r) / 2 else 1);rw[q2];lia
   ·show(if (2+r) / 2 > 1 then (2+r) / 2 else 1)<_;rw[q2];lia
   ·have s1:s<(if (2+r) / 2 > 1 then (2+r) / 2 else 1):=s1;rw[q2] at s1;lia
   ·have s1:s<(if (2+r) / 2 > 1 then (2+r) / 2 else 1):=s1;rw[q2] at s1;lia
  ·refine bJ (fun z=>c (by have z:=ar z;injection z)) ?_;refine⟨_,rfl,_,rfl,_,_,rfl,rfl,p,l,_,rfl,D1,by show 0<2+r-1;lia,by show 2+r-1<_;lia,fun s H2 s0 s1 D2 o2=>⟨_,_,rfl,rfl,1+s,rfl,by lia,?_,fun z=>absurd z c,D2,o1.trans o2⟩⟩;have s1:s<2+r-1:=s1;lia
 ·rintro v G ⟨x,rfl,x1,x2,x3,D2,o2⟩;refine⟨2,9,rfl,⟨by decide,by decide,by decide,by decide⟩,gZ (n:=7) (fun i σ G'=>∃(a b:Int) (v4:Option V),σ=[some (.ref p),some (.int t),some (.int b),some (.int a),v4]/\G'=G/\bT a b/\(t=2->2*a<=b)) ⟨x,2+r,_,rfl,rfl,⟨x1,x2,by lia⟩,x3⟩ ?_ ?_⟩
  ·rintro D' i σ G' hi ⟨a,b,v4,rfl,rfl,st,ha⟩;refine⟨fun j σ G2=>∃(a b:Int),σ=[some (.ref p),some (.int t),some (.int b),some (.int a),some (.int (2+i))]/\G2=G'/\bT a b/\(t=2->2*a<=b)/\j=a.toNat,⟨_,a,b,rfl,rfl,st,ha,rfl⟩,?_⟩;rintro j σ G2 ⟨a,b,rfl,rfl,st,ha,rfl⟩;have kp:(0:Int)<2+i:=by lia
   have kb:cA 64 (2+(i:Int)):=cA.of (by lia) (by lia);refine⟨_,rfl,_,rfl,_,_,rfl,rfl,kp,rfl,_,rfl,?_⟩
   by_cases c1:a % (2+i)=0
   ·refine bW (ap (gv V.int c1)) ?_;refine⟨_,rfl,_,rfl,_,_,rfl,rfl,kp,rfl,_,rfl,?_⟩
    by_cases c2:b % (2+i)=0
    ·refine bW (ap (gv V.int c2)) ?_;obtain⟨d1,d2,d3⟩:=aU0 (by lia) c1 c2 st;have p1:=st.p1;refine⟨fun σ' G3=>∃(a' b':Int),σ'=[some (.ref p),some (.int t),some (.int b'),some (.int a'),some (.int (2+i))]/\G3=G2/\bT a' b'/\(t=2->2*a'<=b')/\a'.toNat<a.toNat,(by rintro σ' G3 ⟨a',b',e1,e2,e3,e4,e5⟩;exact ⟨_,e5,a',b',e1,e2,e3,e4,rfl⟩),?_⟩;have p2:=d1.p1;refine⟨_,rfl,_,rfl,_,_,rfl,rfl,⟨kp,64,kb,by decide⟩,_,rfl,_,rfl,_,_,rfl,rfl,⟨kp,64,kb,by decide⟩,?_⟩;exact⟨_,_,rfl,a / (2+i),b / (2+i),rfl,rfl,d1,fun z=>d3 (ha z),by lia⟩
    ·refine bJ (fun z=>c2 (by have z:=ar z;injection z)) ?_;exact⟨a,b,_,rfl,rfl,st,ha⟩
   ·refine bJ (fun z=>c1 (by have z:=ar z;injection z)) ?_;exact⟨a,b,_,rfl,rfl,st,ha⟩
  ·rintro σ G' ⟨a,b,v4,rfl,rfl,st,ha⟩;exact⟨_,rfl,_,rfl,cS,fun u hu'=>k u a b _ aD st ha (D2.same (aC hu' _)) (o2.trans (.of (aC hu' _)))⟩
def bX4(C_Agn:Cl P w K mg base 1 spAgain "_law_again"):eV P w K mg base "_law_few" "_law_few" cM6 2 ["_law_scene"] spFew:=by
 refine fL ["_law_scene","_law_many"] fun H Q nd hr h=>?_
 obtain⟨sc,nl,kn,rw,rn,hg,n,rfl,hs,n27,r1,r30,k⟩:=h;have hu:=gN hr;refine⟨_,(cZ 1 nd aB
  (aF (fR ij (PW.pt (kY (eO lX (pv 1) aB) (iN (eO bD5 (bP C_Agn hr (aA (aI bE (pv 1) aB) (aQ (qH hu (pv 0) aJ)))) (qH hu (pv 0) aJ)))))
  (aE (psz 1 nd (aI bE (pv 1) aB))))
  (aE (aK (pv 1))))),?_⟩
 refine⟨fun j σ G=>∃m:Nat,σ=[some (.ref sc),some (.int m)]/\aR H G/\1<=m/\m<=6/\((m^n:Nat):Int)<=rn/\j=6-m,⟨_,1,rfl,.refl _,af _,by decide,by rw[Nat.one_pow];exact r1,rfl⟩,?_⟩;rintro j σ G ⟨m,rfl,s,m1,m6,hm,rfl⟩;refine⟨_,rfl,_,_,rfl,rfl,_,rfl,?_⟩
 by_cases c:(m:Int)<6
 ·refine bW (ap c) ?_;have gA:eS G sc (.str "again") (some (.int n)):=by rw[<-uH (kn:=kn) (rw:=rw) (ag:=n) (rn:=rn) (hg:=hg) (nl:=nl)];exact eS.k (k:=Sum.inr "again") (s _ _ hs)
  refine⟨_,rfl,_,_,rfl,rfl,_,rfl,sc,_,rfl,gA,m+1,n,by rw[qo];rfl,by lia,by lia,fun G1 s1=>?_⟩;have gR:eS G1 sc (.str "runs") (some (.int rn)):=by rw[<-yN (kn:=kn) (rw:=rw) (ag:=n) (rn:=rn) (hg:=hg) (nl:=nl)];exact eS.k (k:=Sum.inr "runs") (s1 _ _ (s _ _ hs))
  refine⟨_,rfl,sc,_,rfl,gR,_,_,rfl,rfl,_,rfl,?_⟩
  by_cases c2:(((m+1)^n:Nat):Int)<=rn
  ·refine bW (ap c2) ?_;refine⟨fun σ' G'=>∃m':Nat,σ'=[some (.ref sc),some (.int m')]/\aR H G'/\1<=m'/\m'<=6/\((m'^n:Nat):Int)<=rn/\6-m'<6-m,(by rintro σ' G' ⟨m',e1,e2,e3,e4,e5,e6⟩;exact ⟨_,e6,m',e1,e2,e3,e4,e5,rfl⟩),?_⟩;exact⟨_,rfl,_,_,rfl,rfl,m+1,by rw[qo];rfl,s.trans s1,by lia,by lia,c2,by lia⟩
  ·refine bJ (by simpa using c2) ?_;exact⟨_,rfl,k m _ (s.trans s1) m1 m6 hm⟩
 ·refine bJ (by simpa using c) ?_;exact⟨_,rfl,k m _ s m1 m6 hm⟩
def bY8(C_Draw:Cl P w K mg base 1 spDrawP "_law_draw")(m_min:mg "min"=none):eV P w K mg base "_law_bounds" "_law_bounds" cK7 2 ["_law_pot_here","_law_scene","_law_many"] spBnd:=by
 refine fL ["_law_pot_here","_law_scene","_law_many","_law_low"] fun H Q nd hr h=>?_
 obtain⟨p,l,sc,nl,kn,rw,ag,rn,m,rfl,D,hs,m1,m2,k⟩:=h;have hu:=gN hr;refine⟨_,(cZ 2 nd (pB (lJ rfl) m_min nj (aA (pv 2) (aQ (aI bE (qH hu (pv 1) aJ) aB))))
  (cZ 3 nd (bP C_Draw hr (aA (pv 0) (aQ (aI cQ (aI bE (qH hu (pv 1) aJ) aB) (pv 2)))))
  (aE (aK (aS (aA (pv 3) (aQ (aI cQ (aI bE (pv 3) (pv 2)) aB)))))))),?_⟩
 have gH:eS H sc (.str "high") (some (.int 9)):=by rw[<-aP9 (kn:=kn) (rw:=rw) (ag:=ag) (rn:=rn) (hg:=9) (nl:=nl)];exact eS.k (k:=Sum.inr "high") hs
 refine⟨_,rfl,_,rfl,sc,_,rfl,gH,_,_,rfl,rfl,m,10,rfl,?_⟩;have u1:1<=(if (10:Int)<m then (10:Int) else m):=by split<;>lia
 have u2:(if (10:Int)<m then (10:Int) else m)<=10:=by split<;>lia
 refine⟨_,rfl,_,rfl,sc,_,rfl,gH,_,_,rfl,rfl,_,rfl,_,_,rfl,rfl,p,l,_,rfl,D,?_,?_,fun x H1 x0 x1 D1 o1=>?_⟩
 ·show 0<9+2-(if (10:Int)<m then (10:Int) else m);lia
 ·show 9+2-(if (10:Int)<m then (10:Int) else m)<_;lia
 have x1:x<9+2-(if (10:Int)<m then (10:Int) else m):=x1;refine⟨_,rfl,_,rfl,_,rfl,_,_,rfl,rfl,_,_,rfl,rfl,cS,fun r hr'=>?_⟩;exact k r x (x+(if (10:Int)<m then (10:Int) else m)-1) _ aD x0 (by lia) rfl (D1.same (aC hr' _)) (o1.trans (.of (aC hr' _)))
def cH9(C_Draw:Cl P w K mg base 1 spDrawP "_law_draw")(m_range:mg "range"=none)(m_tuple:mg "tuple"=none):eV P w K mg base "_law_crowd" "_law_crowd" cJ1 2 ["_law_pot_here","_law_many"] spCrowdP:=by
 refine fL ["_law_pot_here","_law_many","_law_found","_law_k"] fun H Q nd hr h=>?_
 obtain⟨p,l,n,rfl,D,n0,n1,k⟩:=h;refine⟨_,(cZ 2 nd (cM eL)
  (aF (xN (eK (by rfl) m_range (aQ (pv 1))) (gX 3 nd)
  (aE (cO (eZ bh cz de cJ (pv 2) (aQ (bP C_Draw hr (aA (pv 0) (aQ (bQ dC (cM (aA aB (aA aB (aQ aB)))) (bP C_Draw hr (aA (pv 0) (aQ aB))))))))))))
  (aE (aK (uX bU m_tuple dj (aQ (pv 2))))))),?_⟩
 refine⟨bi _,fun fl hfl=>?_⟩;have nf:=fC D hfl;have s1:=aC hfl (.lst []);have g1:aN H fl (.lst []) fl=some (.lst []):=aD;have D1:=D.same s1;generalize aN H fl (.lst [])=H1 at s1 g1 D1 ⊢;refine⟨_,rfl,n,rfl,by lia,by lia,gZ (n:=n.toNat) (fun i σ G=>∃(cs:List Int) (v3:Option V),σ=[some (.ref p),some (.int n),some (.ref fl),v3]/\jE G p l/\Out p l H G/\G fl=some (.lst (cs.map V.int))/\cs.length=i/\∀x∈cs,0<=x/\x<=1000000) ⟨[],_,rfl,D1,.of s1,g1,rfl,fun _ z=>nomatch z⟩ ?_ ?_⟩
 ·rintro D' i σ G hi ⟨cs,v3,rfl,D2,o2,g2,hl,h1⟩;refine⟨_,rfl,.inl ⟨rfl,_,bR.of g2⟩,_,rfl,by show 3<=sizeLine;decide,fun ll hll=>?_⟩;have n2:=fC D2 hll;have s3:=aC hll (.lst [.int 3,.int 12,.int 1000001]);have g3:aN G ll (.lst [.int 3,.int 12,.int 1000001]) ll=_:=aD;have D3:=D2.same s3;generalize aN G ll (.lst [.int 3,.int 12,.int 1000001])=H3 at s3 g3 D3 ⊢;refine⟨_,rfl,p,l,3,rfl,D3,by decide,by decide,fun r H4 r0 r1 D4 o4=>?_⟩;obtain⟨v4,hv,v2,v5⟩:=cU0 r0 r1;refine⟨ll,_,r,.int v4,rfl,rfl,bR.of (o4 _ _ g3 n2.1 n2.2),hv,p,l,v4,rfl,D4,by lia,by lia,fun x H5 x0 x1 D5 o5=>?_⟩;have g5:=o5 _ _ (o4 _ _ (s3 _ _ g2) nf.1 nf.2) nf.1 nf.2;refine⟨fl,_,_,rfl,rfl,g5,by rw[ac];exact aL (by lia),?_⟩;refine⟨cs++[x],_,rfl,qQ D5 nf.1 nf.2,Mine.Out.new (o2.trans ((Out.of s3).trans (o4.trans o5))) hfl,by rw[aD,aq];rfl,by rw[bg,hl];rfl,fun z hz=>?_⟩;rcases br.mp hz with q|q
  ·exact h1 z q
  ·rw[av.mp q];lia
 ·rintro σ G ⟨cs,v3,rfl,D2,o2,g2,hl,h1⟩;exact⟨_,rfl,fl,_,rfl,.inl ⟨bR.of g2,fun u hu'=>k u cs _ aD hl h1 (D2.same (aC hu' _)) (o2.trans (.of (aC hu' _)))⟩⟩
def bX9(n:Nat)(C_Draw:Cl P w K mg base 1 spDrawP "_law_draw")(C_Trm:Cl P w K mg base (n+1) (bE3 n) "_law_term")(m_len:mg "len"=none):eV P w K mg base "_law_term" "_law_term" cK4 (n+1+1) ["_law_pot_here","_law_names_here","_law_room"] (bE3 (n+1)):=by
 refine fL ["_law_pot_here","_law_names_here","_law_room","_law_form","_law_wide","_law_one"] fun H Q nd hr h=>?_
 obtain⟨p,l,nh,ns,room,rfl,D,hk,n1,n2,l3,r1,r2,r12,k⟩:=h;refine⟨_,(cZ 3 nd (bP C_Draw hr (aA (pv 0) (aQ aB)))
  (aF (bM (jV (PW.pt (vX (eO lX (pv 2) aB) (rQ (eO lX (pv 3) aB))))) (aF (bM (jV (PW.pt (kY (eO iP (pB cC m_len ic (aQ (pv 1))) aB) (iN (eO iP (bP C_Draw hr (aA (pv 0) (aQ aB))) aB))))) (aE (aK (aS (aA aJ (aQ (bQ dC (pv 1) (bP C_Draw hr (aA (pv 0) (aQ (pB cC m_len ic (aQ (pv 1)))))))))))) aX)
  (aE (aK (aS (aA aJ (aQ (bP C_Draw hr (aA (pv 0) (aQ (bQ dC (cM (aA aB (aA aB (aQ aB)))) (bP C_Draw hr (aA (pv 0) (aQ aB))))))))))))) aX)
  (cZ 4 nd (aI bE aB (bP C_Draw hr (aA (pv 0) (aQ (aI cQ (pv 2) aB)))))
  (cZ 5 nd (bP C_Trm hr (aA (pv 0) (aA (pv 1) (aQ (pv 4)))))
  (aE (aK (aS (aA aJ (aA (bQ aL4 aJ (bP C_Draw hr (aA (pv 0) (aQ aB)))) (aA (pv 5) (aQ (bP C_Trm hr (aA (pv 0) (aA (pv 1) (aQ (aI cQ (aI cQ (pv 2) aB) (pv 4))))))))))))))))),?_⟩
 refine⟨_,rfl,p,l,4,rfl,D,by decide,by decide,fun fo H1 f0 f1 D1 o1=>?_⟩;have hk1:=eP hk n1 n2 o1;refine⟨fun b G=>G=H1/\(b=false->3<=room),?_,?_⟩
 ·refine⟨_,rfl,_,_,rfl,rfl,_,rfl,?_⟩
  by_cases c1:room<3
  ·exact bW (ap c1) ⟨rfl,(fun z=>nomatch z)⟩
  ·exact bJ (by simpa using c1) ⟨_,rfl,_,_,rfl,rfl,_,rfl,rfl,fun _=>by lia⟩
 rintro b G ⟨rfl,hb⟩
 cases b with
 |false =>
  refine bJ (by simp) ?_;have c1:=hb rfl
  cases n with
  |zero=>exact absurd c1 (by lia)
  |succ n =>
  refine⟨_,rfl,_,rfl,_,_,rfl,rfl,p,l,room-2,rfl,D1,by lia,by lia,fun x H2 x0 x1 D2 o2=>⟨_,_,rfl,rfl,?_⟩⟩;have hk2:=eP hk1 n1 n2 o2;refine⟨_,rfl,_,rfl,_,rfl,p,l,nh,ns,1+x,rfl,D2,hk2,n1,n2,l3,by lia,by lia,by lia,fun t1 H3 D3 o3 h3 nm3 sz3 ok3=>?_⟩;have hk3:=eP hk2 n1 n2 o3;refine⟨_,rfl,p,l,5,rfl,D3,by decide,by decide,fun y H4 y0 y1 D4 o4=>?_⟩;obtain⟨c,hc,hs⟩:=cE3 y0 y1;have hk4:=eP hk3 n1 n2 o4;refine⟨_,y,c,rfl,rfl,by decide,hc,_,rfl,_,rfl,_,rfl,_,rfl,_,_,rfl,rfl,_,rfl,_,_,rfl,rfl,p,l,nh,ns,room-1-(1+x),rfl,D4,hk4,n1,n2,l3,by lia,by lia,by lia,fun t2 H5 D5 o5 h5 nm5 sz5 ok5=>⟨by show 4<=sizeLine;decide,fun q hq=>?_⟩⟩;have s6:=aC hq (.tup [.str "op",.str ⟨#[c]⟩,.ref t1.p,.ref t2.p]);have t15:=(D3.ts o4).trans ((D4.ts o5).trans (.of s6));refine k (.op q ⟨#[c]⟩ t1 t2) _ (D5.same s6) (o1.trans (o2.trans (o3.trans (o4.trans (o5.trans (.of s6)))))) ⟨aD,h3.ts t15,h5.ts (.of s6)⟩ (fun z hz=>?_) ?_ ⟨hs,ok3,ok5⟩
  ·rcases br.mp hz with q|q
   ·exact nm3 z q
   ·exact nm5 z q
  ·simp only[Tm.size];lia
 |true =>
  refine bW rfl ?_;refine⟨fun b G'=>jE G' p l/\Out p l H G'/\(b=true->0<ns.length),?_,?_⟩
  ·refine⟨_,rfl,nh,_,rfl,.inl (bR.of hk1),_,_,rfl,rfl,_,rfl,?_⟩
   by_cases c:(0:Int)<((ns.map V.str).length:Int)
   ·refine bW (ap c) ⟨_,rfl,p,l,4,rfl,D1,by decide,by decide,fun x H2 x0 x1 D2 o2=>⟨_,_,rfl,rfl,_,rfl,D2,o1.trans o2,fun _=>by rw[ac] at c;lia⟩⟩
   ·exact bJ (by simpa using c) ⟨D1,o1,(fun z=>nomatch z)⟩
  rintro b G2 ⟨D2,o2,hb2⟩;have hk2:=eP hk n1 n2 o2
  cases b with
  |true =>
   have kp:=hb2 rfl;refine bW rfl ?_;refine⟨_,rfl,_,rfl,_,rfl,nh,_,rfl,.inl (bR.of hk2),p,l,_,rfl,D2,by rw[ac];lia,by rw[ac];lia,fun x H3 x0 x1 D3 o3=>?_⟩;obtain⟨v,hv,ha⟩:=aI8 x0 x1;obtain⟨y,rfl,hy⟩:=rC hv;refine⟨nh,_,_,.str y,rfl,rfl,bR.of (eP hk2 n1 n2 o3),ha,cS,fun q hq=>?_⟩;have s4:=aC hq (.tup [.str "name",.str y]);refine k (.nam q y) _ (D3.same s4) (o2.trans (o3.trans (.of s4))) aD (fun z hz=>?_) (by simp only[Tm.size];lia) trivial;rw[av.mp hz];exact bj hy
  |false =>
   refine bJ (by simp) ?_;refine⟨_,rfl,by show 3<=sizeLine;decide,fun l0 hl0=>?_⟩;obtain⟨m1,m2⟩:=fC D2 hl0;obtain⟨H3,e0,s3,h3⟩:=lay hl0 (.lst [.int 2,.int 4,.int 1000]);rw[e0];clear e0;refine⟨_,rfl,p,l,3,rfl,D2.same s3,by decide,by decide,fun x H4 x0 x1 D4 o4=>?_⟩;obtain⟨w,hw,hc⟩:=oU (x:=2) (y:=4) (z:=1000) x0 x1;refine⟨l0,_,_,.int w,rfl,rfl,bR.of (eP h3 m1 m2 o4),hw,p,l,w,rfl,D4,by lia,by lia,fun y H5 y0 y1 D5 o5=>⟨cS,fun q hq=>?_⟩⟩;have s6:=aC hq (.tup [.str "num",.int y]);exact k (.num q y) _ (D5.same s6) (o2.trans ((Out.of s3).trans (o4.trans (o5.trans (.of s6))))) aD (fun z hz=>absurd hz di) (by simp only[Tm.size];lia) ⟨y0,by lia⟩
def cB8  : eV P w K mg base "_law_pot" "_law_pot" cR3 1 ["_law_script","_law_base"] (bK8 K):=by
 refine fL ["_law_script","_law_base","_law_seed","_law_left","_law_cell"] fun H Q nd hr h=>?_
 obtain⟨a,ns,rfl,hS,hl,k⟩:=h;refine⟨_,(cZ 2 nd (aI bE (aI kX aB (pv 1)) aB)
  (cZ 3 nd (cM eL)
  (aF (xN (iT (sY aP1 (pv 0) (qM (pv 1)) (qM aB))) (gX 4 nd)
  (cZ 2 nd (aI eW (aI bE (aI bE (aI kX (pv 2) aB) (aI eW (pv 4) aB)) aB) aB)
  (aE (bM (eO bW8 (pv 4) (aI cE9 aB aB)) (aE (cO (eZ bh cz de cJ (pv 3) (aQ (pv 4))))) aX))))
  (aE (aK (cM (aA (pv 2) (aA aB (aQ (pv 3)))))))))),?_⟩
 refine⟨_,rfl,_,_,rfl,rfl,.inl ⟨by decide,by decide⟩,_,_,rfl,rfl,?_⟩;refine⟨bi _,fun fl hfl=>?_⟩;obtain⟨H1,e0,s1,g1⟩:=lay hfl (.lst []);rw[e0];clear e0;obtain⟨ms,em,hms⟩:=bB5 ns (some 0) (some 63);refine⟨_,rfl,_,rfl,_,rfl,_,rfl,a,_,rfl,s1.seq hS,fun p1 np1=>?_⟩;have n1:p1≠fl:=(aM g1 np1).symm;have s2:=aC np1 (.lst (iZ (ns.map V.int) (some 0) (some 63)));have hp1:aN H1 p1 (.lst (iZ (ns.map V.int) (some 0) (some 63))) p1=some (.lst (ms.map V.int)):=by rw[em];exact aD
 generalize aN H1 p1 (.lst (iZ (ns.map V.int) (some 0) (some 63)))=H2 at s2 hp1 ⊢;refine⟨p1,rfl,⟨_,bR.of hp1⟩,pC (K:=K) (a:=p1) (xs:=ms.map V.int) (fun i σ G=>∃(x:Int) (ls:List Int) (v:Option V),σ=[some (.ref a),some (.int 0),some (.int x),some (.ref fl),v]/\0<=x/\x<2147483647/\G p1=some (.lst (ms.map V.int))/\G fl=some (.lst (ls.map V.int))/\ls.length<=i/\(∀x∈ls,0<=x)/\aR H G)
  ⟨_,[],none,rfl,by decide,by decide,hp1,s2 _ _ g1,af _,(fun _ z=>nomatch z),s1.trans s2⟩ (by rintro i σ G _ ⟨_,_,_,_,_,_,g,_⟩;exact bR.of g) ?_ ?_⟩
 ·rintro D' N i hN y σ G hi ⟨x,ls,v,rfl,x0,x1,g2,g3,hls,l0,sG⟩;obtain⟨z,rfl,hz⟩:=lE hi;have i63:i<63:=by have:=(bz.mp hz).1;lia
  have q1:(0:Int)<2147483629:=by decide
  have q2:(0:Int)<2147483647:=by decide
  have e1:=gq (x*48271+z % 2147483629+1) (show(2147483647:Int)≠0 by decide);have e2:=gu (x*48271+z % 2147483629+1) q2;refine⟨_,rfl,_,_,rfl,rfl,.inr ⟨by decide,by decide⟩,_,rfl,_,_,rfl,rfl,q1,_,_,rfl,rfl,_,_,rfl,rfl,_,_,rfl,rfl,q2,?_⟩;refine⟨_,rfl,_,_,rfl,rfl,⟨by decide,by decide,by decide⟩,_,_,rfl,rfl,_,rfl,?_⟩
  by_cases c:((10:Int)^(18:Int).toNat)<=z
  ·refine bW (ap c) ?_;refine⟨_,rfl,.inl ⟨rfl,_,bR.of g3⟩,_,rfl,fl,_,_,rfl,rfl,g3,by rw[ac];exact aL (by lia),?_⟩;have z0:0<=z:=bm (by decide) c;refine hN _ _ ⟨_,ls++[z],_,rfl,e1,e2,(aH n1).trans g2,by rw[aD,aq];rfl,by rw[bg];show ls.length+1<=_;lia,fun w hw=>?_,fun b o hb=>?_⟩
   ·rcases br.mp hw with q|q
    ·exact l0 w q
    ·rw[av.mp q];exact z0
   ·rw[aH (aM hb hfl)];exact sG b o hb
  ·refine bJ (by simpa using c) ?_;exact hN _ _ ⟨_,ls,_,rfl,e1,e2,g2,g3,by lia,l0,sG⟩
 ·rintro σ G ⟨x,ls,v,rfl,x0,x1,g2,g3,hls,l0,sG⟩;refine⟨_,rfl,_,rfl,by show 3<=sizeLine;decide,fun r hr'=>?_⟩;have s3:=aC hr' (.lst [.int x,.int 0,.ref fl]);exact k r fl _ ⟨x,0,ls,aD,s3 _ _ g3,(aM g3 hr').symm,x0,x1,cw _,l0⟩ (sG.trans s3)
def cC2(C_Draw:Cl P w K mg base 1 spDrawP "_law_draw")(m_range:mg "range"=none):eV P w K mg base "_law_name" "_law_name" cS0 2 ["_law_pot_here"] spNameP:=by
 refine fL ["_law_pot_here","_law_letters","_law_name_here","_law_near"] fun H Q nd hr h=>?_
 obtain⟨p,l,rfl,D,k⟩:=h;refine⟨_,(@aF _ _ _ _ _ (psz 1 nd aJ)
  (@aF _ _ _ _ _ (psz 2 nd (eZ PySem.F.plainAttrs_str PySem.F.slot_str_join PySem.F.type_str_join bP8 aJ (aQ (fE ["_law_k","_law_letters","_law_pot_here"] [none,some 1,some 0] (eK (by rfl) m_range (aQ (aI bE aB (bP C_Draw hr (aA (pv 0) (aQ aB)))))) (fun _ _ _ _=>(gX 0)) (fun _ _ _ _=>fZ) (fun _ _ _ _=>(bQ aL4 (pv 1) (bP C_Draw hr (aA (pv 2) (aQ aB)))))))))
  (@aF _ _ _ _ _ (lG (bM (eO cG (bP C_Draw hr (aA (pv 0) (aQ aB))) aB) (@aF _ _ _ _ _ (@aK7 _ _ 3 _ _ _ _ nd rfl (oo rfl) (@cM _ _ _ _ (@aA _ _ _ _ _ aJ (@aA _ _ _ _ _ aJ (@aA _ _ _ _ _ aJ (@aA _ _ _ _ _ aJ (@aA _ _ _ _ _ aJ (@aA _ _ _ _ _ aJ (@aA _ _ _ _ _ aJ (@aA _ _ _ _ _ aJ (@aA _ _ _ _ _ aJ (@aA _ _ _ _ _ aJ (@aA _ _ _ _ _ aJ (@aA _ _ _ _ _ aJ eL rfl) rfl) rfl) rfl) rfl) rfl) rfl) rfl) rfl) rfl) rfl) rfl)) rfl (oo rfl))
  (@aE _ _ _ (psz 2 nd (bQ dC (pv 3) (bP C_Draw hr (aA (pv 0) (aQ aB))))))) aX))
  (@aF _ _ _ _ _ (lG (bM (eO fU (pv 2) (@aS _ _ _ _ _ (@aA _ _ _ _ _ aJ (@aA _ _ _ _ _ aJ (@aA _ _ _ _ _ aJ (@aA _ _ _ _ _ aJ (@aA _ _ _ _ _ aJ (@aA _ _ _ _ _ aJ (@aA _ _ _ _ _ aJ eL rfl) rfl) rfl) rfl) rfl) rfl) rfl))) (aE (psz 2 nd (aI sD (pv 2) aJ))) aX))
  (@aF _ _ _ _ _ (lG (bM (eO fU (pv 2) (@aS _ _ _ _ _ (@aA _ _ _ _ _ aJ (@aA _ _ _ _ _ aJ (@aA _ _ _ _ _ aJ (@aA _ _ _ _ _ aJ (@aA _ _ _ _ _ aJ eL rfl) rfl) rfl) rfl) rfl))) (aE (psz 2 nd (aI sD (pv 2) aJ))) aX))
  (@aE _ _ _ (aK (pv 2)))))))),?_⟩
 refine⟨rfl,_,rfl,p,l,8,rfl,D,by decide,by decide,fun n0 H1 n1 n2 D1 o1=>⟨_,_,rfl,rfl,1+n0,rfl,by lia,by lia,?_⟩⟩;refine fV (n:=(1+n0).toNat) (fun i ys σ G=>jE G p l/\Out p l H G/\(∃v,σ=[v,some (.str "abcdefghijklmnopqrstuvwxyz"),some (.ref p)])/\∃zs:List Str,ys=zs.map V.str/\zs.length=i/\∀z∈zs,z.length=1) (aL (by lia)) ⟨D1,o1,⟨_,rfl⟩,[],rfl,rfl,fun _ z=>nomatch z⟩
  (by rintro i ys σ G ⟨_,_,_,zs,e,e2,_⟩;rw[e,ac];lia) ?_ ?_
 ·rintro i ys σ G hi ⟨D2,o2,⟨v,rfl⟩,zs,rfl,hl,h1⟩;refine⟨_,rfl,_,rfl,p,l,26,rfl,D2,by decide,by decide,fun r H3 r0 r1 D3 o3=>?_⟩;obtain⟨c,hc⟩:=cG4 (z:="abcdefghijklmnopqrstuvwxyz") r0 r1;refine⟨_,r,c,rfl,rfl,by decide,hc,D3,o2.trans o3,⟨_,rfl⟩,zs++[⟨#[c]⟩],by rw[aq];rfl,by rw[bg,hl];rfl,fun z hz=>?_⟩;rcases br.mp hz with q|q
  ·exact h1 z q
  ·have e:z=⟨#[c]⟩:=by simpa using q
   rw[e];rfl
 rintro ys σ H2 ⟨D2,o2,_,zs,rfl,hl,h1⟩ q hq;have hsm:=aF2 h1;refine⟨_,q,zs,rfl,rfl,bR.of aD,by rw[hsm];show zs.length+zs.length*0<=_;lia,?_⟩;have hj:=bH5 "" zs;rw[hsm] at hj;have e0:("": Str).length=0:=rfl;rw[e0] at hj;have D3:=D2.same (aC hq (.lst (zs.map V.str)));have o3:=o2.trans (Out.of (d:=p) (l:=l) (aC hq (.lst (zs.map V.str))));generalize aN H2 q (.lst (zs.map V.str))=H3 at D3 o3 ⊢;generalize Txt.join "" zs=cr at hj ⊢;have c8:cr.length<=8:=by lia
 refine⟨fun σ G=>∃(w:Str) (v3:Option V),σ=[some (.ref p),some (.str "abcdefghijklmnopqrstuvwxyz"),some (.str w),v3]/\w.length<=8/\jE G p l/\Out p l H G,?_,?_⟩
 ·refine⟨_,rfl,p,l,6,rfl,D3,by decide,by decide,fun x H4 x0 x1 D4 o4=>⟨rfl,_,rfl,aB2 (fun _=>?_) (fun _=>⟨cr,_,rfl,c8,D4,o3.trans o4⟩)⟩⟩;refine⟨by show 12<=sizeLine;decide,fun ll hll=>?_⟩;obtain⟨m1,m2⟩:=fC D4 hll;have s5:=aC hll (.lst (vQ.map V.str));have h5:aN H4 ll (.lst (vQ.map V.str)) ll=some (.lst (vQ.map V.str)):=aD;have D5:=D4.same s5;refine⟨_,rfl,_,rfl,p,l,12,rfl,D5,by decide,by decide,fun y H6 y0 y1 D6 o6=>?_⟩;obtain⟨w,hw,hw8⟩:=bN9 y0 y1;exact⟨ll,_,_,.str w,rfl,rfl,bR.of (eP h5 m1 m2 o6),hw,w,_,rfl,hw8,D6,o3.trans (o4.trans ((Out.of s5).trans o6))⟩
 rintro σ G ⟨w,v3,rfl,w8,D4,o4⟩;refine⟨fun σ G=>∃(w:Str) (v3:Option V),σ=[some (.ref p),some (.str "abcdefghijklmnopqrstuvwxyz"),some (.str w),v3]/\w.length<=9/\jE G p l/\Out p l H G,?_,?_⟩
 ·refine⟨_,rfl,by show 7<=sizeLine;decide,fun t ht=>⟨t,_,rfl,.inr (aT.of aD),rfl,rfl,_,rfl,aB2 (fun _=>⟨_,rfl,_,_,rfl,rfl,?_,_,_,rfl,?_,D4.same (aC ht _),o4.trans (.of (aC ht _))⟩) (fun _=>⟨w,_,rfl,by lia,D4.same (aC ht _),o4.trans (.of (aC ht _))⟩)⟩⟩
  ·exact fi (aL (by show w.length+1<=_;lia))
  ·rw[pU];show w.length+1<=9;lia
 rintro σ G ⟨w,v3,rfl,w8,D4,o4⟩;refine⟨fun σ G=>∃(w:Str) (v3:Option V),σ=[some (.ref p),some (.str "abcdefghijklmnopqrstuvwxyz"),some (.str w),v3]/\w.length<=10/\jE G p l/\Out p l H G,?_,?_⟩
 ·refine⟨_,rfl,by show 5<=sizeLine;decide,fun t ht=>⟨t,_,rfl,.inr (aT.of aD),rfl,rfl,_,rfl,aB2 (fun _=>⟨_,rfl,_,_,rfl,rfl,?_,_,_,rfl,?_,D4.same (aC ht _),o4.trans (.of (aC ht _))⟩) (fun _=>⟨w,_,rfl,by lia,D4.same (aC ht _),o4.trans (.of (aC ht _))⟩)⟩⟩
  ·exact fi (aL (by show w.length+1<=_;lia))
  ·rw[pU];show w.length+1<=10;lia
 rintro σ G ⟨w,v3,rfl,w8,D4,o4⟩;exact⟨_,rfl,k w _ (by lia) D4 o4⟩
def cH0(C_LNm:Cl P w K mg base 2 spNameP "_law_name")(m_range:mg "range"=none):eV P w K mg base "_law_names" "_law_names" cQ8 3 ["_law_pot_here","_law_many"] spNamesP:=by
 refine fL ["_law_pot_here","_law_many","_law_letters","_law_found","_law_k","_law_name_here","_law_spare"] fun H Q nd hr h=>?_
 obtain⟨p,l,n,rfl,D,n1,n3,k⟩:=h;refine⟨_,(cZ 2 nd aJ
  (cZ 3 nd (cM eL)
  (aF (xN (eK (by rfl) m_range (aQ (pv 1))) (gX 4 nd)
  (cZ 5 nd (bP C_LNm hr (aQ (pv 0)))
  (cZ 6 nd aB
  (aF (fR ij (eO fU (pv 5) (pv 3))
  (cZ 5 nd (aI aH4 (bQ aL4 (pv 2) (aI eW (pv 6) aB)) (aI bE aB (aI nZ (pv 6) aB)))
  (aE (psz 6 nd (aI bE (pv 6) aB)))))
  (aE (cO (eZ bh cz de cJ (pv 3) (aQ (pv 5)))))))))
  (aE (aK (pv 3)))))),?_⟩
 refine⟨bi _,fun fl hfl=>?_⟩;obtain⟨nf1,nf2⟩:=fC D hfl;have s1:=aC hfl (.lst []);have g1:aN H fl (.lst []) fl=some (.lst (([]:List Str).map V.str)):=aD;have D1:=D.same s1;generalize aN H fl (.lst [])=H1 at s1 g1 D1 ⊢;refine⟨_,rfl,n,rfl,by lia,by lia,rO (n:=n.toNat) (fun i σ G=>∃(ws:List Str) (v4 v5 v6:Option V),σ=[some (.ref p),some (.int n),some (.str "zyxwvutsrqponmlkjihgfedcba"),some (.ref fl),v4,v5,v6]/\jE G p l/\Out p l H G/\G fl=some (.lst (ws.map V.str))/\ws.length=i)
  ⟨[],_,_,_,rfl,D1,.of s1,g1,rfl⟩ ?_ ?_⟩
 ·rintro D' N i hN σ G hi ⟨ws,v4,v5,v6,rfl,D2,o2,g2,hl⟩;refine⟨_,rfl,p,l,rfl,D2,fun w H3 w20 D3 o3=>?_⟩;have g3:=eP g2 nf1 nf2 o3;refine⟨fun j σ G=>∃(w:Str) (s:Nat),σ=[some (.ref p),some (.int n),some (.str "zyxwvutsrqponmlkjihgfedcba"),some (.ref fl),some (.int (0+i)),some (.str w),some (.int s)]/\G=H3/\s<=3/\kJ (lzs.take (s-1)) ws/\(0<s->w=lzs.getD (s-1) "")/\j=3-s,⟨_,w,0,rfl,rfl,by decide,(fun _ z=>nomatch z),(fun z=>absurd z (by decide)),rfl⟩,?_⟩;rintro j σ G' ⟨w,s,rfl,rfl,s3,hs,hw,rfl⟩;refine⟨_,rfl,_,rfl,fl,_,rfl,.inl (bR.of g3),rfl,dO _,_,rfl,?_⟩;have ei:inV (V.str w) (ws.map V.str)=decide (w∈ws):=nG _ _
  by_cases c:w∈ws
  ·refine bW (ei.trans (ap c)) ?_;obtain⟨s2,ht⟩:=bO0 s3 hs hw c (by lia);obtain⟨ch,hc,ech⟩:=cS9 s2;refine⟨fun σ' G2=>∃(w':Str) (s':Nat),σ'=[some (.ref p),some (.int n),some (.str "zyxwvutsrqponmlkjihgfedcba"),some (.ref fl),some (.int (0+i)),some (.str w'),some (.int s')]/\G2=G'/\s'<=3/\kJ (lzs.take (s'-1)) ws/\(0<s'->w'=lzs.getD (s'-1) "")/\3-s'<3-s,(by rintro σ' G2 ⟨w',s',e1,e2,e3,e4,e5,e6⟩;exact ⟨_,e6,w',s',e1,e2,e3,e4,e5,rfl⟩),?_⟩;refine⟨_,rfl,_,rfl,_,_,rfl,rfl,(show(0:Int)<26 by decide),_,_,ch,rfl,rfl,by decide,hc,_,rfl,_,_,rfl,rfl,⟨by decide,by decide⟩,_,_,rfl,rfl,_,_,rfl,rfl,rfl,.inr (by show 1+(s:Int) / 26=1;lia),?_⟩;refine⟨_,rfl,_,_,rfl,rfl,_,s+1,by rw[qo];rfl,rfl,by lia,ht,fun _=>?_,by lia⟩;show(if 1+(s:Int) / 26=0 then Str.empty else (⟨#[ch]⟩:Str))=_;rw[ai (by lia),ech];rfl
  ·refine bJ (fun z=>c (ar (ei.symm.trans z))) ?_;refine⟨_,rfl,.inl ⟨rfl,_,bR.of g3⟩,_,rfl,fl,_,_,rfl,rfl,g3,by rw[ac];exact aL (by lia),?_⟩;exact hN _ _ ⟨ws++[w],_,_,_,rfl,qQ D3 nf1 nf2,Mine.Out.new (o2.trans o3) hfl,by rw[aD,aq];rfl,by rw[bg,hl];rfl⟩
 ·rintro σ G ⟨ws,v4,v5,v6,rfl,D2,o2,g2,hl⟩;exact⟨_,rfl,k fl ws _ hfl g2 hl D2 o2 nf1 nf2⟩
def cD9  : eV P w K mg base "_law_lowest" "_law_lowest" cO9 1 ["_law_top","_law_bottom"] spLowY:=by
 refine fL ["_law_top","_law_bottom","_law_one","_law_other"] fun H Q nd hr h=>?_
 obtain⟨a,b,rfl,ha,hb,hz,k⟩:=h;refine⟨_,(aF (aJ1 (i:=2) (j:=3) rfl nd rfl rfl (by decide) rfl rfl (aA (pv 0) (aQ (pv 1))) rfl)
  (aF (fR ij (eO iP (pv 3) aB)
  (aE (aJ1 (i:=2) (j:=3) rfl nd rfl rfl (by decide) rfl rfl (aA (pv 3) (aQ (aI eW (pv 2) (pv 3)))) rfl)))
  (aE (aK (aS (aA (aI fM (pv 0) (pv 2)) (aQ (aI fM (pv 1) (pv 2))))))))),?_⟩
 have g0:0<gI a b:=xP hb;obtain⟨n,hn,hn2⟩:=hz;have g1:∃n,cA n (gI a b)/\n<=8990:=⟨n,cm (by have:=bT9 (a:=a) hb;lia) hn,hn2⟩
 refine⟨_,rfl,_,rfl,_,_,rfl,?_⟩;refine⟨fun j σ H1=>H1=H/\∃(x y:Int),σ=[some (.int a),some (.int b),some (.int x),some (.int y)]/\0<=x/\0<=y/\gI x y=gI a b/\j=y.toNat,⟨_,rfl,a,b,rfl,ha,by lia,rfl,rfl⟩,?_⟩;rintro j σ H1 ⟨rfl,x,y,rfl,hx,hy,hg,rfl⟩;refine⟨_,rfl,_,_,rfl,rfl,_,rfl,?_⟩;refine aB2 (fun c=>?_) (fun c=>?_)
 ·have yp:0<y:=ar c;refine⟨fun σ' H'=>H'=H1/\σ'=[some (.int a),some (.int b),some (.int y),some (.int (x % y))],fun σ' H' ⟨e1,e2⟩=>⟨(x % y).toNat,?_,e1,y,x % y,e2,hy,gq _ (by lia),(aC0 hx yp).trans hg,rfl⟩,?_⟩
  ·have:=gu x yp;have:=gq x (show y≠0 by lia);lia
  ·exact⟨_,rfl,_,rfl,_,rfl,_,_,rfl,rfl,yp,_,_,rfl,rfl,rfl⟩
 ·have y0:y=0:=by
   have:¬0<y:=fun z=>c (ap z)
   lia
  subst y0;rw[aN5 hx] at hg;subst hg;exact⟨_,rfl,_,rfl,_,_,rfl,rfl,⟨g0,g1⟩,_,rfl,_,rfl,_,_,rfl,rfl,⟨g0,g1⟩,cS,fun p hp=>k p hp⟩
def cG1(C_LLw:Cl P w K mg base 1 spLowY "_law_lowest"):eV P w K mg base "_law_added" "_law_added" cO5 2 ["_law_one","_law_other"] spAddX:=by
 refine fL ["_law_one","_law_other"] fun H Q nd hr h=>?_
 obtain⟨p,q,⟨a,b⟩,⟨c,d⟩,m,n,rfl,hp,hq,⟨a0,b1,ab,bb⟩,⟨c0,d1,cb,db⟩,hm,hn,k⟩:=h;refine⟨_,(aE (aK (bP C_LLw hr (aA (aI bE (aI dZ (bQ aG (pv 0) aB) (bQ aG (pv 1) aB)) (aI dZ (bQ aG (pv 1) aB) (bQ aG (pv 0) aB))) (aQ (aI dZ (bQ aG (pv 0) aB) (bQ aG (pv 1) aB))))))),?_⟩;replace a0:0<=a:=a0;replace b1:1<=b:=b1;replace c0:0<=c:=c0;replace d1:1<=d:=d1;have q1:0<=a*d+c*b:=yj (cj a0 (by lia)) (cj c0 (by lia));have q2:1<=b*d:=dk (by lia) (by lia);refine⟨_,rfl,p,_,_,_,rfl,rfl,aT.of hp,zR a b,_,rfl,q,_,_,_,rfl,rfl,aT.of hq,qR c d,_,_,rfl,rfl,⟨m,n,ab,db,by lia,by lia⟩,?_⟩;refine⟨_,rfl,q,_,_,_,rfl,rfl,aT.of hq,zR c d,_,rfl,p,_,_,_,rfl,rfl,aT.of hp,qR a b,_,_,rfl,rfl,⟨n,m,cb,bb,by lia,by lia⟩,_,_,rfl,rfl,?_⟩;refine⟨_,rfl,p,_,_,_,rfl,rfl,aT.of hp,qR a b,_,rfl,q,_,_,_,rfl,rfl,aT.of hq,qR c d,_,_,rfl,rfl,⟨m,n,bb,db,by lia,by lia⟩,?_⟩
 exact⟨_,_,rfl,q1,q2,⟨m+n,bb.mul db,by lia⟩,k⟩
def cA5(n:Nat)(C_LVl:Cl P w K mg base (n+1) (aO7 n) "_law_value")(m_int:mg "int"=none):eV P w K mg base "_law_value" "_law_value" cO2 (n+1+1) ["_law_term_here","_law_values"] (aO7 (n+1)):=by
 refine fL ["_law_term_here","_law_values","_law_one","_law_other"] fun H Q nd hr h=>?_
 obtain⟨t,vd,ev,rfl,ht,ok,dp,D0,k⟩:=h;have hu:=gN hr;refine⟨_,(aF (bM (eO cG (bQ aG (pv 0) aB) aJ) (aE (aK (bQ aG (pv 0) aB))) aX)
  (aF (bM (eO cG (bQ aG (pv 0) aB) aJ) (aE (aK (qH hu (pv 1) (bQ aG (pv 0) aB)))) aX)
  (cZ 2 nd (bP C_LVl hr (aA (bQ aG (pv 0) aB) (aQ (pv 1))))
  (cZ 3 nd (bP C_LVl hr (aA (bQ aG (pv 0) aB) (aQ (pv 1))))
  (aF (bM (eO cG (bQ aG (pv 0) aB) aJ) (aE (aK (uX lM m_int km (aQ (pec lX (pv 2) (pv 3)))))) aX)
  (aF (bM (eO cG (bQ aG (pv 0) aB) aJ) (aE (aK (uX lM m_int km (aQ (pec cG (pv 2) (pv 3)))))) aX)
  (aE (aK (aI eW (qH hu (aR5 (fP aJ (aI bE (pv 2) (pv 3)) (fP aJ (aI cQ (pv 2) (pv 3)) (fP aJ (aI kX (pv 2) (pv 3)) aN2))) rfl rfl (by decide) (by decide)) (bQ aG (pv 0) aB)) aB))))))))),?_⟩
 refine⟨_,rfl,t.p,_,_,.str t.w,rfl,rfl,aT.of ht.at,at0 _ _,rfl,_,rfl,?_⟩;generalize hP:t.p=P
 cases t with
 |num p x =>
  obtain rfl:p=P:=hP;refine bW (ap rfl) ?_;exact⟨_,rfl,p,_,_,.int x,rfl,rfl,aT.of ht,rfl,k H (aR.refl _)⟩
 |nam p y =>
  obtain rfl:p=P:=hP;refine bJ (fun z=>wNN (ar z)) ?_;refine⟨_,rfl,p,_,_,.str "name",rfl,rfl,aT.of ht,rfl,rfl,_,rfl,?_⟩;refine bW (ap rfl) ?_;exact⟨_,rfl,_,rfl,p,_,_,.str y,rfl,rfl,aT.of ht,rfl,vd,_,rfl,D0.get (by simp[Tm.names]),k H (aR.refl _)⟩
 |op p s a b =>
  obtain rfl:p=P:=hP;refine bJ (fun z=>wON (ar z)) ?_;refine⟨_,rfl,p,_,_,.str "op",rfl,rfl,aT.of ht.1,rfl,rfl,_,rfl,?_⟩;refine bJ (fun z=>wOM (ar z)) ?_;have dp':1+max a.deep b.deep<=n+1:=dp
  cases n with
  |zero=>exact absurd dp' (by have:=a.deep_pos;lia)
  |succ n =>
  refine⟨_,rfl,p,_,_,.ref a.p,rfl,rfl,aT.of ht.1,rfl,_,rfl,a,vd,ev,rfl,ht.2.1,ok.2.1,by lia,D0.sub fun x hx=>dw _ hx,fun H1 s1=>?_⟩;refine⟨_,rfl,p,_,_,.ref b.p,rfl,rfl,aT.of (s1 _ _ ht.1),rfl,_,rfl,b,vd,ev,rfl,ht.2.2.ts (.of s1),ok.2.2,by lia,(D0.same s1).sub fun x hx=>cg _ hx,fun H2 s2=>?_⟩;have s12:=s1.trans s2;have hp2:=s12 _ _ ht.1;have ba:=xI ok.2.1 fun x hx=>D0.bd x (dw _ hx)
  have bb:=xI ok.2.2 fun x hx=>D0.bd x (cg _ hx)
  have kk:∀H',aR H H'->Q (.int (wo s (a.val ev) (b.val ev))) H':=k;generalize a.val ev=x at ba kk ⊢;generalize b.val ev=y at bb kk ⊢;unfold wo at kk;refine⟨_,rfl,p,_,_,.str s,rfl,rfl,aT.of hp2,rfl,rfl,_,rfl,?_⟩
  by_cases c1:s="<"
  ·simp only[if_pos c1] at kk;refine bW (by rw[c1];exact ap rfl) ?_;refine⟨_,rfl,_,rfl,_,_,rfl,rfl,.inr ⟨_,rfl,?_⟩⟩;show Q (.int (if decide (x<y)=true then 1 else 0)) H2;rw[cU6];exact kk _ s12
  simp only[if_neg c1] at kk;refine bJ (fun z=>c1 (by have z:=ar z;injection z)) ?_;refine⟨_,rfl,p,_,_,.str s,rfl,rfl,aT.of hp2,rfl,rfl,_,rfl,?_⟩
  by_cases c2:s="="
  ·simp only[if_pos c2] at kk;refine bW (by rw[c2];exact ap rfl) ?_;refine⟨_,rfl,_,rfl,rfl,.inr ⟨_,rfl,?_⟩⟩;have e:(if decide (V.int x=V.int y)=true then (1:Int) else 0)=if x=y then 1 else 0:=by
    by_cases c:x=y
    ·rw[ao (ap (by rw[c])),ao c]
    ·rw[ai (fun z=>c (by have z:=ar z;injection z)),ai c]
   show Q (.int (if decide (V.int x=V.int y)=true then 1 else 0)) H2;rw[e];exact kk _ s12
  simp only[if_neg c2] at kk;refine bJ (fun z=>c2 (by have z:=ar z;injection z)) ?_;intro d0 hd0;have g3:aN H2 d0 (.dK []) d0=some (.dK []):=aD;have s3:=aC hd0 (.dK []);generalize aN H2 d0 (.dK [])=H3 at g3 s3 ⊢;refine⟨_,rfl,_,rfl,_,_,rfl,rfl,_,rfl,_,rfl,_,_,rfl,rfl,_,rfl,_,rfl,_,_,rfl,rfl,.inl ⟨by lia,by lia⟩,g3,opD (x+y) (x-y) (x*y),rfl,by show 3<=15;decide,?_⟩;rw[bD0];have s4:aR H (aN H3 d0 (.dK (opD (x+y) (x-y) (x*y)))):=fun b o hb=>by rw[aH (aM (s12 _ _ hb) hd0)];exact s3 _ _ (s12 _ _ hb)
  have g4:aN H3 d0 (.dK (opD (x+y) (x-y) (x*y))) d0=some (.dK (opD (x+y) (x-y) (x*y))):=aD;have hp4:=s4 _ _ ht.1;generalize aN H3 d0 (.dK (opD (x+y) (x-y) (x*y)))=H4 at s4 g4 hp4 ⊢;obtain⟨w,hw,hk⟩:∃w:Int,eS H4 d0 (.str s) (some (.int w))/\∀H',aR H H'->Q (.int (w % 1000000)) H':=by
   have hs:=ok.1;simp only[bS4,List.mem_cons,List.not_mem_nil,or_false] at hs;rcases hs with e|e|e|e|e
   ·simp only[if_pos e] at kk;exact⟨x+y,by rw[e, <-bH9.1];exact eS.k (k:=Sum.inr "+") g4,kk⟩
   ·have e1:¬s="+":=by rw[e];decide
    simp only[if_neg e1,if_pos e] at kk;exact⟨x-y,by rw[e, <-bH9.2.1];exact eS.k (k:=Sum.inr "-") g4,kk⟩
   ·have e1:¬s="+":=by rw[e];decide
    have e2:¬s="-":=by rw[e];decide
    simp only[if_neg e1,if_neg e2] at kk;exact⟨x*y,by rw[e, <-bH9.2.2];exact eS.k (k:=Sum.inr "*") g4,kk⟩
   ·exact absurd e c1
   ·exact absurd e c2
  refine⟨_,rfl,p,_,_,.str s,rfl,rfl,aT.of hp4,rfl,d0,_,rfl,hw,_,_,rfl,rfl,(by show(0:Int)<1000000;decide),?_⟩;exact hk _ s4
def cH6(n:Nat)(C_Thr:Cl P w K mg base 8 spThrU "thrown")(C_LWk:Cl P w K mg base (n+8) (aO6 n) "_law_walk")(C_LVl:Cl P w K mg base 7 (aO7 6) "_law_value")(m_dict:mg "dict"=none)(m_len:mg "len"=none):eV P w K mg base "_law_walk" "_law_walk" cJ6 (n+8+1) ["_law_rows_here","_law_values","_law_crowd_here","_law_told","_law_share"] (aO6 (n+1)):=by
 refine fL ["_law_rows_here","_law_values","_law_crowd_here","_law_told","_law_share","_law_row_here","_law_rest","_law_mine","_law_here","_law_found","_law_answer","_law_part"] fun H Q nd hr h=>?_
 obtain⟨pr,vd,c,tl,sp,NM,cs,M,ks,rs,e,td,sh,rfl,hp,hR,hv,hc,ht,hs,nm,W,hn,hn2,k⟩:=h;have hu:=gN hr;refine⟨_,(aF (bM (eO cG (pB cC m_len ic (aQ (pv 0))) aB) (aE (aK (cM (aQ (aS (aA (pv 3) (aQ (pv 4)))))))) aX)
  (cZ 5 nd (bQ aG (pv 0) aB)
  (cZ 6 nd (sY bQ6 (pv 0) (qM aB) aM8)
  (aF (bM (eO cG (bQ aG (pv 5) aB) aJ) (aE (aK (bP C_LWk hr (aA (pv 6) (aA (pv 1) (aA (pv 2) (aA (aI rN (pv 3) (aS (aQ (bP C_LVl hr (aA (bQ aG (pv 5) aB) (aQ (pv 1))))))) (aQ (pv 4))))))))) aX)
  (aF (bM (eO cG (bQ aG (pv 5) aB) aJ) (cZ 7 nd (nN (gK (eO bK7 (bP C_LVl hr (aA (bQ aG (pv 5) aB) (aQ (pv 1)))) aB) (bQ aG (pv 5) aB) (bQ aG (pv 5) aB)))
  (aE (aK (bP C_LWk hr (aA (aI rN (pv 7) (pv 6)) (aA (pv 1) (aA (pv 2) (aA (pv 3) (aQ (pv 4)))))))))) aX)
  (aF (bM (eO cG (bQ aG (pv 5) aB) aJ) (aE (aK (bP C_LWk hr (aA (aI rN (aI bQ3 (bQ aG (pv 5) aB) (bQ aG (pv 5) aB)) (pv 6)) (aA (pv 1) (aA (pv 2) (aA (pv 3) (aQ (pv 4))))))))) aX)
  (cZ 8 nd (uX mJ m_dict qi (aQ (pv 1)))
  (aF (bM (eO cG (bQ aG (pv 5) aB) aJ) (aF (pdp hu (pv 8) (bQ aG (pv 5) aB) (bP C_LVl hr (aA (bQ aG (pv 5) aB) (aQ (pv 1)))))
  (aE (aK (bP C_LWk hr (aA (pv 6) (aA (pv 8) (aA (pv 2) (aA (pv 3) (aQ (pv 4)))))))))) aX)
  (cZ 9 nd (cM eL)
  (aF (xN (mU (bP C_Thr hr (aA (pv 5) (aQ (pv 2))))) (kC rfl (bY (gX 10 nd) (bY (gX 11 nd) gB)))
  (aF (pdp hu (pv 8) (bQ aG (pv 5) aB) (pv 10))
  (aE (cO (eZ bh ky lh lN (pv 9) (aQ (bP C_LWk hr (aA (pv 6) (aA (uX mJ m_dict qi (aQ (pv 8))) (aA (pv 2) (aA (pv 3) (aQ (aS (aA (aI dZ (bQ aG (pv 4) aB) (bQ aG (pv 11) aB)) (aQ (aI dZ (bQ aG (pv 4) aB) (bQ aG (pv 11) aB)))))))))))))))))
  (aE (aK (pv 9))))))))))))),?_⟩
 refine⟨_,rfl,pr,_,rfl,.inr (aT.of hp),rfl,_,rfl,?_⟩;have g:=W.g;have ok:=g.ok;have kn:=g.kn
 cases rs with
 |nil =>
  refine bW (ap rfl) ?_;refine⟨_,rfl,_,rfl,cS,fun t1 h1=>⟨uU,fun l1 hl1=>?_⟩⟩;have s1:=(aC h1 (.tup [.ref tl,.ref sp])).trans (aC hl1 (.lst [.ref t1]));refine k l1 _ _ s1 aD ?_;rw[cI8];exact⟨⟨t1,_,sp,rfl,(aC hl1 _) _ _ aD,⟨tl,rfl,s1 _ _ ht⟩,s1 _ _ hs⟩,trivial⟩
 |cons r rs =>
 refine bJ (by
  intro z;have z:=ar z;injection z with z
  have z:((rs.length+1:Nat):Int)=0:=by rw[<-z,wJ,bo];unfold bK;rw[ac]
  lia) ?_
 have lc:=lB (r::rs);rw[bo] at lc;have cp:=zM r
 cases n with
 |zero=>exact absurd hn (by simp only[aP];lia)
 |succ n =>
 refine⟨_,rfl,pr,_,_,.ref r.p,rfl,rfl,aT.of hp,at0 _ _,?_⟩;refine⟨_,rfl,_,rfl,pr,_,rfl,hp,fun q1 H1 s1 h1=>?_⟩;have e1:iZ (bK (r::rs)) (some 1) none=bK rs:=by rw[bJ6 (by decide) (by rw[wJ,bo];lia)];rfl
 rw[e1] at h1;replace hR:=bO.ts (.of s1) _ hR;obtain⟨hw,hR⟩:=hR;replace hp:=s1 _ _ hp;replace hv:=s1 _ _ hv;replace hc:dF H1 c cs:=s1 _ _ hc;replace ht:dF H1 tl td:=s1 _ _ ht;replace hs:aY H1 sp sh.1 sh.2:=s1 _ _ hs
 cases r with
 |tell p t =>
  obtain⟨W2,l2⟩:=W.tell;refine⟨_,rfl,p,_,_,.str "tell",rfl,rfl,aT.of hw.1,rfl,rfl,_,rfl,bW (ap rfl) ?_⟩;refine⟨_,rfl,_,rfl,_,rfl,_,rfl,_,rfl,p,_,_,.ref t.p,rfl,rfl,aT.of hw.1,rfl,_,rfl,t,vd,e,rfl,hw.2,ok.1.1,aZ6 ok.1.2,g.dv hv kn.1,fun H2 s2=>⟨uU,fun t1 hn1=>?_⟩⟩;have s3:=s2.trans (aC hn1 (.tup [.int (t.val e)]));refine⟨tl,t1,_,_,rfl,rfl,s3 _ _ ht,aD,?_,fun t2 H4 s4 h4=>⟨_,rfl,?_⟩⟩
  ·rw[ac];have:=g.tl;have this:td.length+eI (.tell p t::rs)<=4:=this;exact fi (aL (by show td.length+1<=1000;lia))
  have s14:=s3.trans s4;have e4:td.map V.int++[V.int (t.val e)]=(td++[t.val e]).map V.int:=by rw[aq];rfl
  rw[e4] at h4;refine⟨q1,vd,c,t2,sp,NM,cs,M,ks,rs,e,td++[t.val e],sh,rfl,s14 _ _ h1,bO.ts (.of s14) _ hR,s14 _ _ hv,s14 _ _ hc,h4,s14 _ _ hs,nm,W2,by lia,by lia,fun l us H5 s5 hl tw=>?_⟩;rw[<-bL7 (p:=p)] at tw;exact k l us H5 (s1.trans (s14.trans s5)) hl tw
 |when p pa pb t a b =>
  obtain⟨hw1,hw2,hw3,hw4,hw5,hw6⟩:=id hw;refine⟨_,rfl,p,_,_,.str "when",rfl,rfl,aT.of hw1,rfl,rfl,_,rfl,bJ (by decide) ?_⟩;refine⟨_,rfl,p,_,_,.str "when",rfl,rfl,aT.of hw1,rfl,rfl,_,rfl,bW (ap rfl) ?_⟩;refine⟨fun v G=>∃pm rs',v= .ref pm/\aR H1 G/\G pm=some (.tup (bK rs'))/\bO G rs'/\rs'=if t.val e=0 then b else a,?_,?_⟩
  ·refine⟨_,rfl,p,_,_,.ref t.p,rfl,rfl,aT.of hw1,rfl,_,rfl,t,vd,e,rfl,hw2,ok.1.1.1,aZ6 ok.1.1.2,g.dv hv kn.1.1,fun H2 s2=>⟨rfl,_,rfl,?_⟩⟩
   by_cases c0:t.val e=0
   ·refine bJ (by rw[c0];decide) ?_;exact⟨_,rfl,p,_,_,.ref pb,rfl,rfl,aT.of (s2 _ _ hw1),rfl,pb,b,rfl,s2,s2 _ _ hw4,bO.ts (.of s2) _ hw6,by rw[ao c0]⟩
   ·refine bW (by simpa using c0) ?_;exact⟨_,rfl,p,_,_,.ref pa,rfl,rfl,aT.of (s2 _ _ hw1),rfl,pa,a,rfl,s2,s2 _ _ hw3,bO.ts (.of s2) _ hw5,by rw[ai c0]⟩
  rintro v G ⟨pm,rs',rfl,s2,hm,hr2,er⟩;obtain⟨W2,l2⟩:=W.when er;have lc2:=lB (rs'++rs);rw[bg] at lc2;refine⟨_,rfl,_,rfl,pm,q1,_,_,rfl,rfl,hm,s2 _ _ h1,?_,fun q3 H4 s4 h4=>⟨_,rfl,_,rfl,_,rfl,_,rfl,?_⟩⟩
  ·unfold bK;rw[ac,ac];exact fi (aL (by lia))
  rw[rX] at h4;have s14:=s2.trans s4;refine⟨q3,vd,c,tl,sp,NM,cs,M,ks,rs'++rs,e,td,sh,rfl,h4,bO.app (bO.ts (.of s4) _ hr2) (bO.ts (.of s14) _ hR),s14 _ _ hv,s14 _ _ hc,s14 _ _ ht,s14 _ _ hs,nm,W2,by lia,by lia,fun l us H5 s5 hl tw=>?_⟩;rw[er, <-bM7 (p:=p) (pa:=pa) (pb:=pb)] at tw;exact k l us H5 (s1.trans (s14.trans s5)) hl tw
 |times p pb m b =>
  obtain⟨hw1,hw2,hw3⟩:=id hw;obtain⟨W2,l2⟩:=W.times;have m1:=kn.1.1;refine⟨_,rfl,p,_,_,.str "times",rfl,rfl,aT.of hw1,rfl,rfl,_,rfl,bJ (by decide) ?_⟩;refine⟨_,rfl,p,_,_,.str "times",rfl,rfl,aT.of hw1,rfl,rfl,_,rfl,bJ (by decide) ?_⟩;refine⟨_,rfl,p,_,_,.str "times",rfl,rfl,aT.of hw1,rfl,rfl,_,rfl,bW (ap rfl) ?_⟩;have lc2:=lB (kH m b++rs);have lb:=lB b;have cb:m*aP b<=216:=by
   have:aP (.times p pb m b::rs)=1+m*aP b+aP rs:=rfl;lia
  have lb2:b.length*m<=1000:=by
   rw[mq];exact ay (dy (af m) lb) (by lia)
  refine⟨_,rfl,p,_,_,.ref pb,rfl,rfl,aT.of hw1,rfl,_,rfl,p,_,_,.int m,rfl,rfl,aT.of hw1,rfl,pb,m,_,rfl,rfl,hw2,by lia,by lia,by unfold bK;rw[ac,du];exact lb2,fun q2 H2 s2 h2=>?_⟩;rw[du,zG] at h2;refine⟨_,rfl,q2,q1,_,_,rfl,rfl,h2,s2 _ _ h1,?_,fun q3 H4 s4 h4=>⟨_,rfl,_,rfl,_,rfl,_,rfl,?_⟩⟩
  ·rw[bg] at lc2;unfold bK;rw[ac,ac];exact fi (aL (by lia))
  rw[rX] at h4;have s14:=s2.trans s4;refine⟨q3,vd,c,tl,sp,NM,cs,M,ks,kH m b++rs,e,td,sh,rfl,h4,bO.app (bO.rep (bO.ts (.of s14) _ hw3) m) (bO.ts (.of s14) _ hR),s14 _ _ hv,s14 _ _ hc,s14 _ _ ht,s14 _ _ hs,nm,W2,by lia,by lia,fun l us H5 s5 hl tw=>?_⟩;rw[<-bA7 (p:=p) (pb:=pb)] at tw;exact k l us H5 (s1.trans (s14.trans s5)) hl tw
 |lt p x t =>
  obtain⟨W2,l2⟩:=W.lt;refine⟨_,rfl,p,_,_,.str "let",rfl,rfl,aT.of hw.1,rfl,rfl,_,rfl,bJ (by decide) ?_⟩;refine⟨_,rfl,p,_,_,.str "let",rfl,rfl,aT.of hw.1,rfl,rfl,_,rfl,bJ (by decide) ?_⟩;refine⟨_,rfl,p,_,_,.str "let",rfl,rfl,aT.of hw.1,rfl,rfl,_,rfl,bJ (by decide) ?_⟩;refine⟨_,rfl,vd,_,rfl,hv,fun d2 hd2=>?_⟩;obtain⟨H2,e0,s2,g2⟩:=lay hd2 (.dK (dU ks e));rw[e0];clear e0;refine⟨_,rfl,p,_,_,.str "let",rfl,rfl,aT.of (s2 _ _ hw.1),rfl,rfl,_,rfl,bW (ap rfl) ?_⟩;refine⟨_,rfl,p,_,_,.ref t.p,rfl,rfl,aT.of (s2 _ _ hw.1),rfl,_,rfl,t,vd,e,rfl,hw.2.ts (.of s2),ok.1.1.1,aZ6 ok.1.1.2,g.dv (s2 _ _ hv) kn.1,fun H3 s3=>?_⟩;refine⟨_,rfl,_,rfl,p,_,_,.str x,rfl,rfl,aT.of (s3 _ _ (s2 _ _ hw.1)),rfl,d2,_,rfl,lT.k (k:=Sum.inr x) (s3 _ _ g2) (sM W.nd W.nm nm),?_⟩;rw[oK];have s4:aR H1 (aN H3 d2 (.dK (dU (dP ks x) (cF e x (t.val e))))):=fun b o hb=>by rw[aH (aM hb hd2)];exact s3 _ _ (s2 _ _ hb)
  have g4:aN H3 d2 (.dK (dU (dP ks x) (cF e x (t.val e)))) d2=some (.dK (dU (dP ks x) (cF e x (t.val e)))):=aD;generalize aN H3 d2 (.dK (dU (dP ks x) (cF e x (t.val e))))=H4 at s4 g4 ⊢;refine⟨_,rfl,_,rfl,_,rfl,_,rfl,_,rfl,q1,d2,c,tl,sp,NM,cs,M,dP ks x,rs,cF e x (t.val e),td,sh,rfl,s4 _ _ h1,bO.ts (.of s4) _ hR,g4,s4 _ _ hc,s4 _ _ ht,s4 _ _ hs,nm,W2,by lia,by lia,fun l us H5 s5 hl tw=>?_⟩;rw[<-cO7 (p:=p)] at tw;exact k l us H5 (s1.trans (s4.trans s5)) hl tw
 |thr p x T a3 wss =>
  obtain⟨us0,hu⟩:=uS.at hw.1;have ct:aP (.thr p x T a3 wss::rs)=1+aP rs:=rfl;refine⟨_,rfl,p,_,_,.str T.wd,rfl,rfl,aT.of hu,at0 _ _,rfl,_,rfl,bJ (fun z=>(aM9 T).1 (ar z)) ?_⟩;refine⟨_,rfl,p,_,_,.str T.wd,rfl,rfl,aT.of hu,at0 _ _,rfl,_,rfl,bJ (fun z=>(aP2 T).1 (ar z)) ?_⟩;refine⟨_,rfl,p,_,_,.str T.wd,rfl,rfl,aT.of hu,at0 _ _,rfl,_,rfl,bJ (fun z=>(aP2 T).2 (ar z)) ?_⟩;refine⟨_,rfl,vd,_,rfl,hv,fun d2 hd2=>?_⟩;obtain⟨H2,e0,s2,g2⟩:=lay hd2 (.dK (dU ks e));rw[e0];clear e0;refine⟨_,rfl,p,_,_,.str T.wd,rfl,rfl,aT.of (s2 _ _ hu),at0 _ _,rfl,_,rfl,bJ (fun z=>(aM9 T).2 (ar z)) ?_⟩;refine⟨bi _,fun fl hfl=>?_⟩;have fl2:fl≠d2:=(aM g2 hfl).symm;have f1:H1 fl=none:=s2.free hfl;have s3:=s2.trans (aC hfl (.lst []));have g3:=(aC hfl (.lst [])) _ _ g2;have l3:aN H2 fl (.lst []) fl=some (.lst []):=aD;generalize aN H2 fl (.lst [])=H3 at s3 g3 l3 ⊢
  have hw3:=vN.ts (.of s3) _ hw;refine⟨_,rfl,_,rfl,p,c,T,a3,wss,cs,rfl,⟨uS.t hw3.1,hw3.2,s3 _ _ hc⟩,ok.1.1.1,ok.1.1.2,fun H4 t us s4 h4 tw4=>?_⟩;have s14:=s3.trans s4;have hu4:=s14 _ _ hu;have tb:dH (nC H4) us (oY cs T wss):=tw4;have o:=mQ ok.1.1.1 ok.1.1.2;have tl10:(oY cs T wss).length<=10:=ay o.le o.l10;clear tw4 g2 hw3;refine⟨t,rfl,⟨_,aT.of h4⟩,zI (K:=K) (a:=t) (xs:=us) (fun i σ G=>∃(ks':List Str) (e':Ev) (ls:List V) (v10 v11:Option V),σ=[some (.ref pr),some (.ref vd),some (.ref c),some (.ref tl),some (.ref sp),some (.ref p),some (.ref q1),none,some (.ref d2),some (.ref fl),v10,v11]/\aR H1 G/\TS H4 G/\G d2=some (.dK (dU ks' e'))/\(ks'=ks/\e'=e\/ks'=dP ks x/\∃v,e'=cF e x v)/\G fl=some (.lst ls)/\dH (qU true G) ls (((oY cs T wss).take i).flatMap fun z=>WV cs rs (cF e x z.1) td (lP sh z.2)))
   ⟨ks,e,[],_,_,rfl,s14,(fun _ _ z=>z),s4 _ _ g3,.inl ⟨rfl,rfl⟩,s4 _ _ l3,trivial⟩ (by rintro i σ G _ ⟨_,_,_,_,_,_,_,t5,_⟩;exact aT.of (t5 _ _ h4)) ?_ ?_⟩
  ·rintro D' N i hN v σ G hv' ⟨ks',e',ls,v10,v11,rfl,s5,t5,g5,hk5,l5,tw5⟩;obtain⟨z,hz,pz,qz,rfl,hpz,hqz⟩:=tb.at hv';have mz:=bj hz;obtain⟨W2,z1,z2,z3⟩:=W.thr mz;refine⟨pz,_,rfl,aT.of (t5 _ _ hpz),rfl,_,_,rfl,_,_,rfl,rfl,?_⟩;have few5:(dU ks' e').length<sizeLine:=by
    rcases hk5 with⟨h1,_⟩|⟨h1,_⟩
    ·rw[h1];exact sM W.nd W.nm nm
    ·rw[h1];exact sM W2.nd W2.nm nm
   refine⟨_,rfl,_,rfl,_,rfl,p,_,_,.str x,rfl,rfl,aT.of (s5 _ _ hu),cX3 _ _ _,d2,_,rfl,lT.k (k:=Sum.inr x) g5 few5,?_⟩;have e6:cH (dU ks' e') (Sum.inr x) (.int z.1)=dU (dP ks x) (cF e x z.1):=by
    rw[oK];rcases hk5 with⟨h1,h2⟩|⟨h1,w,h2⟩
    ·rw[h1,h2]
    ·rw[h1,h2,aH2,aF5]
   rw[e6];have s6:aR H1 (aN G d2 (.dK (dU (dP ks x) (cF e x z.1)))):=fun b o hb=>by rw[aH (aM hb hd2)];exact s5 _ _ hb
   have t6:TS G (aN G d2 (.dK (dU (dP ks x) (cF e x z.1)))):=wH g5 (by intro xs q;cases q);have g6:aN G d2 (.dK (dU (dP ks x) (cF e x z.1))) d2=some (.dK (dU (dP ks x) (cF e x z.1))):=aD;have l6:aN G d2 (.dK (dU (dP ks x) (cF e x z.1))) fl=some (.lst ls):=(aH fl2).trans l5;generalize aN G d2 (.dK (dU (dP ks x) (cF e x z.1)))=G6 at s6 t6 g6 l6 ⊢;refine⟨_,rfl,.inl ⟨rfl,_,bR.of l6⟩,_,rfl,_,rfl,d2,_,rfl,g6,fun d7 hd7=>?_⟩;obtain⟨G7,e0,s7,g7⟩:=lay hd7 (.dK (dU (dP ks x) (cF e x z.1)));rw[e0];clear e0;have s17:=s6.trans s7;have hs7:aY G7 sp sh.1 sh.2:=s17 _ _ hs;have hq7:aY G7 qz z.2.1 z.2.2:=((t5.trans t6).trans (.of s7)) _ _ hqz;have lr1:=(yX rs ok.2).1;have sb:=W.sb;have p850:(2:Int)^850<2^900:=by decide
   have shb:sh.2<=2^850:=by
    have q:=gf (yX _ ok).1 (show 0<=sh.2 by have:=W.s1;have:=W.s2;lia);rw[ku] at q;exact bm q sb
   have ws1:=W.s1;have ws2:=W.s2;have B1:cA 900 sh.1:=cA.of (by lia) (by generalize (2:Int)^850=y at *;generalize (2:Int)^900=y' at *;lia);have B2:cA 900 sh.2:=cA.of (by lia) (by generalize (2:Int)^850=y at *;generalize (2:Int)^900=y' at *;lia);have B3:cA 900 z.2.1:=cA.of (by lia) (by generalize (2:Int)^850=y at *;generalize (2:Int)^900=y' at *;lia);have B4:cA 900 z.2.2:=cA.of (by lia) (by generalize (2:Int)^850=y at *;generalize (2:Int)^900=y' at *;lia);clear sb p850 shb;refine⟨_,rfl,_,rfl,_,rfl,sp,_,_,_,rfl,rfl,aT.of hs7,zR _ _,_,rfl,qz,_,_,_,rfl,rfl,aT.of hq7,zR _ _,_,_,rfl,rfl,⟨900,900,B1,B3,by decide,by decide⟩,?_⟩;refine⟨_,rfl,sp,_,_,_,rfl,rfl,aT.of hs7,qR _ _,_,rfl,qz,_,_,_,rfl,rfl,aT.of hq7,qR _ _,_,_,rfl,rfl,⟨900,900,B2,B4,by decide,by decide⟩,cS,fun sp8 hsp8=>?_⟩;have s8:=aC hsp8 (.tup [.int (sh.1*z.2.1),.int (sh.2*z.2.2)]);have g8:aY (aN G7 sp8 (.tup [.int (sh.1*z.2.1),.int (sh.2*z.2.2)])) sp8 (lP sh z.2).1 (lP sh z.2).2:=aD
   dsimp only
   generalize aN G7 sp8 (.tup [.int (sh.1*z.2.1),.int (sh.2*z.2.2)])=G8 at s8 g8 ⊢;have s18:=s17.trans s8;have s68:=s7.trans s8;refine⟨q1,d7,c,tl,sp8,NM,cs,M,dP ks x,rs,cF e x z.1,td,lP sh z.2,rfl,s18 _ _ h1,bO.ts (.of s18) _ hR,s8 _ _ g7,s18 _ _ hc,s18 _ _ ht,g8,nm,W2,by lia,by lia,fun l us' H9 s9 hl tw=>?_⟩;have s69:=s68.trans s9;have t9:=(t6.trans (.of s69))
   have l9:=s69 _ _ l6;have ln1:=tw.length;have ln2:=tw5.length;have wl:=iR (aP rs+1) rs (cF e x z.1) td (lP sh z.2) ok.2;have w40:=W2.w;have f10:((oY cs T wss).take i).length*40<=400:=by rw[ef];lia
   have fm:(((oY cs T wss).take i).flatMap fun z=>WV cs rs (cF e x z.1) td (lP sh z.2)).length<=400:=by
    refine ay ?_ f10;generalize (oY cs T wss).take i=L
    induction L with
    |nil=>simp
    |cons a L ih =>
     rw[gj,bg,bo,mo];have:=iR (aP rs+1) rs (cF e x a.1) td (lP sh a.2) ok.2;have this:(WV cs rs (cF e x a.1) td (lP sh a.2)).length<=wL rs:=this;lia
   have wl:(WV cs rs (cF e x z.1) td (lP sh z.2)).length<=wL rs:=wl;refine⟨fl,l,_,_,rfl,rfl,l9,hl,fi (aL (by lia)),?_⟩;have sF:aR H1 (aN H9 fl (.lst (ls++us'))):=fun b o hb=>by rw[aH (aM hb f1)];exact(s18.trans s9) _ _ hb
   have tF:TS H9 (aN H9 fl (.lst (ls++us'))):=TS.lst l9;refine hN _ _ ⟨dP ks x,cF e x z.1,ls++us',_,_,rfl,sF,t5.trans (t9.trans tF),(aH fl2.symm).trans (s69 _ _ g6),.inr ⟨rfl,_,rfl⟩,aD,?_⟩;rw[cX hz,tq];refine dH.append (tw5.mono fun _ _ q=>qU.ts (t9.trans tF) q) ?_;rw[gj,List.flatMap_nil,jk];exact tw.mono fun _ _ q=>qU.ts tF q
  ·rintro σ G ⟨ks',e',ls,v10,v11,rfl,s5,t5,g5,hk5,l5,tw5⟩;rw[tb.length,eh, <-bZ4 (p:=p) (a3:=a3)] at tw5;exact⟨_,rfl,k fl ls G (s1.trans s5) l5 tw5⟩
def cG6(C_LWk:Cl P w K mg base 225 (aO6 217) "_law_walk"):eV P w K mg base "_law_runs" "_law_runs" cK2 226 ["_law_program_here","_law_crowd_here"] spRunsL:=by
 refine fL ["_law_program_here","_law_crowd_here"] fun H Q nd hr h=>?_
 obtain⟨pg,kt,pr,c,xs,kn,rs,cs,rfl,h1,h2,hR,hc,P,l,k⟩:=h;refine⟨_,(aE (aK (bP C_LWk hr (aA (bQ aG (pv 0) aB) (aA sK (aA (pv 1) (aA (aS eL) (aQ (aS (aA aB (aQ aB))))))))))),?_⟩;obtain⟨W,m1,m2⟩:=P.wk l;refine⟨_,rfl,pg,_,_,.ref pr,rfl,rfl,aT.of h1,rfl,fun d hd=>?_⟩;have s1:=aC hd (.dK []);have g1:aN H d (.dK []) d=some (.dK (dU [] e0)):=aD;generalize aN H d (.dK [])=H1 at s1 g1 ⊢;refine⟨_,rfl,bi _,fun t0 ht0=>⟨cS,fun t1 ht1=>?_⟩⟩;have s3:=(aC ht0 (.tup [])).trans (aC ht1 (.tup [.int 1,.int 1]));have s13:=s1.trans s3;exact⟨pr,d,c,t0,t1,xs,cs,mL cs rs,[],rs,e0,[],(1,1),rfl,s13 _ _ h2,bO.ts (.of s13) _ hR,s3 _ _ g1,s13 _ _ hc,(aC ht1 _) _ _ aD,aD,by have:=P.x3;lia,W,P.cost,P.cost,fun l us H' s hl tw=>k l us H' (s13.trans s) hl tw⟩
def bY1(C_LAd:Cl P w K mg base 2 spAddX "_law_added")(C_LLw:Cl P w K mg base 1 spLowY "_law_lowest")(m_tuple:mg "tuple"=none)(m_sorted:mg "sorted"=none):eV P w K mg base "_law_table" "_law_table" cK0 3 ["_law_some"] spLTb:=by
 refine fL ["_law_some","_law_found","_law_told","_law_share"] fun H Q nd hr h=>?_
 obtain⟨l,us,ws,M,rfl,hl,tw,h60,m1,m2,lf,k⟩:=h;have hu:=gN hr;have hr1:dE 1 _:=hr.mono (by decide);have hr2:dE 2 _:=hr.mono (by decide);refine⟨_,(cZ 1 nd aF3
  (aF (xN (iT (pv 0)) (kC rfl (bY (gX 2 nd) (bY (gX 3 nd) gB)))
  (aE (pdp hu (pv 1) (pv 2) (bP C_LAd hr (aA (aA6 hu (pv 1) (pv 2) (aS (aA aB (aQ aB))) ⟨rfl,rfl,rfl,rfl⟩) (aQ (bP C_LLw hr (aA (bQ aG (pv 3) aB) (aQ (bQ aG (pv 3) aB))))))))))
  (aE (aK (uX bU m_tuple dj (aQ (fE ["_law_told","_law_found"] [none,some 1] (iT (pB (zV hr1) m_sorted wq (aQ (pv 1)))) (fun _ _ _ _=>(gX 0)) (fun _ _ _ _=>fZ) (fun _ _ _ _=>(aS (aA (pv 0) (aQ (qH hu (pv 1) (pv 0))))))))))))),?_⟩
 have ul:=tw.length;have fx:bO6 (ws.map lY):=bJ4 m1 m2 (by rw[ac];exact h60) (bA9 lf);refine cM0 true fun d u hd Dh=>?_
 refine⟨_,rfl,l,rfl,⟨_,bR.of (aC hd _ _ _ hl)⟩,pC (K:=K) (a:=l) (xs:=us) (fun i σ H1=>∃ks u v2 v3,σ=[some (.ref l),some (.ref d),v2,v3]/\aR H H1/\H1 d=some u/\uN true H1 u ks (((ws.map lY).take i).foldl dS fun _=>none)/\ks.length<=i)
  ⟨[],u,_,_,rfl,aC hd _,aD,Dh,af _⟩ (by rintro i σ H1 _ ⟨_,_,_,_,_,e,_⟩;exact bR.of (e _ _ hl)) ?_ ?_⟩
 ·rintro D' N i hN v σ H1 hv ⟨ks,u,v2,v3,rfl,s1,hd1,dh,hkl⟩;obtain⟨e,he,p,x,q,rfl,hp,hx,hq⟩:=tw.at hv;have hi:i<ws.length:=(bz.mp he).1;have her:(ws.map lY)[i]?=some (lY e):=by rw[df,he];rfl
  have fe:=fx.1 (lY e) (bj her);have bx:=fx.2 i;obtain⟨f1,f2,f3,_⟩:=lf e (bj he);rw[jT her,nS] at hN;generalize ((ws.map lY).take i).foldl dS (fun _=>none)=T at dh bx hN ⊢;refine⟨p,_,rfl,aT.of (s1 _ _ hp),rfl,_,_,rfl,_,_,rfl,rfl,?_⟩;refine⟨_,rfl,d,rfl,dh.isD (.inl hd1),_,rfl,?_⟩;refine⟨cS,fun t0 ht0=>?_⟩;have s2:=s1.trans (aC ht0 (.tup [.int 0,.int 1]));have hd2:=aC ht0 (.tup [.int 0,.int 1]) _ _ hd1;have dh2:=dh.ts (.of (aC ht0 (.tup [.int 0,.int 1])));have h01:aY (aN H1 t0 (.tup [.int 0,.int 1])) t0 0 1:=aD;generalize aN H1 t0 (.tup [.int 0,.int 1])=H2 at s2 hd2 dh2 h01 ⊢;obtain⟨o,dg,og⟩:=dh2.get (.inl hd2) (hx.ts (.of s2));obtain⟨g,hg,tg⟩:=wX og h01;have fg:rD 900 ((T e.1).getD (0,1)):=by
   cases c:T e.1 with
   |none=>exact bX1.mono (by decide)
   |some f=>exact bx _ _ c
  have p850:(2:Int)^850<2^900:=by decide
  refine⟨o,dg,_,rfl,q,_,_,_,rfl,rfl,aT.of (s2 _ _ hq),zR _ _,_,rfl,q,_,_,_,rfl,rfl,aT.of (s2 _ _ hq),qR _ _,_,_,rfl,by lia,by lia,⟨900,cA.of (by lia) (by generalize (2:Int)^850=y at *;generalize (2:Int)^900=y' at *;lia),by decide⟩,fun q2 hq2=>?_⟩;have s3':=aC hq2 (.tup (iG e.2.1 e.2.2));have hr2:aY (aN H2 q2 (.tup (iG e.2.1 e.2.2))) q2 (lY e).2.1 (lY e).2.2:=aD;generalize aN H2 q2 (.tup (iG e.2.1 e.2.2))=H3 at s3' hr2 ⊢;refine⟨g,q2,_,(lY e).2,900,900,by rw[hg];rfl,s3' _ _ tg,hr2,fg,fe,by decide,by decide,fun r hr'=>?_⟩;have hr3:aY (aN H3 r (.tup [.int (cY ((T e.1).getD (0,1)) (lY e).2).1,.int (cY ((T e.1).getD (0,1)) (lY e).2).2])) r (cY ((T e.1).getD (0,1)) (lY e).2).1 (cY ((T e.1).getD (0,1)) (lY e).2).2:=aD;have s4':=s3'.trans (aC hr' (.tup [.int (cY ((T e.1).getD (0,1)) (lY e).2).1,.int (cY ((T e.1).getD (0,1)) (lY e).2).2]));generalize aN H3 r (.tup [.int (cY ((T e.1).getD (0,1)) (lY e).2).1,.int (cY ((T e.1).getD (0,1)) (lY e).2).2])=H4 at s4' hr3 ⊢
  have s4:=s2.trans s4';obtain⟨u',dp,dh4⟩:=(dh2.ts (.of s4')).put (s4' _ _ hd2) hr3 (aL (by lia)) (hx.ts (.of s4));refine⟨_,rfl,_,rfl,d,_,rfl,dp,?_⟩;exact hN _ _ ⟨uR ks e.1,u',_,_,rfl,tE s4 hd,aD,dh4,ay (aA3 _ _) (by lia)⟩
 ·rintro σ H1 ⟨ks,u,v2,v3,rfl,s1,hd1,dh,hkl⟩;rw[ul,show ws.length=(ws.map lY).length by rw[ac],eh] at dh;have eT:(ws.map lY).foldl dS (fun _=>none)=gS (ws.map lY):=rfl;rw[eT] at dh;generalize gS (ws.map lY)=T at dh k;clear eT fx;obtain⟨kvs,rfl,kg⟩:=id dh;have lk:kvs.length=ks.length:=by have:=gv List.length kg.keys;rw[ac,ac] at this;exact this
  refine⟨_,rfl,d,kvs,ks,rfl,hd1,kg.keys,by lia,kg.nd,fun bs as pm tA up l4 hl4=>?_⟩;have s5:=aC hl4 (.lst (bs.map V.ref));have h5:aN H1 l4 (.lst (bs.map V.ref)) l4=some (.lst (bs.map V.ref)):=aD;have tw5:=(bB6 tA).mono fun _ _ z=>xG.ts (.of s5) z
  have hd5:=s5 _ _ hd1;have dh5:=dh.ts (.of s5);generalize aN H1 l4 (.lst (bs.map V.ref))=H5 at s5 h5 tw5 hd5 dh5 ⊢;have al:as.length<=60:=by rw[pm.length_eq];lia
  have lz':=tw5.length;refine⟨l4,rfl,⟨_,bR.of h5⟩,pG (K:=K) (a:=l4) (xs:=bs.map V.ref) (fun i ys σ H6=>aR H5 H6/\(∃v,σ=[v,some (.ref d)])/\dH (qU true H6) ys (iE T (as.take i)))
   (aL (by lia)) ⟨aR.refl _,⟨_,rfl⟩,trivial⟩ (by
    rintro i zs σ H5 ⟨_,_,e⟩;rw[e.length];unfold iE;rw[ac,ef];lia) (by rintro i zs σ H5 _ ⟨e,_⟩;exact bR.of (e _ _ h5)) ?_ ?_⟩
  ·rintro i y ys σ H6 hy ⟨s6,⟨v,rfl⟩,tw6⟩;obtain⟨a,ha,ax⟩:=tw5.at hy;obtain⟨f,hf⟩:=(dh.mem a trivial).mp (pm.mem_iff.mp (bj ha));obtain⟨o',dg,og⟩:=(dh5.ts (.of s6)).get (.inl (s6 _ _ hd5)) (ax.ts (.of s6));rw[hf] at og;obtain⟨q,rfl,hq⟩:=pP og;refine⟨_,rfl,_,rfl,_,rfl,d,.ref q,rfl,dg,?_⟩;refine⟨cS,fun t ht=>⟨s6.trans (aC ht _),⟨_,rfl⟩,?_⟩⟩;have s7:=aC ht (.tup [y,.ref q]);rw[cX ha];unfold iE at tw6 ⊢;rw[aq];refine dH.append (tw6.mono fun _ _ z=>qU.ts (.of s7) z) ⟨⟨t,y,q,rfl,aD,ax.ts (.of (s6.trans s7)),?_⟩,trivial⟩
   dsimp only
   rw[hf];exact s7 _ _ hq
  ·rintro ys σ H6 ⟨s6,_,tw6⟩ l6 hl6;rw[lz',eh] at tw6;refine⟨l6,_,rfl,.inl ⟨bR.of aD,fun u6 hu'=>?_⟩⟩;have s7:=(aC hl6 (.lst ys)).trans (aC hu' (.tup ys));refine k _ u6 as (s1.trans (s5.trans (s6.trans s7))) ⟨ys,aD,tw6.mono fun _ _ z=>qU.ts (.of s7) z⟩ up fun a=>?_
   rw[pm.mem_iff];exact dh.mem a trivial
def cD5(m_isinstance:mg "isinstance"=none)(m_int:mg "int"=none)(m_bool:mg "bool"=none):eV P w K mg base "_law_whole" "_law_whole" cL3 1 ["_law_found"] spWhL:=by
 refine fL ["_law_found"] fun H Q nd hr h=>?_
 obtain⟨n,rfl,k⟩:=h;refine⟨_,(aE (aK (sT (pB fK m_isinstance gm (aA (pv 0) (aQ (lI (v:= .ty "int") (by rfl) m_int km rfl)))) (aK3 (cE1 (pB fK m_isinstance gm (aA (pv 0) (aQ (lI (v:= .ty "bool") (by rfl) m_bool PyProof.Rows.boot_bool rfl))))))))),?_⟩;exact⟨_,rfl,_,_,_,true,rfl,.int n,rfl,_,rfl,bW rfl ⟨_,rfl,_,_,_,false,rfl,.int n,rfl,_,rfl,k _ (.refl _)⟩⟩
def cC4(C_LWh:Cl P w K mg base 1 spWhL "_law_whole")(m_isinstance:mg "isinstance"=none)(m_tuple:mg "tuple"=none)(m_len:mg "len"=none):eV P w K mg base "_law_is_share" "_law_is_share" cL4 2 ["_law_found"] spIsS:=by
 refine fL ["_law_found"] fun H Q nd hr h=>?_
 obtain⟨p,a,b,rfl,hp,k⟩:=h;refine⟨_,(aE (aK (sT (pB fK m_isinstance gm (aA (pv 0) (aQ (lI (v:= .ty "tuple") (by rfl) m_tuple dj rfl)))) (sT (pec cG (pB cC m_len ic (aQ (pv 0))) aB) (sT (bP C_LWh hr (aQ (bQ aG (pv 0) aB))) (aK3 (bP C_LWh hr (aQ (bQ aG (pv 0) aB))))))))),?_⟩;refine⟨_,rfl,_,_,_,true,rfl,.tup hp,rfl,_,rfl,bW rfl ?_⟩;refine⟨_,rfl,p,_,rfl,.inr (aT.of hp),rfl,_,rfl,bW (ap rfl) ?_⟩;refine⟨_,rfl,p,_,_,.int a,rfl,rfl,aT.of hp,rfl,a,rfl,fun H1 s1=>⟨_,rfl,bW rfl ?_⟩⟩;exact⟨_,rfl,p,_,_,.int b,rfl,rfl,aT.of (s1 _ _ hp),rfl,b,rfl,fun H2 s2=>k _ (s1.trans s2)⟩
def cF5(C_LIs:Cl P w K mg base 2 spIsS "_law_is_share")(C_LWh:Cl P w K mg base 1 spWhL "_law_whole")(m_isinstance:mg "isinstance"=none)(m_tuple:mg "tuple"=none):eV P w K mg base "_law_is_table" "_law_is_table" cS3 3 ["_law_found","_law_due"] spIsTb:=by
 refine fL ["_law_found","_law_due","_law_pair"] fun H Q nd hr h=>?_
 obtain⟨t,u,es,rfl,ht,hdu,l60,k⟩:=h;have hr1:dE 1 _:=hr.mono (by decide);refine⟨_,(aF (bM (PW.pt (vX (rS (pF (pB fK m_isinstance gm (aA (pv 0) (aQ (lI (v:= .ty "tuple") (by rfl) m_tuple dj rfl)))))) (rQ (eO (bA5 hr1) (pv 0) (pv 1))))) jK aX)
  (aF (xN (mU (pv 0)) (gX 2 nd)
  (aF (bM (PW.pt (vX (rS (pF (pB fK m_isinstance gm (aA (pv 2) (aQ (lI (v:= .ty "tuple") (by rfl) m_tuple dj rfl)))))) (vX (rS (pF (pB fK m_isinstance gm (aA (bQ aG (pv 2) aB) (aQ (lI (v:= .ty "tuple") (by rfl) m_tuple dj rfl)))))) (rQ (rS (pF (bP C_LIs hr (aQ (bQ aG (pv 2) aB))))))))) jK aX)
  (aE (bM (eO fU aX5 (fE ["_law_number"] [none] (mU (bQ aG (pv 2) aB)) (fun _ _ _ _=>(gX 0)) (fun _ _ _ _=>fZ) (fun _ _ _ _=>(bP C_LWh hr (aQ (pv 0)))))) jK aX))))
  (aE (aK aX5)))),?_⟩
 obtain⟨us,h1,tw⟩:=id ht;refine⟨_,rfl,_,_,_,true,rfl,.tup h1,rfl,_,rfl,bJ (by decide) ?_⟩;refine⟨_,rfl,_,rfl,_,_,aP3 ht,aP3 hdu,nR _ _,nR _ _,sJ _ _,_,rfl,bJ (by show ¬((!Spec.same _ _)=true);rw[aS0];decide) ?_⟩;refine⟨_,rfl,t,rfl,⟨_,aT.of h1⟩,zI (K:=K) (a:=t) (xs:=us) (fun i σ G=>∃v2:Option V,σ=[some (.ref t),some (.ref u),v2]/\aR H G) ⟨_,rfl,.refl _⟩ (by rintro i σ G _ ⟨_,_,s⟩;exact aT.of (s _ _ h1)) ?_ ?_⟩
 ·rintro D' N i hN v σ G hv ⟨v2,rfl,s1⟩;obtain⟨e,he,p,x,q,rfl,hp,⟨pa,rfl,hpa⟩,hq⟩:=tw.at hv;replace hp:=s1 _ _ hp;replace hpa:=s1 _ _ hpa;replace hq:aY G q e.2.1 e.2.2:=s1 _ _ hq;refine⟨_,rfl,_,_,_,true,rfl,.tup hp,rfl,_,rfl,bJ (by decide) ?_⟩;refine⟨_,rfl,p,_,_,.ref pa,rfl,rfl,aT.of hp,rfl,_,_,_,true,rfl,.tup hpa,rfl,_,rfl,bJ (by decide) ?_⟩;refine⟨_,rfl,p,_,_,.ref q,rfl,rfl,aT.of hp,rfl,q,e.2.1,e.2.2,rfl,hq,fun G2 s2=>⟨_,rfl,bJ (by decide) ?_⟩⟩;have hp2:=s2 _ _ hp;have hpa2:=s2 _ _ hpa;have le:=l60 e (bj he);refine⟨_,rfl,p,_,_,.ref pa,rfl,rfl,aT.of hp2,rfl,pa,rfl,⟨_,aT.of hpa2⟩,uB (K:=K) (a:=pa) (xs:=e.1.map V.int) (fun i ys σ G3=>aR G2 G3/\(∃v,σ=[v])/\ys=List.replicate i (V.bl true)) (aL (by rw[ac];lia)) ⟨.refl _,⟨_,rfl⟩,rfl⟩
   (by rintro i ys σ G3 ⟨_,_,rfl⟩;rw[ye];exact af _) (by rintro i ys σ G3 _ ⟨s3,_⟩;exact aT.of (s3 _ _ hpa2)) ?_ ?_⟩
  ·rintro i y ys σ G3 hy ⟨s3,⟨v',rfl⟩,rfl⟩;obtain⟨n,rfl,hn⟩:=lE hy;exact⟨_,rfl,n,rfl,fun G4 s4=>⟨s3.trans s4,⟨_,rfl⟩,by rw[List.replicate_succ']⟩⟩
  rintro ys σ G3 ⟨s3,_,rfl⟩ l3 hl3;refine⟨l3,_,rfl,.inl (bR.of aD),rfl,aK8 _,_,rfl,bJ (by rw[bH2];decide) ?_⟩;exact hN _ _ ⟨_,rfl,s1.trans (s2.trans (s3.trans (aC hl3 _)))⟩
 ·rintro σ G ⟨v2,rfl,s1⟩;exact k _ s1
def bX5(C_LPt:Cl P w K mg base 1 (bK8 K) "_law_pot")(C_LPg:Cl P w K mg base 26 spPrgP "_law_program")(C_Crd:Cl P w K mg base 2 spCrowdP "_law_crowd")(C_LIT:Cl P w K mg base 3 spIsTb "_law_is_table")(C_Told:ClD P w K mg base 10 spTold "told_table" [.int 400])(C_LTb:Cl P w K mg base 3 spLTb "_law_table")(C_LRn:Cl P w K mg base 226 spRunsL "_law_runs")(m_len:mg "len"=none)(m_range:mg "range"=none):eV P w K mg base "law" "law" bH4 227 ["_law_script"] (aP5 K):=by
 refine fL ["_law_script","_law_pot_here","_law_program_here","_law_crowds","_law_crowd_here"] fun H Q nd hr h=>?_
 obtain⟨a,ns,rfl,hS,hlen,k⟩:=h;have hu:=gN hr;refine⟨_,(cZ 1 nd (bP C_LPt hr (aA (pv 0) (aQ aB)))
  (cZ 2 nd (bP C_LPg hr (aA (pv 1) (aA aB (aA aB (aQ aB)))))
  (aF (yC ["_law_k","_law_pot_here","_law_program_here"] [none,some 1,some 2] (i:=3) nd rfl (oo rfl) (eK (by rfl) m_range (aQ aB)) (fun _ _ _ _=>(gX 0)) (fun _ _ _ _=>fZ) (fun _ _ _ _=>(bP C_Crd hr (aA (pv 1) (aQ (pB (cV2 K) m_len ic (aQ (bQ (bB1 K) (pv 2) aB))))))))
  (aF (xN (iT (aI yK (pv 3) (sY aP1 (pv 3) aM8 (qM aB)))) (gX 4 nd)
  (aE (bM (rS (pF (bP C_LIT hr (aA (cX1 C_Told hr (aA (pv 2) (aQ (pv 4)))) (aQ (bP C_LTb hr (aQ (bP C_LRn hr (aA (pv 2) (aQ (pv 4))))))))))) jK aX)))
  (aE (aK aX5)))))),?_⟩
 refine⟨_,rfl,a,ns,rfl,hS,hlen,fun p l H1 D1 s1=>?_⟩;refine⟨_,rfl,p,l,rfl,D1,fun pg kt pr ks xs rs H2 h1 h2 l1 l3 h3 hr' P D2 o2=>?_⟩;clear o2 D1 s1;refine⟨2,rfl,by decide,by decide,fV (n:=2) (fun i ys σ G=>jE G p l/\Out p l H2 G/\(∃v,σ=[v,some (.ref p),some (.ref pg)])/\ys.length=i/\∀v∈ys,Crd ks.length G v) (aL (by decide)) ⟨D2,.refl _,⟨_,rfl⟩,rfl,(fun _ z=>nomatch z)⟩
  (by rintro i ys σ G ⟨_,_,_,e,_⟩;lia) ?_ ?_⟩
 ·rintro i ys σ G hi ⟨D3,o3,⟨v,rfl⟩,hl,hy⟩;have t3:=D2.ts o3;refine⟨_,rfl,_,rfl,pg,_,_,.ref kt,rfl,rfl,aT.of (t3 _ _ h1),rfl,kt,_,rfl,.inr (aT.of (t3 _ _ h2)),p,l,_,rfl,D3,by rw[ac];lia,by rw[ac];lia,fun c cs H4 hc lc bc D4 o4=>⟨D4,o3.trans o4,⟨_,rfl⟩,by rw[bg,hl];rfl,fun v hv=>?_⟩⟩;rcases br.mp hv with q|q
  ·exact(hy v q).ts (D3.ts o4)
  ·rw[av.mp q];exact⟨c,cs,rfl,hc,by rw[lc,ac];rfl,bc⟩
 rintro ys σ G ⟨D3,o3,_,hl,hy⟩ lc hlc;obtain⟨H4,e0,s4,h4⟩:=lay hlc (.lst ys);rw[e0];clear e0;refine⟨_,rfl,_,rfl,_,rfl,lc,_,rfl,bR.of h4,fun l1' hl1=>?_⟩;have s5:=s4.trans (aC hl1 (.lst (iZ ys none (some 1))));have e5:iZ ys none (some 1)=ys.take 1:=cD8 (by decide) (by rw[hl];decide);refine⟨lc,l1',_,_,rfl,rfl,(aC hl1 _) _ _ h4,aD,by rw[e5,ef,hl];decide,fun lz hlz=>?_⟩;rw[e5] at hlz ⊢;rw[e5] at s5;have s6:=s5.trans (aC hlz (.lst (ys++ys.take 1)));have h6:aN (aN H4 l1' (.lst (ys.take 1))) lz (.lst (ys++ys.take 1)) lz=some (.lst (ys++ys.take 1)):=aD;have t6:=(D2.ts o3).trans (.of s6);have hz:∀v∈ys++ys.take 1,Crd ks.length (aN (aN H4 l1' (.lst (ys.take 1))) lz (.lst (ys++ys.take 1))) v:=fun v hv=>by
  have m:v∈ys:=by
   rcases br.mp hv with q|q
   ·exact q
   ·exact yy q
  exact(hy v m).ts (.of s6)
 generalize aN (aN H4 l1' (.lst (ys.take 1))) lz (.lst (ys++ys.take 1))=H6 at h6 t6 hz ⊢;replace h1:=t6 _ _ h1;replace h3:=t6 _ _ h3;replace hr':=bO.ts t6 _ hr';clear s4 h4 s5 s6 e5 hlz hl1 D3 D2 o3 hy t6 h2;generalize ys++ys.take 1=zs at h6 hz ⊢;refine⟨lz,rfl,⟨_,bR.of h6⟩,pC (K:=K) (a:=lz) (xs:=zs) (fun i σ G=>∃v4:Option V,σ=[some (.ref a),some (.ref p),some (.ref pg),some (.ref lc),v4]/\aR H6 G) ⟨_,rfl,.refl _⟩ (by rintro i σ G _ ⟨_,_,s⟩;exact bR.of (s _ _ h6)) ?_ ?_⟩
 ·rintro D' N i hN v σ G hv ⟨v4,rfl,s7⟩;obtain⟨c,cs,rfl,hc,lcs,bcs⟩:=(hz v (bj hv)).ts (.of s7);replace h1:=s7 _ _ h1;replace h3:=s7 _ _ h3;replace hr':=bO.ts (.of s7) _ hr';obtain⟨W,m1,m2⟩:=P.wk lcs;refine⟨_,rfl,_,rfl,pg,c,400,xs,dB rs,cs,mL cs rs,rs,rfl,by decide,by decide,P.prg h1 h3 hr' hc lcs,fun H8 tf k1 s8 tab1 up1 mem1=>?_⟩;refine⟨_,rfl,_,rfl,pg,kt,pr,c,xs,_,rs,cs,rfl,s8 _ _ h1,s8 _ _ h3,bO.ts (.of s8) _ hr',s8 _ _ hc,P,lcs,fun lw us H9 s9 hl9 tw9=>?_⟩;have lf:=oP m1 (aP rs+1) [] rs e0 [] (1,1) W;have wl:=iR (aP rs+1) rs e0 [] (1,1) (P.ok cs lcs);refine⟨lw,us,WV cs rs e0 [] (1,1),mL cs rs,rfl,hl9,tw9,ay wl (ay P.w (by decide)),m1,m2,lf,fun H10 tt k2 s10 tab2 up2 mem2=>?_⟩;have et:gS ((WV cs rs e0 [] (1,1)).map lY)=gS (LV cs rs e0 [] (1,1)):=aZ0 m1 (bN7 (P.ok cs lcs)) (bA9 lf);have mem3:∀y,y∈k2↔∃u,gS (LV cs rs e0 [] (1,1)) y=some u/\u≠(0,1):=fun y=>by
   rw[mem2 y, <-et]
   constructor
   ·rintro⟨u,hu⟩;exact⟨u,hu,bR8 m1 lf hu⟩
   ·rintro⟨u,hu,_⟩;exact⟨u,hu⟩
  have ek:k2=k1:=bH1 up2 up1 fun y=>(mem3 y).trans (mem1 y).symm
  subst ek;rw[et] at tab2;refine⟨tf,tt,_,rfl,tab1.ts (.of (s9.trans s10)),tab2,fun e he=>?_,fun H11 s11=>⟨_,rfl,bJ (by decide) ?_⟩⟩
  ·obtain⟨y,hy,rfl⟩:=ci.mp he;obtain⟨u,hu⟩:=(mem2 y).mp hy;exact bB8 W hu
  ·exact hN _ _ ⟨_,rfl,s7.trans (s8.trans (s9.trans (s10.trans s11)))⟩
 ·rintro σ G ⟨v4,rfl,s7⟩;exact k _
def cB4(C_Few:Cl P w K mg base 2 spFew "_law_few")(C_Draw:Cl P w K mg base 1 spDrawP "_law_draw")(C_Bnd:Cl P w K mg base 2 spBnd "_law_bounds")(C_Agn:Cl P w K mg base 1 spAgain "_law_again")(C_Stp:Cl P w K mg base 2 spSteepP "_law_steep")(C_Sum:Cl P w K mg base 2 spSumP "_law_sum")(m_int:mg "int"=none)(m_tuple:mg "tuple"=none)(m_min:mg "min"=none)(m_range:mg "range"=none):eV P w K mg base "_law_throw" "_law_throw" cS6 3 ["_law_pot_here","_law_scene","_law_x"] spThrP:=by
 refine fL ["_law_pot_here","_law_scene","_law_x","_law_few_here","_law_kinds","_law_sort","_law_many","_law_low","_law_high","_law_asks","_law_sums","_law_mark"] fun H Q nd hr h=>?_
 obtain⟨p,l,sc,nl,nh,kn,rw,ag,rn,xs,ns,x,rfl,S0,k⟩:=h;have hu:=gN hr;refine⟨_,(cZ 3 nd (bP C_Few hr (aQ (pv 1)))
  (cZ 4 nd (qH hu (pv 1) aJ)
  (cZ 5 nd (bP C_Draw hr (aA (pv 0) (aQ aB)))
  (cZ 6 nd (aI bE aB (bP C_Draw hr (aA (pv 0) (aQ (pv 3)))))
  (aF (bM (eO lX (pv 5) aB) (aF (oX (bP C_Bnd hr (aA (pv 0) (aA (pv 1) (aQ (pv 6))))) (kC rfl (bY (gX 7 nd) (bY (gX 8 nd) gB))))
  (aF (pdp hu (pv 1) aJ (aI nZ (qH hu (pv 1) aJ) (bP C_Agn hr (aA (aI bE (aI cQ (pv 8) (pv 7)) aB) (aQ (qH hu (pv 1) aJ))))))
  (aF (bM (eO cG (pv 5) aB) (aE (aK (aS (aA aJ (aA (pv 2) (aA (bP C_Sum hr (aA (pv 0) (aQ (pv 4)))) (aA (bP C_Stp hr (aA (pv 0) (aQ aB))) (aA (pv 7) (aQ (pv 8)))))))))) aX)
  (aE (aK (aS (aA aJ (aA (pv 2) (aA (bP C_Sum hr (aA (pv 0) (aQ (pv 4)))) (aA (bP C_Draw hr (aA (pv 0) (aQ aB))) (aA (pv 7) (aQ (pv 8))))))))))))) aX)
  (cZ 9 nd (nN (uX lM m_int km (aQ (sT (pec cG (pv 5) aB) (aK3 (pec iP (pv 3) aB))))))
  (cZ 6 nd (aI bE aB (bP C_Draw hr (aA (pv 0) (aQ (pB (lJ rfl) m_min nj (aA (aI cQ aB (pv 9)) (aQ (aI cQ (pv 3) (pv 9)))))))))
  (cZ 10 nd (uX bU m_tuple dj (aQ (fE ["_law_k","_law_pot_here","_law_kinds"] [none,some 0,some 4] (eK (by rfl) m_range (aQ (pv 6))) (fun _ _ _ _=>(gX 0)) (fun _ _ _ _=>fZ) (fun _ _ _ _=>(bP C_Sum hr (aA (pv 1) (aQ (pv 2))))))))
  (aF (pdp hu (pv 1) aJ (aI nZ (qH hu (pv 1) aJ) (bP C_Agn hr (aA (aI bE (pv 6) (pv 9)) (aQ (qH hu (pv 1) aJ))))))
  (aF (oX (bP C_Bnd hr (aA (pv 0) (aA (pv 1) (aQ (aI bE (aI bE aB (pv 9)) (bP C_Draw hr (aA (pv 0) (aQ (aI cQ (aI bE (qH hu (pv 1) aJ) aB) (pv 9)))))))))) (kC rfl (bY (gX 7 nd) (bY (gX 8 nd) gB))))
  (aF (bM (eO cG (pv 9) aB) (aE (aK (aS (aA aJ (aA (pv 2) (aA (pv 10) (aA (bP C_Stp hr (aA (pv 0) (aQ aB))) (aA (pv 7) (aQ (pv 8)))))))))) aX)
  (cZ 11 nd (aI bE (pv 7) (bP C_Draw hr (aA (pv 0) (aQ (aI bE (aI cQ (pv 8) (pv 7)) aB)))))
  (aE (aK (aS (aA aJ (aA (pv 2) (aA (pv 11) (aA (bP C_Stp hr (aA (pv 0) (aQ aB))) (aA (bP C_Stp hr (aA (pv 0) (aQ aB))) (aA (pv 10) (aA (pv 7) (aQ (pv 8)))))))))))))))))))))))),?_⟩
 have r1:=S0.r1;have r2:=S0.r2;have a2:=S0.a2;have k1:=S0.k1;have k3:=S0.k3;refine⟨_,rfl,sc,nl,kn,rw,rn,9,ag,rfl,S0.sc,a2,by lia,by lia,fun few H1 s1 f1 f6 hf=>?_⟩;have S1:=S0.same s1;refine⟨_,rfl,sc,_,rfl,S1.g_kinds,?_⟩;refine⟨_,rfl,p,l,4,rfl,S1.pot,by decide,by decide,fun so H2 so0 so1 D2 o2=>?_⟩;have S2:=S1.out D2 o2;refine⟨_,rfl,_,rfl,p,l,few,rfl,D2,by lia,by lia,fun mm H3 mm0 mm1 D3 o3=>⟨_,_,rfl,rfl,?_⟩⟩;have S3:=S2.out D3 o3;have oA:cV [p,l,sc,nh] H H3:=(cV.of s1).trans ((cV.out o2).trans (cV.out o3));clear s1 o2 o3 D2 D3 S1 S2;refine⟨_,rfl,_,_,rfl,rfl,_,rfl,?_⟩
 by_cases c:so<2
 ·refine bW (ap c) ?_;refine⟨_,rfl,_,rfl,_,rfl,p,l,sc,nl,kn,rw,ag,rn,1+mm,rfl,S3.pot,S3.sc,by lia,by lia,fun r lo hi H4 t4 lo0 hi9 ehi D4 o4=>?_⟩;rw[ai (by lia)] at ehi;have S4:=S3.out D4 o4;have oB:=oA.trans (cV.out (sc:=sc) (nh:=nh) o4);refine⟨r,_,rfl,aT.of t4,rfl,_,_,rfl,_,_,rfl,rfl,?_⟩;obtain⟨q1,q2,q3,q4,q5⟩:=bF6 (many:=(1+mm).toNat) hf (by lia) (by lia) r2;refine⟨_,rfl,sc,_,rfl,S4.g_runs,_,rfl,_,rfl,_,_,rfl,rfl,_,_,rfl,rfl,_,rfl,sc,_,rfl,S4.g_again,(1+mm).toNat,ag,by show [V.int (hi-lo+1),V.int ag]=_;rw[show hi-lo+1=((1+mm).toNat:Int) by lia],by lia,by lia,fun H5 s5=>?_⟩;have S5:=S4.same s5;refine⟨_,_,rfl,rfl,⟨by lia,jh (b:=40) (by lia) (by decide)⟩,_,rfl,sc,_,rfl,S5.p_runs,?_⟩;obtain⟨S6,o6⟩:=S5.put (rw':=rw) (ag':=ag) (rn':=rn / (1+mm).toNat^ag) q1 q2 S0.a1 a2 S0.w1;have oC:=oB.trans ((cV.of s5).trans o6);clear S5 S4 S3 oB oA t4 o4
  rw[show(rn:Int) / (((1+mm).toNat^ag:Nat):Int)=((rn / (1+mm).toNat^ag:Nat):Int) from(wu _ _).symm];generalize aN H5 sc (.dK (iH kn rw ag ((rn / (1+mm).toNat^ag:Nat):Int) 9 nl))=H6 at S6 oC ⊢;have esz:(hi+1-lo).toNat=(1+mm).toNat:=by lia
  refine⟨_,rfl,rfl,_,rfl,?_⟩
  by_cases c0:so=0
  ·refine bW (by rw[c0];exact ap rfl) ?_;refine⟨_,rfl,_,rfl,_,rfl,p,l,kn,rfl,S6.pot,k1,k3,fun w ws H7 h7 l7 b7 D7 o7=>?_⟩;refine⟨_,rfl,p,l,1,rfl,D7,fun st a b H8 h8 st8 _ D8 o8=>⟨_,rfl,_,rfl,by show 6<=sizeLine;decide,fun q hq=>?_⟩⟩;have s9:=aC hq (.tup [.str "ladder",.str x,.ref w,.ref st,.int lo,.int hi]);have S9:=((S6.out D7 o7).out D8 o8).same s9;refine k q (.lad a b lo hi) (.ref w) [ws] _ _ ⟨⟨st,aD,s9 _ _ h8⟩,.inl ⟨rfl,w,ws,rfl,s9 _ _ (D7.ts o8 _ _ h7),rfl⟩⟩ ⟨⟨st8,⟨lo0,by lia,hi9⟩⟩⟩ (rJ (af _) (by show 1<=4;decide) k3 (fun u hu=>by rw[av.mp hu];exact⟨l7,b7⟩) fun _=>rfl) ?_ S9 (oC.trans ((cV.out o7).trans ((cV.out o8).trans (.of s9))));show(hi+1-lo).toNat^ag*_<=rn;rw[esz];exact q3
  ·refine bJ (fun z=>c0 (by have z:=ar z;injection z)) ?_;refine⟨_,rfl,_,rfl,_,rfl,p,l,kn,rfl,S6.pot,k1,k3,fun w ws H7 h7 l7 b7 D7 o7=>?_⟩;refine⟨_,rfl,p,l,5,rfl,D7,by decide,by decide,fun rr H8 rr0 rr1 D8 o8=>⟨_,rfl,_,rfl,by show 6<=sizeLine;decide,fun q hq=>?_⟩⟩;have s9:=aC hq (.tup [.str "flat",.str x,.ref w,.int rr,.int lo,.int hi]);have S9:=((S6.out D7 o7).out D8 o8).same s9;refine k q (.fla rr lo hi) (.ref w) [ws] _ _ ⟨aD,.inl ⟨rfl,w,ws,rfl,s9 _ _ (D7.ts o8 _ _ h7),rfl⟩⟩ ⟨⟨rr0,by lia,⟨lo0,by lia,hi9⟩⟩⟩ (rJ (af _) (by show 1<=4;decide) k3 (fun u hu=>by rw[av.mp hu];exact⟨l7,b7⟩) fun _=>rfl) ?_ S9 (oC.trans ((cV.out o7).trans ((cV.out o8).trans (.of s9))));show(hi+1-lo).toNat^ag*_<=rn;rw[esz];exact q3
 ·refine bJ (by simpa using c) ?_;refine⟨fun v G=>G=H3/\∃z:Nat,v= .int z/\z<=1/\z<few,?_,?_⟩
  ·refine⟨_,rfl,rfl,_,rfl,?_⟩
   by_cases c3:so=3
   ·refine bW (by rw[c3];exact ap rfl) ⟨_,rfl,_,_,rfl,rfl,.inr ⟨_,rfl,rfl,?_⟩⟩
    by_cases cf:(1:Int)<few
    ·exact⟨1,by rw[ap cf];rfl,by decide,by lia⟩
    ·exact⟨0,by rw[dq cf];rfl,by decide,by lia⟩
   ·refine bJ (fun z=>c3 (by have z:=ar z;injection z)) (.inr ⟨_,rfl,rfl,0,rfl,by decide,by lia⟩)
  rintro v G ⟨rfl,asks,rfl,as1,asf⟩;have mn:1<=(if (few:Int)-asks<4-asks then (few:Int)-asks else 4-asks)/\(if (few:Int)-asks<4-asks then (few:Int)-asks else 4-asks)<=4-asks/\(if (few:Int)-asks<4-asks then (few:Int)-asks else 4-asks)<=few-asks:=by split<;>lia
  refine⟨_,rfl,_,rfl,_,_,rfl,rfl,_,rfl,_,rfl,_,_,rfl,rfl,_,_,rfl,p,l,_,rfl,S3.pot,by show 0<(if (few:Int)-asks<4-asks then (few:Int)-asks else 4-asks);lia,by show(if (few:Int)-asks<4-asks then (few:Int)-asks else 4-asks)<_;lia,fun my H4 my0 my1 D4 o4=>⟨_,_,rfl,rfl,?_⟩⟩;have my1:my<(if (few:Int)-asks<4-asks then (few:Int)-asks else 4-asks):=my1;obtain⟨my4,myf⟩:my<4-asks/\my<few-asks:=by lia
  clear mn my1;have S4:=S3.out D4 o4;have oB:=oA.trans (cV.out (sc:=sc) (nh:=nh) o4);clear oA o4;refine⟨_,rfl,1+my,rfl,by lia,by lia,fV (n:=(1+my).toNat) (fun i ys σ G=>Sc G p l sc nl nh kn rw ag rn xs ns/\cV [p,l,sc,nh] H G/\(∃v,σ=[v,some (.ref p),some (.int kn)])/\∃wss:List (List Int),dH (aK2 G) ys wss/\ys.length=i/\wss.length=i/\∀ws∈wss,ws.length=kn.toNat/\∀x∈ws,0<=x/\x<=3) (aL (by lia)) ⟨S4,oB,⟨_,rfl⟩,[],trivial,rfl,rfl,(fun _ z=>nomatch z)⟩
   (by rintro i ys σ G ⟨_,_,_,_,_,e,_⟩;lia) ?_ ?_⟩
  ·rintro i ys σ G' hi ⟨S5,o5,⟨v,rfl⟩,wss,tw,ly,lw,hw⟩;refine⟨_,rfl,_,rfl,p,l,kn,rfl,S5.pot,k1,k3,fun w ws H6 h6 l6 b6 D6 o6=>⟨S5.out D6 o6,o5.trans (cV.out o6),⟨_,rfl⟩,wss++[ws],dH.append (tw.mono fun _ _ z=>z.ts (S5.pot.ts o6)) ⟨⟨w,rfl,h6⟩,trivial⟩,by rw[bg,ly];rfl,by rw[bg,lw];rfl,fun u hu=>?_⟩⟩;rcases br.mp hu with q|q
   ·exact hw u q
   ·rw[av.mp q];exact⟨l6,b6⟩
  rintro ys σ G' ⟨S5,o5,_,wss,tw,ly,lw,hw⟩ q hq;refine⟨q,_,rfl,.inl ⟨bR.of aD,fun sm hsm=>?_⟩⟩;have s6:=(aC hq (.lst ys)).trans (aC hsm (.tup ys));have h6:mY (aN (aN G' q (.lst ys)) sm (.tup ys)) sm wss:=⟨ys,aD,tw.mono fun _ _ z=>z.ts (.of s6)⟩
  have S6:=S5.same s6;have oC:=o5.trans (.of s6);generalize aN (aN G' q (.lst ys)) sm (.tup ys)=H6 at h6 S6 oC ⊢;clear S5 S4 S3 s6 tw oB o5;obtain⟨q1,q2,q3,q4,q5⟩:=bF6 (many:=(1+my).toNat+asks) hf (by lia) (by lia) r2;refine⟨_,rfl,sc,_,rfl,S6.g_runs,_,rfl,_,rfl,_,_,rfl,rfl,_,rfl,sc,_,rfl,S6.g_again,(1+my).toNat+asks,ag,by show [V.int (1+my+(asks:Int)),V.int ag]=_;rw[show 1+my+(asks:Int)=(((1+my).toNat+asks:Nat):Int) by lia],by lia,by lia,fun H7 s7=>?_⟩;have S7:=S6.same s7;refine⟨_,_,rfl,rfl,⟨by lia,jh (b:=40) (by lia) (by decide)⟩,_,rfl,sc,_,rfl,S7.p_runs,?_⟩;obtain⟨S8,o8⟩:=S7.put (rw':=rw) (ag':=ag) (rn':=rn / ((1+my).toNat+asks)^ag) q1 q2 S0.a1 a2 S0.w1;have oD:=oC.trans ((cV.of s7).trans o8);have h8:=h6.ts ((TS.of s7).trans (S7.ts o8));clear S7 S6 oC h6;rw[show(rn:Int) / ((((1+my).toNat+asks)^ag:Nat):Int)=((rn / ((1+my).toNat+asks)^ag:Nat):Int) from(wu _ _).symm]
  generalize aN H7 sc (.dK (iH kn rw ag ((rn / ((1+my).toNat+asks)^ag:Nat):Int) 9 nl))=H8 at S8 oD h8 ⊢;refine⟨_,rfl,_,rfl,_,rfl,_,_,rfl,rfl,_,rfl,_,rfl,sc,_,rfl,S8.g_high,_,_,rfl,rfl,_,rfl,_,_,rfl,rfl,p,l,9+1-(asks:Int),rfl,S8.pot,by lia,by lia,fun z H9 z0 z1 D9 o9=>⟨_,_,rfl,rfl,?_⟩⟩;have S9:=S8.out D9 o9;refine⟨p,l,sc,nl,kn,rw,ag,_,1+asks+z,rfl,S9.pot,S9.sc,by lia,by lia,fun r lo hi H10 t10 lo0 hi9 ehi D10 o10=>?_⟩;rw[ai (by lia)] at ehi;refine⟨r,_,rfl,aT.of t10,rfl,_,_,rfl,_,_,rfl,rfl,?_⟩;have S10:=S9.out D10 o10;have oE:=oD.trans ((cV.out o9).trans (cV.out o10));have h10:=h8.ts ((S8.pot.ts o9).trans (S9.pot.ts o10));clear S9 S8 oD h8 t10;refine⟨_,rfl,rfl,_,rfl,?_⟩
  by_cases ca:asks=0
  ·refine bW (by rw[ca];exact ap rfl) ?_;refine⟨_,rfl,_,rfl,_,rfl,p,l,1,rfl,S10.pot,fun st a b H11 h11 st11 _ D11 o11=>⟨_,rfl,_,rfl,by show 6<=sizeLine;decide,fun q hq=>?_⟩⟩;have s12:=aC hq (.tup [.str "choose",.str x,.ref sm,.ref st,.int lo,.int hi]);have S12:=(S10.out D11 o11).same s12;refine k q (.cho a b lo hi) (.ref sm) wss _ _ ⟨⟨st,aD,s12 _ _ h11⟩,.inr ⟨rfl,sm,rfl,h10.ts ((S10.pot.ts o11).trans (.of s12))⟩⟩ ⟨⟨st11,⟨lo0,by lia,hi9⟩⟩⟩ (rJ (by lia) (by lia) k3 hw fun z=>nomatch z) ?_ S12 (oE.trans ((cV.out o11).trans (.of s12)));show wss.length^ag*_<=rn;rw[show wss.length=(1+my).toNat+asks by lia];exact q3
  ·refine bJ (fun z=>ca (by have z:=ar z;injection z with z;lia)) ?_;refine⟨_,rfl,_,rfl,_,rfl,_,rfl,_,_,rfl,rfl,_,_,rfl,rfl,p,l,hi-lo+1,rfl,S10.pot,by lia,by lia,fun mk H11 mk0 mk1 D11 o11=>⟨_,_,rfl,rfl,?_⟩⟩;refine⟨_,rfl,_,rfl,_,rfl,p,l,1,rfl,D11,fun sa pa qa H12 h12 st12 _ D12 o12=>⟨_,rfl,p,l,2,rfl,D12,fun sb pb qb H13 h13 st13 hb13 D13 o13=>⟨_,rfl,_,rfl,_,rfl,by show 8<=sizeLine;decide,fun q hq=>?_⟩⟩⟩;have s14:=aC hq (.tup [.str "first",.str x,.int (lo+mk),.ref sa,.ref sb,.ref sm,.int lo,.int hi]);have S14:=(((S10.out D11 o11).out D12 o12).out D13 o13).same s14;have t4:=(S10.pot.ts o11).trans ((D11.ts o12).trans ((D12.ts o13).trans (.of s14)));refine k q (.fst pa qa pb qb (lo+mk) lo hi) (.ref sm) wss _ _ ⟨⟨sa,sb,sm,rfl,aD,s14 _ _ (D12.ts o13 _ _ h12),s14 _ _ h13⟩,.inr ⟨rfl,sm,rfl,h10.ts t4⟩⟩ ⟨⟨st12,st13,hb13 rfl,⟨lo0,by lia,hi9⟩,by lia,by lia⟩⟩ (rJ (by lia) (by lia) k3 hw fun z=>nomatch z) ?_ S14 (oE.trans ((cV.out o11).trans ((cV.out o12).trans ((cV.out o13).trans (.of s14)))))
   show(wss.length+1)^ag*_<=rn;rw[show wss.length+1=(1+my).toNat+asks by lia];exact q3
def cE2(m:Nat)(C_LRs:Cl P w K mg base (3*m+13) (yH m) "_law_rows")(C_Draw:Cl P w K mg base 1 spDrawP "_law_draw")(C_Trm:Cl P w K mg base 13 (bE3 12) "_law_term")(m_min:mg "min"=none)(m_list:mg "list"=none)(m_int:mg "int"=none):eV P w K mg base "_law_inner" "_law_inner" cN2 (3*m+13+1) ["_law_pot_here","_law_scene","_law_names_here","_law_left","_law_deep"] (yB true m):=by
 refine fL ["_law_pot_here","_law_scene","_law_names_here","_law_left","_law_deep","_law_told","_law_term_here","_law_mine","_law_one","_law_yours","_law_other","_law_k"] fun H Q nd hr h=>?_
 obtain⟨p,l,sc,nl,nh,kn,rw,ag,rn,left,deep,xs,ns,rfl,S0,l3,hd,ha,hc,k⟩:=h;have hu:=gN hr;refine⟨_,(aF (pdp hu (pv 1) aJ (aI cQ (qH hu (pv 1) aJ) aB))
  (cZ 5 nd (nN (pB (lJ rfl) m_min nj (aA (pv 3) (aQ (bP C_Draw hr (aA (pv 0) (aQ aB)))))))
  (aF (bM (eO iP (bP C_Draw hr (aA (pv 0) (aQ aB))) aB) (cZ 6 nd (bP C_Trm hr (aA (pv 0) (aA (pv 2) (aQ aB))))
  (cZ 7 nd (uX jZ m_list qj (aQ (pv 2)))
  (cZ 8 nd (bP C_LRs hr (aA (pv 0) (aA (pv 1) (aA (pv 7) (aA (pv 5) (aQ (aI bE (pv 4) aB)))))))
  (cZ 9 nd (uX jZ m_list qj (aQ (pv 2)))
  (cZ 10 nd (bP C_LRs hr (aA (pv 0) (aA (pv 1) (aA (pv 9) (aA (pv 5) (aQ (aI bE (pv 4) aB)))))))
  (aF (cO (eZ bh ky lh lN (pv 2) (aQ (fE ["_law_x","_law_yours","_law_names_here"] [none,some 9,some 2] (iT (pv 7)) (fun _ _ _ _=>(gX 0)) (fun _ _ _ _=>(bI6 (PW.pt (kY (eO (inK K) (pv 0) (pv 1)) (iN (eO (cY2 K) (pv 0) (pv 2))))))) (fun _ _ _ _=>(pv 0))))))
  (aE (aK (aS (aA (aS (aA aJ (aA (pv 6) (aA (pv 8) (aQ (pv 10)))))) (aQ (pv 5)))))))))))) aX)
  (cZ 11 nd (aI bE aB (bP C_Draw hr (aA (pv 0) (aQ aB))))
  (cZ 5 nd (nN (aI kX (pv 5) (uX lM m_int km (aQ (pec bD5 (pv 11) (pv 3))))))
  (aF (pdp hu (pv 1) aJ (aI kX (qH hu (pv 1) aJ) (pv 11)))
  (cZ 8 nd (bP C_LRs hr (aA (pv 0) (aA (pv 1) (aA (pv 2) (aA (pv 5) (aQ (aI bE (pv 4) aB)))))))
  (aF (pdp hu (pv 1) aJ (aI nZ (qH hu (pv 1) aJ) (pv 11)))
  (aE (aK (aS (aA (aS (aA aJ (aA (pv 11) (aQ (pv 8))))) (aQ (aI kX (pv 11) (pv 5))))))))))))))),?_⟩
 obtain⟨hc1,hc2⟩:1<=rw/\1<=m:=hc;obtain⟨rw,rfl⟩:∃r,rw=r+1:=⟨rw-1,by lia⟩
 obtain⟨m,rfl⟩:∃r,m=r+1:=⟨m-1,by lia⟩
 have w1:=S0.w1;refine⟨_,rfl,sc,_,rfl,S0.g_rows,_,_,rfl,rfl,_,rfl,sc,_,rfl,S0.p_rows,?_⟩;obtain⟨S1,o1⟩:=S0.put (rw':=rw) S0.r1 S0.r2 S0.a1 S0.a2 (by lia);rw[show((rw+1:Nat):Int)-1=(rw:Int) by lia];generalize aN H sc (.dK (iH kn rw ag rn 9 nl))=H1 at S1 o1 ⊢;refine⟨fun v G=>∃told:Nat,v= .int told/\told<=left/\told<=1/\Sc G p l sc nl nh kn rw ag rn xs ns/\cV [p,l,sc,nh] H G,?_,?_⟩
 ·refine⟨_,rfl,_,rfl,p,l,2,rfl,S1.pot,by decide,by decide,fun z H2 z0 z1 D2 o2=>⟨_,_,rfl,(if z<(left:Int) then z else (left:Int)).toNat,?_,?_,?_,S1.out D2 o2,o1.trans (cV.out o2)⟩⟩
  ·show V.int (if z<(left:Int) then z else (left:Int))=_
   congr 1
   split<;>lia
  ·split<;>lia
  ·split<;>lia
 rintro v G ⟨told,rfl,t1,t2,S2,o2⟩;refine⟨_,rfl,p,l,3,rfl,S2.pot,by decide,by decide,fun z H3 z0 z1 D3 o3=>⟨_,_,rfl,rfl,_,rfl,?_⟩⟩;have S3:=S2.out D3 o3;have oA:=o2.trans (cV.out (sc:=sc) (nh:=nh) o3);clear o2 o3 S2 D3 S1 o1
 by_cases c:0<z
 ·refine bW (ap c) ?_;refine⟨_,rfl,_,rfl,p,l,nh,ns,5,rfl,S3.pot,S3.hn,S3.n3,S3.n4,S3.ns3,by decide,by decide,by decide,fun t H4 D4 o4 h4 nm4 sz4 ok4=>?_⟩;have S4:=S3.out D4 o4;have oB:=oA.trans (cV.out (sc:=sc) (nh:=nh) o4);refine⟨_,rfl,nh,_,rfl,.inl (bR.of S4.hn),fun lm hlm=>?_⟩;obtain⟨m1,m2,m3,m4⟩:=S4.new hlm;have f5:H lm=none:=S4.fresh oB hlm;obtain⟨H5,e0,s5,g5⟩:=lay hlm (.lst (ns.map V.str));rw[e0];clear e0;have S5:=S4.same s5;have S5m:=S5.at g5 m1 m2 m3 S5.nd S5.sb;have pw:ag*3^m<=27:=ay (dy (af _) (jm (by decide) (ud m))) ha;refine⟨_,rfl,_,rfl,_,rfl,_,rfl,_,rfl,_,_,rfl,rfl,p,l,sc,nl,lm,kn,rw,ag,rn,told,deep+1,xs,ns,rfl,S5m,by lia,by lia,pw,fun pa ra rw1 rn1 na H6 h6 _ hr6 S6m d6 o6=>?_⟩;have S6:Sc H6 p l sc nl nh kn rw1 ag rn1 xs ns:=S6m.at (S5m.keep o6 S5.hn S5.n3 S5.n4 m4.symm) S5.n3 S5.n4 S5.n5 S5.nd S5.sb
  have oC:cV [p,l,sc,nh] H H6:=cV.in f5 (oB.trans (.of s5)) o6;have ts6:=S5m.ts o6;refine⟨_,rfl,nh,_,rfl,.inl (bR.of S6.hn),fun ly hly=>?_⟩;obtain⟨y1,y2,y3,y4⟩:=S6.new hly;have ym:lm≠ly:=aM S6m.hn hly;have f7:H ly=none:=S6.fresh oC hly;obtain⟨H7,e0,s7,g7⟩:=lay hly (.lst (ns.map V.str));rw[e0];clear e0;have S7:=S6.same s7;have S7y:=S7.at g7 y1 y2 y3 S7.nd S7.sb;refine⟨_,rfl,_,rfl,_,rfl,_,rfl,_,rfl,_,_,rfl,rfl,p,l,sc,nl,ly,kn,rw1,ag,rn1,told,deep+1,xs,ns,rfl,S7y,by lia,by lia,pw,fun pb rb rw2 rn2 nb H8 h8 _ hr8 S8y d8 o8=>?_⟩;have S8:Sc H8 p l sc nl nh kn rw2 ag rn2 xs ns:=S8y.at (S7y.keep o8 S7.hn S7.n3 S7.n4 y4.symm) S7.n3 S7.n4 S7.n5 S7.nd S7.sb;have gm8:=S7y.keep o8 (s7 _ _ S6m.hn) m1 m2 ym;have oD:cV [p,l,sc,nh] H H8:=cV.in f7 (oC.trans (.of s7)) o8;have ts8:=(TS.of s7).trans (S7y.ts o8);have tm8:=h4.ts (((TS.of s5).trans ts6).trans ts8);have ha8:=ts8 _ _ h6;have hra8:=bO.ts ts8 _ hr6
  have gy8:=S8y.hn;have nda:=S6m.nd;have sba:=S6m.sb;clear S7y S7 S6 S6m S5 S5m S4 S3 o6 o8 oB oC h6 hr6 h4 ts6 ts8 s5 s7 g5 g7 D4 o4 S8y;refine⟨_,rfl,.inl ⟨rfl,_,bR.of S8.hn⟩,_,rfl,lm,rfl,⟨_,bR.of gm8⟩,pG (K:=K) (a:=lm) (xs:=na.map V.str) (fun i ys σ G=>G=H8/\(∃v,σ=[v,some (.ref ly),some (.ref nh)])/\ys=((na.take i).filter fun x=>decide (x∈nb)&&decide (¬x∈ns)).map V.str)
   (by rw[ac];have:=gY nda sba;exact aL (by have:=S8.x3;lia)) ⟨rfl,⟨_,rfl⟩,rfl⟩ (by
    rintro i ys σ G ⟨_,_,e⟩;rw[e,ac];exact ay (qw _ _) (by rw[ef];lia)) (by rintro i ys σ G _ ⟨e,_⟩;rw[e];exact bR.of gm8) ?_ ?_⟩
  ·rintro i v ys σ G hv ⟨rfl,⟨v',rfl⟩,rfl⟩;obtain⟨x,rfl,hx⟩:=rC hv;have ei:inV (V.str x) (nb.map V.str)=decide (x∈nb):=nG _ _;have ej:inV (V.str x) (ns.map V.str)=decide (x∈ns):=nG _ _;rw[cX hx,um,aq];refine⟨_,rfl,_,rfl,ly,_,rfl,.inl (bR.of gy8),rfl,dO _,_,rfl,?_⟩
   by_cases c:x∈nb
   ·refine bW (ei.trans (ap c)) ⟨_,rfl,_,rfl,nh,_,rfl,.inl (bR.of S8.hn),rfl,dO _,_,rfl,?_⟩
    by_cases c2:x∈ns
    ·refine bJ (by rw[ej,ap c2];decide) ⟨rfl,⟨_,rfl⟩,?_⟩;rw[xa (by rw[dq (fun z=>z c2:¬ ¬x∈ns)];simp)];simp
    ·refine bW (by rw[ej,dq c2];rfl) ⟨_,rfl,rfl,⟨_,rfl⟩,?_⟩;rw[List.filter_cons_of_pos (by rw[ap c,ap c2];rfl)];rfl
   ·refine bJ (fun z=>c (ar (ei.symm.trans z))) ⟨rfl,⟨_,rfl⟩,?_⟩;rw[xa (by rw[dq c];simp)];simp
  rintro ys σ G ⟨rfl,_,rfl⟩ lx hlx;rw[ac,eh];have nd9:=bR9 (ns:=ns) (nb:=nb) S8.nd nda;have in9:∀y∈ns++na.filter (fun x=>decide (x∈nb)&&decide (¬x∈ns)),y∈na/\y∈nb:=fun y hy=>by
   rcases bP0 hy with q|q
   ·exact⟨d6.up y q,d8.up y q⟩
   ·exact q
  have sb9:kJ (ns++na.filter (fun x=>decide (x∈nb)&&decide (¬x∈ns))) xs:=fun y hy=>sba y (in9 y hy).1
  have l9:=gY nd9 sb9;have up9:kJ ns (ns++na.filter (fun x=>decide (x∈nb)&&decide (¬x∈ns))):=fun y hy=>dw _ hy
  generalize na.filter (fun x=>decide (x∈nb)&&decide (¬x∈ns))=nz at nd9 in9 sb9 l9 up9 ⊢;obtain⟨H9,e0,s9,g9⟩:=lay hlx (.lst (nz.map V.str));rw[e0];clear e0;have S9:=S8.same s9;refine⟨nh,lx,_,_,rfl,rfl,S9.hn,g9,?_,?_⟩
  ·rw[bg] at l9;rw[ac,ac];exact fi (aL (by have:=S9.x3;lia))
  rw[<-aq];obtain⟨S10,o10⟩:=S9.names nd9 sb9;have t10:=(TS.of s9).trans (S9.ts o10);have oE:=oD.trans ((cV.of s9).trans o10);generalize aN H9 nh (.lst ((ns++nz).map V.str))=H10 at S10 t10 oE ⊢;refine⟨_,rfl,_,rfl,_,rfl,by show 4<=sizeLine;decide,fun q hq=>⟨_,rfl,cS,fun u hu=>?_⟩⟩;have s11:=aC hq (.tup [.str "when",.ref t.p,.ref pa,.ref pb]);have s12:=s11.trans (aC hu (.tup [.ref q,.int told]));have t12:=t10.trans (.of s12);refine k u (.when q pa pb t ra rb) told rw2 rn2 (ns++nz) _ aD ⟨(aC hu _) _ _ aD,tm8.ts t12,t12 _ _ ha8,t12 _ _ h8,bO.ts t12 _ hra8,bO.ts t12 _ hr8⟩ (S10.same s12) (jP.when ok4 (by lia) nm4 d6 d8 in9 up9) t1 ?_ (oE.trans (.of s12));have:=d6.key;have:=d8.key;lia
 ·refine bJ (by simpa using c) ?_;refine⟨_,rfl,p,l,3,rfl,S3.pot,by decide,by decide,fun kz H4 kz0 kz1 D4 o4=>⟨_,_,rfl,rfl,?_⟩⟩;have S4:=S3.out D4 o4;have oB:=oA.trans (cV.out (sc:=sc) (nh:=nh) o4);obtain⟨kk,ek,kk1,kk3⟩:∃kk:Nat,1+kz=(kk:Int)/\1<=kk/\kk<=3:=⟨(1+kz).toNat,by lia,by lia,by lia⟩
  clear S3 oA o4 D4;refine⟨fun v G=>G=H4/\∃t':Nat,v= .int t'/\t'<=3/\kk*t'<=left,?_,?_⟩
  ·refine⟨_,rfl,_,rfl,_,rfl,_,_,rfl,rfl,.inr ⟨_,rfl,_,_,rfl,rfl,.inl ⟨by lia,by lia⟩,rfl,?_⟩⟩
   by_cases cl:1+kz<=(left:Int)
   ·refine⟨told,by rw[ap cl];show V.int ((told:Int)*1)=_;rw[ku],by lia,?_⟩;have:told=0\/told=1:=by lia
    rcases this with rfl|rfl<;>lia
   ·exact⟨0,by rw[dq cl];show V.int ((told:Int)*0)=_;rw[Int.mul_zero];rfl,by decide,by lia⟩
  rintro v G ⟨rfl,told',rfl,t3,t4⟩;refine⟨_,rfl,sc,_,rfl,S4.g_again,_,rfl,_,_,rfl,rfl,.inr ⟨by lia,by lia⟩,_,rfl,sc,_,rfl,S4.p_again,?_⟩;have pw:ag*kk*3^m<=27:=by
   have e:ag*3^(m+1)=ag*3*3^m:=by rw[ot,mq (3^m),zo]
   exact ay (dy (dy (af _) kk3) (af _)) (by rw[<-e];exact ha)
  have p1:1<=3^m:=qg (by decide);have ak:ag*kk<=27:=ay (lq _ p1) pw;have ak1:1<=ag*kk:=Nat.mul_pos S4.a1 kk1;obtain⟨S5,o5⟩:=S4.put (rw':=rw) (ag':=ag*kk) S4.r1 S4.r2 ak1 ak S4.w1;rw[show(ag:Int)*(1+kz)=((ag*kk:Nat):Int) by rw[ek,kh]];have oC:=oB.trans o5;generalize aN G sc (.dK (iH kn rw ((ag*kk:Nat):Int) rn 9 nl))=H5 at S5 oC ⊢;refine⟨_,rfl,_,rfl,_,rfl,_,rfl,_,rfl,_,_,rfl,rfl,p,l,sc,nl,nh,kn,rw,ag*kk,rn,told',deep+1,xs,ns,rfl,S5,t3,by lia,pw,fun pa ra rw1 rn1 na H6 h6 _ hr6 S6 d6 o6=>?_⟩;refine⟨_,rfl,sc,_,rfl,S6.g_again,_,rfl,_,_,rfl,rfl,⟨by lia,jh (b:=40) (by lia) (by decide)⟩,_,rfl,sc,_,rfl,S6.p_again,?_⟩;obtain⟨S7,o7⟩:=S6.put (rw':=rw1) (ag':=ag) S6.r1 S6.r2 S4.a1 S4.a2 S6.w1;rw[show((ag*kk:Nat):Int) / (1+kz)=(ag:Int) by rw[ek, <-wu,Nat.mul_div_cancel _ kk1]];have t7:=S6.ts o7
  have oD:=oC.trans (o6.trans o7);generalize aN H6 sc (.dK (iH kn rw1 ag rn1 9 nl))=H7 at S7 t7 oD ⊢;refine⟨_,rfl,_,rfl,by show 3<=sizeLine;decide,fun q hq=>⟨_,rfl,_,rfl,_,_,rfl,rfl,.inl ⟨by lia,by lia⟩,cS,fun u hu=>?_⟩⟩;show Q (.ref u) (aN (aN H7 q (.tup [.str "times",.int (1+kz),.ref pa])) u (.tup [.ref q,.int ((1+kz)*(told':Int))]));rw[show(1+kz)*(told':Int)=((kk*told':Nat):Int) by rw[ek,kh],ek];have hu:aN H7 q (.tup [.str "times",.int (1+kz),.ref pa]) u=none:=hu;rw[ek] at hu;have s8:=(aC hq (.tup [.str "times",.int (kk:Int),.ref pa])).trans (aC hu (.tup [.ref q,.int ((kk*told':Nat):Int)]));have t8:=t7.trans (.of s8);refine k u (.times q pa kk ra) (kk*told') rw1 rn1 na _ aD ⟨(aC hu _) _ _ aD,t8 _ _ h6,bO.ts t8 _ hr6⟩ (S7.same s8) (jP.times kk1 kk3 d6) t4 ?_ (oD.trans (.of s8));have:=d6.key;lia
def cA4(m:Nat)(C_Draw:Cl P w K mg base 1 spDrawP "_law_draw")(C_LIn:Cl P w K mg base (3*m+14) (yB true m) "_law_inner")(C_LTh:Cl P w K mg base 3 spThrP "_law_throw")(C_Trm:Cl P w K mg base 13 (bE3 12) "_law_term")(m_len:mg "len"=none):eV P w K mg base "_law_row" "_law_row" cP9 (3*m+14+1) ["_law_pot_here","_law_scene","_law_names_here","_law_left","_law_deep"] (yB false m):=by
 refine fL ["_law_pot_here","_law_scene","_law_names_here","_law_left","_law_deep","_law_form","_law_x","_law_found"] fun H Q nd hr h=>?_
 obtain⟨p,l,sc,nl,nh,kn,rw,ag,rn,left,deep,xs,ns,rfl,S0,l3,hd,ha,hc,k⟩:=h;have hu:=gN hr;refine⟨_,(cZ 5 nd (bP C_Draw hr (aA (pv 0) (aQ aB)))
  (aF (bM (jV (PW.pt (vX (eO lX (qH hu (pv 1) aJ) aB) (rQ (jV (PW.pt (kY (eO iP (pv 3) aB) (iN (eO lX (pv 5) aB))))))))) (aE (aK (aS (aA (aS (aA aJ (aQ (bP C_Trm hr (aA (pv 0) (aA (pv 2) (aQ (bQ dC (cM (aA aB (aA aB (aQ aB)))) (bP C_Draw hr (aA (pv 0) (aQ aB))))))))))) (aQ aB))))) aX)
  (aF (bM (jV (PW.pt (kY (eO cG (pv 5) aB) (iN (eO lX (pv 4) aB))))) (aE (aK (bP C_LIn hr (aA (pv 0) (aA (pv 1) (aA (pv 2) (aA (pv 3) (aQ (pv 4))))))))) aX)
  (aF (pdp hu (pv 1) aJ (aI cQ (qH hu (pv 1) aJ) aB))
  (cZ 6 nd (bQ dC (qH hu (pv 1) aJ) (bP C_Draw hr (aA (pv 0) (aQ (pB cC m_len ic (aQ (qH hu (pv 1) aJ)))))))
  (aF (lG (bM (eO lX (pv 5) aB) (aE (psz 7 nd (aS (aA aJ (aA (pv 6) (aQ (bP C_Trm hr (aA (pv 0) (aA (pv 2) (aQ (bQ dC (cM (aA aB (aA aB (aQ aB)))) (bP C_Draw hr (aA (pv 0) (aQ aB)))))))))))))) (aE (psz 7 nd (bP C_LTh hr (aA (pv 0) (aA (pv 1) (aQ (pv 6)))))))))
  (aF (bM (eO nM (pv 6) (pv 2)) (aE (cO (eZ bh cz de cJ (pv 2) (aQ (pv 6))))) aX)
  (aE (aK (aS (aA (pv 7) (aQ aB)))))))))))),?_⟩
 have hc:0<left\/0<rw:=hc;refine⟨_,rfl,p,l,8,rfl,S0.pot,by decide,by decide,fun fo H1 fo0 fo1 D1 o1=>?_⟩;have S1:=S0.out D1 o1;have oA:cV [p,l,sc,nh] H H1:=cV.out o1;clear D1 o1;refine⟨fun b G=>G=H1/\(b=true->0<left)/\(b=false->1<=rw),?_,?_⟩
 ·refine⟨_,rfl,sc,_,rfl,S1.g_rows,_,_,rfl,rfl,_,rfl,?_⟩
  by_cases c1:(rw:Int)<1
  ·exact bW (ap c1) ⟨rfl,(fun _=>by lia),(fun z=>nomatch z)⟩
  ·refine bJ (by simpa using c1) ⟨fun b G=>G=H1/\(b=true->0<left),?_,by rintro b G ⟨rfl,h⟩;exact⟨rfl,h,fun _=>by lia⟩⟩;refine⟨_,rfl,_,_,rfl,rfl,_,rfl,?_⟩
   by_cases c2:(0:Int)<left
   ·exact bW (ap c2) ⟨_,rfl,_,_,rfl,rfl,_,rfl,rfl,(fun _=>by lia)⟩
   ·exact bJ (by simpa using c2) ⟨rfl,(fun z=>nomatch z)⟩
 rintro b G ⟨rfl,hb1,hb2⟩
 cases b with
 |true =>
  have lp:=hb1 rfl;refine bW rfl ?_;refine⟨_,rfl,_,rfl,by show 3<=sizeLine;decide,fun l0 hl0=>?_⟩;obtain⟨n1,n2⟩:=fC S1.pot hl0;obtain⟨H2,e0,s2,h2⟩:=lay hl0 (.lst [.int 3,.int 7,.int 12]);rw[e0];clear e0;have S2:=S1.same s2;refine⟨_,rfl,p,l,3,rfl,S2.pot,by decide,by decide,fun z H3 z0 z1 D3 o3=>?_⟩;have S3:=S2.out D3 o3;obtain⟨w,hw,hwc⟩:=oU (x:=3) (y:=7) (z:=12) z0 z1;refine⟨l0,_,_,.int w,rfl,rfl,bR.of (eP h2 n1 n2 o3),hw,p,l,nh,ns,w,rfl,S3.pot,S3.hn,S3.n3,S3.n4,S3.ns3,by lia,by rcases hwc with rfl|rfl|rfl<;>decide,by lia,fun t H4 D4 o4 h4 nm4 sz4 ok4=>⟨cS,fun q hq=>⟨cS,fun u hu=>?_⟩⟩⟩;have s5:=(aC hq (.tup [.str "tell",.ref t.p])).trans (aC hu (.tup [.ref q,.int 1]));exact k u (.tell q t) 1 rw rn ns _ aD ⟨(aC hu _) _ _ aD,h4.ts (.of s5)⟩ ((S3.out D4 o4).same s5) (jP.tell ok4 (by lia) nm4) lp (by lia) (oA.trans ((cV.of s2).trans ((cV.out o3).trans ((cV.out o4).trans (.of s5)))))
 |false =>
 refine bJ (by simp) ?_;have rp:=hb2 rfl;refine⟨fun b G'=>G'=G/\(b=true->1<=m),?_,?_⟩
 ·refine⟨_,rfl,rfl,_,rfl,aB2 (fun _=>⟨_,rfl,_,_,rfl,rfl,_,rfl,rfl,fun z=>?_⟩) (fun _=>⟨rfl,(fun z=>nomatch z)⟩)⟩;have z:decide (deep<3)=true:=z;have:=ar z;lia
 rintro b G' ⟨rfl,hb⟩
 cases b with
 |true =>
  refine bW rfl ?_;exact⟨_,rfl,_,rfl,_,rfl,_,rfl,_,rfl,p,l,sc,nl,nh,kn,rw,ag,rn,left,deep,xs,ns,rfl,S1,l3,hd,ha,⟨rp,hb rfl⟩,fun u r told rw' rn' ns' H2 h2 hr2 S2 d2 t2 w2 o2=>k u r told rw' rn' ns' H2 h2 hr2 S2 d2 t2 w2 (oA.trans o2)⟩
 |false =>
 refine bJ (by simp) ?_;obtain⟨rw,rfl⟩:∃r,rw=r+1:=⟨rw-1,by lia⟩
 have w1:=S1.w1;refine⟨_,rfl,sc,_,rfl,S1.g_rows,_,_,rfl,rfl,_,rfl,sc,_,rfl,S1.p_rows,?_⟩;obtain⟨S2,o2⟩:=S1.put (rw':=rw) S1.r1 S1.r2 S1.a1 S1.a2 (by lia);rw[show((rw+1:Nat):Int)-1=(rw:Int) by lia];have oB:=oA.trans o2;generalize aN G' sc (.dK (iH kn rw ag rn 9 nl))=H2 at S2 oB ⊢;clear S1 oA o2;have x3:=S2.x3;refine⟨_,rfl,sc,_,rfl,S2.g_names,_,rfl,_,rfl,sc,_,rfl,S2.g_names,nl,_,rfl,.inl (bR.of S2.nm),p,l,_,rfl,S2.pot,by rw[ac];lia,by rw[ac];lia,fun y H3 y0 y1 D3 o3=>?_⟩;obtain⟨v,hv,ha'⟩:=aI8 y0 y1;obtain⟨x,rfl,hx⟩:=rC hv;have mx:x∈xs:=bj hx;have S3:=S2.out D3 o3;have oC:=oB.trans (cV.out (sc:=sc) (nh:=nh) o3);refine⟨nl,_,_,.str x,rfl,rfl,bR.of S3.nm,ha',?_⟩;clear hv ha' hx y0 y1 S2 oB D3 o3;refine⟨fun σ G=>∃(r:Rw) (rn1:Nat),σ=[some (.ref p),some (.ref sc),some (.ref nh),some (.int left),some (.int deep),some (.int fo),some (.str x),some (.ref r.p)]/\vN G r/\Sc G p l sc nl nh kn rw ag rn1 xs ns/\cV [p,l,sc,nh] H G/\∀ns',kJ ns' (x::ns)->kJ ns ns'->jP xs ns ns' kn (rw+1) rw ag rn rn1 [r] 0 m,?_,?_⟩
 ·refine⟨_,rfl,_,_,rfl,rfl,_,rfl,aB2 (fun _=>?_) (fun _=>?_)⟩
  ·refine⟨_,rfl,_,rfl,_,rfl,by show 3<=sizeLine;decide,fun l0 hl0=>?_⟩;obtain⟨n1,n2⟩:=fC S3.pot hl0;obtain⟨H4,e0,s4,h4⟩:=lay hl0 (.lst [.int 3,.int 7,.int 12]);rw[e0];clear e0;have S4:=S3.same s4;refine⟨_,rfl,p,l,3,rfl,S4.pot,by decide,by decide,fun z H5 z0 z1 D5 o5=>?_⟩;have S5:=S4.out D5 o5;obtain⟨w,hw,hwc⟩:=oU (x:=3) (y:=7) (z:=12) z0 z1;refine⟨l0,_,_,.int w,rfl,rfl,bR.of (eP h4 n1 n2 o5),hw,p,l,nh,ns,w,rfl,S5.pot,S5.hn,S5.n3,S5.n4,S5.ns3,by lia,by rcases hwc with rfl|rfl|rfl<;>decide,by lia,fun t H6 D6 o6 h6 nm6 sz6 ok6=>⟨by show 3<=sizeLine;decide,fun q hq=>?_⟩⟩;have s7:=aC hq (.tup [.str "let",.str x,.ref t.p]);exact⟨.lt q x t,rn,rfl,⟨aD,h6.ts (.of s7)⟩,(S5.out D6 o6).same s7,oC.trans ((cV.of s4).trans ((cV.out o5).trans ((cV.out o6).trans (.of s7)))),fun ns' h' up=>jP.lt ok6 (by lia) nm6 mx h' up (af _)⟩
  ·exact⟨_,rfl,_,rfl,_,rfl,p,l,sc,nl,nh,kn,rw,ag,rn,xs,ns,x,rfl,S3,fun pt T a3 wss rn1 H4 h4 ok4 ak4 w4 S4 o4=>⟨.thr pt x T a3 wss,rn1,rfl,h4,S4,oC.trans o4,fun ns' h' up=>jP.thr ok4 ak4 mx h' up (af _) w4⟩⟩
 rintro σ G ⟨r,rn1,rfl,hr4,S4,o4,d4⟩;have ei:inV (V.str x) (ns.map V.str)=decide (x∈ns):=nG _ _;refine⟨_,rfl,_,rfl,nh,_,rfl,.inl (bR.of S4.hn),rfl,dO _,_,rfl,?_⟩
 by_cases c:x∈ns
 ·refine bJ (by rw[ei,ap c];decide) ?_;refine⟨_,rfl,cS,fun u hu=>?_⟩;have s5:=aC hu (.tup [.ref r.p,.int 0]);exact k u r 0 rw rn1 ns _ aD (vN.ts (.of s5) _ hr4) (S4.same s5) (d4 ns (fun y hy=>ae _ hy) fun y hy=>hy) (bi _) (by lia) (o4.trans (.of s5))
 ·refine bW (by rw[ei,dq c];rfl) ?_;refine⟨_,rfl,.inl ⟨rfl,_,bR.of S4.hn⟩,_,rfl,nh,_,_,rfl,rfl,S4.hn,by rw[ac];have:=S4.ns3;exact aL (by lia),?_⟩;have sb:kJ (ns++[x]) xs:=fun y hy=>by
   rcases br.mp hy with q|q
   ·exact S4.sb y q
   ·rw[av.mp q];exact mx
  have nd:(ns++[x]).Nodup:=iw.mpr ⟨S4.nd,by simp,fun a ha b hb e=>c (by rw[<-List.mem_singleton.mp hb, <-e];exact ha)⟩;obtain⟨S5,o5⟩:=S4.names nd sb;have t5:=S4.ts o5;have e5:(ns.map V.str++[V.str x])=(ns++[x]).map V.str:=by rw[aq];rfl
  rw[e5];have oD:=o4.trans o5;generalize aN G nh (.lst ((ns++[x]).map V.str))=H5 at S5 t5 oD ⊢;refine⟨_,rfl,cS,fun u hu=>?_⟩;have s6:=aC hu (.tup [.ref r.p,.int 0]);refine k u r 0 rw rn1 (ns++[x]) _ aD (vN.ts (t5.trans (.of s6)) _ hr4) (S5.same s6) (d4 _ (fun y hy=>?_) fun y hy=>dw _ hy) (bi _) (by lia) (oD.trans (.of s6));rcases br.mp hy with q|q
  ·exact ae _ q
  ·rw[av.mp q];exact aj
def cG0(m:Nat)(C_LRw:Cl P w K mg base (3*m+15) (yB false m) "_law_row")(C_Draw:Cl P w K mg base 1 spDrawP "_law_draw")(m_range:mg "range"=none)(m_tuple:mg "tuple"=none):eV P w K mg base "_law_rows" "_law_rows" cS5 (3*m+15+1) ["_law_pot_here","_law_scene","_law_names_here","_law_left","_law_deep"] (yH (m+1)):=by
 refine fL ["_law_pot_here","_law_scene","_law_names_here","_law_left","_law_deep","_law_rows_here","_law_turn","_law_row_here","_law_told"] fun H Q nd hr h=>?_
 obtain⟨p,l,sc,nl,nh,kn,rw,ag,rn,left,deep,xs,ns,rfl,S0,l3,hd,ha,k⟩:=h;have hu:=gN hr;refine⟨_,(cZ 5 nd (cM eL)
  (aF (xN (eK (by rfl) m_range (aQ aB)) (gX 6 nd)
  (aE (bM (jV (PW.pt (vX (eO iP (pv 3) aB) (rQ (jV (PW.pt (kY (eO iP (qH hu (pv 1) aJ) aB) (iN (eO iP (bP C_Draw hr (aA (pv 0) (aQ aB))) aB))))))))) (aF (oX (bP C_LRw hr (aA (pv 0) (aA (pv 1) (aA (pv 2) (aA (pv 3) (aQ (pv 4))))))) (kC rfl (bY (gX 7 nd) (bY (gX 8 nd) gB))))
  (aF (cO (eZ bh cz de cJ (pv 5) (aQ (pv 7))))
  (aE (psz 3 nd (aI cQ (pv 3) (pv 8)))))) aX)))
  (aE (aK (uX bU m_tuple dj (aQ (aI yK (pv 5) (aI cI2 (cM (aQ (aS (aA aJ (aQ (aS (aA aJ (aQ aB)))))))) (pv 3))))))))),?_⟩
 refine⟨bi _,fun lr hlr=>?_⟩;obtain⟨n1,n2,n3,n4⟩:=S0.new hlr;have s1:=aC hlr (.lst []);have g1:aN H lr (.lst []) lr=some (.lst (bK [])):=aD;generalize aN H lr (.lst [])=H1 at s1 g1 ⊢;have S1:=S0.same s1;have w1:=S0.w1;refine⟨9,rfl,by decide,by decide,rO (n:=9) (fun i σ G=>∃(rs:List Rw) (left' rw' rn':Nat) (ns':List Str) (v6 v7 v8:Option V),σ=[some (.ref p),some (.ref sc),some (.ref nh),some (.int left'),some (.int deep),some (.ref lr),v6,v7,v8]/\Sc G p l sc nl nh kn rw' ag rn' xs ns'/\cV [p,l,sc,nh] H G/\G lr=some (.lst (bK rs))/\bO G rs/\rs.length<=i/\jP xs ns ns' kn rw rw' ag rn rn' rs (left-left') m/\left'<=left/\(left'=0\/i+left' + rw'<=left+rw))
  ⟨[],left,rw,rn,ns,_,_,_,rfl,S1,.of s1,g1,trivial,af _,by rw[Nat.sub_self];exact jP.nil,af _,.inr (by lia)⟩ ?_ ?_⟩
 ·rintro D' N i hN σ G hi ⟨rs,left',rw',rn',ns',v6,v7,v8,rfl,S2,o2,g2,hr2,hl2,d2,ll,hp⟩;refine⟨fun b G'=>Sc G' p l sc nl nh kn rw' ag rn' xs ns'/\cV [p,l,sc,nh] G G'/\(b=true->0<left'\/0<rw')/\(b=false->left'=0),?_,?_⟩
  ·refine⟨_,rfl,_,_,rfl,rfl,_,rfl,?_⟩
   by_cases c:(0:Int)<left'
   ·exact bW (ap c) ⟨S2,.refl _,(fun _=> .inl (by lia)),(fun z=>nomatch z)⟩
   ·refine bJ (by simpa using c) ⟨fun b G'=>Sc G' p l sc nl nh kn rw' ag rn' xs ns'/\cV [p,l,sc,nh] G G'/\(b=true->0<rw'),?_,by rintro b G' ⟨h1,h2,h3⟩;exact⟨h1,h2,(fun z=> .inr (h3 z)),(fun _=>by lia)⟩⟩;refine⟨_,rfl,sc,_,rfl,S2.g_rows,_,_,rfl,rfl,_,rfl,?_⟩
    by_cases c2:(0:Int)<rw'
    ·exact bW (ap c2) ⟨_,rfl,p,l,3,rfl,S2.pot,by decide,by decide,fun z H3 z0 z1 D3 o3=>⟨_,_,rfl,rfl,_,rfl,S2.out D3 o3,cV.out o3,(fun _=>by lia)⟩⟩
    ·exact bJ (by simpa using c2) ⟨S2,.refl _,(fun z=>nomatch z)⟩
  rintro b G' ⟨S3,o3,hb1,hb2⟩;have g3:=S2.keep o3 g2 n1 n2 n4;have hr3:=bO.ts (S2.ts o3) rs hr2
  cases b with
  |false =>
   refine bJ (by simp) ?_;exact hN _ _ ⟨rs,left',rw',rn',ns',_,_,_,rfl,S3,o2.trans o3,g3,hr3,by lia,d2,ll,.inl (hb2 rfl)⟩
  |true =>
   refine bW rfl ?_;have hc:=hb1 rfl;refine⟨_,rfl,_,rfl,_,rfl,_,rfl,_,rfl,p,l,sc,nl,nh,kn,rw',ag,rn',left',deep,xs,ns',rfl,S3,by lia,hd,ha,hc,fun u r told rw2 rn2 ns2 H4 h4 hr4 S4 d4 t4 w4 o4=>?_⟩;refine⟨u,_,rfl,aT.of h4,rfl,_,_,rfl,_,_,rfl,rfl,?_⟩;have g4:=S3.keep o4 g3 n1 n2 n4;have hrs4:=bO.ts (S3.ts o4) rs hr3;refine⟨_,rfl,.inl ⟨rfl,_,bR.of g4⟩,_,rfl,lr,_,_,rfl,rfl,g4,by unfold bK;rw[ac];exact aL (by lia),?_⟩;have e5:bK rs++[V.ref r.p]=bK (rs++[r]):=by unfold bK;rw[aq];rfl
   rw[e5];have S5:Sc (aN H4 lr (.lst (bK (rs++[r])))) p l sc nl nh kn rw2 ag rn2 xs ns2:=⟨qQ S4.pot n1 n2,(aH (gE S4.sc g4 (by intro z;cases z))).trans S4.sc,(aH n3.symm).trans S4.nm,(aH n4.symm).trans S4.hn,S4.n1,S4.n2,S4.n3,S4.n4,S4.n5,S4.k1,S4.k3,S4.x3,S4.r1,S4.r2,S4.a1,S4.a2,S4.w1,S4.nd,S4.sb⟩
   have t5:TS H4 (aN H4 lr (.lst (bK (rs++[r])))):=TS.lst g4;have o5:cV [p,l,sc,nh] H (aN H4 lr (.lst (bK (rs++[r])))):=fun b v e n=>by rw[aH (aM e hlr)];exact(o2.trans (o3.trans o4)) b v e n
   refine⟨_,rfl,_,rfl,_,_,rfl,rfl,?_⟩;refine hN _ _ ⟨rs++[r],left'-told,rw2,rn2,ns2,some (.int (0+i)),some (.ref r.p),some (.int told),by rw[show((left'-told:Nat):Int)=(left':Int)-told by lia];rfl,S5,o5,aD,bO.app (bO.ts t5 rs hrs4) ⟨vN.ts t5 r hr4,trivial⟩,by rw[bg];show rs.length+1<=_;lia,(d2.app d4).less (by lia),by lia,?_⟩;rcases hp with q|q
   ·exact .inl (by lia)
   ·exact .inr (by lia)
 ·rintro σ G ⟨rs,left',rw',rn',ns',v6,v7,v8,rfl,S2,o2,g2,hr2,hl2,d2,ll,hp⟩;have l0:left'=0:=by rcases hp with q|q<;>lia
  subst l0;refine⟨_,rfl,cS,fun t1 h1=>⟨cS,fun t2 h2=>⟨uU,fun t3 h3=>?_⟩⟩⟩;have s3:=(aC h1 (.tup [.str "num",.int 1])).trans ((aC h2 (.tup [.str "tell",.ref t1])).trans (aC h3 (.lst [.ref t2])));have g3:=s3 _ _ g2;refine⟨_,rfl,t3,0,_,rfl,rfl,aD,by decide,by decide,by show 1*0<=sizeLine;decide,fun t4 h4=>?_⟩;have s4:=s3.trans (aC h4 (.lst (List.replicate (0:Int).toNat [V.ref t2]).flatten));refine⟨lr,t4,_,_,rfl,rfl,s4 _ _ g2,aD,by unfold bK;rw[ac];show rs.length+0<=_;exact fi (aL (by lia)),fun t5 h5=>?_⟩;have e5:bK rs++(List.replicate (0:Int).toNat [V.ref t2]).flatten=bK rs:=jk _;rw[e5];refine⟨t5,_,rfl,.inl ⟨bR.of aD,fun t6 h6=>?_⟩⟩;have s6:=s4.trans ((aC h5 (.lst (bK rs))).trans (aC h6 (.tup (bK rs))));exact k t6 rs rw' rn' ns' _ aD hl2 (bO.ts (.of s6) rs hr2) (S2.same s6) d2 (o2.trans (.of s6))
def cA8(C_LNs:Cl P w K mg base 3 spNamesP "_law_names")(C_Draw:Cl P w K mg base 1 spDrawP "_law_draw")(C_LTh:Cl P w K mg base 3 spThrP "_law_throw")(C_LRs:Cl P w K mg base 25 (yH 4) "_law_rows")(m_len:mg "len"=none)(m_tuple:mg "tuple"=none):eV P w K mg base "_law_program" "_law_program" cR8 26 ["_law_pot_here","_law_most","_law_runs_here","_law_high"] spPrgP:=by
 refine fL ["_law_pot_here","_law_most","_law_runs_here","_law_high","_law_kinds","_law_scene","_law_names_here","_law_x","_law_ahead"] fun H Q nd hr h=>?_
 obtain⟨p,l,rfl,D,k⟩:=h;have hu:=gN hr;refine⟨_,(cZ 4 nd (bP C_LNs hr (aA (pv 0) (aQ (aI bE aB (bP C_Draw hr (aA (pv 0) (aQ (pv 1))))))))
  (cZ 5 nd (aR5 (fP aJ (pB cC m_len ic (aQ (pv 4))) (fP aJ aB (fP aJ aB (fP aJ (pv 2) (fP aJ (pv 3) (fP aJ (bP C_LNs hr (aA (pv 0) (aQ aB))) aN2)))))) rfl rfl (by decide) (by decide))
  (cZ 6 nd (cM eL)
  (cZ 7 nd (bQ dC (qH hu (pv 5) aJ) aB)
  (cZ 8 nd (aS eL)
  (aF (lG (bM (eO iP (bP C_Draw hr (aA (pv 0) (aQ aB))) aB) (cZ 8 nd (aS (aQ (bP C_LTh hr (aA (pv 0) (aA (pv 5) (aQ (pv 7)))))))
  (aE (cO (eZ bh cz de cJ (pv 6) (aQ (pv 7)))))) aX))
  (aE (aK (aS (aA (uX bU m_tuple dj (aQ (pv 4))) (aQ (aI rN (pv 8) (bP C_LRs hr (aA (pv 0) (aA (pv 5) (aA (pv 6) (aA (aI bE aB (bP C_Draw hr (aA (pv 0) (aQ aB)))) (aQ aB)))))))))))))))))),?_⟩
 refine⟨_,rfl,_,rfl,_,rfl,p,l,3,rfl,D,by decide,by decide,fun z H1 z0 z1 D1 o1=>⟨_,_,rfl,rfl,?_⟩⟩;refine⟨p,l,1+z,rfl,D1,by lia,by lia,fun lk ks H2 f2 h2 l2 D2 o2 n1 n2=>?_⟩;intro d hd;have fd:H d=none:=pE D1 o1 (pE D2 o2 hd);have s3:=aC hd (.dK []);have g3:aN H2 d (.dK []) d=some (.dK []):=aD;have h3:=s3 _ _ h2;have D3:=D2.same s3;obtain⟨e1,e2⟩:=fC D2 hd;generalize aN H2 d (.dK [])=H3 at s3 g3 h3 D3 ⊢;refine⟨_,rfl,lk,_,rfl,.inl (bR.of h3),_,rfl,_,rfl,_,rfl,p,l,3,rfl,D3,by decide,by decide,fun nl xs H4 f4 h4 l4 D4 o4 m1 m2=>?_⟩;refine⟨o4 _ _ g3 e1 e2,iH ks.length 4 1 40 9 nl,by rw[ac];rfl,by show 6<=15;decide,?_⟩;rw[bC8];have ed:d≠nl:=aM g3 f4;have oA:Out p l H (aN H4 d (.dK (iH ks.length 4 1 40 9 nl))):=Mine.Out.new (o1.trans (o2.trans ((Out.of s3).trans o4))) fd;have D5:jE (aN H4 d (.dK (iH ks.length 4 1 40 9 nl))) p l:=by
  obtain⟨a,b,c,q⟩:=D4;exact⟨a,b,c,(aH e1.symm).trans q.pc,(aH e2.symm).trans q.lc,q.ne,q.s0,q.s1,q.n0,q.l0⟩
 have lkd:lk≠d:=aM h2 hd;have h5:aN H4 d (.dK (iH ks.length 4 1 40 9 nl)) lk=some (.lst (ks.map V.str)):=(aH lkd).trans (o4 _ _ h3 n1 n2);have g5:aN H4 d (.dK (iH ks.length 4 1 40 9 nl)) d=some (.dK (iH ks.length 4 1 40 9 nl)):=aD;have h5n:=(aH (o:= .dK (iH ks.length 4 1 40 9 nl)) ed.symm).trans h4;have nlk:lk≠nl:=aM h3 f4;generalize aN H4 d (.dK (iH ks.length 4 1 40 9 nl))=H5 at oA D5 h5 g5 h5n ⊢;clear h2 h3 g3 s3 o1 o2 o4 D1 D2 D3 D4 h4 f4 f2 hd;refine⟨bi _,fun nh hnh=>?_⟩;obtain⟨q1,q2⟩:=fC D5 hnh;have fh:H nh=none:=pE D5 oA hnh;have s6:=aC hnh (.lst []);have h6:aN H5 nh (.lst []) nh=some (.lst (([]:List Str).map V.str)):=aD;have lkh:lk≠nh:=aM h5 hnh;have nhl:nh≠nl:=(aM h5n hnh).symm;generalize aN H5 nh (.lst [])=H6 at s6 h6 ⊢;have S6:Sc H6 p l d nl nh ks.length 4 1 40 xs []:=⟨D5.same s6,s6 _ _ g5,s6 _ _ h5n,h6,m1,m2,q1,q2,nhl,by lia,by lia,l4,by decide,by decide,by decide,by decide,by decide,ou,fun _ z=>nomatch z⟩
 have hk6:=s6 _ _ h5;have oB:=oA.trans (Out.of s6);clear oA D5 h5 g5 h5n s6 h6;obtain⟨x,xr,rfl⟩:∃x xr,xs=x::xr:=by
  cases xs with
  |nil=>cases l4
  |cons x xr=>exact⟨x,xr,rfl⟩
 refine⟨_,rfl,d,_,rfl,S6.g_names,nl,_,_,.str x,rfl,rfl,bR.of S6.nm,at0 _ _,?_⟩;refine⟨bi _,fun t0 ht0=>?_⟩;have s7:=aC ht0 (.tup []);have h7:aN H6 t0 (.tup []) t0=some (.tup (bK [])):=aD;generalize aN H6 t0 (.tup [])=H7 at s7 h7 ⊢;have S7:=S6.same s7;refine⟨fun σ G=>∃(ta:Addr) (ars:List Rw) (ns1:List Str) (rn1:Nat),σ=[some (.ref p),some (.int 3),some (.int 40),some (.int 9),some (.ref lk),some (.ref d),some (.ref nh),some (.str x),some (.ref ta)]/\G ta=some (.tup (bK ars))/\bO G ars/\Sc G p l d nl nh ks.length 4 1 rn1 (x::xr) ns1/\cV [p,l,d,nh] H6 G/\jP (x::xr) [] ns1 ks.length 5 4 1 40 rn1 ars 0 3/\ars.length<=1,?_,?_⟩
 ·refine⟨_,rfl,p,l,8,rfl,S7.pot,by decide,by decide,fun y H8 y0 y1 D8 o8=>⟨_,_,rfl,rfl,_,rfl,aB2 (fun _=>?_) (fun _=>?_)⟩⟩
  ·have S8:=S7.out D8 o8;refine⟨_,rfl,_,rfl,_,rfl,p,l,d,nl,nh,ks.length,4,1,40,x::xr,[],x,rfl,S8,fun pt T a3 wss rn1 H9 h9 ok9 ak9 w9 S9 o9=>⟨uU,fun ta hta=>?_⟩⟩;have s10:=aC hta (.tup [.ref pt]);have h10:aN H9 ta (.tup [.ref pt]) ta=some (.tup (bK [.thr pt x T a3 wss])):=aD;generalize aN H9 ta (.tup [.ref pt])=H10 at s10 h10 ⊢;have S10:=S9.same s10;refine⟨_,rfl,.inl ⟨rfl,_,bR.of S10.hn⟩,_,rfl,nh,_,_,rfl,rfl,S10.hn,by show 0<sizeLine;decide,?_⟩;obtain⟨S11,o11⟩:=S10.names (ns':=[x]) (by simp) (fun y hy=>by rw[List.mem_singleton.mp hy];exact aj);have t11:=S10.ts o11;exact⟨ta,[.thr pt x T a3 wss],[x],rn1,rfl,t11 _ _ h10,⟨vN.ts ((TS.of s10).trans t11) _ h9,trivial⟩,S11,(cV.of s7).trans ((cV.out o8).trans (o9.trans ((cV.of s10).trans o11))),jP.thr ok9 ak9 aj (fun y hy=>hy) (fun _ z=>nomatch z) (by decide) w9,af _⟩
  ·exact⟨t0,[],[],40,rfl,S7.pot.ts o8 _ _ h7,trivial,S7.out D8 o8,(cV.of s7).trans (cV.out o8),jP.nil.more (by decide),bi _⟩
 rintro σ G ⟨ta,ars,ns1,rn1,rfl,h8,hr8,S8,o8,d8,la⟩;have hk8:=S6.keep o8 hk6 n1 n2 lkh;refine⟨_,rfl,lk,_,rfl,.inl ⟨bR.of hk8,fun kt hkt=>?_⟩⟩;obtain⟨H9,e0,s9,h9⟩:=lay hkt (.tup (ks.map V.str));rw[e0];clear e0;have S9:=S8.same s9;refine⟨_,rfl,_,rfl,_,rfl,_,rfl,_,rfl,p,l,3,rfl,S9.pot,by decide,by decide,fun y H10 y0 y1 D10 o10=>⟨_,_,rfl,rfl,?_⟩⟩;have S10:=S9.out D10 o10;obtain⟨lf,el,lf3⟩:∃lf:Nat,1+y=(lf:Int)/\lf<=3:=⟨(1+y).toNat,by lia,by lia⟩
 refine⟨p,l,d,nl,nh,ks.length,4,1,rn1,lf,0,x::xr,ns1,by rw[<-el];rfl,S10,lf3,by decide,by decide,fun tr rs rw2 rn2 ns2 H11 h11 l11 hr11 S11 d11 o11=>?_⟩;have t11:=(TS.of s9).trans ((S9.pot.ts o10).trans (S10.ts o11));have oC:=o8.trans ((cV.of s9).trans ((cV.out o10).trans o11));have k11:=((S9.pot.ts o10).trans (S10.ts o11)) _ _ h9;refine⟨ta,tr,_,_,rfl,rfl,t11 _ _ h8,h11,?_,fun pr H12 s12 h12=>⟨cS,fun pg hpg=>?_⟩⟩
 ·unfold bK;rw[ac,ac];exact fi (aL (by lia))
 have e12:bK ars++bK rs=bK (ars++rs):=by unfold bK;rw[aq]
 rw[e12] at h12;have s13:=aC hpg (.tup [.ref kt,.ref pr]);have s12:=s12.trans s13;exact k pg kt pr ks (x::xr) (ars++rs) _ aD (s12 _ _ k11) (by lia) (by lia) (s13 _ _ h12) (bO.app (bO.ts (t11.trans (.of s12)) _ hr8) (bO.ts (.of s12) _ hr11)) ((d8.app d11).pg (by lia) S11.r1 l4) ((S11.same s12).pot) ((Mine.Out.in oB fd fh oC).trans (.of s12))
end
def all_mk{l:PySem.W.OpenLaw}{w:World}{K:PySem.W.Frag}{h:Heap}{mg:Str->Option Value}{fa:Addr}(X:K.In h)(G:h.Ns mainGlobals mg)(hfa:mg "law"=some (.ref fa))
  {cL iI xcT:Addr}{odT:Option Addr}{itsT:Array Value}{nT:Nat}{slT:Array (Option Value)}{tW:Tok}
  (t1:TopAt K "has_one_sum" cK5)
  (t2:TopAt K "place_of_sums" bC1)
  (t3:TopAt K "sums_of" bU1)
  (t4:TopAt K "parts_of" cQ2)
  (t5:TopAt K "range_of_sums" cT6)
  (t6:TopAt K "common_divisor" cM3)
  (t7:TopAt K "lowest" cN6)
  (t8:TopAt K "added" cN4)
  (t9:TopAt K "times" bE6)
  (t10:TopAt K "minus" bA3)
  (t11:TopAt K "divided" bW4)
  (t12:TopAt K "power" cL5)
  (t13:TopAt K "worked_out" sWo)
  (t14:TopAt K "value_of" cO0)
  (t15:TopAt K "come_to" bW5)
  (t16:TopAt K "merged" bV4)
  (t17:TopAt K "cut" cP8)
  (t18:TopAt K "added_up" sUp)
  (t19:TopAt K "number_of" cR7)
  (t20:TopAt K "share_of" bJ1)
  (t21:TopAt K "far_tail" cQ7)
  (t22:TopAt K "tail_of" bU2)
  (t23:TopAt K "ladder_table" cP4)
  (t24:TopAt K "flat_table" aW6)
  (t25:TopAt K "choose_table" cT3)
  (t26:TopAt K "share_from" bW0)
  (t27:TopAt K "first_table" aQ9)
  (t28:TopAt K "thrown" cT2)
  (t30:TopAt K "put_ahead" cK3)
  (t31:TopAt K "take_row" bX0)
  (t32:TopAt K "next_throw" cR6)
  (t33:TopAt K "parted" bU6)
  (t34:TopAt K "all_runs" cM2)
  (t35:TopAtD K "told_table" bV2 400)
  (t36:TopAt K "_law_pot" cR3)
  (t37:TopAt K "_law_draw" bW7)
  (t38:TopAt K "_law_name" cS0)
  (t39:TopAt K "_law_names" cQ8)
  (t40:TopAt K "_law_term" cK4)
  (t41:TopAt K "_law_sum" cS2)
  (t42:TopAt K "_law_steep" cO8)
  (t43:TopAt K "_law_again" cO4)
  (t44:TopAt K "_law_few" cM6)
  (t45:TopAt K "_law_bounds" cK7)
  (t46:TopAt K "_law_throw" cS6)
  (t47:TopAt K "_law_inner" cN2)
  (t48:TopAt K "_law_row" cP9)
  (t49:TopAt K "_law_rows" cS5)
  (t50:TopAt K "_law_program" cR8)
  (t51:TopAt K "_law_crowd" cJ1)
  (t52:TopAt K "_law_lowest" cO9)
  (t53:TopAt K "_law_added" cO5)
  (t54:TopAt K "_law_value" cO2)
  (t55:TopAt K "_law_walk" cJ6)
  (t56:TopAt K "_law_runs" cK2)
  (t57:TopAt K "_law_table" cK0)
  (t58:TopAt K "_law_whole" cL3)
  (t59:TopAt K "_law_is_share" cL4)
  (t60:TopAt K "_law_is_table" cS3)
  (t61:TopAt K "law" bH4)
  (z_range:PySem.W.nsIn K mainGlobals "range"=some none)
  (z_reversed:PySem.W.nsIn K mainGlobals "reversed"=some none)
  (z_sorted:PySem.W.nsIn K mainGlobals "sorted"=some none)
  (z_tuple:PySem.W.nsIn K mainGlobals "tuple"=some none)
  (z_min:PySem.W.nsIn K mainGlobals "min"=some none)
  (z_max:PySem.W.nsIn K mainGlobals "max"=some none)
  (z_sum:PySem.W.nsIn K mainGlobals "sum"=some none)
  (z_zip:PySem.W.nsIn K mainGlobals "zip"=some none)
  (z_abs:PySem.W.nsIn K mainGlobals "abs"=some none)
  (z_enumerate:PySem.W.nsIn K mainGlobals "enumerate"=some none)
  (z_len:PySem.W.nsIn K mainGlobals "len"=some none)
  (z_dict:PySem.W.nsIn K mainGlobals "dict"=some none)
  (z_list:PySem.W.nsIn K mainGlobals "list"=some none)
  (z_int:PySem.W.nsIn K mainGlobals "int"=some none)
  (z_isinstance:PySem.W.nsIn K mainGlobals "isinstance"=some none)
  (z_bool:PySem.W.nsIn K mainGlobals "bool"=some none)
  (qT:PySem.W.nsIn K mainGlobals "THROWS"=some (some (.ref xcT)))
  (uT:K.lookup xcT=some ⟨.type "tuple",odT,.seq itsT nT,slT⟩)
  (vT:bC (bC6.map V.str) itsT.toList)
  (qW:PySem.W.nsIn K mainGlobals "WRAP"=some (some (.int 1000000 tW)))
  (qS:PySem.W.nsIn K mainGlobals "Run"=some (some (.ref cL)))
  (S1:PySem.W.plainGet K cL Str.empty=true)
  (S2:PySem.W.hasDictIn K cL=true)
  (S3:PySem.W.plainOver K cL=true)
  (S4:PySem.W.findIn K (.ref cL) "__setattr__"=some (some (.builtin "object.__setattr__")))
  (S5:PySem.W.findIn K (.ref cL) "coming"=some none)
  (S6:PySem.W.findIn K (.ref cL) "known"=some none)
  (S7:PySem.W.findIn K (.ref cL) "told"=some none)
  (S8:PySem.W.findIn K (.ref cL) "share"=some none)
  (M1:PySem.W.makesIn K cL=true)
  (M2:PySem.W.findIn K (.ref cL) "__init__"=some (some (.ref iI)))
  (M3:PySem.W.isFn K (.ref iI)=true)
  (M4:PySem.W.keepIn K (.ref cL)=true)
  (dI:DefAt K "__init__" "Run.__init__" cN1 iI) :
  ∃fd:FuncData,(∀(s:Shared) (v:Value),BindsTo s fd ⟨[v],[]⟩ [("_law_script",v)])/\∀base:Heap,K.In base->base.Ns mainGlobals mg->kK l.prog w K mg base CX0 227 fa fd ["_law_script"] (aP5 K):=by
 obtain⟨_,la,oc,od,kV,dc,pm,an,cd,ct,sl,lk,lc,lp⟩:=t61
 cases hfa.symm.trans (PySem.W.mg_of X G la)
 refine⟨PySem.W.fnOf "law" "law" (cE bH4) (bX bH4) (bB bH4) .none kV dc pm an cd ct,fun s v=> .of_eq rfl,fun base _ _=>?_⟩;have Z:Zx l.prog w K mg base:= .of X G;have y_range:=Z.no _ z_range;have y_reversed:=Z.no _ z_reversed;have y_sorted:=Z.no _ z_sorted;have y_tuple:=Z.no _ z_tuple;have y_min:=Z.no _ z_min;have y_max:=Z.no _ z_max;have y_sum:=Z.no _ z_sum;have y_zip:=Z.no _ z_zip;have y_abs:=Z.no _ z_abs;have y_enumerate:=Z.no _ z_enumerate;have y_len:=Z.no _ z_len;have y_dict:=Z.no _ z_dict;have y_list:=Z.no _ z_list;have y_int:=Z.no _ z_int;have y_isinstance:=Z.no _ z_isinstance;have y_bool:=Z.no _ z_bool;have mT:=Z.ns _ _ qT;have mW:=Z.ns _ _ qW;have zT:itsT.size<=sizeLine:=by
  have e:=vT.length;have e2:itsT.size=4:=by rw[<-ff];simpa [bC6] using e.symm
  rw[e2]
  decide
 have hT:∀H,aT K H xcT (bC6.map V.str):=fun H=> .inr ⟨_,itsT,nT,uT,rfl,rfl,zT,vT⟩
 have mL:=Z.ns _ _ qS;have T:RnT K cL:=⟨⟨S1,S2,S3,S4⟩,S5,S6,S7,S8⟩
 have M:Mk K cL iI:=⟨M1,M2,M3,M4⟩
 obtain⟨_,FI⟩:=dI.fn;have GI:=cC1 (P:=l.prog) (w:=w) (mg:=mg) (base:=base) T FI;have bI:=FI.b5 (p1:="self") (p2:="coming") (p3:="known") (p4:="told") (p5:="share") fun _ _ _ _ _ _ _ _ _ _ _=>rfl
 have MK:MkL l.prog w K mg base 1 (aN3 K cL) cL "Run":=⟨_,_,_,M,GI,bI,mL⟩
 have C1:=Z.c1 t1 (cF0);have C2:=Z.c1 t2 (bJ2);have C3:=Z.c1 t3 (bT1 C2 C1);have C4:=Z.c1 t4 (cG3);have C5:=Z.c1 t5 (cD6);have C6:=Z.c2 t6 (cA3);have C7:=Z.c2 t7 (cA7 C6);have C8:=Z.c2 t8 (cF1 C7);have C9:=Z.c2 t9 (bK1 C7);have C10:=Z.c2 t10 (bE5 (Cl.imp C7 bF8));have C11:=Z.c2 t11 (bM6 (Cl.imp C7 bF8));have C12:=Z.c2 t12 (bY0 y_range);have C13:=Z.c3 t13 (cN3 mW);have C14:=Z.c2 t14 (cD0 C4 C13 y_reversed);have C15:=Z.c1 t15 (bQ9 (Cl.imp C8 cF2));have C16:=Z.c1 t16 (bT0 C8 y_sorted y_tuple);have C17:=Z.c3 t17 (cB0 y_min y_max);have C18:=Z.c2 t18 (cP6 y_sum y_zip);have C19:=Z.c2 t19 (cD1 C5 C17 C18 C3 y_tuple);have C20:=Z.c2 t20 (bE4 (Cl.imp C9 uA) C12 y_abs);have C21:=Z.c2 t21 (cB1 (Cl.imp C9 uA) C12);have C22:=Z.c2 t22 (bO4 C10 C21);have C23:=Z.c4 t23 (bZ6 C22 C20 y_tuple y_range);have C24:=Z.c4 t24 (aW7 (Cl.imp C16 aO5) C17 y_range);have C25:=Z.c2 t25 (cD7 C15 C12 C11 y_tuple y_enumerate)
 have C26:=Z.c5 t26 (bN1 C22);have C27:=Z.c2 t27 (aS6 C19 C23 (Cl.imp C16 aO5) C26 (Cl.imp C9 uA) C10 y_enumerate y_len);have C28:=Z.c2 t28 (cC9 C19 C23 C27 C25 C24);have C30:=Z.c2 t30 (cA0 y_reversed);have C31:=Z.c2 t31 (bN0 T C14 C30 y_range);have C32:=Z.c1 t32 (bY2 T mT hT C31);have C33:=Z.c3 t33 (bS5 T MK C9 y_dict y_list);have C34:=Z.c3 t34 (bY6 T MK C32 C30 C28 C33 y_len y_tuple);have C35:=Z.cd t35 (bN8 C16 C34);have C36:=Z.c2 t36 (cB8);have C37:=Z.c2 t37 (bM4 y_len);have C38:=Z.c1 t38 (cC2 C37 y_range);have C39:=Z.c2 t39 (cH0 C38 y_range);have R40:∀n,Cl l.prog w K mg base (n+1) (bE3 n) "_law_term":=fun n=>by
  induction n with
  |zero=>exact Z.c3 (p1:="_law_pot_here") (p2:="_law_names_here") (p3:="_law_room") t40 okn
  |succ n ih=>exact Z.c3 t40 (bX9 n C37 ih y_len)
 have C40:=R40 12;have C41:=Z.c2 t41 (bX6 C37 y_tuple y_range);have C42:=Z.c2 t42 (cD4 C37 y_range y_max);have C43:=Z.c2 t43 (bY5 y_range);have C44:=Z.c1 t44 (bX4 C43);have C45:=Z.c3 t45 (bY8 C37 y_min);have C46:=Z.c3 t46 (cB4 C44 C37 C45 C43 C42 C41 y_int y_tuple y_min y_range);have R49:∀m,Cl l.prog w K mg base (3*m+13) (yH m) "_law_rows":=fun m=>by
  induction m with
  |zero=>exact Z.c5 (p1:="_law_pot_here") (p2:="_law_scene") (p3:="_law_names_here") (p4:="_law_left") (p5:="_law_deep") t49 okn
  |succ m ih =>
   have I:=Z.c5 t47 (cE2 m ih C37 C40 y_min y_list y_int);have W:=Z.c5 t48 (cA4 m C37 I C46 C40 y_len);exact Z.c5 t49 (cG0 m W C37 y_range y_tuple)
 have C49:=R49 4;have C50:=Z.c4 t50 (cA8 C39 C37 C46 C49 y_len y_tuple);have C51:=Z.c2 t51 (cH9 C37 y_range y_tuple);have C52:=Z.c2 t52 (cD9);have C53:=Z.c2 t53 (cG1 C52);have R54:∀n,Cl l.prog w K mg base (n+1) (aO7 n) "_law_value":=fun n=>by
  induction n with
  |zero=>exact Z.c2 (p1:="_law_term_here") (p2:="_law_values") t54 okn
  |succ n ih=>exact Z.c2 t54 (cA5 n ih y_int)
 have C54:=R54 6;have R55:∀n,Cl l.prog w K mg base (n+8) (aO6 n) "_law_walk":=fun n=>by
  induction n with
  |zero=>exact Z.c5 (p1:="_law_rows_here") (p2:="_law_values") (p3:="_law_crowd_here") (p4:="_law_told") (p5:="_law_share") t55 okn
  |succ n ih=>exact Z.c5 t55 (cH6 n C28 ih C54 y_dict y_len)
 have C55:=R55 217;have C56:=Z.c2 t56 (cG6 C55);have C57:=Z.c1 t57 (bY1 C53 C52 y_tuple y_sorted);have C58:=Z.c1 t58 (cD5 y_isinstance y_int y_bool);have C59:=Z.c1 t59 (cC4 C58 y_isinstance y_tuple y_len);have C60:=Z.c2 t60 (cF5 C59 C58 y_isinstance y_tuple);exact bX5 C36 C50 C51 C60 C35 C57 C56 y_len y_range (aY8 lk lc lp)
def walk{l:W.OpenLaw}{q:Program}{loose:List Str}{XP:(Str->Option Value)->Heap->Prop}{YP:World->Heap->Prop}{d:DefRec}{K:Params->W.Frag}(hn:l.most=some 63)(hdf:d.params.defaults=[])
  (hY:∀(w:World) (h:Heap),YP w h->(K w.params).In h)
  (F:∀(w:World) (mg:Str->Option Value) (fa:Addr) (h:Heap),(K w.params).In h->h.Ns mainGlobals mg->mg d.name=some (.ref fa) ->
   ∃fd:FuncData,(∀(s:Shared) (u:Value),BindsTo s fd ⟨[u],[]⟩ [("_law_script",u)])/\∀base:Heap,(K w.params).In base->base.Ns mainGlobals mg->kK l.prog w (K w.params) mg base CX0 227 fa fd ["_law_script"] (aP5 (K w.params))) :
  W.WalkO q loose XP YP l.row.toRowW d [] (fun f vs=>PySem.call f vs):=
 L2.walk_of (n:=63) (k:=227) (x:="_law_script") (CX:=fun _=>CX0) (sp:=fun w=>aP5 (K w.params)) hn (by decide) hdf ⟨rfl,by decide,by decide,rfl⟩ hY F (fun _ _ a ns hl _ hS=>⟨a,ns,rfl,hS,hl,fun _=>rfl⟩) fun _ _ _ _ _ z=>z
end Mine
open PySem PySem.W PyProof.Rows
namespace PySem.W.Fast
def tw3695568417918957002:=0
def tw586456359101766465:=0
def tw13218439773577401238:=0
def tw2817222146539365455:=0
def tw7361522356462908806:=0
def tw4455730108790749256:=0
def tw2578157941637144645:=0
def tw8637023443008720195:=0
def tw3403591357822331497:=0
def tw18071146511495247716:=0
def tw11906926556141402508:=0
def tw9886876151865110361:=0
def tw9913706339854591105:=0
def tw15698365527067569508:=0
def tw1926294405717001931:=0
def tw6272277839661354785:=0
def tw7767613331087096944:=0
def tw2905554855663569650:=0
def tw11533283674813795552:=0
def tw9237084612372331172:=0
def tw10974153088748497679:=0
def tw13625694190327257628:=0
def tw14476330973418455990:=0
def tw3201838172570347823:=0
def tw5987527417585669659:=0
def tw16008518291340229331:=0
def tw10983284269852400456:=0
def tw7217733052152355129:=0
def tw5822089527991880920:=0
def tw7466115777340460621:=0
def tw6884285287743511722:=0
def tw15057139250724662179:=0
def tw12694871775167558297:=0
def tw9211832255783157459:=0
def tw1094366074630310705:=0
def tw218574479211419888:=0
def tw16025803486023896271:=0
def tw11343099676061413298:=0
def tw14368075546087819432:=0
def tw4360632805637002190:=0
def tw16556987845197483274:=0
def tw14683824749753529727:=0
def tw16350085161714588376:=0
def tw1941501514102481260:=0
def tw12278694931631273054:=0
def tw915755576478945394:=0
def tw1295824382201373532:=0
def tw17717961373375993548:=0
def tw14603889689036180426:=0
def tw11324004013165649324:=0
def tw4512043219705445193:=0
def tw993298930580650483:=0
def tw4507089444769164073:=0
def tw18204840011653720359:=0
def tw14942771429733385506:=0
def tw14036963571603107572:=0
def tw12915999818867587726:=0
def tw6682224723728282154:=0
def tw5093135566462838320:=0
def tw17033834061020331591:=0
def tw4388742289449276389:=0
def tw3367623168719998171:=0
def tw4130627479917745157:=0
def tw12874829598364292245:=0
def tw2572616686668335846:=0
def tw2705111527395191330:=0
def tw3941846982944559713:=0
def tw14359234519163774830:=0
def tw15885318035450032221:=0
def tw7278951167757792278:=0
def tw3382576488714396485:=0
def tw10648783391153043769:=0
def tw5538779845447863032:=0
def tw15945593050697646121:=0
def tw5700969496913984147:=0
def tw10315708833349112122:=0
def tw3884171237786871095:=0
def tw16990562401649552619:=0
def tw11945361834063441340:=0
def tw2336832108475946948:=0
def tw12616341062198672728:=0
def tw15578914714705643116:=0
def tw1772804933375486503:=0
def tw9544291271226249289:=0
def tw13733753761540433656:=0
def tw3158826302487272929:=0
def tw17677213723627263759:=0
def tw13148071545912055511:=0
def tw11376581879940876549:=0
def tw9140611138852792916:=0
def tw12332666103007011208:=0
def tw358461000428327270:=0
def tw120747680149646276:=0
def tw8395641514374804753:=0
def tw6853874487971270196:=0
def tw15183732178217884148:=0
def tw11624312757641206837:=0
def tw11373937088279979536:=0
def tw11388439868677582292:=0
def tw17982918675485453027:=0
def tw1705457935701767445:=0
def tw7573177607721421470:=0
def tw15581367662637696471:=0
def tw5935909306964223429:=0
def tw16261120911400070157:=0
def tw16376714817805564283:=0
def tw3863658456536241880:=0
def tw12373751964000835421:=0
def tw2414981643033522887:=0
def tw2660836606917876635:=0
def tw3755121387515411798:=0
def tw11812526434947422603:=0
def tw10050563816212281688:=0
def tw10253707983283682768:=0
def tw10332985390386642796:=0
def tw10426953546659523436:=0
def tw10490374869921057880:=0
def tw10500350641556212694:=0
def tw10501548211976341777:=0
def tw1051289866013917709:=0
def tw10619942302297472946:=0
def tw10744142325176713116:=0
def tw10843634375730657187:=0
def tw10850196151462458932:=0
def tw10963439662305198880:=0
def tw10976310451699572688:=0
def tw10998213572711407379:=0
def tw11103031749225065493:=0
def tw1113899644426798683:=0
def tw11190986022608952828:=0
def tw11229521536712733823:=0
def tw11272320340050402546:=0
def tw11301745857760656021:=0
def tw11350847232175479112:=0
def tw11462708863979993836:=0
def tw11484243420825176574:=0
def tw11501265480743971095:=0
def tw11597530741013407229:=0
def tw11687751096440220825:=0
def tw11695861354235597095:=0
def tw11813491489295611988:=0
def tw11983342729836863330:=0
def tw12007862474342589713:=0
def tw12045600644502965394:=0
def tw12101122542248548866:=0
def tw12117881157290629813:=0
def tw12128306967336020844:=0
def tw12142400695145531319:=0
def tw12167104224594479582:=0
def tw12191468486182413128:=0
def tw1222724440502333201:=0
def tw12227853423592994736:=0
def tw12237582285652162141:=0
def tw12290959492479222237:=0
def tw12344108891770653317:=0
def tw12368802146357512876:=0
def tw12646570351813497332:=0
def tw12679589628859101229:=0
def tw12712431297635483592:=0
def tw12768166536849193310:=0
def tw1284523717326419856:=0
def tw12846454941467795121:=0
def tw12916098037330081511:=0
def tw13054546304618630330:=0
def tw13060352124447182673:=0
def tw13090283910151195832:=0
def tw13094649745229979386:=0
def tw13175506454123317986:=0
def tw13176111658875980762:=0
def tw13264011513667816116:=0
def tw13361735968831717531:=0
def tw13474406390983111045:=0
def tw1352194685315666030:=0
def tw13554502187517266412:=0
def tw13579391536545091070:=0
def tw1362970325952535743:=0
def tw1391924045482712156:=0
def tw13948970327721307025:=0
def tw13950989764742471321:=0
def tw14025331420781384031:=0
def tw14068344274899409311:=0
def tw14080549353859952759:=0
def tw14248430047988473606:=0
def tw14267922547163427643:=0
def tw14268096282668743325:=0
def tw14302814344878185844:=0
def tw14313002865907884801:=0
def tw14362312944590958857:=0
def tw1437222928151009965:=0
def tw14380897626118335813:=0
def tw14417623169691318742:=0
def tw1447180864739127517:=0
def tw14506684444069286459:=0
def tw14563844713947607203:=0
def tw14601454306399602423:=0
def tw14707048833460749427:=0
def tw14710796511162764722:=0
def tw14714370910646028012:=0
def tw14746634972470340785:=0
def tw14815684132304228569:=0
def tw14816829277415998997:=0
def tw14943436009315949499:=0
def tw14952963932325316897:=0
def tw15094415898018796964:=0
def tw15165863045566777930:=0
def tw15206669793605661444:=0
def tw15214127859795267363:=0
def tw15243262332734877622:=0
def tw15310126798005087741:=0
def tw15445592632360619404:=0
def tw15505156246017418471:=0
def tw15612993400705785204:=0
def tw15679850808770933015:=0
def tw15720205578565740174:=0
def tw15760514923573811851:=0
def tw15934909945009067843:=0
def tw16038776389029248066:=0
def tw16100417061975443989:=0
def tw16140798486793377788:=0
def tw16225283232698712472:=0
def tw16251550408249914531:=0
def tw16299638935860435394:=0
def tw16300543152044017841:=0
def tw16346469531583200024:=0
def tw16418342749884161581:=0
def tw16428795434117858959:=0
def tw16446339842780656257:=0
def tw1649309847558099749:=0
def tw16583730500170375226:=0
def tw16587453480797496341:=0
def tw16592245286781214541:=0
def tw16713535533826207895:=0
def tw16835784866749820600:=0
def tw16880697649849858139:=0
def tw16977543482478273767:=0
def tw17013831868313776376:=0
def tw17123957110827362879:=0
def tw17145454402588647052:=0
def tw17183625804118141544:=0
def tw17269444448787150081:=0
def tw17337617949208276184:=0
def tw17454448179733379490:=0
def tw17494377901055625406:=0
def tw17619411880862641581:=0
def tw17659765035273386887:=0
def tw17774767167201986385:=0
def tw1786352291331527259:=0
def tw17876025603859224882:=0
def tw17955031532171595316:=0
def tw17957104226407195148:=0
def tw18039444759367924641:=0
def tw180799794615225454:=0
def tw18169205474562590867:=0
def tw18223515742116777724:=0
def tw18227056985556453709:=0
def tw18324441594470518049:=0
def tw1974679097439950618:=0
def tw2241008392905740984:=0
def tw226340887376149065:=0
def tw2320764804295744637:=0
def tw2329358270285691255:=0
def tw2346620987654208117:=0
def tw2476233207217032519:=0
def tw2579965591076396453:=0
def tw271299541519810807:=0
def tw2730579675141860630:=0
def tw2748352227973718768:=0
def tw284257583286826662:=0
def tw2956047407331785405:=0
def tw3059601773493255862:=0
def tw3073398438024183780:=0
def tw3261763789066576672:=0
def tw3324893179753800673:=0
def tw3452134914587809882:=0
def tw3458066824618823117:=0
def tw3541569383544034371:=0
def tw3575982041528934501:=0
def tw3625827750310406353:=0
def tw3735530708296908910:=0
def tw3880836179399877732:=0
def tw3943784414166644594:=0
def tw4032663321748703972:=0
def tw4032840047736373696:=0
def tw4096474122686660033:=0
def tw4185537793663565228:=0
def tw4246567358602524178:=0
def tw4337993251118231283:=0
def tw4341118107277805999:=0
def tw4387972110217896315:=0
def tw4495697516596436133:=0
def tw4677244396398331878:=0
def tw4691810117085823919:=0
def tw4890498184076204356:=0
def tw5038865272295343452:=0
def tw5060951585002084353:=0
def tw5070353925800069783:=0
def tw5071804142660009341:=0
def tw5174459819752606617:=0
def tw5372556325782838268:=0
def tw5402836967285102904:=0
def tw553045571436131224:=0
def tw554101925063907754:=0
def tw5554793539239316850:=0
def tw56030354320845900:=0
def tw5654076833201627774:=0
def tw565518245247227883:=0
def tw5714170561551031794:=0
def tw5742075915680079737:=0
def tw5749055532912928341:=0
def tw5757383359871745575:=0
def tw5762241363214387399:=0
def tw5785921817573572658:=0
def tw5928864181698491249:=0
def tw594262363563172417:=0
def tw6060214150172323953:=0
def tw6068708580401981400:=0
def tw6103628851156040909:=0
def tw612393489907719230:=0
def tw6187749910138848663:=0
def tw6205449326567174999:=0
def tw6249552452357982188:=0
def tw6255584865110329111:=0
def tw6258978623027063117:=0
def tw6371426010247649101:=0
def tw6476429408758147777:=0
def tw64773126570424223:=0
def tw6545381941808557400:=0
def tw6584534794033976531:=0
def tw679928195199462290:=0
def tw6815878395146110827:=0
def tw6934683856904491643:=0
def tw7038200649444283105:=0
def tw7049794273652499082:=0
def tw7065165191907745476:=0
def tw7106433842799625722:=0
def tw7188858302275538605:=0
def tw7247376051303912844:=0
def tw7431490115394347001:=0
def tw7450350044272508572:=0
def tw7480880862404366741:=0
def tw7500488966712762735:=0
def tw7518746256780754142:=0
def tw7597722303051040845:=0
def tw7653565678809173704:=0
def tw7762559795342589692:=0
def tw7785960723731987190:=0
def tw7809372351761583159:=0
def tw7816217949918885566:=0
def tw7912461892654220382:=0
def tw7920226029397359247:=0
def tw798080684538460051:=0
def tw8011262376887730165:=0
def tw8039932381494969890:=0
def tw8058785378249158528:=0
def tw825291534873824749:=0
def tw8426683167468436291:=0
def tw8492838108218485355:=0
def tw8575389329245954377:=0
def tw8674951458247914133:=0
def tw8721864615011377725:=0
def tw872205391373822336:=0
def tw874081345047035077:=0
def tw8922272056795856179:=0
def tw9069829580778492000:=0
def tw909242032374730478:=0
def tw9145560772434175082:=0
def tw9187926311585878444:=0
def tw9209192152986014345:=0
def tw9231529657386605347:=0
def tw9252315352620154199:=0
def tw928397228933311946:=0
def tw936312675070945143:=0
def tw9365047036325617940:=0
def tw9370921401107900576:=0
def tw9460202143686280611:=0
def tw9463888297933894801:=0
def tw9490372510623726181:=0
def tw9638776958992122825:=0
def tw9660019438922496970:=0
def tw9884338612913866241:=0
def tw9892850484081777221:=0
def tw9972607150608643311:=0
end PySem.W.Fast
set_option maxRecDepth 100000 in
set_option maxHeartbeats 0 in
theorem PySem.Challenge.cw_pairedthrows_k25_tables_of_programs_holds : PySem.Challenge.rw_pairedthrows_k25_tables_of_programs.Holds := by
  w_on;o_law;k_head;(case hw=>w_witness2)
  k_fill
  refine Mine.walk (l:=PySem.Challenge.rw_pairedthrows_k25_tables_of_programs) rfl rfl (fun w h Y=>PySem.W.kIn_of Y) ?F
  case F =>
    intro w mg fa h KX G hmg
    refine' Mine.all_mk KX G hmg ?a0 ?a1 ?a2 ?a3 ?a4 ?a5 ?a6 ?a7 ?a8 ?a9 ?a10 ?a11 ?a12 ?a13 ?a14 ?a15 ?a16 ?a17 ?a18 ?a19 ?a20 ?a21 ?a22 ?a23 ?a24 ?a25 ?a26 ?a27 ?a28 ?a29 ?a30 ?a31 ?a32 ?a33 ?a34 ?a35 ?a36 ?a37 ?a38 ?a39 ?a40 ?a41 ?a42 ?a43 ?a44 ?a45 ?a46 ?a47 ?a48 ?a49 ?a50 ?a51 ?a52 ?a53 ?a54 ?a55 ?a56 ?a57 ?a58 ?a59 ?a60 ?a61 ?a62 ?a63 ?a64 ?a65 ?a66 ?a67 ?a68 ?a69 ?a70 ?a71 ?a72 ?a73 ?a74 ?a75 ?a76 ?a77 ?a78 ?a79 ?a80 ?a81 ?a82 ?a83 ?a84 ?a85 ?a86 ?a87 ?a88 ?a89 ?a90 ?a91 ?a92 ?a93
    case a60|a61|a62|a63|a64|a65|a66|a67|a68|a69|a70|a71|a72|a73|a74|a75|a76|a77=>k_is
    case a78=>exact .cons ⟨_,rfl⟩ (.cons ⟨_,rfl⟩ (.cons ⟨_,rfl⟩ (.cons ⟨_,rfl⟩ .nil)))
    case a79|a80|a81|a82|a83|a84|a85|a86|a87|a88|a89|a90|a91|a92=>k_is
    case a93=>apply L2.DefAt.of<;>k_is
    case a0|a1|a2|a3|a4|a5|a6|a7|a8|a9|a10|a11|a12|a13|a14|a15|a16|a17|a18|a19|a20|a21|a22|a23|a24|a25|a26|a27|a28|a29|a30|a31|a32=>apply L2.TopAt.of<;>k_is
    case a33=>apply L2.TopAtD.of<;>k_is
    case a34|a35|a36|a37|a38|a39|a40|a41|a42|a43|a44|a45|a46|a47|a48|a49|a50|a51|a52|a53|a54|a55|a56|a57|a58|a59=>apply L2.TopAt.of<;>k_is
