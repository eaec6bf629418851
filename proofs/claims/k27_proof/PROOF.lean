import PyProof.Rows.All
import Wide.All
import OpenK.AllK
import Wide.FinOn
import Lean
import PyProof.EqAt
import PyProof.EqKinds
import PyProof.TupleCall
import KE.KDictOf
import PyProof.AttrMissHeap
import KE.KSortTup
import PyProof.Rows.InDataRows
import KE.KRevSl
import PyProof.Rows.SetFrom
import PyProof.Rows.SortStr
import KE.KDictLaws
import PyProof.DictWalks
import PyProof.DictItems
import KE.KDictList
import KE.KPairComp
import PyProof.AutoListH
import PySem.Challenge.RW_pairedthrows_k27_whole_great_crowds_like
set_option Elab.async false
set_option linter.all false
set_option maxRecDepth 100000
open PySem renaming wpAny_bind->aa,wpAny_pure->am,wpAny_call_entry->dw,wpAny_callSpecial?_slot->ef,wpAny_field->eu,wpAny_newObj_type->ff,wpAny_mono->fq,wpAny_specialOf->gc,wpAny_Call_Name_kw->ge,wpAny_seqItems->gi,boot_len->gm,wpAny_isInstance->ij,wpAny_typeNameOfWhole_keyiter->iu,mem_of_lookup->iw,wpAny_pyIter_tuple->jd,wpAny_passesOwn->jh,wpAny_holding->jn,wpAny_attempt->jp,wpAny_truthy_bool->jq,sizeLine_eq->ju,wpAny_setField->jv,wpAny_rule->kc,wpAny_loadPart'->ki,wpAny_setField_rec->km,wpAny_of_eq->kq,builtinLookup_eq_fast->ky,isSubtype_tuple_tuple->lq,wpAny_forIn_list->md,wpAny_callSpecialIfBoundUnlessNone?_slot->me,tupleKind_room_in1->mv,call_meets->nu,wpAny_pyIter_enum->on,wpAny_execs_nil->qe,wpAny_typeOf->qh,typeLookup_type->qk,isSubtype_stop->re,isSubtype_type->rf,wpAny_standAt->tq,wpAny_letOwnedTupleGo_enum->ub,wpAny_pyIter_list->ue,eqIsQuiet_byValue->uh,wpAny_dictEntries->uj,codeAny_mono->uq,wpAny_Dict_empty->uu,noFill_tuple_add->uv,wpAny_comprehension_free->uy,entryFor_of_tree->vb,wpAny_dictEpoch->vq,wpAny_Assign_Subscript->vx,seqIndex_of->wc,wpAny_isTrue_Compare1->wu,wpAny_cRoomFor->wx,wpAny_isOneOf_keyiter->wy,typeIs_int->xf,wpAny_updateSeq_pair->xi,wpAny_pyIter_keyiter->xj,wpAny_pyIter_revIter->xo,seq_tuple_add->ya,wpAny_handled->yc,wpAny_onRaise->yd,wpAny_getItem_heap->yx,wpAny_setItem_heap->yy,concat_meets->yz,seqIndex_neg->zc,callType_new->ze,wpAny_tupleItemsOf->zi,wpAny_assign_Name->zp,wpAny_sequenceKey->zt,wpAny_pyIter_slot->zw,wpAny_throw->aAb,wpAny_mkInt->aAc
local macro_rules|`(tactic|omega)=>`(tactic|lia)
local macro_rules|`(def $i:declId $s:optDeclSig $v:declVal)=>`(noncomputable def $i:declId $s:optDeclSig $v:declVal)
set_option compiler.extract_closed false
noncomputable section
open List renaming length_map->ac,mem_cons_of_mem->ae,mem_cons_self->ah,map_append->aq,mem_singleton->au,mem_cons->av,size_toArray->aw,length_append->be,mem_append->bf,mem_append_right->bh,map_cons->bi,mem_of_getElem?->br,getElem?_eq_some_iff->bu,getElem?_eq_getElem->bw,length_cons->ci,mem_map->cm,sum_cons->cw,getElem?_map->cy,not_mem_nil->cz,mem_append_left->dj,length_take->dk,mem_filter->du,take_length->dy,map_congr_left->eh,length_reverse->gp,length_eq_zero_iff->gu,nodup_append->gy,append_nil->gz,getD_eq_getElem?_getD->ig,take_of_length_le->jc,map_map->jf,nodup_cons->ji,append_assoc->jr,length_drop->jx,replicate_succ->jz,foldl_cons->kj,reverse_cons->kr,length_singleton->ku,dropLast_concat->mf,any_cons->mh,nodup_iff_pairwise_ne->mi,filter_sublist->ml,sum_append->mo,drop_eq_getElem_cons->mq,pairwise_cons->nc,flatten_cons->ol,pairwise_map->ot,getElem_inj->oz,getElem_mem->pd,getElem?_reverse->pp,length_filter_le->pz,eraseIdxIfInBounds_toArray->qd,mem_iff_getElem->qp,eq_nil_of_length_eq_zero->qu,filterMap_cons->qv,nodup_nil->qz,drop_zero->rh,mem_filterMap->sn,zip_cons_cons->sr,filter_append->sv,getElem?_append_right->tz,flatMap_cons->uk,pairwise_iff_getElem->uo,map_nil->ut,ext_getElem->ve,map_reverse->vf,filter_cons_of_neg->vm,of_mem_zip->vn,forIn_cons->vp,getElem?_set_self->vv,drop_of_length_le->wj,zipWith_cons_cons->wm,mem_range->wq,take_append_drop->ww,getElem?_set_ne->xb,mem_of_mem_drop->xp,mem_of_mem_take->xq,all_cons->yb,map_drop->ye,map_take->yh,flatMap_append->yo,reverse_append->yr,map_singleton->zo,take_sublist->zr,mapM_toArray->zv
open PySem.Heap renaming get?_push_of_some->af,lt_size->ay,get?_push_size->az,size_push->gf,get?_update_self->jj,get?_update_ne->ka,get?_update_other->wf
open Nat renaming le_refl->ai,zero_le->bj,lt_of_lt_of_le->bm,ne_of_lt->bt,le_trans->bv,lt_of_le_of_lt->cg,lt_succ_self->dq,sub_lt_sub_left->fj,le_of_lt->fk,lt_irrefl->gb,mul_le_mul->gj,pow_le_pow_right->ip,le_add_right->iz,ne_of_gt->jw,pow_succ->ni,le_mul_of_pos_right->oa,lt_succ_of_lt->om,succ_mul->qi,not_lt_zero->qm,le_succ->rm,pow_pos->sg,not_lt->um,mul_comm->uw,mul_assoc->yi,pow_le_pow_left->yt,lt_or_ge->zk,sub_zero->zn,lt_trichotomy->zy
open Int renaming lt_of_lt_of_le->ar,le_trans->bn,mul_nonneg->bz,add_one_le_of_lt->cj,le_refl->cu,mul_pos->df,mul_le_mul_of_nonneg_right->di,toNat_natCast->dz,pow_succ->fm,pow_pos->ft,eq_ofNat_of_zero_le->fu,emod_lt_of_pos->gr,emod_nonneg->ia,lt_of_le_of_lt->ik,mul_le_mul_of_nonneg_left->ir,le_of_lt->je,lt_trans->jy,natCast_mul->ko,pow_nonneg->lh,zero_mul->li,zero_add->nj,pow_add->ox,natCast_succ->pf,mul_comm->ql,ediv_mul_cancel->qw,mul_le_mul->rg,mul_one->rl,one_mul->rq,natCast_nonneg->sw,fdiv_eq_ediv_of_nonneg->ua,mul_assoc->ud,pow_zero->vc,natCast_ediv->vg,mul_ediv_mul_of_pos->vj,natCast_dvd_natCast->vk,pow_one->wk,mul_ediv_add_emod->wz,natAbs_of_nonneg->xg,dvd_trans->yf,toNat_of_nonneg->yn,ne_of_gt->zf,add_zero->zg,add_mul->aAd
open PySem.F renaming plainAttrs_list->bg,slot_list_append->cp,type_list_append->cq,slot_dict_keyiterator_next->ja,slot_list_pop->jk,type_list_pop->jl,slot_tuple_iterator_next->jo,args_tuple_add_2->mw,slot_list_extend->nk,type_list_extend->nq,entry_tuple_add->nv,slot_tuple_hash->oq,slot_tuple_add->ow,slot_dict_get->ph,slot_tuple_lt->pi,slot_zip_next->qj,args_dict_keyiterator_next_1->qo,args_tuple_iterator_next_1->rc,entry_tuple_iterator_next->ss,args_dict_get_3->vh,args_tuple_lt_2->vi,entry_dict_get->vy,entry_tuple_lt->vz,slot_enumerate_next->wv,args_object_init_2->xm,args_tuple_hash_1->yq,entry_tuple_hash->zh,args_zip_next_1->zu
open Bool renaming false_ne_true->bo,and_eq_true->ii,eq_iff_iff->ke
open Option.some renaming inj->cx
open Sum.inr renaming inj->de
open PyProof.Rows renaming boot_tuple->eg,callWith_type1->fi,slot_tuple_getitem->io,boot_min->jm,intBits_le->ny,boot_list->oy,boot_max->qc,assignInOrder_cons->sk,boot_enumerate->su,boot_reversed->uc,get?_update_seq->vt,subscriptTail_builtinR->we,boot_int->xa,Constant_none->xz,listUpdate_at->yg,lt_int->yj,entry_tuple_getitem->yl,args_tuple_getitem->za,assignInOrder_nil->zq,seqEpoch_at->aAe
open Array renaming length_toList->fw,perm_iff_toList_perm->ie,forIn_toList->jg,getElem?_toList->pj,getD_eq_getD_getElem?->sx
open Option renaming map_eq_some_iff->gh,isSome_map->oj,map_some->qg,isSome_iff_exists->ur
open PySem.Obj renaming data_mapFields->gq,isFreed_of_fields->kx,cls_mapFields->ug
open PySem.PassesOwn renaming never->ib
open PySem.Heap.SameBut renaming update->ic
open PySem.Paired renaming length->iq,snoc->aAa
open True renaming intro->jt
open PySem.Calls renaming spliced_cons->kh,spliced_nil->oh,callWith_builtin->ou,Name_function_global->sy,evalArgs_plain->xc
open Sum.inl renaming inj->mj
open Or renaming inl->mz,inr->ux
open Nat.succ renaming inj->qr
open PySem.SeqAt.EqAt renaming int_int->sq,same->vo,int_tuple->xt,str_tuple->xu,tuple_int->xw,tuple_str->xx,int_str->yu,str_int->yv,of_refs->zj
open List.Pairwise renaming nil->uf
open PyProof renaming noPylong_of_log2->uz
open PySem.W renaming cellsFrom_some->vw,callWith_K->yw
open PySem.SeqAt.RcAt renaming tuples->zx
namespace L2
theorem Rq0(_:True:=by rfl):True:=trivial
theorem Rq1(_:True:=by decide):True:=trivial
theorem Rq2(_:True:=by first | exact .inl rfl | exact .inr rfl | assumption):True:=trivial
theorem Rq3(_:True:=by intro _;rfl):True:=trivial
theorem Rq4(_:True:=by intros;rfl):True:=trivial
theorem Rq5(_:True:=by first | decide | omega):True:=trivial
theorem Rq6(_:True:=by first | exact mz rfl | exact ux rfl):True:=trivial
theorem Rq7(_:True:=by exact fun _ _=>rfl):True:=trivial
theorem Rq8(_:True:=by intro _ _ _ _ h;(repeat obtain ⟨_,h⟩:=h);subst_vars;rfl):True:=trivial
theorem Rq9(_:True:=by first | exact bE2 _ | rfl):True:=trivial
theorem Rq10(_:True:=by refine ⟨rfl,rfl,rfl,?_,rfl,?_,?_⟩ <;> decide +kernel):True:=trivial
end L2
namespace L2
open PySem PySem.Spec PyProof.Rows
def aj:=@if_neg
def ao:=@if_pos
def ap:=@decide_eq_true
def ba:=@of_decide_eq_true
def dm:=@decide_eq_false
def gn:=@beq_eq_false_iff_ne
def gv:=@congrArg
def oo:=@decide_eq_true_eq
def qf:=@beq_iff_eq
def zm:=@of_decide_eq_false
end L2
namespace L2
open PySem PySem.Spec PyProof.Rows
abbrev Key:=Sum Int Str
def dU:Key->Value->Bool
 |.inl k,v=>Value.isInt k v
 |.inr x,v=>Value.isStrOf x v
def cR1 (w:World):Key->Int
 |.inl k=>hashInt k
 |.inr x=>hashStr w x
theorem aW:∀ {k:Key}{v:Value},dU k v=true->(∃ i t,k=Sum.inl i/\v=Value.int i t)\/(∃ x t,k=Sum.inr x/\v=Value.str x t)
 |.inl i,v,h=>by
  obtain ⟨t,e⟩:=Value.isInt_shape (k:=i) (v:=v) h
  exact .inl ⟨i,t,rfl,e⟩
 |.inr x,v,h=>by
  obtain ⟨t,e⟩:=Value.isStrOf_shape (x:=x) (v:=v) h
  exact .inr ⟨x,t,rfl,e⟩
theorem aQ3 (i:Int) (t:Tok):dU (.inl i) (.int i t)=true:=by simp [dU,Value.isInt]
theorem aR0 (x:Str) (t:Tok):dU (.inr x) (.str x t)=true:=by simp [dU,Value.isStrOf]
theorem bX1 (a b:Int):decide ((Sum.inl a:Key)=Sum.inl b)=(a == b):=by
 by_cases e:a=b
 ·subst e;simp
 ·have h:¬ (Sum.inl a:Key)=Sum.inl b:=fun q=>e (mj q)
  rw [dm h]
  exact (gn.mpr e).symm
theorem bT5 (a b:Str):decide ((Sum.inr a:Key)=Sum.inr b)=decide (a=b):=by
 by_cases e:a=b
 ·subst e;simp
 ·have h:¬ (Sum.inr a:Key)=Sum.inr b:=fun q=>e (de q)
  rw [dm h,dm e]
theorem bV9 (a:Int) (b:Str):decide ((Sum.inl a:Key)=Sum.inr b)=false:=dm (fun q=>nomatch q)
theorem bX9 (a:Str) (b:Int):decide ((Sum.inr a:Key)=Sum.inl b)=false:=dm (fun q=>nomatch q)
def bH (prog:Program) (w:World):PySem.KeyKind prog w Key where
 is:=dU
 hash:=cR1 w
 inj:=fun v a b ha hb=>by
  rcases aW ha with ⟨i,t,rfl,rfl⟩ | ⟨x,t,rfl,rfl⟩
  ·rcases aW hb with ⟨j,u,rfl,e⟩ | ⟨y,u,rfl,e⟩
   ·injection e with e1 _;rw [e1]
   ·exact nomatch e
  ·rcases aW hb with ⟨j,u,rfl,e⟩ | ⟨y,u,rfl,e⟩
   ·exact nomatch e
   ·injection e with e1 _;rw [e1]
 byValue:=fun k v h=>by
  rcases aW h with ⟨i,t,rfl,rfl⟩ | ⟨x,t,rfl,rfl⟩ <;> rfl
 pyHash:=fun hv h=>by
  rcases aW hv with ⟨i,t,rfl,rfl⟩ | ⟨x,t,rfl,rfl⟩
  ·exact wpAny_pyHash_int h
  ·exact wpAny_pyHash_str h
 eqBool:=fun hu hv h=>by
  rcases aW hu with ⟨i,t,rfl,rfl⟩ | ⟨x,t,rfl,rfl⟩
  ·rcases aW hv with ⟨j,u,rfl,rfl⟩ | ⟨y,u,rfl,rfl⟩
   ·rw [bX1] at h;exact wpAny_eqBool_int h
   ·rw [bV9] at h;exact yu i t y u _ _ _ _ h
  ·rcases aW hv with ⟨j,u,rfl,rfl⟩ | ⟨y,u,rfl,rfl⟩
   ·rw [bX9] at h;exact yv x t j u _ _ _ _ h
   ·rw [bT5] at h;exact wpAny_eqBool_str h
 «strs» :=fun k x t v h=>by
  rcases aW h with ⟨i,u,rfl,e⟩ | ⟨y,u,rfl,e⟩
  ·exact nomatch e
  ·injection e with e1 _
   subst e1
   cases v <;> rfl
theorem zI (prog:Program) (w:World) (i:Int) (t:Tok):(bH prog w).is (.inl i) (.int i t)=true:=aQ3 i t
theorem aB2 (prog:Program) (w:World) (x:Str) (t:Tok):(bH prog w).is (.inr x) (.str x t)=true:=aR0 x t
inductive V where
 |non | bl (b:Bool) | int (i:Int) | str (x:Str) | byt (b:Array UInt8) | flt (b:UInt64) | ref (a:Addr) | ty (n:String)
 deriving DecidableEq
def bG:V->Value->Prop
 |.non,u=>u=Value.none
 |.bl b,u=>u=Value.bool b
 |.int i,u=>∃ t,u=Value.int i t
 |.str x,u=>∃ t,u=Value.str x t
 |.byt b,u=>∃ t,u=Value.bytes b t
 |.flt b,u=>∃ t,u=Value.float b t
 |.ref a,u=>u=Value.ref a
 |.ty n,u=>u=Value.type n
abbrev bB:List V->List Value->Prop:=Paired bG
theorem bB.length {xs:List V}{us:List Value}(r:bB xs us):xs.length=us.length:=iq r
theorem bB.get:∀ {xs:List V}{us:List Value}{i:Nat}{x:V},bB xs us->xs[i]?=some x->∃ u,us[i]?=some u/\bG x u
 |_,_,_,_,.nil,e=>by simp at e
 |_,_,0,_,.cons r _,e=>by simp at e;subst e;exact ⟨_,rfl,r⟩
 |_,_,i+1,x,.cons _ t,e=>by
  obtain ⟨u,h1,h2⟩:=bB.get (i:=i) (x:=x) t (by simpa using e)
  exact ⟨u,by simpa using h1,h2⟩
theorem bB.set {x:V}{u:Value}(r:bG x u):∀ {xs:List V}{us:List Value}(i:Nat),bB xs us->bB (xs.set i x) (us.set i u)
 |_,_,_,.nil=> .nil
 |_,_,0,.cons _ t=> .cons r t
 |_,_,i+1,.cons q t=> .cons q (bB.set r i t)
theorem bB.append:∀ {xs ys:List V}{us ws:List Value},bB xs us->bB ys ws->bB (xs++ys) (us++ws)
 |_,_,_,_,.nil,s=>s
 |_,_,_,_,.cons r t,s=> .cons r (bB.append t s)
theorem bB.take:∀ {xs:List V}{us:List Value}(n:Nat),bB xs us->bB (xs.take n) (us.take n)
 |_,_,0,_=> .nil
 |_,_,_+1,.nil=> .nil
 |_,_,n+1,.cons r t=> .cons r (bB.take n t)
theorem bB.drop:∀ {xs:List V}{us:List Value}(n:Nat),bB xs us->bB (xs.drop n) (us.drop n)
 |_,_,0,r=>r
 |_,_,_+1,.nil=> .nil
 |_,_,n+1,.cons _ t=>bB.drop n t
def kO:Option V->Option Value->Prop
 |some v,some u=>bG v u
 |none,none=>True
 |_,_=>False
def KV {κ: Type}:List (κ×V)->List (κ×Value)->Prop:=Paired fun (p:κ×V) (q:κ×Value)=>p.1=q.1/\bG p.2 q.2
def kV:Key->V
 |.inl i=> .int i
 |.inr x=> .str x
inductive HO where
 |lst (xs:List V)
 |tup (xs:List V)
 |dK (kvs:List (Key×V)) | dT (kvs:List (List Key×V))
 |set (S:Int->Bool) (n:Nat)
 |ins (C dx:Addr) (fs:List (Str×V))
 |own (x:Addr)
 |xd (fs:List (Str×V))
 |met (f x:Addr)
 |rng (lo hi:Int)
 |frz (o:Obj) (u:HO)
 |tbl (ps:Array Value)
 |ext (φ: Heap->Prop)
abbrev Hp:=Addr->Option HO
def aM (H:Hp) (a:Addr) (o:HO):Hp:=fun b=>if b=a then some o else H b
theorem aD {H:Hp}{a:Addr}{o:HO}:aM H a o a=some o:=by unfold aM;rw [ao rfl]
theorem aG {H:Hp}{a b:Addr}{o:HO}(h:b≠a):aM H a o b=H b:=by unfold aM;rw [aj h]
theorem qH {H:Hp}{a:Addr}{o u:HO}:aM (aM H a o) a u=aM H a u:=by
 funext b;unfold aM;split <;> rfl
theorem fW {H:Hp}{a b:Addr}{o u:HO}(h:H a=some o) (h':H b=some u) (d:o≠u):a≠b:=by
 intro e;subst e;rw [h] at h';exact d (cx h')
theorem aN {H:Hp}{a b:Addr}{o:HO}(h:H a=some o) (h':H b=none):a≠b:=by
 intro e;subst e;rw [h] at h';cases h'
def kM (h:Heap) (a:Addr) (its:Array Value):Prop:=∃ o,h.get? a=some o/\o.cls= .type "tuple"/\∃ n,o.data= .seq its n/\o.dict=none
theorem kM.is {h:Heap}{a:Addr}{its:Array Value}(x:kM h a its):IsTup h a its:=by obtain ⟨o,e,c,n,d,_⟩:=x;exact ⟨o,e,c,n,d⟩
theorem kM.new (h:Heap) (its:Array Value):kM (h.push { cls:= .type "tuple",data:= .seq its }) h.objs.size its:=⟨_,az _ rfl,rfl,_,rfl,rfl⟩
section
variable (P:Program) (w:World)
def cJ (H:Hp) (h:Heap) (a:Addr):HO->Prop
 |.lst xs=>xs.length<=sizeLine/\∃ (its:List Value) (n:Nat),bB xs its/\h.get? a=some { cls:= .type "list",data:= .seq its.toArray n }
 |.tup xs=>xs.length<=sizeLine/\∃ its:List Value,bB xs its/\kM h a its.toArray
 |.dK kvs=>kvs.length<=sizeLine/\(a == sysModules)=false/\∃ vs,KV kvs vs/\h.DictOf (bH P w) a vs
 |.dT kvs=>kvs.length<=sizeLine/\(a == sysModules)=false/\∃ xs:List (List Key×Addr×Value),
   Paired (fun (p:List Key×V) (q:List Key×Addr×Value)=>p.1=q.1/\H q.2.1=some (.tup (p.1.map kV))/\bG p.2 q.2.2) kvs xs /\
   ∃ o es ep,h.get? a=some o/\o.ExactDict/\o.data= .dict es ep/\es.toList=xs.map (entryOfKey (tupleKind (bH P w)))/\(xs.map (·.1)).Nodup
 |.set S n=>h.SetOf (intKind P w) a S n
 |.ins C dx fs=>H dx=some (.own a)/\fs.length<=1000/\dx≠a/\h.get? a=some (PySem.W.instObj C dx) /\
   ∃ mA,h.Ns1 dx mA/\(∀ f,kO (fs.lookup f) (mA f))/\PySem.Within mA (fs.map (·.1))
 |.own _=>∃ o,h.get? a=some o
 |.xd fs=>∃ mA,h.Ns1 a mA/\∀ f,kO (fs.lookup f) (mA f)
 |.rng lo hi=>∃ t u v,h.get? a=some { cls:= .type "range",data:= .fields #[.int lo t,.int hi u,.int 1 v] }
 |.frz o u=>h.get? a=some o/\cJ H h a u
 |.tbl ps=>h.get? a=some { cls:= .none,data:= .fields ps }
 |.met f x=>h.get? a=some (PySem.W.methodObj (.ref f) (.ref x))
 |.ext φ=>φ h/\(∃ o,h.get? a=some o)/\∀ h1 h2:Heap,φ h1->(∀ o,h1.get? a=some o->h2.get? a=some o)->φ h2
def kA (H:Hp) (h:Heap):Prop:=∀ a o,H a=some o->cJ P w H h a o
end
section
variable {P:Program}{w:World}{H H':Hp}{h h':Heap}{a:Addr}{o:HO}
theorem cJ.lt (x:cJ P w H h a o):a < h.objs.size:=by
 cases o with
 |lst xs=>obtain ⟨_,_,_,_,e⟩:=x;exact ay e
 |tup xs=>obtain ⟨_,_,_,p⟩:=x;exact p.is.lt
 |dK kvs=>obtain ⟨_,_,_,_,o,_,_,e,_⟩:=x;exact ay e
 |dT kvs=>obtain ⟨_,_,_,_,o,_,_,e,_⟩:=x;exact ay e
 |set S n=>obtain ⟨o,_,_,_,e,_⟩:=x;exact ay e
 |ins C dx fs=>obtain ⟨_,_,_,e,_⟩:=x;exact ay e
 |own y=>obtain ⟨_,e⟩:=x;exact ay e
 |xd fs=>obtain ⟨_,⟨_,_,_,e,_⟩,_⟩:=x;exact ay e
 |rng lo hi=>obtain ⟨_,_,_,e⟩:=x;exact ay e
 |frz ob u=>obtain ⟨e,_⟩:=x;exact ay e
 |tbl ps=>exact ay (show h.get? a=some _ from x)
 |met f y=>exact ay (show h.get? a=some _ from x)
 |ext φ=>obtain ⟨_,⟨_,e⟩,_⟩:=x;exact ay e
theorem Paired.mapP {α β: Type}{F G:α->β->Prop}:∀ {l₁:List α}{l₂:List β},Paired F l₁ l₂->(∀ a b,F a b->G a b)->Paired G l₁ l₂
 |_,_,.nil,_=> .nil
 |_,_,.cons r t,f=> .cons (f _ _ r) (Paired.mapP t f)
theorem cJ.stay (x:cJ P w H h a o) (k:∀ b u,(b=a\/H b=some (.own a))->h.get? b=some u->h'.get? b=some u)
  (ho:∀ b,H b=some (.own a)->H' b=some (.own a)) (ht:∀ b xs,H b=some (.tup xs)->H' b=some (.tup xs)):cJ P w H' h' a o:=by
 induction o with
 |lst xs=>obtain ⟨z,its,n,r,e⟩:=x;exact ⟨z,its,n,r,k _ _ (.inl rfl) e⟩
 |tup xs=>obtain ⟨z,its,r,ob,e,c⟩:=x;exact ⟨z,its,r,ob,k _ _ (.inl rfl) e,c⟩
 |dK kvs=>obtain ⟨z,y,vs,r,ob,es,ep,e,c⟩:=x;exact ⟨z,y,vs,r,ob,es,ep,k _ _ (.inl rfl) e,c⟩
 |dT kvs =>
  obtain ⟨z,y,xs,r,ob,es,ep,e,c⟩:=x
  exact ⟨z,y,xs,Paired.mapP r fun p q z=>⟨z.1,ht _ _ z.2.1,z.2.2⟩,ob,es,ep,k _ _ (.inl rfl) e,c⟩
 |set S n=>obtain ⟨ob,es,ep,t,e,c⟩:=x;exact ⟨ob,es,ep,t,k _ _ (.inl rfl) e,c⟩
 |ins C dx fs =>
  obtain ⟨d,z,ne,e,mA,⟨od,es,ep,e2,c⟩,r⟩:=x
  exact ⟨ho _ d,z,ne,k _ _ (.inl rfl) e,mA,⟨od,es,ep,k _ _ (.inr d) e2,c⟩,r⟩
 |own y=>obtain ⟨ob,e⟩:=x;exact ⟨ob,k _ _ (.inl rfl) e⟩
 |xd fs=>obtain ⟨mA,⟨od,es,ep,e,c⟩,r⟩:=x;exact ⟨mA,⟨od,es,ep,k _ _ (.inl rfl) e,c⟩,r⟩
 |rng lo hi=>obtain ⟨t,u,v,e⟩:=x;exact ⟨t,u,v,k _ _ (.inl rfl) e⟩
 |frz ob u ih=>obtain ⟨e,q⟩:=x;exact ⟨k _ _ (.inl rfl) e,ih q⟩
 |tbl ps =>
  have e:h.get? a=some { cls:= .none,data:= .fields ps }:=x
  show h'.get? a=some { cls:= .none,data:= .fields ps }
  exact k a _ (.inl rfl) e
 |met f y =>
  have e:h.get? a=some (PySem.W.methodObj (.ref f) (.ref y)):=x
  show h'.get? a=some (PySem.W.methodObj (.ref f) (.ref y))
  exact k a _ (.inl rfl) e
 |ext φ=>obtain ⟨p,⟨o,e⟩,st⟩:=x;exact ⟨st _ _ p fun o q=>k _ _ (.inl rfl) q,⟨o,k _ _ (.inl rfl) e⟩,st⟩
theorem kA.lt (x:kA P w H h) (e:H a=some o):a < h.objs.size:=(x a o e).lt
theorem kA.fresh (x:kA P w H h) (e:h.objs.size<=a):H a=none:=by
 cases q:H a with
 |none=>rfl
 |some u=>exact absurd (bm (x.lt q) e) (gb _)
theorem kA.kept (x:kA P w H h) (k:∀ b u,h.get? b=some u->h'.get? b=some u):kA P w H h':=fun a o e =>
 (x a o e).stay (fun b u _ q=>k b u q) (fun _ q=>q) fun _ _ q=>q
theorem kA.laid (x:kA P w H h) (k:∀ b u,h.get? b=some u->h'.get? b=some u) (hp:h.objs.size<=a) (new:cJ P w (aM H a o) h' a o):kA P w (aM H a o) h':=fun b u e=>by
 have hn:=x.fresh hp
 by_cases hb:b=a
 ·subst hb;rw [aD] at e;cases e;exact new
 ·rw [aG hb] at e
  exact (x b u e).stay (fun c v _ q=>k c v q) (fun c q=>by rw [aG (aN q hn)];exact q) fun c xs q=>by rw [aG (aN q hn)];exact q
end
def Rd (H:Hp) (a:Addr) (u:HO):Prop:=H a=some u\/∃ o,H a=some (.frz o u)
theorem Rd.ok {P:Program}{w:World}{H:Hp}{h:Heap}{a:Addr}{u:HO}(r:Rd H a u) (x:kA P w H h):cJ P w H h a u:=by
 rcases r with r | ⟨o,r⟩
 ·exact x a u r
 ·obtain ⟨_,q⟩:=x a _ r
  exact q
def Mut:Option HO->Prop
 |some (.lst _)=>True
 |some (.dK _)=>True
 |some (.dT _)=>True
 |some (.set _ _)=>True
 |some (.ins _ _ _)=>True
 |some (.ext _)=>True
 |_=>False
section
variable {P:Program}{w:World}{H:Hp}{h h':Heap}{x e:Addr}{o':HO}
theorem kA.write (ok:kA P w H h) (mu:Mut (H x)) (he:e=x\/H e=some (.own x)) (k:∀ b u,b≠e->h.get? b=some u->h'.get? b=some u) (heo:∃ u,h'.get? e=some u)
  (new:cJ P w (aM H x o') h' x o'):kA P w (aM H x o') h':=fun b u q=>by
 have nown:∀ c y,H c=some (.own y)->c≠x:=fun c y r z=>by subst z;rw [r] at mu;exact mu
 have ntup:∀ c xs,H c=some (.tup xs)->c≠x:=fun c xs r z=>by subst z;rw [r] at mu;exact mu
 by_cases hb:b=x
 ·subst hb;rw [aD] at q;cases q;exact new
 ·rw [aG hb] at q
  by_cases hbe:b=e
  ·have q':H b=some (.own x):=by
    rcases he with z | z
    ·exact absurd (hbe.trans z) hb
    ·rw [hbe];exact z
   rw [q] at q';cases q'
   obtain ⟨v,hv⟩:=heo
   exact ⟨v,by rw [hbe];exact hv⟩
  ·refine (ok b u q).stay (fun c v hc r=>k c v ?_ r) (fun c r=>by rw [aG (nown c b r)];exact r) fun c xs r=>by rw [aG (ntup c xs r)];exact r
   rcases hc with rfl | hc
   ·exact hbe
   ·rintro rfl
    rcases he with z | z
    ·exact nown c b hc z
    ·rw [hc] at z;cases z;exact hb rfl
end
structure Un (fs ex:List Addr) (H H':Hp) (h h':Heap):Prop where
 keep:∀ b o,h.get? b=some o->H b=none->b∉fs->b∉ex->h'.get? b=some o
 slot:∀ b o,h.get? b=some o->H b=none->b∈fs->b∉ex->∃ sl,h'.get? b=some { o with slots:=sl }
 free:∀ b o,h.get? b=some o->H b=none->b∉ex->H' b=none
 there:∀ b o,h.get? b=some o->b∉ex->∃ o',h'.get? b=some o'
 tups:∀ b xs,H b=some (.tup xs)->H' b=some (.tup xs)
 frzs:∀ b o u,H b=some (.frz o u)->H' b=some (.frz o u)
 tbls:∀ b ps,H b=some (.tbl ps)->∃ more,H' b=some (.tbl (ps++more))
section
variable {fs fs' ex ex':List Addr}{H H1 H2:Hp}{h h1 h2 h':Heap}{a x e:Addr}{o:HO}
theorem Un.any (u:Un fs ex H H1 h h1) {b:Addr}{ob:Obj}(q:h.get? b=some ob) (n:H b=none) (hx:b∉ex):∃ sl,h1.get? b=some { ob with slots:=sl }:=by
 by_cases hb:b∈fs
 ·exact u.slot b ob q n hb hx
 ·exact ⟨ob.slots,u.keep b ob q n hb hx⟩
theorem Un.kept (k:∀ b u,h.get? b=some u->h'.get? b=some u):Un fs ex H H h h' :=
 ⟨fun b ob q _ _ _=>k b ob q,fun b ob q _ _ _=>⟨ob.slots,k b ob q⟩,fun _ _ _ n _=>n,fun b ob q _=>⟨ob,k b ob q⟩,fun _ _ q=>q,fun _ _ _ q=>q,fun _ ps q=>⟨#[],by rw [q];simp⟩⟩
theorem Un.refl:Un fs ex H H h h:=Un.kept fun _ _ q=>q
theorem Un.laid (k:∀ b u,h.get? b=some u->h'.get? b=some u) (hp:h.objs.size<=a) (hn:H a=none):Un fs ex H (aM H a o) h h' where
 keep:=fun b u q _ _ _=>k b u q
 slot:=fun b u q _ _ _=>⟨u.slots,k b u q⟩
 free:=fun b u q n _=>by rw [aG (bt (bm (ay q) hp))];exact n
 there:=fun b u q _=>⟨u,k b u q⟩
 tups:=fun b xs q=>by rw [aG (aN q hn)];exact q
 frzs:=fun b u xs q=>by rw [aG (aN q hn)];exact q
 tbls:=fun b ps q=>⟨#[],by rw [aG (aN q hn),q];simp⟩
theorem Un.write (mu:Mut (H x)) (he:e=x\/H e=some (.own x)) (k:∀ b u,b≠e->h.get? b=some u->h'.get? b=some u) (heo:∃ u,h'.get? e=some u):Un fs ex H (aM H x o) h h':=by
 have hx:∀ b,H b=none->b≠x:=fun b n z=>by subst z;rw [n] at mu;exact mu
 have hb:∀ b,H b=none->b≠e:=fun b n z=>by
  subst z
  rcases he with r | r
  ·exact hx b n r
  ·rw [n] at r;cases r
 have hm:∀ b u,H b=some u->¬ Mut (some u)->b≠x:=fun b u q nm z=>by subst z;rw [q] at mu;exact nm mu
 refine ⟨fun b u q n _ _=>k b u (hb b n) q,fun b u q n _ _=>⟨u.slots,k b u (hb b n) q⟩,fun b u q n _=>by rw [aG (hx b n)];exact n,fun b u q _=>?_,
  fun b xs q=>by rw [aG (hm b _ q fun z=>z)];exact q,fun b u xs q=>by rw [aG (hm b _ q fun z=>z)];exact q,fun b ps q=>⟨#[],by rw [aG (hm b _ q fun z=>z),q];simp⟩⟩
 by_cases hbe:b=e
 ·subst hbe;exact heo
 ·exact ⟨u,k b u hbe q⟩
end
def trk (h:Heap) (H:Hp):List Addr:=(List.range h.objs.size).filter fun a=>(H a).isSome
def wU (h:Heap) (H:Hp):Heap:=PySem.W.hideAll h (trk h H)
theorem aO5 (h:Heap) (H:Hp):(wU h H).objs.size=h.objs.size:=PySem.W.hideAll_size _ _
theorem bB6 {h:Heap}{H:Hp}{b:Addr}{o:Obj}(e:h.get? b=some o) (n:H b=none):(wU h H).get? b=some o :=
 PySem.W.hideAll_get _ e fun hm=>by
  have q:(H b).isSome=true:=(du.mp hm).2
  rw [n] at q;simp at q
theorem bL5 {h:Heap}{H:Hp}{b:Addr}{o:Obj}(e:(wU h H).get? b=some o):h.get? b=some o/\H b=none:=by
 have e':h.get? b=some o:=PySem.W.of_hideAll (trk h H) e
 refine ⟨e',?_⟩
 cases q:H b with
 |none=>rfl
 |some x =>
  have hm:b∈trk h H:=du.mpr ⟨wq.mpr (ay e'),by simp [q]⟩
  have z:(wU h H).get? b=none:=PySem.W.hideAll_none (trk h H) hm
  rw [z] at e;cases e
def bM9 (g h:Heap) (L:Addr):List (Addr×Obj):=(List.range h.objs.size).filterMap fun a=>if a=L\/(g.get? a).isSome=true then none else (h.get? a).map fun o=>(a,o)
def rest (g h:Heap) (L d:Addr):List (Addr×Obj):=(bM9 g h L).filter fun p=>decide (p.1≠d)
structure Mod (K:PySem.W.Frag) (mg:Str->Option Value) (base:Heap):Prop where
 kin:K.In base
 glob:base.Ns mainGlobals mg
 blt:∃ mb,base.Ns builtinsNs mb/\∀ x:Str,x≠"__name__"->mb x=bootBuiltins x
 nolimit:base.NoLimit
structure Cx where
 prog:Program
 w:World
 K:PySem.W.Frag
 mg:Str->Option Value
 base:Heap
 A:Around
 N:List Str
 s₀:Shared
 H₀:Hp
 env:Env
 outer:List Env
 stack:List Env
 ex:List Addr
 fn:Str->Bool
 calm:Bool
 pn:List (Addr×Obj)
 xe:Value->Shared->Prop
def frs (l:List Env):List Addr:=l.filterMap (·.frame)
abbrev Cx.fs (X:Cx):List Addr:=frs X.outer
def Vis (sc:Scope) (x:Str):Prop:=sc.names.lookup x=some .local\/sc.names.lookup x=some .cell\/sc.names.lookup x=some .free
def Loc (sc:Scope) (x:Str):Prop:=sc.names.lookup x=some .local\/sc.names.lookup x=some .cell
def cO6 (env:Env) (h:Heap) (m:Str->Option Value) (x:Str) (u:Value):Prop :=
 (env.kindOf x=some .local/\m x=some u)\/((env.kindOf x=some .cell\/env.kindOf x=some .free)/\∃ c,env.cells.lookup x=some c/\h.IsCell c (some u))
structure Cx.Ok (X:Cx):Prop where
 mod:Mod X.K X.mg X.base
 kind:X.env.scope.kind= .function
 glob:X.env.globals=mainGlobals
 blt:X.env.builtins=builtinsNs
 above:X.s₀.heap.objs.size<=X.env.locals
 inj:∀ x y c,X.env.cells.lookup x=some c->X.env.cells.lookup y=some c->x=y
 has:∀ x,(X.env.kindOf x=some .cell\/X.env.kindOf x=some .free)->∃ c,X.env.cells.lookup x=some c
 cab:∀ x c,X.fn x=true->X.env.cells.lookup x=some c->X.s₀.heap.objs.size<=c
 hd:X.calm=true->X.A.handled=none
 frames:X.A.frames=some X.stack
 stk:X.stack=X.outer\/(X.stack=X.env :: X.outer/\X.env.frame=some X.env.locals)
 exf:∀ b∈X.ex,b≠X.env.locals/\∀ x c,X.env.cells.lookup x=some c->c≠b
 bs:∀ b o,X.base.get? b=some o->X.s₀.heap.get? b=some o/\X.H₀ b=none
 bsz:X.base.objs.size<=X.s₀.heap.objs.size
 noex:∀ b o,X.base.get? b=some o->b∉X.ex
 exfs:∀ b∈X.ex,b∉X.fs
 funs:X.s₀.heap.FunFrames X.base X.outer
 frf:∀ b∈X.fs,X.H₀ b=none
structure aR (X:Cx) (pins:List (Addr×Obj)) (σ: List (Option V)) (H:Hp) (s:Shared):Prop where
 ok:X.Ok
 os:s.os=X.s₀.os
 bare:AllBare s.gens
 base:Un X.fs X.ex X.H₀ H X.s₀.heap s.heap
 loc:∃ m,s.heap.Ns X.env.locals m/\∀ (i:Nat) (x:Str) (v:V),X.N[i]?=some x->σ[i]?=some (some v)->Vis X.env.scope x->∃ u,bG v u/\cO6 X.env s.heap m x u
 cell:∀ x c,X.env.cells.lookup x=some c->∃ v,s.heap.IsCell c v
 free:H X.env.locals=none
 freeC:∀ x c,X.env.cells.lookup x=some c->H c=none
 pin:∀ p∈X.pn++pins,s.heap.get? p.1=some p.2/\H p.1=none/\p.1≠X.env.locals/\p.1∉X.fs/\∀ v,p.2.data≠ .cell v
 hok:kA X.prog X.w H s.heap
 len:σ.length=X.N.length
section
variable {X:Cx}{pins:List (Addr×Obj)}{σ: List (Option V)}{H H':Hp}{s:Shared}{h':Heap}
theorem Cx.Ok.nofr (ok:X.Ok) {b:Addr}{o:Obj}(e:X.base.get? b=some o):b∉X.fs:=fun hb=>by
 have:=(ok.funs.mem hb).1
 rw [e] at this;cases this
theorem aR.bs (I:aR X pins σ H s):∀ b o,X.base.get? b=some o->s.heap.get? b=some o/\H b=none:=fun b o e =>
 ⟨I.base.keep b o (I.ok.bs b o e).1 (I.ok.bs b o e).2 (I.ok.nofr e) (I.ok.noex b o e),I.base.free b o (I.ok.bs b o e).1 (I.ok.bs b o e).2 (I.ok.noex b o e)⟩
theorem aR.bk (I:aR X pins σ H s):∀ b o,X.base.get? b=some o->s.heap.get? b=some o:=fun b o e=>(I.bs b o e).1
theorem aR.mod (I:aR X pins σ H s):Mod X.K X.mg X.base:=I.ok.mod
theorem aR.kIn (I:aR X pins σ H s):X.K.In s.heap:=I.ok.mod.kin.keeps I.bk
theorem aR.lt (I:aR X pins σ H s):X.env.locals < s.heap.objs.size:=by obtain ⟨_,hn,_⟩:=I.loc;exact hn.lt
theorem aR.sz (I:aR X pins σ H s):X.s₀.heap.objs.size<=s.heap.objs.size:=bv I.ok.above (fk I.lt)
theorem aR.nofs (I:aR X pins σ H s) {a:Addr}(h:s.heap.objs.size<=a):a∉X.fs:=fun hb=>by
 obtain ⟨_,o,ho,_⟩:=I.ok.funs.mem hb
 exact absurd (bm (ay ho) (bv I.sz h)) (gb _)
theorem aR.cne (I:aR X pins σ H s):∀ x c,X.env.cells.lookup x=some c->c≠X.env.locals:=fun x c e z=>by
 obtain ⟨v,o,ho,hd⟩:=I.cell x c e
 obtain ⟨m,⟨o',es,ep,ho',hd',_⟩,_⟩:=I.loc
 rw [z,ho'] at ho;cases ho;rw [hd'] at hd;cases hd
theorem aR.funs (I:aR X pins σ H s):s.heap.FunFrames X.base X.outer:=by
 have all:∀ (l:List Env),(∀ b∈frs l,b∈X.fs)->X.s₀.heap.FunFrames X.base l->s.heap.FunFrames X.base l:=by
  intro l
  induction l with
  |nil=>intro _ _;trivial
  |cons env r ih =>
   intro hs hl
   obtain ⟨hk,⟨L,o,hf,hn,ho,hd⟩,hr⟩:=hl
   have hL:L∈X.fs:=hs L (by unfold frs;rw [qv,hf];exact ah)
   obtain ⟨sl,e⟩:=I.base.slot L o ho (I.ok.frf L hL) hL fun z=>I.ok.exfs L z hL
   exact ⟨hk,⟨L,_,hf,hn,e,hd⟩,ih (fun b hb=>hs b (by unfold frs;rw [qv,hf];exact ae _ hb)) hr⟩
 exact all X.outer (fun _ hb=>hb) I.ok.funs
theorem aR.stack (I:aR X pins σ H s):s.heap.FunFrames X.base X.stack:=by
 rcases I.ok.stk with e | ⟨e,hf⟩
 ·rw [e];exact I.funs
 ·rw [e]
  obtain ⟨m,hn,_⟩:=I.loc
  refine .cons (by rw [I.ok.kind];decide) hf hn ?_ I.funs
  exact Heap.get?_none_of_le (bv I.ok.bsz I.ok.above)
theorem aR.stkSub (I:aR X pins σ H s):∀ b∈frs X.stack,b∈X.env.locals :: X.fs:=fun b hb=>by
 rcases I.ok.stk with e | ⟨e,hf⟩
 ·rw [e] at hb;exact ae _ hb
 ·rw [e] at hb
  unfold frs at hb
  rw [qv,hf] at hb
  exact hb
theorem aR.stkFree (I:aR X pins σ H s):∀ b∈frs X.stack,H b=none:=fun b hb=>by
 rcases av.mp (I.stkSub b hb) with e | hb
 ·rw [e];exact I.free
 ·obtain ⟨_,o,ho,_⟩:=I.ok.funs.mem hb
  exact I.base.free b o ho (I.ok.frf b hb) fun z=>I.ok.exfs b z hb
theorem aR.step {g':Array GenState}{t':Nat}{d':Drawn}{ch:List Addr}(I:aR X pins σ H s)
  (hch:∀ b∈ch,(b∈X.ex\/X.s₀.heap.objs.size<=b)/\b≠X.env.locals/\(∀ x c,X.env.cells.lookup x=some c->c≠b)/\∀ p∈X.pn++pins,p.1≠b)
  (keep:∀ b o,b≠X.env.locals->b∉X.fs->b∉ch->s.heap.get? b=some o->H b=none->h'.get? b=some o)
  (slot:∀ b o,b≠X.env.locals->b∈X.fs->b∉ch->s.heap.get? b=some o->H b=none->∃ sl,h'.get? b=some { o with slots:=sl }) (free:∀ b o,b∉ch->s.heap.get? b=some o->H b=none->H' b=none)
  (there:∀ b o,b∉ch->s.heap.get? b=some o->∃ o',h'.get? b=some o')
  (tups:∀ b xs,H b=some (.tup xs)->H' b=some (.tup xs)) (frzs:∀ b o u,H b=some (.frz o u)->H' b=some (.frz o u)) (tbls:∀ b ps,H b=some (.tbl ps)->∃ more,H' b=some (.tbl (ps++more)))
  (ns:∀ m,s.heap.Ns X.env.locals m->h'.Ns X.env.locals m) (hok:kA X.prog X.w H' h') (hg:AllBare g') :
  aR X pins σ H' { s with heap:=h',gens:=g',drawn:=d',toks:=t' }:=by
 have neL:∀ b o,X.s₀.heap.get? b=some o->b≠X.env.locals:=fun b o e=>bt (bm (ay e) I.ok.above)
 have neC:∀ b o,X.s₀.heap.get? b=some o->b∉X.ex->b∉ch:=fun b o e hx hb=>by
  rcases (hch b hb).1 with z | z
  ·exact hx z
  ·exact absurd (bm (ay e) z) (gb _)
 have cellK:∀ x c,X.env.cells.lookup x=some c->∀ v,s.heap.IsCell c v->h'.IsCell c v:=fun x c e v ⟨o,ho,hd⟩=>by
  have nch:c∉ch:=fun z=>(hch c z).2.2.1 x c e rfl
  by_cases hc:c∈X.fs
  ·obtain ⟨sl,q⟩:=slot c o (I.cne x c e) hc nch ho (I.freeC x c e)
   exact ⟨_,q,hd⟩
  ·exact ⟨o,keep c o (I.cne x c e) hc nch ho (I.freeC x c e),hd⟩
 refine ⟨I.ok,I.os,hg,⟨fun b o e n hb hx=>?_,fun b o e n hb hx=>?_,fun b o e n hx=>?_,fun b o e hx=>?_,fun b xs e=>tups b xs (I.base.tups b xs e),fun b o xs e=>frzs b o xs (I.base.frzs b o xs e),fun b ps e=>?_⟩,?_,fun x c e=>?_,?_,fun x c e=>?_,fun p hp=>?_,hok,I.len⟩
 ·exact keep b o (neL b o e) hb (neC b o e hx) (I.base.keep b o e n hb hx) (I.base.free b o e n hx)
 ·obtain ⟨sl,e1⟩:=I.base.slot b o e n hb hx
  obtain ⟨sl',e2⟩:=slot b _ (neL b o e) hb (neC b o e hx) e1 (I.base.free b o e n hx)
  exact ⟨sl',e2⟩
 ·obtain ⟨o',e1⟩:=I.base.there b o e hx
  exact free b o' (neC b o e hx) e1 (I.base.free b o e n hx)
 ·obtain ⟨o',e1⟩:=I.base.there b o e hx
  exact there b o' (neC b o e hx) e1
 ·obtain ⟨m1,e1⟩:=I.base.tbls b ps e
  obtain ⟨m2,e2⟩:=tbls b _ e1
  exact ⟨m1++m2,by rw [e2,Array.append_assoc]⟩
 ·obtain ⟨m,hn,hl⟩:=I.loc
  refine ⟨m,ns m hn,fun i x v e1 e2 e3=>?_⟩
  obtain ⟨u,r,l⟩:=hl i x v e1 e2 e3
  refine ⟨u,r,?_⟩
  rcases l with l | ⟨k,c,e,z⟩
  ·exact .inl l
  ·exact .inr ⟨k,c,e,cellK x c e _ z⟩
 ·obtain ⟨v,z⟩:=I.cell x c e
  exact ⟨v,cellK x c e v z⟩
 ·obtain ⟨m,⟨o,_,_,ho,_⟩,_⟩:=I.loc
  exact free _ o (fun z=>(hch _ z).2.1 rfl) ho I.free
 ·obtain ⟨v,o,ho,hd⟩:=I.cell x c e
  exact free c o (fun z=>(hch c z).2.2.1 x c e rfl) ho (I.freeC x c e)
 ·obtain ⟨e,n,ne,nf,d⟩:=I.pin p hp
  have nch:p.1∉ch:=fun z=>(hch p.1 z).2.2.2 p hp rfl
  exact ⟨keep p.1 p.2 ne nf nch e n,free p.1 p.2 nch e n,ne,nf,d⟩
theorem aR.un {t':Nat}(I:aR X pins σ H s) (u:Un X.fs [] H H' s.heap h') (hok:kA X.prog X.w H' h'):aR X pins σ H' { s with heap:=h',toks:=t' }:=by
 obtain ⟨m,⟨o,es,ep,ho,r⟩,_⟩:=id I.loc
 obtain ⟨sl,hL⟩:=u.any ho I.free (by simp)
 exact I.step (g':=s.gens) (d':=s.drawn) (ch:=[]) (fun _ z=>nomatch z) (fun b o _ hb _ e n=>u.keep b o e n hb (by simp)) (fun b o _ hb _ e n=>u.slot b o e n hb (by simp)) (fun b o _ e n=>u.free b o e n (by simp)) (fun b o _ e=>u.there b o e (by simp)) u.tups u.frzs u.tbls (fun m' hm=>by
  obtain ⟨o',es',ep',ho',r'⟩:=hm
  rw [ho] at ho';cases ho'
  exact ⟨_,es',ep',hL,r'⟩) hok I.bare
theorem aR.call {g':Array GenState}{t':Nat}{d':Drawn}{ch:List Addr}(I:aR X pins σ H s) (u:Un (frs X.stack) ch H H' s.heap h') (hok:kA X.prog X.w H' h') (hg:AllBare g')
  (hch:∀ b∈ch,(b∈X.ex\/X.s₀.heap.objs.size<=b)/\b≠X.env.locals/\(∀ x c,X.env.cells.lookup x=some c->c≠b)/\∀ p∈X.pn++pins,p.1≠b) :
  aR X pins σ H' { s with heap:=h',gens:=g',drawn:=d',toks:=t' }:=by
 obtain ⟨m,⟨o,es,ep,ho,r⟩,_⟩:=id I.loc
 obtain ⟨sl,hL⟩:=u.any ho I.free fun z=>(hch _ z).2.1 rfl
 exact I.step (ch:=ch) hch (fun b o hL hb hc e n=>u.keep b o e n (fun z=>(av.mp (I.stkSub b z)).elim hL hb) hc) (fun b o _ _ hc e n=>u.any e n hc) (fun b o hc e n=>u.free b o e n hc) (fun b o hc e=>u.there b o e hc) u.tups u.frzs u.tbls (fun m' hm=>by
  obtain ⟨o',es',ep',ho',r'⟩:=hm
  rw [ho] at ho';cases ho'
  exact ⟨_,es',ep',hL,r'⟩) hok hg
theorem aR.turned {t':Nat}{it:Addr}(I:aR X pins σ H s) (k:∀ b o,b≠it->s.heap.get? b=some o->h'.get? b=some o) (hn:H it=none) (hL:it≠X.env.locals)
  (h1:it∈X.ex\/X.s₀.heap.objs.size<=it) (h2:∀ x c,X.env.cells.lookup x=some c->c≠it) (h3:∀ p∈X.pn++pins,p.1≠it):aR X pins σ H { s with heap:=h',toks:=t' }:=by
 have nit:∀ b u,H b=some u->b≠it:=fun b u e z=>by rw [z,hn] at e;cases e
 refine I.step (g':=s.gens) (d':=s.drawn) (ch:=[it]) (fun b hb=>?_) (fun b o _ _ hc e _=>k b o (fun z=>hc (by simp [z])) e) (fun b o _ _ hc e _=>⟨o.slots,k b o (fun z=>hc (by simp [z])) e⟩) (fun _ _ _ _ n=>n)
  (fun b o hc e=>⟨o,k b o (fun z=>hc (by simp [z])) e⟩) (fun _ _ e=>e) (fun _ _ _ e=>e) (fun b ps e=>⟨#[],by rw [e];simp⟩) (fun m hm=>?_) (fun b u e=>?_) I.bare
 ·have e:b=it:=by simpa using hb
  subst e
  exact ⟨h1,hL,h2,h3⟩
 ·obtain ⟨o,es,ep,ho,r⟩:=hm
  exact ⟨o,es,ep,k _ o (Ne.symm hL) ho,r⟩
 ·refine (I.hok b u e).stay (fun c v hc q=>k c v ?_ q) (fun _ q=>q) fun _ _ q=>q
  rcases hc with z | z
  ·rw [z];exact nit b u e
  ·exact nit c _ z
theorem aR.tok (I:aR X pins σ H s) (t:Nat):aR X pins σ H { s with toks:=t }:=I.un (h':=s.heap) (t':=t) Un.refl I.hok
theorem aR.kept {t':Nat}(I:aR X pins σ H s) (k:∀ b u,s.heap.get? b=some u->h'.get? b=some u):aR X pins σ H { s with heap:=h',toks:=t' }:=I.un (Un.kept k) (I.hok.kept k)
theorem aR.laid {a:Addr}{o:HO}{t':Nat}(I:aR X pins σ H s) (k:∀ b u,s.heap.get? b=some u->h'.get? b=some u) (hp:s.heap.objs.size<=a) (new:cJ X.prog X.w (aM H a o) h' a o) :
  aR X pins σ (aM H a o) { s with heap:=h',toks:=t' }:=I.un (Un.laid k hp (I.hok.fresh hp)) (I.hok.laid k hp new)
theorem aR.write {x e:Addr}{o:HO}{t':Nat}(I:aR X pins σ H s) (mu:Mut (H x)) (he:e=x\/H e=some (.own x)) (k:∀ b u,b≠e->s.heap.get? b=some u->h'.get? b=some u) (heo:∃ u,h'.get? e=some u)
  (new:cJ X.prog X.w (aM H x o) h' x o):aR X pins σ (aM H x o) { s with heap:=h',toks:=t' }:=I.un (Un.write mu he k heo) (I.hok.write mu he k heo new)
theorem aR.pins_of {pins':List (Addr×Obj)}(I:aR X pins σ H s) (h:∀ p∈pins',s.heap.get? p.1=some p.2/\H p.1=none/\p.1≠X.env.locals/\p.1∉X.fs/\∀ v,p.2.data≠ .cell v):aR X pins' σ H s :=
 ⟨I.ok,I.os,I.bare,I.base,I.loc,I.cell,I.free,I.freeC,fun p hp=>(bf.mp hp).elim (fun z=>I.pin p (dj _ z)) (h p),I.hok,I.len⟩
theorem yE {N:List Str}(hN:N.Nodup) {i j:Nat}{x:Str}(a:N[i]?=some x) (b:N[j]?=some x):i=j:=by
 obtain ⟨h1,e1⟩:=bu.mp a
 obtain ⟨h2,e2⟩:=bu.mp b
 exact (oz hN).mp (e1.trans e2.symm)
theorem tX {M:Model}{A:Around}{E:Value->Shared->Prop}{i:Nat}{x:Str}{v:V}{u:Value}{Q:Unit->Shared->Prop}(I:aR X pins σ H s) (hN:X.N.Nodup) (hi:X.N[i]?=some x) (hx:Loc X.env.scope x) (r:bG v u)
  (h:∀ s',aR X pins (σ.set i (some v)) H s'->(∃ a,Heap.SameBut a s.heap s'.heap/\(a=X.env.locals\/X.env.cells.lookup x=some a))->Q () s') (hf:autoParam (X.fn x=true\/X.env.scope.names.lookup x=some .local) Rq2._auto_1):wpAny M A (storeName X.env x u) Q E s:=by
 obtain ⟨m,hn,hl⟩:=id I.loc
 have hcls:(X.env.scope.kind == .class || (X.env.scope.kind == .module && X.env.locals != X.env.globals))=false:=by rw [I.ok.kind];rfl
 have hiσ: i < σ.length:=by rw [I.len];exact (bu.mp hi).1
 have cne:=I.cne
 have tracked:∀ {a:Addr}{h':Heap},(∃ o,s.heap.get? a=some o/\H a=none)->Heap.SameBut a s.heap h'->kA X.prog X.w H h':=fun {a h'} ha hs b ob e=>by
  obtain ⟨_,_,hfree⟩:=ha
  refine (I.hok b ob e).stay (fun c w' hc q=>(hs.2 c ?_).trans q) (fun _ q=>q) fun _ _ q=>q
  rintro rfl
  rcases hc with rfl | hc
  ·rw [hfree] at e;cases e
  ·rw [hfree] at hc;cases hc
 rcases hx with hk | hk
 ·refine wpAny_storeName_local hk hn (fun h' hn' hs=>?_) hcls
  obtain ⟨oL,_,_,hoL,_⟩:=id hn
  refine h _ ⟨I.ok,I.os,I.bare,⟨fun b o e n hb hx=>?_,fun b o e n hb hx=>?_,I.base.free,fun b o e hx=>?_,I.base.tups,I.base.frzs,I.base.tbls⟩,⟨_,hn',fun j y v' e1 e2 e3=>?_⟩,fun y c e=>?_,I.free,I.freeC,fun p hp=>?_,tracked ⟨oL,hoL,I.free⟩ hs,by simpa using I.len⟩ ⟨_,hs,.inl rfl⟩
  ·exact (hs.2 b (bt (bm (ay e) I.ok.above))).trans (I.base.keep b o e n hb hx)
  ·obtain ⟨sl,e1⟩:=I.base.slot b o e n hb hx
   exact ⟨sl,(hs.2 b (bt (bm (ay e) I.ok.above))).trans e1⟩
  ·obtain ⟨o',e1⟩:=I.base.there b o e hx
   exact ⟨o',(hs.2 b (bt (bm (ay e) I.ok.above))).trans e1⟩
  ·by_cases hj:j=i
   ·subst hj
    rw [hi] at e1;cases e1
    rw [vv hiσ] at e2
    cases e2
    exact ⟨u,r,.inl ⟨hk,by simp⟩⟩
   ·rw [xb (Ne.symm hj)] at e2
    obtain ⟨u',r',q⟩:=hl j y v' e1 e2 e3
    refine ⟨u',r',?_⟩
    rcases q with ⟨k,e⟩ | ⟨k,c,e,z⟩
    ·refine .inl ⟨k,?_⟩
     have:y≠x:=fun e=>hj (yE hN e1 (e ▸ hi))
     simp [this,e]
    ·exact .inr ⟨k,c,e,z.sameBut hs (cne y c e)⟩
  ·obtain ⟨w',z⟩:=I.cell y c e
   exact ⟨w',z.sameBut hs (cne y c e)⟩
  ·obtain ⟨e,n,ne,nf,d⟩:=I.pin p hp
   exact ⟨(hs.2 p.1 ne).trans e,n,ne,nf,d⟩
 ·have hfn:X.fn x=true:=by
   rcases hf with z | z
   ·exact z
   ·rw [z] at hk;cases hk
  obtain ⟨c,hc⟩:=I.ok.has x (.inl hk)
  obtain ⟨w',z⟩:=I.cell x c hc
  refine wpAny_storeName_cell I.ok.kind hk hc z (fun h' hc' hs=>?_)
  obtain ⟨oc,hoc,hocd⟩:=id z
  refine h { s with heap:=h' } ⟨I.ok,I.os,I.bare,⟨fun b o e n hb hx=>?_,fun b o e n hb hx=>?_,I.base.free,fun b o e hx=>?_,I.base.tups,I.base.frzs,I.base.tbls⟩,⟨m,hn.sameBut hs (Ne.symm (cne x c hc)),fun j y v' e1 e2 e3=>?_⟩,fun y c' e=>?_,I.free,I.freeC,fun p hp=>?_,tracked ⟨oc,hoc,I.freeC x c hc⟩ hs,by simpa using I.len⟩ ⟨c,hs,.inr hc⟩
  ·exact (hs.2 b (bt (bm (ay e) (I.ok.cab x c hfn hc)))).trans (I.base.keep b o e n hb hx)
  ·obtain ⟨sl,e1⟩:=I.base.slot b o e n hb hx
   exact ⟨sl,(hs.2 b (bt (bm (ay e) (I.ok.cab x c hfn hc)))).trans e1⟩
  ·obtain ⟨o',e1⟩:=I.base.there b o e hx
   exact ⟨o',(hs.2 b (bt (bm (ay e) (I.ok.cab x c hfn hc)))).trans e1⟩
  ·by_cases hj:j=i
   ·subst hj
    rw [hi] at e1;cases e1
    rw [vv hiσ] at e2
    cases e2
    exact ⟨u,r,.inr ⟨.inl hk,c,hc,hc'⟩⟩
   ·rw [xb (Ne.symm hj)] at e2
    obtain ⟨u',r',q⟩:=hl j y v' e1 e2 e3
    refine ⟨u',r',?_⟩
    rcases q with q | ⟨k,c',e,z'⟩
    ·exact .inl q
    ·refine .inr ⟨k,c',e,z'.sameBut hs ?_⟩
     rintro rfl
     exact hj (yE hN e1 (I.ok.inj _ _ _ e hc ▸ hi))
  ·by_cases hcc:c'=c
   ·subst hcc;exact ⟨_,hc'⟩
   ·obtain ⟨w2,z2⟩:=I.cell y c' e
    exact ⟨w2,z2.sameBut hs hcc⟩
  ·obtain ⟨e,n,ne,nf,d⟩:=I.pin p hp
   refine ⟨(hs.2 p.1 ?_).trans e,n,ne,nf,d⟩
   intro q
   rw [q,hoc] at e
   have q':oc=p.2:=cx e
   exact d w' (by rw [<- q'];exact hocd)
theorem nB {M:Model}{A:Around}{E:Value->Shared->Prop}{i:Nat}{x:Str}{v:V}{u:Value}{Q:Unit->Shared->Prop}(I:aR X pins σ H s) (hN:X.N.Nodup) (hi:X.N[i]?=some x) (hx:Loc X.env.scope x) (r:bG v u)
  (h:∀ s',aR X pins (σ.set i (some v)) H s'->Q () s') (hf:autoParam (X.fn x=true\/X.env.scope.names.lookup x=some .local) Rq2._auto_1):wpAny M A (storeName X.env x u) Q E s :=
 tX I hN hi hx r (fun s' I' _=>h s' I') hf
theorem aR.call' {s':Shared}{ch:List Addr}(I:aR X pins σ H s) (ho:s'.os=s.os) (u:Un (frs X.stack) ch H H' s.heap s'.heap) (hok:kA X.prog X.w H' s'.heap) (hg:AllBare s'.gens)
  (hch:∀ b∈ch,(b∈X.ex\/X.s₀.heap.objs.size<=b)/\b≠X.env.locals/\(∀ x c,X.env.cells.lookup x=some c->c≠b)/\∀ p∈X.pn++pins,p.1≠b):aR X pins σ H' s':=by
 obtain ⟨h',g',d',t',o'⟩:=s'
 have e:o'=s.os:=ho
 subst e
 exact I.call (g':=g') (t':=t') (d':=d') u hok hg hch
end
abbrev XK:=Value->Option Addr->Hp->Prop
abbrev St:=List (Option V)
abbrev VK:=V->Hp->Prop
abbrev TE:=St->Hp->VK->Prop
abbrev TT:=St->Hp->(Bool->Hp->Prop)->Prop
abbrev TA:=St->Hp->(List V->Hp->Prop)->Prop
structure fH where
 nx:St->Hp->Prop
 rt:VK
 bk:St->Hp->Prop:=fun _ _=>False
 ct:St->Hp->Prop:=fun _ _=>False
abbrev TS:=fH->St->Hp->Prop
def EP (X:Cx) (pins:List (Addr×Obj)) (σ: St) (Q:VK) (u:Value) (s':Shared):Prop:=∃ v H',aR X pins σ H' s'/\bG v u/\Q v H'
def TP (X:Cx) (pins:List (Addr×Obj)) (σ: St) (Q:Bool->Hp->Prop) (b:Bool) (s':Shared):Prop:=∃ H',aR X pins σ H' s'/\Q b H'
def AP (X:Cx) (pins:List (Addr×Obj)) (σ: St) (Q:List V->Hp->Prop) (us:List Value) (s':Shared):Prop:=∃ vs H',aR X pins σ H' s'/\bB vs us/\Q vs H'
def SP (X:Cx) (pins:List (Addr×Obj)) (D:fH) (f:Flow) (s':Shared):Prop :=
 match f with
 |.next=>∃ σ' H',aR X pins σ' H' s'/\D.nx σ' H'
 |.brk=>∃ σ' H',aR X pins σ' H' s'/\D.bk σ' H'
 |.cont=>∃ σ' H',aR X pins σ' H' s'/\D.ct σ' H'
 |.ret u=>∃ v σ' H',aR X pins σ' H' s'/\bG v u/\D.rt v H'
def PE (X:Cx) (e:Expr) (t:TE):Prop :=
 ∀ (pins:List (Addr×Obj)) (s:Shared) (σ: St) (H:Hp) (Q:VK),aR X pins σ H s->t σ H Q->wpAny (model X.prog X.w) X.A (eval e X.env) (EP X pins σ Q) X.xe s
def PT (X:Cx) (e:Expr) (t:TT):Prop :=
 ∀ (pins:List (Addr×Obj)) (s:Shared) (σ: St) (H:Hp) (Q:Bool->Hp->Prop),aR X pins σ H s->t σ H Q->wpAny (model X.prog X.w) X.A (isTrue e X.env (eval e X.env)) (TP X pins σ Q) X.xe s
def PW (X:Cx) (e:Expr) (t:TT):Prop :=
 ∀ (whole:Sem Value) (pins:List (Addr×Obj)) (s:Shared) (σ: St) (H:Hp) (Q:Bool->Hp->Prop),aR X pins σ H s->t σ H Q->wpAny (model X.prog X.w) X.A (isTrue e X.env whole) (TP X pins σ Q) X.xe s
theorem PW.pt {X:Cx}{e:Expr}{t:TT}(h:PW X e t):PT X e t:=h _
def PA (X:Cx) (es:List Expr) (t:TA):Prop :=
 ∀ (pos:Pos) (pins:List (Addr×Obj)) (s:Shared) (σ: St) (H:Hp) (Q:List V->Hp->Prop),aR X pins σ H s->t σ H Q->wpAny (model X.prog X.w) X.A (spliced (backTo pos (starEach es X.env))) (AP X pins σ Q) X.xe s
def PS (X:Cx) (st:Stmt) (t:TS):Prop :=
 ∀ (pins:List (Addr×Obj)) (s:Shared) (σ: St) (H:Hp) (D:fH),aR X pins σ H s->t D σ H->wpAny (model X.prog X.w) X.A (exec st X.env) (SP X pins D) X.xe s
def vW (X:Cx) (st:List Stmt) (t:TS):Prop :=
 ∀ (pins:List (Addr×Obj)) (s:Shared) (σ: St) (H:Hp) (D:fH),aR X pins σ H s->t D σ H->wpAny (model X.prog X.w) X.A (execs st X.env) (SP X pins D) X.xe s
theorem cV {α: Type}{t:Sem α}{Q Q':α->Shared->Prop}{M:Model}{A:Around}{E:Value->Shared->Prop}{s:Shared}(h:wpAny M A t Q E s) (hQ:∀ a s,Q a s->Q' a s):wpAny M A t Q' E s:=fq h hQ fun _ _ x=>x
section
variable {X:Cx}
def cJ3 (i:Nat):TE:=fun σ H Q=>∃ v,σ[i]?=some (some v)/\Q v H
def tC (v:V):TE:=fun _ H Q=>Q v H
theorem bV4 {i:Nat}{x:Str}{pos:Pos}(hN:X.N[i]?=some x) (hv:Vis X.env.scope x) (hd:autoParam ((x == ("__debug__": Str))=false) Rq1._auto_1) (hcd:autoParam ((x == ("__classdict__": Str))=false) Rq1._auto_1):PE X (.Name x pos) (cJ3 i):=by
 intro pins s σ H Q I h
 obtain ⟨v,e,h⟩:=h
 obtain ⟨m,hn,hl⟩:=I.loc
 obtain ⟨u,r,l⟩:=hl i x v hN e hv
 have fin:EP X pins σ Q u s:=⟨v,H,I,r,h⟩
 rcases l with ⟨hk,hm⟩ | ⟨hk,c,hc,hcell⟩
 ·exact wpAny_Name (wpAny_loadName_local I.ok.kind hk hn hm fin) hd
 ·rcases hk with hk | hk
  ·exact wpAny_Name (wpAny_loadName_cell I.ok.kind hk hc hcell fin) hd
  ·exact wpAny_Name (wpAny_loadName_free I.ok.kind hk hc hcell fin hcd) hd
theorem aB {i j pos}:PE X (.Constant (.int i) j pos) (tC (.int i)):=fun _ _ _ H _ I h=>wpAny_Constant_int ⟨.int i,H,I.tok _,⟨_,rfl⟩,h⟩
theorem yX {b j pos}:PE X (.Constant (.bool b) j pos) (tC (.bl b)):=fun _ _ _ H _ I h=>Constant_bool ⟨.bl b,H,I,rfl,h⟩
theorem aU0 {j pos}:PE X (.Constant .none j pos) (tC .non):=fun _ _ _ H _ I h=>xz ⟨.non,H,I,rfl,h⟩
theorem aH {x j pos}:PE X (.Constant (.str x) j pos) (tC (.str x)):=fun _ _ _ H _ I h=>Calls.Constant_str ⟨.str x,H,I.tok _,⟨_,rfl⟩,h⟩
def Gl (X:Cx) (x:Str):Prop:=X.env.kindOf x=some .globalImplicit
theorem wG {E:Value->Shared->Prop}{pins:List (Addr×Obj)}{s:Shared}{σ: St}{H:Hp}{x:Str}{u:Value}{pos:Pos}{Q:Value->Shared->Prop}(I:aR X pins σ H s) (hg:Gl X x) (hm:X.mg x=some u) (h:Q u s)
  (hd:autoParam ((x == ("__debug__": Str))=false) Rq1._auto_1):wpAny (model X.prog X.w) X.A (eval (.Name x pos) X.env) Q E s :=
 sy I.ok.kind hg (Calls.loadGlobal_global (by rw [I.ok.glob];exact I.mod.glob.keeps I.bk) hm h) hd
theorem jM {E:Value->Shared->Prop}{pins:List (Addr×Obj)}{s:Shared}{σ: St}{H:Hp}{x:Str}{u:Value}{pos:Pos}{Q:Value->Shared->Prop}(I:aR X pins σ H s) (hg:Gl X x) (hm:X.mg x=none) (hv:bootBuiltins x=some u) (h:Q u s)
  (hn:autoParam (x≠"__name__") Rq1._auto_1) (hd:autoParam ((x == ("__debug__": Str))=false) Rq1._auto_1):wpAny (model X.prog X.w) X.A (eval (.Name x pos) X.env) Q E s:=by
 obtain ⟨mb,h1,h2⟩:=I.mod.blt
 exact sy I.ok.kind hg (Calls.loadGlobal_builtin (by rw [I.ok.glob];exact I.mod.glob.keeps I.bk) hm (by rw [I.ok.blt];exact h1.keeps I.bk) ((h2 x hn).trans hv) h) hd
theorem qE {x:Str}{v:V}{u:Value}{pos:Pos}(hg:Gl X x) (hm:X.mg x=some u) (r:bG v u) (hd:autoParam ((x == ("__debug__": Str))=false) Rq1._auto_1):PE X (.Name x pos) (tC v) :=
 fun _ _ _ H _ I h=>wG I hg hm ⟨v,H,I,r,h⟩ hd
variable {a b:Expr}{ta tb:TE}{pos:Pos}
def PC (X:Cx) (op:CmpOp) (a b:Expr) (t:TE):Prop :=
 ∀ (pins:List (Addr×Obj)) (s:Shared) (σ: St) (H:Hp) (Q:VK),aR X pins σ H s->t σ H Q ->
  wpAny (model X.prog X.w) X.A (eval a X.env) (fun v s₁=>wpAny (model X.prog X.w) X.A (eval b X.env) (fun u s₂=>wpAny (model X.prog X.w) X.A (compareOp op v u) (EP X pins σ Q) X.xe s₂) X.xe s₁) X.xe s
theorem bF4 (b:Expr) {op:CmpOp}(h:op≠ .In) (h2:op≠ .NotIn):behindInMarks op b=false:=by
 have e1:(op == CmpOp.In)=false:=by cases op <;> first | rfl | exact absurd rfl h
 have e2:(op == CmpOp.NotIn)=false:=by cases op <;> first | rfl | exact absurd rfl h2
 cases b <;> simp [behindInMarks,e1,e2]
def cQ3 (ta:TE):TE:=fun σ H Q=>ta σ H fun x H1=>Q (.bl (decide (x= .non))) H1
def cH1 (ta:TE):TE:=fun σ H Q=>ta σ H fun x H1=>Q (.bl (!decide (x= .non))) H1
theorem bG.none_iff {x:V}{v:Value}(r:bG x v):(v == Value.none)=decide (x= .non):=by
 cases x with
 |non=>cases r;rfl
 |bl _=>cases r;rfl
 |int _=>obtain ⟨t,rfl⟩:=r;rfl
 |str _=>obtain ⟨t,rfl⟩:=r;rfl
 |byt _=>obtain ⟨t,rfl⟩:=r;rfl
 |flt _=>obtain ⟨t,rfl⟩:=r;rfl
 |ref _=>cases r;rfl
 |ty _=>cases r;rfl
theorem bZ6 {j pos'} (ha:PE X a ta):PC X .Is a (.Constant .none j pos') (cQ3 ta):=by
 intro pins s σ H Q I h
 refine cV (ha pins s σ H _ I h) ?_;rintro v s1 ⟨x,H1,I1,r1,q1⟩
 exact xz (is_none_gen ⟨.bl _,H1,I1,by rw [r1.none_iff];rfl,q1⟩)
theorem bO2 {j pos'} (ha:PE X a ta):PC X .IsNot a (.Constant .none j pos') (cH1 ta):=by
 intro pins s σ H Q I h
 refine cV (ha pins s σ H _ I h) ?_;rintro v s1 ⟨x,H1,I1,r1,q1⟩
 exact xz (isnot_none_gen ⟨.bl _,H1,I1,by rw [r1.none_iff];rfl,q1⟩)
def tB (t:TE):TT:=fun σ H Q=>t σ H fun x H1=>∃ c,x= .bl c/\Q c H1
theorem aD6 {op:CmpOp}{t:TE}(h:PC X op a b t) (h1:behindInMarks op b=false:=by first | exact bF4 _ (by decide) (by decide) | rfl):PT X (.Compare a [op] [b] pos) (tB t):=by
 intro pins s σ H Q I hw
 refine wu (cV (h pins s σ H _ I hw) fun v s1 h1=>cV h1 fun u s2 h2=>cV h2 fun c s3 ⟨x,H1,I1,r1,q1⟩=>?_) h1
 obtain ⟨d,rfl,q⟩:=q1
 cases r1
 exact jq ⟨H1,I1,q⟩
theorem rG {e:Expr}{t:TE}(h:PE X e t) (he:autoParam (∀ whole,isTrue e X.env whole=(do let v <- whole;standAt e.pos;holding [v] (truthy v))) Rq3._auto_1):PT X e (tB t):=by
 intro pins s σ H Q I hw
 refine isTrue_plain (cV (h pins s σ H _ I hw) ?_) (he _);rintro v s1 ⟨x,H1,I1,r1,q1⟩
 obtain ⟨d,rfl,q⟩:=q1
 cases r1
 exact jq ⟨H1,I1,q⟩
variable {tA tB':TT}{rest:List Expr}
def cP2 (t u:TT):TT:=fun σ H Q=>t σ H fun c H1=>if c=true then u σ H1 Q else Q false H1
def tOr (t u:TT):TT:=fun σ H Q=>t σ H fun c H1=>if c=true then Q true H1 else u σ H1 Q
def cP8 (t:TT):TT:=fun σ H Q=>t σ H fun c H1=>Q (!c) H1
theorem fO (ha:PT X a tA):PW X (.BoolOp .And [a] pos) tA:=by
 intro wh pins s σ H Q I h
 refine isTrue_and (cV (ha pins s σ H Q I h) fun c s1 e=>?_)
 cases c with
 |true=>exact isTrue_and_nil e
 |false=>exact e
theorem rB (ha:PT X a tA):PW X (.BoolOp .Or [a] pos) tA:=by
 intro wh pins s σ H Q I h
 refine isTrue_or (cV (ha pins s σ H Q I h) fun c s1 e=>?_)
 cases c with
 |false=>exact isTrue_or_nil e
 |true=>exact e
theorem iO (ha:PT X a tA) (hb:PW X (.BoolOp .And (b :: rest) pos) tB'):PW X (.BoolOp .And (a :: b :: rest) pos) (cP2 tA tB'):=by
 intro wh pins s σ H Q I h
 refine isTrue_and (cV (ha pins s σ H _ I h) ?_);rintro c s1 ⟨H1,I1,q1⟩
 cases c with
 |true=>exact hb wh pins s1 σ H1 Q I1 q1
 |false=>exact ⟨H1,I1,q1⟩
theorem zJ (ha:PT X a tA) (hb:PW X (.BoolOp .Or (b :: rest) pos) tB'):PW X (.BoolOp .Or (a :: b :: rest) pos) (tOr tA tB'):=by
 intro wh pins s σ H Q I h
 refine isTrue_or (cV (ha pins s σ H _ I h) ?_);rintro c s1 ⟨H1,I1,q1⟩
 cases c with
 |true=>exact ⟨H1,I1,q1⟩
 |false=>exact hb wh pins s1 σ H1 Q I1 q1
theorem cB2 (ha:PT X a tA):PT X (.UnaryOp .Not a pos) (cP8 tA):=by
 intro pins s σ H Q I h
 exact isTrue_not (ha pins s σ H (fun c H1=>Q (!c) H1) I h)
def cD7 (ta tb:TE):TE:=fun σ H Q=>ta σ H fun x H1=>∃ c,x= .bl c/\if c=true then tb σ H1 Q else Q (.bl false) H1
theorem bS6 {op} {t:TE}(h:PE X a t):PE X (.BoolOp op [a] pos) t:=fun pins s σ H Q I hw=>BoolOp_one (h pins s σ H Q I hw)
theorem bT4 (ha:PE X a ta) (hb:PE X (.BoolOp .And (b :: rest) pos) tb):PE X (.BoolOp .And (a :: b :: rest) pos) (cD7 ta tb):=by
 intro pins s σ H Q I h
 refine BoolOp_and (cV (ha pins s σ H _ I h) ?_);rintro v s1 ⟨x,H1,I1,r1,q1⟩
 obtain ⟨c,rfl,q1⟩:=q1
 cases r1
 refine jq ?_
 cases c with
 |true=>exact hb pins s1 σ H1 Q I1 q1
 |false=>exact ⟨.bl false,H1,I1,rfl,q1⟩
def tIf (t:TT) (ta tb:TE):TE:=fun σ H Q=>t σ H fun c H1=>if c=true then ta σ H1 Q else tb σ H1 Q
theorem gS {c:Expr}(hc:PT X c tA) (ha:PE X a ta) (hb:PE X b tb):PE X (.IfExp c a b pos) (tIf tA ta tb):=by
 intro pins s σ H Q I h
 refine wpAny_IfExp (cV (hc pins s σ H _ I h) ?_);rintro d s1 ⟨H1,I1,q1⟩
 cases d with
 |true=>exact ha pins s1 σ H1 Q I1 q1
 |false=>exact hb pins s1 σ H1 Q I1 q1
end
def bM (K:PySem.W.Frag) (H:Hp) (a:Addr) (xs:List V):Prop :=
 Rd H a (.lst xs) \/
  ∃ (o:Obj) (its:Array Value) (n:Nat),K.lookup a=some o/\o.cls= .type "list"/\o.dict=none/\o.data= .seq its n/\its.size<=sizeLine/\bB xs its.toList
def aT (K:PySem.W.Frag) (H:Hp) (a:Addr) (xs:List V):Prop :=
 Rd H a (.tup xs) \/
  ∃ (o:Obj) (its:Array Value) (n:Nat),K.lookup a=some o/\o.cls= .type "tuple"/\o.data= .seq its n/\its.size<=sizeLine/\bB xs its.toList
def cN8:Value->Option V
 |.none=>some .non
 |.bool b=>some (.bl b)
 |.int i _=>some (.int i)
 |.str x _=>some (.str x)
 |.bytes b _=>some (.byt b)
 |.float b _=>some (.flt b)
 |.ref a=>some (.ref a)
 |.type n=>some (.ty n)
 |_=>none
theorem bG.abs {x:V}{u:Value}(r:bG x u):cN8 u=some x:=by
 cases x with
 |non=>cases r;rfl
 |bl _=>cases r;rfl
 |int _=>obtain ⟨t,rfl⟩:=r;rfl
 |str _=>obtain ⟨t,rfl⟩:=r;rfl
 |byt _=>obtain ⟨t,rfl⟩:=r;rfl
 |flt _=>obtain ⟨t,rfl⟩:=r;rfl
 |ref _=>cases r;rfl
 |ty _=>cases r;rfl
theorem bG.inj {x y:V}{u:Value}(r:bG x u) (q:bG y u):x=y:=cx (r.abs.symm.trans q.abs)
theorem bB.inj:∀ {xs ys:List V}{us:List Value},bB xs us->bB ys us->xs=ys
 |_,_,_,.nil,.nil=>rfl
 |_,_,_,.cons r t,.cons r' t'=>by rw [r.inj r',bB.inj t t']
section
variable {X:Cx}{pins:List (Addr×Obj)}{σ: St}{H:Hp}{s:Shared}{a:Addr}{xs ys:List V}
theorem bM.of {K:PySem.W.Frag}(h:H a=some (.lst xs)):bM K H a xs:= .inl (.inl h)
theorem aT.of {K:PySem.W.Frag}(h:H a=some (.tup xs)):aT K H a xs:= .inl (.inl h)
theorem aR.list (I:aR X pins σ H s) (h:bM X.K H a xs):∃ its:List Value,bB xs its/\PlainL s.heap a its.toArray/\xs.length<=sizeLine:=by
 rcases h with h | ⟨o,its,n,hk,hc,hd,hs,hz,r⟩
 ·obtain ⟨z,its,n,r,e⟩:=h.ok I.hok
  exact ⟨its,r,⟨_,n,e,rfl,rfl,rfl⟩,z⟩
 ·refine ⟨its.toList,r,⟨o,n,I.kIn a o hk,hc,hd,by simpa using hs⟩,?_⟩
  have e:=r.length
  simp only [Array.length_toList] at e
  omega
theorem aR.tuple (I:aR X pins σ H s) (h:aT X.K H a xs):∃ its:List Value,bB xs its/\IsTup s.heap a its.toArray/\xs.length<=sizeLine:=by
 rcases h with h | ⟨o,its,n,hk,hc,hs,hz,r⟩
 ·obtain ⟨z,its,r,p⟩:=h.ok I.hok
  exact ⟨its,r,p.is,z⟩
 ·refine ⟨its.toList,r,⟨o,I.kIn a o hk,hc,n,by simpa using hs⟩,?_⟩
  have e:=r.length
  simp only [Array.length_toList] at e
  omega
theorem aR.list_inj (I:aR X pins σ H s) (h:bM X.K H a xs) (h':bM X.K H a ys):xs=ys:=by
 obtain ⟨its,r,⟨o,n,e,_,_,d⟩,_⟩:=I.list h
 obtain ⟨its',r',⟨o',n',e',_,_,d'⟩,_⟩:=I.list h'
 rw [e] at e';cases e'
 rw [d] at d'
 injection d' with d1 _
 have:its=its':=by simpa using gv Array.toList d1
 subst this
 exact r.inj r'
theorem aR.tuple_inj (I:aR X pins σ H s) (h:aT X.K H a xs) (h':aT X.K H a ys):xs=ys:=by
 obtain ⟨its,r,⟨o,e,_,n,d⟩,_⟩:=I.tuple h
 obtain ⟨its',r',⟨o',e',_,n',d'⟩,_⟩:=I.tuple h'
 rw [e] at e';cases e'
 rw [d] at d'
 injection d' with d1 _
 have:its=its':=by simpa using gv Array.toList d1
 subst this
 exact r.inj r'
end
abbrev Cx.wish (X:Cx) (E:Value->Shared->Prop):Cx:={ X with xe:=E }
abbrev Cx.nox (X:Cx):Cx:=X.wish fun _ _=>False
theorem Cx.Ok.wish {X:Cx}(ok:X.Ok) (E:Value->Shared->Prop):(X.wish E).Ok :=
 ⟨ok.mod,ok.kind,ok.glob,ok.blt,ok.above,ok.inj,ok.has,ok.cab,ok.hd,ok.frames,ok.stk,ok.exf,ok.bs,ok.bsz,ok.noex,ok.exfs,ok.funs,ok.frf⟩
theorem Cx.Ok.unwish {X:Cx}{E:Value->Shared->Prop}(ok:(X.wish E).Ok):X.Ok :=
 ⟨ok.mod,ok.kind,ok.glob,ok.blt,ok.above,ok.inj,ok.has,ok.cab,ok.hd,ok.frames,ok.stk,ok.exf,ok.bs,ok.bsz,ok.noex,ok.exfs,ok.funs,ok.frf⟩
section
variable {X:Cx}{pins:List (Addr×Obj)}{σ: St}{H:Hp}{s:Shared}{E:Value->Shared->Prop}
theorem aR.wish (I:aR X pins σ H s) (E:Value->Shared->Prop):aR (X.wish E) pins σ H s:=⟨I.ok.wish E,I.os,I.bare,I.base,I.loc,I.cell,I.free,I.freeC,I.pin,I.hok,I.len⟩
theorem aR.unwish (I:aR (X.wish E) pins σ H s):aR X pins σ H s:=⟨I.ok.unwish,I.os,I.bare,I.base,I.loc,I.cell,I.free,I.freeC,I.pin,I.hok,I.len⟩
theorem SP.unwish {D:fH}{f:Flow}{s':Shared}(h:SP (X.wish E) pins D f s'):SP X pins D f s':=by
 cases f with
 |next=>obtain ⟨σ',H',I,q⟩:=h;exact ⟨σ',H',I.unwish,q⟩
 |brk=>obtain ⟨σ',H',I,q⟩:=h;exact ⟨σ',H',I.unwish,q⟩
 |cont=>obtain ⟨σ',H',I,q⟩:=h;exact ⟨σ',H',I.unwish,q⟩
 |ret u=>obtain ⟨v,σ',H',I,r,q⟩:=h;exact ⟨v,σ',H',I.unwish,r,q⟩
theorem vW.nox {st:List Stmt}{t:TS}(h:vW X.nox st t):vW X st t:=fun pins s σ H D I hw =>
 fq (h pins s σ H D (I.wish _) hw) (fun _ _ q=>q.unwish) fun _ _ z=>False.elim z
end
section
variable {X:Cx}{st:Stmt}{rest:List Stmt}{t u:TS}{e:Expr}{te:TE}{pos:Pos}
def tNext:TS:=fun D σ H=>D.nx σ H
def cI6 (t u:TS):TS:=fun D σ H=>t { D with nx:=u D } σ H
theorem aV:vW X [] tNext:=fun _ _ σ H _ I h=>qe ⟨σ,H,I,h⟩
theorem aF (h1:PS X st t) (h2:vW X rest u):vW X (st :: rest) (cI6 t u):=by
 intro pins s σ H D I h
 refine wpAny_execs_cons (cV (h1 pins s σ H { D with nx:=u D } I h) fun f s1 q=>?_)
 cases f with
 |next =>
  obtain ⟨σ',H',I',q⟩:=q
  exact h2 pins s1 σ' H' D I' q
 |ret v=>exact q
 |brk=>exact q
 |cont=>exact q
theorem aE (h1:PS X st t):vW X [st] t:=by
 intro pins s σ H D I h
 refine wpAny_execs_cons (cV (h1 pins s σ H D I h) fun f s1 q=>?_)
 cases f with
 |next=>exact qe q
 |ret v=>exact q
 |brk=>exact q
 |cont=>exact q
theorem aR.quiet {pins:List (Addr×Obj)}{σ: St}{H:Hp}{s:Shared}(I:aR X pins σ H s):interactive X.env=false:=by simp [interactive,I.ok.kind]
def cH6 (te:TE):TS:=fun D σ H=>te σ H fun _ H1=>D.nx σ H1
theorem cP (he:PE X e te) (hs:autoParam (swapsWith e none pos.line X.env=pure false) Rq0._auto_1):PS X (.Expr e pos) (cH6 te):=by
 intro pins s σ H D I h
 refine wpAny_Expr_any (cV (he pins s σ H _ I h) ?_) I.quiet hs;rintro v s1 ⟨x,H1,I1,r1,q1⟩;exact ⟨σ,H1,I1,q1⟩
def cP7 (te:TE):TS:=fun D σ H=>te σ H D.rt
theorem aL (he:PE X e te):PS X (.Return (some e) pos) (cP7 te):=by
 intro pins s σ H D I h
 refine wpAny_Return_some (cV (he pins s σ H _ I h) ?_);rintro v s1 ⟨x,H1,I1,r1,q1⟩;exact ⟨x,σ,H1,I1,r1,q1⟩
def cO2 (c:TT) (t u:TS):TS:=fun D σ H=>c σ H fun b H1=>if b=true then t D σ H1 else u D σ H1
theorem bK {c:Expr}{a b:List Stmt}{tc:TT}(hc:PT X c tc) (ha:vW X a t) (hb:vW X b u):PS X (.If c a b pos) (cO2 tc t u):=by
 intro pins s σ H D I h
 refine wpAny_If (cV (hc pins s σ H _ I h) ?_);rintro d s1 ⟨H1,I1,q1⟩
 cases d with
 |true=>exact ha pins s1 σ H1 D I1 q1
 |false=>exact hb pins s1 σ H1 D I1 q1
def tNever:TS:=fun _ _ _=>False
theorem oN {sts:List Stmt}:vW X sts tNever:=fun _ _ _ _ _ _ h=>h.elim
end
abbrev TG:=V->St->Hp->(St->Hp->Prop)->Prop
abbrev TGs:=List V->St->Hp->(St->Hp->Prop)->Prop
def PG (X:Cx) (target:Expr) (t:TG):Prop :=
 ∀ (pins:List (Addr×Obj)) (s:Shared) (σ: St) (H:Hp) (v:V) (u:Value) (Q:St->Hp->Prop),aR X pins σ H s->bG v u->t v σ H Q ->
  wpAny (model X.prog X.w) X.A (assign target X.env u) (fun _ s'=>∃ σ' H',aR X pins σ' H' s'/\Q σ' H') X.xe s
def PGs (X:Cx) (ts:List Expr) (t:TGs):Prop :=
 ∀ (pins:List (Addr×Obj)) (s:Shared) (σ: St) (H:Hp) (vs:List V) (us:List Value) (Q:St->Hp->Prop),aR X pins σ H s->bB vs us->t vs σ H Q ->
  wpAny (model X.prog X.w) X.A (assignInOrder ((assignEach ts X.env).map (·.2)) us) (fun _ s'=>∃ σ' H',aR X pins σ' H' s'/\Q σ' H') X.xe s
abbrev TSet:=V->V->V->Hp->(Hp->Prop)->Prop
def cN0 (X:Cx) (t:TSet):Prop :=
 ∀ (pins:List (Addr×Obj)) (s:Shared) (σ: St) (H:Hp) (o i v:V) (ov iv u:Value) (Q:Hp->Prop),aR X pins σ H s->bG o ov->bG i iv->bG v u->t o i v H Q ->
  wpAny (model X.prog X.w) X.A (setItem ov iv u) (fun _ s'=>∃ H',aR X pins σ H' s'/\Q H') X.xe s
section
variable {X:Cx}{pos:Pos}
def vL (i:Nat):TG:=fun v σ H Q=>Q (σ.set i (some v)) H
theorem bJ7 {i:Nat}{x:Str}(hN:X.N.Nodup) (hi:X.N[i]?=some x) (hx:Loc X.env.scope x) (hf:autoParam (X.fn x=true\/X.env.scope.names.lookup x=some .local) Rq2._auto_1):PG X (.Name x pos) (vL i):=by
 intro pins s σ H v u Q I r h
 exact zp (nB I hN hi hx r (fun s' I'=>⟨_,H,I',h⟩) hf)
def gNil:TGs:=fun vs σ H Q=>vs=[]/\Q σ H
def cI0 (t:TG) (u:TGs):TGs:=fun vs σ H Q=>∃ v r,vs=v :: r/\t v σ H fun σ' H'=>u r σ' H' Q
theorem iB:PGs X [] gNil:=by
 intro pins s σ H vs us Q I r h
 obtain ⟨e,h⟩:=h
 subst e
 cases r
 exact zq ⟨σ,H,I,h⟩
theorem cO {e:Expr}{es:List Expr}{t:TG}{u:TGs}(h1:PG X e t) (h2:PGs X es u)
  (hs:autoParam ((assignEach (e :: es) X.env).map (·.2)=assign e X.env :: (assignEach es X.env).map (·.2)) Rq0._auto_1):PGs X (e :: es) (cI0 t u):=by
 intro pins s σ H vs us Q I r h
 obtain ⟨v,vr,e1,h⟩:=h
 subst e1
 cases r with
 |cons r rr =>
  rw [hs]
  refine sk (cV (h1 pins s σ H _ _ _ I r h) ?_);rintro _ s1 ⟨σ1,H1,I1,q1⟩
  exact h2 pins s1 σ1 H1 _ _ Q I1 rr q1
def cH9 (K:PySem.W.Frag) (n:Nat) (t:TGs):TG:=fun v σ H Q=>∃ a xs,v= .ref a/\aT K H a xs/\xs.length=n/\t xs σ H Q
theorem mG {es:List Expr}{k:Nat}{t:TGs}{n:Nat}(hc:X.calm=true) (h:PGs X es t)
  (hn:autoParam ((assignEach es X.env).length=n) Rq0._auto_1) (hst:autoParam ((assignEach es X.env).findIdx? (·.1)=none) Rq0._auto_1):PG X (.Tuple es k pos) (cH9 X.K n t):=by
 intro pins s σ H v u Q I r hw
 obtain ⟨a,xs,e1,hq,hl,hw⟩:=hw
 subst e1
 cases r
 obtain ⟨its,rv,ht,hz⟩:=I.tuple hq
 refine assign_Tuple_tuple (I.ok.hd hc) ht (by simp [hn, <- hl,rv.length]) hst fun h' hx=>?_
 have I1:aR X pins σ H { s with heap:=h' }:=I.kept (t':=s.toks) fun b o e=>hx b o (bt (ay e)) e
 exact h pins _ σ H xs _ Q I1 (by simpa using rv) hw
def cN7 (to ti:TE) (t:TSet):TG:=fun v σ H Q=>to σ H fun o H1=>ti σ H1 fun i H2=>t o i v H2 fun H3=>Q σ H3
theorem aH2 {o i:Expr}{to ti:TE}{t:TSet}(ho:PE X o to) (hi:PE X i ti) (hs:cN0 X t)
  (ha:autoParam (∀ v,assign (.Subscript o i pos) X.env v=(do
   let ov <- holding [v] (eval o X.env)
   let iv <- holding [v,ov] (eval i X.env)
   standAt pos
   holding [v,ov,iv] (setItem ov iv v)
   release [v,ov,iv] [])) Rq3._auto_1):PG X (.Subscript o i pos) (cN7 to ti t):=by
 intro pins s σ H v u Q I r h
 rw [ha]
 refine aa (jn (cV (ho pins s σ H _ I h) ?_));rintro ov s1 ⟨x,H1,I1,r1,q1⟩
 refine aa (jn (cV (hi pins s1 σ H1 _ I1 q1) ?_));rintro iv s2 ⟨y,H2,I2,r2,q2⟩
 refine aa (tq (aa (jn (cV (hs pins s2 σ H2 x y v ov iv u _ I2 r1 r2 r q2) ?_))));rintro _ s3 ⟨H3,I3,q3⟩
 exact wpAny_release ⟨σ,H3,I3,q3⟩
def aX8 (te:TE) (g:TG):TS:=fun D σ H=>te σ H fun x H1=>g x σ H1 D.nx
theorem nR {tg e:Expr}{te:TE}{g:TG}(he:PE X e te) (hg:PG X tg g) (hs:autoParam (swapsWithSole [tg] e pos.line X.env=pure false) Rq0._auto_1) (hw:autoParam (swappedStores [tg] e X.env=pure none) Rq0._auto_1)
  (h1:autoParam ((assignEach [tg] X.env).map (·.2)=[assign tg X.env]) Rq0._auto_1):PS X (.Assign [tg] e pos) (aX8 te g):=by
 intro pins s σ H D I h
 refine wpAny_Assign_stores (cV (he pins s σ H _ I h) ?_) hs hw;rintro v s1 ⟨x,H1,I1,r1,q1⟩
 rw [h1]
 exact cV (hg pins s1 σ H1 x v _ I1 r1 q1) fun _ s2 q=>q
theorem aB9 {i:Nat}{x:Str}{e:Expr}{te:TE}{pos':Pos}(hN:X.N.Nodup) (hi:X.N[i]?=some x) (hx:Loc X.env.scope x) (he:PE X e te) (hs:autoParam (swapsWith e (some (.Name x pos')) pos.line X.env=pure false) Rq0._auto_1) (hf:autoParam (X.fn x=true\/X.env.scope.names.lookup x=some .local) Rq2._auto_1) :
  PS X (.Assign [.Name x pos'] e pos) (aX8 te (vL i)):=by
 intro pins s σ H D I h
 refine wpAny_Assign_Name (cV (he pins s σ H _ I h) ?_) hs;rintro v s1 ⟨y,H1,I1,r1,q1⟩
 exact nB I1 hN hi hx r1 (fun s2 I2=>⟨_,H1,I2,q1⟩) hf
def cQ7 (i j:Nat) (ta:TA):TS:=fun D σ H=>ta σ H fun vs H1=>∃ v w,vs=[v,w]/\D.nx ((σ.set i (some v)).set j (some w)) H1
theorem bV2 {i j:Nat}{x y:Str}{a b:Expr}{ta:TA}{px py pt:Pos}{kt k2 pt2} (hc:X.calm=true) (hN:X.N.Nodup) (hi:X.N[i]?=some x) (hj:X.N[j]?=some y) (hij:i≠j)
  (hx:X.env.scope.names.lookup x=some .local) (hy:X.env.scope.names.lookup y=some .local) (ha:PA X [a,b] ta)
  (hw:swappedStores [.Tuple [.Name x px,.Name y py] kt pt] (.Tuple [a,b] k2 pt2) X.env=pure (some [x,y]))
  (hs:autoParam (swapsWithSole [.Tuple [.Name x px,.Name y py] kt pt] (.Tuple [a,b] k2 pt2) pos.line X.env=pure false) Rq0._auto_1) :
  PS X (.Assign [.Tuple [.Name x px,.Name y py] kt pt] (.Tuple [a,b] k2 pt2) pos) (cQ7 i j ta):=by
 intro pins s σ H D I h
 rw [exec_Assign_arm]
 refine aa (tq ?_)
 rw [hs]
 refine aa (am ?_)
 rw [aj (by decide)]
 refine aa (Tuple_ (cV (ha _ pins s σ H _ I h) ?_));rintro us s1 ⟨vs,H1,I1,r1,q1⟩
 obtain ⟨v,w,e1,q1⟩:=q1
 subst e1
 obtain ⟨u1,u2,rfl,rv,rw'⟩:∃ u1 u2,us=[u1,u2]/\bG v u1/\bG w u2:=by
  cases r1 with
  |cons p q =>
   cases q with
   |cons p' q' =>
    cases q'
    exact ⟨_,_,rfl,p,p'⟩
 refine ff ?_ (by show 2<=sizeLine;decide)
 have I2:aR X pins σ H1 { s1 with heap:=s1.heap.push { cls:= .type "tuple",data:= .seq [u1,u2].toArray } }:=I1.kept (t':=s1.toks) fun b o e=>af _ e
 rw [hw]
 refine aa (am ?_)
 show wpAny (model X.prog X.w) X.A (do rule "assign.swapped-stores";let items <- unpackItems (.ref s1.heap.objs.size) 2 none;assignInOrder [fun v=>bindName X.env y v,fun v=>bindName X.env x v] items.reverse;pure Flow.next) _ _ _
 refine aa (kc (aa (unpackItems_tuple (items:= #[u1,u2]) (I.ok.hd hc) (IsTup.new s1.heap _) fun h' hx'=>?_)))
 have I3:=I2.kept (h':=h') (t':=s1.toks) fun b o e=>hx' b o (bt (ay e)) e
 show wpAny _ _ (assignInOrder [fun v=>bindName X.env y v,fun v=>bindName X.env x v] [u2,u1] >>= fun _=>pure Flow.next) _ _ _
 refine aa (sk (wpAny_bindName (nB I3 hN hj (.inl hy) rw' (fun s2 I4=>?_) (.inr hy))))
 refine sk (wpAny_bindName (nB I4 hN hi (.inl hx) rv (fun s3 I5=>zq (am ?_)) (.inr hx)))
 rw [List.set_comm _ _ (Ne.symm hij)] at I5
 exact ⟨_,H1,I5,q1⟩
def cA7 (c:TT) (tb:TS):TS:=fun D σ H=>∃ W:Nat->St->Hp->Prop,(∃ m,W m σ H)/\∀ m σ H,W m σ H ->
 c σ H fun b H1=>if b=true then ∃ N:St->Hp->Prop,(∀ σ' H',N σ' H'->∃ m',m' < m/\W m' σ' H')/\tb { D with nx:=N,ct:=N,bk:=D.nx } σ H1 else D.nx σ H1
theorem fY {c:Expr}{body:List Stmt}{tc:TT}{tb:TS}(hp:PassesOwn (model X.prog X.w) X.A X.env X.xe) (hc:PT X c tc) (hb:vW X body tb):PS X (.While c body [] pos) (cA7 tc tb):=by
 intro pins s σ H D I h
 obtain ⟨W,⟨m0,w0⟩,turn⟩:=h
 refine wpAny_While (codeAny_whileLoop (fun n s'=>∃ σ' H',aR X pins σ' H' s'/\W n σ' H') ?_ m0 ⟨σ,H,I,w0⟩)
 rintro n s1 ⟨σ1,H1,I1,w1⟩
 refine jh hp (cV (hc pins s1 σ1 H1 _ I1 (turn n σ1 H1 w1)) ?_);rintro b s2 ⟨H2,I2,q2⟩
 cases b with
 |true =>
  obtain ⟨N,hN,q2⟩:=q2
  rw [ao rfl]
  refine jh hp (cV (hb pins s2 σ1 H2 _ I2 q2) fun f s3 q3=>?_)
  cases f with
  |next =>
   obtain ⟨σ3,H3,I3,n3⟩:=q3
   obtain ⟨m',hm,w3⟩:=hN σ3 H3 n3
   exact ⟨m',hm,σ3,H3,I3,w3⟩
  |cont =>
   obtain ⟨σ3,H3,I3,n3⟩:=q3
   obtain ⟨m',hm,w3⟩:=hN σ3 H3 n3
   exact ⟨m',hm,σ3,H3,I3,w3⟩
  |brk=>exact q3
  |ret v=>exact q3
 |false =>
  rw [aj bo]
  exact qe ⟨σ1,H2,I2,q2⟩
end
structure It where
 go:Nat->Hp->Prop
 yld:Nat->Hp->V->Hp->Prop
 stop:Nat->Hp->Prop
def mO (X:Cx) (pins:List (Addr×Obj)) (H:Hp) (b:Addr):Prop :=
 H b=none/\b≠X.env.locals/\b∉X.fs/\(b∈X.ex\/X.s₀.heap.objs.size<=b)/\(∀ x c,X.env.cells.lookup x=some c->c≠b)/\∀ p∈X.pn++pins,p.1≠b
theorem aR.fpOk {X:Cx}{pins:List (Addr×Obj)}{σ: St}{H H':Hp}{s:Shared}{b:Addr}(I:aR X pins σ H s) (hb:s.heap.objs.size<=b) (hn:H' b=none):mO X pins H' b:=by
 refine ⟨hn,jw (bm I.lt hb),I.nofs hb,.inr (bv I.sz hb),fun x c e z=>?_,fun p hp z=>?_⟩
 ·obtain ⟨v,q⟩:=I.cell x c e
  exact absurd (bm q.lt (by rw [z];exact hb)) (gb _)
 ·exact absurd (bm (ay (I.pin p hp).1) (by rw [z];exact hb)) (gb _)
structure pO (P:Program) (w:World) (K:PySem.W.Frag) (tg:Expr) (J:It) (fp:List Addr) (it:Addr) (tn:Nat->Heap->Prop):Prop where
 mem:it∈fp
 obj:∀ i h,tn i h->∀ b∈fp,∃ o,h.get? b=some o/\∀ v,o.data≠ .cell v
 keep:∀ i h h',tn i h->(∀ b∈fp,∀ o,h.get? b=some o->h'.get? b=some o)->tn i h'
 item:∀ (X:Cx),X.prog=P->X.w=w->X.K=K->X.calm=true->∀ (i:Nat) (pins:List (Addr×Obj)) (s:Shared) (σ: St) (H:Hp) (E:Value->Shared->Prop),aR X pins σ H s->(∀ b∈fp,mO X pins H b)->tn i s.heap->J.go i H ->
  wpAny (model P w) X.A (pyNext (.ref it)) (fun r s1=>∃ u,r=some u /\
   wpAny (model P w) X.A (letOwnedTupleGo tg (.ref it) u) (fun _ s2=>∃ x H',aR X pins σ H' s2/\bG x u/\J.yld i H x H'/\tn (i+1) s2.heap/\∀ b∈fp,H' b=none) E s1) E s
 done:∀ (X:Cx),X.prog=P->X.w=w->X.K=K->X.calm=true->∀ (i:Nat) (pins:List (Addr×Obj)) (s:Shared) (σ: St) (H:Hp) (E:Value->Shared->Prop),aR X pins σ H s->(∀ b∈fp,mO X pins H b)->tn i s.heap->J.stop i H ->
  wpAny (model P w) X.A (pyNext (.ref it)) (fun r s1=>r=none/\aR X pins σ H s1) E s
 self:∀ (A:Around) (i:Nat) (s:Shared) (Q:Value->Shared->Prop) (E:Value->Shared->Prop),tn i s.heap->Q (.ref it) s->wpAny (model P w) A (pyIter (.ref it)) Q E s
abbrev TI:=St->Hp->(It->Hp->Prop)->Prop
def PIE (X:Cx) (pins:List (Addr×Obj)) (σ: St) (tg:Expr) (R:It->Hp->Prop) (itv:Value) (s2:Shared):Prop :=
 ∃ (it:Addr) (fp:List Addr) (tn:Nat->Heap->Prop) (J:It) (H':Hp),itv= .ref it/\aR X pins σ H' s2/\pO X.prog X.w X.K tg J fp it tn/\tn 0 s2.heap/\(∀ b∈fp,mO X pins H' b)/\R J H'
def PI (X:Cx) (tg iter:Expr) (wi:TI):Prop :=
 ∀ (pins:List (Addr×Obj)) (s:Shared) (σ: St) (H:Hp) (R:It->Hp->Prop),aR X pins σ H s->wi σ H R ->
  wpAny (model X.prog X.w) X.A (eval iter X.env) (fun v s1=>wpAny (model X.prog X.w) X.A (pyIter v) (PIE X pins σ tg R) X.xe s1) X.xe s
theorem go_of {M : Model}{A : Around}{E : Value -> Shared -> Prop}{s : Shared}{tg : Expr}{it : Addr}{u : Value}{o : Obj}{n : String}{vs : Array Value}{Q : Unit -> Shared -> Prop}(ho : s.heap.get? it = some o) (hc : o.cls = .type n) (hd : o.data = .fields vs)
    (hn : ["enumerate", "zip", "dict_itemiterator", "dict_reverseitemiterator", "odict_iterator", "itertools.zip_longest", "itertools.pairwise"].contains n = false) (hQ : Q () s) : wpAny M A (letOwnedTupleGo tg (.ref it) u) Q E s := by
  unfold letOwnedTupleGo
  cases tg <;> first
    | exact am hQ
    | (cases u <;> first
        | exact am hQ
        | (refine aa (wpAny_load ho ?_)
           rw [hc, hd]
           show wpAny M A (if (["enumerate", "zip", "dict_itemiterator", "dict_reverseitemiterator", "odict_iterator", "itertools.zip_longest", "itertools.pairwise"].contains n && vs[0]? == some (rawInt _)) = true then _ else _) Q E s
           rw [aj (by intro h; rw [hn, Bool.false_and] at h; cases h)]
           exact am hQ))
def Itl (K:PySem.W.Frag) (a:Addr):It :=
 ⟨fun i H=>∃ xs x,bM K H a xs/\xs[i]?=some x,fun i H x H'=>H'=H/\∀ xs,bM K H a xs->xs[i]?=some x,fun i H=>∃ xs,bM K H a xs/\xs.length<=i⟩
def Itt (K:PySem.W.Frag) (a:Addr):It :=
 ⟨fun i H=>∃ xs x,aT K H a xs/\xs[i]?=some x,fun i H x H'=>H'=H/\∀ xs,aT K H a xs->xs[i]?=some x,fun i H=>∃ xs,aT K H a xs/\xs.length<=i⟩
def Itr (lo:Int) (n:Nat):It:=⟨fun i _=>i < n,fun i H x H'=>H'=H/\x= .int (lo+i),fun i _=>n<=i⟩
theorem aO7 {P:Program}{w:World}{K:PySem.W.Frag}{tg:Expr}(a it:Addr):pO P w K tg (Itl K a) [it] it (fun i h=>h.IsListIter it a i) where
 mem:=by simp
 obj:=fun i h st b hb=>by
  have e:b=it:=by simpa using hb
  subst e
  obtain ⟨o,e,c,d⟩:=st
  exact ⟨o,e,fun v z=>by rw [d] at z;cases z⟩
 keep:=fun i h h' st k=>st.at fun o e=>k it (by simp) o e
 item:=by
  intro X hP hw hK hc i pins s σ H E I hf st hg
  subst hP hw hK
  obtain ⟨xs,x,hq,hx⟩:=hg
  obtain ⟨its,rv,p,hz⟩:=I.list hq
  obtain ⟨u,hu,ru⟩:=rv.get hx
  obtain ⟨f0,f1,f2,f3,f4,f5⟩:=hf it (by simp)
  refine wpAny_pyNext_list_item st p.isList (x:=u) (by simpa using hu) fun h' st' sb=>?_
  have I1:aR X pins σ H { s with heap:=h' }:=I.turned (t':=s.toks) (fun b o hb e=>(sb.2 b hb).trans e) f0 f1 f3 f4 f5
  obtain ⟨o,e,c,d⟩:=id st'
  exact ⟨u,rfl,go_of (s:={ s with heap:=h' }) e c d (by decide) ⟨x,H,I1,ru,⟨rfl,fun ys hy=>by rw [I.list_inj hy hq];exact hx⟩,st',fun b hb=>(hf b hb).1⟩⟩
 done:=by
  intro X hP hw hK hc i pins s σ H E I hf st hg
  subst hP hw hK
  obtain ⟨xs,hq,hx⟩:=hg
  obtain ⟨its,rv,p,hz⟩:=I.list hq
  obtain ⟨f0,f1,f2,f3,f4,f5⟩:=hf it (by simp)
  have hl:=rv.length
  exact wpAny_pyNext_list_end (I.ok.hd hc) st p.isList (by simp;omega) fun h' eb=>⟨rfl,I.turned (t':=s.toks) (fun b o hb e=>eb b o hb e) f0 f1 f3 f4 f5⟩
 self:=fun _ _ _ _ _ st h=>wpAny_pyIter_listiter st h
theorem aF7 {P:Program}{w:World}{K:PySem.W.Frag}{tg:Expr}(a it:Addr):pO P w K tg (Itt K a) [it] it (fun i h=>h.IsTupleIter it a i) where
 mem:=by simp
 obj:=fun i h st b hb=>by
  have e:b=it:=by simpa using hb
  subst e
  obtain ⟨o,e,c,d⟩:=st
  exact ⟨o,e,fun v z=>by rw [d] at z;cases z⟩
 keep:=fun i h h' st k=>st.at fun o e=>k it (by simp) o e
 item:=by
  intro X hP hw hK hc i pins s σ H E I hf st hg
  subst hP hw hK
  obtain ⟨xs,x,hq,hx⟩:=hg
  obtain ⟨its,rv,p,hz⟩:=I.tuple hq
  obtain ⟨u,hu,ru⟩:=rv.get hx
  obtain ⟨f0,f1,f2,f3,f4,f5⟩:=hf it (by simp)
  refine wpAny_pyNext_tuple_item st (show s.heap.IsTuple a its.toArray from p) (x:=u) (by simpa using hu) fun h' st' sb=>?_
  have I1:aR X pins σ H { s with heap:=h' }:=I.turned (t':=s.toks) (fun b o hb e=>(sb.2 b hb).trans e) f0 f1 f3 f4 f5
  obtain ⟨o,e,c,d⟩:=id st'
  exact ⟨u,rfl,go_of (s:={ s with heap:=h' }) e c d (by decide) ⟨x,H,I1,ru,⟨rfl,fun ys hy=>by rw [I.tuple_inj hy hq];exact hx⟩,st',fun b hb=>(hf b hb).1⟩⟩
 done:=by
  intro X hP hw hK hc i pins s σ H E I hf st hg
  subst hP hw hK
  obtain ⟨xs,hq,hx⟩:=hg
  obtain ⟨its,rv,p,hz⟩:=I.tuple hq
  obtain ⟨f0,f1,f2,f3,f4,f5⟩:=hf it (by simp)
  have hl:=rv.length
  exact wpAny_pyNext_tuple_end (I.ok.hd hc) st (show s.heap.IsTuple a its.toArray from p) (by simp;omega) fun h' eb=>⟨rfl,I.turned (t':=s.toks) (fun b o hb e=>eb b o hb e) f0 f1 f3 f4 f5⟩
 self:=fun _ _ _ _ _ st h=>wpAny_pyIter_tupleiter st h
theorem aG1 {P:Program}{w:World}{K:PySem.W.Frag}{tg:Expr}(it:Addr) (lo:Int) (n:Nat):pO P w K tg (Itr lo n) [it] it (fun i h=>IsRangeIter h it (lo+(i:Nat) * 1) ((n:Int) - (i:Nat)) 1) where
 mem:=by simp
 obj:=fun i h st b hb=>by
  have e:b=it:=by simpa using hb
  subst e
  exact ⟨_,st,fun v z=>by
   have z':Data.fields _=Data.cell v:=z
   cases z'⟩
 keep:=fun i h h' st k=>k it (by simp) _ st
 item:=by
  intro X hP hw hK hc i pins s σ H E I hf st hg
  subst hP hw hK
  obtain ⟨f0,f1,f2,f3,f4,f5⟩:=hf it (by simp)
  have W:=Walks.range (prog:=X.prog) (w:=X.w) (I.ok.hd hc) it lo 1 n
  refine W.item i s _ _ hg st fun v h' tk hv st' kk=>?_
  obtain ⟨t,rfl⟩:=hv
  have I1:aR X pins σ H { s with heap:=h',toks:=tk }:=I.turned (fun b o hb e=>kk b o (by simpa using hb) e) f0 f1 f3 f4 f5
  refine ⟨_,rfl,go_of (s:={ s with heap:=h',toks:=tk }) (n:="range_iterator") st' rfl rfl (by decide) ⟨.int (lo+i),H,I1,⟨t,?_⟩,⟨rfl,rfl⟩,st',fun b hb=>(hf b hb).1⟩⟩
  rw [rl]
 done:=by
  intro X hP hw hK hc i pins s σ H E I hf st hg
  subst hP hw hK
  obtain ⟨f0,f1,f2,f3,f4,f5⟩:=hf it (by simp)
  exact wpAny_pyNext_range_end (I.ok.hd hc) st (by have:n<=i:=hg;omega) fun h' eb=>⟨rfl,I.turned (t':=s.toks) (fun b o hb e=>eb b o hb e) f0 f1 f3 f4 f5⟩
 self:=fun _ _ _ _ _ st h=>wpAny_pyIter_rangeiter st h
section
variable {X:Cx}{tg:Expr}
def cN6 (K:PySem.W.Frag) (tl:TE):TI:=fun σ H R=>tl σ H fun x H1=>∃ a,x= .ref a/\(∃ xs,bM K H1 a xs)/\R (Itl K a) H1
def cR8 (K:PySem.W.Frag) (tl:TE):TI:=fun σ H R=>tl σ H fun x H1=>∃ a,x= .ref a/\(∃ xs,aT K H1 a xs)/\R (Itt K a) H1
theorem lA {l:Expr}{tl:TE}(hl:PE X l tl):PI X tg l (cN6 X.K tl):=by
 intro pins s σ H R I h
 refine cV (hl pins s σ H _ I h) ?_;rintro v s1 ⟨x,H1,I1,r1,q1⟩
 obtain ⟨a,e,⟨xs,hq⟩,q⟩:=q1
 subst e
 cases r1
 obtain ⟨its,rv,p,hz⟩:=I1.list hq
 refine ue p.isList ?_
 refine ⟨s1.heap.objs.size,[s1.heap.objs.size],_,_,H1,rfl,I1.kept (t':=s1.toks) fun b o e=>af _ e,aO7 a _,⟨_,az _ rfl,rfl,rfl⟩,fun b hb=>?_,q⟩
 have e:b=s1.heap.objs.size:=by simpa using hb
 subst e
 exact I1.fpOk (ai _) (I1.hok.fresh (ai _))
theorem lQ {l:Expr}{tl:TE}(hl:PE X l tl):PI X tg l (cR8 X.K tl):=by
 intro pins s σ H R I h
 refine cV (hl pins s σ H _ I h) ?_;rintro v s1 ⟨x,H1,I1,r1,q1⟩
 obtain ⟨a,e,⟨xs,hq⟩,q⟩:=q1
 subst e
 cases r1
 obtain ⟨its,rv,p,hz⟩:=I1.tuple hq
 refine jd (show s1.heap.IsTuple a its.toArray from p) ?_
 refine ⟨s1.heap.objs.size,[s1.heap.objs.size],_,_,H1,rfl,I1.kept (t':=s1.toks) fun b o e=>af _ e,aF7 a _,⟨_,az _ rfl,rfl,rfl⟩,fun b hb=>?_,q⟩
 have e:b=s1.heap.objs.size:=by simpa using hb
 subst e
 exact I1.fpOk (ai _) (I1.hok.fresh (ai _))
theorem yP {pins:List (Addr×Obj)}{σ: St}{H:Hp}{s:Shared}{R:It->Hp->Prop}{E:Value->Shared->Prop}{lo hi:Int}{t u v:Tok}{tk:Nat}(I:aR X pins σ H s) (h1: -(2 ^ 62)<=lo) (h2:lo < 2 ^ 62) (h3: -(2 ^ 62)<=hi) (h4:hi < 2 ^ 62)
  (q:R (Itr lo (hi - lo).toNat) H):wpAny (model X.prog X.w) X.A (pyIter (.ref s.heap.objs.size)) (PIE X pins σ tg R) E { s with heap:=s.heap.push { cls:= .type "range",data:= .fields #[.int lo t,.int hi u,.int 1 v] },toks:=tk }:=by
 refine wpAny_pyIter_range (IsRange.new ..) (small_one h1 h2 h3 h4) ?_
 have I1:aR X pins σ H { s with heap:=s.heap.push { cls:= .type "range",data:= .fields #[.int lo t,.int hi u,.int 1 v] },toks:=tk }:=I.kept fun b o e=>af _ e
 refine ⟨(s.heap.push { cls:= .type "range",data:= .fields #[.int lo t,.int hi u,.int 1 v] }).objs.size,[(s.heap.push { cls:= .type "range",data:= .fields #[.int lo t,.int hi u,.int 1 v] }).objs.size],_,_,H,rfl,
  I1.kept (t':=tk) fun b o e=>af _ e,aG1 _ lo (hi - lo).toNat,?_,fun b hb=>?_,q⟩
 ·have e1:lo+((0:Nat):Int) * 1=lo:=by simp
  have e2:(((hi - lo).toNat:Nat):Int) - ((0:Nat):Int)=Builtin.Range.rangeSize lo hi 1:=by rw [rangeSize_one];split <;> omega
  show IsRangeIter _ _ (lo+((0:Nat):Int) * 1) ((((hi - lo).toNat:Nat):Int) - ((0:Nat):Int)) 1
  rw [e1,e2]
  exact az _ rfl
 ·have e:b=(s.heap.push { cls:= .type "range",data:= .fields #[.int lo t,.int hi u,.int 1 v] }).objs.size:=by simpa using hb
  subst e
  exact I1.fpOk (ai _) (I1.hok.fresh (ai _))
def cN3 (ta:TA):TI:=fun σ H R=>ta σ H fun vs H1=>∃ j:Int,vs=[.int j]/\ -(2 ^ 62)<=j/\j < 2 ^ 62/\R (Itr 0 j.toNat) H1
def cK1 (ta:TA):TI:=fun σ H R=>ta σ H fun vs H1=>∃ i j:Int,vs=[.int i,.int j]/\(-(2 ^ 62)<=i/\i < 2 ^ 62/\ -(2 ^ 62)<=j/\j < 2 ^ 62)/\R (Itr i (j - i).toNat) H1
theorem dL {a:Expr}{ta:TA}{p pos:Pos}(hg:Gl X "range") (hm:X.mg "range"=none) (ha:PA X [a] ta) (hs:autoParam (starEach [a] X.env=[(false,eval a X.env)]) Rq0._auto_1):PI X tg (.Call (.Name "range" p) [a] [] pos) (cN3 ta):=by
 intro pins s σ H R I h
 refine Call_ (jM I hg hm boot_range (fi (cV (ha pos pins s σ H _ I h) ?_) hs rfl));rintro us s1 ⟨vs,H1,I1,r1,q1⟩
 obtain ⟨j,e,q1,q2,q⟩:=q1
 subst e
 cases r1 with
 |cons r rr =>
  cases rr
  obtain ⟨t,rfl⟩:=r
  exact call_range_1 (yP I1 (by omega) (by omega) q1 q2 (by simpa using q))
theorem oR {a b:Expr}{ta:TA}{p pos:Pos}(hg:Gl X "range") (hm:X.mg "range"=none) (ha:PA X [a,b] ta) (hs:autoParam (starEach [a,b] X.env=[(false,eval a X.env),(false,eval b X.env)]) Rq0._auto_1) (hs2:autoParam (starEach [b] X.env=[(false,eval b X.env)]) Rq0._auto_1) :
  PI X tg (.Call (.Name "range" p) [a,b] [] pos) (cK1 ta):=by
 intro pins s σ H R I h
 refine Call_ (jM I hg hm boot_range (fi (cV (ha pos pins s σ H _ I h) fun us s1 ⟨vs,H1,I1,r1,q1⟩=>?_) (by rw [hs,hs2]) (by rw [hs2];rfl)))
 obtain ⟨i,j,e,⟨q1,q2,q3,q4⟩,q⟩:=q1
 subst e
 cases r1 with
 |cons r rr =>
  cases rr with
  |cons r' rr =>
   cases rr
   obtain ⟨t,rfl⟩:=r
   obtain ⟨t',rfl⟩:=r'
   exact call_range_2 (yP I1 q1 q2 q3 q4 q)
def cI2 (wi:TI) (g:TG) (tb:TS):TS:=fun D σ H=>wi σ H fun J H1=>∃ W:Nat->Nat->St->Hp->Prop,(∃ m,W 0 m σ H1)/\∀ i m σ H,W i m σ H ->
 (J.stop i H/\D.nx σ H)\/(J.go i H/\∃ N:St->Hp->Prop,(∀ σ' H',N σ' H'->∃ m',m' < m/\W (i+1) m' σ' H')/\∀ x H',J.yld i H x H'->g x σ H' fun σ2 H2=>tb { D with nx:=N,ct:=N,bk:=D.nx } σ2 H2)
def gP (fp:List Addr) (h:Heap):List (Addr×Obj):=fp.filterMap fun b=>(h.get? b).map fun o=>(b,o)
theorem gO {fp:List Addr}{h:Heap}{b:Addr}{o:Obj}(hb:b∈fp) (e:h.get? b=some o):(b,o)∈gP fp h:=sn.mpr ⟨b,hb,by rw [e];rfl⟩
theorem tO {fp:List Addr}{h:Heap}{p:Addr×Obj}(hp:p∈gP fp h):p.1∈fp/\h.get? p.1=some p.2:=by
 obtain ⟨b,hb,e⟩:=sn.mp hp
 cases q:h.get? b with
 |none=>rw [q] at e;cases e
 |some o =>
  rw [q] at e
  have e':(b,o)=p:=cx e
  subst e'
  exact ⟨hb,q⟩
theorem aR.pinned {pins:List (Addr×Obj)}{σ: St}{H:Hp}{s:Shared}{fp:List Addr}(I:aR X pins σ H s) (hf:∀ b∈fp,mO X pins H b) (ho:∀ b∈fp,∃ o,s.heap.get? b=some o/\∀ v,o.data≠ .cell v):aR X (pins++gP fp s.heap) σ H s :=
 I.pins_of fun p hp=>(bf.mp hp).elim (fun z=>I.pin p (bh _ z)) fun z=>by
  obtain ⟨hb,e⟩:=tO z
  obtain ⟨f0,f1,f2,_⟩:=hf p.1 hb
  obtain ⟨o,e',d⟩:=ho p.1 hb
  rw [e] at e';cases e'
  exact ⟨e,f0,f1,f2,d⟩
theorem aR.unpinned {pins pl:List (Addr×Obj)}{σ: St}{H:Hp}{s:Shared}(I:aR X (pins++pl) σ H s):aR X pins σ H s:=I.pins_of fun p hp=>I.pin p (bh _ (dj _ hp))
theorem cD5 {iter:Expr}{body:List Stmt}{wi:TI}{g:TG}{tb:TS}{pos:Pos}(hp:PassesOwn (model X.prog X.w) X.A X.env X.xe) (hc:X.calm=true) (hi:PI X tg iter wi) (hg:PG X tg g) (hb:vW X body tb)
  (hs:autoParam (∀ x,foldedSetIterable iter X.env x=pure x) Rq3._auto_1):PS X (.For tg iter body [] pos) (cI2 wi g tb):=by
 intro pins s σ H D I h
 refine wpAny_For (cV (hi pins s σ H _ I h) fun v s1 h1=>cV h1 fun itv s2 h2=>?_) hs
 obtain ⟨it,fp,tn,J,H2,e,I2,T,st2,f2,W,⟨m0,w0⟩,turn⟩:=h2
 subst e
 have stat:∀ {H':Hp},(∀ b∈fp,H' b=none)->∀ b∈fp,mO X pins H' b:=fun hn b hb=>⟨hn b hb,(f2 b hb).2⟩
 refine codeAny_forLoop_any (fun n s'=>∃ i σ' H',aR X pins σ' H' s'/\tn i s'.heap/\(∀ b∈fp,H' b=none)/\W i n σ' H') ?_ m0 ⟨0,σ,H2,I2,st2,fun b hb=>(f2 b hb).1,w0⟩
 rintro n s3 ⟨i,σ3,H3,I3,st3,fr3,w3⟩
 rcases turn i n σ3 H3 w3 with ⟨stop,qn⟩ | ⟨go,N,hN,step⟩
 ·refine jh hp (cV (T.done X rfl rfl rfl hc i pins s3 σ3 H3 X.xe I3 (stat fr3) st3 stop) ?_);rintro r s4 ⟨hr,I4⟩
  subst hr
  exact qe ⟨σ3,H3,I4,qn⟩
 ·refine jh hp (cV (T.item X rfl rfl rfl hc i pins s3 σ3 H3 X.xe I3 (stat fr3) st3 go) ?_);rintro r s4 ⟨u,hr,h4⟩
  subst hr
  refine jh hp (cV h4 ?_);rintro _ s5 ⟨x,H5,I5,r5,y5,st5,fr5⟩
  have I5':=I5.pinned (stat fr5) (T.obj _ _ st5)
  refine jh hp (cV (hg _ s5 σ3 H5 x u _ I5' r5 (step x H5 y5)) ?_);rintro _ s6 ⟨σ6,H6,I6,q6⟩
  refine jh hp (cV (hb _ s6 σ6 H6 _ I6 q6) fun f s7 q7=>?_)
  have again:∀ {σ7:St}{H7:Hp},aR X (pins++gP fp s5.heap) σ7 H7 s7->N σ7 H7->∃ m,m < n/\∃ i σ' H',aR X pins σ' H' s7/\tn i s7.heap/\(∀ b∈fp,H' b=none)/\W i m σ' H':=fun {σ7 H7} I7 n7=>by
   obtain ⟨m',hm,w7⟩:=hN σ7 H7 n7
   refine ⟨m',hm,i+1,σ7,H7,I7.unpinned,T.keep _ _ _ st5 fun b hb o e=>(I7.pin (b,o) (bh _ (bh _ (gO hb e)))).1,fun b hb=>?_,w7⟩
   obtain ⟨o,e,d⟩:=T.obj _ _ st5 b hb
   exact (I7.pin (b,o) (bh _ (bh _ (gO hb e)))).2.1
  cases f with
  |next=>obtain ⟨σ7,H7,I7,n7⟩:=q7;exact again I7 n7
  |cont=>obtain ⟨σ7,H7,I7,n7⟩:=q7;exact again I7 n7
  |brk=>obtain ⟨σ7,H7,I7,q7⟩:=q7;exact ⟨σ7,H7,I7.unpinned,q7⟩
  |ret v=>obtain ⟨x7,σ7,H7,I7,r7,q7⟩:=q7;exact ⟨x7,σ7,H7,I7.unpinned,r7,q7⟩
end
theorem sK {K:PySem.W.Frag}{a:Addr}{xs:List V}{g:TG}{tb:TS}{D:fH}{σ: St}{H:Hp}(Pv:Nat->St->Hp->Prop) (h0:Pv 0 σ H) (hl:∀ i σ H,i<=xs.length->Pv i σ H->bM K H a xs)
  (hs:∀ i x σ H,xs[i]?=some x->Pv i σ H->g x σ H fun σ2 H2=>tb { D with nx:=Pv (i+1),ct:=Pv (i+1),bk:=D.nx } σ2 H2) (hd:∀ σ H,Pv xs.length σ H->D.nx σ H) :
  ∃ W:Nat->Nat->St->Hp->Prop,(∃ m,W 0 m σ H)/\∀ i m σ H,W i m σ H ->
   ((Itl K a).stop i H/\D.nx σ H)\/((Itl K a).go i H/\∃ N:St->Hp->Prop,(∀ σ' H',N σ' H'->∃ m',m' < m/\W (i+1) m' σ' H')/\∀ x H',(Itl K a).yld i H x H'->g x σ H' fun σ2 H2=>tb { D with nx:=N,ct:=N,bk:=D.nx } σ2 H2):=by
 refine ⟨fun i m σ H=>m=xs.length - i/\i<=xs.length/\Pv i σ H,⟨xs.length,by simp,bj _,h0⟩,?_⟩
 rintro i m σ H ⟨rfl,hi,p⟩
 have q:=hl i σ H hi p
 by_cases hlt:i < xs.length
 ·refine .inr ⟨⟨xs,xs[i],q,by simp [hlt]⟩,Pv (i+1),fun σ' H' p'=>⟨xs.length - (i+1),fj hlt (dq i),rfl,hlt,p'⟩,fun x H' y=>?_⟩
  obtain ⟨e,y⟩:=y
  subst e
  exact hs i x σ _ (y xs q) p
 ·have e:i=xs.length:=by omega
  subst e
  exact .inl ⟨⟨xs,q,ai _⟩,hd σ H p⟩
theorem xA {K:PySem.W.Frag}{a:Addr}{xs:List V}{g:TG}{tb:TS}{D:fH}{σ: St}{H:Hp}(Pv:Nat->St->Hp->Prop) (h0:Pv 0 σ H) (hl:∀ i σ H,i<=xs.length->Pv i σ H->aT K H a xs)
  (hs:∀ i x σ H,xs[i]?=some x->Pv i σ H->g x σ H fun σ2 H2=>tb { D with nx:=Pv (i+1),ct:=Pv (i+1),bk:=D.nx } σ2 H2) (hd:∀ σ H,Pv xs.length σ H->D.nx σ H) :
  ∃ W:Nat->Nat->St->Hp->Prop,(∃ m,W 0 m σ H)/\∀ i m σ H,W i m σ H ->
   ((Itt K a).stop i H/\D.nx σ H)\/((Itt K a).go i H/\∃ N:St->Hp->Prop,(∀ σ' H',N σ' H'->∃ m',m' < m/\W (i+1) m' σ' H')/\∀ x H',(Itt K a).yld i H x H'->g x σ H' fun σ2 H2=>tb { D with nx:=N,ct:=N,bk:=D.nx } σ2 H2):=by
 refine ⟨fun i m σ H=>m=xs.length - i/\i<=xs.length/\Pv i σ H,⟨xs.length,by simp,bj _,h0⟩,?_⟩
 rintro i m σ H ⟨rfl,hi,p⟩
 have q:=hl i σ H hi p
 by_cases hlt:i < xs.length
 ·refine .inr ⟨⟨xs,xs[i],q,by simp [hlt]⟩,Pv (i+1),fun σ' H' p'=>⟨xs.length - (i+1),fj hlt (dq i),rfl,hlt,p'⟩,fun x H' y=>?_⟩
  obtain ⟨e,y⟩:=y
  subst e
  exact hs i x σ _ (y xs q) p
 ·have e:i=xs.length:=by omega
  subst e
  exact .inl ⟨⟨xs,q,ai _⟩,hd σ H p⟩
theorem uB {lo:Int}{n:Nat}{g:TG}{tb:TS}{D:fH}{σ: St}{H:Hp}(Pv:Nat->St->Hp->Prop) (h0:Pv 0 σ H)
  (hs:∀ i σ H,i < n->Pv i σ H->g (.int (lo+i)) σ H fun σ2 H2=>tb { D with nx:=Pv (i+1),ct:=Pv (i+1),bk:=D.nx } σ2 H2) (hd:∀ σ H,Pv n σ H->D.nx σ H) :
  ∃ W:Nat->Nat->St->Hp->Prop,(∃ m,W 0 m σ H)/\∀ i m σ H,W i m σ H ->
   ((Itr lo n).stop i H/\D.nx σ H)\/((Itr lo n).go i H/\∃ N:St->Hp->Prop,(∀ σ' H',N σ' H'->∃ m',m' < m/\W (i+1) m' σ' H')/\∀ x H',(Itr lo n).yld i H x H'->g x σ H' fun σ2 H2=>tb { D with nx:=N,ct:=N,bk:=D.nx } σ2 H2):=by
 refine ⟨fun i m σ H=>m=n - i/\i<=n/\Pv i σ H,⟨n,by simp,bj _,h0⟩,?_⟩
 rintro i m σ H ⟨rfl,hi,p⟩
 by_cases hlt:i < n
 ·refine .inr ⟨hlt,Pv (i+1),fun σ' H' p'=>⟨n - (i+1),fj hlt (dq i),rfl,hlt,p'⟩,fun x H' y=>?_⟩
  obtain ⟨e,y⟩:=y
  subst e y
  exact hs i σ _ hlt p
 ·have e:i=n:=by omega
  subst e
  exact .inl ⟨ai _,hd σ H p⟩
abbrev R2:=V->V->Hp->VK->Prop
def kK (X:Cx) (f:Value->Value->Sem Value) (r:R2):Prop :=
 ∀ (pins:List (Addr×Obj)) (s:Shared) (σ: St) (H:Hp) (x y:V) (v u:Value) (Q:VK),aR X pins σ H s->bG x v->bG y u->r x y H Q ->
  wpAny (model X.prog X.w) X.A (f v u) (EP X pins σ Q) X.xe s
def UnR (X:Cx) (f:Value->Sem Value) (r:V->Hp->VK->Prop):Prop :=
 ∀ (pins:List (Addr×Obj)) (s:Shared) (σ: St) (H:Hp) (x:V) (v:Value) (Q:VK),aR X pins σ H s->bG x v->r x H Q ->
  wpAny (model X.prog X.w) X.A (f v) (EP X pins σ Q) X.xe s
def eS (X:Cx) (f:Value) (r:List V->Hp->VK->Prop):Prop :=
 ∀ (pins:List (Addr×Obj)) (s:Shared) (σ: St) (H:Hp) (xs:List V) (us:List Value) (Q:VK),aR X pins σ H s->bB xs us->r xs H Q ->
  wpAny (model X.prog X.w) X.A (call f us) (EP X pins σ Q) X.xe s
def cQ0 (X:Cx) (r:V->Hp->(Bool->Hp->Prop)->Prop):Prop :=
 ∀ (pins:List (Addr×Obj)) (s:Shared) (σ: St) (H:Hp) (x:V) (v:Value) (Q:Bool->Hp->Prop),aR X pins σ H s->bG x v->r x H Q ->
  wpAny (model X.prog X.w) X.A (truthy v) (TP X pins σ Q) X.xe s
def tOp (r:R2) (ta tb:TE):TE:=fun σ H Q=>ta σ H fun x H1=>tb σ H1 fun y H2=>r x y H2 Q
def tUn (r:V->Hp->VK->Prop) (ta:TE):TE:=fun σ H Q=>ta σ H fun x H1=>r x H1 Q
def rI (C:Int->Int->Prop) (g:Int->Int->V):R2:=fun x y H Q=>∃ i j,x= .int i/\y= .int j/\C i j/\Q (g i j) H
def rI0 (g:Int->Int->V):R2:=fun x y H Q=>∃ i j,x= .int i/\y= .int j/\Q (g i j) H
def rU (g:Int->V):V->Hp->VK->Prop:=fun x H Q=>∃ i,x= .int i/\Q (g i) H
section
variable {X:Cx}{a b c:Expr}{ta tb tc:TE}{pos:Pos}
theorem bW4 (ha:PE X a ta) (hb:PE X b tb) {pins:List (Addr×Obj)}{s:Shared}{σ: St}{H:Hp}{R:V->V->Hp->Prop}(I:aR X pins σ H s)
  (h:ta σ H fun x H1=>tb σ H1 fun y H2=>R x y H2) {Q:Value->Shared->Prop}{f:Value->Value->Sem Value}
  (hf:∀ v u s2 x y H2,aR X pins σ H2 s2->bG x v->bG y u->R x y H2->wpAny (model X.prog X.w) X.A (f v u) Q X.xe s2) :
  wpAny (model X.prog X.w) X.A (eval a X.env) (fun v s₁=>wpAny (model X.prog X.w) X.A (eval b X.env) (fun u s₂=>wpAny (model X.prog X.w) X.A (f v u) Q X.xe s₂) X.xe s₁) X.xe s:=by
 refine cV (ha pins s σ H _ I h) ?_;rintro v s1 ⟨x,H1,I1,r1,q1⟩
 refine cV (hb pins s1 σ H1 _ I1 q1) ?_;rintro u s2 ⟨y,H2,I2,r2,q2⟩
 exact hf v u s2 x y H2 I2 r1 r2 q2
theorem aI {op:Operator}{r:R2}(ho:kK X (binaryOp op) r) (ha:PE X a ta) (hb:PE X b tb):PE X (.BinOp a op b pos) (tOp r ta tb):=by
 intro pins s σ H Q I h
 exact wpAny_BinOp (bW4 ha hb I h fun v u s2 x y H2 I2 rx ry q=>ho pins s2 σ H2 x y v u Q I2 rx ry q)
theorem aX7 {op:UnaryOp}{r:V->Hp->VK->Prop}(ho:UnR X (unaryOp op) r) (ha:PE X a ta):PE X (.UnaryOp op a pos) (tUn r ta):=by
 intro pins s σ H Q I h
 refine UnaryOp_ (cV (ha pins s σ H _ I h) ?_);rintro v s1 ⟨x,H1,I1,r1,q1⟩;exact ho pins s1 σ H1 x v Q I1 r1 q1
theorem opI {f:Value->Value->Sem Value}{C:Int->Int->Prop}{g:Int->Int->Int}
  (rule:∀ (i j:Int) (t u:Tok) (s:Shared) (Q:Value->Shared->Prop) (E:Value->Shared->Prop),C i j->Q (.int (g i j) s.toks) { s with toks:=s.toks+1 }->wpAny (model X.prog X.w) X.A (f (.int i t) (.int j u)) Q E s) :
  kK X f (rI C fun i j=> .int (g i j)):=by
 intro pins s σ H x y v u Q I rx ry h
 obtain ⟨i,j,rfl,rfl,hc,q⟩:=h
 obtain ⟨t,rfl⟩:=rx
 obtain ⟨t',rfl⟩:=ry
 exact rule i j t t' s _ _ hc ⟨.int (g i j),H,I.tok _,⟨_,rfl⟩,q⟩
theorem cK8 {f:Value->Value->Sem Value}{g:Int->Int->Int}
  (rule:∀ (i j:Int) (t u:Tok) (s:Shared) (Q:Value->Shared->Prop) (E:Value->Shared->Prop),Q (.int (g i j) s.toks) { s with toks:=s.toks+1 }->wpAny (model X.prog X.w) X.A (f (.int i t) (.int j u)) Q E s) :
  kK X f (rI0 fun i j=> .int (g i j)):=by
 intro pins s σ H x y v u Q I rx ry h
 obtain ⟨i,j,rfl,rfl,q⟩:=h
 obtain ⟨t,rfl⟩:=rx
 obtain ⟨t',rfl⟩:=ry
 exact rule i j t t' s _ _ ⟨.int (g i j),H,I.tok _,⟨_,rfl⟩,q⟩
theorem bK9 {f:Value->Value->Sem Value}{g:Int->Int->Bool}
  (rule:∀ (i j:Int) (t u:Tok) (s:Shared) (Q:Value->Shared->Prop) (E:Value->Shared->Prop),Q (.bool (g i j)) s->wpAny (model X.prog X.w) X.A (f (.int i t) (.int j u)) Q E s) :
  kK X f (rI0 fun i j=> .bl (g i j)):=by
 intro pins s σ H x y v u Q I rx ry h
 obtain ⟨i,j,rfl,rfl,q⟩:=h
 obtain ⟨t,rfl⟩:=rx
 obtain ⟨t',rfl⟩:=ry
 exact rule i j t t' s _ _ ⟨.bl (g i j),H,I,rfl,q⟩
def cR2 (i j:Int):Prop:=0<=j/\j<=1000000/\i.natAbs < 2 ^ 64
def bZ7 (i j:Int):Prop:=(-(2 ^ 64) < i/\i < 2 ^ 64)\/(-(2 ^ 64) < j/\j < 2 ^ 64)
theorem bZ7.ok {i j:Int}(h:bZ7 i j):IntMulOk i j:=by
 rcases h with ⟨h1,h2⟩ | ⟨h1,h2⟩
 ·exact .of_left (intBits_le_64 h1 h2)
 ·exact .of_right (intBits_le_64 h1 h2)
theorem bE:kK X (binaryOp .Add) (rI0 fun i j=> .int (i+j)):=cK8 fun _ _ _ _ _ _ _ q=>add_int q
theorem cQ:kK X (binaryOp .Sub) (rI0 fun i j=> .int (i - j)):=cK8 fun _ _ _ _ _ _ _ q=>sub_int q
theorem mB:kK X (binaryOp .Mult) (rI bZ7 fun i j=> .int (i * j)):=opI fun _ _ _ _ _ _ _ hc q=>mul_int q hc.ok
theorem fF:kK X (binaryOp .Mod) (rI (fun _ j=>0 < j) fun i j=> .int (i % j)):=opI fun i j _ _ _ _ _ hc q=>by
 have h1:(0:Int) < j:=hc
 exact mod_int' (by omega) (by rw [Int.fmod_eq_emod_of_nonneg i (by omega)];exact q)
theorem cD2:kK X (binaryOp .Pow) (rI cR2 fun i j=> .int (i ^ j.toNat)):=opI fun _ _ _ _ _ _ _ hc q=>pow_int_small hc.1 hc.2.1 hc.2.2 q
theorem unI {f:Value->Sem Value}{g:Int->Int}
  (rule:∀ (i:Int) (t:Tok) (s:Shared) (Q:Value->Shared->Prop) (E:Value->Shared->Prop),Q (.int (g i) s.toks) { s with toks:=s.toks+1 }->wpAny (model X.prog X.w) X.A (f (.int i t)) Q E s) :
  UnR X f (rU fun i=> .int (g i)):=by
 intro pins s σ H x v Q I rx h
 obtain ⟨i,rfl,q⟩:=h
 obtain ⟨t,rfl⟩:=rx
 exact rule i t s _ _ ⟨.int (g i),H,I.tok _,⟨_,rfl⟩,q⟩
theorem aE2:UnR X (unaryOp .USub) (rU fun i=> .int (-i)):=unI fun _ _ _ _ _ q=>neg_int q
end
def cF1:V->V->Bool
 |.non,.non=>true | .non,.int _=>true | .int _,.non=>true | .non,.bl _=>true | .bl _,.non=>true | .non,.str _=>true | .str _,.non=>true
 |.int _,.int _=>true | .bl _,.bl _=>true | .str _,.str _=>true | .byt _,.byt _=>true
 |.int _,.str _=>true | .str _,.int _=>true | .bl _,.str _=>true | .str _,.bl _=>true
 |_,_=>false
def rEq:R2:=fun x y H Q=>cF1 x y=true/\Q (.bl (decide (x=y))) H
def rNe:R2:=fun x y H Q=>cF1 x y=true/\Q (.bl (!decide (x=y))) H
theorem aJ9 {i j:Int}:decide (V.int i=V.int j)=(i == j):=by
 rw [ke]
 simp
theorem bC5 {i j:Bool}:decide (V.bl i=V.bl j)=(i == j):=by
 rw [ke]
 simp
theorem aM2 {i j:Str}:decide (V.str i=V.str j)=(i == j):=by
 rw [ke]
 simp
theorem aL6 {i j:Array UInt8}:decide (V.byt i=V.byt j)=(i.toList == j.toList):=by
 rw [ke]
 cases i
 cases j
 simp
section
variable {X:Cx}{a b c:Expr}{ta tb tc:TE}{pos:Pos}
theorem bU {pins:List (Addr×Obj)}{σ: St}{H:Hp}{s:Shared}{Q:VK}{k k':Bool}(I:aR X pins σ H s) (q:Q (.bl k) H) (e:k=k'):EP X pins σ Q (.bool k') s:=by
 subst e
 exact ⟨.bl k,H,I,rfl,q⟩
theorem cY:kK X (compareOp .Eq) rEq:=by
 intro pins s σ H x y v u Q I rx ry h
 obtain ⟨hs,q⟩:=h
 cases x with
 |non =>
  cases rx
  cases y with
  |non=>cases ry;exact PySem.EqNone.eq_none_none (bU I q (by simp))
  |bl j=>cases ry;exact PySem.EqNone.eq_none_bool (bU I q (by simp))
  |int j=>obtain ⟨t',rfl⟩:=ry;exact PySem.EqNone.eq_none_int (bU I q (by simp))
  |str j=>obtain ⟨t',rfl⟩:=ry;exact PySem.EqNone.eq_none_str (bU I q (by simp))
  |_=>exact absurd (show false=true from hs) bo
 |bl i =>
  cases rx
  cases y with
  |non=>cases ry;exact PySem.EqNone.eq_bool_none (bU I q (by simp))
  |bl j=>cases ry;exact eq_bool (bU I q bC5)
  |str j=>obtain ⟨t',rfl⟩:=ry;exact PySem.EqMixed.eq_bool_str (bU I q (by simp))
  |_=>exact absurd (show false=true from hs) bo
 |int i =>
  obtain ⟨t,rfl⟩:=rx
  cases y with
  |non=>cases ry;exact PySem.EqNone.eq_int_none (bU I q (by simp))
  |int j=>obtain ⟨t',rfl⟩:=ry;exact eq_int (bU I q aJ9)
  |str j=>obtain ⟨t',rfl⟩:=ry;exact PySem.EqMixed.eq_int_str (bU I q (by simp))
  |_=>exact absurd (show false=true from hs) bo
 |str i =>
  obtain ⟨t,rfl⟩:=rx
  cases y with
  |non=>cases ry;exact PySem.EqNone.eq_str_none (bU I q (by simp))
  |bl j=>cases ry;exact PySem.EqMixed.eq_str_bool (bU I q (by simp))
  |int j=>obtain ⟨t',rfl⟩:=ry;exact PySem.EqMixed.eq_str_int (bU I q (by simp))
  |str j=>obtain ⟨t',rfl⟩:=ry;exact eq_str (bU I q aM2)
  |_=>exact absurd (show false=true from hs) bo
 |byt i =>
  obtain ⟨t,rfl⟩:=rx
  cases y with
  |byt j=>obtain ⟨t',rfl⟩:=ry;exact PySem.W.eq_bytes (bU I q aL6)
  |_=>exact absurd (show false=true from hs) bo
 |_=>cases y <;> exact absurd (show false=true from hs) bo
theorem aS1:kK X (compareOp .NotEq) rNe:=by
 intro pins s σ H x y v u Q I rx ry h
 obtain ⟨hs,q⟩:=h
 cases x with
 |non =>
  cases rx
  cases y with
  |non=>cases ry;exact PySem.EqNone.ne_none_none (bU I q (by simp))
  |bl j=>cases ry;exact PySem.EqNone.ne_none_bool (bU I q (by simp))
  |int j=>obtain ⟨t',rfl⟩:=ry;exact PySem.EqNone.ne_none_int (bU I q (by simp))
  |str j=>obtain ⟨t',rfl⟩:=ry;exact PySem.EqNone.ne_none_str (bU I q (by simp))
  |_=>exact absurd (show false=true from hs) bo
 |bl i =>
  cases rx
  cases y with
  |non=>cases ry;exact PySem.EqNone.ne_bool_none (bU I q (by simp))
  |bl j=>cases ry;exact ne_bool (bU I q (gv not bC5))
  |str j=>obtain ⟨t',rfl⟩:=ry;exact PySem.EqMixed.ne_bool_str (bU I q (by simp))
  |_=>exact absurd (show false=true from hs) bo
 |int i =>
  obtain ⟨t,rfl⟩:=rx
  cases y with
  |non=>cases ry;exact PySem.EqNone.ne_int_none (bU I q (by simp))
  |int j=>obtain ⟨t',rfl⟩:=ry;exact ne_int (bU I q (gv not aJ9))
  |str j=>obtain ⟨t',rfl⟩:=ry;exact PySem.EqMixed.ne_int_str (bU I q (by simp))
  |_=>exact absurd (show false=true from hs) bo
 |str i =>
  obtain ⟨t,rfl⟩:=rx
  cases y with
  |non=>cases ry;exact PySem.EqNone.ne_str_none (bU I q (by simp))
  |bl j=>cases ry;exact PySem.EqMixed.ne_str_bool (bU I q (by simp))
  |int j=>obtain ⟨t',rfl⟩:=ry;exact PySem.EqMixed.ne_str_int (bU I q (by simp))
  |str j=>obtain ⟨t',rfl⟩:=ry;exact ne_str (bU I q (gv not aM2))
  |_=>exact absurd (show false=true from hs) bo
 |byt i =>
  obtain ⟨t,rfl⟩:=rx
  cases y with
  |byt j=>obtain ⟨t',rfl⟩:=ry;exact PySem.W.ne_bytes (bU I q (gv not aL6))
  |_=>exact absurd (show false=true from hs) bo
 |_=>cases y <;> exact absurd (show false=true from hs) bo
theorem nL:kK X (compareOp .Lt) (rI0 fun i j=> .bl (decide (i < j))):=bK9 fun _ _ _ _ _ _ _ q=>lt_int q
theorem aV8:kK X (compareOp .LtE) (rI0 fun i j=> .bl (decide (i<=j))):=bK9 fun _ _ _ _ _ _ _ q=>le_int q
theorem iH:kK X (compareOp .Gt) (rI0 fun i j=> .bl (decide (j < i))):=bK9 fun _ _ _ _ _ _ _ q=>gt_int q
theorem bR3:kK X (compareOp .GtE) (rI0 fun i j=> .bl (decide (j<=i))):=bK9 fun _ _ _ _ _ _ _ q=>ge_int q
theorem bE2 (b:Expr) {op:CmpOp}(h:autoParam (op≠ .In) Rq1._auto_1) (h2:autoParam (op≠ .NotIn) Rq1._auto_1):behindInMarks op b=false:=by
 have e1:(op == CmpOp.In)=false:=by cases op <;> first | rfl | exact absurd rfl h
 have e2:(op == CmpOp.NotIn)=false:=by cases op <;> first | rfl | exact absurd rfl h2
 cases b <;> simp [behindInMarks,e1,e2]
theorem bK4 {op:CmpOp}{r:R2}(ho:kK X (compareOp op) r) (ha:PE X a ta) (hb:PE X b tb) (hm:behindInMarks op b=false):PE X (.Compare a [op] [b] pos) (tOp r ta tb):=by
 intro pins s σ H Q I h
 exact wpAny_Compare1 (bW4 ha hb I h fun v u s2 x y H2 I2 rx ry q=>ho pins s2 σ H2 x y v u Q I2 rx ry q) hm
def bQ8 (t:TE):TT:=fun σ H Q=>t σ H fun x H'=>∃ k,x= .bl k/\Q k H'
theorem bN5 {op:CmpOp}{r:R2}(ho:kK X (compareOp op) r) (ha:PE X a ta) (hb:PE X b tb) (hm:behindInMarks op b=false):PT X (.Compare a [op] [b] pos) (bQ8 (tOp r ta tb)):=by
 intro pins s σ H Q I h
 refine wu (cV (ha pins s σ H _ I h) fun v s1 ⟨x,H1,I1,r1,q1⟩=>cV (hb pins s1 σ H1 _ I1 q1) fun u s2 ⟨y,H2,I2,r2,q2⟩ =>
  cV (ho pins s2 σ H2 x y v u _ I2 r1 r2 q2) fun c s3 ⟨z,H3,I3,r3,k,e,q3⟩=>?_) hm
 subst e
 cases r3
 exact jq ⟨H3,I3,q3⟩
def cH8 (K:PySem.W.Frag) (x:V) (H:Hp) (k:Bool):Prop :=
 match x with
 |.non=>k=false
 |.bl b=>k=b
 |.int i=>k=(i != 0)
 |.str y=>y.length<=sizeLine/\k=((y.length:Int) != 0)
 |.byt y=>y.size<=sizeLine/\k=((y.size:Int) != 0)
 |.ref p=>(∃ xs,bM K H p xs/\k= !xs.isEmpty)\/(∃ xs,aT K H p xs/\k= !xs.isEmpty)\/∃ kvs,H p=some (.dK kvs)/\k= !kvs.isEmpty
 |_=>False
theorem aC1 {κ: Type}{kvs:List (κ×V)}{vs:List (κ×Value)}(r:KV kvs vs):(!vs.isEmpty)= !kvs.isEmpty:=by
 cases r <;> rfl
theorem rT {xs:List V}{its:List Value}(r:bB xs its):(!its.toArray.isEmpty)= !xs.isEmpty:=by
 cases r <;> simp
theorem oM:(sizeLine:Nat) < 2 ^ 63:=by rw [ju];decide
theorem bZ4:cQ0 X (fun x H Q=>∃ k,cH8 X.K x H k/\Q k H):=by
 intro pins s σ H x v Q I rx h
 obtain ⟨k,e,q⟩:=h
 have hl:=oM
 have hs:sizeLine=16777216:=ju
 cases x with
 |non =>
  cases rx
  have e':k=false:=e
  subst e'
  exact truthy_none ⟨H,I,q⟩
 |bl b =>
  cases rx
  have e':k=b:=e
  subst e'
  exact jq ⟨H,I,q⟩
 |int i =>
  obtain ⟨t,rfl⟩:=rx
  have e':k=(i != 0):=e
  subst e'
  exact PySem.P.truthy_int ⟨H,I,q⟩
 |str y =>
  obtain ⟨t,rfl⟩:=rx
  obtain ⟨hy,e'⟩:y.length<=sizeLine/\k=((y.length:Int) != 0):=e
  subst e'
  exact PySem.P.truthy_str (by omega) ⟨H,I.tok _,q⟩
 |byt y =>
  obtain ⟨t,rfl⟩:=rx
  obtain ⟨hy,e'⟩:y.size<=sizeLine/\k=((y.size:Int) != 0):=e
  subst e'
  exact PySem.W.truthy_bytes (by omega) ⟨H,I.tok _,q⟩
 |ref p =>
  cases rx
  have e':(∃ xs,bM X.K H p xs/\k= !xs.isEmpty)\/(∃ xs,aT X.K H p xs/\k= !xs.isEmpty)\/∃ kvs,H p=some (.dK kvs)/\k= !kvs.isEmpty:=e
  rcases e' with ⟨xs,hx,e'⟩ | ⟨xs,hx,e'⟩ | ⟨kvs,hx,e'⟩
  ·subst e'
   obtain ⟨its,r,pl,hz⟩:=I.list hx
   have hlen:=r.length
   exact wpAny_truthy_list pl.isList (by simp only [List.size_toArray];omega) ⟨H,I.tok _,by rw [rT r];exact q⟩
  ·subst e'
   obtain ⟨its,r,pl,hz⟩:=I.tuple hx
   have hlen:=r.length
   exact truthy_tuple pl (by simp only [List.size_toArray];omega) ⟨H,I.tok _,by rw [rT r];exact q⟩
  ·subst e'
   obtain ⟨hz,hS,vs,r,m⟩:kvs.length<=sizeLine/\(p == sysModules)=false/\∃ vs,KV kvs vs/\s.heap.DictOf (bH X.prog X.w) p vs:=I.hok p _ hx
   have hlen:kvs.length=vs.length:=iq r
   exact wpAny_truthy_dict hS m (by omega) ⟨H,I.tok _,by rw [aC1 r];exact q⟩
 |_=>exact (show False from e).elim
theorem zP (ha:PE X a ta) (he:∀ whole,isTrue a X.env whole=(do let v <- whole;standAt a.pos;holding [v] (truthy v))) :
  PT X a (fun σ H Q=>ta σ H fun x H'=>∃ k,cH8 X.K x H' k/\Q k H'):=by
 intro pins s σ H Q I h
 refine isTrue_plain (cV (ha pins s σ H _ I h) ?_) (he _);rintro v s1 ⟨x,H1,I1,r1,q1⟩;exact bZ4 pins s1 σ H1 x v Q I1 r1 q1
theorem rP:kK X (binaryOp .Add) (fun x y H Q=>∃ i j,x= .str i/\y= .str j/\i.length+j.length<=sizeLine/\Q (.str (i++j)) H):=by
 intro pins s σ H x y v u Q I rx ry h
 obtain ⟨i,j,rfl,rfl,hz,q⟩:=h
 obtain ⟨t,rfl⟩:=rx
 obtain ⟨t',rfl⟩:=ry
 exact add_str (fun t' tk=>⟨.str (i++j),H,I.tok _,⟨_,rfl⟩,q⟩) hz
theorem iQ {x:V}{us:List Value}(r:bB [x] us):∃ u,us=[u]/\bG x u:=by
 cases r with
 |cons r1 r2=>cases r2;exact ⟨_,rfl,r1⟩
theorem bE4 {x y:V}{us:List Value}(r:bB [x,y] us):∃ u w',us=[u,w']/\bG x u/\bG y w':=by
 cases r with
 |cons r1 r2 =>
  cases r2 with
  |cons r3 r4=>cases r4;exact ⟨_,_,rfl,r1,r3⟩
theorem aU1:eS X (.builtin "abs") (fun xs H Q=>∃ i,xs=[.int i]/\Q (.int (if i < 0 then -i else i)) H):=by
 intro pins s σ H xs us Q I r h
 obtain ⟨i,rfl,q⟩:=h
 obtain ⟨u,rfl,t,rfl⟩:=iQ r
 exact call_abs_int fun u tk=>⟨.int (if i < 0 then -i else i),H,I.tok _,⟨_,rfl⟩,q⟩
theorem uK (hc:X.calm=true):eS X (.builtin "max") (fun xs H Q=>∃ i j,xs=[.int i,.int j]/\Q (.int (if j > i then j else i)) H):=by
 intro pins s σ H xs us Q I r h
 obtain ⟨i,j,rfl,q⟩:=h
 obtain ⟨u,w',rfl,⟨t,rfl⟩,⟨t',rfl⟩⟩:=bE4 r
 refine max_two_ints (I.ok.hd hc) fun h' tk k=>⟨_,H,I.kept k,?_,q⟩
 by_cases hj:j > i
 ·rw [ao hj,ao hj];exact ⟨_,rfl⟩
 ·rw [aj hj,aj hj];exact ⟨_,rfl⟩
theorem jF (hc:X.calm=true):eS X (.builtin "min") (fun xs H Q=>∃ i j,xs=[.int i,.int j]/\Q (.int (if j < i then j else i)) H):=by
 intro pins s σ H xs us Q I r h
 obtain ⟨i,j,rfl,q⟩:=h
 obtain ⟨u,w',rfl,⟨t,rfl⟩,⟨t',rfl⟩⟩:=bE4 r
 refine min_two_ints (I.ok.hd hc) fun h' tk k=>⟨_,H,I.kept k,?_,q⟩
 by_cases hj:j < i
 ·rw [ao hj,ao hj];exact ⟨_,rfl⟩
 ·rw [aj hj,aj hj];exact ⟨_,rfl⟩
theorem uJ:eS X (.type "int") (fun xs H Q=>(∃ i,xs=[.int i]/\Q (.int i) H)\/∃ k,xs=[.bl k]/\Q (.int (if k then 1 else 0)) H):=by
 intro pins s σ H xs us Q I r h
 rcases h with ⟨i,rfl,q⟩ | ⟨k,rfl,q⟩
 ·obtain ⟨u,rfl,t,rfl⟩:=iQ r
  exact call_int_int ⟨.int i,H,I,⟨_,rfl⟩,q⟩
 ·obtain ⟨u,rfl,r1⟩:=iQ r
  cases r1
  exact call_int_bool ⟨.int (if k then 1 else 0),H,I.tok _,⟨_,rfl⟩,q⟩
end
structure aP7 (h:Heap) (x dx C:Addr) (mA:Str->Option Value):Prop where
 obj:h.get? x=some (PySem.W.instObj C dx)
 ns:h.Ns1 dx mA
 ne:dx≠x
theorem aR3 {h:Heap}{dx:Addr}{mA:Str->Option Value}(n:h.Ns1 dx mA):∃ od,h.get? dx=some od/\∀ name,PySem.W.lookIn name od=some (mA name):=by
 obtain ⟨o,es,ep,ho,hd,hk,_,hm⟩:=n
 refine ⟨o,ho,fun name=>?_⟩
 have e:=hm name
 unfold nsFind findBy at e
 rw [<- Array.find?_toList] at e
 unfold PySem.W.lookIn
 rw [hd]
 dsimp only
 split
 ·rename_i y q
  rw [q] at e
  exact gv some e
 ·rename_i q
  rw [q] at e
  have a:es.toList.any (·.refKey)=false:=by
   rw [List.any_eq_false]
   intro y hy
   obtain ⟨z,t,hkey⟩:=hk y (Array.mem_toList_iff.mp hy)
   simp [DictEntry.refKey,hkey]
  have a':¬ es.toList.any (·.refKey)=true:=by rw [a];exact bo
  rw [aj a']
  exact gv some e
theorem aP7.look {h:Heap}{x dx C:Addr}{mA:Str->Option Value}(I:aP7 h x dx C mA):∃ od,PySem.W.InstAt h x (PySem.W.instObj C dx) C (some od)/\∀ name,PySem.W.lookIn name od=some (mA name) :=by
 obtain ⟨od,ho,hl⟩:=aR3 I.ns
 exact ⟨od,⟨I.obj,rfl,rfl,ho⟩,hl⟩
section
variable {prog:Program}{w:World}{A:Around}{E:Value->Shared->Prop}{s:Shared}{K:PySem.W.Frag}{x dx C f:Addr}{mA:Str->Option Value}{name:Str}{v:Value}
theorem bG9 {expr:Bool}{Q:Value->Shared->Prop}(X:K.In s.heap) (I:aP7 s.heap x dx C mA) (hg:PySem.W.plainGet K C name=true) (hh:PySem.W.hasDictIn K C=true)
  (ha:PySem.W.findIn K (.ref C) name=some none) (hv:mA name=some v) (hv':PySem.W.handedIn v=true) (h:Q v { s with toks:=s.toks+1 }) :
  wpAny (model prog w) A (getAttr (.ref x) name expr) Q E s:=by
 obtain ⟨od,J,hl⟩:=I.look
 exact PySem.W.get_value X J (PySem.W.plainGet_of hg).1 (PySem.W.findObj_own hh ha rfl (by rw [hl,hv])) hv' h
theorem bN9 {ns:List Str}{Q:Unit->Shared->Prop}(X:K.In s.heap) (I:aP7 s.heap x dx C mA)
  (hs:PySem.W.findIn K (.ref C) "__setattr__"=some (some (.builtin "object.__setattr__"))) (hp:PySem.W.plainOver K C=true) (ht:PySem.W.takerIn K C name=some none) (hh:PySem.W.hasDictIn K C=true)
  (hw:PySem.Within mA ns) (hsz:ns.length<=sizeLine)
  (h:∀ h',aP7 h' x dx C (fun y=>if y=name then some v else mA y)->Heap.SameBut dx s.heap h'->Q () { s with heap:=h',toks:=s.toks+2 }) :
  wpAny (model prog w) A (setAttr (.ref x) name v) Q E s:=by
 obtain ⟨od,J,hl⟩:=I.look
 refine PySem.W.set_plain X J hs (PySem.W.osa_open (s:={ s with toks:=s.toks+1 }) (r:=none) X J hp ht fun b=>?_)
 obtain ⟨cd,hc,hd'⟩:=PySem.W.any_some hh
 have hx:s.heap.get? x=some ⟨.ref C,some dx,.plain, #[]⟩:=I.obj
 refine aa (am (aa (aa (wpAny_loadPart hx (aa (PySem.W.Looks.here (s:={ s with toks:=s.toks+1 }) (PySem.W.looks_clsIn X hc) ?_))))))
 rw [hd']
 refine am (a:=some dx) (aa (am (aa ?_)))
 refine wpAny_nsSet1 (s:={ s with toks:=s.toks+1 }) I.ns fun h' hn2 hs2=>?_
 obtain ⟨oD,esD,epD,hoD,hdD,hcD⟩:=hn2.count (PySem.Within.cons name v hw)
 refine aa (wpAny_lookBehind hoD (by rw [hdD];exact pastItsLine_dict (bv hcD (by rw [ci];omega))) ?_)
 exact am (h _ ⟨(hs2.2 _ (Ne.symm I.ne)).trans I.obj,hn2,I.ne⟩ hs2)
theorem bG4 {R:Result->Shared->Prop}{vs:List Value}{kw:List (Str×Value)}(X:K.In s.heap) (hm:PySem.W.makesIn K C=true)
  (hi:PySem.W.findIn K (.ref C) "__init__"=some (some (.ref f))) (hf:PySem.W.typeIn K (.ref f)=some (.type "function"))
  (h:codeAny (model prog w) (A.under (.builtin "type.__call__" ⟨.ref C :: vs,kw⟩)) (.call (.ref f) ⟨.ref (s.heap.objs.size+1) :: vs,kw⟩) (PySem.W.InitBack (s.heap.objs.size+1) R)
   { s with heap:=(s.heap.push PySem.W.emptyDict).push (PySem.W.instObj C s.heap.objs.size) }) :
  codeAny (model prog w) A (.call (.ref C) ⟨vs,kw⟩) R s:=by
 obtain ⟨hh,g,d,t,os⟩:=s
 exact PySem.W.make_core (PySem.W.makes_of X hm) (PySem.W.looks_findIn X hi) (fun self=>PySem.W.bind_fn X self hf) (.inl rfl) h
end
def fS (f:Str) (v:V):List (Str×V)->List (Str×V)
 |[]=>[(f,v)]
 |(g,x) :: r=>if g=f then (g,v) :: r else (g,x) :: fS f v r
theorem kL (f g:Str) (v:V):∀ fs:List (Str×V),(fS f v fs).lookup g=if g=f then some v else fs.lookup g
 |[]=>by
  show List.lookup g [(f,v)]=_
  by_cases h:g=f
  ·have hb:(g == f)=true:=qf.mpr h
   simp only [List.lookup,hb,if_pos h]
  ·have hb:(g == f)=false:=gn.mpr h
   simp only [List.lookup,hb,if_neg h]
 |(k,x) :: r=>by
  have ih:=kL f g v r
  rw [show fS f v ((k,x) :: r)=(if k=f then (k,v) :: r else (k,x) :: fS f v r) from rfl]
  by_cases hk:k=f
  ·rw [ao hk]
   by_cases h:g=k
   ·have hb:(g == k)=true:=qf.mpr h
    simp only [List.lookup,hb,if_pos (h.trans hk)]
   ·have hb:(g == k)=false:=gn.mpr h
    simp only [List.lookup,hb,if_neg (fun e:g=f=>h (e.trans hk.symm))]
  ·rw [aj hk]
   by_cases h:g=k
   ·have hb:(g == k)=true:=qf.mpr h
    simp only [List.lookup,hb,if_neg (fun e:g=f=>hk (h.symm.trans e))]
   ·have hb:(g == k)=false:=gn.mpr h
    simp only [List.lookup,hb]
    exact ih
theorem oP (f:Str) (v:V):∀ fs:List (Str×V),f∈(fS f v fs).map (·.1)/\∀ g,g∈fs.map (·.1)->g∈(fS f v fs).map (·.1)
 |[]=>⟨by simp [fS],fun g h=>by simp at h⟩
 |(k,x) :: r=>by
  obtain ⟨i1,i2⟩:=oP f v r
  rw [show fS f v ((k,x) :: r)=(if k=f then (k,v) :: r else (k,x) :: fS f v r) from rfl]
  by_cases hk:k=f
  ·rw [ao hk]
   subst hk
   exact ⟨by simp,fun g h=>by simpa using h⟩
  ·rw [aj hk]
   refine ⟨?_,fun g h=>?_⟩
   ·rw [bi]
    exact ae _ i1
   ·rw [bi] at h ⊢
    rcases av.mp h with e | e
    ·exact av.mpr (.inl e)
    ·exact ae _ (i2 g e)
theorem oZ (f:Str) (v:V):∀ fs:List (Str×V),(fS f v fs).length<=fs.length+1
 |[]=>by simp [fS]
 |(k,x) :: r=>by
  have ih:=oZ f v r
  rw [show fS f v ((k,x) :: r)=(if k=f then (k,v) :: r else (k,x) :: fS f v r) from rfl]
  by_cases hk:k=f
  ·rw [ao hk,ci,ci];omega
  ·rw [aj hk,ci,ci];omega
theorem kO.some_of {v:V}{o:Option Value}(r:kO (some v) o):∃ u,o=some u/\bG v u:=by
 cases o with
 |none=>exact (show False from r).elim
 |some u=>exact ⟨u,rfl,r⟩
theorem aR6 {v:V}{u:Value}(r:bG v u):PySem.W.handedIn u=true:=by
 cases v with
 |non=>cases (show u=Value.none from r);rfl
 |bl b=>cases (show u=Value.bool b from r);rfl
 |int i=>obtain ⟨t,e⟩:=(show ∃ t,u=Value.int i t from r);cases e;rfl
 |str x=>obtain ⟨t,e⟩:=(show ∃ t,u=Value.str x t from r);cases e;rfl
 |byt b=>obtain ⟨t,e⟩:=(show ∃ t,u=Value.bytes b t from r);cases e;rfl
 |flt b=>obtain ⟨t,e⟩:=(show ∃ t,u=Value.float b t from r);cases e;rfl
 |ref a=>cases (show u=Value.ref a from r);rfl
 |ty n=>cases (show u=Value.type n from r);rfl
section
variable {P:Program}{w:World}{H H':Hp}{h h':Heap}{a C dx:Addr}{fs fs':List (Str×V)}
theorem aK3 (hok:kA P w H h) (e:H a=some (.ins C dx fs)):∃ mA,aP7 h a dx C mA/\(∀ f,kO (fs.lookup f) (mA f))/\PySem.Within mA (fs.map (·.1))/\fs.length<=1000/\H dx=some (.own a):=by
 obtain ⟨d,z,ne,ob,mA,n,r,q⟩:=(show cJ P w H h a (.ins C dx fs) from hok a _ e)
 exact ⟨mA,⟨ob,n,ne⟩,r,q,z,d⟩
end
structure Cls (K:PySem.W.Frag) (C:Addr):Prop where
 pg:PySem.W.plainGet K C Str.empty=true
 hd:PySem.W.hasDictIn K C=true
 po:PySem.W.plainOver K C=true
 sa:PySem.W.findIn K (.ref C) "__setattr__"=some (some (.builtin "object.__setattr__"))
theorem Cls.get {K:PySem.W.Frag}{C:Addr}(c:Cls K C) (f:Str):PySem.W.plainGet K C f=true:=c.pg
def iL (K:PySem.W.Frag) (C:Addr) (f:Str):Prop:=PySem.W.findIn K (.ref C) f=some none
theorem iL.taker {K:PySem.W.Frag}{C:Addr}{f:Str}(n:iL K C f):PySem.W.takerIn K C f=some none:=by
 unfold PySem.W.takerIn
 rw [show PySem.W.findIn K (.ref C) f=some none from n]
 rfl
section
variable {X:Cx}{pins:List (Addr×Obj)}{σ: St}{H:Hp}{s:Shared}{a C dx:Addr}{fs:List (Str×V)}{f:Str}{v:V}{A:Around}{E:Value->Shared->Prop}
theorem aG3 {b:Bool}{Q:Value->Shared->Prop}(I:aR X pins σ H s) (e:H a=some (.ins C dx fs)) (c:Cls X.K C) (n:iL X.K C f) (l:fs.lookup f=some v)
  (h:∀ u s',aR X pins σ H s'->bG v u->Q u s'):wpAny (model X.prog X.w) A (getAttr (.ref a) f b) Q E s:=by
 obtain ⟨mA,O,r,_,_,_⟩:=aK3 I.hok e
 obtain ⟨u,hu,ru⟩:=kO.some_of (v:=v) (o:=mA f) (by rw [<- l];exact r f)
 exact bG9 I.kIn O (c.get f) c.hd n hu (aR6 ru) (h u _ (I.tok _) ru)
theorem aH4 {y:V}{u:Value}{Q:Unit->Shared->Prop}(I:aR X pins σ H s) (e:H a=some (.ins C dx fs)) (c:Cls X.K C) (n:iL X.K C f) (hl:fs.length < 1000) (ry:bG y u)
  (h:∀ s',aR X pins σ (aM H a (.ins C dx (fS f y fs))) s'->Q () s'):wpAny (model X.prog X.w) A (setAttr (.ref a) f u) Q E s:=by
 obtain ⟨mA,O,r,wi,_,ho⟩:=aK3 I.hok e
 have hz:(fs.map (·.1)).length<=sizeLine:=by rw [ac,ju];omega
 refine bN9 I.kIn O c.sa c.po n.taker c.hd wi hz fun h' O' sb=>h _ ?_
 have hd:∃ o,h'.get? dx=some o:=by obtain ⟨o,_,_,e',_⟩:=O'.ns;exact ⟨o,e'⟩
 refine I.write (x:=a) (e:=dx) (by rw [e];exact jt) (.inr ho) (fun b q hb z=>(sb.2 b hb).trans z) hd ?_
 refine ⟨by rw [aG O.ne];exact ho,?_,O.ne,O'.obj,_,O'.ns,fun g=>?_,fun g hg=>?_⟩
 ·have:=oZ f y fs;omega
 ·show kO ((fS f y fs).lookup g) (if g=f then some u else mA g)
  rw [kL]
  by_cases q:g=f
  ·rw [ao q,ao q];exact ry
  ·rw [aj q,aj q];exact r g
 ·by_cases q:g=f
  ·rw [q];exact (oP f y fs).1
  ·refine (oP f y fs).2 g (wi g fun z=>hg ?_)
   show (if g=f then some u else mA g)=none
   rw [aj q];exact z
theorem aR.made (I:aR X pins σ H s):aR X pins σ (aM (aM H s.heap.objs.size (.own (s.heap.objs.size+1))) (s.heap.objs.size+1) (.ins C s.heap.objs.size []))
  { s with heap:=(s.heap.push PySem.W.emptyDict).push (PySem.W.instObj C s.heap.objs.size) }:=by
 have e1:(s.heap.push PySem.W.emptyDict).get? s.heap.objs.size=some PySem.W.emptyDict:=az s.heap rfl
 have e2:((s.heap.push PySem.W.emptyDict).push (PySem.W.instObj C s.heap.objs.size)).get? (s.heap.objs.size+1)=some (PySem.W.instObj C s.heap.objs.size):=by
  have:=az (s.heap.push PySem.W.emptyDict) (o:=PySem.W.instObj C s.heap.objs.size) rfl
  rwa [gf] at this
 have e3:(s.heap.push PySem.W.emptyDict).Ns s.heap.objs.size (fun _=>none):=⟨PySem.W.emptyDict, #[],_,e1,rfl,(fun e he=>absurd he (by simp)),fun _=>rfl⟩
 have I1:=I.laid (a:=s.heap.objs.size) (o:= .own (s.heap.objs.size+1)) (h':=s.heap.push PySem.W.emptyDict) (t':=s.toks) (fun b u q=>af _ q) (ai _) ⟨_,e1⟩
 refine I1.laid (a:=s.heap.objs.size+1) (o:= .ins C s.heap.objs.size []) (t':=s.toks) (fun b u q=>af _ q) (Nat.le_of_eq (gf _ _)) ?_
 have ne:s.heap.objs.size≠s.heap.objs.size+1:=bt (dq _)
 refine ⟨by rw [aG ne,aD],bj _,ne,e2,fun _=>none,(Heap.Ns1.of_empty e3).at fun o q=>af _ q,fun _=>jt,fun y hy=>absurd rfl hy⟩
theorem bJ4 {prog:Program}{w:World}{env:Env}{e:Expr}{f:Str}{pos:Pos}{s:Shared}{Q:Value->Shared->Prop}(hb:attributeBase e f env (eval e env)=eval e env)
  (h:wpAny (model prog w) A (eval e env) (fun o s₁=>wpAny (model prog w) A (getAttr o f true) Q E s₁) E s):wpAny (model prog w) A (eval (.Attribute e f pos) env) Q E s :=
 Attribute_any_ h (by rw [arm_eval_Attribute,hb])
end
def cP3 (K:PySem.W.Frag) (ta:TE) (f:Str):TE:=fun σ H Q=>ta σ H fun x H1=>∃ a C dx fs v,x= .ref a/\H1 a=some (.ins C dx fs)/\Cls K C/\iL K C f/\fs.lookup f=some v/\Q v H1
def cP5 (K:PySem.W.Frag) (ta tv:TE) (f:Str):TS:=fun D σ H=>tv σ H fun y H1=>ta σ H1 fun x H2=>∃ a C dx fs,x= .ref a/\H2 a=some (.ins C dx fs)/\Cls K C/\iL K C f/\fs.length < 1000 /\
 D.nx σ (aM H2 a (.ins C dx (fS f y fs)))
section
variable {X:Cx}{o e value:Expr}{f:Str}{pos pos' tpos:Pos}{ta tv:TE}
theorem eO (he:PE X e ta) (hb:attributeBase e f X.env (eval e X.env)=eval e X.env):PE X (.Attribute e f pos) (cP3 X.K ta f):=by
 intro pins s σ H Q I h
 refine bJ4 hb (cV (he pins s σ H _ I h) ?_);rintro u s1 ⟨x,H1,I1,rx,a,C,dx,fs,v,ex,ea,c,n,l,q⟩
 subst ex
 obtain rfl:u=Value.ref a:=rx
 exact aG3 I1 ea c n l fun u' s2 I2 ru=>⟨v,H1,I2,ru,q⟩
theorem lT (ha:PE X o ta) (hv:PE X value tv) (hs:swapsWith value (some (.Attribute o f pos')) pos.line X.env=pure false):PS X (.Assign [.Attribute o f pos'] value pos) (cP5 X.K ta tv f):=by
 intro pins s σ H D I h
 refine plainObj_wpAny_Assign_Attribute (cV (hv pins s σ H _ I h) ?_) hs;rintro u s1 ⟨y,H1,I1,ry,q⟩;refine cV (ha pins s1 σ H1 _ I1 q) ?_;rintro ov s2 ⟨x,H2,I2,rx,a,C,dx,fs,ex,ea,c,n,l,q2⟩
 subst ex
 obtain rfl:ov=Value.ref a:=rx
 exact aH4 I2 ea c n l ry fun s3 I3=>⟨σ,_,I3,q2⟩
end
section
variable {X:Cx}{pins:List (Addr×Obj)}{σ: St}{H:Hp}{s:Shared}{A:Around}{E:Value->Shared->Prop}{Q:Value->Shared->Prop}{c:Value}{b:Bool}
end
structure dE (k:Nat) (A:Around):Prop where
 hd:A.handled=none
 dp:A.depth+3 * k+5 < recursionLimit
 un:A.units+16 * k+200 < cLine
 gd:A.guards=some []
theorem dE.mono {j k:Nat}{A:Around}(r:dE k A) (h:j<=k):dE j A:=⟨r.hd,by have:=r.dp;omega,by have:=r.un;omega,r.gd⟩
theorem dE.deeper {k:Nat}{A:Around}(r:dE (k+1) A) (env:Env):dE k (A.deeper env) :=
 ⟨r.hd,by have:=r.dp;show A.depth+1+3 * k+5 < _;omega,by have:=r.un;show A.units+3+16 * k+200 < _;omega,r.gd⟩
theorem aE7 {A:Around}{C:Addr}{us:List Value}{kw:List (Str×Value)}:(A.under (.builtin "type.__call__" ⟨.ref C :: us,kw⟩)).depth=A.depth+1:=by
 first | rfl | simp [Around.under,Code.weight,Code.isCreation,Code.isGuard,Code.isCaller,Code.frames,Code.isFrame,guardIds]
theorem aI3 {A:Around}{C:Addr}{us:List Value}{kw:List (Str×Value)}:(A.under (.builtin "type.__call__" ⟨.ref C :: us,kw⟩)).units=A.units+1:=by
 first | rfl | simp [Around.under,Code.cUnits,Code.frames,Code.isFrame]
theorem yF {A:Around}{C:Addr}{us:List Value}{kw:List (Str×Value)}:(A.under (.builtin "type.__call__" ⟨.ref C :: us,kw⟩)).guards=A.guards:=by
 have e:(Code.builtin "type.__call__" ⟨.ref C :: us,kw⟩).isGuard=false:=by
  show guardIds.contains "type.__call__"=false
  decide +kernel
 cases h:A.guards <;> simp [Around.under,Code.guards,pushGuards,e,h]
theorem dE.make {k:Nat}{A:Around}(r:dE (k+1) A) (C:Addr) (us:List Value) (kw:List (Str×Value)):dE k (A.under (.builtin "type.__call__" ⟨.ref C :: us,kw⟩)) :=
 ⟨r.hd,by have:=r.dp;rw [aE7];omega,by have:=r.un;rw [aI3];omega,yF.trans r.gd⟩
theorem dE.depth {k:Nat}{A:Around}(r:dE k A):A.depth < recursionLimit:=by have:=r.dp;omega
theorem dE.units {k:Nat}{A:Around}(r:dE k A):A.units+64 < cLine:=by have:=r.un;omega
def tNil:TA:=fun _ H Q=>Q [] H
def bS2 (ta:TE) (tr:TA):TA:=fun σ H Q=>ta σ H fun x H1=>tr σ H1 fun xs H2=>Q (x :: xs) H2
section
variable {X:Cx}{e:Expr}{es:List Expr}{te:TE}{t:TA}{pos:Pos}
theorem eI:PA X [] tNil:=fun _ _ _ _ H Q I h=>oh ⟨[],H,I,.nil,h⟩
theorem aA (ha:PE X e te) (hr:PA X es t) (hs:autoParam (starEach (e :: es) X.env=(false,eval e X.env) :: starEach es X.env) Rq0._auto_1):PA X (e :: es) (bS2 te t):=by
 intro pos pins s σ H Q I h
 rw [hs]
 show wpAny _ _ (spliced ((false,eval e X.env) :: backTo pos (starEach es X.env))) _ _ s
 refine kh (cV (ha pins s σ H _ I h) ?_);rintro u s1 ⟨x,H1,I1,r1,q1⟩
 refine cV (hr pos pins s1 σ H1 _ I1 q1) ?_;rintro us s2 ⟨xs,H2,I2,r2,q2⟩;exact ⟨x :: xs,H2,I2,.cons r1 r2,q2⟩
def cQ8 (t:TA):TE:=fun σ H Q=>t σ H fun xs H1=>xs.length<=sizeLine/\∀ p,H1 p=none->Q (.ref p) (aM H1 p (.tup xs))
def cR4 (t:TA):TE:=fun σ H Q=>t σ H fun xs H1=>xs.length<=sizeLine/\∀ p,H1 p=none->Q (.ref p) (aM H1 p (.lst xs))
theorem aS {x1} (h:PA X es t):PE X (.Tuple es x1 pos) (cQ8 t):=by
 intro pins s σ H Q I hq
 refine wpAny_Tuple_spliced (cV (h pos pins s σ H _ I hq) ?_);rintro us s1 ⟨xs,H1,I1,r,z,q⟩;refine ⟨by rw [<- r.length];exact z,?_⟩
 have hf:H1 s1.heap.objs.size=none:=I1.hok.fresh (ai _)
 refine ⟨.ref s1.heap.objs.size,aM H1 s1.heap.objs.size (.tup xs),I1.laid (t':=s1.toks) (fun b u e=>af _ e) (ai _) ?_,rfl,q _ hf⟩
 exact ⟨z,us,r,⟨_,az _ rfl,rfl,_,rfl,rfl⟩⟩
theorem cS (h:PA X es t):PE X (.List es pos) (cR4 t):=by
 intro pins s σ H Q I hq
 refine wpAny_List_spliced (cV (h pos pins s σ H _ I hq) ?_);rintro us s1 ⟨xs,H1,I1,r,z,q⟩;refine ⟨by rw [<- r.length];exact z,?_⟩
 have hf:H1 s1.heap.objs.size=none:=I1.hok.fresh (ai _)
 refine ⟨.ref s1.heap.objs.size,aM H1 s1.heap.objs.size (.lst xs),I1.laid (t':=s1.toks) (fun b u e=>af _ e) (ai _) ?_,rfl,q _ hf⟩
 exact ⟨z,us,0,r,az _ rfl⟩
end
abbrev Sp:=List V->Hp->VK->XK->Prop
abbrev CXT:=List Env->Hp->Shared->XK->Value->Shared->Prop
structure aE8 (P:Program) (w:World) (K:PySem.W.Frag) (mg:Str->Option Value) (base:Heap) (A:Around) (outer:List Env) (s:Shared) (H:Hp):Prop where
 frames:A.frames=some outer
 mod:Mod K mg base
 bs:∀ b o,base.get? b=some o->s.heap.get? b=some o/\H b=none
 bsz:base.objs.size<=s.heap.objs.size
 funs:s.heap.FunFrames base outer
 frf:∀ b∈frs outer,H b=none
 hok:kA P w H s.heap
 bare:AllBare s.gens
def CE (outer:List Env) (P:Program) (w:World) (H:Hp) (s:Shared) (Q:VK) (u:Value) (s':Shared):Prop :=
 ∃ v H',s'.os=s.os/\AllBare s'.gens/\Un (frs outer) [] H H' s.heap s'.heap/\kA P w H' s'.heap/\bG v u/\Q v H'
def CR (CX:CXT) (outer:List Env) (P:Program) (w:World) (H:Hp) (s:Shared) (Q:VK) (E:XK) (r:Result) (s':Shared):Prop :=
 match r with
 |.ok (.ret u)=>CE outer P w H s Q u s'
 |.ok _=>False
 |.error e=>CX outer H s E e s'
structure jY (P:Program) (w:World) (K:PySem.W.Frag) (mg:Str->Option Value) (base:Heap) (CX:CXT) (k:Nat) (f:Addr) (fd:FuncData) (ps:List Str) (sp:Sp):Prop where
 len:∀ vs H Q E,sp vs H Q E->vs.length=ps.length
 run:∀ (A:Around) (outer:List Env) (s:Shared) (H:Hp) (args:Args) (us:List Value) (vs:List V) (Q:VK) (E:XK),dE k A->aE8 P w K mg base A outer s H->BindsTo s fd args (ps.zip us)->bB vs us->sp vs H Q E ->
  codeAny (model P w) A (.call (.ref f) args) (CR CX outer P w H s Q E) s
theorem jY.imp {P:Program}{w:World}{K:PySem.W.Frag}{mg:Str->Option Value}{base:Heap}{CX:CXT}{k:Nat}{f:Addr}{fd:FuncData}{ps:List Str}{sp sp':Sp}(F:jY P w K mg base CX k f fd ps sp)
  (h:∀ vs H Q E,sp' vs H Q E->sp vs H Q E):jY P w K mg base CX k f fd ps sp' :=
 ⟨fun vs H Q E q=>F.len vs H Q E (h _ _ _ _ q),fun A outer s H args us vs Q E hr he hb hv hs=>F.run A outer s H args us vs Q E hr he hb hv (h _ _ _ _ hs)⟩
theorem aE8.make {P:Program}{w:World}{K:PySem.W.Frag}{mg:Str->Option Value}{base:Heap}{A:Around}{outer:List Env}{s:Shared}{H:Hp}(e:aE8 P w K mg base A outer s H) (C:Addr) (us:List Value) (kw:List (Str×Value)) :
  aE8 P w K mg base (A.under (.builtin "type.__call__" ⟨.ref C :: us,kw⟩)) outer s H:=⟨by first | exact e.frames | (simpa [Around.under,Code.envs,Code.isFrame,pushEnvs] using e.frames),e.mod,e.bs,e.bsz,e.funs,e.frf,e.hok,e.bare⟩
section
variable {X:Cx}{pins:List (Addr×Obj)}{σ: St}{H:Hp}{s s':Shared}
theorem aR.env0 (I:aR X pins σ H s):aE8 X.prog X.w X.K X.mg X.base X.A X.stack s H :=
 ⟨I.ok.frames,I.ok.mod,I.bs,bv I.ok.bsz I.sz,I.stack,I.stkFree,I.hok,I.bare⟩
theorem aR.after {Q:VK}{u:Value}(I:aR X pins σ H s) (h:CE X.stack X.prog X.w H s Q u s'):EP X pins σ Q u s':=by
 obtain ⟨v,H',os,bare,un,hok,r,q⟩:=h
 obtain ⟨hh,g,d,t,os'⟩:=s'
 obtain rfl:os'=s.os:=os
 exact ⟨v,H',I.call (h':=hh) (g':=g) (d':=d) (t':=t) (ch:=[]) un hok bare (fun b z=>absurd z (by simp)),r,q⟩
end
def aZ8 (sp:Sp) (dvs:List V) (E:XK) (t:TA):TE:=fun σ H Q=>t σ H fun vs H1=>sp (vs++dvs) H1 Q E
def bQ4 (C:Addr) (sp:Sp) (dvs:List V) (E:XK) (t:TA):TE:=fun σ H Q=>t σ H fun vs H1=>∀ x dx,H1 x=none->H1 dx=none->dx≠x ->
 sp (.ref x :: (vs++dvs)) (aM (aM H1 dx (.own x)) x (.ins C dx [])) (fun v H2=>v= .non/\Q (.ref x) H2) E
def fZ (K:PySem.W.Frag) (fd:FuncData) (ps:List Str) (ds:List Value):Prop :=
 ∀ (s:Shared) (us:List Value),K.In s.heap->(us++ds).length=ps.length->BindsTo s fd ⟨us,[]⟩ (ps.zip (us++ds))
theorem fZ.all {K:PySem.W.Frag}{fd:FuncData}{ps:List Str}(h:∀ us:List Value,us.length=ps.length->bindArgs fd ⟨us,[]⟩=pure (ps.zip us)):fZ K fd ps []:=fun s us _ hl=>by
 rw [gz] at hl ⊢
 exact .of_eq (h us hl)
def rL (CX:CXT) (X:Cx) (E:XK):Prop:=∀ (pins:List (Addr×Obj)) (σ: St) (H:Hp) (s:Shared) (e:Value) (s':Shared),aR X pins σ H s->CX X.stack H s E e s'->X.xe e s'
section
variable {X:Cx}{CX:CXT}{k:Nat}{f C:Addr}{fd:FuncData}{ps:List Str}{sp:Sp}{dvs:List V}{ds:List Value}{E:XK}{x m:Str}{p pos apos:Pos}{e o:Expr}{es:List Expr}{ta:TE}{t:TA}
theorem cB7 {pins:List (Addr×Obj)}{σ: St}{H:Hp}{s:Shared}{Q:VK}{us:List Value}{vs:List V}(F:jY X.prog X.w X.K X.mg X.base CX k f fd ps sp) (hr:dE k X.A) (hb:fZ X.K fd ps ds) (hd:bB dvs ds) (hx:rL CX X E)
  (I:aR X pins σ H s) (r:bB vs us) (h:sp (vs++dvs) H Q E):wpAny (model X.prog X.w) X.A (call (.ref f) us) (EP X pins σ Q) X.xe s:=by
 have r2:bB (vs++dvs) (us++ds):=r.append hd
 have hl:(us++ds).length=ps.length:=by rw [<- r2.length];exact F.len _ _ _ _ h
 refine wpAny_call (uq (F.run X.A X.stack s H ⟨us,[]⟩ (us++ds) (vs++dvs) Q E hr I.env0 (hb s us I.kIn hl) r2 h) fun r s' hq=>?_)
 cases r with
 |error e=>exact hx pins σ H s e s' I hq
 |ok fl =>
  cases fl with
  |ret u=>exact I.after hq
  |next=>exact False.elim hq
  |brk=>exact False.elim hq
  |cont=>exact False.elim hq
theorem aN2 (F:jY X.prog X.w X.K X.mg X.base CX k f fd ps sp) (hr:dE k X.A) (hg:Gl X x) (hm:X.mg x=some (.ref f)) (hk:PySem.W.keepIn X.K (.ref f)=true) (hb:fZ X.K fd ps ds) (hd:bB dvs ds) (hx:rL CX X E)
  (ha:PA X (e :: es) t) (hdb:autoParam ((x == ("__debug__": Str))=false) Rq1._auto_1) (he:autoParam (starEach (e :: es) X.env=(false,eval e X.env) :: starEach es X.env) Rq0._auto_1) (hpl:autoParam ((backTo pos (starEach es X.env)).any (·.1)=false) Rq0._auto_1) :
  PE X (.Call (.Name x p) (e :: es) [] pos) (aZ8 sp dvs E t):=by
 intro pins s σ H Q I h
 refine ge (wG I hg hm ?_ hdb)
 refine yw (h₀:=X.base) I.ok.mod.kin hk (cV (ha pos pins s σ H _ I h) ?_) he hpl;rintro us s1 ⟨vs,H1,I1,r,q⟩;refine ⟨I1.kIn,?_⟩
 exact cB7 F hr hb hd hx I1 r q
structure Mk (K:PySem.W.Frag) (C f:Addr):Prop where
 makes:PySem.W.makesIn K C=true
 init:PySem.W.findIn K (.ref C) "__init__"=some (some (.ref f))
 fn:PySem.W.isFn K (.ref f)=true
 kp:PySem.W.keepIn K (.ref C)=true
theorem bF7 {pins:List (Addr×Obj)}{σ: St}{H:Hp}{s:Shared}{Q:VK}{us:List Value}{vs:List V}(M:Mk X.K C f) (F:jY X.prog X.w X.K X.mg X.base CX k f fd ps sp) (hr:dE (k+1) X.A) (hb:fZ X.K fd ps ds) (hd:bB dvs ds)
  (hx:rL CX X E) (I:aR X pins σ H s) (r:bB vs us)
  (h:∀ x dx,H x=none->H dx=none->dx≠x->sp (.ref x :: (vs++dvs)) (aM (aM H dx (.own x)) x (.ins C dx [])) (fun v H2=>v= .non/\Q (.ref x) H2) E) :
  wpAny (model X.prog X.w) X.A (call (.ref C) us) (EP X pins σ Q) X.xe s:=by
 have hq:=h (s.heap.objs.size+1) s.heap.objs.size (I.hok.fresh (rm _)) (I.hok.fresh (ai _)) (bt (dq _))
 have I2:=aR.made (C:=C) I
 have r2:bB (V.ref (s.heap.objs.size+1) :: (vs++dvs)) (Value.ref (s.heap.objs.size+1) :: (us++ds)):= .cons rfl (r.append hd)
 have hl:(Value.ref (s.heap.objs.size+1) :: us++ds).length=ps.length:=by
  have e:=r2.length
  rw [F.len _ _ _ _ hq] at e
  exact e.symm
 refine wpAny_call (bG4 (f:=f) I.kIn M.makes M.init (qf.mp M.fn) (uq (F.run _ X.stack _ _ ⟨Value.ref (s.heap.objs.size+1) :: us,[]⟩ (Value.ref (s.heap.objs.size+1) :: (us++ds)) _ _ E (hr.make C us [])
  (I2.env0.make C us []) (hb _ (Value.ref (s.heap.objs.size+1) :: us) I2.kIn hl) r2 hq) fun r s' hq'=>?_))
 cases r with
 |error e=>exact hx pins σ _ _ e s' I2 hq'
 |ok fl =>
  cases fl with
  |ret u =>
   obtain ⟨v,H',I3,rv,ev,q3⟩:=I2.after hq'
   subst ev
   exact ⟨rv,⟨V.ref (s.heap.objs.size+1),H',I3,rfl,q3⟩⟩
  |next=>exact False.elim hq'
  |brk=>exact False.elim hq'
  |cont=>exact False.elim hq'
theorem bI0 (M:Mk X.K C f) (F:jY X.prog X.w X.K X.mg X.base CX k f fd ps sp) (hr:dE (k+1) X.A) (hg:Gl X x) (hm:X.mg x=some (.ref C)) (hb:fZ X.K fd ps ds) (hd:bB dvs ds) (hx:rL CX X E)
  (ha:PA X (e :: es) t) (hdb:autoParam ((x == ("__debug__": Str))=false) Rq1._auto_1) (he:autoParam (starEach (e :: es) X.env=(false,eval e X.env) :: starEach es X.env) Rq0._auto_1) (hpl:autoParam ((backTo pos (starEach es X.env)).any (·.1)=false) Rq0._auto_1) :
  PE X (.Call (.Name x p) (e :: es) [] pos) (bQ4 C sp dvs E t):=by
 intro pins s σ H Q I h
 refine ge (wG I hg hm ?_ hdb)
 refine yw (h₀:=X.base) I.ok.mod.kin M.kp (cV (ha pos pins s σ H _ I h) ?_) he hpl;rintro us s1 ⟨vs,H1,I1,r,q⟩;refine ⟨I1.kIn,?_⟩
 exact bF7 M F hr hb hd hx I1 r q
end
section
variable {X:Cx}{CX:CXT}{k:Nat}{f C:Addr}{fd:FuncData}{ps ks:List Str}{sp:Sp}{E:XK}{x m:Str}{p pos apos kpos:Pos}{e o:Expr}{es:List Expr}{kws:List Keyword}{te ta:TE}{t tk:TA}{nm:Option Str}
variable {g:List Value->List Value->List Value}{gV:List V->List V->List V}
end
structure mJ (N P:List Str) (sc:Scope):Prop where
 kind:sc.kind= .function
 co:sc.isCoroutine=false
 gen:sc.isGenerator=false
 nd:N.Nodup
 pre:N.take P.length=P
 par:∀ x∈P,sc.names.lookup x=some .local\/sc.names.lookup x=some .cell
 nofree:∀ y∈sc.names,y.2≠ .free
theorem uI {kindOf:Str->Option NameKind}{x:Str}:∀ {binds:List (Str×Value)}{m:Str->Option Value},(∀ v,(x,v)∉binds)->bindL kindOf binds m x=m x
 |[],_,_=>rfl
 |(n,v) :: r,m,h=>by
  unfold bindL
  rw [uI fun w hw=>h w (ae _ hw)]
  split
  ·have:x≠n:=by rintro rfl;exact h v ah
   simp [this]
  ·rfl
theorem uA {kindOf:Str->Option NameKind}{x:Str}:∀ {binds:List (Str×Value)}{m:Str->Option Value},(∀ v,(x,v)∉binds)->bindC kindOf binds m x=m x
 |[],_,_=>rfl
 |(n,v) :: r,m,h=>by
  unfold bindC
  rw [uA fun w hw=>h w (ae _ hw)]
  split
  ·rfl
  ·have:x≠n:=by rintro rfl;exact h v ah
   simp [this]
theorem vP {kindOf:Str->Option NameKind}{x:Str}{v:Value}:∀ {P:List Str}{vs:List Value}{i:Nat}{m:Str->Option Value},P.Nodup->P[i]?=some x->vs[i]?=some v->kindOf x=some .local ->
  bindL kindOf (P.zip vs) m x=some v
 |[],_,_,_,_,h,_,_=>by simp at h
 |_ :: _,[],_,_,_,_,h,_=>by simp at h
 |p :: P,w :: vs,0,m,nd,h1,h2,hk=>by
  simp at h1 h2;subst h1;subst h2
  show bindL kindOf ((p,w) :: P.zip vs) m p=_
  unfold bindL
  rw [uI fun v hv=>(ji.mp nd).1 (vn hv).1,ao hk]
  simp
 |p :: P,w :: vs,i+1,m,nd,h1,h2,hk=>by
  show bindL kindOf ((p,w) :: P.zip vs) m x=_
  unfold bindL
  exact vP (i:=i) (ji.mp nd).2 (by simpa using h1) (by simpa using h2) hk
theorem tT {kindOf:Str->Option NameKind}{x:Str}{v:Value}:∀ {P:List Str}{vs:List Value}{i:Nat}{m:Str->Option Value},P.Nodup->P[i]?=some x->vs[i]?=some v->kindOf x≠some .local ->
  bindC kindOf (P.zip vs) m x=some v
 |[],_,_,_,_,h,_,_=>by simp at h
 |_ :: _,[],_,_,_,_,h,_=>by simp at h
 |p :: P,w :: vs,0,m,nd,h1,h2,hk=>by
  simp at h1 h2;subst h1;subst h2
  show bindC kindOf ((p,w) :: P.zip vs) m p=_
  unfold bindC
  rw [uA fun v hv=>(ji.mp nd).1 (vn hv).1,aj hk]
  simp
 |p :: P,w :: vs,i+1,m,nd,h1,h2,hk=>by
  show bindC kindOf ((p,w) :: P.zip vs) m x=_
  unfold bindC
  exact tT (i:=i) (ji.mp nd).2 (by simpa using h1) (by simpa using h2) hk
def lM (N:List Str) (vs:List V):St:=vs.map some++List.replicate (N.length - vs.length) none
def yZ (CX:CXT) (P:Program) (w:World) (K:PySem.W.Frag) (mg:Str->Option Value) (base:Heap) (N:List Str) (qual:Str) (scope:Scope) (f:Addr) (cd:Value) (A:Around) (outer:List Env) (s:Shared) (H:Hp) (E:XK):Cx where
 prog:=P
 w:=w
 K:=K
 mg:=mg
 base:=base
 A:=A.deeper (envOfC qual scope s.heap.objs.size f cd)
 N:=N
 s₀:=s
 H₀:=H
 env:=envOfC qual scope s.heap.objs.size f cd
 outer:=outer
 stack:=envOfC qual scope s.heap.objs.size f cd :: outer
 ex:=[]
 calm:=true
 fn:=fun _=>true
 pn:=[]
 xe:=fun e s'=>wpAny (model P w) (A.deeper (envOfC qual scope s.heap.objs.size f cd)) (leaving (envOfC qual scope s.heap.objs.size f cd) e) (fun _ s''=>CX outer H s E e s'') (fun e' s''=>CX outer H s E e' s'') s'
theorem zK {sc:Scope}{n:Nat}{x:Str}(h:sc.names.lookup x=some .cell):∃ c,(cellsFrom n sc.names []).lookup x=some c:=by
 have q:=vw sc.names n [] (.inl h)
 exact ur.mp q
theorem aP8 {CX:CXT}{P:Program}{w:World}{K:PySem.W.Frag}{mg:Str->Option Value}{base:Heap}{N ps:List Str}{qual:Str}{scope:Scope}{f:Addr}{cd:Value}{A:Around}{outer:List Env}{s s1:Shared}{H:Hp}{E:XK}{us:List Value}{vs:List V}
  (S:mJ N ps scope) (hd:A.handled=none) (e0:aE8 P w K mg base A outer s H) (hl:vs.length=ps.length) (r:bB vs us)
  (x:InCallC s s.heap.objs.size (bindL (envOfC qual scope s.heap.objs.size f cd).kindOf (ps.zip us) fun _=>none) (cellsFrom (s.heap.objs.size+1) scope.names []) (bindC (envOfC qual scope s.heap.objs.size f cd).kindOf (ps.zip us) fun _=>none) s1) :
  aR (yZ CX P w K mg base N qual scope f cd A outer s H E) [] (lM N vs) H s1:=by
 have hpl:ps.length<=N.length:=by have:=gv List.length S.pre;rw [dk] at this;omega
 obtain ⟨h1,tk,rfl,hk⟩:=x.done
 have noA:∀ b:Addr,b∉(yZ CX P w K mg base N qual scope f cd A outer s H E).ex:=fun b z=>absurd (show b∈([]:List Addr) from z) (by simp)
 refine ⟨⟨e0.mod,S.kind,rfl,rfl,ai _,fun y z c h1 h2=>?_,fun y hy=>?_,fun y c _ h=>?_,fun _=>hd,Around.frames_deeper e0.frames,.inr ⟨rfl,rfl⟩,fun b z=>absurd z (noA b),e0.bs,e0.bsz,fun b _ _=>noA b,fun b z=>absurd z (noA b),e0.funs,e0.frf⟩,
  rfl,e0.bare,Un.kept hk,⟨_,x.toInCall.ns,fun i y v h1 h2 h3=>?_⟩,fun y c h=>⟨_,x.cell y c h⟩,e0.hok.fresh (ai _),fun y c h=>?_,fun p hp=>absurd (show p∈([]:List (Addr×Obj)) from hp) (by simp),e0.hok.kept hk,?_⟩
 ·exact name_of_addr x.apart (iw h1) (iw h2)
 ·have hy:scope.names.lookup y=some .cell\/scope.names.lookup y=some .free:=hy
  rcases hy with hy | hy
  ·exact zK hy
  ·exact absurd rfl (S.nofree _ (iw hy))
 ·exact fk (x.above y c (iw h))
 ·have hi:i < vs.length:=by
   unfold lM at h2
   by_cases hi:i < vs.length
   ·exact hi
   ·rw [tz (by simpa using hi)] at h2
    rw [List.getElem?_replicate] at h2
    split at h2 <;> cases h2
  have ha:vs[i]?=some v:=by
   unfold lM at h2
   rw [List.getElem?_append_left (by simpa using hi),cy] at h2
   cases e:vs[i]? with
   |none=>rw [e] at h2;cases h2
   |some a=>rw [e] at h2;cases h2;rfl
  obtain ⟨u,hu,rv⟩:=r.get ha
  have hp:ps[i]?=some y:=by
   rw [<- S.pre,List.getElem?_take_of_lt (by omega)];exact h1
  have ndP:ps.Nodup:=by rw [<- S.pre];exact S.nd.sublist (zr _ _)
  refine ⟨u,rv,?_⟩
  rcases S.par y (br hp) with k | k
  ·exact .inl ⟨k,vP ndP hp hu k⟩
  ·obtain ⟨c,e⟩:=zK (n:=s.heap.objs.size+1) k
   refine .inr ⟨.inl k,c,e,?_⟩
   have q:=x.cell y c e
   rw [tT ndP hp hu (by show scope.names.lookup y≠_;rw [k];decide)] at q
   exact q
 ·exact e0.hok.fresh (fk (x.above y c (iw h)))
 ·unfold lM
  show _=N.length
  rw [be,ac,List.length_replicate]
  omega
theorem bR0 {CX:CXT}{P:Program}{w:World}{K:PySem.W.Frag}{mg:Str->Option Value}{base:Heap}{k:Nat}{f:Addr}{name qual:Str}{params:Arguments}{body:List Stmt}{scope:Scope}{dV kV doc pm cdv ct oc:Value}{an od:Option Addr}
  {osl:Array (Option Value)}{N ps:List Str}{sp:Sp}(lk:K.lookup f=some ⟨oc,od,.func (PySem.W.fnOf name qual params body scope dV kV doc pm an cdv ct),osl⟩) (hcd:PySem.W.codeIn K cdv qual=true) (S:mJ N ps scope)
  (len:∀ vs H Q E,sp vs H Q E->vs.length=ps.length)
  (hbody:∀ (A:Around) (outer:List Env) (s:Shared) (H:Hp) (vs:List V) (Q:VK) (E:XK),dE k (A.deeper (envOfC qual scope s.heap.objs.size f cdv))->sp vs H Q E ->
   ∃ t,vW (yZ CX P w K mg base N qual scope f cdv A outer s H E) body t/\t { nx:=fun _ H'=>Q .non H',rt:=Q } (lM N vs) H) :
  jY P w K mg base CX (k+1) f (PySem.W.fnOf name qual params body scope dV kV doc pm an cdv ct) ps sp:=by
 refine ⟨len,fun A outer s H args us vs Q E hr e0 hb r hsp=>?_⟩
 have hl:=len _ _ _ _ hsp
 have KX:K.In s.heap:=e0.mod.kin.keeps fun b o e=>(e0.bs b o e).1
 have lim:s.heap.NoLimit:=e0.mod.nolimit.keeps fun b o e=>(e0.bs b o e).1
 have hkind:∀ y∈ps.zip us,scope.names.lookup y.1=some .local\/(scope.names.lookup y.1=some .cell/\((cellsFrom (s.heap.objs.size+1) scope.names []).lookup y.1).isSome=true):=fun ⟨n,v⟩ hy=>by
  rcases S.par n (vn hy).1 with q | q
  ·exact .inl q
  ·exact .inr ⟨q,vw _ _ _ (.inl q)⟩
 refine codeAny_call_function hr.depth (KX _ _ lk) rfl S.co S.gen rfl (PySem.W.codeRec_of KX hcd) (hb _ _ _ _ ?_)
 refine wpAny_newFunctionEnv_cells S.kind hkind fun env he s1 x=>?_
 subst he
 refine ⟨lim.keeps x.toInCall.keep,codeAny_func ?_⟩
 obtain ⟨t,ht,hq⟩:=hbody A outer s H vs Q E (hr.deeper _) hsp
 have I:aR (yZ CX P w K mg base N qual scope f cdv A outer s H E) [] (lM N vs) H s1:=aP8 S hr.hd e0 hl r x
 refine fq (ht [] s1 (lM N vs) H _ I hq) (fun fl s' hs=>?_) fun e s' hs=>hs
 have fin:∀ {σ':St}{H':Hp}{v:V}{u:Value},aR (yZ CX P w K mg base N qual scope f cdv A outer s H E) [] σ' H' s'->bG v u->Q v H'->CE outer P w H s Q u s' :=
  fun {σ' H' v u} J rv q=>⟨v,H',J.os,J.bare,J.base,J.hok,rv,q⟩
 cases fl with
 |ret u =>
  obtain ⟨v,σ',H',J,rv,q⟩:=hs
  exact fin J rv q
 |next =>
  obtain ⟨σ',H',J,q⟩:=hs
  exact fin (v:=V.non) (u:=Value.none) J rfl q
 |brk =>
  obtain ⟨_,_,_,q⟩:=hs
  exact False.elim q
 |cont =>
  obtain ⟨_,_,_,q⟩:=hs
  exact False.elim q
section
variable {X:Cx}{x:Str}{p pos:Pos}{e:Expr}{es:List Expr}{t:TA}{id T:String}{r:List V->Hp->VK->Prop}
def tCB (r:List V->Hp->VK->Prop) (t:TA):TE:=fun σ H Q=>t σ H fun vs H1=>r vs H1 Q
theorem bG5 (hc:eS X (.builtin id) r) (hg:Gl X x) (hm:X.mg x=none) (hv:bootBuiltins x=some (.builtin id)) (ha:PA X (e :: es) t) (hn:autoParam (x≠"__name__") Rq1._auto_1) (hdb:autoParam ((x == ("__debug__": Str))=false) Rq1._auto_1)
  (he:autoParam (starEach (e :: es) X.env=(false,eval e X.env) :: starEach es X.env) Rq0._auto_1) (hpl:autoParam ((backTo pos (starEach es X.env)).any (·.1)=false) Rq0._auto_1):PE X (.Call (.Name x p) (e :: es) [] pos) (tCB r t):=by
 intro pins s σ H Q I h
 refine ge (jM I hg hm hv ?_ hn hdb)
 refine PyProof.Rows.callWith_builtin1 (cV (ha pos pins s σ H _ I h) ?_) he hpl;rintro us s1 ⟨vs,H1,I1,r1,q1⟩;exact hc pins s1 σ H1 vs us Q I1 r1 q1
theorem aQ2 (hc:eS X (.type T) r) (hg:Gl X x) (hm:X.mg x=none) (hv:bootBuiltins x=some (.type T)) (ha:PA X (e :: es) t) (hn:autoParam (x≠"__name__") Rq1._auto_1) (hdb:autoParam ((x == ("__debug__": Str))=false) Rq1._auto_1)
  (he:autoParam (starEach (e :: es) X.env=(false,eval e X.env) :: starEach es X.env) Rq0._auto_1) (hpl:autoParam ((backTo pos (starEach es X.env)).any (·.1)=false) Rq0._auto_1):PE X (.Call (.Name x p) (e :: es) [] pos) (tCB r t):=by
 intro pins s σ H Q I h
 refine ge (jM I hg hm hv ?_ hn hdb)
 refine fi (cV (ha pos pins s σ H _ I h) ?_) he hpl;rintro us s1 ⟨vs,H1,I1,r1,q1⟩;exact hc pins s1 σ H1 vs us Q I1 r1 q1
end
section
variable {κ: Type} [DecidableEq κ]
def dA (kvs:List (κ×V)) (k:κ):Option V:=(kvs.find? fun kv=>decide (kv.1=k)).map (·.2)
def cM (kvs:List (κ×V)) (k:κ) (v:V):List (κ×V) :=
 if (kvs.any fun kv=>decide (kv.1=k))=true then kvs.map (fun kv=>if kv.1=k then (kv.1,v) else kv) else kvs++[(k,v)]
theorem kH {k:κ}:dA ([]:List (κ×V)) k=none:=rfl
theorem bN {p:κ×V}{r:List (κ×V)}{k:κ}(e:p.1=k):dA (p :: r) k=some p.2:=by simp [dA,List.find?_cons,e]
theorem aO {p:κ×V}{r:List (κ×V)}{k:κ}(e:¬ p.1=k):dA (p :: r) k=dA r k:=by simp [dA,List.find?_cons,e]
theorem dJ (k:κ):∀ kvs:List (κ×V),(kvs.any fun kv=>decide (kv.1=k))=(dA kvs k).isSome
 |[]=>rfl
 |p :: r=>by
  rw [mh]
  by_cases e:p.1=k
  ·simp only [bN e,decide_eq_true e,Bool.true_or,Option.isSome_some]
  ·rw [aO e,dm e,Bool.false_or];exact dJ k r
theorem yO (k j:κ) (y:V):∀ kvs:List (κ×V),dA (kvs.map fun kv=>if kv.1=k then (kv.1,y) else kv) j=(dA kvs j).map fun x=>if j=k then y else x
 |[]=>rfl
 |p :: r=>by
  have ih:=yO k j y r
  rw [bi]
  by_cases h:p.1=k
  ·rw [ao h]
   by_cases e:p.1=j
   ·rw [bN (p:=(p.1,y)) e,bN e,qg,ao (e.symm.trans h)]
   ·rw [aO (p:=(p.1,y)) e,aO e,ih]
  ·rw [aj h]
   by_cases e:p.1=j
   ·rw [bN (p:=p) e,bN e,qg,aj (fun z=>h (e.trans z))]
   ·rw [aO (p:=p) e,aO e,ih]
theorem uO (k j:κ) (y:V):∀ kvs:List (κ×V),dA kvs k=none->dA (kvs++[(k,y)]) j=if j=k then some y else dA kvs j
 |[],_=>by
  by_cases e:k=j
  ·rw [ao e.symm];exact bN (p:=(k,y)) e
  ·rw [aj (fun z=>e z.symm)];exact aO (p:=(k,y)) e
 |p :: r,hn=>by
  rw [List.cons_append]
  have hk:¬ p.1=k:=fun z=>by rw [bN z] at hn;cases hn
  rw [aO hk] at hn
  have ih:=uO k j y r hn
  by_cases e:p.1=j
  ·rw [bN e,bN e,aj (fun z=>hk (e.trans z))]
  ·rw [aO e,aO e,ih]
theorem aY4 (kvs:List (κ×V)) (k j:κ) (y:V):dA (cM kvs k y) j=if j=k then some y else dA kvs j:=by
 unfold cM
 by_cases a:(kvs.any fun kv=>decide (kv.1=k))=true
 ·rw [ao a,yO]
  rw [dJ] at a
  by_cases e:j=k
  ·obtain ⟨x,hx⟩:=ur.mp a
   rw [ao e,e,hx,qg,ao rfl]
  ·rw [aj e]
   cases dA kvs j with
   |none=>rfl
   |some x=>rw [qg,aj e]
 ·rw [aj a]
  refine uO k j y kvs ?_
  rw [dJ] at a
  cases q:dA kvs k with
  |none=>rfl
  |some x=>rw [q] at a;exact (a rfl).elim
theorem iG (kvs:List (κ×V)) (k:κ) (v:V):(cM kvs k v).length<=kvs.length+1:=by
 unfold cM
 split
 ·rw [ac];omega
 ·rw [be,ci,List.length_nil];omega
theorem iV {kvs:List (κ×V)}{k:κ}(v:V) (h:dA kvs k=none):cM kvs k v=kvs++[(k,v)]:=by
 unfold cM
 rw [dJ,h]
 exact aj (by decide)
theorem kO.isSome_eq {o:Option V}{u:Option Value}(r:kO o u):o.isSome=u.isSome:=by
 cases o with
 |none=>cases u with
  |none=>rfl
  |some _=>exact (show False from r).elim
 |some _=>cases u with
  |none=>exact (show False from r).elim
  |some _=>rfl
theorem kO.getD {o:Option V}{u:Option Value}{d:V}{d':Value}(r:kO o u) (rd:bG d d'):bG (o.getD d) (u.getD d'):=by
 cases o with
 |none=>cases u with
  |none=>exact rd
  |some _=>exact (show False from r).elim
 |some _=>cases u with
  |none=>exact (show False from r).elim
  |some _=>exact r
theorem KV.val {kvs:List (κ×V)}{vs:List (κ×Value)}(r:KV kvs vs) (k:κ):kO (dA kvs k) (valueAt vs k):=by
 unfold KV at r
 induction r with
 |nil=>exact jt
 |@cons p q ps qs h t ih =>
  obtain ⟨h1,h2⟩:=h
  by_cases e:p.1=k
  ·have e':q.1=k:=h1.symm.trans e
   have b:valueAt (q :: qs) k=some q.2:=by simp [valueAt,List.find?_cons,e']
   rw [bN e,b];exact h2
  ·have e':¬ q.1=k:=fun z=>e (h1.trans z)
   have b:valueAt (q :: qs) k=valueAt qs k:=by simp [valueAt,List.find?_cons,e']
   rw [aO e,b];exact ih
theorem KV.any {kvs:List (κ×V)}{vs:List (κ×Value)}(r:KV kvs vs) (k:κ):(kvs.any fun kv=>decide (kv.1=k))=vs.any fun kv=>decide (kv.1=k):=by
 unfold KV at r
 induction r with
 |nil=>rfl
 |cons h t ih=>rw [mh,mh,ih,h.1]
theorem KV.repl {kvs:List (κ×V)}{vs:List (κ×Value)}(r:KV kvs vs) (k:κ) {y:V}{u:Value}(ry:bG y u) :
  KV (kvs.map fun kv=>if kv.1=k then (kv.1,y) else kv) (vs.map fun kv=>if kv.1=k then (kv.1,u) else kv):=by
 unfold KV at r ⊢
 induction r with
 |nil=>exact .nil
 |@cons p q ps qs h t ih =>
  rw [bi,bi]
  refine .cons ?_ ih
  obtain ⟨h1,h2⟩:=h
  by_cases e:p.1=k
  ·rw [ao e,ao (h1.symm.trans e)];exact ⟨h1,ry⟩
  ·rw [aj e,aj (fun z=>e (h1.trans z))];exact ⟨h1,h2⟩
theorem KV.put {kvs:List (κ×V)}{vs:List (κ×Value)}(r:KV kvs vs) (k:κ) {y:V}{u:Value}(ry:bG y u):KV (cM kvs k y) (stored vs k u):=by
 unfold cM stored
 rw [r.any k]
 by_cases e:(vs.any fun kv=>decide (kv.1=k))=true
 ·rw [ao e,ao e];exact r.repl k ry
 ·rw [aj e,aj e];exact aAa r ⟨rfl,ry⟩
theorem KV.length {kvs:List (κ×V)}{vs:List (κ×Value)}(r:KV kvs vs):kvs.length=vs.length:=iq r
end
theorem vC {P:Program}{w:World}{k:Key}{u:Value}(r:bG (kV k) u):(bH P w).is k u=true:=by
 cases k with
 |inl i=>obtain ⟨t,e⟩:=(show ∃ t,u=Value.int i t from r);subst e;exact zI P w i t
 |inr x=>obtain ⟨t,e⟩:=(show ∃ t,u=Value.str x t from r);subst e;exact aB2 P w x t
theorem uN {P:Program}{w:World}:∀ {ks:List Key}{us:List Value},bB (ks.map kV) us->ItemsAre (bH P w) ks us
 |[],_,r=>by rw [ut] at r;cases r;exact .nil
 |k :: ks,_,r=>by
  rw [bi] at r
  cases r with
  |cons h t=>exact .cons (vC h) (uN t)
abbrev KT (H:Hp):List (List Key×V)->List (List Key×Addr×Value)->Prop:=Paired fun p q=>p.1=q.1/\H q.2.1=some (.tup (p.1.map kV))/\bG p.2 q.2.2
theorem KT.val {H:Hp}{kvs:List (List Key×V)}{xs:List (List Key×Addr×Value)}(r:KT H kvs xs) (k:List Key):kO (dA kvs k) ((atKey xs k).map (·.2)):=by
 induction r with
 |nil=>exact jt
 |@cons p q ps qs h t ih =>
  obtain ⟨h1,_,h2⟩:=h
  by_cases e:p.1=k
  ·have e':q.1=k:=h1.symm.trans e
   have b:atKey (q :: qs) k=some q.2:=by simp [atKey,List.find?_cons,e']
   rw [bN e,b];exact h2
  ·have e':¬ q.1=k:=fun z=>e (h1.trans z)
   have b:atKey (q :: qs) k=atKey qs k:=by simp [atKey,List.find?_cons,e']
   rw [aO e,b];exact ih
theorem KT.repl {H:Hp}{kvs:List (List Key×V)}{xs:List (List Key×Addr×Value)}(r:KT H kvs xs) (k:List Key) {y:V}{u:Value}(ry:bG y u) :
  KT H (kvs.map fun kv=>if kv.1=k then (kv.1,y) else kv) (xs.map (putAt k u)):=by
 induction r with
 |nil=>exact .nil
 |@cons p q ps qs h t ih =>
  rw [bi,bi]
  refine .cons ?_ ih
  obtain ⟨h1,h2,h3⟩:=h
  unfold putAt
  by_cases e:p.1=k
  ·rw [ao e,ao (h1.symm.trans e)];exact ⟨h1,h2,ry⟩
  ·rw [aj e,aj (fun z=>e (h1.trans z))];exact ⟨h1,h2,h3⟩
theorem KT.put {H:Hp}{kvs:List (List Key×V)}{xs:List (List Key×Addr×Value)}(r:KT H kvs xs) (k:List Key) {b:Addr}{y:V}{u:Value}(hb:H b=some (.tup (k.map kV))) (ry:bG y u) :
  KT H (cM kvs k y) (storedH xs k b u):=by
 have e:(kvs.any fun kv=>decide (kv.1=k))=(atKey xs k).isSome:=by
  rw [dJ,(r.val k).isSome_eq,oj]
 unfold cM storedH
 rw [e]
 by_cases q:(atKey xs k).isSome=true
 ·rw [ao q,ao q];exact r.repl k ry
 ·rw [aj q,aj q];exact aAa r ⟨rfl,hb,ry⟩
theorem KT.keeps {H H':Hp}{kvs:List (List Key×V)}{xs:List (List Key×Addr×Value)}(r:KT H kvs xs) (ht:∀ b ys,H b=some (.tup ys)->H' b=some (.tup ys)):KT H' kvs xs :=
 Paired.mapP r fun _ _ z=>⟨z.1,ht _ _ z.2.1,z.2.2⟩
section
variable {P:Program}{w:World}{H:Hp}{h:Heap}{a:Addr}
theorem bC8 {u:HO}(ok:kA P w H h) (e:Rd H a u):cJ P w H h a u:=e.ok ok
theorem tU {kvs:List (Key×V)}(ok:kA P w H h) (e:Rd H a (.dK kvs)):kvs.length<=sizeLine/\(a == sysModules)=false/\∃ vs,KV kvs vs/\h.DictOf (bH P w) a vs :=
 show cJ P w H h a (.dK kvs) from bC8 ok e
theorem aM0 {kvs:List (Key×V)}(ok:kA P w H h) (e:H a=some (.dK kvs)):kvs.length<=sizeLine/\(a == sysModules)=false/\∃ vs,KV kvs vs/\h.DictOf (bH P w) a vs:=tU ok (.inl e)
theorem qY {ks:List Key}(ok:kA P w H h) (e:H a=some (.tup (ks.map kV))):(tupleKind (bH P w)).is h ks a:=by
 obtain ⟨_,its,r,o,h1,h2,n,h3,_⟩:=(show cJ P w H h a (.tup (ks.map kV)) from ok a _ e)
 exact ⟨o,its.toArray,n,h1,h2,h3,by simpa using uN r⟩
theorem uV {kvs:List (List Key×V)}(ok:kA P w H h) (e:Rd H a (.dT kvs)):kvs.length<=sizeLine/\(a == sysModules)=false /\
  ∃ xs,KT H kvs xs/\h.DictOfH (tupleKind (bH P w)) a xs:=by
 obtain ⟨z,y,xs,r,o,es,ep,h1,h2,h3,h4,h5⟩:=(show cJ P w H h a (.dT kvs) from bC8 ok e)
 refine ⟨z,y,xs,r,o,es,ep,h1,h2,h3,h4,fun x hx=>?_,h5⟩
 have all:∀ {l:List (List Key×V)}{m:List (List Key×Addr×Value)},KT H l m->∀ x∈m,(tupleKind (bH P w)).is h x.1 x.2.1:=by
  intro l m q
  induction q with
  |nil=>intro x hx;exact nomatch hx
  |@cons p q ps qs hq t ih =>
   intro x hx
   rcases av.mp hx with e | hx
   ·subst e
    exact qY ok (by rw [<- hq.1];exact hq.2.1)
   ·exact ih x hx
 exact all r x hx
theorem cH7 {kvs:List (List Key×V)}(ok:kA P w H h) (e:H a=some (.dT kvs)):kvs.length<=sizeLine/\(a == sysModules)=false /\
  ∃ xs,KT H kvs xs/\h.DictOfH (tupleKind (bH P w)) a xs:=uV ok (.inl e)
end
def fD (H:Hp) (a:Addr) (y:V) (r:Option V):Prop :=
 (∃ kvs k,Rd H a (.dK kvs)/\y=kV k/\r=dA kvs k)\/∃ kvs k b,Rd H a (.dT kvs)/\y= .ref b/\H b=some (.tup (k.map kV))/\r=dA kvs k
def nA (H:Hp) (a:Addr) (y v:V) (H':Hp):Prop :=
 (∃ kvs k,H a=some (.dK kvs)/\y=kV k/\kvs.length < sizeLine/\H'=aM H a (.dK (cM kvs k v))) \/
 ∃ kvs k b,H a=some (.dT kvs)/\y= .ref b/\H b=some (.tup (k.map kV))/\kvs.length < sizeLine/\H'=aM H a (.dT (cM kvs k v))
theorem fD.k {H:Hp}{a:Addr}{kvs:List (Key×V)}{k:Key}(e:H a=some (.dK kvs)):fD H a (kV k) (dA kvs k):= .inl ⟨kvs,k,.inl e,rfl,rfl⟩
theorem nA.k {H:Hp}{a:Addr}{kvs:List (Key×V)}{k:Key}{v:V}(e:H a=some (.dK kvs)) (hl:kvs.length < sizeLine):nA H a (kV k) v (aM H a (.dK (cM kvs k v))):= .inl ⟨kvs,k,e,rfl,hl,rfl⟩
section
variable {X:Cx}{pins:List (Addr×Obj)}{σ: St}{H:Hp}{s:Shared}{a:Addr}{y v:V}{u r:Value}{o:Option V}{A:Around}{E:Value->Shared->Prop}
theorem aR.big (I:aR X pins σ H s):sysModules < s.heap.objs.size:=by
 have h:mainGlobals < s.heap.objs.size:=(I.mod.glob.keeps I.bk).lt
 exact Nat.lt_trans (by decide) h
theorem tY {Q:Value->Shared->Prop}(hu:A.units+1 < cLine) (I:aR X pins σ H s) (g:fD H a y (some v)) (ry:bG y u) (h:∀ w' s',aR X pins σ H s'->bG v w'->Q w' s') :
  wpAny (model X.prog X.w) A (getItem (.ref a) u) Q E s:=by
 rcases g with ⟨kvs,k,e,ey,l⟩ | ⟨kvs,k,b,e,ey,eb,l⟩
 ·subst ey
  obtain ⟨z,hd,vs,rel,dd⟩:=tU I.hok e
  obtain ⟨w',hw,rw'⟩:=kO.some_of (v:=v) (o:=valueAt vs k) (by rw [l];exact rel.val k)
  exact wpAny_getItem_of (vC ry) dd.mapOf hw (h w' _ (I.tok _) rw')
 ·subst ey
  cases (show u=Value.ref b from ry)
  obtain ⟨z,hd,xs,rel,dd⟩:=uV I.hok e
  obtain ⟨w',hw,rw'⟩:=kO.some_of (v:=v) (o:=(atKey xs k).map (·.2)) (by rw [l];exact rel.val k)
  obtain ⟨p,hp,hp2⟩:=gh.mp hw
  refine yx (mv hu) (qY I.hok eb) dd hp ?_
  rw [hp2]
  exact h w' _ (I.tok _) rw'
theorem bL3 {Q:Value->Shared->Prop}(hu:A.units+1 < cLine) (I:aR X pins σ H s) (g:fD H a y o) (ry:bG y u) (h:∀ s',aR X pins σ H s'->Q (.bool (!o.isSome)) s') :
  wpAny (model X.prog X.w) A (compareOp .NotIn u (.ref a)) Q E s:=by
 rcases g with ⟨kvs,k,e,ey,l⟩ | ⟨kvs,k,b,e,ey,eb,l⟩
 ·subst ey
  obtain ⟨z,hd,vs,rel,dd⟩:=tU I.hok e
  refine wpAny_notIn_of (vC ry) hd dd.mapOf ?_
  rw [<- (rel.val k).isSome_eq, <- l]
  exact h _ (I.tok _)
 ·subst ey
  cases (show u=Value.ref b from ry)
  obtain ⟨z,hd,xs,rel,dd⟩:=uV I.hok e
  refine wpAny_notIn_heap (mv hu) (qY I.hok eb) hd dd ?_
  have q:=(rel.val k).isSome_eq
  rw [oj] at q
  rw [<- q, <- l]
  exact h _ (I.tok _)
theorem pV {h':Heap}{t':Nat}{ob:HO}(I:aR X pins σ H s) (mu:Mut (H a)) (hs:Heap.SameBut a s.heap h') (he:∃ q,h'.get? a=some q) (new:cJ X.prog X.w (aM H a ob) h' a ob) :
  aR X pins σ (aM H a ob) { s with heap:=h',toks:=t' } :=
 I.write (x:=a) (e:=a) mu (.inl rfl) (fun b q hb z=>(hs.2 b hb).trans z) he new
theorem aI7 {P:Program}{w:World}{H':Hp}{h':Heap}{kvs:List (Key×V)}{vs:List (Key×Value)}(z:kvs.length<=sizeLine) (hd:(a == sysModules)=false) (rel:KV kvs vs) (dd:h'.DictOf (bH P w) a vs) :
  cJ P w H' h' a (.dK kvs):=⟨z,hd,vs,rel,dd⟩
theorem uR {H':Hp}{Q:Unit->Shared->Prop}(hu:A.units+1 < cLine) (I:aR X pins σ H s) (g:nA H a y v H') (ry:bG y u) (rv:bG v r) (h:∀ s',aR X pins σ H' s'->Q () s') :
  wpAny (model X.prog X.w) A (setItem (.ref a) u r) Q E s:=by
 rcases g with ⟨kvs,k,e,ey,l,eH⟩ | ⟨kvs,k,b,e,ey,eb,l,eH⟩
 ·subst ey eH
  obtain ⟨z,hd,vs,rel,dd⟩:=aM0 I.hok e
  have hz:vs.length<=sizeLine:=by rw [<- rel.length];exact z
  have hl:(cM kvs k v).length<=sizeLine:=by have:=iG kvs k v;omega
  refine wpAny_setItem_pairs (hsz:=hz) (vC ry) dd fun h' dd' hs=>h _ ?_
  have he:∃ q,h'.get? a=some q:=by obtain ⟨q,_,_,hq,_⟩:=dd';exact ⟨q,hq⟩
  exact pV I (by rw [e];exact jt) hs he (aI7 hl hd (rel.put k rv) dd')
 ·subst ey eH
  cases (show u=Value.ref b from ry)
  obtain ⟨z,hd,xs,rel,dd⟩:=cH7 I.hok e
  have hz:xs.length<=sizeLine:=by rw [<- iq rel];exact z
  have hl:(cM kvs k v).length<=sizeLine:=by have:=iG kvs k v;omega
  refine yy (hsz:=hz) (mv hu) (qY I.hok eb) dd fun h' dd' hs=>h _ ?_
  obtain ⟨q,es,ep,hq,h2,h3,h4,_,h5⟩:=dd'
  refine pV I (by rw [e];exact jt) hs ⟨q,hq⟩ ⟨hl,hd,_,(rel.put k eb rv).keeps fun c ys ec=>?_,q,es,ep,hq,h2,h3,h4,h5⟩
  rw [aG (fW ec e (fun z=>nomatch z))]
  exact ec
end
section
variable {X:Cx}{pins:List (Addr×Obj)}{σ: St}{H:Hp}{s:Shared}{a:Addr}{kvs:List (Key×V)}{k:Key}{u:Value}{A:Around}{E:Value->Shared->Prop}
end
def aY7 (i:Expr):Prop:=∀ ov iv,subscripted i false ov iv=operate [ov,iv] (getItem ov iv)
theorem aK5 {prog:Program}{w:World}{A:Around}{E:Value->Shared->Prop}{s:Shared}{env:Env}{value slice:Expr}{pos:Pos}{T id:String}{Q:Value->Shared->Prop}
  (hl:typeLookup (.type T) "__getitem__"=pure (some (.builtin id))) (hs:aY7 slice)
  (h:wpAny (model prog w) A (eval value env) (fun o s₁=>wpAny (model prog w) A (eval slice env) (fun i s₂=>s₂.TypeIs o T/\wpAny (model prog w) A (getItem o i) Q E s₂) E s₁) E s) :
  wpAny (model prog w) A (eval (.Subscript value slice pos) env) Q E s:=by
 refine Subscript_ (fq h (fun o s₁ h₁=>fq h₁ (fun i s₂ h₂=>?_) fun _ _ x=>x) fun _ _ x=>x)
 obtain ⟨hT,h₂⟩:=h₂
 unfold subscriptTail
 refine aa ?_
 rw [getitemInPython_of_ne hT.not_modules]
 refine aa (gc hT hl ?_)
 have fin:wpAny (model prog w) A (subscripted slice false o i) (fun r s₃=>wpAny (model prog w) A (letTemporaryGo value o r >>= fun _=>pure r) Q E s₃) E s₂:=by
  rw [hs o i]
  exact wpAny_operating (fq h₂ (fun r s₃ h₃=>aa (wpAny_letTemporaryGo (am h₃))) fun _ _ x=>x)
 first
  |exact am (aa fin)
  |exact aa (am (aa fin))
  |exact aa fin
theorem oV {X:Cx}{pins:List (Addr×Obj)}{σ: St}{H:Hp}{s:Shared}{a:Addr}{y:V}{o:Option V}(I:aR X pins σ H s) (g:fD H a y o):s.TypeIs (.ref a) "dict":=by
 rcases g with ⟨kvs,k,e,_,_⟩ | ⟨kvs,k,b,e,_,_,_⟩
 ·obtain ⟨_,_,vs,_,dd⟩:=tU I.hok e
  exact dd.typeIs
 ·obtain ⟨_,_,xs,_,dd⟩:=uV I.hok e
  exact dd.typeIs
def bR6 (td ty:TE):TE:=fun σ H Q=>td σ H fun x H1=>ty σ H1 fun y H2=>∃ a v,x= .ref a/\fD H2 a y (some v)/\Q v H2
def bS1 (td ty tv:TE):TS:=fun D σ H=>tv σ H fun v H1=>td σ H1 fun x H2=>ty σ H2 fun y H3=>∃ a H4,x= .ref a/\nA H3 a y v H4/\D.nx σ H4
section
variable {X:Cx}{o i e value:Expr}{pos pos' tpos:Pos}{td ty tv:TE}
theorem bM3 (hu:X.A.units+1 < cLine) (ho:PE X o td) (hi:PE X i ty) (hs:aY7 i):PE X (.Subscript o i pos) (bR6 td ty):=by
 intro pins s σ H Q I h
 refine aK5 PySem.F.slot_dict_getitem.lookup hs (cV (ho pins s σ H _ I h) ?_);rintro u s1 ⟨x,H1,I1,rx,q1⟩;refine cV (hi pins s1 σ H1 _ I1 q1) ?_;rintro iv s2 ⟨y,H2,I2,ry,a,v,ex,g,q2⟩
 subst ex
 obtain rfl:u=Value.ref a:=rx
 exact ⟨oV I2 g,tY hu I2 g ry fun w' s3 I3 rw'=>⟨v,H2,I3,rw',q2⟩⟩
theorem bO9 (hu:X.A.units+1 < cLine) (ho:PE X o td) (hi:PE X i ty) (hv:PE X value tv) (hs:swapsWith value (some (.Subscript o i pos')) pos.line X.env=pure false) :
  PS X (.Assign [.Subscript o i pos'] value pos) (bS1 td ty tv):=by
 intro pins s σ H D I h
 refine vx (cV (hv pins s σ H _ I h) ?_) hs;rintro r s1 ⟨v,H1,I1,rv,q1⟩;refine cV (ho pins s1 σ H1 _ I1 q1) ?_;rintro u s2 ⟨x,H2,I2,rx,q2⟩;refine cV (hi pins s2 σ H2 _ I2 q2) ?_;rintro iv s3 ⟨y,H3,I3,ry,a,H4,ex,g,q3⟩
 subst ex
 obtain rfl:u=Value.ref a:=rx
 exact uR hu I3 g ry rv fun s4 I4=>⟨σ,H4,I4,q3⟩
end
theorem xX {P:Program}{w:World}{H:Hp}(h:Heap) (hb:sysModules < h.objs.size):cJ P w H (h.push { cls:= .type "dict",data:= .dict #[] }) h.objs.size (.dK []) :=
 ⟨bj _,gn.mpr (Ne.symm (bt hb)),[],.nil,Heap.DictOf.new h⟩
theorem bD5 {P:Program}{w:World}{H:Hp}(h:Heap) (hb:sysModules < h.objs.size):cJ P w H (h.push { cls:= .type "dict",data:= .dict #[] }) h.objs.size (.dT []) :=
 ⟨bj _,gn.mpr (Ne.symm (bt hb)),[],.nil,_, #[],0,az _ rfl,⟨rfl,rfl,rfl⟩,rfl,rfl,qz⟩
def tDNewK:TE:=fun _ H Q=>∀ p,H p=none->Q (.ref p) (aM H p (.dK []))
def tDNewT:TE:=fun _ H Q=>∀ p,H p=none->Q (.ref p) (aM H p (.dT []))
section
variable {X:Cx}{pos:Pos}
theorem zU:PE X (.Dict [] [] pos) tDNewK:=fun pins s σ H Q I h =>
 uu ⟨.ref s.heap.objs.size,_,I.laid (a:=s.heap.objs.size) (o:= .dK []) (t':=s.toks) (fun _ _ q=>af _ q) (ai _) (xX s.heap I.big),rfl,h _ (I.hok.fresh (ai _))⟩
theorem bE6:PE X (.Dict [] [] pos) tDNewT:=fun pins s σ H Q I h =>
 uu ⟨.ref s.heap.objs.size,_,I.laid (a:=s.heap.objs.size) (o:= .dT []) (t':=s.toks) (fun _ _ q=>af _ q) (ai _) (bD5 s.heap I.big),rfl,h _ (I.hok.fresh (ai _))⟩
end
def aE9:List (TE×TE)->St->Hp->(List (V×V)->Hp->Prop)->Prop
 |[],_,H,Q=>Q [] H
 |(tk,tv) :: r,σ,H,Q=>tk σ H fun x H1=>tv σ H1 fun y H2=>aE9 r σ H2 fun ps H3=>Q ((x,y) :: ps) H3
abbrev VV:List (V×V)->List (Value×Value)->Prop:=Paired fun p q=>bG p.1 q.1/\bG p.2 q.2
def PPs (X:Cx) (pos:Pos) (keys:List (Option Expr)) (values:List Expr) (trs:List (TE×TE)):Prop :=
 ∀ (pins:List (Addr×Obj)) (s:Shared) (σ: St) (H:Hp) (Q:List (V×V)->Hp->Prop),aR X pins σ H s->aE9 trs σ H Q ->
  wpAny (model X.prog X.w) X.A (evalPairs (pairTrees keys values X.env pos)) (fun vs s'=>∃ ps H',aR X pins σ H' s'/\VV ps vs/\Q ps H') X.xe s
theorem bP1 {X:Cx}{pos:Pos}:PPs X pos [] [] []:=fun pins s σ H Q I h=>pairTrees_nil_walk ⟨[],H,I,.nil,h⟩
theorem iZ {X:Cx}{pos:Pos}{k v:Expr}{ks:List (Option Expr)}{vs:List Expr}{tk tv:TE}{trs:List (TE×TE)}(hk:PE X k tk) (hv:PE X v tv) (hr:PPs X pos ks vs trs) :
  PPs X pos (some k :: ks) (v :: vs) ((tk,tv) :: trs):=fun pins s σ H Q I h =>
 pairTrees_cons_walk (cV (hk pins s σ H _ I h) fun u s1 ⟨x,H1,I1,rx,q1⟩=>cV (hv pins s1 σ H1 _ I1 q1) fun w2 s2 ⟨y,H2,I2,ry,q2⟩ =>
  cV (hr pins s2 σ H2 _ I2 q2) (by rintro ws s3 ⟨ps,H3,I3,rel,q3⟩;exact ⟨(x,y) :: ps,H3,I3,.cons ⟨rx,ry⟩ rel,q3⟩))
def mE (kvs more:List (Key×V)):List (Key×V):=more.foldl (fun acc kv=>cM acc kv.1 kv.2) kvs
theorem KV.merge:∀ {more:List (Key×V)}{rs:List (Key×Value)}{kvs:List (Key×V)}{vs:List (Key×Value)},KV more rs->KV kvs vs->KV (mE kvs more) (merged vs rs):=by
 intro more rs kvs vs r
 unfold KV at r
 induction r generalizing kvs vs with
 |nil=>intro q;exact q
 |@cons p q ps qs h t ih =>
  intro r0
  have e:KV (cM kvs p.1 p.2) (stored vs q.1 q.2):=by
   have:=r0.put p.1 h.2
   rw [<- h.1];exact this
  exact ih e
theorem lH:∀ (more kvs:List (Key×V)),(mE kvs more).length<=kvs.length+more.length
 |[],kvs=>by show kvs.length<=kvs.length+0;omega
 |p :: r,kvs=>by
  have h1:=lH r (cM kvs p.1 p.2)
  have h2:=iG kvs p.1 p.2
  show (mE (cM kvs p.1 p.2) r).length<=_
  rw [ci];omega
theorem rN {P:Program}{w:World}:∀ {kvs:List (Key×V)}{ws:List (Value×Value)},VV (kvs.map fun kv=>(kV kv.1,kv.2)) ws->∃ rs,Carries (bH P w) ws rs/\KV kvs rs
 |[],_,r=>by rw [ut] at r;cases r;exact ⟨[],jt,.nil⟩
 |p :: kvs,_,r=>by
  rw [bi] at r
  cases r with
  |@cons a b as bs h t =>
   obtain ⟨rs,c,q⟩:=rN (P:=P) (w:=w) t
   obtain ⟨b1,b2⟩:=b
   exact ⟨(p.1,b2) :: rs,⟨vC h.1,rfl,c⟩,.cons ⟨rfl,h.2⟩ q⟩
def cI5 (trs:List (TE×TE)):TE:=fun σ H Q=>∀ p,H p=none->aE9 trs σ (aM H p (.dK [])) fun ps H2=>H2 p=some (.dK [])/\∃ kvs:List (Key×V),ps=kvs.map (fun kv=>(kV kv.1,kv.2))/\kvs.length<=15/\Q (.ref p) (aM H2 p (.dK (mE [] kvs)))
theorem bL4 {X:Cx}{pos:Pos}{keys:List (Option Expr)}{values:List Expr}{trs:List (TE×TE)}(h:PPs X pos keys values trs) (hall:keys.all (·.isSome)=true) (hl:keys.length=values.length) (h0:keys≠[])
  (h15:keys.length<=15):PE X (.Dict keys values pos) (cI5 trs):=by
 intro pins s σ H Q I q
 have hn:=I.hok.fresh (ai s.heap.objs.size)
 have I1:=I.laid (a:=s.heap.objs.size) (o:= .dK []) (h':=s.heap.push { cls:= .type "dict",data:= .dict #[] }) (t':=s.toks) (fun _ _ q=>af _ q) (ai _) (xX s.heap I.big)
 refine wpAny_Dict_walk (knd:=bH X.prog X.w) hall hl h0 h15 (cV (h pins _ σ _ _ I1 (q _ hn)) ?_);rintro ws s2 ⟨ps,H2,I2,rel,e,kvs,ep,lk,q2⟩
 subst ep
 obtain ⟨rs,c,rk⟩:=rN (P:=X.prog) (w:=X.w) rel
 obtain ⟨z,hd,vs0,r0,dd⟩:=aM0 I2.hok e
 cases r0
 refine ⟨rs,c,dd,fun h' dd' hs=>⟨.ref s.heap.objs.size,_,?_,rfl,q2⟩⟩
 have hz:(mE [] kvs).length<=sizeLine:=by
  have h1:=lH kvs []
  rw [List.length_nil] at h1
  rw [ju];omega
 have he:∃ q,h'.get? s.heap.objs.size=some q:=by obtain ⟨q,_,_,hq,_⟩:=dd';exact ⟨q,hq⟩
 exact pV I2 (by rw [e];exact jt) hs he (aI7 hz hd (rk.merge .nil) dd')
structure M1 (X:Cx) (o:Expr) (m:Str) (apos:Pos) (e:Expr) (cpos:Pos):Prop where
 base:attributeBase o m X.env (eval o X.env)=eval o X.env
 few:((backTo cpos (starEach [e] X.env)).all (fun x=> !x.1) && (backToKw cpos (keywordEach [] X.env)).all (fun x=>x.1.isSome)
  && decide (([e]:List Expr).length+([]:List Keyword).length+(if ([]:List Keyword).isEmpty then 0 else 1) < 30))=true
 line:(apos.endLine == cpos.line)=true
 trees:backTo cpos (starEach [e] X.env)=[(false,eval e X.env)]
structure M2 (X:Cx) (o:Expr) (m:Str) (apos:Pos) (e f:Expr) (cpos:Pos):Prop where
 base:attributeBase o m X.env (eval o X.env)=eval o X.env
 few:((backTo cpos (starEach [e,f] X.env)).all (fun x=> !x.1) && (backToKw cpos (keywordEach [] X.env)).all (fun x=>x.1.isSome)
  && decide (([e,f]:List Expr).length+([]:List Keyword).length+(if ([]:List Keyword).isEmpty then 0 else 1) < 30))=true
 line:(apos.endLine == cpos.line)=true
 trees:backTo cpos (starEach [e,f] X.env)=[(false,eval e X.env),(false,eval f X.env)]
def IsD (H:Hp) (a:Addr):Prop:=(∃ kvs,Rd H a (.dK kvs))\/∃ kvs,Rd H a (.dT kvs)
theorem cA5 {X:Cx}{pins:List (Addr×Obj)}{σ: St}{H:Hp}{s:Shared}{a:Addr}(I:aR X pins σ H s) (d:IsD H a) :
  s.TypeIs (.ref a) "dict"/\(∀ b,Value.ref a= .ref b->∃ ob,s.heap.get? b=some ob/\ob.dict=none)/\(a == sysModules)=false:=by
 rcases d with ⟨kvs,e⟩ | ⟨kvs,e⟩
 ·obtain ⟨_,hd,vs,_,dd⟩:=tU I.hok e
  refine ⟨dd.typeIs,fun b q=>?_,hd⟩
  cases q
  obtain ⟨ob,_,_,h1,h2,_⟩:=dd
  exact ⟨ob,h1,h2.2.1⟩
 ·obtain ⟨_,hd,xs,_,dd⟩:=uV I.hok e
  refine ⟨dd.typeIs,fun b q=>?_,hd⟩
  cases q
  obtain ⟨ob,_,_,h1,h2,_⟩:=dd
  exact ⟨ob,h1,h2.2.1⟩
section
variable {X:Cx}{pins:List (Addr×Obj)}{σ: St}{H:Hp}{s:Shared}{a:Addr}{y d:V}{u r:Value}{o:Option V}{A:Around}{E:Value->Shared->Prop}
theorem bU6 {Q:Value->Shared->Prop}(hu:A.units+1 < cLine) (I:aR X pins σ H s) (g:fD H a y o) (ry:bG y u) (rd:bG d r) (h:∀ w' s',aR X pins σ H s'->bG (o.getD d) w'->Q w' s') :
  wpAny (model X.prog X.w) A (call (.builtin "dict.get") [.ref a,u,r]) Q E s:=by
 rcases g with ⟨kvs,k,e,ey,l⟩ | ⟨kvs,k,b,e,ey,eb,l⟩
 ·subst ey
  obtain ⟨z,hd,vs,rel,dd⟩:=tU I.hok e
  refine call_meetsIn ph dd.typeIs vy (vh _ _ _) (meets_dict_get_default (bH X.prog X.w) a (vC ry) hd r) ⟨_,dd.mapOf,h _ _ (I.tok _) ?_⟩
  rw [l]
  exact (rel.val k).getD rd
 ·subst ey
  cases (show u=Value.ref b from ry)
  obtain ⟨z,hd,xs,rel,dd⟩:=uV I.hok e
  refine call_meetsIn ph dd.typeIs vy (vh _ _ _) (meetsH_dict_get_default (tupleKind (bH X.prog X.w)) a b hd r) ⟨mv hu,k,xs,qY I.hok eb,dd,h _ _ (I.tok _) ?_⟩
  rw [l]
  exact (rel.val k).getD rd
end
def cC8 (td ty tx:TE):TE:=fun σ H Q=>td σ H fun x H1=>∃ a,x= .ref a/\IsD H1 a/\ty σ H1 fun y H2=>tx σ H2 fun z H3=>∃ o,fD H3 a y o/\Q (o.getD z) H3
section
variable {X:Cx}{o e f:Expr}{apos cpos:Pos}{td ty tx:TE}
theorem aU8 (hu:X.A.units+1 < cLine) (ho:PE X o td) (he:PE X e ty) (hf:PE X f tx) (m:M2 X o "get" apos e f cpos):PE X (.Call (.Attribute o "get" apos) [e,f] [] cpos) (cC8 td ty tx):=by
 intro pins s σ H Q I h
 refine wpAny_Call_method m.base m.few m.line PySem.F.plainAttrs_dict ph PySem.F.type_dict_get (cV (ho pins s σ H _ I h) ?_);rintro u s1 ⟨x,H1,I1,rx,a,ex,d,q1⟩
 subst ex
 obtain rfl:u=Value.ref a:=rx
 obtain ⟨t1,t2,_⟩:=cA5 I1 d
 refine ⟨t1,t2,?_⟩
 rw [m.trees]
 refine ou rfl (xc (kh (cV (he pins s1 σ H1 _ I1 q1) fun iv s2 ⟨y,H2,I2,ry,q2⟩ =>
  kh (cV (hf pins s2 σ H2 _ I2 q2) fun fv s3 ⟨z,H3,I3,rz,ov,g,q3⟩=>oh ?_))))
 exact bU6 hu I3 g ry rz fun w' s4 I4 rw'=>⟨_,H3,I4,rw',q3⟩
end
section
variable {X:Cx}{pins:List (Addr×Obj)}{σ: St}{H:Hp}{s:Shared}{a:Addr}{kvs:List (Key×V)}{A:Around}{E:Value->Shared->Prop}
end
section
variable {X:Cx}{pins:List (Addr×Obj)}{σ: St}{H:Hp}{s:Shared}{a:Addr}{y:V}{u:Value}{A:Around}{E:Value->Shared->Prop}
end
end L2
namespace HT
open PySem PyProof.Rows
def lexLt:List Int->List Int->Bool
 |[],[]=>false
 |[],_ :: _=>true
 |_ :: _,[]=>false
 |x :: xs,y :: ys=>if x=y then lexLt xs ys else decide (x < y)
theorem lexLt_cons (x y:Int) (xs ys:List Int):lexLt (x :: xs) (y :: ys)=if x=y then lexLt xs ys else decide (x < y):=rfl
theorem lexLt_nil_nil:lexLt [] []=false:=rfl
theorem qZ (y:Int) (ys:List Int):lexLt [] (y :: ys)=true:=rfl
theorem sM (x:Int) (xs:List Int):lexLt (x :: xs) []=false:=rfl
theorem aZ5 (A:Around) (s:Shared) (a:Int) (t:Tok) (c:Int) (u:Tok):∃ e,SeqAt.EqAt A s (.int a t) (.int c u) e/\(e=true↔a=c) :=
 ⟨(a == c),SeqAt.EqAt.int_int a t c u,by simp⟩
theorem aT9 (A:Around) (s:Shared) (a:Int) (t:Tok) (c:Int) (u:Tok) (prog:Program) (w:World) (E:Value->Shared->Prop) (Q:Value->Shared->Prop) (h:Q (.bool (decide (a < c))) s) :
  wpAny (model prog w) A (richCompare .Lt (.int a t) (.int c u)) Q E s :=
 (PyProof.Rows.lt_int h:wpAny (model prog w) A (compareOp .Lt (.int a t) (.int c u)) Q E s)
section
open PySem.SeqAt
open PySem.AutoSeq1 (wpAny_loadPart')
open PySem.MeetsSeq PySem.MeetsSeq2 PySem.MeetsSeq3
theorem lN (l b:Addr) (items items2:Array Value) (n n2:Nat) (dd dd2:Option Addr) (sl sl2:Array (Option Value)) (ns ms:List Int) (hi:IntsAre items.toList ns) (hj:IntsAre items2.toList ms) :
  Meets (Builtin.«tuple.__lt__» ⟨[.ref l,.ref b],[]⟩)
   (fun _ R s=>s.heap.get? l=some { cls:= .type "tuple",dict:=dd,data:= .seq items n,slots:=sl }/\s.heap.get? b=some { cls:= .type "tuple",dict:=dd2,data:= .seq items2 n2,slots:=sl2 } /\
    R (.ok (.ret (.bool (lexLt ns ms)))) s) :=
 .of_wp fun prog w A R s h=>by
  obtain ⟨hp,g,d,tk,os⟩:=s;obtain ⟨hl,hb,h⟩:=h
  have f2:=AutoSeq1.sub_tuple_tuple
  have z1:items.size=ns.length:=by rw [<- hi.length];simp
  have z2:items2.size=ms.length:=by rw [<- hj.length];simp
  wp_walk using wpAny_loadPart' hl,wpAny_loadPart' hb,wpAny_forIn_list _ (fun rest b s'=>b.1=none/\s'=⟨hp,g,d,tk,os⟩/\∃ (vs ws:List Value) (ns' ms':List Int),rest=vs.zip ws /\
   IntsAre vs ns'/\IntsAre ws ms'/\ns'.length+items2.size=ms'.length+items.size/\R (.ok (.ret (.bool (lexLt ns' ms')))) ⟨hp,g,d,tk,os⟩) _
  case turn =>
   rintro ⟨y,x⟩ rest b s' ⟨hb',rfl,vs,ws,ns',ms',hz,hvi,hwi,hlen,hR⟩
   cases hvi with
   |nil=>rw [List.zip_nil_left] at hz;cases hz
   |cons a t hvi' =>
    cases hwi with
    |nil=>rw [List.zip_nil_right] at hz;cases hz
    |cons c u hwi' =>
     rw [List.zip_cons_cons] at hz
     injection hz with hyx hrest
     injection hyx with hy hx
     subst hy hx
     rw [lexLt_cons] at hR
     simp only [List.length_cons] at hlen
     obtain ⟨e,he,hiff⟩:=aZ5 A.in1 ⟨hp,g,d,tk,os⟩ a t c u
     refine wpAny_bind (he prog w _ _ ?_)
     cases e with
     |true =>
      rw [if_pos (hiff.mp rfl)] at hR
      wp_walk
      exact ⟨rfl,rfl,_,_,_,_,hrest,hvi',hwi',by omega,hR⟩
     |false =>
      rw [if_neg (fun q=>absurd (hiff.mpr q) Bool.false_ne_true)] at hR
      have hri:=aT9 A.in1 ⟨hp,g,d,tk,os⟩ a t c u prog w
      wp_walk using hri
      exact ⟨_,rfl,by simpa using hR⟩
  case fin =>
   rintro ⟨b1,b2⟩ s' ⟨hb',rfl,vs,ws,ns',ms',hz,hvi,hwi,hlen,hR⟩
   simp only at hb'
   subst hb'
   have hv:lexLt ns' ms'=decide (items.size < items2.size):=by
    cases hvi with
    |nil =>
     cases hwi with
     |nil =>
      simp only [List.length_nil] at hlen
      rw [lexLt_nil_nil]
      exact (decide_eq_false (by omega)).symm
     |cons c u hw =>
      simp only [List.length_nil,List.length_cons] at hlen
      rw [qZ]
      exact (decide_eq_true (by omega)).symm
    |cons a t hv =>
     cases hwi with
     |nil =>
      simp only [List.length_nil,List.length_cons] at hlen
      rw [sM]
      exact (decide_eq_false (by omega)).symm
     |cons c u hw =>
      rw [List.zip_cons_cons] at hz
      cases hz
   rw [hv] at hR
   wp_walk
   exact ⟨_,rfl,by simpa [Builtin.Tuple.tupleCompareSizes] using hR⟩
  case h =>
   exact ⟨rfl,rfl,items.toList,items2.toList,ns,ms,rfl,hi,hj,by omega,h⟩
end
section
variable {prog:Program}{w:World}{A:Around}{E:Value->Shared->Prop}{s:Shared}
theorem aI9 {l b:Addr}{items items2:Array Value}{ns ms:List Int}{Q:Value->Shared->Prop}(hl:IsTup s.heap l items) (hb:IsTup s.heap b items2) (hi:IntsAre items.toList ns) (hj:IntsAre items2.toList ms)
  (hu:A.units < cLine) (h:Q (.bool (lexLt ns ms)) s):wpAny (model prog w) A (compareOp .Lt (.ref l) (.ref b)) Q E s:=by
 obtain ⟨⟨cls,dd,data,sl⟩,ho,hc,n,hd⟩:=id hl
 obtain ⟨⟨cls2,dd2,data2,sl2⟩,ho2,hc2,n2,hd2⟩:=id hb
 simp only at hc hd hc2 hd2
 subst hc hd hc2 hd2
 exact richCompare_meets_room (op:= .Lt) ⟨_,ho,rfl⟩ ⟨_,ho2,rfl⟩ PySem.F.slot_tuple_lt PySem.F.entry_tuple_lt (PySem.F.args_tuple_lt_2 _ _) (lN l b items items2 n n2 dd dd2 sl sl2 ns ms hi hj)
  ⟨ho,ho2,show Value.bool (lexLt ns ms)≠Value.notImplemented/\Q (.bool (lexLt ns ms)) s from ⟨(fun x=>nomatch x),h⟩⟩ hu
theorem cat_tup {t b:Addr}{vs ws:List Value}{Q:Value->Shared->Prop}(ht:IsTup s.heap t vs.toArray) (hb:IsTup s.heap b ws.toArray) (hv:vs≠[])
  (h1:ws=[]->Q (.ref t) s) (h2:ws≠[]->Q (.ref s.heap.objs.size) { s with heap:=s.heap.push { cls:= .type "tuple",data:= .seq (vs++ws).toArray } })
  (hsz:vs.length+ws.length<=sizeLine):wpAny (model prog w) A (binaryOp .Add (.ref t) (.ref b)) Q E s:=by
 obtain ⟨⟨cls,dd,data,sl⟩,ho,hc,n,hd⟩:=id ht
 obtain ⟨⟨cls2,dd2,data2,sl2⟩,ho2,hc2,n2,hd2⟩:=id hb
 simp only at hc hd hc2 hd2
 subst hc hd hc2 hd2
 have e:vs.toArray++ws.toArray=(vs++ws).toArray:=by simp
 by_cases hw:ws=[]
 ·exact concat_meets ⟨_,ho,rfl⟩ ⟨_,ho2,rfl⟩ noFill_tuple_add seq_tuple_add PySem.F.slot_tuple_add PySem.F.entry_tuple_add (PySem.F.args_tuple_add_2 _ _)
   (tuple_addW1 t b vs.toArray ws.toArray n n2 dd dd2 sl sl2 (by simpa using hv) (by simp [hw])) ⟨ho,ho2,h1 hw⟩
 ·refine concat_meets ⟨_,ho,rfl⟩ ⟨_,ho2,rfl⟩ noFill_tuple_add seq_tuple_add PySem.F.slot_tuple_add PySem.F.entry_tuple_add (PySem.F.args_tuple_add_2 _ _)
   (tuple_addW2 t b vs.toArray ws.toArray n n2 dd dd2 sl sl2 (by simpa using hv) (by simpa using hw) (by rw [List.size_toArray,List.size_toArray];exact hsz)) ⟨ho,ho2,?_⟩
  rw [e]
  exact h2 hw
def sIx (n d:Nat):Option Int->Nat
 |none=>d
 |some v=>if v < 0 then (v+(n:Int)).toNat else min v.toNat n
theorem sIx_none (n d:Nat):sIx n d none=d:=rfl
theorem sIx_nat (n d k:Nat):sIx n d (some (k:Int))=min k n:=by
 show (if (k:Int) < 0 then ((k:Int)+(n:Int)).toNat else min (k:Int).toNat n)=min k n
 rw [if_neg (by omega),Int.toNat_natCast]
theorem bZ1 (n d:Nat) (hd:d<=n) (o:Option Int):sIx n d o<=n:=by
 cases o with
 |none=>exact hd
 |some v =>
  show (if v < 0 then (v+(n:Int)).toNat else min v.toNat n)<=n
  by_cases hv:v < 0
  ·rw [if_pos hv];omega
  ·rw [if_neg hv];exact Nat.min_le_right _ _
theorem aN1 (v:Int) (n d:Nat):(if v < 0 then max (v+(n:Int)) 0 else min v (n:Int))=((sIx n d (some v):Nat):Int):=by
 show (if v < 0 then max (v+(n:Int)) 0 else min v (n:Int))=(((if v < 0 then (v+(n:Int)).toNat else min v.toNat n):Nat):Int)
 by_cases hv:v < 0
 ·simp only [if_pos hv];omega
 ·simp only [if_neg hv];omega
theorem aC0 (lo hi:Option Int) (n:Nat):Builtin.Slice.sliceAdjust lo hi 1 (n:Int)=(((sIx n 0 lo:Nat):Int),((sIx n n hi:Nat):Int)):=by
 have h1:¬ ((1:Int) < 0):=by omega
 unfold Builtin.Slice.sliceAdjust
 simp only [h1,if_false]
 refine Prod.ext ?_ ?_
 ·cases lo with
  |none=>rfl
  |some v=>exact aN1 v n 0
 ·cases hi with
  |none=>rfl
  |some v=>exact aN1 v n n
theorem aE3 (i j:Nat):Builtin.Slice.slicePlaces (i:Int) (j:Int) 1=j - i:=by
 unfold Builtin.Slice.slicePlaces
 have h1:(1:Int) > 0:=by omega
 simp only [h1,if_true,Int.ediv_one]
 split <;> omega
theorem sS {v:Value}{o:Option Int}{Q:Option Int->Shared->Prop}(p:IsPart v o) (h:Q o s):wpAny (model prog w) A (Builtin.Slice.slicePartIndex v) Q E s:=by
 cases p with
 |none=>exact slicePart_none h
 |int i t=>exact slicePart_int h
theorem iX {sl:Addr}{vl vu:Value}{lo hi:Option Int}{n:Nat}{Q:Int×Int×Nat->Shared->Prop}(hs:s.heap.IsSliceOf sl vl vu .none) (pl:IsPart vl lo) (pu:IsPart vu hi)
  (h:Q (((sIx n 0 lo:Nat):Int),1,sIx n n hi - sIx n 0 lo) s):wpAny (model prog w) A (Builtin.Slice.sliceApplied (.ref sl) (pure (n:Int))) Q E s:=by
 obtain ⟨os,hos,hcs,hds⟩:=id hs
 unfold Builtin.Slice.sliceApplied Builtin.Slice.sliceFields
 refine wpAny_bind (wpAny_bind (wpAny_field hos hds (x:=vl) rfl (wpAny_bind (wpAny_field hos hds (x:=vu) rfl (wpAny_bind (wpAny_field hos hds (x:= .none) rfl (wpAny_pure ?_)))))))
 refine wpAny_bind (slicePart_none ?_)
 show wpAny _ _ (if ((1:Int) == 0)=true then _ else _) _ _ s
 rw [if_neg (by decide)]
 refine wpAny_bind (sS pl (wpAny_bind (sS pu (wpAny_bind (wpAny_pure ?_)))))
 show wpAny _ _ (match Builtin.Slice.sliceAdjust lo hi 1 (n:Int) with | (lo,hi)=>pure (lo,(1:Int),Builtin.Slice.slicePlaces lo hi 1)) _ _ s
 rw [aC0 lo hi n]
 show wpAny _ _ (pure (((sIx n 0 lo:Nat):Int),(1:Int),Builtin.Slice.slicePlaces ((sIx n 0 lo:Nat):Int) ((sIx n n hi:Nat):Int) 1)) _ _ s
 rw [aE3]
 exact wpAny_pure h
theorem aT2 (xs:Array Value) (i k:Nat):((List.range k).filterMap fun (m:Nat)=>xs[((i:Int)+(m:Int) * 1).toNat]?).toArray=((xs.toList.drop i).take k).toArray:=by
 have e:(fun (m:Nat)=>xs[((i:Int)+(m:Int) * 1).toNat]?)=fun m=>xs[i+m]?:=by
  funext m
  have:((i:Int)+(m:Int) * 1).toNat=i+m:=by omega
  rw [this]
 rw [e]
 have:=pick_run xs i k
 rw [List.filterMap_map] at this
 have e2:((fun x=>xs[x]?) ∘ fun x=>i+x)=fun m=>xs[i+m]?:=rfl
 rw [e2] at this
 rw [this]
theorem getItem_tuple_cut {t sl:Addr}{items:Array Value}{vl vu:Value}{lo hi:Option Int}{Q:Value->Shared->Prop}(ht:IsTup s.heap t items) (hs:s.heap.IsSliceOf sl vl vu .none) (pl:IsPart vl lo) (pu:IsPart vu hi)
  (hw:¬ (sIx items.size 0 lo=0/\sIx items.size items.size hi=items.size))
  (h:Q (.ref s.heap.objs.size) { s with heap:=s.heap.push { cls:= .type "tuple",data:= .seq ((items.toList.drop (sIx items.size 0 lo)).take (sIx items.size items.size hi - sIx items.size 0 lo)).toArray } })
  (hsz:items.size<=sizeLine):wpAny (model prog w) A (getItem (.ref t) (.ref sl)) Q E s:=by
 have htake:sizeOk (.seq ((items.toList.drop (sIx items.size 0 lo)).take (sIx items.size items.size hi - sIx items.size 0 lo)).toArray):=by
  show ((items.toList.drop (sIx items.size 0 lo)).take (sIx items.size items.size hi - sIx items.size 0 lo)).toArray.size<=sizeLine
  rw [List.size_toArray,List.length_take,List.length_drop,Array.length_toList]
  omega
 have hj:sIx items.size items.size hi<=items.size:=bZ1 _ _ (Nat.le_refl _) hi
 obtain ⟨os,hos,hcs,hds⟩:=id hs
 have hTs:s.TypeIs (.ref sl) "slice":=⟨os,hos,hcs⟩
 unfold getItem
 try with_reducible refine wpAny_holding ?_
 first | refine wpAny_bind (wpAny_pure ?_) | skip
 refine wpAny_bind (wpAny_sequenceKey ht.typeIs (by decide) ?_)
 refine wpAny_bind (wpAny_callSpecial?_slot (name:=Str.ofString "__getitem__") ht.typeIs PyProof.Rows.slot_tuple_getitem
  (wpAny_call_entry PyProof.Rows.slot_tuple_getitem ht.typeIs entry_tuple_getitem ?_ (args_tuple_getitem _ _)))
 show wpAny _ _ (Builtin.Tuple.tupleItemsOf (.ref t) >>= _) _ _ s
 refine wpAny_bind (tupleItemsOf_ ht ?_)
 refine wpAny_bind (wpAny_typeOf hTs ?_)
 rw [if_pos (by decide)]
 refine wpAny_bind (iX hs pl pu ?_)
 have hno:¬ ((((sIx items.size 0 lo:Nat):Int) == 0 && (1:Int) == 1 && (sIx items.size items.size hi - sIx items.size 0 lo) == items.size)=true):=by
  intro q
  rw [Bool.and_eq_true,Bool.and_eq_true] at q
  have q1:((sIx items.size 0 lo:Nat):Int)=0:=eq_of_beq q.1.1
  have q2:sIx items.size items.size hi - sIx items.size 0 lo=items.size:=eq_of_beq q.2
  exact hw ⟨by omega,by omega⟩
 show wpAny _ _ (if (((sIx items.size 0 lo:Nat):Int) == 0 && (1:Int) == 1 && (sIx items.size items.size hi - sIx items.size 0 lo) == items.size)=true then _ else _) _ _ s
 rw [if_neg hno,aT2]
 first
  |exact wpAny_bind (m:=Builtin.Tuple.tupleExact _) (wpAny_newObj_type (wpAny_pure ⟨_,rfl,wpAny_pure h⟩) htake)
  |exact wpAny_bind (m:=Builtin.Tuple.tupleExact _) (wpAny_newObj_type (wpAny_bind (wpAny_pure (wpAny_pure ⟨_,rfl,wpAny_pure h⟩))) htake)
  |exact wpAny_bind (wpAny_bind (m:=Builtin.Tuple.tupleExact _) (wpAny_newObj_type (wpAny_pure (wpAny_pure ⟨_,rfl,wpAny_pure h⟩)) htake))
  |exact wpAny_bind (wpAny_bind (m:=Builtin.Tuple.tupleExact _) (wpAny_newObj_type (wpAny_pure ⟨_,rfl,wpAny_pure h⟩) htake))
end
end HT
namespace L2
open PySem PySem.Spec PyProof.Rows
abbrev TO:=St->Hp->(Option Int->Hp->Prop)->Prop
def PO (X:Cx) (e:Option Expr) (t:TO):Prop :=
 ∀ (pins:List (Addr×Obj)) (s:Shared) (σ: St) (H:Hp) (Q:Option Int->Hp->Prop),aR X pins σ H s->t σ H Q ->
  wpAny (model X.prog X.w) X.A (evalPart e X.env) (fun u s'=>∃ o H',aR X pins σ H' s'/\IsPart u o/\Q o H') X.xe s
def tNoPart:TO:=fun _ H Q=>Q none H
def cM4 (t:TE):TO:=fun σ H Q=>t σ H fun x H1=>∃ i,x= .int i/\Q (some i) H1
theorem sW {ns:List Int}:∀ {us:List Value},bB (ns.map V.int) us->IntsAre us ns:=by
 induction ns with
 |nil=>intro us r;rw [ut] at r;cases r;exact .nil
 |cons n ns ih =>
  intro us r
  rw [bi] at r
  cases r with
  |cons r1 r2 =>
   obtain ⟨t,e⟩:=r1
   subst e
   exact .cons n t (ih r2)
section
variable {X:Cx}{e:Expr}{te:TE}{lo hi:Option Expr}{tl th:TO}{pos p2:Pos}
theorem vV:PO X none tNoPart:=by
 intro pins s σ H Q I h
 rw [evalPart_none]
 exact am ⟨none,H,I,.none,h⟩
theorem nF (h:PE X e te):PO X (some e) (cM4 te):=by
 intro pins s σ H Q I hw
 rw [evalPart_some]
 refine cV (h pins s σ H _ I hw) ?_;rintro u s1 ⟨x,H1,I1,r1,q1⟩
 obtain ⟨i,rfl,q⟩:=q1
 obtain ⟨t,rfl⟩:=r1
 exact ⟨some i,H1,I1,.int i t,q⟩
def SlR (X:Cx) (r:V->Option Int->Option Int->Hp->VK->Prop):Prop :=
 ∀ (pins:List (Addr×Obj)) (s:Shared) (σ: St) (H:Hp) (x:V) (v vl vu:Value) (lo hi:Option Int) (sl:Addr) (Q:VK),aR X pins σ H s->bG x v->s.heap.IsSliceOf sl vl vu .none->IsPart vl lo->IsPart vu hi->r x lo hi H Q ->
  ∃ T id,typeLookup (.type T) "__getitem__"=pure (some (.builtin id))/\s.TypeIs v T/\wpAny (model X.prog X.w) X.A (getItem v (.ref sl)) (EP X pins σ Q) X.xe s
def tSl (r:V->Option Int->Option Int->Hp->VK->Prop) (te:TE) (tl th:TO):TE:=fun σ H Q=>te σ H fun x H1=>tl σ H1 fun l H2=>th σ H2 fun u H3=>r x l u H3 Q
theorem nQ {r:V->Option Int->Option Int->Hp->VK->Prop}(hr:SlR X r) (he:PE X e te) (hl:PO X lo tl) (hu:PO X hi th):PE X (.Subscript e (.Slice lo hi none p2) pos) (tSl r te tl th):=by
 intro pins s σ H Q I h
 refine Subscript_ (cV (he pins s σ H _ I h) ?_);rintro v s1 ⟨x,H1,I1,r1,q1⟩
 refine wpAny_Slice (cV (hl pins s1 σ H1 _ I1 q1) ?_);rintro vl s2 ⟨l,H2,I2,pl,q2⟩;refine cV (hu pins s2 σ H2 _ I2 q2) ?_;rintro vu s3 ⟨u,H3,I3,pu,q3⟩
 rw [evalPart_none]
 refine am ?_
 have I4:aR X pins σ H3 { s3 with heap:=s3.heap.push { cls:= .type "slice",data:= .fields #[vl,vu,.none] } }:=I3.kept (t':=s3.toks) fun b ob q=>af _ q
 obtain ⟨T,id,hT,ht,hg⟩:=hr pins { s3 with heap:=s3.heap.push { cls:= .type "slice",data:= .fields #[vl,vu,.none] } } σ H3 x v vl vu l u s3.heap.objs.size Q I4 r1 (Heap.IsSliceOf.new ..) pl pu q3
 show wpAny (model X.prog X.w) X.A (subscriptTail e (.Slice lo hi none p2) v (.ref s3.heap.objs.size)) (EP X pins σ Q) X.xe { s3 with heap:=s3.heap.push { cls:= .type "slice",data:= .fields #[vl,vu,.none] } }
 exact tail_any (ops:=[.ref s3.heap.objs.size,v]) ht hT hg (by with_unfolding_all rfl)
def iT (xs:List V) (lo hi:Option Int):List V:=(xs.drop (HT.sIx xs.length 0 lo)).take (HT.sIx xs.length xs.length hi - HT.sIx xs.length 0 lo)
theorem pH (xs:List V) (lo hi:Option Int):(iT xs lo hi).length<=xs.length:=by
 unfold iT
 rw [dk,jx]
 omega
def cO1 (K:PySem.W.Frag):V->Option Int->Option Int->Hp->VK->Prop:=fun x lo hi H Q=>∃ a xs,x= .ref a/\aT K H a xs /\
 ¬ (HT.sIx xs.length 0 lo=0/\HT.sIx xs.length xs.length hi=xs.length)/\∀ p,H p=none->Q (.ref p) (aM H p (.tup (iT xs lo hi)))
theorem cA2:SlR X (cO1 X.K):=by
 intro pins s σ H x v vl vu lo hi sl Q I rx hs pl pu h
 obtain ⟨a,xs,rfl,hx,hw,q⟩:=h
 cases rx
 obtain ⟨its,r,ht,hz⟩:=I.tuple hx
 have hlen:its.toArray.size=xs.length:=by rw [aw];exact r.length.symm
 refine ⟨"tuple",_,PyProof.Rows.slot_tuple_getitem.lookup,ht.typeIs,?_⟩
 refine HT.getItem_tuple_cut ht hs pl pu (by rw [hlen];exact hw) ?_ (by rw [hlen];exact hz)
 rw [hlen]
 refine ⟨.ref s.heap.objs.size,_,I.laid (t':=s.toks) (o:= .tup (iT xs lo hi)) (fun b ob q=>af _ q) (ai _) ?_,rfl,q _ (I.hok.fresh (ai _))⟩
 exact ⟨bv (pH xs lo hi) hz,_,(r.drop (HT.sIx xs.length 0 lo)).take (HT.sIx xs.length xs.length hi - HT.sIx xs.length 0 lo),kM.new _ _⟩
def cE3 (K:PySem.W.Frag):R2:=fun x y H Q=>∃ a b xs ys,x= .ref a/\y= .ref b/\aT K H a xs/\aT K H b ys/\xs≠[]/\xs.length+ys.length<=sizeLine /\
 (ys=[]->Q (.ref a) H)/\(ys≠[]->∀ p,H p=none->Q (.ref p) (aM H p (.tup (xs++ys))))
theorem bB.nil_iff {xs:List V}{us:List Value}(r:bB xs us):us=[]↔xs=[]:=by
 cases r with
 |nil=>simp
 |cons _ _=>simp
theorem bL7:kK X (binaryOp .Add) (cE3 X.K):=by
 intro pins s σ H x y v u Q I rx ry h
 obtain ⟨a,b,xs,ys,rfl,rfl,ha,hb,hx,hz,q1,q2⟩:=h
 cases rx
 cases ry
 obtain ⟨its,r1,p1,_⟩:=I.tuple ha
 obtain ⟨its2,r2,p2,_⟩:=I.tuple hb
 refine HT.cat_tup p1 p2 (fun z=>hx (r1.nil_iff.mp z)) (fun z=>⟨.ref a,H,I,rfl,q1 (r2.nil_iff.mp z)⟩) (fun z=>?_) (by rw [<- r1.length, <- r2.length];exact hz)
 refine ⟨.ref s.heap.objs.size,_,I.laid (t':=s.toks) (o:= .tup (xs++ys)) (fun b ob q=>af _ q) (ai _) ?_,rfl,q2 (fun w=>z (r2.nil_iff.mpr w)) _ (I.hok.fresh (ai _))⟩
 exact ⟨by rw [be];exact hz,_,r1.append r2,kM.new _ _⟩
end
def ixN (n:Nat) (i:Int):Option Nat:=if 0<=i then (if i < n then some i.toNat else none) else if -(n:Int)<=i then some (i+n).toNat else none
def mH {α: Type}(xs:List α) (i:Int):Option α:=(ixN xs.length i).bind fun j=>xs[j]?
theorem aJ5 {n:Nat}{i:Int}{j:Nat}(h:ixN n i=some j):seqIndex? i n=some j/\j < n/\ -(n:Int)<=i/\i < n:=by
 unfold ixN at h
 by_cases h0:0<=i
 ·rw [ao h0] at h
  by_cases h1:i < n
  ·rw [ao h1] at h
   have e:i.toNat=j:=cx h
   exact ⟨by rw [wc h0 h1,e],by omega,by omega,h1⟩
  ·rw [aj h1] at h;cases h
 ·rw [aj h0] at h
  by_cases h1: -(n:Int)<=i
  ·rw [ao h1] at h
   have e:(i+n).toNat=j:=cx h
   exact ⟨by rw [zc (by omega) h1,e],by omega,h1,by omega⟩
  ·rw [aj h1] at h;cases h
theorem wK {α: Type}{xs:List α}{i:Int}{v:α}(h:mH xs i=some v):∃ j,seqIndex? i xs.length=some j/\xs[j]?=some v/\j < xs.length/\ -(xs.length:Int)<=i/\i < xs.length:=by
 unfold mH at h
 cases e:ixN xs.length i with
 |none=>rw [e] at h;cases h
 |some j =>
  rw [e] at h
  obtain ⟨h1,h2,h3,h4⟩:=aJ5 e
  exact ⟨j,h1,h,h2,h3,h4⟩
theorem wB {α: Type}{xs:List α}{j:Nat}{v:α}(h:xs[j]?=some v):mH xs (j:Int)=some v:=by
 have hj:j < xs.length:=(bu.mp h).1
 have e:ixN xs.length (j:Int)=some j:=by
  unfold ixN
  rw [ao (by omega),ao (by omega)];simp
 unfold mH;rw [e];exact h
def aN5 (b:Expr):Prop:=∀ o i,subscripted b false o i=operate [o,i] (getItem o i)
def IxR (X:Cx) (r:R2):Prop :=
 ∀ (value slice:Expr) (pins:List (Addr×Obj)) (s:Shared) (σ: St) (H:Hp) (x y:V) (v u:Value) (Q:VK),aR X pins σ H s->bG x v->bG y u->r x y H Q ->
  subscripted slice false v u=operate [v,u] (getItem v u)->wpAny (model X.prog X.w) X.A (subscriptTail value slice v u) (EP X pins σ Q) X.xe s
def MtR (X:Cx) (id:String) (r:V->List V->Hp->VK->Prop):Prop :=
 ∀ (pins:List (Addr×Obj)) (s:Shared) (σ: St) (H:Hp) (x:V) (xs:List V) (v:Value) (us:List Value) (Q:VK),aR X pins σ H s->bG x v->bB xs us->r x xs H Q ->
  wpAny (model X.prog X.w) X.A (call (.builtin id) (v :: us)) (EP X pins σ Q) X.xe s
section
variable {X:Cx}{a b:Expr}{ta tb:TE}{pos:Pos}
theorem cL7 {r:R2}(hr:IxR X r) (ha:PE X a ta) (hb:PE X b tb) (hs:aN5 b):PE X (.Subscript a b pos) (tOp r ta tb):=by
 intro pins s σ H Q I h
 exact Subscript_ (bW4 ha hb I h fun v u s2 x y H2 I2 rx ry q=>hr a b pins s2 σ H2 x y v u Q I2 rx ry q (hs _ _))
def cH0 (K:PySem.W.Frag):R2:=fun x y H Q=>∃ p xs i v,x= .ref p/\y= .int i/\bM K H p xs/\mH xs i=some v/\Q v H
def cJ4 (K:PySem.W.Frag):R2:=fun x y H Q=>∃ p xs i v,x= .ref p/\y= .int i/\aT K H p xs/\mH xs i=some v/\Q v H
def rIxS:R2:=fun x y H Q=>∃ z i c,x= .str z/\y= .int i/\z.length<=sizeLine/\mH z.cps.toList i=some c/\Q (.str ⟨#[c]⟩) H
theorem cW:IxR X (cH0 X.K):=by
 intro value slice pins s σ H x y v u Q I rx ry h hs
 obtain ⟨p,xs,i,z,rfl,rfl,hq,he,q⟩:=h
 cases rx
 obtain ⟨t,rfl⟩:=ry
 obtain ⟨its,r,pl,hz⟩:=I.list hq
 obtain ⟨j,h1,h2,h3,h4,h5⟩:=wK he
 obtain ⟨w,ew,rw'⟩:=r.get h2
 have hl:=r.length
 have hn:=oM
 have fin:EP X pins σ Q w s:=⟨z,H,I,rw',q⟩
 by_cases h0:0<=i
 ·have hj:i.toNat=j:=by
   rw [wc h0 h5] at h1
   exact cx h1
  exact item_listR pl.isList h0 (by omega) (by rw [hj];simpa using ew) fin hs
 ·have hj:(i+(its.toArray.size:Int)).toNat=j:=by
   rw [zc (by omega) h4] at h1
   rw [aw, <- hl]
   exact cx h1
  exact we (x:=w) pl.isList.typeIs slot_list_getitem.lookup
   (wpAny_getItem_list_neg (Q:=fun r s'=>r=w/\EP X pins σ Q r s') pl.isList (by omega) (by rw [aw] <;> omega) (by omega) (by rw [hj];simpa using ew) ⟨rfl,fin⟩) hs
theorem aJ:IxR X (cJ4 X.K):=by
 intro value slice pins s σ H x y v u Q I rx ry h hs
 obtain ⟨p,xs,i,z,rfl,rfl,hq,he,q⟩:=h
 cases rx
 obtain ⟨t,rfl⟩:=ry
 obtain ⟨its,r,pl,hz⟩:=I.tuple hq
 obtain ⟨j,h1,h2,h3,h4,h5⟩:=wK he
 obtain ⟨w,ew,rw'⟩:=r.get h2
 have hl:=r.length
 have hn:=oM
 have fin:EP X pins σ Q w s:=⟨z,H,I,rw',q⟩
 exact we (x:=w) pl.typeIs slot_tuple_getitem.lookup
  (getItem_tuple (j:=j) (Q:=fun r s'=>r=w/\EP X pins σ Q r s') pl (by omega) (by omega) (by rw [aw, <- hl];exact h1) (by simpa using ew) ⟨rfl,fin⟩) hs
theorem aD3:IxR X rIxS:=by
 intro value slice pins s σ H x y v u Q I rx ry h hs
 obtain ⟨z,i,c,rfl,rfl,hz,he,q⟩:=h
 obtain ⟨t,rfl⟩:=rx
 obtain ⟨t',rfl⟩:=ry
 obtain ⟨j,h1,h2,h3,h4,h5⟩:=wK he
 have hl:z.cps.toList.length=z.length:=by simp [Str.length]
 rw [hl] at h1 h4 h5
 have hn:=oM
 exact tail_any (typeIs_str s z t) slot_str_getitem.lookup (getItem_str (c:=c) (by
  have e1:decide (i < -(2 ^ 63:Int))=false:=dm (by omega)
  have e2:decide (i ≥ 2 ^ 63)=false:=dm (by omega)
  rw [e1,e2,Bool.or_false]) (by rw [h1];simpa using h2) ⟨.str ⟨#[c]⟩,H,I.tok _,⟨_,rfl⟩,q⟩) hs
theorem aD9 (its:List Value) (n j:Nat) (u:Value):Obj.mapSeq (·.setIfInBounds j u) { cls:= .type "list",data:= .seq its.toArray n }={ cls:= .type "list",data:= .seq (its.set j u).toArray n }:=by
 simp [Obj.mapSeq]
theorem aR.lst {pins:List (Addr×Obj)}{σ: St}{H:Hp}{s:Shared}{p:Addr}{xs:List V}(I:aR X pins σ H s) (h:H p=some (.lst xs)) :
  ∃ (its:List Value) (n:Nat),bB xs its/\s.heap.get? p=some { cls:= .type "list",data:= .seq its.toArray n }/\xs.length<=sizeLine:=by
 obtain ⟨z,its,n,r,e⟩:=I.hok p _ h
 exact ⟨its,n,r,e,z⟩
theorem aR.lstUpd {pins:List (Addr×Obj)}{σ: St}{H:Hp}{s:Shared}{p:Addr}{xs ys:List V}{its its':List Value}{n n':Nat}{f:Obj->Obj}(I:aR X pins σ H s) (h:H p=some (.lst xs))
  (ho:s.heap.get? p=some { cls:= .type "list",data:= .seq its.toArray n }) (hf:f { cls:= .type "list",data:= .seq its.toArray n }={ cls:= .type "list",data:= .seq its'.toArray n' }) (r:bB ys its') (hz:ys.length<=sizeLine) (t:Nat) :
  aR X pins σ (aM H p (.lst ys)) { s with heap:=s.heap.update p f,toks:=t }:=by
 have e:(s.heap.update p f).get? p=some { cls:= .type "list",data:= .seq its'.toArray n' }:=by
  rw [jj f ho (by rw [hf] <;> rfl),hf]
 refine I.write (x:=p) (e:=p) (by rw [h];trivial) (.inl rfl) (fun b u hb q=>(wf _ _ (Ne.symm hb)).trans q) ⟨_,e⟩ ?_
 exact ⟨hz,its',n',r,e⟩
def rSetL:V->V->V->Hp->(Hp->Prop)->Prop:=fun o i v H Q=>∃ p xs k j,o= .ref p/\i= .int k/\H p=some (.lst xs)/\ixN xs.length k=some j/\Q (aM H p (.lst (xs.set j v)))
theorem sD:cN0 X rSetL:=by
 intro pins s σ H o i v ov iv u Q I ro ri rv h
 obtain ⟨p,xs,k,j,rfl,rfl,hp,hj,q⟩:=h
 cases ro
 obtain ⟨t,rfl⟩:=ri
 obtain ⟨its,n,r,ho,hz⟩:=I.lst hp
 obtain ⟨h1,h2,h3,h4⟩:=aJ5 hj
 have hl:=r.length
 have hn:=oM
 have I':aR X pins σ (aM H p (.lst (xs.set j v))) { s with heap:=s.heap.update p (Obj.mapSeq (·.setIfInBounds j u)) } :=
  I.lstUpd hp ho (aD9 its n j u) (r.set rv j) (by rw [List.length_set];exact hz) s.toks
 by_cases h0:0<=k
 ·have hk:k.toNat=j:=by
   rw [wc h0 h4] at h1
   exact cx h1
  exact PySem.W.ki_setAt ho h0 (by omega) (by rw [aw, <- hl];exact h4) (by rw [hk];exact ⟨_,I',q⟩)
 ·have hk:(k+(its.toArray.size:Int)).toNat=j:=by
   rw [zc (by omega) h3] at h1
   rw [aw, <- hl]
   exact cx h1
  exact PySem.W.ki_setBack ho (by omega) (by rw [aw, <- hl];exact h3) (by omega) (by rw [hk];exact ⟨_,I',q⟩)
theorem wO (lo hi:Option Int) (n:Nat):(sliceBounds lo hi none n).1=((HT.sIx n 0 lo:Nat):Int)/\(sliceBounds lo hi none n).2.1=((HT.sIx n n hi:Nat):Int)/\(sliceBounds lo hi none n).2.2=1:=by
 refine ⟨?_,?_,rfl⟩
 ·cases lo with
  |none=>simp [sliceBounds,HT.sIx]
  |some i =>
   simp only [sliceBounds,HT.sIx,Option.getD_none,show (1:Int) > 0 by decide,if_true]
   by_cases h:i < 0
   ·simp only [h,if_true] <;> omega
   ·simp only [h,if_false] <;> omega
 ·cases hi with
  |none=>simp [sliceBounds,HT.sIx]
  |some i =>
   simp only [sliceBounds,HT.sIx,Option.getD_none,show (1:Int) > 0 by decide,if_true]
   by_cases h:i < 0
   ·simp only [h,if_true] <;> omega
   ·simp only [h,if_false] <;> omega
theorem tK (its:List Value) (lo hi:Option Int):slicePick its.toArray lo hi none=((its.drop (HT.sIx its.length 0 lo)).take (HT.sIx its.length its.length hi - HT.sIx its.length 0 lo)).toArray:=by
 obtain ⟨h1,h2,h3⟩:=wO lo hi its.toArray.size
 unfold slicePick
 rw [h1,h2,h3]
 simp only [sliceRange_one,pick_run,List.size_toArray] <;> rfl
def cP9 (K:PySem.W.Frag):V->Option Int->Option Int->Hp->VK->Prop:=fun x lo hi H Q=>∃ a xs,x= .ref a/\bM K H a xs/\∀ p,H p=none->Q (.ref p) (aM H p (.lst (iT xs lo hi)))
theorem aL1:SlR X (cP9 X.K):=by
 intro pins s σ H x v vl vu lo hi sl Q I rx hs pl pu h
 obtain ⟨a,xs,rfl,hx,q⟩:=h
 cases rx
 obtain ⟨its,r,ht,hz⟩:=I.list hx
 have hlen:=r.length
 refine ⟨"list",_,slot_list_getitem.lookup,ht.isList.typeIs,?_⟩
 refine wpAny_getItem_list_slice ht.isList hs pl pu .none (by simp) ?_ (by rw [List.size_toArray] <;> omega)
 rw [tK, <- hlen]
 refine ⟨.ref s.heap.objs.size,_,I.laid (t':=s.toks) (o:= .lst (iT xs lo hi)) (fun b ob q=>af _ q) (ai _) ?_,rfl,q _ (I.hok.fresh (ai _))⟩
 exact ⟨bv (pH xs lo hi) hz,_,0,(r.drop (HT.sIx xs.length 0 lo)).take (HT.sIx xs.length xs.length hi - HT.sIx xs.length 0 lo),az _ rfl⟩
def mX:V->Bool
 |.non=>true
 |.bl _=>true
 |.int _=>true
 |.str _=>true
 |_=>false
def eqV:V->V->Bool
 |.non,.non=>true
 |.bl a,.bl b=>a == b
 |.bl a,.int b=>(if a then 1 else 0) == b
 |.int a,.bl b=>a == (if b then 1 else 0)
 |.int a,.int b=>a == b
 |.str a,.str b=>a == b
 |_,_=>false
theorem bZ9 {A:Around}{s:Shared}{y x:V}{u v:Value}(ry:bG y u) (rx:bG x v) (fy:mX y=true) (fx:mX x=true):SeqAt.EqAt A s u v (eqV y x):=by
 cases y with
 |non =>
  cases ry
  cases x with
  |non=>cases rx;exact vo _
  |bl b=>cases rx;exact SeqAt.EqAt.none_bool b
  |int b=>obtain ⟨t,rfl⟩:=rx;exact SeqAt.EqAt.none_int b t
  |str b=>obtain ⟨t,rfl⟩:=rx;exact SeqAt.EqAt.none_str b t
  |_=>exact absurd (show false=true from fx) bo
 |bl a =>
  cases ry
  cases x with
  |non=>cases rx;exact SeqAt.EqAt.bool_none a
  |bl b=>cases rx;exact SeqAt.EqAt.bool_bool a b
  |int b=>obtain ⟨t,rfl⟩:=rx;exact SeqAt.EqAt.bool_int a b t
  |str b=>obtain ⟨t,rfl⟩:=rx;exact SeqAt.EqAt.bool_str a b t
  |_=>exact absurd (show false=true from fx) bo
 |int a =>
  obtain ⟨t',rfl⟩:=ry
  cases x with
  |non=>cases rx;exact SeqAt.EqAt.int_none a t'
  |bl b=>cases rx;exact SeqAt.EqAt.int_bool a t' b
  |int b=>obtain ⟨t,rfl⟩:=rx;exact sq a t' b t
  |str b=>obtain ⟨t,rfl⟩:=rx;exact yu a t' b t
  |_=>exact absurd (show false=true from fx) bo
 |str a =>
  obtain ⟨t',rfl⟩:=ry
  cases x with
  |non=>cases rx;exact SeqAt.EqAt.str_none a t'
  |bl b=>cases rx;exact SeqAt.EqAt.str_bool a t' b
  |int b=>obtain ⟨t,rfl⟩:=rx;exact yv a t' b t
  |str b=>obtain ⟨t,rfl⟩:=rx;exact SeqAt.EqAt.str_str a t' b t
  |_=>exact absurd (show false=true from fx) bo
 |_=>exact absurd (show false=true from fy) bo
def eqU (x:V) (u:Value):Bool:=match u with
 |.none=>eqV .non x
 |.bool b=>eqV (.bl b) x
 |.int i _=>eqV (.int i) x
 |.str z _=>eqV (.str z) x
 |_=>false
theorem bA6 {x y:V}{u:Value}(r:bG y u) (f:mX y=true):eqU x u=eqV y x:=by
 cases y with
 |non=>cases r;rfl
 |bl b=>cases r;rfl
 |int i=>obtain ⟨t,rfl⟩:=r;rfl
 |str z=>obtain ⟨t,rfl⟩:=r;rfl
 |_=>exact absurd (show false=true from f) bo
theorem mN {x:V}:∀ {xs:List V}{us:List Value},bB xs us->xs.all mX=true->us.any (eqU x)=xs.any fun y=>eqV y x
 |_,_,.nil,_=>rfl
 |y :: xs,u :: us,.cons r t,f=>by
  rw [yb,ii] at f
  rw [mh,mh,bA6 r f.1,mN t f.2]
theorem kP {A:Around}{s:Shared}{x:V}{v:Value}(rx:bG x v) (fx:mX x=true):∀ {xs:List V}{us:List Value},bB xs us->xs.all mX=true->∀ u∈us,SeqAt.EqAt A s u v (eqU x u)
 |_,_,.nil,_=>fun u hu=>by cases hu
 |y :: xs,u :: us,.cons r t,f=>fun u' hu=>by
  rw [yb,ii] at f
  rcases av.mp hu with rfl | hu
  ·rw [bA6 r f.1];exact bZ9 r rx f.1 fx
  ·exact kP rx fx t f.2 u' hu
def inV (x:V) (xs:List V):Bool:=xs.any fun y=>eqV y x
def rIn (K:PySem.W.Frag) (neg:Bool):R2:=fun x y H Q=>∃ p xs,y= .ref p/\(bM K H p xs\/aT K H p xs)/\mX x=true/\xs.all mX=true/\Q (.bl (if neg then !inV x xs else inV x xs)) H
theorem fN:kK X (compareOp .In) (rIn X.K false):=by
 intro pins s σ H x y v u Q I rx ry h
 obtain ⟨p,xs,rfl,hq,fx,fs,q⟩:=h
 cases ry
 rcases hq with hq | hq
 ·obtain ⟨its,r,pl,hz⟩:=I.list hq
  refine SeqAt.in_listAt (eqU x) pl.isList (fun w hw=>kP rx fx r fs w (by simpa using hw)) ⟨.bl _,H,I,rfl,?_⟩
  rw [show its.toArray.any (eqU x)=its.any (eqU x) by simp,mN r fs]
  exact q
 ·obtain ⟨its,r,pl,hz⟩:=I.tuple hq
  refine SeqAt.in_tupleAt (eqU x) pl (fun w hw=>kP rx fx r fs w (by simpa using hw)) ⟨.bl _,H,I,rfl,?_⟩
  rw [show its.toArray.any (eqU x)=its.any (eqU x) by simp,mN r fs]
  exact q
theorem mV:kK X (compareOp .NotIn) (rIn X.K true):=by
 intro pins s σ H x y v u Q I rx ry h
 obtain ⟨p,xs,rfl,hq,fx,fs,q⟩:=h
 cases ry
 rcases hq with hq | hq
 ·obtain ⟨its,r,pl,hz⟩:=I.list hq
  refine SeqAt.notIn_listAt (eqU x) pl.isList (fun w hw=>kP rx fx r fs w (by simpa using hw)) ⟨.bl _,H,I,rfl,?_⟩
  rw [show its.toArray.any (eqU x)=its.any (eqU x) by simp,mN r fs]
  exact q
 ·obtain ⟨its,r,pl,hz⟩:=I.tuple hq
  refine SeqAt.notIn_tupleAt (eqU x) pl (fun w hw=>kP rx fx r fs w (by simpa using hw)) ⟨.bl _,H,I,rfl,?_⟩
  rw [show its.toArray.any (eqU x)=its.any (eqU x) by simp,mN r fs]
  exact q
theorem bW:eS X (.builtin "len") (fun xs H Q=>∃ p ys,xs=[.ref p]/\(bM X.K H p ys\/aT X.K H p ys)/\Q (.int ys.length) H):=by
 intro pins s σ H xs us Q I r h
 obtain ⟨p,ys,rfl,hq,q⟩:=h
 obtain ⟨u,rfl,rx⟩:=iQ r
 cases rx
 have hn:=oM
 rcases hq with hq | hq
 ·obtain ⟨its,r',pl,hz⟩:=I.list hq
  have hlen:=r'.length
  exact Calls.call_len_list pl.isList (by simp only [List.size_toArray] <;> omega) ⟨.int ys.length,H,I.tok _,⟨s.toks+1,by rw [aw,hlen]⟩,q⟩
 ·obtain ⟨its,r',pl,hz⟩:=I.tuple hq
  have hlen:=r'.length
  exact len_tuple pl (by simp only [List.size_toArray] <;> omega) ⟨.int ys.length,H,I.tok _,⟨s.toks+1,by rw [aw,hlen]⟩,q⟩
theorem jL:eS X (.type "list") (fun xs H Q=>∃ p ys,xs=[.ref p]/\(bM X.K H p ys\/aT X.K H p ys)/\∀ l,H l=none->Q (.ref l) (aM H l (.lst ys))):=by
 intro pins s σ H xs us Q I r h
 obtain ⟨p,ys,rfl,hq,q⟩:=h
 obtain ⟨u,rfl,rx⟩:=iQ r
 cases rx
 have fin:∀ (its:List Value),bB ys its->ys.length<=sizeLine->∀ (h':Heap) (c':Nat),(∀ b o',s.heap.get? b=some o'->h'.get? b=some o') ->
   h'.get? s.heap.objs.size=some { cls:= .type "list",dict:=none,data:= .seq its.toArray c',slots:= #[] }->EP X pins σ Q (.ref s.heap.objs.size) { s with heap:=h' }:=fun its r' hz h' c' kp e =>
  ⟨.ref s.heap.objs.size,_,I.laid (t':=s.toks) kp (ai _) (show cJ X.prog X.w _ h' _ (.lst ys) from ⟨hz,its,c',r',e⟩),rfl,q _ (I.hok.fresh (ai _))⟩
 rcases hq with hq | hq
 ·obtain ⟨its,r',pl,hz⟩:=I.list hq
  have hlen:=r'.length
  obtain ⟨o,ho,hc,n,hd⟩:=pl.isList
  exact call_list_seq p (.inl rfl) ho hc hd (fun h' c' kp e=>fin its r' hz h' c' kp e) (by simp only [List.size_toArray] <;> omega)
 ·obtain ⟨its,r',pl,hz⟩:=I.tuple hq
  have hlen:=r'.length
  obtain ⟨o,ho,hc,n,hd⟩:=pl
  exact call_list_seq p (.inr rfl) ho hc hd (fun h' c' kp e=>fin its r' hz h' c' kp e) (by simp only [List.size_toArray] <;> omega)
theorem bR:eS X (.type "tuple") (fun xs H Q=>∃ p ys,xs=[.ref p]/\((bM X.K H p ys/\∀ l,H l=none->Q (.ref l) (aM H l (.tup ys)))\/(aT X.K H p ys/\Q (.ref p) H))):=by
 intro pins s σ H xs us Q I r h
 obtain ⟨p,ys,rfl,h⟩:=h
 obtain ⟨u,rfl,rx⟩:=iQ r
 cases rx
 rcases h with ⟨hq,q⟩ | ⟨hq,q⟩
 ·obtain ⟨its,r',pl,hz⟩:=I.list hq
  have hlen:=r'.length
  refine call_tuple_list pl.isList (fun h' kp=>?_) (by simp only [List.size_toArray] <;> omega)
  have I1:aR X pins σ H { s with heap:=h' }:=I.kept (t':=s.toks) kp
  have I2:aR X pins σ (aM H h'.objs.size (.tup ys)) { s with heap:=h'.push { cls:= .type "tuple",data:= .seq its.toArray } } :=
   I1.laid (t':=s.toks) (fun b o e=>af _ e) (ai _) (show cJ X.prog X.w _ _ _ (.tup ys) from ⟨hz,its,r',kM.new _ _⟩)
  exact ⟨.ref h'.objs.size,_,I2,rfl,q _ (I1.hok.fresh (ai _))⟩
 ·obtain ⟨its,r',pl,hz⟩:=I.tuple hq
  exact call_tuple_same pl ⟨.ref p,H,I,rfl,q⟩
def tyV (K:PySem.W.Frag) (T:String) (x:V) (H:Hp):Prop:=match x with
 |.str _=>T="str"
 |.int _=>T="int"
 |.ref p=>(T="list"/\∃ xs,bM K H p xs)\/(T="tuple"/\∃ o,K.lookup p=some o/\o.cls= .type "tuple"/\o.dict=none) \/
   (T="dict"/\((∃ kvs,H p=some (.dK kvs))\/∃ kvs,H p=some (.dT kvs)))\/(T="set"/\∃ S n,H p=some (.set S n))
 |_=>False
theorem aX6 {pins:List (Addr×Obj)}{σ: St}{H:Hp}{s:Shared}{T:String}{x:V}{v:Value}(I:aR X pins σ H s) (r:bG x v) (ty:tyV X.K T x H) :
  s.TypeIs v T/\∀ a,v= .ref a->∃ ob,s.heap.get? a=some ob/\ob.dict=none:=by
 cases x with
 |str z =>
  obtain ⟨t,rfl⟩:=r
  cases (show T="str" from ty)
  exact ⟨typeIs_str s z t,fun _ e=>nomatch e⟩
 |int i =>
  obtain ⟨t,rfl⟩:=r
  cases (show T="int" from ty)
  exact ⟨xf s i t,fun _ e=>nomatch e⟩
 |ref p =>
  cases r
  rcases ty with ⟨rfl,xs,hq⟩ | ⟨rfl,o,hk,hc,hd⟩ | ⟨rfl,hk⟩ | ⟨rfl,S,n,hk⟩
  ·obtain ⟨its,_,pl,_⟩:=I.list hq
   refine ⟨pl.isList.typeIs,fun a e=>?_⟩
   cases e
   obtain ⟨o,n,e,c,hd,_⟩:=pl
   exact ⟨o,e,hd⟩
  ·refine ⟨⟨o,I.kIn p o hk,hc⟩,fun a e=>?_⟩
   cases e
   exact ⟨o,I.kIn _ o hk,hd⟩
  ·have z:∃ o,s.heap.get? p=some o/\o.ExactDict:=by
    rcases hk with ⟨kvs,hk⟩ | ⟨kvs,hk⟩
    ·obtain ⟨_,_,_,_,o,_,_,e,ex,_⟩:=I.hok p _ hk
     exact ⟨o,e,ex⟩
    ·obtain ⟨_,_,_,_,o,_,_,e,ex,_⟩:=I.hok p _ hk
     exact ⟨o,e,ex⟩
   obtain ⟨o,e,ex⟩:=z
   refine ⟨⟨o,e,ex.1⟩,fun a e2=>?_⟩
   cases e2
   exact ⟨o,e,ex.2.1⟩
  ·obtain ⟨o,_,_,_,e,ex,_⟩:=I.hok p _ hk
   refine ⟨⟨o,e,ex.1⟩,fun a e2=>?_⟩
   cases e2
   exact ⟨o,e,ex.2.1⟩
 |_=>exact False.elim ty
def cR5 (K:PySem.W.Frag) (T:String) (r:V->List V->Hp->VK->Prop) (to:TE):TE:=fun σ H Q=>to σ H fun x H1=>tyV K T x H1/\r x [] H1 Q
def tBM (K:PySem.W.Frag) (T:String) (r:V->List V->Hp->VK->Prop) (to:TE) (t:TA):TE:=fun σ H Q=>to σ H fun x H1=>tyV K T x H1/\t σ H1 fun xs H2=>r x xs H2 Q
variable {o e:Expr}{es:List Expr}{to:TE}{t:TA}{name:Str}{apos cpos:Pos}{T id:String}{r:V->List V->Hp->VK->Prop}
theorem wQ (pa:PlainAttrs T) (slot:Slot T name id) (hty:typeOf (.builtin id)=pure (.type "method_descriptor")) (hm:MtR X id r) (ho:PE X o to)
  (hbase:autoParam (attributeBase o name X.env (eval o X.env)=eval o X.env) Rq0._auto_1) (hline:autoParam ((apos.endLine == cpos.line)=true) Rq0._auto_1):PE X (.Call (.Attribute o name apos) [] [] cpos) (cR5 X.K T r to):=by
 intro pins s σ H Q I h
 refine wpAny_Call_method0_late hbase hline (cV (ho pins s σ H _ I h) ?_);rintro v s1 ⟨x,H1,I1,r1,ty,q1⟩
 obtain ⟨h1,h2⟩:=aX6 I1 r1 ty
 exact ⟨T,id,pa,slot,hty,h1,h2,ou rfl (PySem.evalArgs_none (hm pins s1 σ H1 x [] v [] Q I1 r1 .nil q1))⟩
theorem fB (pa:PlainAttrs T) (slot:Slot T name id) (hty:typeOf (.builtin id)=pure (.type "method_descriptor")) (hm:MtR X id r) (ho:PE X o to) (ha:PA X (e :: es) t)
  (hbase:autoParam (attributeBase o name X.env (eval o X.env)=eval o X.env) Rq0._auto_1)
  (hfew:autoParam (((backTo cpos (starEach (e :: es) X.env)).all (fun x=> !x.1) && (backToKw cpos (keywordEach [] X.env)).all (fun x=>x.1.isSome)
   && decide ((e :: es).length+([]:List Keyword).length+(if ([]:List Keyword).isEmpty then 0 else 1) < 30))=true) Rq0._auto_1)
  (hline:autoParam ((apos.endLine == cpos.line)=true) Rq0._auto_1) (hs:autoParam (starEach (e :: es) X.env=(false,eval e X.env) :: starEach es X.env) Rq0._auto_1) (hplain:autoParam ((backTo cpos (starEach es X.env)).any (·.1)=false) Rq0._auto_1) :
  PE X (.Call (.Attribute o name apos) (e :: es) [] cpos) (tBM X.K T r to t):=by
 intro pins s σ H Q I h
 refine wpAny_Call_method_late hbase hfew hline rfl (cV (ho pins s σ H _ I h) ?_);rintro v s1 ⟨x,H1,I1,r1,ty,q1⟩
 obtain ⟨h1,h2⟩:=aX6 I1 r1 ty
 refine ⟨T,id,pa,slot,hty,h1,h2,?_⟩
 have hA:=ha cpos pins s1 σ H1 _ I1 q1
 rw [hs] at hA ⊢
 refine ou (by show (false || (backTo cpos (starEach es X.env)).any (·.1))=false;rw [hplain] <;> rfl) (xc ?_)
 refine cV hA ?_;rintro us s2 ⟨vs,H2,I2,r2,q2⟩;exact hm pins s2 σ H2 x vs v us Q I2 r1 r2 q2
end
def MtM (X:Cx) (id:String) (r:V->List V->Hp->VK->Prop):Prop :=
 ∀ (pins:List (Addr×Obj)) (s:Shared) (σ: St) (H:Hp) (x:V) (xs:List V) (v:Value) (us:List Value) (Q:VK),aR X pins σ H s->bG x v->bB xs us->r x xs H Q ->
  wpAny (model X.prog X.w) X.A (call (.builtin id) (v :: us)) (EP X pins σ Q) X.xe s
theorem bB.one:∀ {x:V}{us:List Value},bB [x] us->∃ u,us=[u]/\bG x u
 |_,_,.cons r .nil=>⟨_,rfl,r⟩
theorem bB.zero:∀ {us:List Value},bB [] us->us=[]
 |_,.nil=>rfl
theorem bB.dropLast {xs:List V}{us:List Value}(h:bB xs us):bB xs.dropLast us.dropLast:=by
 induction h with
 |nil=>exact .nil
 |cons r t ih =>
  cases t with
  |nil=>exact .nil
  |cons q t'=>exact .cons r ih
theorem bB.eraseIdx:∀ {xs:List V}{us:List Value}(i:Nat),bB xs us->bB (xs.eraseIdx i) (us.eraseIdx i)
 |_,_,_,.nil=> .nil
 |_,_,0,.cons _ t=>t
 |_,_,i+1,.cons r t=> .cons r (bB.eraseIdx i t)
theorem bB.rep {xs:List V}{us:List Value}(h:bB xs us):∀ k:Nat,bB (List.replicate k xs).flatten (List.replicate k us).flatten
 |0=> .nil
 |k+1=>by
  rw [jz,jz,ol,ol]
  exact bB.append h (bB.rep h k)
theorem aI4 {α: Type}(l:List α):l.eraseIdx (l.length - 1)=l.dropLast:=by
 induction l with
 |nil=>rfl
 |cons a r ih =>
  cases r with
  |nil=>rfl
  |cons b r =>
   have e:(a :: b :: r).length - 1=((b :: r).length - 1)+1:=by
    rfl
   rw [e,List.eraseIdx_cons_succ,ih]
   all_goals rfl
theorem uM {α: Type}:∀ (l:List α) (i:Nat),(l.eraseIdx i).length<=l.length
 |[],_=>ai _
 |_ :: _,0=>rm _
 |_ :: r,i+1=>Nat.succ_le_succ (uM r i)
theorem uY (its:List Value):∀ (k:Nat) (acc:List Value),
  List.foldl (fun x1 x2=>x1++x2) acc.toArray (List.replicate k its.toArray)=(acc++(List.replicate k its).flatten).toArray
 |0,acc=>by simp
 |k+1,acc=>by
  have e:acc.toArray++its.toArray=(acc++its).toArray:=by simp
  have e2:(acc++its)++(List.replicate k its).flatten=acc++(List.replicate (k+1) its).flatten:=by
   rw [jz,ol,jr]
  rw [<- e2, <- uY its k (acc++its), <- e,jz,kj]
section
variable {X:Cx}{pins:List (Addr×Obj)}{σ: St}{H:Hp}{s:Shared}{l b:Addr}{xs ys zs:List V}
theorem aR.lset {its its':List Value}{n:Nat}{f:Array Value->Array Value}{t':Nat}(I:aR X pins σ H s) (hH:H l=some (.lst xs))
  (e:s.heap.get? l=some { cls:= .type "list",data:= .seq its.toArray n }) (hf:f its.toArray=its'.toArray) (hv:bB ys its') (hz:ys.length<=sizeLine) :
  aR X pins σ (aM H l (.lst ys)) { s with heap:=s.heap.update l (Obj.mapSeq f),toks:=t' }:=by
 have q:=PySem.IsL.update e f
 rw [hf] at q
 refine I.write (x:=l) (e:=l) (by rw [hH];exact trivial) (.inl rfl) (fun b' u hb hu=>(wf s.heap (Obj.mapSeq f) (Ne.symm hb)).trans hu) ⟨_,q⟩ ?_
 exact ⟨hz,its',_,hv,q⟩
theorem aR.lnew {its:List Value}{t':Nat}(I:aR X pins σ H s) (hv:bB ys its) (hz:ys.length<=sizeLine) :
  aR X pins σ (aM H s.heap.objs.size (.lst ys)) { s with heap:=s.heap.push { cls:= .type "list",data:= .seq its.toArray },toks:=t' } :=
 I.laid (fun _ _ q=>af _ q) (ai _) ⟨hz,its,0,hv,az _ rfl⟩
theorem aR.fresh (I:aR X pins σ H s):H s.heap.objs.size=none:=I.hok.fresh (ai _)
theorem aR.lstM (I:aR X pins σ H s) (hH:H l=some (.lst xs)):xs.length<=sizeLine/\∃ (its:List Value) (n:Nat),bB xs its/\xs.length=its.length/\s.heap.get? l=some { cls:= .type "list",data:= .seq its.toArray n }:=by
 obtain ⟨z,its,n,r,e⟩:=I.hok l _ hH
 exact ⟨z,its,n,r,r.length,e⟩
theorem aB1 {n:Nat}(h:n<=sizeLine):Builtin.List.listTooLong n=false:=by
 unfold Builtin.List.listTooLong
 exact dm (by omega)
end
section
variable {X:Cx}
def rAppend:V->List V->Hp->VK->Prop:=fun x vs H Q=>∃ l xs y,x= .ref l/\vs=[y]/\H l=some (.lst xs)/\xs.length < sizeLine/\Q .non (aM H l (.lst (xs++[y])))
theorem cE:MtM X "list.append" rAppend:=by
 intro pins s σ H x vs v us Q I rx rv h
 obtain ⟨l,xs,y,rfl,rfl,hH,hz,q⟩:=h
 cases rx
 obtain ⟨u,rfl,ru⟩:=rv.one
 obtain ⟨z,its,n,r,hl,e⟩:=I.lstM hH
 refine nu F.slot_list_append ⟨_,e,rfl⟩ F.entry_list_append (F.args_list_append_2 _ _) (PySem.list_append l its.toArray n u (by rw [aw];omega)) ⟨e,?_⟩
 refine ⟨.non,_,I.lset (its':=its++[u]) hH e (by simp) (r.append (.cons ru .nil)) ?_,rfl,q⟩
 rw [be,ku]
 omega
def rExtend:V->List V->Hp->VK->Prop:=fun x vs H Q=>∃ l b xs zs,x= .ref l/\vs=[.ref b]/\H l=some (.lst xs)/\H b=some (.lst zs)/\xs.length+zs.length<=sizeLine/\Q .non (aM H l (.lst (xs++zs)))
theorem nY:MtM X "list.extend" rExtend:=by
 intro pins s σ H x vs v us Q I rx rv h
 obtain ⟨l,b,xs,zs,rfl,rfl,hH,hB,hz,q⟩:=h
 cases rx
 obtain ⟨u,rfl,ru⟩:=rv.one
 cases ru
 obtain ⟨z,its,n,r,hl,e⟩:=I.lstM hH
 obtain ⟨z2,its2,n2,r2,hl2,e2⟩:=I.lstM hB
 have hsz:its.toArray.size+its2.toArray.size<=sizeLine:=by rw [aw,aw];omega
 have hlong:¬ (!its.toArray.isEmpty && Builtin.List.listTooLong (its.toArray.size+its2.toArray.size))=true:=by
  rw [aB1 hsz,Bool.and_false]
  exact bo
 refine nu F.slot_list_extend ⟨_,e,rfl⟩ F.entry_list_extend (F.args_list_extend_2 _ _)
  (AutoSeq1.list_extend_list_list_0 l its.toArray n b its2.toArray n2 hlong (by rw [aw];omega) (by omega)) ⟨e,e2,?_⟩
 refine ⟨.non,_,I.lset (its':=its++its2) hH e (by simp) (r.append r2) ?_,rfl,q⟩
 rw [be]
 omega
def rPop:V->List V->Hp->VK->Prop:=fun x vs H Q=>∃ l xs y,x= .ref l/\vs=[]/\H l=some (.lst xs)/\xs[xs.length - 1]?=some y/\Q y (aM H l (.lst xs.dropLast))
theorem wP:MtM X "list.pop" rPop:=by
 intro pins s σ H x vs v us Q I rx rv h
 obtain ⟨l,xs,y,rfl,rfl,hH,hy,q⟩:=h
 cases rx
 have hus:=rv.zero
 subst hus
 obtain ⟨z,its,n,r,hl,e⟩:=I.lstM hH
 obtain ⟨u,hu,ru⟩:=r.get hy
 have hy':its.toArray[its.toArray.size - 1]?=some u:=by
  show its.toArray[its.length - 1]?=some u
  rw [<- pj, <- hl]
  exact hu
 refine nu F.slot_list_pop ⟨_,e,rfl⟩ F.entry_list_pop (F.args_list_pop_1 _) (MeetsSeq.list_pop_last l its.toArray n u hy' (by rw [aw];omega)) ⟨e,?_⟩
 refine ⟨y,_,I.lset (its':=its.dropLast) hH e ?_ r.dropLast ?_,ru,q⟩
 ·show its.toArray.eraseIdxIfInBounds (its.toArray.size - 1)=its.dropLast.toArray
  rw [aw,qd,aI4]
 ·rw [List.length_dropLast]
  omega
def rPopAt:V->List V->Hp->VK->Prop:=fun x vs H Q=>∃ l xs i k y,x= .ref l/\vs=[.int i]/\H l=some (.lst xs)/\ -(2 ^ 63)<=i/\i < 2 ^ 63/\seqIndex? i xs.length=some k/\xs[k]?=some y/\Q y (aM H l (.lst (xs.eraseIdx k)))
theorem bF5:MtM X "list.pop" rPopAt:=by
 intro pins s σ H x vs v us Q I rx rv h
 obtain ⟨l,xs,i,k,y,rfl,rfl,hH,h1,h2,hk,hy,q⟩:=h
 cases rx
 obtain ⟨u,rfl,ru⟩:=rv.one
 obtain ⟨t,rfl⟩:=ru
 obtain ⟨z,its,n,r,hl,e⟩:=I.lstM hH
 obtain ⟨w,hw,rw'⟩:=r.get hy
 refine nu F.slot_list_pop ⟨_,e,rfl⟩ F.entry_list_pop (F.args_list_pop_2 _ _)
  (MeetsSeq.list_pop_at l its.toArray n i t k w (fitsIndex_both h1 h2) (by rw [aw, <- hl];exact hk) (by rw [<- pj];exact hw) (by rw [aw];omega)) ⟨e,?_⟩
 refine ⟨y,_,I.lset (its':=its.eraseIdx k) hH e ?_ (r.eraseIdx k) ?_,rw',q⟩
 ·show its.toArray.eraseIdxIfInBounds k=(its.eraseIdx k).toArray
  rw [qd]
 ·have:=uM xs k
  omega
def rCat:R2:=fun x y H Q=>∃ l b xs zs,x= .ref l/\y= .ref b/\H l=some (.lst xs)/\H b=some (.lst zs)/\xs.length+zs.length<=sizeLine/\∀ p,H p=none->Q (.ref p) (aM H p (.lst (xs++zs)))
theorem wZ:kK X (binaryOp .Add) rCat:=by
 intro pins s σ H x y v u Q I rx ry h
 obtain ⟨l,b,xs,zs,rfl,rfl,hH,hB,hz,q⟩:=h
 cases rx
 cases ry
 obtain ⟨z,its,n,r,hl,e⟩:=I.lstM hH
 obtain ⟨z2,its2,n2,r2,hl2,e2⟩:=I.lstM hB
 refine PySem.P.add_list e e2 ?_ (by rw [aw,aw];omega)
 have ea:its.toArray++its2.toArray=(its++its2).toArray:=by simp
 rw [ea]
 exact ⟨.ref _,_,I.lnew (t':=s.toks) (r.append r2) (by rw [be];omega),rfl,q _ I.fresh⟩
def rRep:R2:=fun x y H Q=>∃ l k xs,x= .ref l/\y= .int k/\H l=some (.lst xs)/\ -(2 ^ 63)<=k/\k < 2 ^ 63/\xs.length * k.toNat<=sizeLine /\
 ∀ p,H p=none->Q (.ref p) (aM H p (.lst (List.replicate k.toNat xs).flatten))
theorem bL6 {α: Type}(xs:List α) (k:Nat):(List.replicate k xs).flatten.length=k * xs.length:=by
 induction k with
 |zero=>simp
 |succ k ih=>rw [jz,ol,be,ih,qi,Nat.add_comm]
theorem bV0:kK X (binaryOp .Mult) rRep:=by
 intro pins s σ H x y v u Q I rx ry h
 obtain ⟨l,k,xs,rfl,rfl,hH,h1,h2,hz,q⟩:=h
 cases rx
 obtain ⟨t,rfl⟩:=ry
 obtain ⟨z,its,n,r,hl,e⟩:=I.lstM hH
 have hlen:its.toArray.size * k.toNat<=sizeLine:=by rw [aw, <- hl];exact hz
 have hcap:¬ its.toArray.size * k.toNat > (2 ^ 63 - 1) / 8:=by
  have:(sizeLine:Nat)<=(2 ^ 63 - 1) / 8:=by decide
  omega
 have hfit:¬ (!Builtin.List.listFitsIndex k)=true:=by
  rw [fitsIndex_both h1 h2]
  exact bo
 have hlong:¬ Builtin.List.listTooLong (its.toArray.size * k.toNat)=true:=by
  rw [aB1 hlen]
  exact bo
 have hnew:List.foldl (fun x1 x2=>x1++x2) #[] (List.replicate (if its.toArray.isEmpty=true then 0 else k.toNat) its.toArray)=(List.replicate k.toNat its).flatten.toArray:=by
  have f0:∀ m:Nat,List.foldl (fun x1 x2=>x1++x2) #[] (List.replicate m its.toArray)=(List.replicate m its).flatten.toArray:=fun m=>by
   have:=uY its m []
   rw [List.nil_append] at this
   exact this
  rw [f0]
  cases its with
  |nil=>simp
  |cons a r'=>rw [aj (by simp)]
 refine wpAny_binaryOp_repeat_ref (T:="list") (U:="int") (by decide) ⟨_,e,rfl⟩ (fun s'=>xf s' k t) noFill_list_mul F.fills_int_mul F.slot_int_rmul repeat_list F.slot_int_index.lookup
  (nu F.slot_int_rmul (xf s k t) F.entry_int_rmul (F.args_int_rmul_2 _ _) (int___rmul___int_list k t l its.toArray n)
   ⟨e,rfl,⟨_,e,rfl⟩,nu F.slot_list_mul ⟨_,e,rfl⟩ F.entry_list_mul (F.args_list_mul_2 _ _) (AutoListH.list___mul___list_int_3 l its.toArray n k t hfit hcap hlong) ⟨e,?_⟩⟩)
 rw [hnew]
 exact ⟨.ref _,_,I.lnew (t':=s.toks) (r.rep k.toNat) (by rw [bL6,uw];exact hz),rfl,q _ I.fresh⟩
end
section
variable {prog:Program}{w:World}{A:Around}{E:Value->Shared->Prop}{s:Shared}
end
section
variable {X:Cx}
end
end L2
namespace Att
open PySem PySem.W PySem.Calls PyProof.Rows
theorem pK {P:Params}{h:Heap}:∀ (ns:List Int) (vs:List Value),WellAll P h vs (ns.map WData.int)->IntsAre vs ns:=by
 intro ns
 induction ns with
 |nil =>
  intro vs w
  rw [List.map_nil] at w
  cases w
  exact .nil
 |cons n ns ih =>
  intro vs w
  rw [List.map_cons] at w
  cases w with
  |cons a b =>
   cases a
   exact .cons _ _ (ih _ b)
theorem aR1 {l:OpenLaw}{n:Nat}(hn:l.most=some n) {P:Params}{h:Heap}{args:List WData}{vals:List Value}
  (hpre:l.row.toRowW.claim.pre args=true) (hwl:WellAll P h vals args) :
  ∃ a vs ns,vals=[Value.ref a]/\args=[WData.list (ns.map WData.int)]/\h.get? a=some { cls:= .type "list",data:= .seq vs.toArray }/\IntsAre vs ns/\ns.length<=n:=by
 have hsh:WShape.hasAll [] args [.list .int]=true:=(pre_splitW hpre).1
 have hc:l.pre.holds [] { args:=args }=true:=(pre_splitW hpre).2
 obtain ⟨d,r,rfl,h1,h2⟩:=hasAllW_cons hsh
 obtain rfl:=hasAllW_nil h2
 obtain ⟨xs,rfl,h3⟩:=hasW_list h1
 obtain ⟨ns,rfl⟩:=items_int h3
 have hlen:ns.length<=n:=by
  unfold OpenLaw.pre at hc
  have h4:(WTm.not (.lt (.lit (.int (n:Int))) (.len (.arg 0)))).holds [] { args:=[.list (ns.map .int)] }=true:=by
   have h4:=(holds_andW hc).1
   rw [hn] at h4
   exact h4
  have h5:=condW_of h4 (w_not (w_lt w_lit (w_len_list (w_arg rfl))))
  rw [List.length_map] at h5
  refine Nat.le_of_not_lt fun q=>?_
  have q':(n:Int) < ((ns.length:Nat):Int):=by omega
  first
   |(rw [decide_eq_true q'] at h5;exact absurd h5 (by decide))
   |(simp at h5;omega)
 cases hwl with
 |cons w1 w2 =>
  cases w2
  cases w1 with
  |list ho hall=>exact ⟨_,_,ns,rfl,rfl,ho,pK ns _ hall,hlen⟩
theorem aP1 (l:OpenLaw) (args:List WData):l.row.toRowW.claim.post args (.bool true) args=true :=
 postW_of (r:=l.row.toRowW) (X:=(true == true))
  (show WShape.has [] (.bool true) .bool=true by first | rfl | decide | simp [WShape.has,WShape.arms,WShape.armsAll])
  (show (WTm.eq .res (.lit (.bool true))).value [] { args:=args,res:=some (.bool true),after:=args }=some (.bool (true == true)) from w_eq_bool (w_res rfl) w_lit) rfl
theorem attach_call {l:OpenLaw}{n:Nat}{q:Program}{loose:List Str}{XP:(Str->Option Value)->Heap->Prop}{YP:World->Heap->Prop}{d:DefRec}
  (hn:l.most=some n) (hdf:d.params.defaults=[])
  (call:∀ (w:World) (s₀ s₁:Shared) (mg mb:Str->Option Value) (fa:Addr) (o:Obj) (pm cd doc:Value) (a:Addr) (vs:List Value) (ns:List Int),
   Ground q loose [] XP w s₀ mg mb s₁.heap->YP w s₁.heap ->
   s₁.heap.get? fa=some o->o.data= .func (docDef d.name d.params d.body d.scope pm cd doc)->s₁.heap.CodeRec cd d.name->mg d.name=some (.ref fa) ->
   s₁.heap.get? a=some { cls:= .type "list",data:= .seq vs.toArray }->IntsAre vs ns->ns.length<=n->s₁.gens= #[] ->
   codeAny (model l.prog w) callerA (.call (.ref fa) ⟨[.ref a],[]⟩) (fun r s'=>r= .ok (.ret (.bool true))/\OldK s₁.heap s'.heap/\s'.os=s₁.os/\AllBare s'.gens) s₁) :
  WalkO q loose XP YP l.row.toRowW d [] (fun f vs=>PySem.call f vs):=by
 intro w s₀ s₁ mg mb G Y fa o pm cd doc dV kV ho hd hcd hD hmg hg args vals as hpre hlay hrd hwl hlo
 obtain rfl:dV= .none:=Dflts.none hD hdf
 obtain rfl:kV= .none:=Dflts.noKw hD
 obtain ⟨a,vs,ns,rfl,rfl,hobj,hints,hlen⟩:=aR1 hn hpre hwl
 refine enter_call (codeAny_mono (call w s₀ s₁ mg mb fa o pm cd doc a vs ns G Y ho (fd_plain hd) hcd hmg hobj hints hlen hg) fun r s' hq=>?_)
 obtain ⟨rfl,h2,h3,h4⟩:=hq
 exact ⟨.inl ⟨.bool true,.bool true,[],rfl,fun _=>rfl,.bool true,aP1 l _,fun _=>⟨List.Pairwise.nil,fun _ hm=>(nomatch hm)⟩⟩,h2,h3,h4⟩
section
variable {prog:Program}{w:World}{A:Around}{E:Value->Shared->Prop}{s:Shared}{K:Frag}
def cQ5 (h:Heap) (L d:Addr):List (Addr×Obj):=(List.range h.objs.size).filterMap fun a=>if a=L\/a=d then none else (h.get? a).map fun o=>(a,o)
end
end Att
namespace L2
open PySem PySem.Spec PyProof.Rows
theorem tZ:∀ {vs:List Value}{ns:List Int},IntsAre vs ns->bB (ns.map V.int) vs
 |_,_,.nil=> .nil
 |_,_,.cons n t h=> .cons ⟨t,rfl⟩ (tZ h)
def bX2 (H:Hp):Prop:=∀ b,H b=none\/∃ o xs,H b=some (.frz o (.lst xs))
theorem bD2 {P:Program}{w:World}{K:PySem.W.Frag}{mg mb:Str->Option Value}{CX:CXT}{k:Nat}{fa a:Addr}{fd:FuncData}{x:Str}{sp:Sp}{s₁:Shared}{vs:List Value}{ns:List Int}
  (KX:K.In s₁.heap) (hns:s₁.heap.Ns mainGlobals mg) (hb:s₁.heap.Ns builtinsNs mb) (hbb:∀ x:Str,x≠"__name__"->mb x=bootBuiltins x) (hlim:s₁.heap.NoLimit) (hg:s₁.gens= #[])
  (ha:s₁.heap.get? a=some { cls:= .type "list",data:= .seq vs.toArray }) (hi:IntsAre vs ns) (hl:ns.length<=sizeLine) (hr:dE k callerA)
  (F:∀ base:Heap,K.In base->base.Ns mainGlobals mg->jY P w K mg base CX k fa fd [x] sp) (hbind:∀ (s:Shared) (u:Value),BindsTo s fd ⟨[u],[]⟩ [(x,u)])
  (hsp:∀ H:Hp,bX2 H->bM K H a (ns.map V.int)->sp [.ref a] H (fun v _=>v= .bl true) fun _ _ _=>False)
  (hCX:∀ H e s',CX [] H s₁ (fun _ _ _=>False) e s'->False) :
  codeAny (model P w) callerA (.call (.ref fa) ⟨[.ref a],[]⟩) (fun r s'=>r= .ok (.ret (.bool true))/\OldK s₁.heap s'.heap/\s'.os=s₁.os/\AllBare s'.gens) s₁:=by
 have rv:=tZ hi
 have lenV:=hi.length
 have core:∀ H:Hp,bX2 H->bM K H a (ns.map V.int)->kA P w H s₁.heap->(∀ b,H b≠none->b=a)->(H a≠none->K.lookup a=none) ->
   codeAny (model P w) callerA (.call (.ref fa) ⟨[.ref a],[]⟩) (fun r s'=>r= .ok (.ret (.bool true))/\OldK s₁.heap s'.heap/\s'.os=s₁.os/\AllBare s'.gens) s₁:=by
  intro H hO hS hok hA hK
  have base_of:∀ {b:Addr}{o:Obj},s₁.heap.get? b=some o->H b=none->(wU s₁.heap H).get? b=some o:=fun e n=>bB6 e n
  have noA:∀ {b:Addr}{o:Obj}{es:Array DictEntry}{ep:Nat},s₁.heap.get? b=some o->o.data= .dict es ep->H b=none:=fun {b o es ep} e d=>by
   cases q:H b with
   |none=>rfl
   |some u =>
    have e':b=a:=hA b (by rw [q];simp)
    subst e'
    rw [ha] at e;cases e
    have d':Data.seq vs.toArray _=Data.dict es ep:=d
    cases d'
  have nsK:∀ {b:Addr}{m:Str->Option Value},s₁.heap.Ns b m->(wU s₁.heap H).Ns b m:=fun {b m} ⟨o,es,ep,e,d,r⟩=>⟨o,es,ep,base_of e (noA e d),d,r⟩
  have hKb:K.In (wU s₁.heap H):=fun b o e=>base_of (KX b o e) (by
   cases q:H b with
   |none=>rfl
   |some u =>
    have e':b=a:=hA b (by rw [q];simp)
    subst e'
    rw [hK (by rw [q];simp)] at e;cases e)
  have hM:Mod K mg (wU s₁.heap H):=⟨hKb,nsK hns,⟨mb,nsK hb,hbb⟩,let ⟨mc,h1,h2⟩:=hlim;⟨mc,nsK h1,h2⟩⟩
  have e0:aE8 P w K mg (wU s₁.heap H) callerA [] s₁ H:=⟨rfl,hM,fun b o e=>bL5 e,Nat.le_of_eq (aO5 _ _),trivial,fun b hb=>absurd (show b∈([]:List Addr) from hb) (by simp),hok,.of_eq hg⟩
  refine uq ((F _ hKb (nsK hns)).run callerA [] s₁ H ⟨[.ref a],[]⟩ [.ref a] [.ref a] _ _ hr e0 (hbind s₁ (.ref a)) (.cons rfl .nil) (hsp H hO hS)) fun r s' h=>?_
  cases r with
  |error e=>exact (hCX H e s' h).elim
  |ok fl =>
   cases fl with
   |next=>exact False.elim h
   |brk=>exact False.elim h
   |cont=>exact False.elim h
   |ret u =>
    obtain ⟨v,H',os,bare,un,hok',r',q⟩:=h
    have q':v= .bl true:=q
    subst q'
    obtain rfl:u=Value.bool true:=r'
    refine ⟨rfl,OldK.of_keep fun b o e=>?_,os,bare⟩
    cases q:H b with
    |none=>exact un.keep b o e q (by intro z;exact absurd (show b∈([]:List Addr) from z) (by simp)) (by simp)
    |some u =>
     rcases hO b with z | ⟨ob,xs,z⟩
     ·rw [q] at z;cases z
     ·have z2:=un.frzs b ob _ z
      obtain ⟨e1,_⟩:=hok b _ z
      obtain ⟨e2,_⟩:=hok' b _ z2
      rw [e] at e1;cases e1
      exact e2
 cases hk:K.lookup a with
 |some o =>
  have e:=KX a o hk
  rw [ha] at e
  cases e
  refine core (fun _=>none) (fun _=> .inl rfl) (.inr ⟨_,vs.toArray,_,hk,rfl,rfl,rfl,by rw [aw,lenV];exact hl,by simpa using rv⟩) (fun b u z=>by have z':(none:Option HO)=some u:=z;cases z') (fun b z=>absurd rfl z) fun z=>absurd rfl z
 |none =>
  refine core (fun b=>if b=a then some (.frz { cls:= .type "list",data:= .seq vs.toArray } (.lst (ns.map V.int))) else none) (fun b=>?_) (.inl (.inr ⟨{ cls:= .type "list",data:= .seq vs.toArray },ao rfl⟩)) (fun b u z=>?_) (fun b z=>?_) fun _=>hk
  ·by_cases hb:b=a
   ·exact .inr ⟨_,_,ao hb⟩
   ·exact .inl (aj hb)
  ·by_cases hb:b=a
   ·have z':=(ao hb).symm.trans z
    cases z'
    subst hb
    exact ⟨ha,by rw [ac];exact hl,vs,_,rv,ha⟩
   ·have z':=(aj hb).symm.trans z
    cases z'
  ·by_cases hb:b=a
   ·exact hb
   ·exact absurd (aj hb) z
theorem walk_of {l:PySem.W.OpenLaw}{n k:Nat}{q:Program}{loose:List Str}{XP:(Str->Option Value)->Heap->Prop}{YP:World->Heap->Prop}{d:DefRec}{K:Params->PySem.W.Frag}{CX:World->CXT}{sp:World->Sp}{x:Str}
  (hn:l.most=some n) (hn2:n<=sizeLine) (hdf:d.params.defaults=[]) (hr:dE k callerA)
  (hY:∀ (w:World) (h:Heap),YP w h->(K w.params).In h)
  (F:∀ (w:World) (mg:Str->Option Value) (fa:Addr) (h:Heap),(K w.params).In h->h.Ns mainGlobals mg->mg d.name=some (.ref fa) ->
   ∃ fd:FuncData,(∀ (s:Shared) (u:Value),BindsTo s fd ⟨[u],[]⟩ [(x,u)]) /\
    ∀ base:Heap,(K w.params).In base->base.Ns mainGlobals mg->jY l.prog w (K w.params) mg base (CX w) k fa fd [x] (sp w))
  (hsp:∀ (w:World) (H:Hp) (a:Addr) (ns:List Int),ns.length<=n->bX2 H->bM (K w.params) H a (ns.map V.int)->sp w [.ref a] H (fun v _=>v= .bl true) fun _ _ _=>False)
  (hCX:∀ (w:World) (H:Hp) (s:Shared) (e:Value) (s':Shared),CX w [] H s (fun _ _ _=>False) e s'->False) :
  PySem.W.WalkO q loose XP YP l.row.toRowW d [] (fun f vs=>PySem.call f vs):=by
 refine Att.attach_call hn hdf fun w s₀ s₁ mg mb fa o pm cd doc a vs ns G Y ho hd hcd hmg hobj hints hlen hg=>?_
 have KX:=hY w _ Y
 obtain ⟨fd,hb,hF⟩:=F w mg fa _ KX G.T.g hmg
 exact bD2 KX G.T.g G.T.b G.T.builtins G.T.nolimit hg hobj hints (bv hlen hn2) hr hF hb (fun H hO hS=>hsp w H a ns hlen hO hS) fun H e s'=>hCX w H s₁ e s'
def cA (s:Stmt):Arguments:=match s with
 |.FunctionDef _ a _ _ _ _ _ _ _ _=>a
 |_=>{ posonlyargs:=[],args:=[],vararg:=none,kwonlyargs:=[],kw_defaults:=[],kwarg:=none,defaults:=[] }
def bS (s:Stmt):List Stmt:=match s with
 |.FunctionDef _ _ b _ _ _ _ _ _ _=>b
 |_=>[]
def aZ (s:Stmt):Scope:=match s with
 |.FunctionDef _ _ _ _ _ _ sc _ _ _=>sc
 |_=>{ kind:= .function,names:=[],isGenerator:=false,isCoroutine:=false }
abbrev CX0:CXT:=fun _ _ _ _ _ _=>False
abbrev E0:XK:=fun _ _ _=>False
theorem aT4 {X:Cx}:rL CX0 X E0:=fun _ _ _ _ _ _ _ h=>h.elim
structure xQ (K:PySem.W.Frag) (x qual:Str) (st:Stmt) (f:Addr) (fd:FuncData):Prop where
 ex:∃ (oc:Value) (od:Option Addr) (kV doc pm:Value) (an:Option Addr) (cdv ct:Value) (osl:Array (Option Value)),
  fd=PySem.W.fnOf x qual (cA st) (bS st) (aZ st) .none kV doc pm an cdv ct/\K.lookup f=some ⟨oc,od,.func fd,osl⟩/\PySem.W.codeIn K cdv qual=true
 kp:PySem.W.keepIn K (.ref f)=true
section
variable {P:Program}{w:World}{K:PySem.W.Frag}{mg:Str->Option Value}{base:Heap}
theorem xQ.ok {x qual:Str}{st:Stmt}{f:Addr}{fd:FuncData}{N ps:List Str}{k:Nat}{sp:Sp}(F:xQ K x qual st f fd) (S:mJ N ps (aZ st)) (len:∀ vs H Q E,sp vs H Q E->vs.length=ps.length)
  (hbody:∀ (cdv:Value) (A:Around) (outer:List Env) (s:Shared) (H:Hp) (vs:List V) (Q:VK) (E:XK),dE k (A.deeper (envOfC qual (aZ st) s.heap.objs.size f cdv))->sp vs H Q E ->
   ∃ t,vW (yZ CX0 P w K mg base N qual (aZ st) f cdv A outer s H E).nox (bS st) t/\t { nx:=fun _ H'=>Q .non H',rt:=Q } (lM N vs) H):jY P w K mg base CX0 (k+1) f fd ps sp:=by
 obtain ⟨oc,od,kV,doc,pm,an,cdv,ct,osl,rfl,lk,hcd⟩:=F.ex
 refine bR0 lk hcd S len fun A outer s H vs Q E hr hsp=>?_
 obtain ⟨t,h,q⟩:=hbody cdv A outer s H vs Q E hr hsp
 exact ⟨t,h.nox,q⟩
theorem xQ.binds {x qual:Str}{st:Stmt}{f:Addr}{fd:FuncData}{ps:List Str}(F:xQ K x qual st f fd)
  (h:∀ (kV doc pm:Value) (an:Option Addr) (cdv ct:Value) (us:List Value),us.length=ps.length->bindArgs (PySem.W.fnOf x qual (cA st) (bS st) (aZ st) .none kV doc pm an cdv ct) ⟨us,[]⟩=pure (ps.zip us)):fZ K fd ps []:=by
 obtain ⟨oc,od,kV,doc,pm,an,cdv,ct,osl,rfl,lk,hcd⟩:=F.ex
 exact .all (h kV doc pm an cdv ct)
theorem aV0 {x qual:Str}{st:Stmt}{f:Addr}{oc:Value}{od an:Option Addr}{osl:Array (Option Value)}{kV doc pm cdv ct:Value}(l:K.lookup f=some ⟨oc,od,.func (PySem.W.fnOf x qual (cA st) (bS st) (aZ st) .none kV doc pm an cdv ct),osl⟩)
  (c:PySem.W.codeIn K cdv qual=true) (k:PySem.W.keepIn K (.ref f)=true):xQ K x qual st f (PySem.W.fnOf x qual (cA st) (bS st) (aZ st) .none kV doc pm an cdv ct):=⟨⟨oc,od,kV,doc,pm,an,cdv,ct,osl,rfl,l,c⟩,k⟩
end
theorem jE {A:Around}{k:Nat}(hr:dE k A):A.units+1 < cLine:=cg (Nat.add_le_add_left (by decide:1<=64) _) hr.units
theorem aK {n:Nat}(h:n<=1000):n < sizeLine:=cg h (by decide)
section
variable {X:Cx}
theorem pv (i:Nat) {x:Str}{pos:Pos}(hN:autoParam (X.N[i]?=some x) Rq0._auto_1) (hv:Vis X.env.scope x:=by first | exact mz rfl | exact ux (mz rfl) | exact ux (ux rfl)) (hd:autoParam ((x == ("__debug__": Str))=false) Rq1._auto_1)
  (hcd:autoParam ((x == ("__classdict__": Str))=false) Rq1._auto_1):PE X (.Name x pos) (cJ3 i):=bV4 hN hv hd hcd
end
theorem cR0 {A B:Prop}(h:B):if false=true then A else B:=by
 rw [aj bo]
 exact h
theorem aF3 {c A B:Prop} [Decidable c] (h1:c->A) (h2:¬ c->B):if c then A else B:=by
 by_cases h:c
 ·rw [ao h]
  exact h1 h
 ·rw [aj h]
  exact h2 h
theorem cM9 {c A B:Prop} [Decidable c] (hc:c) (h:B):if (!decide c)=true then A else B:=by
 rw [ap hc]
 exact cR0 h
def aU (H H':Hp):Prop:=∀ b o,H b=some o->H' b=some o
theorem aU.refl (H:Hp):aU H H:=fun _ _ h=>h
theorem aU.trans {H H1 H2:Hp}(a:aU H H1) (b:aU H1 H2):aU H H2:=fun c o h=>b c o (a c o h)
theorem aU.free {H H':Hp}(e:aU H H') {l:Addr}(h:H' l=Option.none):H l=Option.none:=by
 cases q:H l with
 |none=>rfl
 |some o =>
  rw [e l o q] at h
  cases h
theorem aU.seq {K:PySem.W.Frag}{H H':Hp}{a:Addr}{xs:List V}(e:aU H H') (h:bM K H a xs):bM K H' a xs:=by
 rcases h with (h | ⟨o,h⟩) | h
 ·exact .inl (.inl (e _ _ h))
 ·exact .inl (.inr ⟨o,e _ _ h⟩)
 ·exact .inr h
section
variable {κ: Type} [DecidableEq κ]
end
end L2
set_option maxHeartbeats 4000000
namespace L2
open PySem PySem.Spec PyProof.Rows
def xK (env:Env) (names:List (Str×NameKind)):List (Str×Addr) :=
 names.foldl (fun cs y=>if y.2 == NameKind.free then (y.1,(env.cells.lookup y.1).getD 0) :: cs else cs) []
theorem bD3 {env:Env}:∀ (names:List (Str×NameKind)) (cs:List (Str×Addr)),(∀ y∈names,y.2= .free->∃ c,env.cells.lookup y.1=some c) ->
  (forIn names cs fun (y:Str×NameKind) (r:List (Str×Addr))=>(if y.2 == NameKind.free then (do let a <- cellOf env y.1;pure (ForInStep.yield ((y.1,a) :: r))) else pure (ForInStep.yield r):Sem (ForInStep (List (Str×Addr))))) =
   pure (names.foldl (fun cs y=>if y.2 == NameKind.free then (y.1,(env.cells.lookup y.1).getD 0) :: cs else cs) cs)
 |[],cs,_=>rfl
 |(n,k) :: r,cs,h=>by
  have ih:=fun cs'=>bD3 (env:=env) r cs' fun y hy=>h y (ae _ hy)
  rw [vp,kj]
  by_cases hk:k= .free
  ·subst hk
   obtain ⟨c,hc⟩:=h (n,.free) ah rfl
   have e:cellOf env n=pure c:=by unfold cellOf;rw [hc]
   simp only [beq_self_eq_true,if_true,e,pure_bind,hc,Option.getD_some]
   exact ih _
  ·have hb:(k == NameKind.free)=false:=by simpa using hk
   simp only [hb,Bool.false_eq_true,if_false,pure_bind]
   exact ih _
theorem qV {scope:Scope}{env:Env}(h:∀ y∈scope.names,y.2= .free->∃ c,env.cells.lookup y.1=some c):closureFor scope env=pure (xK env scope.names):=by
 unfold closureFor
 have e:=bD3 (env:=env) scope.names [] h
 simp only [] at e ⊢
 refine Eq.trans ?_ (gv (fun m:Sem (List (Str×Addr))=>m >>= fun cs=>pure cs) e)
 rfl
theorem aW0 {env:Env}{x:Str}{c:Addr}:∀ (names:List (Str×NameKind)) (cs:List (Str×Addr)),(∀ y∈names,y.2= .free->∃ c,env.cells.lookup y.1=some c) ->
  (names.foldl (fun cs y=>if y.2 == NameKind.free then (y.1,(env.cells.lookup y.1).getD 0) :: cs else cs) cs).lookup x=some c->cs.lookup x=some c\/env.cells.lookup x=some c
 |[],_,_,e=> .inl e
 |(n,k) :: r,cs,h,e=>by
  rw [kj] at e
  have ih:=aW0 r _ (fun y hy=>h y (ae _ hy)) e
  rcases ih with q | q
  ·by_cases hk:k= .free
   ·subst hk
    obtain ⟨c',hc⟩:=h (n,.free) ah rfl
    simp only [beq_self_eq_true,if_true,hc,Option.getD_some,List.lookup_cons] at q
    cases hx:x == n with
    |true =>
     rw [hx] at q
     have:x=n:=by simpa using hx
     subst this
     simp only [Option.some.injEq] at q
     subst q
     exact .inr hc
    |false =>
     rw [hx] at q
     exact .inl q
   ·have hb:(k == NameKind.free)=false:=by simpa using hk
    simp only [hb,Bool.false_eq_true,if_false] at q
    exact .inl q
  ·exact .inr q
theorem aJ1 {env:Env}{x:Str}:∀ (names:List (Str×NameKind)) (cs:List (Str×Addr)),((x,NameKind.free)∈names\/∃ c,cs.lookup x=some c) ->
  ∃ c,(names.foldl (fun cs y=>if y.2 == NameKind.free then (y.1,(env.cells.lookup y.1).getD 0) :: cs else cs) cs).lookup x=some c
 |[],_,e=>by rcases e with e | e;exact absurd e (by simp);exact e
 |(n,k) :: r,cs,e=>by
  rw [kj]
  refine aJ1 r _ ?_
  rcases e with e | ⟨c,e⟩
  ·rcases av.mp e with z | z
   ·cases z
    right
    simp only [beq_self_eq_true,if_true,List.lookup_cons]
    exact ⟨_,rfl⟩
   ·exact .inl z
  ·right
   by_cases hk:k= .free
   ·subst hk
    simp only [beq_self_eq_true,if_true,List.lookup_cons]
    cases hx:x == n with
    |true=>exact ⟨_,rfl⟩
    |false=>exact ⟨c,e⟩
   ·have hb:(k == NameKind.free)=false:=by simpa using hk
    simp only [hb,Bool.false_eq_true,if_false]
    exact ⟨c,e⟩
theorem nH {env:Env}{x:Str}:∀ {names:List (Str×NameKind)},(∀ y∈names,y.2≠ .cell) ->
  ((names.map fun (n,k)=>if (k == NameKind.free && env.scope.kind == .function && env.kindOf n == some .cell) then (n,NameKind.cell) else (n,k)).lookup x=some .cell \/
   (names.map fun (n,k)=>if (k == NameKind.free && env.scope.kind == .function && env.kindOf n == some .cell) then (n,NameKind.cell) else (n,k)).lookup x=some .free)->(x,NameKind.free)∈names
 |[],_,h=>by simp at h
 |(n,k) :: r,hc,h=>by
  have ih:= @nH env x r fun y hy=>hc y (ae _ hy)
  have hk:=hc (n,k) ah
  simp only [List.map_cons] at h
  by_cases cc:(k == NameKind.free && env.scope.kind == .function && env.kindOf n == some .cell)=true
  ·rw [ao cc] at h
   have kf:k= .free:=by
    simp only [Bool.and_eq_true,beq_iff_eq] at cc
    exact cc.1.1
   subst kf
   simp only [List.lookup_cons] at h
   cases hx:x == n with
   |true =>
    have:x=n:=by simpa using hx
    subst this
    exact ah
   |false=>rw [hx] at h;exact ae _ (ih h)
  ·rw [aj cc] at h
   simp only [List.lookup_cons] at h
   cases hx:x == n with
   |true =>
    rw [hx] at h
    have:x=n:=by simpa using hx
    subst this
    rcases h with h | h
    ·simp only [Option.some.injEq] at h
     exact absurd h hk
    ·simp only [Option.some.injEq] at h
     subst h
     exact ah
   |false=>rw [hx] at h;exact ae _ (ih h)
abbrev aX2 (ifs:List Expr) (env:Env):Sem Bool:=forIn ifs true fun c r =>
 if r=true then do
  let ok <- isTrue c env (eval c env)
  pure (ForInStep.yield ok)
 else pure (ForInStep.yield r)
def bE3 (X:Cx) (ifs:List Expr) (t:TT):Prop :=
 ∀ (pins:List (Addr×Obj)) (s:Shared) (σ: St) (H:Hp) (Q:Bool->Hp->Prop),aR X pins σ H s->t σ H Q ->
  wpAny (model X.prog X.w) X.A (aX2 ifs X.env) (TP X pins σ Q) X.xe s
def tYes:TT:=fun _ H Q=>Q true H
theorem fM {X:Cx}:bE3 X [] tYes:=fun _ _ _ H _ I h=>wpAny_tests_nil ⟨H,I,h⟩
theorem bD0 {X:Cx}{c:Expr}{t:TT}(h:PT X c t):bE3 X [c] t:=fun pins s σ H Q I q=>wpAny_tests_one (h pins s σ H Q I q)
abbrev aJ0:Value->Shared->Prop:=fun _ _=>False
theorem aR4 {prog:Program}{w:World}{A:Around}{R:Result->Shared->Prop}{s0:Shared}{elt target iter:Expr}{ifs:List Expr}{scope:Scope}{pos:Pos}{it acc:Value}{env:Env}(W:Nat->Shared->Prop)
  (one:∀ k t,W k t->wpAny (model prog w) A (pyNext it) (fun r t1=>match r with
   |none=>R (.ok .next) t1
   |some v=>wpAny (model prog w) A (letOwnedTupleGo target it v) (fun _ t2=>wpAny (model prog w) A (assign target env v) (fun _ t3=>wpAny (model prog w) A (aX2 ifs env) (fun ok t4 =>
     if ok=true then wpAny (model prog w) A (eval elt env) (fun x t5=>wpAny (model prog w) A (call (.builtin "list.append") [acc,x]) (fun _ t6=>∃ j,j < k/\W j t6) aJ0 t5) aJ0 t4
     else ∃ j,j < k/\W j t4) aJ0 t3) aJ0 t2) aJ0 t1) aJ0 t)
  (k0:Nat) (h0:W k0 s0):codeAny (model prog w) A (.compLoop (.ListComp elt [⟨target,iter,ifs,0⟩] scope pos) 0 it acc env) R s0:=by
 refine codeAny_loop rfl W (fun k t hW=>?_) k0 h0
 refine wpAny_noted (m:=compTurn (.ListComp elt [⟨target,iter,ifs,0⟩] scope pos) 0 it acc env) ?_
 have no:∀ {P:Prop}{e:Value}{t:Shared},aJ0 e t->P:=fun z=>z.elim
 rw [compTurn_list]
 refine aa (tq (aa (fq (one k t hW) (fun r t1 q1=>?_) fun _ _=>no)))
 match r with
 |none=>exact am q1
 |some v =>
  refine aa (fq q1 (fun _ t2 q2=>aa (fq q2 (fun _ t3 q3=>aa (fq q3 (fun ok t4 q4=>?_) fun _ _=>no)) fun _ _=>no)) fun _ _=>no)
  match ok with
  |false=>exact am ⟨rfl,q4⟩
  |true =>
   rw [ao rfl] at q4
   refine aa (aa (fq q4 (fun x t5 q5=>aa (fq q5 (fun _ t6 q6=>?_) fun _ _=>no)) fun _ _=>no))
   exact am (am ⟨rfl,q6⟩)
def yQ (ix:List (Option Nat)) (σ: St):St:=ix.map fun o=>o.bind fun j=>σ[j]?.join
theorem aZ9 {ix:List (Option Nat)}{σ: St}{i:Nat}{v:V}(h:(yQ ix σ)[i]?=some (some v)):∃ j,ix[i]?=some (some j)/\σ[j]?=some (some v):=by
 unfold yQ at h
 rw [cy] at h
 cases e:ix[i]? with
 |none=>rw [e] at h;cases h
 |some o =>
  rw [e] at h
  cases o with
  |none=>cases h
  |some j =>
   have h:some (σ[j]?.join)=some (some v):=h
   refine ⟨j,rfl,?_⟩
   cases q:σ[j]? with
   |none=>rw [q] at h;cases h
   |some z=>rw [q] at h;cases h;rfl
def vQ (N:List Str) (sc scope:Scope) (N':List Str) (ix:List (Option Nat)):Bool :=
 ix.length == N'.length && (ix.zip N').all (fun p=>match p.1 with | none=>true | some j=>N[j]? == some p.2 && scope.names.lookup p.2 == some NameKind.free) &&
 scope.names.all (fun y=>y.2 != NameKind.cell && (y.2 != NameKind.free || sc.names.lookup y.1 == some NameKind.cell || sc.names.lookup y.1 == some NameKind.free) && (y.2 != NameKind.local || scope.names.lookup y.1 == some NameKind.local)) &&
 scope.kind == ScopeKind.function
structure gJ (N:List Str) (sc scope:Scope) (N':List Str) (ix:List (Option Nat)):Prop where
 len:ix.length=N'.length
 at_:∀ (i j:Nat) (x:Str),ix[i]?=some (some j)->N'[i]?=some x->N[j]?=some x/\scope.names.lookup x=some .free
 nocell:∀ y∈scope.names,y.2≠ .cell
 free:∀ y∈scope.names,y.2= .free->sc.names.lookup y.1=some .cell\/sc.names.lookup y.1=some .free
 loc:∀ y∈scope.names,y.2= .local->scope.names.lookup y.1=some .local
 kind:scope.kind= .function
theorem gJ.of {N:List Str}{sc scope:Scope}{N':List Str}{ix:List (Option Nat)}(h:vQ N sc scope N' ix=true):gJ N sc scope N' ix:=by
 unfold vQ at h
 simp only [Bool.and_eq_true,beq_iff_eq,List.all_eq_true] at h
 obtain ⟨⟨⟨h1,h2⟩,h3⟩,h4⟩:=h
 refine ⟨h1,fun i j x a b=>?_,fun y hy e=>?_,fun y hy e=>?_,fun y hy e=>?_,h4⟩
 ·have hm:(some j,x)∈ix.zip N':=br (i:=i) (by rw [List.getElem?_zip_eq_some];exact ⟨a,b⟩)
  have q:=h2 _ hm
  simp only [Bool.and_eq_true,beq_iff_eq] at q
  exact q
 ·have q:=h3 y hy
  simp only [Bool.and_eq_true,bne_iff_ne,ne_eq] at q
  exact q.1.1 e
 ·have q:=(h3 y hy).1.2
  rw [e] at q
  simpa using q
 ·have q:=(h3 y hy).2
  rw [e] at q
  simpa using q
def cD (X:Cx) (N':List Str) (scope:Scope) (C:Addr) (s₂:Shared) (H₂:Hp) (fp:List Addr):Cx where
 prog:=X.prog
 w:=X.w
 K:=X.K
 mg:=X.mg
 base:=X.base
 A:=X.A
 N:=N'
 s₀:=s₂
 H₀:=H₂
 env:=compEnvC scope (xK X.env scope.names) C X.env
 outer:=X.stack
 stack:=X.stack
 ex:=fp
 fn:=fun _=>false
 calm:=X.calm
 pn:=[]
 xe:=fun _ _=>False
section
variable {X:Cx}{N':List Str}{ix:List (Option Nat)}{scope:Scope}{pins:List (Addr×Obj)}{σ: St}{H₂:Hp}{s₂:Shared}{fp:List Addr}{C:Addr}
theorem gJ.cells (S:gJ X.N X.env.scope scope N' ix) (I:aR X pins σ H₂ s₂):∀ y∈scope.names,y.2= .free->∃ c,X.env.cells.lookup y.1=some c:=fun y hy e=>I.ok.has y.1 (S.free y hy e)
theorem gJ.get (S:gJ X.N X.env.scope scope N' ix) (I:aR X pins σ H₂ s₂) {x:Str}{c:Addr}(h:(xK X.env scope.names).lookup x=some c):X.env.cells.lookup x=some c:=by
 rcases aW0 scope.names [] (S.cells I) h with q | q
 ·exact absurd q (by simp)
 ·exact q
theorem aQ6 (S:gJ X.N X.env.scope scope N' ix) (I:aR X pins σ H₂ s₂) (hf:∀ b∈fp,mO X pins H₂ b) (hC:s₂.heap.objs.size<=C) (hfC:∀ b∈fp,b < s₂.heap.objs.size):(cD X N' scope C s₂ H₂ fp).Ok where
 mod:=I.ok.mod
 kind:=S.kind
 glob:=I.ok.glob
 blt:=I.ok.blt
 above:=hC
 inj:=fun x y c a b=>I.ok.inj x y c (S.get I a) (S.get I b)
 has:=fun x h=>aJ1 scope.names [] (.inl (nH S.nocell h))
 cab:=fun x c h=>by cases h
 hd:=I.ok.hd
 frames:=I.ok.frames
 stk:= .inl rfl
 exf:=fun b hb=>⟨bt (bm (hfC b hb) hC),fun x c e=>(hf b hb).2.2.2.2.1 x c (S.get I e)⟩
 bs:=I.bs
 bsz:=bv I.ok.bsz I.sz
 noex:=fun b o e hb=>by
  rcases (hf b hb).2.2.2.1 with z | z
  ·exact I.ok.noex b o e z
  ·exact absurd (bm (ay e) (bv I.ok.bsz z)) (gb _)
 exfs:=fun b hb hm=>by
  rcases av.mp (I.stkSub b hm) with z | z
  ·exact (hf b hb).2.1 z
  ·exact (hf b hb).2.2.1 z
 funs:=I.stack
 frf:=I.stkFree
theorem aF2 (S:gJ X.N X.env.scope scope N' ix) (I:aR X pins σ H₂ s₂) (hf:∀ b∈fp,mO X pins H₂ b) (hfC:∀ b∈fp,b < s₂.heap.objs.size) {D:Addr}{h₁:Heap}{tk:Nat}{m:Str->Option Value}{ob:Obj}
  (hC:s₂.heap.objs.size<=C) (hD:s₂.heap.objs.size<=D) (hDC:D≠C) (old:∀ b o,s₂.heap.get? b=some o->h₁.get? b=some o) (hn:h₁.Ns C m) (hob:h₁.get? D=some ob) (hd:∀ v,ob.data≠ .cell v) :
  aR (cD X N' scope C s₂ H₂ fp) [(D,ob)] (yQ ix σ) H₂ { s₂ with heap:=h₁,toks:=tk }:=by
 have fr:∀ a,s₂.heap.objs.size<=a->H₂ a=none:=fun a ha=>I.hok.fresh ha
 have cOf:∀ x c,(xK X.env scope.names).lookup x=some c->X.env.cells.lookup x=some c:=fun x c e=>S.get I e
 refine ⟨aQ6 S I hf hC hfC,rfl,I.bare,Un.kept old,⟨m,hn,fun i x v e1 e2 e3=>?_⟩,fun x c e=>?_,fr C hC,fun x c e=>I.freeC x c (cOf x c e),fun p hp=>?_,I.hok.kept old,?_⟩
 ·obtain ⟨j,q1,q2⟩:=aZ9 e2
  obtain ⟨n1,n2⟩:=S.at_ i j x q1 e1
  have hm:(x,NameKind.free)∈scope.names:=iw n2
  have hv:Vis X.env.scope x:=by
   rcases S.free _ hm rfl with z | z
   ·exact .inr (.inl z)
   ·exact .inr (.inr z)
  obtain ⟨m0,_,hl⟩:=I.loc
  obtain ⟨u,r,l⟩:=hl j x v n1 q2 hv
  refine ⟨u,r,?_⟩
  have hne:¬ X.env.kindOf x=some .local:=fun z=>by
   have z:X.env.scope.names.lookup x=some .local:=z
   rcases S.free _ hm rfl with y | y
   ·rw [y] at z;cases z
   ·rw [y] at z;cases z
  rcases l with ⟨k,_⟩ | ⟨k,c,e,z⟩
  ·exact absurd k hne
  ·obtain ⟨c',hc'⟩:=aJ1 (env:=X.env) (x:=x) scope.names [] (.inl hm)
   have hc'':=cOf x c' hc'
   rw [e] at hc''
   cases hc''
   have kk:(cD X N' scope C s₂ H₂ fp).env.kindOf x=some .cell\/(cD X N' scope C s₂ H₂ fp).env.kindOf x=some .free:=by
    rcases e3 with y | y | y
    ·exfalso
     have:∀ {names:List (Str×NameKind)},names.lookup x=some .free ->
      (names.map fun (n,k)=>if (k == NameKind.free && X.env.scope.kind == .function && X.env.kindOf n == some .cell) then (n,NameKind.cell) else (n,k)).lookup x=some .local->False:=by
      intro names
      induction names with
      |nil=>intro a;simp at a
      |cons p r ih =>
       obtain ⟨n,k⟩:=p
       intro a b
       simp only [List.map_cons] at b
       simp only [List.lookup_cons] at a
       cases hx:x == n with
       |true =>
        rw [hx] at a
        simp only [Option.some.injEq] at a
        subst a
        split at b
        ·simp [List.lookup_cons,hx] at b
        ·simp [List.lookup_cons,hx] at b
       |false =>
        rw [hx] at a
        split at b
        ·simp only [List.lookup_cons,hx] at b;exact ih a b
        ·simp only [List.lookup_cons,hx] at b;exact ih a b
     exact this n2 y
    ·exact .inl y
    ·exact .inr y
   obtain ⟨oc,ho,hod⟩:=z
   exact .inr ⟨kk,c,hc',oc,old _ _ ho,hod⟩
 ·obtain ⟨v,o,ho,hod⟩:=I.cell x c (cOf x c e)
  exact ⟨v,o,old _ _ ho,hod⟩
 ·have hp:p∈[(D,ob)]:=hp
  have e:p=(D,ob):=by simpa using hp
  subst e
  refine ⟨hob,fr D hD,hDC,fun hb=>?_,hd⟩
  have hb:D∈frs X.stack:=hb
  rcases av.mp (I.stkSub D hb) with z | z
  ·exact absurd I.lt (by rw [<- z];exact um.mpr hD)
  ·exact I.nofs hD z
 ·show (yQ ix σ).length=N'.length
  unfold yQ
  rw [ac,S.len]
theorem aI2 (I:aR X pins σ H₂ s₂) (hf:∀ b∈fp,mO X pins H₂ b) {pins':List (Addr×Obj)}{σ':St}{H':Hp}{s':Shared}{D:Addr}{ys:List V}{its:List Value}(hC:s₂.heap.objs.size<=C) (hD:s₂.heap.objs.size<=D)
  (J:aR (cD X N' scope C s₂ H₂ fp) pins' σ' H' s') (hn:H' D=none) (hl:s'.heap.PlainList D its.toArray) (r:bB ys its) (hz:ys.length<=sizeLine):aR X pins σ (aM H' D (.lst ys)) s':=by
 have sb:Un (frs X.stack) fp H₂ H' s₂.heap s'.heap:=J.base
 have nD:∀ b u,H' b=some u->b≠D:=fun b u e=>aN e hn
 refine I.call' (ch:=fp) J.os ⟨sb.keep,sb.slot,fun b o e n hx=>?_,sb.there,fun b xs e=>?_,fun b o u e=>?_,fun b ps e=>?_⟩ (fun b u e=>?_) J.bare (fun b hb=>?_)
 ·rw [aG (bt (bm (ay e) hD))]
  exact sb.free b o e n hx
 ·have q:=sb.tups b xs e
  rw [aG (nD b _ q)];exact q
 ·have q:=sb.frzs b o u e
  rw [aG (nD b _ q)];exact q
 ·obtain ⟨more,q⟩:=sb.tbls b ps e
  exact ⟨more,by rw [aG (nD b _ q)];exact q⟩
 ·by_cases hb:b=D
  ·subst hb
   rw [aD] at e
   cases e
   obtain ⟨n,hg⟩:=hl
   exact ⟨hz,its,n,r,hg⟩
  ·rw [aG hb] at e
   exact (J.hok b u e).stay (fun c v _ q=>q) (fun c q=>by rw [aG (nD c _ q)];exact q) fun c xs q=>by rw [aG (nD c _ q)];exact q
 ·obtain ⟨_,f1,_,f3,f4,f5⟩:=hf b hb
  exact ⟨f3,f1,f4,f5⟩
end
def lK (J:It) (g:TG) (tc:TT) (te:TE) (Kf:List V->Hp->Prop) (σ0:St) (H1:Hp):Prop :=
 ∃ W:Nat->Nat->List V->St->Hp->Prop,(∃ m,W 0 m [] σ0 H1)/\∀ i m ys σ' H',W i m ys σ' H'->ys.length < sizeLine /\
  ((J.stop i H'/\Kf ys H')\/(J.go i H'/\∃ N:List V->St->Hp->Prop,(∀ ys' σ2 H2,N ys' σ2 H2->∃ m',m' < m/\W (i+1) m' ys' σ2 H2)/\∀ x H'',J.yld i H' x H''->g x σ' H'' fun σ2 H2=>tc σ2 H2 fun b H3 =>
   if b=true then te σ2 H3 fun y H4=>N (ys++[y]) σ2 H4 else N ys σ2 H3))
def bP9 (wi:TI) (ix:List (Option Nat)) (g:TG) (tc:TT) (te:TE):TE:=fun σ H Q =>
 wi σ H fun J H1=>lK J g tc te (fun ys H'=>∀ l,H' l=none->Q (.ref l) (aM H' l (.lst ys))) (yQ ix σ) H1
section
variable {X:Cx}{tg elt iter:Expr}{ifs:List Expr}{scope:Scope}{pos:Pos}{N':List Str}{ix:List (Option Nat)}{wi:TI}{g:TG}{tc:TT}{te:TE}
def bI2 (X:Cx) (pins:List (Addr×Obj)) (σ: St) (Kf:List V->Hp->Prop) (acc:Value) (C:Addr) (s':Shared):Prop :=
 ∃ D H' ys,acc= .ref D/\H' D=none/\aR X pins σ (aM H' D (.lst ys)) s'/\(∃ m,s'.heap.Ns C m)/\H' C=none/\D≠C/\C≠X.env.locals/\X.s₀.heap.objs.size<=C/\(∀ x c,X.env.cells.lookup x=some c->c≠C)/\(∀ p∈X.pn++pins,p.1≠C)/\Kf ys H'
theorem vD {pins:List (Addr×Obj)}{s₂:Shared}{σ: St}{H₂:Hp}{it:Addr}{fp:List Addr}{tn:Nat->Heap->Prop}{J:It}{Kf:List V->Hp->Prop}{RR:Value->Addr->Result->Shared->Prop}{E:Value->Shared->Prop}
  (S:gJ X.N X.env.scope scope N' ix) (hc:X.calm=true)
  (hg:∀ C s₂ H₂ fp,PG (cD X N' scope C s₂ H₂ fp) tg g) (ht:∀ C s₂ H₂ fp,bE3 (cD X N' scope C s₂ H₂ fp) ifs tc) (he:∀ C s₂ H₂ fp,PE (cD X N' scope C s₂ H₂ fp) elt te)
  (I2:aR X pins σ H₂ s₂) (T:pO X.prog X.w X.K tg J fp it tn) (st2:tn 0 s₂.heap) (f2:∀ b∈fp,mO X pins H₂ b) (w:lK J g tc te Kf (yQ ix σ) H₂)
  (hR:∀ acc C s',bI2 X pins σ Kf acc C s'->RR acc C (.ok .next) s') :
  wpAny (model X.prog X.w) X.A (newList []) (fun acc s₃=>wpAny (model X.prog X.w) X.A (newFunctionEnv scope X.env.globals (xK X.env scope.names) [] X.env.qual none .none (some X.env)) (fun cenv s₄ =>
   codeAny (model X.prog X.w) X.A (.compStart (.ListComp elt [⟨tg,iter,ifs,0⟩] scope pos) 0 (.ref it) acc { cenv with scope:=relabel scope X.env }) (RR acc cenv.locals) s₄) E s₃) E s₂:=by
 obtain ⟨W,⟨m0,w0⟩,turn⟩:=w
 refine ff (wpAny_newFunctionEnv S.nocell (by intro y hy;simp at hy) (fun h₁ nsN sbN=>?_) S.kind)
 dsimp only at nsN sbN ⊢
 generalize eH:s₂.heap.push { cls:= .type "list",dict:=none,data:= .seq ([]:List Value).toArray }=G2 at nsN sbN ⊢
 have sizeC:G2.objs.size=s₂.heap.objs.size+1:=by rw [<- eH,gf]
 have neDC:s₂.heap.objs.size≠G2.objs.size:=by rw [sizeC];exact bt (dq _)
 have leC:s₂.heap.objs.size<=G2.objs.size:=by rw [sizeC];exact rm _
 have older:∀ b,b < s₂.heap.objs.size->b≠G2.objs.size/\b≠s₂.heap.objs.size:=fun b hb=>⟨by rw [sizeC];exact bt (om hb),bt hb⟩
 have keepOld:∀ b o,s₂.heap.get? b=some o->h₁.get? b=some o:=fun b o e=>sbN.extBut b o (older b (ay e)).1 (af _ (eH ▸ af _ e))
 have accNew:h₁.PlainList s₂.heap.objs.size #[]:=⟨_,sbN.extBut _ _ neDC (af _ (eH ▸ az _ rfl))⟩
 generalize eC:G2.objs.size=C at *
 generalize eD:s₂.heap.objs.size=D at *
 have hfC:∀ b∈fp,b < s₂.heap.objs.size:=fun b hb=>by
  obtain ⟨o,e,_⟩:=T.obj 0 _ st2 b hb
  exact ay e
 have hfD:∀ b∈fp,b≠D:=fun b hb=>by have:=hfC b hb;rw [eD] at this;exact bt this
 have hfC':∀ b∈fp,b≠C:=fun b hb=>by have:=hfC b hb;rw [eD] at this;exact bt (bm this leC)
 have geD:s₂.heap.objs.size<=D:=by rw [eD];exact ai _
 have geC:s₂.heap.objs.size<=C:=by rw [eD];exact leC
 obtain ⟨nn,hob⟩:=id accNew
 have J1:aR (cD X N' scope C s₂ H₂ fp) [] (yQ ix σ) H₂ { s₂ with heap:=h₁,toks:=s₂.toks+([]:List (Str×Value)).length } :=
  (aF2 S I2 f2 hfC geC geD neDC keepOld nsN hob (fun v z=>by cases z)).pins_of (fun p hp=>absurd hp (by simp))
 have nfsD:D∉frs X.stack:=fun hb=>by
  rcases av.mp (I2.stkSub D hb) with z | z
  ·exact absurd I2.lt (by rw [<- z];exact um.mpr geD)
  ·exact I2.nofs geD z
 have cOf:∀ x c,(xK X.env scope.names).lookup x=some c->c≠D/\c≠C:=fun x c e=>by
  obtain ⟨v,z⟩:=I2.cell x c (S.get I2 e)
  have:=z.lt
  rw [eD] at this
  exact ⟨bt this,bt (bm this leC)⟩
 have fpk:∀ {pl:List (Addr×Obj)}{H':Hp},(∀ b∈fp,H' b=none)->(∀ p∈pl,p.1∉fp)->∀ b∈fp,mO (cD X N' scope C s₂ H₂ fp) pl H' b:=fun {pl H'} hn hp b hb =>
  ⟨hn b hb,hfC' b hb,fun z=>by
    rcases av.mp (I2.stkSub b z) with q | q
    ·exact (f2 b hb).2.1 q
    ·exact (f2 b hb).2.2.1 q,
   .inl hb,fun x c e=>(f2 b hb).2.2.2.2.1 x c (S.get I2 e),fun p hp' z=>hp p (by simpa [cD] using hp') (by rw [z];exact hb)⟩
 have dpk:∀ {H':Hp},H' D=none->∀ b∈[D],mO (cD X N' scope C s₂ H₂ fp) [] H' b:=fun {H'} hn b hb=>by
  have e:b=D:=by simpa using hb
  subst e
  exact ⟨hn,neDC,nfsD,.inr geD,fun x c e=>(cOf x c e).1,fun p hp=>absurd hp (by simp [cD])⟩
 have loop:codeAny (model X.prog X.w) X.A (.compLoop (.ListComp elt [⟨tg,iter,ifs,0⟩] scope pos) 0 (.ref it) (.ref D) (compEnvC scope (xK X.env scope.names) C X.env)) (RR (.ref D) C) { s₂ with heap:=h₁,toks:=s₂.toks+([]:List (Str×Value)).length }:=by
  refine aR4 (fun n s'=>∃ i ys σ' H' its,aR (cD X N' scope C s₂ H₂ fp) [] σ' H' s'/\tn i s'.heap/\(∀ b∈fp,H' b=none)/\H' D=none/\s'.heap.PlainList D its.toArray/\bB ys its/\W i n ys σ' H') ?_ m0
   ⟨0,[],_,H₂,[],J1,T.keep _ _ _ st2 fun b _ o e=>keepOld b o e,fun b hb=>(f2 b hb).1,I2.hok.fresh geD,accNew,.nil,w0⟩
  rintro n s3 ⟨i,ys,σ3,H3,its,I3,st3,fr3,dn3,pl3,rv3,w3⟩
  obtain ⟨nn3,hob3⟩:=id pl3
  have oD:∀ b∈[D],∃ o,s3.heap.get? b=some o/\∀ v,o.data≠ .cell v:=fun b hb=>by
   have e:b=D:=by simpa using hb
   subst e
   exact ⟨_,hob3,fun v z=>by cases z⟩
  have I3':aR (cD X N' scope C s₂ H₂ fp) (gP [D] s3.heap) σ3 H3 s3:=by
   have:=I3.pinned (dpk dn3) oD
   simpa using this
  have pD:(D,({ cls:= .type "list",data:= .seq its.toArray nn3 }:Obj))∈gP [D] s3.heap:=gO (by simp) hob3
  have npD:∀ p∈gP [D] s3.heap,p.1∉fp:=fun p hp z=>by
   have e:p.1=D:=by simpa using (tO hp).1
   exact hfD _ z e
  obtain ⟨hys,tt⟩:=turn i n ys σ3 H3 w3
  rcases tt with ⟨stop,qn⟩ | ⟨go,N,hN,step⟩
  ·refine fq (T.done (cD X N' scope C s₂ H₂ fp) rfl rfl rfl hc i (gP [D] s3.heap) s3 σ3 H3 (fun _ _=>False) I3' (fpk fr3 npD) st3 stop) (fun r s4 ⟨hr,I4⟩=>?_) fun _ _ z=>z
   subst hr
   have g4:=(I4.pin _ (bh _ pD)).1
   refine hR _ _ _ ⟨D,H3,ys,rfl,dn3,aI2 I2 f2 geC geD I4 dn3 ⟨nn3,g4⟩ rv3 (fk hys),?_,?_,neDC,?_,?_,?_,?_,qn⟩
   ·obtain ⟨m,hm,_⟩:=I4.loc
    exact ⟨m,hm⟩
   ·exact I4.free
   ·exact jw (bm I2.lt geC)
   ·exact bv I2.sz geC
   ·intro x c e z
    obtain ⟨v,q⟩:=I2.cell x c e
    exact absurd (bm q.lt geC) (by rw [z];exact gb _)
   ·intro p hp z
    exact absurd (bm (ay (I2.pin p hp).1) geC) (by rw [z];exact gb _)
  ·refine fq (T.item (cD X N' scope C s₂ H₂ fp) rfl rfl rfl hc i (gP [D] s3.heap) s3 σ3 H3 (fun _ _=>False) I3' (fpk fr3 npD) st3 go) (fun r s4 ⟨u,hr,h4⟩=>?_) fun _ _ z=>z
   subst hr
   refine fq h4 (?_) fun _ _ z=>z;rintro _ s5 ⟨x,H5,I5,r5,y5,st5,fr5⟩
   have I5':=I5.pinned (fpk fr5 npD) (T.obj _ _ st5)
   refine fq (hg C s₂ H₂ fp _ s5 σ3 H5 x u _ I5' r5 (step x H5 y5)) (?_) fun _ _ z=>z;rintro _ s6 ⟨σ6,H6,I6,q6⟩
   refine fq (ht C s₂ H₂ fp _ s6 σ6 H6 _ I6 q6) (?_) fun _ _ z=>z;rintro b s7 ⟨H7,I7,q7⟩
   have fin:∀ {s8:Shared}{σ8:St}{H8:Hp},aR (cD X N' scope C s₂ H₂ fp) (gP [D] s3.heap++gP fp s5.heap) σ8 H8 s8->s8.heap.get? D=some { cls:= .type "list",data:= .seq its.toArray nn3 }/\H8 D=none /\
     tn (i+1) s8.heap/\∀ b∈fp,H8 b=none:=fun {s8 σ8 H8} I8=>by
    have q:=I8.pin _ (bh _ (dj _ pD))
    refine ⟨q.1,q.2.1,T.keep _ _ _ st5 fun b hb o e=>(I8.pin (b,o) (bh _ (bh _ (gO hb e)))).1,fun b hb=>?_⟩
    obtain ⟨o,e,d⟩:=T.obj _ _ st5 b hb
    exact (I8.pin (b,o) (bh _ (bh _ (gO hb e)))).2.1
   cases b with
   |false =>
    obtain ⟨m',hm,w7⟩:=hN _ _ _ q7
    obtain ⟨a1,a2,a3,a4⟩:=fin I7
    exact ⟨m',hm,i+1,ys,σ6,H7,its,I7.pins_of fun p hp=>absurd hp (by simp),a3,a4,a2,⟨nn3,a1⟩,rv3,w7⟩
   |true =>
    refine fq (he C s₂ H₂ fp _ s7 σ6 H7 _ I7 q7) (?_) fun _ _ z=>z;rintro v s8 ⟨y,H8,I8,r8,n8⟩
    obtain ⟨m',hm,w8⟩:=hN _ _ _ n8
    obtain ⟨a1,a2,a3,a4⟩:=fin I8
    have hsz:its.toArray.size<=sizeLine:=by
     have:=rv3.length
     rw [aw]
     omega
    refine wpAny_list_append_plain (hsz:=hsz) ⟨nn3,a1⟩ fun h9 hl9 hs9=>?_
    have I9:aR (cD X N' scope C s₂ H₂ fp) [] σ6 H8 { s8 with heap:=h9 } :=
     (I8.pins_of (pins':=[]) fun p hp=>absurd hp (by simp)).turned (t':=s8.toks) (fun b o hb e=>(hs9.2 b hb).trans e) a2 neDC (.inr geD) (fun x c e=>(cOf x c e).1) fun p hp=>absurd hp (by simp [cD])
    refine ⟨m',hm,i+1,ys++[y],σ6,H8,its++[v],I9,T.keep _ _ _ a3 fun b hb o e=>(hs9.2 b (hfD b hb)).trans e,a4,a2,?_,rv3.append (.cons r8 .nil),w8⟩
    have e:(its++[v]).toArray=its.toArray.push v:=by simp
    rw [e];exact hl9
 exact codeAny_compStart_list loop (T.self _ 0 _ _ _ (T.keep _ _ _ st2 fun b _ o e=>keepOld b o e) loop)
theorem eV (N':List Str) (ix:List (Option Nat)) (hi:PI X tg iter wi) (hg:∀ C s₂ H₂ fp,PG (cD X N' scope C s₂ H₂ fp) tg g) (ht:∀ C s₂ H₂ fp,bE3 (cD X N' scope C s₂ H₂ fp) ifs tc)
  (he:∀ C s₂ H₂ fp,PE (cD X N' scope C s₂ H₂ fp) elt te) (S:autoParam (vQ X.N X.env.scope scope N' ix=true) Rq0._auto_1) (hc:autoParam (X.calm=true) Rq0._auto_1) (hs:autoParam (∀ x,foldedSetIterable iter X.env x=pure x) Rq3._auto_1) :
  PE X (.ListComp elt [⟨tg,iter,ifs,0⟩] scope pos) (bP9 wi ix g tc te):=by
 intro pins s σ H Q I h
 have S:=gJ.of S
 rw [eval_ListComp]
 refine uy (use:=none) (cl:=xK X.env scope.names) rfl hs (qV fun y hy e=>I.ok.has y.1 (S.free y hy e)) S.kind S.loc (cV (hi pins s σ H _ I h) fun xv s₁ h₁=>cV h₁ fun itv s₂ h₂=>?_)
 obtain ⟨it,fp,tn,J,H₂,rfl,I2,T,st2,f2,w⟩:=h₂
 refine vD (RR:=fun acc C=>compPost (model X.prog X.w) X.A X.xe none (EP X pins σ Q) acc C) S hc hg ht he I2 T st2 f2 w fun acc C s' ce=>?_
 obtain ⟨D,H',ys,rfl,dn,J',hm,cn,dc,c1,c2,c3,c4,kf⟩:=ce
 obtain ⟨m,hm⟩:=hm
 refine ⟨m,hm,fun h' hs'=>⟨.ref D,_,J'.turned (t':=s'.toks) (fun b o hb e=>(hs'.2 b hb).trans e) (by rw [aG dc.symm];exact cn) c1 (.inr c2) c3 c4,rfl,kf D dn⟩⟩
theorem xC (N':List Str) (ix:List (Option Nat)) {i:Nat}{x:Str}{pos' spos:Pos}(hN:X.N.Nodup) (hxi:X.N[i]?=some x) (hx:Loc X.env.scope x) (hi:PI X tg iter wi) (hg:∀ C s₂ H₂ fp,PG (cD X N' scope C s₂ H₂ fp) tg g) (ht:∀ C s₂ H₂ fp,bE3 (cD X N' scope C s₂ H₂ fp) ifs tc)
  (he:∀ C s₂ H₂ fp,PE (cD X N' scope C s₂ H₂ fp) elt te) (S:autoParam (vQ X.N X.env.scope scope N' ix=true) Rq0._auto_1) (hc:autoParam (X.calm=true) Rq0._auto_1) (hs:autoParam (∀ x,foldedSetIterable iter X.env x=pure x) Rq3._auto_1)
  (hsw:autoParam (swapsWith (.ListComp elt [⟨tg,iter,ifs,0⟩] scope pos) (some (.Name x pos')) spos.line X.env=pure true) Rq0._auto_1) (hf:autoParam (X.fn x=true\/X.env.scope.names.lookup x=some .local) Rq2._auto_1) :
  PS X (.Assign [.Name x pos'] (.ListComp elt [⟨tg,iter,ifs,0⟩] scope pos) spos) (aX8 (bP9 wi ix g tc te) (vL i)):=by
 intro pins s σ H D I h
 have S:=gJ.of S
 rw [exec_Assign_Name_used _ _ _ _ hsw]
 refine aa (tq (aa ?_))
 show wpAny _ X.A (do let _ <- comprehension (.ListComp elt [⟨tg,iter,ifs,0⟩] scope pos) scope X.env _ (newList []) false (eval iter X.env) (some (assign (.Name x pos') X.env))) _ _ s
 refine aa (fq (uy (use:=some (assign (.Name x pos') X.env)) (cl:=xK X.env scope.names) (Q:=fun _ s'=>SP X pins D .next s') rfl hs (qV fun y hy e=>I.ok.has y.1 (S.free y hy e)) S.kind S.loc
  (cV (hi pins s σ H _ I h) fun xv s₁ h₁=>cV h₁ fun itv s₂ h₂=>?_)) (fun _ s' hq=>am (am hq)) fun _ _ e=>e)
 obtain ⟨it,fp,tn,J,H₂,rfl,I2,T,st2,f2,w⟩:=h₂
 refine vD (RR:=fun acc C=>compPost (model X.prog X.w) X.A X.xe (some (assign (.Name x pos') X.env)) (fun _ s'=>SP X pins D .next s') acc C) S hc hg ht he I2 T st2 f2 w fun acc C s' ce=>?_
 obtain ⟨D',H',ys,rfl,dn,J',hm,cn,dc,c1,c2,c3,c4,kf⟩:=ce
 obtain ⟨m,hm⟩:=hm
 show wpAny _ X.A (assign (.Name x pos') X.env (.ref D')) _ _ _
 refine zp (tX (v:= .ref D') J' hN hxi hx rfl (fun s2 J2 hsb=>?_) hf)
 obtain ⟨a,hsb,ha⟩:=hsb
 have hCa:C≠a:=by
  rcases ha with z | z
  ·rw [z];exact c1
  ·exact (c3 x a z).symm
 refine ⟨m,hm.sameBut hsb hCa,fun h' hs'=>?_⟩
 exact ⟨_,_,J2.turned (t':=s2.toks) (fun b o hb e=>(hs'.2 b hb).trans e) (by rw [aG dc.symm];exact cn) c1 (.inr c2) c3 c4,kf D' dn⟩
theorem uH {K:PySem.W.Frag}{a:Addr}{xs:List V}{Kf:List V->Hp->Prop}{σ0:St}{H1:Hp}(Pv:Nat->List V->St->Hp->Prop) (hz:xs.length < sizeLine) (h0:Pv 0 [] σ0 H1) (hb:∀ i ys σ H,Pv i ys σ H->ys.length<=i) (hl:∀ i ys σ H,i<=xs.length->Pv i ys σ H->bM K H a xs)
  (hs:∀ i x ys σ H,xs[i]?=some x->Pv i ys σ H->g x σ H fun σ2 H2=>tc σ2 H2 fun b H3=>if b=true then te σ2 H3 fun y H4=>Pv (i+1) (ys++[y]) σ2 H4 else Pv (i+1) ys σ2 H3) (hd:∀ ys σ H,Pv xs.length ys σ H->Kf ys H):lK (Itl K a) g tc te Kf σ0 H1:=by
 refine ⟨fun i m ys σ H=>m=xs.length - i/\i<=xs.length/\Pv i ys σ H,⟨xs.length,by simp,bj _,h0⟩,?_⟩
 rintro i m ys σ H ⟨rfl,hi,p⟩
 have q:=hl i ys σ H hi p
 refine ⟨cg (hb _ _ _ _ p) (cg hi hz),?_⟩
 by_cases hlt:i < xs.length
 ·refine .inr ⟨⟨xs,xs[i],q,by simp [hlt]⟩,Pv (i+1),fun ys' σ' H' p'=>⟨xs.length - (i+1),fj hlt (dq i),rfl,hlt,p'⟩,fun x H' y=>?_⟩
  obtain ⟨e,y⟩:=y
  subst e
  exact hs i x ys σ _ (y xs q) p
 ·have e:i=xs.length:=by omega
  subst e
  exact .inl ⟨⟨xs,q,ai _⟩,hd ys σ H p⟩
theorem nK {K:PySem.W.Frag}{a:Addr}{xs:List V}{Kf:List V->Hp->Prop}{σ0:St}{H1:Hp}(Pv:Nat->List V->St->Hp->Prop) (hz:xs.length < sizeLine) (h0:Pv 0 [] σ0 H1) (hb:∀ i ys σ H,Pv i ys σ H->ys.length<=i) (hl:∀ i ys σ H,i<=xs.length->Pv i ys σ H->aT K H a xs)
  (hs:∀ i x ys σ H,xs[i]?=some x->Pv i ys σ H->g x σ H fun σ2 H2=>tc σ2 H2 fun b H3=>if b=true then te σ2 H3 fun y H4=>Pv (i+1) (ys++[y]) σ2 H4 else Pv (i+1) ys σ2 H3) (hd:∀ ys σ H,Pv xs.length ys σ H->Kf ys H):lK (Itt K a) g tc te Kf σ0 H1:=by
 refine ⟨fun i m ys σ H=>m=xs.length - i/\i<=xs.length/\Pv i ys σ H,⟨xs.length,by simp,bj _,h0⟩,?_⟩
 rintro i m ys σ H ⟨rfl,hi,p⟩
 have q:=hl i ys σ H hi p
 refine ⟨cg (hb _ _ _ _ p) (cg hi hz),?_⟩
 by_cases hlt:i < xs.length
 ·refine .inr ⟨⟨xs,xs[i],q,by simp [hlt]⟩,Pv (i+1),fun ys' σ' H' p'=>⟨xs.length - (i+1),fj hlt (dq i),rfl,hlt,p'⟩,fun x H' y=>?_⟩
  obtain ⟨e,y⟩:=y
  subst e
  exact hs i x ys σ _ (y xs q) p
 ·have e:i=xs.length:=by omega
  subst e
  exact .inl ⟨⟨xs,q,ai _⟩,hd ys σ H p⟩
theorem fL {lo:Int}{n:Nat}{Kf:List V->Hp->Prop}{σ0:St}{H1:Hp}(Pv:Nat->List V->St->Hp->Prop) (hz:n < sizeLine) (h0:Pv 0 [] σ0 H1) (hb:∀ i ys σ H,Pv i ys σ H->ys.length<=i)
  (hs:∀ i ys σ H,i < n->Pv i ys σ H->g (.int (lo+i)) σ H fun σ2 H2=>tc σ2 H2 fun b H3=>if b=true then te σ2 H3 fun y H4=>Pv (i+1) (ys++[y]) σ2 H4 else Pv (i+1) ys σ2 H3) (hd:∀ ys σ H,Pv n ys σ H->Kf ys H):lK (Itr lo n) g tc te Kf σ0 H1:=by
 refine ⟨fun i m ys σ H=>m=n - i/\i<=n/\Pv i ys σ H,⟨n,by simp,bj _,h0⟩,?_⟩
 rintro i m ys σ H ⟨rfl,hi,p⟩
 refine ⟨cg (hb _ _ _ _ p) (cg hi hz),?_⟩
 by_cases hlt:i < n
 ·refine .inr ⟨hlt,Pv (i+1),fun ys' σ' H' p'=>⟨n - (i+1),fj hlt (dq i),rfl,hlt,p'⟩,fun x H' y=>?_⟩
  obtain ⟨e,y⟩:=y
  subst e y
  exact hs i ys σ _ hlt p
 ·have e:i=n:=by omega
  subst e
  exact .inl ⟨ai _,hd ys σ H p⟩
end
section
variable {prog:Program}{w:World}{A:Around}{E:Value->Shared->Prop}{Q:Value->Shared->Prop}{s:Shared}{it p:Addr}{items:Array Value}
end
def cN5 (i j:Int):Prop:=0 < j/\j < 2 ^ 250
theorem mP {X:Cx}:kK X (binaryOp .FloorDiv) (rI cN5 fun i j=> .int (i / j)):=opI fun i j _ _ _ _ _ hc q=>by
 obtain ⟨h0,h1⟩:=hc
 refine floordiv_int (by omega) ?_ (.inl (uz ?_))
 ·rw [ua i (by omega)];exact q
 ·have h2:j.natAbs < 2 ^ 250:=by
   have e:((j.natAbs:Nat):Int)=j:=xg (by omega)
   have:((j.natAbs:Nat):Int) < ((2 ^ 250:Nat):Int):=by rw [e];exact_mod_cast h1
   exact Int.ofNat_lt.mp this
  have h3:j.natAbs≠0:=by omega
  have h4:j.natAbs.log2 < 250:=(Nat.log2_lt h3).mpr h2
  exact bm h4 (by decide)
def Out (d l:Addr) (H H':Hp):Prop:=∀ b o,H b=some o->b≠d->b≠l->H' b=some o
theorem Out.refl {d l:Addr}(H:Hp):Out d l H H:=fun _ _ e _ _=>e
theorem Out.trans {d l:Addr}{H H1 H2:Hp}(a:Out d l H H1) (b:Out d l H1 H2):Out d l H H2:=fun c o e h1 h2=>b c o (a c o e h1 h2) h1 h2
theorem Out.of {d l:Addr}{H H':Hp}(s:aU H H'):Out d l H H':=fun c o e _ _=>s c o e
theorem Out.upd_d {d l:Addr}{H:Hp}{o:HO}:Out d l H (aM H d o):=fun b u e h1 _=>by rw [aG h1];exact e
theorem Out.upd_l {d l:Addr}{H:Hp}{o:HO}:Out d l H (aM H l o):=fun b u e _ h1=>by rw [aG h1];exact e
theorem aC {H:Hp}{p:Addr}(h:H p=none) (o:HO):aU H (aM H p o):=fun b u q=>by rw [aG (aN q h)];exact q
theorem kY {ns:List Int}{i:Nat}{y:V}(h:(ns.map V.int)[i]?=some y):∃ z,y=V.int z/\ns[i]?=some z:=by
 rw [cy] at h
 cases e:ns[i]? with
 |none=>rw [e] at h;cases h
 |some z=>rw [e] at h;exact ⟨z,(cx h).symm,rfl⟩
mutual
def nW (K:PySem.W.Frag) (H:Hp):PyData->V->Prop
 |.none,v=>v= .non
 |.bool b,v=>v= .bl b
 |.int i,v=>v= .int i
 |.str x,v=>v= .str x
 |.tuple ds,v=>∃ a vs,v= .ref a/\aT K H a vs/\sI K H ds vs
 |.list ds,v=>∃ a vs,v= .ref a/\bM K H a vs/\sI K H ds vs
 |.dict _,_=>False
def sI (K:PySem.W.Frag) (H:Hp):List PyData->List V->Prop
 |[],vs=>vs=[]
 |d :: ds,vs=>∃ v r,vs=v :: r/\nW K H d v/\sI K H ds r
end
section
variable {X:Cx}{pins:List (Addr×Obj)}{σ: St}{H:Hp}{s:Shared}
mutual
theorem nW.reads (I:aR X pins σ H s):∀ (d:PyData) (v:V) (u:Value),nW X.K H d v->bG v u->∃ as,Reads s.heap u d as
 |.none,v,u,h,r=>by
  have h:v= .non:=h
  subst h;cases r;exact ⟨_,.none⟩
 |.bool b,v,u,h,r=>by
  have h:v= .bl b:=h
  subst h;cases r;exact ⟨_,.bool b⟩
 |.int i,v,u,h,r=>by
  have h:v= .int i:=h
  subst h;obtain ⟨t,rfl⟩:=r;exact ⟨_,.int i t⟩
 |.str x,v,u,h,r=>by
  have h:v= .str x:=h
  subst h;obtain ⟨t,rfl⟩:=r;exact ⟨_,.str x t⟩
 |.tuple ds,v,u,h,r=>by
  obtain ⟨a,vs,rfl,hs,hl⟩:=h
  cases r
  obtain ⟨its,rv,⟨o,ho,hc,n,hd⟩,_⟩:=I.tuple hs
  obtain ⟨as,ra⟩:=sI.reads I ds vs its hl rv
  exact ⟨_,.tuple ho hc hd (by simpa using ra)⟩
 |.list ds,v,u,h,r=>by
  obtain ⟨a,vs,rfl,hs,hl⟩:=h
  cases r
  obtain ⟨its,rv,pl,_⟩:=I.list hs
  obtain ⟨o,ho,hc,n,hd⟩:=pl.isList
  obtain ⟨as,ra⟩:=sI.reads I ds vs its hl rv
  exact ⟨_,.list ho hc hd (by simpa using ra)⟩
 |.dict _,v,u,h,r=>h.elim
theorem sI.reads (I:aR X pins σ H s):∀ (ds:List PyData) (vs:List V) (us:List Value),sI X.K H ds vs->bB vs us->∃ as,ReadsAll s.heap us ds as
 |[],vs,us,h,r=>by
  have h:vs=[]:=h
  subst h;cases r;exact ⟨_,.nil⟩
 |d :: ds,vs,us,h,r=>by
  obtain ⟨v,t,rfl,hd,ht⟩:=h
  cases r with
  |cons r1 r2 =>
   obtain ⟨as,ra⟩:=nW.reads I d v _ hd r1
   obtain ⟨bs,rb⟩:=sI.reads I ds t _ ht r2
   exact ⟨_,.cons ra rb⟩
end
end
section
variable {X:Cx}
def cG7 (K:PySem.W.Frag) (neg:Bool):R2:=fun x y H Q=>∃ d e,nW K H d x/\nW K H e y/\SeqAt.shaped d=true/\SeqAt.shaped e=true/\SeqAt.noMix d e=true/\Q (.bl (if neg then !Spec.same d e else Spec.same d e)) H
theorem aC9 {k:Nat}(hr:dE k X.A):kK X (compareOp .NotEq) (cG7 X.K true):=by
 intro pins s σ H x y v u Q I rx ry h
 obtain ⟨d,e,hd,he,sd,se,mx,q⟩:=h
 obtain ⟨as,ra⟩:=nW.reads I d x v hd rx
 obtain ⟨bs,rb⟩:=nW.reads I e y u he ry
 exact ne_dataH_same ra rb sd se hr.units mx ⟨.bl _,H,I,rfl,q⟩
theorem tL {K:PySem.W.Frag}{H:Hp}:∀ ns:List Int,sI K H (ns.map PyData.int) (ns.map V.int)
 |[]=>rfl
 |n :: r=>⟨_,_,rfl,rfl,tL r⟩
theorem aB0:∀ ns:List Int,PyData.canLayAll0 (ns.map PyData.int)=true
 |[]=>rfl
 |_ :: r=>by simp [PyData.canLayAll0,PyData.canLay0,aB0 r]
theorem rH:∀ ns:List Int,PyData.depthAll (ns.map PyData.int)=0
 |[]=>rfl
 |_ :: r=>by simp [PyData.depthAll,PyData.depth,rH r]
theorem qU:∀ ns ms:List Int,SeqAt.noMixAll (ns.map PyData.int) (ms.map PyData.int)=true
 |[],[]=>rfl
 |[],_ :: _=>rfl
 |_ :: _,[]=>rfl
 |_ :: r,_ :: t=>by simp [SeqAt.noMixAll,SeqAt.noMix,qU r t]
theorem jD:∀ ns ms:List Int,Spec.sameAll (ns.map PyData.int) (ms.map PyData.int)=decide (ns=ms)
 |[],[]=>by simp [Spec.sameAll]
 |[],_ :: _=>by simp [Spec.sameAll]
 |_ :: _,[]=>by simp [Spec.sameAll]
 |a :: r,b :: t=>by
  simp only [List.map_cons,Spec.sameAll,Spec.same,jD r t]
  by_cases h:a=b <;> by_cases h':r=t <;> simp [h,h']
end
section
variable {X:Cx}(K:PySem.W.Frag)
theorem cO0 (hK:autoParam (X.K=K) Rq0._auto_1):eS X (.builtin "len") (fun xs H Q=>∃ p ys,xs=[.ref p]/\(bM K H p ys\/aT K H p ys)/\Q (.int ys.length) H):=by subst hK;exact bW
theorem cQ4 (hK:autoParam (X.K=K) Rq0._auto_1):IxR X (cH0 K):=by subst hK;exact cW
theorem aQ4 (hK:autoParam (X.K=K) Rq0._auto_1):IxR X (cJ4 K):=by subst hK;exact aJ
theorem inK (hK:autoParam (X.K=K) Rq0._auto_1):kK X (compareOp .In) (rIn K false):=by subst hK;exact fN
theorem cO4 (hK:autoParam (X.K=K) Rq0._auto_1):kK X (compareOp .NotIn) (rIn K true):=by subst hK;exact mV
end
theorem bV {c A B:Prop} [Decidable c] (hc:c) (h:A):if c then A else B:=by rw [ao hc];exact h
theorem bF {c A B:Prop} [Decidable c] (hc:¬ c) (h:B):if c then A else B:=by rw [aj hc];exact h
theorem at0 {α: Type}(v:α) (r:List α):mH (v :: r) 0=some v:=by
 have h:(0:Int) < ((v :: r).length:Int):=by simp
 unfold mH ixN
 rw [ao (by decide),ao h]
 rfl
def aQ (lo:Int) (n:Nat):List Int:=(List.range n).map fun (i:Nat)=>lo+(i:Int)
theorem bO (lo:Int) (n:Nat):(aQ lo n).length=n:=by simp [aQ]
theorem bZ (lo:Int) (n:Nat):aQ lo (n+1)=aQ lo n++[lo+n]:=by simp [aQ,List.range_succ]
theorem aH1 {lo:Int}{n i:Nat}(h:i < n):(aQ lo n)[i]?=some (lo+i):=by
 unfold aQ
 rw [cy,List.getElem?_range h]
 rfl
theorem eJ {lo z:Int}{n:Nat}:z∈aQ lo n↔lo<=z/\z < lo+n:=by
 unfold aQ
 rw [cm]
 constructor
 ·rintro ⟨i,hi,rfl⟩
  have:=wq.mp hi
  omega
 ·rintro ⟨h1,h2⟩
  exact ⟨(z - lo).toNat,wq.mpr (by omega),by omega⟩
section
variable {X:Cx}
theorem cG5 {es:List Expr}{k:Nat}{t:TGs}{n:Nat}{pos:Pos}(K:PySem.W.Frag) (hc:X.calm=true) (h:PGs X es t) (hK:autoParam (X.K=K) Rq0._auto_1)
  (hn:autoParam ((assignEach es X.env).length=n) Rq0._auto_1) (hst:autoParam ((assignEach es X.env).findIdx? (·.1)=none) Rq0._auto_1):PG X (.Tuple es k pos) (cH9 K n t):=by subst hK;exact mG hc h hn hst
theorem cR6 {k:Nat}(K:PySem.W.Frag) (hr:dE k X.A) (hK:autoParam (X.K=K) Rq0._auto_1):kK X (compareOp .NotEq) (cG7 K true):=by subst hK;exact aC9 hr
end
def yY (i:Int):Prop:= -(2 ^ 250) < i/\i < 2 ^ 250
def cE4 (i j:Int):Prop:=yY i/\yY j
theorem yY.bits {i:Int}(h:yY i):Builtin.Int.intBits i<=2 ^ 20:=by
 have h1:i.natAbs < 2 ^ 250:=by
  have:=h.1;have:=h.2;omega
 exact bv (ny h1) (by decide)
theorem hZ {X:Cx}:kK X (binaryOp .Mult) (rI cE4 fun i j=> .int (i * j)):=opI fun _ _ _ _ _ _ _ hc q=>mul_int q (IntMulOk.of_bits hc.1.bits hc.2.bits)
section
variable {X:Cx}
end
def oY (a b:Int):PyData:= .tuple [.int a,.int b]
theorem rX {K:PySem.W.Frag}{H:Hp}{p:Addr}{a b:Int}(h:H p=some (.tup [.int a,.int b])):nW K H (oY a b) (.ref p):=⟨p,_,rfl,aT.of h,_,_,rfl,rfl,_,_,rfl,rfl,rfl⟩
section
variable {X:Cx}{pins:List (Addr×Obj)}{σ: St}{H:Hp}{s:Shared}{h':Heap}
theorem aR.turnedNew {T:Addr}{o:HO}{rs:List Addr}{t':Nat}(I:aR X pins σ H s) (hf:∀ b∈rs,mO X pins H b) (k:∀ b u,b∉rs->s.heap.get? b=some u->h'.get? b=some u)
  (hp:s.heap.objs.size<=T) (new:cJ X.prog X.w (aM H T o) h' T o):aR X pins σ (aM H T o) { s with heap:=h',toks:=t' }:=by
 have fT:H T=none:=I.hok.fresh hp
 have nT:∀ b u,s.heap.get? b=some u->b≠T:=fun b u e z=>absurd (ay e) (by rw [z];exact um.mpr hp)
 have nrs:∀ b u,H b=some u->b∉rs:=fun b u e z=>by rw [(hf b z).1] at e;cases e
 refine I.step (g':=s.gens) (d':=s.drawn) (ch:=rs) (fun b hb=>⟨(hf b hb).2.2.2.1,(hf b hb).2.1,(hf b hb).2.2.2.2.1,(hf b hb).2.2.2.2.2⟩) (fun b u _ _ hc e _=>k b u hc e) (fun b u _ _ hc e _=>⟨u.slots,k b u hc e⟩)
  (fun b u _ e n=>by rw [aG (nT b u e)];exact n) (fun b u hc e=>⟨u,k b u hc e⟩) (fun b xs e=>by rw [aG (aN e fT)];exact e) (fun b u v e=>by rw [aG (aN e fT)];exact e)
  (fun b ps e=>⟨#[],by rw [aG (aN e fT),e];simp⟩) (fun m hm=>?_) (fun b u e=>?_) I.bare
 ·obtain ⟨u,es,ep,hu,r⟩:=hm
  exact ⟨u,es,ep,k _ u (fun z=>(hf _ z).2.1 rfl) hu,r⟩
 ·by_cases hb:b=T
  ·subst hb
   rw [aD] at e
   cases e
   exact new
  ·rw [aG hb] at e
   refine (I.hok b u e).stay (fun c v hc q=>k c v ?_ q) (fun c q=>by rw [aG (aN q fT)];exact q) fun c xs q=>by rw [aG (aN q fT)];exact q
   rcases hc with z | z
   ·rw [z];exact nrs b u e
   ·exact nrs c _ z
theorem aR.turnedL {rs:List Addr}{t':Nat}(I:aR X pins σ H s) (hf:∀ b∈rs,mO X pins H b) (k:∀ b u,b∉rs->s.heap.get? b=some u->h'.get? b=some u):aR X pins σ H { s with heap:=h',toks:=t' }:=by
 have nrs:∀ b u,H b=some u->b∉rs:=fun b u e z=>by rw [(hf b z).1] at e;cases e
 refine I.step (g':=s.gens) (d':=s.drawn) (ch:=rs) (fun b hb=>⟨(hf b hb).2.2.2.1,(hf b hb).2.1,(hf b hb).2.2.2.2.1,(hf b hb).2.2.2.2.2⟩) (fun b u _ _ hc e _=>k b u hc e) (fun b u _ _ hc e _=>⟨u.slots,k b u hc e⟩)
  (fun b u _ _ n=>n) (fun b u hc e=>⟨u,k b u hc e⟩) (fun b xs e=>e) (fun b u v e=>e) (fun b ps e=>⟨#[],by rw [e];simp⟩) (fun m hm=>?_) (fun b u e=>?_) I.bare
 ·obtain ⟨u,es,ep,hu,r⟩:=hm
  exact ⟨u,es,ep,k _ u (fun z=>(hf _ z).2.1 rfl) hu,r⟩
 ·refine (I.hok b u e).stay (fun c v hc q=>k c v ?_ q) (fun c q=>q) fun c xs q=>q
  rcases hc with z | z
  ·rw [z];exact nrs b u e
  ·exact nrs c _ z
end
section
variable {prog:Program}{w:World}{A:Around}{E:Value->Shared->Prop}{s:Shared}
theorem aG4 {J t:Addr}{i:Nat}{its:Array Value}{v:Value}{Q:Value->Shared->Prop}(a1:s.heap.IsTupleIter J t i) (a2:s.heap.IsTuple t its) (a3:its[i]?=some v)
  (k:∀ g,g.IsTupleIter J t (i+1)->Heap.SameBut J s.heap g->Q v { s with heap:=g }):wpAny (model prog w) A (Builtin.SmallTypes.nextOf (.ref J)) Q E s:=by
 obtain ⟨oJ,e1,e2,e3⟩:=id a1
 obtain ⟨oT,e4,_,m,e5⟩:=a2
 unfold Builtin.SmallTypes.nextOf
 refine aa (ef (name:=Str.ofString "__next__") a1.typeIs jo (dw jo a1.typeIs ss ?_ (rc _)))
 show wpAny _ _ (field (.ref J) 0 >>= _) _ _ s
 refine aa (eu e1 e3 (x:= .ref t) rfl ?_)
 refine (show wpAny _ _ (if (Value.ref t == Value.none)=true then _ else _) _ _ s from ?_)
 rw [aj (show ¬ ((Value.ref t == Value.none)=true) by exact bo)]
 show wpAny _ _ (field (.ref J) 1 >>= _) _ _ s
 refine aa (eu e1 e3 (x:= .int i 0) rfl ?_)
 refine (show wpAny _ _ (seqItems? (.ref t) >>= _) _ _ s from aa (gi e4 e5 ?_))
 simp only [Int.toNat_natCast,a3]
 refine aa (jv e1 e3 (by simp) (am ⟨v,rfl,am (k _ ?_ (ic ..))⟩))
 exact ⟨_,jj _ e1 (kx (gq e3 _)),(ug ..).trans e2,by rw [gq e3];simp [rawInt]⟩
theorem lV {J t:Addr}{i:Nat}{its:Array Value}{Q:Value->Shared->Prop}(hh:A.handled=none) (a1:s.heap.IsTupleIter J t i) (a2:s.heap.IsTuple t its) (a3:its[i]?=none)
  (k:∀ g e,Heap.ExtBut J s.heap g->(∃ o,g.get? e=some o/\o.cls= .type "StopIteration")->E (.ref e) { s with heap:=g }):wpAny (model prog w) A (Builtin.SmallTypes.nextOf (.ref J)) Q E s:=by
 obtain ⟨oJ,e1,e2,e3⟩:=id a1
 obtain ⟨oT,e4,_,m,e5⟩:=a2
 unfold Builtin.SmallTypes.nextOf
 refine aa (ef (name:=Str.ofString "__next__") a1.typeIs jo (dw jo a1.typeIs ss ?_ (rc _)))
 show wpAny _ _ (field (.ref J) 0 >>= _) _ _ s
 refine aa (eu e1 e3 (x:= .ref t) rfl ?_)
 refine (show wpAny _ _ (if (Value.ref t == Value.none)=true then _ else _) _ _ s from ?_)
 rw [aj (show ¬ ((Value.ref t == Value.none)=true) by exact bo)]
 show wpAny _ _ (field (.ref J) 1 >>= _) _ _ s
 refine aa (eu e1 e3 (x:= .int i 0) rfl ?_)
 refine (show wpAny _ _ (seqItems? (.ref t) >>= _) _ _ s from aa (gi e4 e5 ?_))
 simp only [Int.toNat_natCast,a3]
 refine aa (kc (aa (jv e1 e3 (by simp) ?_)))
 refine (show wpAny _ _ (newExc (.type "StopIteration") [] >>= _) _ _ _ from aa ?_)
 simp only [newExc,newTuple]
 refine aa (ff ?_ (by size_fits))
 refine aa (m:=firstArgMember _ _) (kq (a:=Value.none) (by first | exact rfl | (simp only [firstArgMember];rfl)) ?_)
 refine ff ?_ (by size_fits)
 simp only [raiseNew]
 refine aa (yc ?_)
 first | rw [hh] | rw [show A.in1.handled=none from hh]
 refine aa (am (aAb ?_))
 exact k _ _ (((ic ..).extBut.push _).push _) ⟨_,az _ rfl,rfl⟩
structure aK9 (g:Heap) (n l1 l2:Addr) (i:Nat):Prop where
 z:IsZip g (n+4) (n+2) (n+3) .none
 I:IsPair g (n+2) (.ref n) (.ref (n+1))
 O:∃ a b,IsPair g (n+3) a b
 i1:g.IsTupleIter n l1 i
 i2:g.IsTupleIter (n+1) l2 i
theorem bF1 {n l1 l2:Addr}{i:Nat}{xs ys:Array Value}{x y:Value}{Q:Option Value->Shared->Prop}(o1:∀ j,j < 5->l1≠n+j) (o2:∀ j,j < 5->l2≠n+j) (Z:aK9 s.heap n l1 l2 i)
  (t1:s.heap.IsTuple l1 xs) (t2:s.heap.IsTuple l2 ys) (ex:xs[i]?=some x) (ey:ys[i]?=some y)
  (k:∀ g,IsZip g (n+4) (n+2) (n+3) (rawInt s.heap.objs.size)->IsPair g (n+3) x y->g.IsTupleIter n l1 (i+1)->g.IsTupleIter (n+1) l2 (i+1)->IsPair g s.heap.objs.size x y ->
   (∀ c o,c≠n+4->c≠n+3->c≠n->c≠n+1->s.heap.get? c=some o->g.get? c=some o)->Q (some (.ref s.heap.objs.size)) { s with heap:=g }) :
  wpAny (model prog w) A (pyNext (.ref (n+4))) Q E s:=by
 obtain ⟨hz,hI,⟨a,b,hO⟩,h1,h2⟩:=Z
 have d0:n≠n+4/\n+1≠n+4/\n+2≠n+4/\n+3≠n+4/\n+3≠n/\n+3≠n+1/\n+1≠n:=by refine ⟨?_,?_,?_,?_,?_,?_,?_⟩ <;> (intro z;exact absurd z (by simp))
 obtain ⟨d1,d2,d3,d4,d5,d6,d7⟩:=d0
 have l10:=o1 0 (by decide);have l11:=o1 1 (by decide);have l13:=o1 3 (by decide);have l14:=o1 4 (by decide)
 have l20:=o2 0 (by decide);have l21:=o2 1 (by decide);have l23:=o2 3 (by decide);have l24:=o2 4 (by decide)
 have hT:s.TypeIs (.ref (n+4)) "zip":=⟨_,hz,rfl⟩
 unfold pyNext
 refine aa (jp (ef (name:=Str.ofString "__next__") hT qj (dw qj hT F.entry_zip_next ?_ (zu _))))
 refine (show wpAny _ _ (field (.ref (n+4)) 2 >>= _) _ _ _ from aa (eu hz rfl (x:= .bool false) rfl ?_))
 refine (show wpAny _ _ (field (.ref (n+4)) 3 >>= _) _ _ _ from aa (eu hz rfl (x:= .ref (n+2)) rfl ?_))
 refine aa (gi hI rfl ?_)
 refine (show wpAny _ _ (Builtin.SmallTypes.ownedTupleIsFree (.ref (n+4)) >>= _) _ _ _ from aa ?_)
 unfold Builtin.SmallTypes.ownedTupleIsFree
 refine aa (eu hz rfl (x:= .none) rfl (am ?_))
 simp only [if_true]
 refine aa (kc (aa (eu hz rfl (x:= .ref (n+3)) rfl (aa (km hz (by simp) fun g1 z1 s1=>?_)))))
 have z1:IsZip g1 (n+4) (n+2) (n+3) .ellipsis:=z1
 refine aa ?_
 simp only [List.zipIdx_cons,List.zipIdx_nil,List.forIn_cons,List.forIn_nil]
 refine aa (aa (yd (show wpAny _ _ (Builtin.SmallTypes.nextOf (.ref n) >>= _) _ _ _ from aa (aG4 (h1.at fun o e=>s1.extBut _ _ d1 e) (t1.at fun o e=>s1.extBut _ _ l14 e) ex fun g2 j2 s2=>am ?_))))
 have O2:IsPair g2 (n+3) a b:=s2.extBut _ _ d5 (s1.extBut _ _ d4 hO)
 refine aa (gi O2 rfl (aa (xi O2 fun g3 O3 s3=>?_)))
 have O3:IsPair g3 (n+3) x b:=O3
 refine aa (wpAny_letGo (am ?_))
 refine aa (aa (yd (show wpAny _ _ (Builtin.SmallTypes.nextOf (.ref (n+1)) >>= _) _ _ _ from aa (aG4 (h2.at fun o e=>s3.extBut _ _ d6.symm (s2.extBut _ _ d7 (s1.extBut _ _ d2 e))) (t2.at fun o e=>s3.extBut _ _ l23 (s2.extBut _ _ l20 (s1.extBut _ _ l24 e))) ey fun g4 j4 s4=>am ?_))))
 have O4:IsPair g4 (n+3) x b:=s4.extBut _ _ d6 O3
 refine aa (gi O4 rfl (aa (xi O4 fun g5 O5 s5=>?_)))
 have O5:IsPair g5 (n+3) x y:=O5
 refine aa (wpAny_letGo (am (am ?_)))
 refine aa (gi O5 rfl (aa (wpAny_newTuple ?_)))
 have sz:g5.objs.size=s.heap.objs.size:=by rw [s5.1,s4.1,s3.1,s2.1,s1.1]
 have z5:IsZip g5 (n+4) (n+2) (n+3) .ellipsis:=s5.extBut _ _ d4.symm (s4.extBut _ _ d2.symm (s3.extBut _ _ d4.symm (s2.extBut _ _ d1.symm z1)))
 have k5:∀ c o,c≠n+4->c≠n+3->c≠n->c≠n+1->s.heap.get? c=some o->g5.get? c=some o:=fun c o c1 c2 c3 c4 e=>s5.extBut _ _ c2 (s4.extBut _ _ c4 (s3.extBut _ _ c2 (s2.extBut _ _ c3 (s1.extBut _ _ c1 e))))
 have j5:g5.IsTupleIter n l1 (i+1):=j2.at fun o e=>s5.extBut _ _ d5.symm (s4.extBut _ _ d7.symm (s3.extBut _ _ d5.symm e))
 have m5:g5.IsTupleIter (n+1) l2 (i+1):=j4.at fun o e=>s5.extBut _ _ d6.symm e
 have zlt:n+4 < g5.objs.size:=ay z5
 refine (show wpAny _ _ (Builtin.SmallTypes.ownedTupleHandOut (.ref (n+4)) (.ref g5.objs.size) >>= _) _ _ _ from aa ?_)
 unfold Builtin.SmallTypes.ownedTupleHandOut
 have z6:IsZip (g5.push { cls:= .type "tuple",data:= .seq #[x,y] }) (n+4) (n+2) (n+3) .ellipsis:=af _ z5
 refine aa (km z6 (by simp) fun g7 z7 s7=>?_)
 have z7:IsZip g7 (n+4) (n+2) (n+3) (rawInt g5.objs.size):=z7
 refine km z7 (by simp) fun g8 z8 s8=>?_
 have z8:IsZip g8 (n+4) (n+2) (n+3) (rawInt g5.objs.size):=z8
 have up:∀ c o,c≠n+4->g5.get? c=some o->g8.get? c=some o:=fun c o c1 e=>s8.extBut _ _ c1 (s7.extBut _ _ c1 (af _ e))
 have T8:IsPair g8 g5.objs.size x y:=s8.extBut _ _ (jw zlt) (s7.extBut _ _ (jw zlt) (az _ rfl))
 rw [sz] at z8 T8
 refine am ⟨_,rfl,am ?_⟩
 refine (show Q (some (.ref g5.objs.size)) _ from ?_)
 rw [sz]
 exact k g8 z8 (up _ _ d4 O5) (j5.at fun o e=>up _ o d1 e) (m5.at fun o e=>up _ o d2 e) T8 fun c o c1 c2 c3 c4 e=>up c o c1 (k5 c o c1 c2 c3 c4 e)
theorem aT1 {n l1 l2:Addr}{i:Nat}{xs:Array Value}{Q:Option Value->Shared->Prop}(hh:A.handled=none) (o1:∀ j,j < 5->l1≠n+j) (Z:aK9 s.heap n l1 l2 i)
  (t1:s.heap.IsTuple l1 xs) (ex:xs[i]?=none)
  (k:∀ g,(∀ c o,c≠n+4->c≠n->s.heap.get? c=some o->g.get? c=some o)->Q none { s with heap:=g }):wpAny (model prog w) A (pyNext (.ref (n+4))) Q E s:=by
 obtain ⟨hz,hI,⟨a,b,hO⟩,h1,h2⟩:=Z
 have d1:n≠n+4:=by intro z;exact absurd z (by simp)
 have l14:=o1 4 (by decide)
 have hT:s.TypeIs (.ref (n+4)) "zip":=⟨_,hz,rfl⟩
 unfold pyNext
 refine aa (jp (ef (name:=Str.ofString "__next__") hT qj (dw qj hT F.entry_zip_next ?_ (zu _))))
 refine (show wpAny _ _ (field (.ref (n+4)) 2 >>= _) _ _ _ from aa (eu hz rfl (x:= .bool false) rfl ?_))
 refine (show wpAny _ _ (field (.ref (n+4)) 3 >>= _) _ _ _ from aa (eu hz rfl (x:= .ref (n+2)) rfl ?_))
 refine aa (gi hI rfl ?_)
 refine (show wpAny _ _ (Builtin.SmallTypes.ownedTupleIsFree (.ref (n+4)) >>= _) _ _ _ from aa ?_)
 unfold Builtin.SmallTypes.ownedTupleIsFree
 refine aa (eu hz rfl (x:= .none) rfl (am ?_))
 simp only [if_true]
 refine aa (kc (aa (eu hz rfl (x:= .ref (n+3)) rfl (aa (km hz (by simp) fun g1 z1 s1=>?_)))))
 have z1:IsZip g1 (n+4) (n+2) (n+3) .ellipsis:=z1
 refine aa ?_
 simp only [List.zipIdx_cons,List.zipIdx_nil,List.forIn_cons,List.forIn_nil]
 refine aa (aa (yd (show wpAny _ _ (Builtin.SmallTypes.nextOf (.ref n) >>= _) _ _ _ from aa (lV hh (h1.at fun o e=>s1.extBut _ _ d1 e) (t1.at fun o e=>s1.extBut _ _ l14 e) ex fun g2 e s2 he=>?_))))
 obtain ⟨oe,hoe,hce⟩:=he
 have z2:IsZip g2 (n+4) (n+2) (n+3) .ellipsis:=s2 _ _ d1.symm z1
 have ez:e≠n+4:=fun q=>by subst q;rw [z2] at hoe;cases hoe;simp at hce
 refine km z2 (by simp) fun g3 _ s3=>?_
 refine aa (ij (T:="StopIteration") (b:=true) ⟨oe,s3.extBut _ _ ez hoe,hce⟩ re ?_)
 exact am (k _ fun c o c1 c2 q=>s3.extBut _ _ c1 (s2 _ _ c2 (s1.extBut _ _ c1 q)))
end
abbrev zA (g:Heap) (l1:Addr):Heap:=g.push { cls:= .type "tuple_iterator",data:= .fields #[.ref l1,.int 0 0] }
abbrev zB (g:Heap) (l1 l2:Addr):Heap:=(zA g l1).push { cls:= .type "tuple_iterator",data:= .fields #[.ref l2,.int 0 0] }
abbrev zC (g:Heap) (l1 l2:Addr):Heap:=(zB g l1 l2).push { cls:= .type "tuple",data:= .seq #[.ref g.objs.size,.ref (zA g l1).objs.size] }
abbrev zD (g:Heap) (l1 l2:Addr):Heap:=(zC g l1 l2).push { cls:= .type "tuple",data:= .seq #[.none,.none] }
abbrev zE (g:Heap) (l1 l2:Addr):Heap:=(zD g l1 l2).push { cls:= .type "zip",data:= .fields #[.none,.bool false,.bool false,.ref (zB g l1 l2).objs.size,.ref (zC g l1 l2).objs.size] }
theorem bG7 (l1 l2:Addr) (xs ys:Array Value):Meets (Builtin.«zip.__new__» ⟨[.type "zip",.ref l1,.ref l2],[]⟩) (fun _ R s=>s.heap.IsTuple l1 xs/\s.heap.IsTuple l2 ys /\
   R (.ok (.ret (.ref (zD s.heap l1 l2).objs.size))) { s with heap:=zE s.heap l1 l2 }) :=
 .of_wp fun prog w A R s h=>by
  obtain ⟨q,g,d,tk,os⟩:=s;obtain ⟨t1,t2,h⟩:=h
  have hS:=PySem.sub_zip
  have T1:Heap.IsTuple (Shared.heap ⟨q,g,d,tk,os⟩) l1 xs:=t1
  have T2:Heap.IsTuple (Shared.heap ⟨q.push { cls:= .type "tuple_iterator",data:= .fields #[.ref l1,.int 0 0] },g,d,tk,os⟩) l2 ys:=t2.at fun o e=>af _ e
  wp_walk using jd T1,jd T2
  exact ⟨_,rfl,h⟩
section
variable {prog:Program}{w:World}{A:Around}{E:Value->Shared->Prop}{s:Shared}
theorem aP6 {l1 l2:Addr}{xs ys:Array Value}{Q:Value->Shared->Prop}(t1:s.heap.IsTuple l1 xs) (t2:s.heap.IsTuple l2 ys)
  (k:∀ g,aK9 g s.heap.objs.size l1 l2 0->(∀ c o,s.heap.get? c=some o->g.get? c=some o)->Q (.ref (s.heap.objs.size+4)) { s with heap:=g }) :
  wpAny (model prog w) A (call (.type "zip") [.ref l1,.ref l2]) Q E s:=by
 refine ze F.called_zip (by decide) (F.typeCall_zip_2 _ _) (F.newCall_zip_2 _ _) (fun obj=>F.args_object_init_3 obj _ _) F.entry_zip_new (bG7 l1 l2 xs ys) ⟨t1,t2,?_⟩
 have n1:(zA s.heap l1).objs.size=s.heap.objs.size+1:=by rw [gf]
 have n2:(zB s.heap l1 l2).objs.size=s.heap.objs.size+2:=by rw [gf,n1]
 have n3:(zC s.heap l1 l2).objs.size=s.heap.objs.size+3:=by rw [gf,n2]
 have n4:(zD s.heap l1 l2).objs.size=s.heap.objs.size+4:=by rw [gf,n3]
 have b5:(zE s.heap l1 l2).get? (zD s.heap l1 l2).objs.size=some _:=az _ rfl
 have b4:(zE s.heap l1 l2).get? (zC s.heap l1 l2).objs.size=some _:=af _ (az _ rfl)
 have b3:(zE s.heap l1 l2).get? (zB s.heap l1 l2).objs.size=some _:=af _ (af _ (az _ rfl))
 have b2:(zE s.heap l1 l2).get? (zA s.heap l1).objs.size=some _:=af _ (af _ (af _ (az _ rfl)))
 have b1:(zE s.heap l1 l2).get? s.heap.objs.size=some _:=af _ (af _ (af _ (af _ (az _ rfl))))
 show _/\_
 rw [n2,n3,n4] at b5
 rw [n1,n2] at b3
 rw [n3] at b4
 rw [n1] at b2
 rw [n4]
 exact ⟨⟨_,b5,rfl⟩,k _ ⟨b5,b3,⟨_,_,b4⟩,⟨_,b1,rfl,rfl⟩,⟨_,b2,rfl,rfl⟩⟩ fun c o q=>af _ (af _ (af _ (af _ (af _ q))))⟩
end
def Itz (K : PySem.W.Frag) (a b : Addr) : It :=
  ⟨fun i H => ∃ xs ys, aT K H a xs /\ aT K H b ys /\ xs.length = ys.length /\ i < xs.length,
   fun i H x H' => ∃ t, H t = none /\ x = .ref t /\ ∀ xs ys, aT K H a xs -> aT K H b ys -> ∃ u v, xs[i]? = some u /\ ys[i]? = some v /\ H' = aM H t (.tup [u, v]),
   fun i H => ∃ xs, aT K H a xs /\ xs.length <= i⟩
theorem bF8 {P:Program}{w:World}{K:PySem.W.Frag}{elts:List Expr}{x1:Nat}{pos:Pos}(a b n:Addr) (ha:a < n) (hb:b < n) :
  pO P w K (.Tuple elts x1 pos) (Itz K a b) [n,n+1,n+2,n+3,n+4] (n+4) (fun i h=>aK9 h n a b i) where
 mem:=by simp
 obj:=fun i h Z c hc=>by
  obtain ⟨hz,hI,⟨u,v,hO⟩,⟨o1,e1,c1,d1⟩,⟨o2,e2,c2,d2⟩⟩:=Z
  simp only [List.mem_cons,List.not_mem_nil,or_false] at hc
  rcases hc with rfl | rfl | rfl | rfl | rfl
  ·exact ⟨_,e1,fun v z=>by rw [d1] at z;cases z⟩
  ·exact ⟨_,e2,fun v z=>by rw [d2] at z;cases z⟩
  ·exact ⟨_,hI,fun v z=>by cases z⟩
  ·exact ⟨_,hO,fun v z=>by cases z⟩
  ·exact ⟨_,hz,fun v z=>by cases z⟩
 keep:=fun i h h' Z k=>⟨k _ (by simp) _ Z.z,k _ (by simp) _ Z.I,let ⟨u,v,q⟩:=Z.O;⟨u,v,k _ (by simp) _ q⟩,Z.i1.at fun o e=>k _ (by simp) o e,Z.i2.at fun o e=>k _ (by simp) o e⟩
 item:=by
  intro X hP hw hK hc i pins s σ H E I hf Z hg
  subst hP hw hK
  obtain ⟨xs,ys,q1,q2,hl,hi⟩:=hg
  obtain ⟨is1,r1,p1,_⟩:=I.tuple q1
  obtain ⟨is2,r2,p2,_⟩:=I.tuple q2
  obtain ⟨u,hu,ru⟩:=r1.get (i:=i) (x:=xs[i]) (by simp [hi])
  obtain ⟨v,hv,rv⟩:=r2.get (i:=i) (x:=ys[i]'(by omega)) (by simp [show i < ys.length by omega])
  refine bF1 (fun j _=>bt (bm ha (iz ..))) (fun j _=>bt (bm hb (iz ..))) Z (show s.heap.IsTuple a is1.toArray from p1) (show s.heap.IsTuple b is2.toArray from p2)
   (x:=u) (y:=v) (by simpa using hu) (by simpa using hv) fun g z1 O1 j1 m1 T1 k1=>⟨_,rfl,wpAny_letOwnedTupleGo_zip z1 fun g2 z2 sb=>?_⟩
  have nT:s.heap.objs.size≠n+4:=jw (ay Z.z)
  have kk:∀ c o,c∉[n,n+1,n+2,n+3,n+4]->s.heap.get? c=some o->g2.get? c=some o:=fun c o hc e=>by
   simp only [List.mem_cons,List.not_mem_nil,or_false,not_or] at hc
   exact (sb.2 c hc.2.2.2.2).trans (k1 c o hc.2.2.2.2 hc.2.2.2.1 hc.1 hc.2.1 e)
  have TT:IsPair g2 s.heap.objs.size u v:=(sb.2 _ nT).trans T1
  have d:∀ j,j < 4->n+j≠n+4:=fun j hj z=>absurd (Nat.add_left_cancel z) (bt hj)
  have I2:=I.turnedNew (T:=s.heap.objs.size) (o:= .tup [xs[i],ys[i]'(by omega)]) (rs:=[n,n+1,n+2,n+3,n+4]) (t':=s.toks) hf kk (ai _) ⟨by show 2<=sizeLine;decide,[u,v],.cons ru (.cons rv .nil),⟨_,TT,rfl,_,rfl,rfl⟩⟩
  refine ⟨.ref s.heap.objs.size,_,I2,rfl,⟨_,I.fresh,rfl,fun xs' ys' w1 w2=>⟨xs[i],ys[i]'(by omega),?_,?_,rfl⟩⟩,⟨z2,(sb.2 _ (d 2 (by decide))).trans (k1 _ _ (d 2 (by decide)) (by simp) (by simp) (by simp) Z.I),⟨u,v,(sb.2 _ (d 3 (by decide))).trans O1⟩,j1.at fun o e=>(sb.2 _ (d 0 (by decide))).trans e,m1.at fun o e=>(sb.2 _ (d 1 (by decide))).trans e⟩,fun c hc=>?_⟩
  ·rw [I.tuple_inj w1 q1];simp [hi]
  ·rw [I.tuple_inj w2 q2];simp [show i < ys.length by omega]
  ·rw [aG (fun z=>?_)]
   ·exact (hf c hc).1
   ·obtain ⟨o,e,_⟩:∃ o,s.heap.get? c=some o/\True:=by
     obtain ⟨hz,hI,⟨u',v',hO⟩,⟨o1,e1,c1,d1⟩,⟨o2,e2,c2,d2⟩⟩:=Z
     simp only [List.mem_cons,List.not_mem_nil,or_false] at hc
     rcases hc with rfl | rfl | rfl | rfl | rfl
     ·exact ⟨_,e1,trivial⟩
     ·exact ⟨_,e2,trivial⟩
     ·exact ⟨_,hI,trivial⟩
     ·exact ⟨_,hO,trivial⟩
     ·exact ⟨_,hz,trivial⟩
    exact absurd (ay e) (by rw [z];exact gb _)
 done:=by
  intro X hP hw hK hc i pins s σ H E I hf Z hg
  subst hP hw hK
  obtain ⟨xs,q1,hx⟩:=hg
  obtain ⟨is1,r1,p1,_⟩:=I.tuple q1
  have hl:=r1.length
  refine aT1 (I.ok.hd hc) (fun j _=>bt (bm ha (iz ..))) Z (show s.heap.IsTuple a is1.toArray from p1) (by simp;omega) fun g k=>⟨rfl,I.turnedL (rs:=[n,n+1,n+2,n+3,n+4]) (t':=s.toks) hf fun c o hc e=>?_⟩
  simp only [List.mem_cons,List.not_mem_nil,or_false,not_or] at hc
  exact k c o hc.2.2.2.2 hc.1 e
 self:=fun _ _ _ _ _ Z h=>wpAny_pyIter_zip Z.z h
def cQ6 (K:PySem.W.Frag) (ta:TA):TI:=fun σ H R=>ta σ H fun vs H1=>∃ a b,vs=[.ref a,.ref b]/\(∃ xs,aT K H1 a xs)/\(∃ ys,aT K H1 b ys)/\R (Itz K a b) H1
theorem bT2 {X:Cx}{a b:Expr}{ta:TA}{p pos:Pos}{elts:List Expr}{x1:Nat}{tpos:Pos}(hg:Gl X "zip") (hm:X.mg "zip"=none) (ha:PA X [a,b] ta) (hs:autoParam (starEach [a,b] X.env=[(false,eval a X.env),(false,eval b X.env)]) Rq0._auto_1) (hs2:autoParam (starEach [b] X.env=[(false,eval b X.env)]) Rq0._auto_1) :
  PI X (.Tuple elts x1 tpos) (.Call (.Name "zip" p) [a,b] [] pos) (cQ6 X.K ta):=by
 intro pins s σ H R I h
 refine ge (jM I hg hm PyProof.Rows.boot_zip (fi (cV (ha pos pins s σ H _ I h) fun us s1 ⟨vs,H1,I1,r1,q1⟩=>?_) (by rw [hs,hs2]) (by rw [hs2];rfl)))
 obtain ⟨a',b',rfl,⟨xs,q1⟩,⟨ys,q2⟩,q⟩:=q1
 obtain ⟨u,v,rfl,ru,rv⟩:=bE4 r1
 cases ru
 cases rv
 obtain ⟨is1,_,p1,_⟩:=I1.tuple q1
 obtain ⟨is2,_,p2,_⟩:=I1.tuple q2
 have la:a' < s1.heap.objs.size:=by obtain ⟨o,e,_⟩:=p1;exact ay e
 have lb:b' < s1.heap.objs.size:=by obtain ⟨o,e,_⟩:=p2;exact ay e
 refine aP6 (show s1.heap.IsTuple a' is1.toArray from p1) (show s1.heap.IsTuple b' is2.toArray from p2) fun g Z k=>wpAny_pyIter_zip Z.z ?_
 have I2:aR X pins σ H1 { s1 with heap:=g }:=I1.kept (t':=s1.toks) k
 refine ⟨s1.heap.objs.size+4,_,_,Itz X.K a' b',H1,rfl,I2,bF8 a' b' s1.heap.objs.size la lb,Z,fun c hc=>?_,q⟩
 have hge:s1.heap.objs.size<=c:=by
  simp only [List.mem_cons,List.not_mem_nil,or_false] at hc
  rcases hc with rfl | rfl | rfl | rfl | rfl
  ·exact ai _
  all_goals exact iz ..
 exact I1.fpOk hge (I1.hok.fresh hge)
section
variable {g:TG}{tc:TT}{te:TE}
theorem bA1 {K:PySem.W.Frag}{a b:Addr}{xs ys:List V}{Kf:List V->Hp->Prop}{σ0:St}{H1:Hp}(Pv:Nat->List V->St->Hp->Prop) (hz:xs.length < sizeLine) (hxy:xs.length=ys.length) (h0:Pv 0 [] σ0 H1) (hb:∀ i zs σ H,Pv i zs σ H->zs.length<=i)
  (hl:∀ i zs σ H,i<=xs.length->Pv i zs σ H->aT K H a xs/\aT K H b ys)
  (hs:∀ i x y zs σ H t,xs[i]?=some x->ys[i]?=some y->Pv i zs σ H->H t=none->g (.ref t) σ (aM H t (.tup [x,y])) fun σ2 H2=>tc σ2 H2 fun b H3=>if b=true then te σ2 H3 fun v H4=>Pv (i+1) (zs++[v]) σ2 H4 else Pv (i+1) zs σ2 H3)
  (hd:∀ zs σ H,Pv xs.length zs σ H->Kf zs H):lK (Itz K a b) g tc te Kf σ0 H1:=by
 refine ⟨fun i m zs σ H=>m=xs.length - i/\i<=xs.length/\Pv i zs σ H,⟨xs.length,by simp,bj _,h0⟩,?_⟩
 rintro i m zs σ H ⟨rfl,hi,p⟩
 obtain ⟨q1,q2⟩:=hl i zs σ H hi p
 refine ⟨cg (hb _ _ _ _ p) (cg hi hz),?_⟩
 by_cases hlt:i < xs.length
 ·refine .inr ⟨⟨xs,ys,q1,q2,hxy,hlt⟩,Pv (i+1),fun zs' σ' H' p'=>⟨xs.length - (i+1),fj hlt (dq i),rfl,hlt,p'⟩,fun x H' y=>?_⟩
  obtain ⟨t,ht,rfl,w⟩:=y
  obtain ⟨u,v,e1,e2,rfl⟩:=w xs ys q1 q2
  exact hs i u v zs σ H t e1 e2 p ht
 ·have e:i=xs.length:=by omega
  subst e
  exact .inl ⟨⟨xs,q1,ai _⟩,hd zs σ H p⟩
end
section
variable {X:Cx}{tg:Expr}
theorem rE:∀ {ys:List Str}{us:List Value},bB (ys.map V.str) us->StrsAre us ys
 |[],_,r=>by
  cases r
  exact .nil
 |y :: ys,_,r=>by
  cases r with
  |cons r1 r2 =>
   obtain ⟨t,rfl⟩:=r1
   exact .cons y t (rE r2)
def cL0 (K:PySem.W.Frag):V->List V->Hp->VK->Prop:=fun x vs H Q=>∃ (sep:Str) (p:Addr) (ys:List Str),x= .str sep/\vs=[.ref p]/\bM K H p (ys.map V.str)/\(ys.map (·.length)).sum+ys.length * sep.length<=16777216/\Q (.str (Txt.join sep ys)) H
theorem bH9:MtR X "str.join" (cL0 X.K):=by
 intro pins s σ H x xs v us Q I rx rs h
 obtain ⟨sep,p,ys,rfl,rfl,hq,hz,q⟩:=h
 obtain ⟨t,rfl⟩:=rx
 obtain ⟨u,rfl,ru⟩:=rs.one
 cases ru
 obtain ⟨its,rv,pl,_⟩:=I.list hq
 exact join_list pl.isList (by simpa using rE rv) hz fun t' k=>⟨.str _,H,I.tok k,⟨_,rfl⟩,q⟩
end
def Ite (K : PySem.W.Frag) (a : Addr) : It :=
  ⟨fun i H => ∃ xs x, bM K H a xs /\ xs[i]? = some x,
   fun i H x H' => ∃ t, H t = none /\ x = .ref t /\ ∀ xs, bM K H a xs -> ∃ u, xs[i]? = some u /\ H' = aM H t (.tup [.int i, u]),
   fun i H => ∃ xs, bM K H a xs /\ xs.length <= i⟩
theorem aO8 {P:Program}{w:World}{K:PySem.W.Frag}{elts:List Expr}{x1:Nat}{pos:Pos}(a n:Addr) :
  pO P w K (.Tuple elts x1 pos) (Ite K a) [n,n+1] (n+1) (fun i h=>(∃ old,IsEnum h (n+1) n i old)/\h.IsListIter n a i) where
 mem:=by simp
 obj:=fun i h Z c hc=>by
  obtain ⟨⟨old,he⟩,⟨o1,e1,c1,d1⟩⟩:=Z
  simp only [List.mem_cons,List.not_mem_nil,or_false] at hc
  rcases hc with rfl | rfl
  ·exact ⟨_,e1,fun v z=>by rw [d1] at z;cases z⟩
  ·exact ⟨_,he,fun v z=>by cases z⟩
 keep:=fun i h h' Z k=>⟨let ⟨old,he⟩:=Z.1;⟨old,k _ (by simp) _ he⟩,Z.2.at fun o e=>k _ (by simp) o e⟩
 item:=by
  intro X hP hw hK hc i pins s σ H E I hf Z hg
  subst hP hw hK
  obtain ⟨xs,x,q1,hx⟩:=hg
  obtain ⟨its,rv,pl,_⟩:=I.list q1
  obtain ⟨u,hu,ru⟩:=rv.get hx
  obtain ⟨⟨old,he⟩,hit⟩:=Z
  have d0:n+1≠n:=Nat.succ_ne_self n
  refine wpAny_pyNext_enum_item he hit pl.isList (x:=u) (by simpa using hu) d0 fun g z1 j1 T1 _ k1=>⟨_,rfl,ub z1 fun g2 z2 sb=>?_⟩
  have nT:s.heap.objs.size≠n+1:=jw (ay he)
  have lt:∀ c∈[n,n+1],c < s.heap.objs.size:=fun c hc=>by
   simp only [List.mem_cons,List.not_mem_nil,or_false] at hc
   rcases hc with rfl | rfl
   ·obtain ⟨o1,e1,_⟩:=hit
    exact ay e1
   ·exact ay he
  have kk:∀ c o,c∉[n,n+1]->s.heap.get? c=some o->g2.get? c=some o:=fun c o hc e=>by
   simp only [List.mem_cons,List.not_mem_nil,or_false,not_or] at hc
   exact (sb.2 c hc.2).trans (k1 c o hc.2 hc.1 e)
  have TT:g2.get? s.heap.objs.size=some { cls:= .type "tuple",data:= .seq #[.int i s.toks,u] }:=(sb.2 _ nT).trans T1
  have I2:=I.turnedNew (T:=s.heap.objs.size) (o:= .tup [.int i,x]) (rs:=[n,n+1]) (t':=s.toks+1) hf kk (ai _) ⟨by show 2<=sizeLine;decide,[.int i s.toks,u],.cons ⟨_,rfl⟩ (.cons ru .nil),⟨_,TT,rfl,_,rfl,rfl⟩⟩
  refine ⟨.ref s.heap.objs.size,_,I2,rfl,⟨_,I.fresh,rfl,fun xs' w1=>⟨x,by rw [I.list_inj w1 q1];exact hx,rfl⟩⟩,⟨⟨_,by simpa using z2⟩,j1.at fun o e=>(sb.2 _ d0.symm).trans e⟩,fun c hc=>?_⟩
  rw [aG (bt (lt c hc))]
  exact (hf c hc).1
 done:=by
  intro X hP hw hK hc i pins s σ H E I hf Z hg
  subst hP hw hK
  obtain ⟨xs,q1,hx⟩:=hg
  obtain ⟨its,rv,pl,_⟩:=I.list q1
  obtain ⟨⟨old,he⟩,hit⟩:=Z
  have hl:=rv.length
  refine wpAny_pyNext_enum_end (I.ok.hd hc) he hit pl.isList (by simp;omega) fun g k=>⟨rfl,I.turnedL (rs:=[n,n+1]) (t':=s.toks) hf fun c o hc e=>?_⟩
  simp only [List.mem_cons,List.not_mem_nil,or_false,not_or] at hc
  exact k c o hc.1 e
 self:=fun _ _ _ _ _ Z h=>by
  obtain ⟨⟨old,he⟩,_⟩:=Z
  exact on he h
def cL5 (K:PySem.W.Frag) (ta:TA):TI:=fun σ H R=>ta σ H fun vs H1=>∃ a,vs=[.ref a]/\(∃ xs,bM K H1 a xs)/\R (Ite K a) H1
theorem bH2 {X:Cx}{a:Expr}{ta:TA}{p pos:Pos}{elts:List Expr}{x1:Nat}{tpos:Pos}(hg:Gl X "enumerate") (hm:X.mg "enumerate"=none) (ha:PA X [a] ta) (hs:autoParam (starEach [a] X.env=[(false,eval a X.env)]) Rq0._auto_1) :
  PI X (.Tuple elts x1 tpos) (.Call (.Name "enumerate" p) [a] [] pos) (cL5 X.K ta):=by
 intro pins s σ H R I h
 refine ge (jM I hg hm su (fi (cV (ha pos pins s σ H _ I h) ?_) hs rfl));rintro us s1 ⟨vs,H1,I1,r1,q1⟩
 obtain ⟨a',rfl,⟨xs,q1⟩,q⟩:=q1
 obtain ⟨u,rfl,ru⟩:=iQ r1
 cases ru
 obtain ⟨its,_,pl,_⟩:=I1.list q1
 refine call_enumerate_list pl.isList fun g he hit _ k=>on he ?_
 have I2:aR X pins σ H1 { s1 with heap:=g }:=I1.kept (t':=s1.toks) k
 refine ⟨s1.heap.objs.size+1,_,_,Ite X.K a',H1,rfl,I2,aO8 a' s1.heap.objs.size,⟨⟨_,he⟩,hit⟩,fun c hc=>?_,q⟩
 have hge:s1.heap.objs.size<=c:=by
  simp only [List.mem_cons,List.not_mem_nil,or_false] at hc
  rcases hc with rfl | rfl
  ·exact ai _
  ·exact iz ..
 exact I1.fpOk hge (I1.hok.fresh hge)
theorem aK0 (ns:List Int):∀ j,j<=ns.length->preSum (fun i=>ns.getD i 0) j=(ns.take j).sum
 |0,_=>by simp [preSum]
 |j+1,h=>by
  have ih:=aK0 ns j (by omega)
  have e:ns[j]?=some ns[j]:=by simp [show j < ns.length by omega]
  have q:ns.take (j+1)=ns.take j++[ns[j]]:=by rw [List.take_succ,e];rfl
  rw [q,mo, <- ih]
  simp [preSum,List.getD,e]
section
variable {X:Cx}
theorem bA5 (hc:autoParam (X.calm=true) Rq0._auto_1):eS X (.builtin "sum") (fun xs H Q=>∃ (p:Addr) (ns:List Int),xs=[.ref p]/\bM X.K H p (ns.map V.int)/\Q (.int ns.sum) H):=by
 intro pins s σ H xs us Q I r h
 obtain ⟨p,ns,rfl,hq,q⟩:=h
 obtain ⟨u,rfl,ru⟩:=iQ r
 cases ru
 obtain ⟨its,rv,pl,hz⟩:=I.list hq
 have lp:p < s.heap.objs.size:=by
  obtain ⟨o,e,_⟩:=pl.isList
  exact ay e
 have hl:=rv.length
 rw [ac] at hl
 have val:∀ i v,its.toArray[i]?=some v->∃ t,v=Value.int (ns.getD i 0) t:=fun i v hv=>by
  have hi:its[i]?=some v:=by simpa using hv
  have hb:i < ns.length:=by
   have:=(bu.mp hi).1
   omega
  obtain ⟨u,hu,ru⟩:=rv.get (i:=i) (x:=V.int ns[i]) (by rw [cy,bw hb];rfl)
  rw [hi] at hu
  cases hu
  obtain ⟨t,e⟩:=ru
  exact ⟨t,by rw [e];simp [List.getD,hb]⟩
 refine call_sum_walkG (ue pl.isList ⟨s.heap.objs.size,_,_,_,_,_,fun i=>ns.getD i 0,rfl,Walks.list (A:=X.A.in1) (I.ok.hd hc) s.heap.objs.size p (bt lp) its.toArray,⟨⟨_,az _ rfl,rfl,rfl⟩,pl.isList.at fun o e=>af _ e⟩,?_,val,?_⟩)
 ·intro b hb
  rw [gf]
  rcases av.mp hb with z | z
  ·rw [z];exact dq _
  ·have z:b=p:=by simpa using z
   rw [z];exact om lp
 ·intro h' tk t' hk
  have kept:∀ b o,s.heap.get? b=some o->h'.get? b=some o:=fun b o e=>hk b o (by
   intro z
   have z:b=s.heap.objs.size:=by simpa using z
   exact absurd (ay e) (by rw [z];exact gb _)) (af _ e)
  refine ⟨.int ns.sum,H,I.kept kept,⟨t',?_⟩,q⟩
  rw [aw, <- hl,aK0 ns _ (ai _),dy]
theorem aG5:kK X (binaryOp .Mult) (fun x y H Q=>∃ (z:Str) (n:Int),x= .str z/\y= .int n/\z.length=1/\(n=0\/n=1)/\Q (.str (if n=0 then Str.empty else z)) H):=by
 intro pins s σ H x y v u Q I rx ry h
 obtain ⟨z,n,rfl,rfl,hz,hn,q⟩:=h
 obtain ⟨t,rfl⟩:=rx
 obtain ⟨t',rfl⟩:=ry
 rcases hn with rfl | rfl
 ·exact PySem.P.mul_str_none (by decide) (by decide) ⟨.str _,H,I.tok _,⟨_,rfl⟩,q⟩
 ·refine PySem.P.mul_str (by decide) (fun _ c=>absurd c (by simp)) (fun _ c=>absurd c (by simp)) ?_
  rw [aj (by decide),ao (by simp)]
  exact ⟨.str z,H,I,⟨_,rfl⟩,q⟩
end
theorem nE:∀ {us:List Value}{ns:List Int},IntsAre us ns->bB (ns.map V.int) us
 |_,_,.nil=> .nil
 |_,_,.cons n t r=> .cons ⟨t,rfl⟩ (nE r)
theorem aH9 {X:Cx}:eS X (.builtin "sorted") (fun xs H Q=>∃ (p:Addr) (ns:List Int),xs=[.ref p]/\bM X.K H p (ns.map V.int)/\ns.length < 64 /\
  ∀ ns':List Int,ns'.Perm ns->ns'.Pairwise (· <= ·)->∀ l,H l=none->Q (.ref l) (aM H l (.lst (ns'.map V.int)))):=by
 intro pins s σ H xs us Q I r h
 obtain ⟨p,ns,rfl,hq,hz,q⟩:=h
 obtain ⟨u,rfl,ru⟩:=iQ r
 cases ru
 obtain ⟨its,rv,pl,_⟩:=I.list hq
 have len:=rv.length
 rw [ac] at len
 refine sorted_ints pl.isList (sW rv) (by omega) fun out ns' a1 a2 a3=>?_
 obtain ⟨e,he⟩:=sortedAll_at s.heap its out
 have le:s.heap.objs.size<=s.heap.objs.size+1:=rm _
 refine ⟨.ref (s.heap.objs.size+1),_,I.laid (t':=s.toks) (o:= .lst (ns'.map V.int)) (fun b o z=>sortedAll_old z) le ?_,rfl,q ns' a2 a3 _ (I.hok.fresh le)⟩
 refine ⟨?_,out.toList,e,nE a1,by rw [Array.toArray_toList];exact he⟩
 rw [ac,a2.length_eq]
 exact fk (aK (by omega))
theorem aR.freeze {X:Cx}{pins:List (Addr×Obj)}{σ: St}{H:Hp}{s:Shared}{d:Addr}{o:Obj}{kvs:List (Key×V)}(I:aR X pins σ H s) (h:H d=some (.dK kvs)) (ho:s.heap.get? d=some o) :
  aR X pins σ (aM H d (.frz o (.dK kvs))) s:=by
 have nd:∀ b u,H b=some u->(∀ z,u≠ .dK z)->b≠d:=fun b u e hu z=>by
  rw [z,h] at e
  exact hu _ (cx e).symm
 refine I.step (g':=s.gens) (d':=s.drawn) (t':=s.toks) (h':=s.heap) (ch:=[]) (fun _ z=>nomatch z) (fun b u _ _ _ e _=>e) (fun b u _ _ _ e _=>⟨u.slots,e⟩) (fun b u _ e n=>by rw [aG (fun z=>by rw [z,h] at n;cases n)];exact n)
  (fun b u _ e=>⟨u,e⟩) (fun b xs e=>by rw [aG (nd b _ e (by intro z c;cases c))];exact e) (fun b u v e=>by rw [aG (nd b _ e (by intro z c;cases c))];exact e)
  (fun b ps e=>⟨#[],by rw [aG (nd b _ e (by intro z c;cases c)),e];simp⟩) (fun m hm=>hm) (fun b u e=>?_) I.bare
 by_cases hb:b=d
 ·subst hb
  rw [aD] at e
  cases e
  exact ⟨ho,I.hok b _ h⟩
 ·rw [aG hb] at e
  exact (I.hok b u e).stay (fun c v _ q=>q) (fun c q=>by rw [aG (nd c _ q (by intro z w;cases w))];exact q) fun c xs q=>by rw [aG (nd c _ q (by intro z w;cases w))];exact q
theorem aY2 {κ: Type}:∀ {kvs:List (κ×V)}{vs:List (κ×Value)}{i:Nat}{k:κ}{v:V},KV kvs vs->kvs[i]?=some (k,v)->∃ u,vs[i]?=some (k,u)/\bG v u
 |_,_,_,_,_,.nil,e=>by simp at e
 |_,_,0,_,_,.cons r _,e=>by
  simp at e
  subst e
  obtain ⟨r1,r2⟩:=r
  exact ⟨_,by simp;exact Prod.ext r1.symm rfl,r2⟩
 |_,_,i+1,_,_,.cons _ r,e=>by
  obtain ⟨u,e1,e2⟩:=aY2 (i:=i) r (by simpa using e)
  exact ⟨u,by simpa using e1,e2⟩
theorem bK3 {k:Key}{u:Value}(h:dU k u=true):bG (kV k) u:=by
 rcases aW h with ⟨i,t,rfl,rfl⟩ | ⟨x,t,rfl,rfl⟩
 ·exact ⟨t,rfl⟩
 ·exact ⟨t,rfl⟩
def Itd (d:Addr) (o:Obj) (kvs:List (Key×V)):It :=
 ⟨fun i H=>i < kvs.length/\H d=some (.frz o (.dK kvs)),fun i H x H'=>H'=H/\∃ k v,kvs[i]?=some (k,v)/\x=kV k,fun i H=>kvs.length<=i/\H d=some (.frz o (.dK kvs))⟩
theorem bB5 {X:Cx}{pins:List (Addr×Obj)}{σ: St}{H:Hp}{s:Shared}{d:Addr}{o:Obj}{kvs:List (Key×V)}{es:Array DictEntry}{ep:Nat}(I:aR X pins σ H s) (ho:o.data= .dict es ep) (h:H d=some (.frz o (.dK kvs))) :
  ∃ vs,KV kvs vs/\s.heap.DictAt (bH X.prog X.w) d vs ep/\(d == sysModules)=false:=by
 obtain ⟨e,z,ns,vs,rel,o',es',ep',h1,h2,h3,h4,h5,h6⟩:=(show cJ X.prog X.w H s.heap d (.frz o (.dK kvs)) from I.hok d _ h)
 rw [e] at h1
 cases h1
 rw [ho] at h3
 cases h3
 exact ⟨vs,rel,⟨o,es,e,h2,ho,h4,h5,h6⟩,ns⟩
theorem aR7 {P:Program}{w:World}{K:PySem.W.Frag}{tg:Expr}(d it:Addr) (o:Obj) (kvs:List (Key×V)) {es:Array DictEntry}{ep:Nat}(ho:o.data= .dict es ep) :
  pO P w K tg (Itd d o kvs) [it] it (fun i h=>i<=kvs.length/\h.IsKeyIter it d i kvs.length ep) where
 mem:=by simp
 obj:=fun i h st b hb=>by
  have e:b=it:=by simpa using hb
  subst e
  obtain ⟨o,e,c,q⟩:=st.2
  exact ⟨o,e,fun v z=>by rw [q] at z;cases z⟩
 keep:=fun i h h' st k=>⟨st.1,st.2.at fun o e=>k it (by simp) o e⟩
 item:=by
  intro X hP hw hK hc i pins s σ H E I hf st hg
  subst hP hw hK
  obtain ⟨hi,hd⟩:=hg
  obtain ⟨f0,f1,f2,f3,f4,f5⟩:=hf it (by simp)
  obtain ⟨vs,rel,da,ns⟩:=bB5 I ho hd
  have hl:kvs.length=vs.length:=iq rel
  obtain ⟨u,hu,_⟩:=aY2 (i:=i) (k:=kvs[i].1) (v:=kvs[i].2) rel (by simp [hi])
  have st2:=st.2
  rw [hl] at st2
  refine wpAny_pyNext_dict_item st2 da hu fun key h' hk st' sb=>?_
  have I1:aR X pins σ H { s with heap:=h' }:=I.turned (t':=s.toks) (fun b o hb e=>(sb.2 b hb).trans e) f0 f1 f3 f4 f5
  obtain ⟨o2,e2,c2,d2⟩:=id st'
  rw [<- hl] at st'
  exact ⟨key,rfl,go_of (s:={ s with heap:=h' }) e2 c2 d2 (by decide) ⟨kV kvs[i].1,H,I1,bK3 hk,⟨rfl,kvs[i].1,kvs[i].2,by simp [hi],rfl⟩,⟨hi,st'⟩,fun b hb=>(hf b hb).1⟩⟩
 done:=by
  intro X hP hw hK hc i pins s σ H E I hf st hg
  subst hP hw hK
  obtain ⟨hi,hd⟩:=hg
  obtain ⟨f0,f1,f2,f3,f4,f5⟩:=hf it (by simp)
  obtain ⟨vs,rel,da,ns⟩:=bB5 I ho hd
  have hl:kvs.length=vs.length:=iq rel
  have st2:=st.2
  rw [hl] at st2
  exact wpAny_pyNext_dict_end (I.ok.hd hc) st2 da (by simp;omega) fun h' eb=>⟨rfl,I.turned (t':=s.toks) (fun b o hb e=>eb b o hb e) f0 f1 f3 f4 f5⟩
 self:=fun _ _ _ _ _ st h=>xj st.2 h
def bC2 (tl:TE):TI:=fun σ H R=>tl σ H fun x H1=>∃ d kvs,x= .ref d/\H1 d=some (.dK kvs)/\∀ o,R (Itd d o kvs) (aM H1 d (.frz o (.dK kvs)))
theorem bM0 {X:Cx}{tg l:Expr}{tl:TE}(hl:PE X l tl):PI X tg l (bC2 tl):=by
 intro pins s σ H R I h
 refine cV (hl pins s σ H _ I h) ?_;rintro v s1 ⟨x,H1,I1,r1,q1⟩
 obtain ⟨d,kvs,e,hd,q⟩:=q1
 subst e
 cases r1
 obtain ⟨z,ns,vs,rel,o,es,ep,h1,h2,h3,h4,h5,h6⟩:=aM0 I1.hok hd
 have hl:kvs.length=vs.length:=iq rel
 have I2:=I1.freeze hd h1
 refine wpAny_pyIter_dict (knd:=bH X.prog X.w) ns ⟨o,es,h1,h2,h3,h4,h5,h6⟩ ?_
 have f:(aM H1 d (.frz o (.dK kvs))) s1.heap.objs.size=none:=I2.hok.fresh (ai _)
 refine ⟨s1.heap.objs.size,[s1.heap.objs.size],_,_,_,rfl,I2.kept (t':=s1.toks) fun b o e=>af _ e,aR7 d _ o kvs h3,⟨bj _,⟨_,az _ rfl,rfl,by rw [hl];rfl⟩⟩,fun b hb=>?_,q o⟩
 have e:b=s1.heap.objs.size:=by simpa using hb
 subst e
 exact I2.fpOk (ai _) f
theorem aS0 {d:Addr}{o:Obj}{kvs:List (Key×V)}{g:TG}{tc:TT}{te:TE}{Kf:List V->Hp->Prop}{σ0:St}{H1:Hp}(Pv:Nat->List V->St->Hp->Prop) (hz:kvs.length < sizeLine) (h0:Pv 0 [] σ0 H1) (hb:∀ i zs σ H,Pv i zs σ H->zs.length<=i)
  (hl:∀ i zs σ H,i<=kvs.length->Pv i zs σ H->H d=some (.frz o (.dK kvs)))
  (hs:∀ i k v zs σ H,kvs[i]?=some (k,v)->Pv i zs σ H->g (kV k) σ H fun σ2 H2=>tc σ2 H2 fun b H3=>if b=true then te σ2 H3 fun y H4=>Pv (i+1) (zs++[y]) σ2 H4 else Pv (i+1) zs σ2 H3)
  (hd:∀ zs σ H,Pv kvs.length zs σ H->Kf zs H):lK (Itd d o kvs) g tc te Kf σ0 H1:=by
 refine ⟨fun i m zs σ H=>m=kvs.length - i/\i<=kvs.length/\Pv i zs σ H,⟨kvs.length,by simp,bj _,h0⟩,?_⟩
 rintro i m zs σ H ⟨rfl,hi,p⟩
 have q1:=hl i zs σ H hi p
 refine ⟨cg (hb _ _ _ _ p) (cg hi hz),?_⟩
 by_cases hlt:i < kvs.length
 ·refine .inr ⟨⟨hlt,q1⟩,Pv (i+1),fun zs' σ' H' p'=>⟨kvs.length - (i+1),fj hlt (dq i),rfl,hlt,p'⟩,fun x H' y=>?_⟩
  obtain ⟨rfl,k,v,e1,rfl⟩:=y
  exact hs i k v zs σ _ e1 p
 ·have e:i=kvs.length:=by omega
  subst e
  exact .inl ⟨⟨ai _,q1⟩,hd zs σ H p⟩
section
variable {X:Cx}
variable {g:TG}{tc:TT}{te:TE}
theorem aQ9 {K:PySem.W.Frag}{a:Addr}{xs:List V}{Kf:List V->Hp->Prop}{σ0:St}{H1:Hp}(Pv:Nat->List V->St->Hp->Prop) (hz:xs.length < sizeLine) (h0:Pv 0 [] σ0 H1) (hb:∀ i zs σ H,Pv i zs σ H->zs.length<=i)
  (hl:∀ i zs σ H,i<=xs.length->Pv i zs σ H->bM K H a xs)
  (hs:∀ i x zs σ H t,xs[i]?=some x->Pv i zs σ H->H t=none->g (.ref t) σ (aM H t (.tup [.int i,x])) fun σ2 H2=>tc σ2 H2 fun b H3=>if b=true then te σ2 H3 fun v H4=>Pv (i+1) (zs++[v]) σ2 H4 else Pv (i+1) zs σ2 H3)
  (hd:∀ zs σ H,Pv xs.length zs σ H->Kf zs H):lK (Ite K a) g tc te Kf σ0 H1:=by
 refine ⟨fun i m zs σ H=>m=xs.length - i/\i<=xs.length/\Pv i zs σ H,⟨xs.length,by simp,bj _,h0⟩,?_⟩
 rintro i m zs σ H ⟨rfl,hi,p⟩
 have q1:=hl i zs σ H hi p
 refine ⟨cg (hb _ _ _ _ p) (cg hi hz),?_⟩
 by_cases hlt:i < xs.length
 ·refine .inr ⟨⟨xs,xs[i],q1,by simp [hlt]⟩,Pv (i+1),fun zs' σ' H' p'=>⟨xs.length - (i+1),fj hlt (dq i),rfl,hlt,p'⟩,fun x H' y=>?_⟩
  obtain ⟨t,ht,rfl,w⟩:=y
  obtain ⟨u,e1,rfl⟩:=w xs q1
  exact hs i u zs σ H t e1 p ht
 ·have e:i=xs.length:=by omega
  subst e
  exact .inl ⟨⟨xs,q1,ai _⟩,hd zs σ H p⟩
end
open AutoSeq1 (wpAny_loadPart')
section
variable {prog:Program}{w:World}{A:Around}{E:Value->Shared->Prop}{s:Shared}
theorem aO9 (hh:A.handled=none) (it l:Addr) (hne:l≠it) (items:Array Value) :
  Draws prog w A it [it,l] items.size (fun i v=>items[i]?=some v) (fun i h=>h.IsTupleIter it l i/\h.IsTuple l items) where
 live:=fun _ _ st=>let ⟨o,ho,_⟩:=st.1;⟨o,ho⟩
 frame:=fun _ _ _ st hk=>⟨let ⟨o,ho,r⟩:=st.1;⟨o,hk it (by simp) o ho,r⟩,let ⟨o,ho,r⟩:=st.2;⟨o,hk l (by simp) o ho,r⟩⟩
 item:=fun i s Q E hi st hQ=>by
  refine aG4 st.1 st.2 (v:=items[i]) (by simp [hi]) fun h' hit' hs'=>?_
  exact hQ _ h' s.toks (by simp [hi]) ⟨hit',st.2.extBut hs'.extBut hne⟩ hs'
 done:=fun s Q E st hE=>lV hh st.1 st.2 (by simp) hE
end
theorem qO (l:Addr) (items:Array Value) (n:Nat) (dct:Option Addr) (sl:Array (Option Value)) :
  Meets (Builtin.«enumerate.__new__» ⟨[.type "enumerate",.ref l],[]⟩) (fun _ R s=>s.heap.get? l=some { cls:= .type "tuple",dict:=dct,data:= .seq items n,slots:=sl } /\
   R (.ok (.ret (.ref (s.heap.push { cls:= .type "tuple_iterator",data:= .fields #[.ref l,.int 0 0] }).objs.size)))
    { s with heap:=(s.heap.push { cls:= .type "tuple_iterator",data:= .fields #[.ref l,.int 0 0] }).push { cls:= .type "enumerate",data:= .fields #[.none,.bool false,.ref s.heap.objs.size,rawInt 0,.none,.none] } }) :=
 .of_wp fun prog w A R s h=>by
  obtain ⟨hp,g,d,tk,os⟩:=s;obtain ⟨hl,h⟩:=h
  have hsub:=sub_enumerate
  have hL:Heap.IsTuple (Shared.heap ⟨hp,g,d,tk,os⟩) l items:=⟨_,hl,rfl,n,rfl⟩
  wp_walk using ki hl
  refine wpAny_stack_any fun st=>am ?_
  split
  ·rename_i c _ _ _ _ _
   cases (c == Value.type "enumerate")
   ·wp_walk using ki hl,jd hL
    exact ⟨_,rfl,h⟩
   ·wp_walk using ki hl,jd hL
    exact ⟨_,rfl,h⟩
  ·wp_walk using ki hl,jd hL
   exact ⟨_,rfl,h⟩
section
variable {prog:Program}{w:World}{A:Around}{E:Value->Shared->Prop}{s:Shared}
theorem tJ {l:Addr}{items:Array Value}{Q:Value->Shared->Prop}(hL:s.heap.IsTuple l items)
  (h:∀ h',IsEnum h' (s.heap.objs.size+1) s.heap.objs.size 0 .none->h'.IsTupleIter s.heap.objs.size l 0->h'.objs.size=s.heap.objs.size+2 ->
   (∀ b o,s.heap.get? b=some o->h'.get? b=some o)->Q (.ref (s.heap.objs.size+1)) { s with heap:=h' }) :
  wpAny (model prog w) A (call (.type "enumerate") [.ref l]) Q E s:=by
 obtain ⟨⟨c,dct,dt,sl⟩,hl,hc,n,hd⟩:=hL
 replace hc:c= .type "tuple":=hc
 replace hd:dt= .seq items n:=hd
 subst hc hd
 refine ze F.called_enumerate (by decide) (F.typeCall_enumerate_1 _) (F.newCall_enumerate_1 _) (fun obj=>xm obj _) F.entry_enumerate_new
  (qO l items n dct sl) ⟨hl,?_⟩
 have hz:(s.heap.push { cls:= .type "tuple_iterator",data:= .fields #[.ref l,.int 0 0] }).objs.size=s.heap.objs.size+1:=gf ..
 show _/\_
 rw [hz]
 have he:IsEnum ((s.heap.push { cls:= .type "tuple_iterator",data:= .fields #[.ref l,.int 0 0] }).push
   { cls:= .type "enumerate",data:= .fields #[.none,.bool false,.ref s.heap.objs.size,rawInt 0,.none,.none] }) (s.heap.objs.size+1) s.heap.objs.size 0 .none:=by
  have:=az (s.heap.push { cls:= .type "tuple_iterator",data:= .fields #[.ref l,.int 0 0] })
   (o:={ cls:= .type "enumerate",data:= .fields #[.none,.bool false,.ref s.heap.objs.size,rawInt 0,.none,.none] }) rfl
  rw [hz] at this;exact this
 refine ⟨⟨_,he,rfl⟩,h _ he ⟨_,af _ (az _ rfl),rfl,rfl⟩ (by rw [gf,hz]) fun b o x=>af _ (af _ x)⟩
end
def Itet (K : PySem.W.Frag) (a : Addr) : It :=
  ⟨fun i H => ∃ xs x, aT K H a xs /\ xs[i]? = some x,
   fun i H x H' => ∃ t, H t = none /\ x = .ref t /\ ∀ xs, aT K H a xs -> ∃ u, xs[i]? = some u /\ H' = aM H t (.tup [.int i, u]),
   fun i H => ∃ xs, aT K H a xs /\ xs.length <= i⟩
theorem aF6 {P:Program}{w:World}{K:PySem.W.Frag}{elts:List Expr}{x1:Nat}{pos:Pos}(a n:Addr) (han:a < n) :
  pO P w K (.Tuple elts x1 pos) (Itet K a) [n,n+1] (n+1) (fun i h=>(∃ old,IsEnum h (n+1) n i old)/\h.IsTupleIter n a i) where
 mem:=by simp
 obj:=fun i h Z c hc=>by
  obtain ⟨⟨old,he⟩,⟨o1,e1,c1,d1⟩⟩:=Z
  simp only [List.mem_cons,List.not_mem_nil,or_false] at hc
  rcases hc with rfl | rfl
  ·exact ⟨_,e1,fun v z=>by rw [d1] at z;cases z⟩
  ·exact ⟨_,he,fun v z=>by cases z⟩
 keep:=fun i h h' Z k=>⟨let ⟨old,he⟩:=Z.1;⟨old,k _ (by simp) _ he⟩,let ⟨o,e,r⟩:=Z.2;⟨o,k _ (by simp) o e,r⟩⟩
 item:=by
  intro X hP hw hK hc i pins s σ H E I hf Z hg
  subst hP hw hK
  obtain ⟨xs,x,q1,hx⟩:=hg
  obtain ⟨its,rv,pl,_⟩:=I.tuple q1
  obtain ⟨u,hu,ru⟩:=rv.get hx
  obtain ⟨⟨old,he⟩,hit⟩:=Z
  have d0:n+1≠n:=Nat.succ_ne_self n
  have hil:i < its.toArray.size:=by
   have:=(bu.mp hu).1
   simpa using this
  refine wpAny_pyNext_enum_itemD (fp:=[n,a]) (P:=fun i v=>its.toArray[i]?=some v) (aO9 (A:=X.A.in1) (I.ok.hd hc) n a (bt han) its.toArray) he ⟨hit,pl⟩ hil d0 (fun z=>by
   simp only [List.mem_cons,List.not_mem_nil,or_false] at z
   rcases z with z | z
   ·exact d0 z
   ·exact absurd z (jw (om han))) fun x' g tk px z1 j1 T1 _ k1=>?_
  have exu:x'=u:=by
   have:its[i]?=some x':=by simpa using px
   rw [hu] at this
   exact (cx this).symm
  subst exu
  refine ⟨_,rfl,ub z1 fun g2 z2 sb=>?_⟩
  have nT:s.heap.objs.size≠n+1:=jw (ay he)
  have lt:∀ c∈[n,n+1],c < s.heap.objs.size:=fun c hc=>by
   simp only [List.mem_cons,List.not_mem_nil,or_false] at hc
   rcases hc with rfl | rfl
   ·obtain ⟨o1,e1,_⟩:=hit
    exact ay e1
   ·exact ay he
  have kk:∀ c o,c∉[n,n+1]->s.heap.get? c=some o->g2.get? c=some o:=fun c o hc e=>by
   simp only [List.mem_cons,List.not_mem_nil,or_false,not_or] at hc
   exact (sb.2 c hc.2).trans (k1 c o hc.2 hc.1 e)
  have TT:g2.get? s.heap.objs.size=some { cls:= .type "tuple",data:= .seq #[.int i tk,x'] }:=(sb.2 _ nT).trans T1
  have I2:=I.turnedNew (T:=s.heap.objs.size) (o:= .tup [.int i,x]) (rs:=[n,n+1]) (t':=tk+1) hf kk (ai _) ⟨by show 2<=sizeLine;decide,[.int i tk,x'],.cons ⟨_,rfl⟩ (.cons ru .nil),⟨_,TT,rfl,_,rfl,rfl⟩⟩
  refine ⟨.ref s.heap.objs.size,_,I2,rfl,⟨_,I.fresh,rfl,fun xs' w1=>⟨x,by rw [I.tuple_inj w1 q1];exact hx,rfl⟩⟩,⟨⟨_,by simpa using z2⟩,?_⟩,fun c hc=>?_⟩
  ·obtain ⟨o,e,r⟩:=j1.1
   exact ⟨o,(sb.2 _ d0.symm).trans e,r⟩
  rw [aG (bt (lt c hc))]
  exact (hf c hc).1
 done:=by
  intro X hP hw hK hc i pins s σ H E I hf Z hg
  subst hP hw hK
  obtain ⟨xs,q1,hx⟩:=hg
  obtain ⟨its,rv,pl,_⟩:=I.tuple q1
  obtain ⟨⟨old,he⟩,hit⟩:=Z
  have hl:=rv.length
  have hT:s.TypeIs (.ref (n+1)) "enumerate":=⟨_,he,rfl⟩
  unfold pyNext
  refine aa (jp (ef (name:=Str.ofString "__next__") hT wv
   (dw wv hT F.entry_enumerate_next ?_ (F.args_enumerate_next_1 _))))
  show wpAny _ _ (field (.ref (n+1)) 2 >>= _) _ _ _
  refine aa (eu he rfl (x:= .ref n) rfl ?_)
  refine aa (lV (I.ok.hd hc) hit pl (by simp;omega) fun g x he' hx'=>?_)
  obtain ⟨o,ho,hc'⟩:=hx'
  refine aa (ij (T:="StopIteration") (b:=true) ⟨o,ho,hc'⟩ re ?_)
  refine am ⟨rfl,I.turnedL (rs:=[n,n+1]) (t':=s.toks) hf fun c o hc e=>?_⟩
  simp only [List.mem_cons,List.not_mem_nil,or_false,not_or] at hc
  exact he' c o hc.1 e
 self:=fun _ _ _ _ _ Z h=>by
  obtain ⟨⟨old,he⟩,_⟩:=Z
  exact on he h
def cC5 (K:PySem.W.Frag) (ta:TA):TI:=fun σ H R=>ta σ H fun vs H1=>∃ a,vs=[.ref a]/\(∃ xs,aT K H1 a xs)/\R (Itet K a) H1
theorem aT7 {X:Cx}{a:Expr}{ta:TA}{p pos:Pos}{elts:List Expr}{x1:Nat}{tpos:Pos}(hg:Gl X "enumerate") (hm:X.mg "enumerate"=none) (ha:PA X [a] ta) (hs:autoParam (starEach [a] X.env=[(false,eval a X.env)]) Rq0._auto_1) :
  PI X (.Tuple elts x1 tpos) (.Call (.Name "enumerate" p) [a] [] pos) (cC5 X.K ta):=by
 intro pins s σ H R I h
 refine ge (jM I hg hm su (fi (cV (ha pos pins s σ H _ I h) ?_) hs rfl));rintro us s1 ⟨vs,H1,I1,r1,q1⟩
 obtain ⟨a',rfl,⟨xs,q1⟩,q⟩:=q1
 obtain ⟨u,rfl,ru⟩:=iQ r1
 cases ru
 obtain ⟨its,_,pl,_⟩:=I1.tuple q1
 have la:a' < s1.heap.objs.size:=by
  obtain ⟨o,e,_⟩:=id pl
  exact ay e
 refine tJ pl fun g he hit _ k=>on he ?_
 have I2:aR X pins σ H1 { s1 with heap:=g }:=I1.kept (t':=s1.toks) k
 refine ⟨s1.heap.objs.size+1,_,_,Itet X.K a',H1,rfl,I2,aF6 a' s1.heap.objs.size la,⟨⟨_,he⟩,hit⟩,fun c hc=>?_,q⟩
 have hge:s1.heap.objs.size<=c:=by
  simp only [List.mem_cons,List.not_mem_nil,or_false] at hc
  rcases hc with rfl | rfl
  ·exact ai _
  ·exact iz ..
 exact I1.fpOk hge (I1.hok.fresh hge)
theorem aP5 {K:PySem.W.Frag}{a:Addr}{xs:List V}{g:TG}{tb:TS}{D:fH}{σ: St}{H:Hp}(Pv:Nat->St->Hp->Prop) (h0:Pv 0 σ H) (hl:∀ i σ H,i<=xs.length->Pv i σ H->aT K H a xs)
  (hs:∀ i x σ H t,xs[i]?=some x->Pv i σ H->H t=none->g (.ref t) σ (aM H t (.tup [.int i,x])) fun σ2 H2=>tb { D with nx:=Pv (i+1),ct:=Pv (i+1),bk:=D.nx } σ2 H2) (hd:∀ σ H,Pv xs.length σ H->D.nx σ H) :
  ∃ W:Nat->Nat->St->Hp->Prop,(∃ m,W 0 m σ H)/\∀ i m σ H,W i m σ H ->
   ((Itet K a).stop i H/\D.nx σ H)\/((Itet K a).go i H/\∃ N:St->Hp->Prop,(∀ σ' H',N σ' H'->∃ m',m' < m/\W (i+1) m' σ' H')/\∀ x H',(Itet K a).yld i H x H'->g x σ H' fun σ2 H2=>tb { D with nx:=N,ct:=N,bk:=D.nx } σ2 H2):=by
 refine ⟨fun i m σ H=>m=xs.length - i/\i<=xs.length/\Pv i σ H,⟨xs.length,by simp,bj _,h0⟩,?_⟩
 rintro i m σ H ⟨rfl,hi,p⟩
 have q:=hl i σ H hi p
 by_cases hlt:i < xs.length
 ·refine .inr ⟨⟨xs,xs[i],q,by simp [hlt]⟩,Pv (i+1),fun σ' H' p'=>⟨xs.length - (i+1),fj hlt (dq i),rfl,hlt,p'⟩,fun x H' y=>?_⟩
  obtain ⟨t,ht,rfl,w⟩:=y
  obtain ⟨u,e1,rfl⟩:=w xs q
  exact hs i u σ H t e1 p ht
 ·have e:i=xs.length:=by omega
  subst e
  exact .inl ⟨⟨xs,q,ai _⟩,hd σ H p⟩
open PySem PySem.Spec PyProof.Rows
section
variable {prog:Program}{w:World}{A:Around}{E:Value->Shared->Prop}{s:Shared}
end
section
variable {X:Cx}{pins:List (Addr×Obj)}{σ: St}{H:Hp}{s:Shared}{a:Addr}{y v:V}{u r:Value}{A:Around}{E:Value->Shared->Prop}
end
section
variable {X:Cx}{pins:List (Addr×Obj)}{σ: St}{H:Hp}{s:Shared}{A:Around}{E:Value->Shared->Prop}
end
open PySem PySem.Spec PyProof.Rows PySem.W
def eB (n:Nat) (p:Array Nat):Prop:=p.Perm (List.range n).toArray
theorem eB.get {n:Nat}{p:Array Nat}(h:eB n p) (h0:0 < n) (x:Nat):p.getD x 0 < n:=by
 by_cases c:x < p.size
 ·have e:p.getD x 0=p[x]:=by simp [Array.getD,c]
  have m:p[x]∈(List.range n).toArray.toList:=(ie.mp h).mem_iff.mp (by simp)
  rw [e]
  simpa using m
 ·have e:p.getD x 0=0:=by simp [Array.getD,c]
  omega
theorem eB.rev {n:Nat}{p:Array Nat}(h:eB n p) (i j:Nat):eB n (kas_rev p i j):=(mirror_perm p i j _).trans h
section
variable {n:Nat}(h0:0 < n)
include h0
end
open PySem PySem.Spec PyProof.Rows PySem.W HT
def cQ2 (h:Heap) (v:Value):Prop:=∃ (a:Addr) (its:Array Value) (ns:List Int),v= .ref a/\IsTup h a its/\IntsAre its.toList ns
theorem yT:∀ {us:List Value}{ns:List Int},IntsAre us ns->∀ {v:Value},v∈us->∃ x t,v=Value.int x t
 |_,_,.cons n t r,v,h=>by
  rcases av.mp h with rfl | h
  ·exact ⟨_,_,rfl⟩
  ·exact yT r h
section
variable {prog:Program}{w:World}{A:Around}{E:Value->Shared->Prop}{s:Shared}
theorem nU {α β: Type}{f:α->Sem β}{P:β->Prop}:∀ (l:List α) {Q:List β->Shared->Prop},(∀ v∈l,∀ Q':β->Shared->Prop,(∀ r,P r->Q' r s)->wpAny (model prog w) A (f v) Q' E s)->(∀ rs,(∀ r∈rs,P r)->Q rs s)->wpAny (model prog w) A (List.mapM f l) Q E s
 |[],Q,_,q=>by rw [List.mapM_nil];exact am (q [] fun r h=>absurd h cz)
 |v :: l,Q,h,q=>by
  rw [List.mapM_cons]
  refine aa (h v ah _ fun r pr=>?_)
  refine aa (nU l (fun v' h'=>h v' (ae _ h')) fun rs prs=>?_)
  refine am (q _ fun r' h'=>?_)
  rcases av.mp h' with rfl | h'
  ·exact pr
  ·exact prs _ h'
theorem pB {l:List Value}{Q:Option Value->Shared->Prop}(h:∀ v∈l,∃ T,s.TypeIs v T) (q:∀ r,Q r s):wpAny (model prog w) A (oneTypeOnly' l.toArray) Q E s:=by
 rw [oneTypeOnly'_eq,zv]
 refine aa ?_
 show wpAny _ _ (List.mapM typeOf l >>= fun a=>pure a.toArray) _ _ _
 refine aa (nU (P:=fun _=>True) l (fun v hv Q' hQ'=>?_) fun rs _=>am ?_)
 ·obtain ⟨T,ht⟩:=h v hv
  exact qh ht (hQ' _ trivial)
 ·split
  ·exact am (q _)
  ·exact am (q _)
theorem bF6 {vs:List Value}{Q:SortKind->Shared->Prop}(h:∀ v∈vs,cQ2 s.heap v) (q:∀ κ,(κ=general'\/κ=oneType'\/∃ b,κ=tuples' b)->Q κ s):wpAny (model prog w) A (keyKind' vs.toArray) Q E s:=by
 rw [kat_kind_eq,zv]
 refine aa ?_
 show wpAny _ _ (List.mapM firstOfTuple' vs >>= fun a=>pure a.toArray) _ _ _
 refine aa (nU (P:=fun r:Option Value=>∀ v,r=some v->∃ x t,v=Value.int x t) vs (fun v hv Q' hQ'=>?_) fun rs prs=>am ?_)
 ·obtain ⟨a,its,ns,rfl,⟨o,ho,hc,n,hd⟩,ix⟩:=h v hv
  show wpAny _ _ (typeOf _ >>= _) _ _ _
  refine aa (qh (T:="tuple") ⟨o,ho,hc⟩ ?_)
  rw [aj (by simp)]
  refine aa (listItems_at ho hd (am (hQ' _ fun v hv=>?_)))
  have:v∈its.toList:=by
   have:=Array.mem_of_getElem? hv
   simpa using this
  exact yT ix this
 ·split
  ·refine aa (kc ?_)
   have e:(Array.filterMap id rs.toArray)=(rs.filterMap id).toArray:=by simp
   rw [e]
   refine aa (pB (fun v hv=>?_) fun r=>am (q _ (.inr (.inr ⟨_,rfl⟩))))
   obtain ⟨r,hr,er⟩:=sn.mp hv
   obtain ⟨x,t,rfl⟩:=prs r hr v er
   exact ⟨_,xf s x t⟩
  ·split
   ·exact am (q _ (.inl rfl))
   ·refine aa (pB (fun v hv=>?_) fun r=>am (q _ ?_))
    ·obtain ⟨a,its,ns,rfl,⟨o,ho,hc,n,hd⟩,ix⟩:=h v hv
     exact ⟨"tuple",o,ho,hc⟩
    ·split
     ·exact .inr (.inl rfl)
     ·exact .inl rfl
end
open PySem PySem.Spec PyProof.Rows
section
variable {prog:Program}{w:World}{A:Around}{E:Value->Shared->Prop}{s:Shared}
end
section
variable {g:TG}{tc:TT}{te:TE}
end
theorem yS (val:Nat->Int):∀ k i,i<=k->val i<=val (argBest (fun i j=>decide (val i > val j)) k)
 |0,i,h=>by
  have:i=0:=by omega
  subst this
  exact cu _
 |k+1,i,h=>by
  have ih:=yS val k
  rw [argBest]
  split
  ·rename_i c
   have c:=ba c
   by_cases e:i=k+1
   ·rw [e];exact cu _
   ·have:=ih i (by omega)
    omega
  ·rename_i c
   have c:¬ val (k+1) > val _:=fun z=>c (ap z)
   by_cases e:i=k+1
   ·rw [e];exact Int.not_lt.mp c
   ·exact ih i (by omega)
section
variable {X:Cx}
end
def ItR (K:PySem.W.Frag) (a:Addr) (n:Nat):It :=
 ⟨fun i H=>∃ xs,bM K H a xs/\xs.length=n/\i < n,fun i H x H'=>H'=H/\∀ ys,bM K H a ys->ys.reverse[i]?=some x,fun i H=>∃ xs,bM K H a xs/\xs.length=n/\n<=i⟩
theorem bG2 {P:Program}{w:World}{K:PySem.W.Frag}{tg:Expr}(a it:Addr) (n:Nat) (ne:a≠it):pO P w K tg (ItR K a n) [it] it (fun i h=>i<=n/\h.IsRevIter it a ((n:Int) - 1 - (i:Int))) where
 mem:=by simp
 obj:=fun i h st b hb=>by
  have e:b=it:=by simpa using hb
  subst e
  obtain ⟨_,o,e,c,d⟩:=st
  exact ⟨o,e,fun v z=>by rw [d] at z;cases z⟩
 keep:=fun i h h' st k=>⟨st.1,let ⟨o,e,r⟩:=st.2;⟨o,k it (by simp) o e,r⟩⟩
 item:=by
  intro X hP hw hK hc i pins s σ H E I hf st hg
  subst hP hw hK
  obtain ⟨xs,hq,hn,hi⟩:=hg
  obtain ⟨its,rv,p,hz⟩:=I.list hq
  have hl:=rv.length
  have sz:its.toArray.size=n:=by rw [aw];omega
  obtain ⟨f0,f1,f2,f3,f4,f5⟩:=hf it (by simp)
  have Wk:=Walks.listRev (prog:=X.prog) (w:=X.w) (A:=X.A) (I.ok.hd hc) it a ne its.toArray
  refine Wk.item i s _ _ (by omega) ⟨by omega,by rw [sz];exact st.2,p.isList⟩ fun v h' tk pv st' kp=>?_
  have I1:aR X pins σ H { s with heap:=h',toks:=tk }:=I.turned (t':=tk) (fun b o hb e=>kp b o (by simpa using hb) e) f0 f1 f3 f4 f5
  have hx:i < xs.reverse.length:=by rw [gp];omega
  obtain ⟨u,hu,ru⟩:=rv.get (show xs[xs.length - 1 - i]?=some (xs[xs.length - 1 - i]'(by omega)) from bw (by omega))
  obtain ⟨o,e,c,d⟩:=id st'.2.1
  have ev:v=u:=by
   have:its.toArray[its.toArray.size - 1 - i]?=some v:=pv
   rw [sz, <- hn] at this
   have t2:its[xs.length - 1 - i]?=some v:=by simpa using this
   rw [hu] at t2
   exact (cx t2).symm
  subst ev
  refine ⟨_,rfl,go_of (s:={ s with heap:=h',toks:=tk }) e c d (by decide) ⟨xs[xs.length - 1 - i]'(by omega),H,I1,ru,⟨rfl,fun ys hy=>?_⟩,⟨by omega,by have:=st'.2.1;rw [sz] at this;exact this⟩,fun b hb=>(hf b hb).1⟩⟩
  rw [I.list_inj hy hq,pp (by omega)]
  exact bw (by omega)
 done:=by
  intro X hP hw hK hc i pins s σ H E I hf st hg
  subst hP hw hK
  obtain ⟨xs,hq,hn,hi⟩:=hg
  obtain ⟨its,rv,p,hz⟩:=I.list hq
  have hl:=rv.length
  have sz:its.toArray.size=n:=by rw [aw];omega
  obtain ⟨f0,f1,f2,f3,f4,f5⟩:=hf it (by simp)
  have Wk:=Walks.listRev (prog:=X.prog) (w:=X.w) (A:=X.A) (I.ok.hd hc) it a ne its.toArray
  have ei:i=n:=by have:=st.1;omega
  refine Wk.done s _ _ ⟨ai _,by rw [sz, <- ei];have:=st.2;rw [<- ei] at this;exact this,p.isList⟩ fun h' tk kp=>⟨rfl,I.turned (t':=tk) (fun b o hb e=>kp b o (by simpa using hb) e) f0 f1 f3 f4 f5⟩
 self:=fun _ _ _ _ _ st h=>xo st.2 h
def cQ9 (K:PySem.W.Frag) (te:TE):TI:=fun σ H R=>te σ H fun x H1=>∃ a ys,x= .ref a/\bM K H1 a ys/\R (ItR K a ys.length) H1
theorem cD0 {X:Cx}{tg:Expr}{e:Expr}{te:TE}{p2 pos2:Pos}(he:PE X e te) (g2:Gl X "reversed") (m2:X.mg "reversed"=none) (hs2:autoParam (starEach [e] X.env=[(false,eval e X.env)]) Rq0._auto_1) :
  PI X tg (.Call (.Name "reversed" p2) [e] [] pos2) (cQ9 X.K te):=by
 intro pins s σ H R I h
 refine ge (jM I g2 m2 uc (fi ?_ hs2 rfl))
 rw [hs2]
 refine kh (cV (he pins s σ H _ I h) ?_);rintro u s1 ⟨x,H1,I1,r1,a,ys,ex,hq,q⟩;refine oh ?_
 subst ex
 cases r1
 obtain ⟨its,rv,pl,hz⟩:=I1.list hq
 have il:=pl.isList
 have len:=rv.length
 have sz:its.toArray.size=ys.length:=by rw [aw];omega
 have aLt:a < s1.heap.objs.size:=by
  obtain ⟨o,e,_⟩:=il
  exact ay e
 refine call_reversed_list il ?_
 have st:(s1.heap.push (revObj a ((its.toArray.size:Int) - 1))).IsRevIter s1.heap.objs.size a ((ys.length:Int) - 1 - ((0:Nat):Int)):=by
  rw [sz,Int.natCast_zero,Int.sub_zero]
  exact ⟨_,az _ rfl,rfl,rfl⟩
 refine xo st ?_
 refine ⟨s1.heap.objs.size,[s1.heap.objs.size],_,ItR X.K a ys.length,H1,rfl,I1.kept (t':=s1.toks) fun b o e=>af _ e,bG2 a _ ys.length (bt aLt),⟨bj _,st⟩,fun b hb=>?_,q⟩
 have e:b=s1.heap.objs.size:=by simpa using hb
 subst e
 exact I1.fpOk (ai _) (I1.hok.fresh (ai _))
theorem aS7 {K:PySem.W.Frag}{a:Addr}{xs:List V}{g:TG}{tb:TS}{D:fH}{σ: St}{H:Hp}(Pv:Nat->St->Hp->Prop) (z0:Pv 0 σ H) (zl:∀ i σ H,i<=xs.length->Pv i σ H->bM K H a xs)
  (zs:∀ (D':fH),∀ i x σ H,xs.reverse[i]?=some x->Pv i σ H->g x σ H fun σ2 H2=>tb { D' with nx:=Pv (i+1),ct:=Pv (i+1),bk:=D'.nx } σ2 H2) (zd:∀ σ H,Pv xs.length σ H->D.nx σ H) :
  ∃ W:Nat->Nat->St->Hp->Prop,(∃ m,W 0 m σ H)/\∀ i m σ H,W i m σ H ->
   ((ItR K a xs.length).stop i H/\D.nx σ H)\/((ItR K a xs.length).go i H/\∃ N:St->Hp->Prop,(∀ σ' H',N σ' H'->∃ m',m' < m/\W (i+1) m' σ' H')/\∀ x H',(ItR K a xs.length).yld i H x H'->g x σ H' fun σ2 H2=>tb { D with nx:=N,ct:=N,bk:=D.nx } σ2 H2):=by
 refine ⟨fun i m σ H=>m=xs.length - i/\i<=xs.length/\Pv i σ H,⟨xs.length,rfl,bj _,z0⟩,?_⟩
 rintro i m σ H ⟨rfl,le,p⟩
 have q:=zl i σ H le p
 by_cases c:i < xs.length
 ·exact .inr ⟨⟨xs,q,rfl,c⟩,Pv (i+1),fun σ' H' p'=>⟨xs.length - (i+1),by omega,rfl,c,p'⟩,fun x H' ⟨e,y⟩=>by
   subst e
   exact zs D i x σ _ (y xs q) p⟩
 ·obtain rfl:i=xs.length:=by omega
  exact .inl ⟨⟨xs,q,rfl,ai _⟩,zd σ H p⟩
section
variable {X:Cx}
theorem aC6:eS X (.type "dict") (fun xs H Q=>∃ (p:Addr) (kvs:List (Key×V)),xs=[.ref p]/\H p=some (.dK kvs)/\∀ d,H d=none->Q (.ref d) (aM H d (.dK kvs))):=by
 intro pins s σ H xs us Q I r h
 obtain ⟨p,kvs,rfl,hp,q⟩:=h
 obtain ⟨u,rfl,ru⟩:=iQ r
 cases ru
 obtain ⟨z,hd,vs,rel,dd⟩:=aM0 I.hok hp
 refine kt_call_dict hd dd (by rw [<- rel.length];exact z) fun h' hm hs=>?_
 refine ⟨.ref s.heap.objs.size,_,I.laid (t':=s.toks) (o:= .dK kvs) (fun b o e=>(hs.2 b (bt (ay e))).trans (af _ e)) (ai _) ?_,rfl,q _ (I.hok.fresh (ai _))⟩
 exact aI7 z (gn.mpr (Ne.symm (bt I.big))) rel hm
def rCatA:R2:=fun x y H Q=>∃ a b xs ys,x= .ref a/\y= .ref b/\H a=some (.tup xs)/\H b=some (.tup ys)/\xs.length+ys.length<=sizeLine/\∀ r H',aU H H'->H' r=some (.tup (xs++ys))->Q (.ref r) H'
theorem xD:kK X (binaryOp .Add) rCatA:=by
 intro pins s σ H x y v u Q I rx ry h
 obtain ⟨a,b,xs,ys,rfl,rfl,ha,hb,hz,q⟩:=h
 by_cases hx:xs=[]
 ·subst hx
  cases rx
  cases ry
  obtain ⟨its,r1,p1,_⟩:=I.tuple (aT.of ha)
  obtain ⟨its2,r2,p2,_⟩:=I.tuple (aT.of hb)
  cases r1
  obtain ⟨⟨cls,dd,data,sl⟩,ho,hc,n,hd⟩:=id p1
  obtain ⟨⟨cls2,dd2,data2,sl2⟩,ho2,hc2,n2,hd2⟩:=id p2
  simp only at hc hd hc2 hd2
  subst hc hd hc2 hd2
  exact yz ⟨_,ho,rfl⟩ ⟨_,ho2,rfl⟩ uv ya ow nv (mw _ _)
   (tuple_addW0 a b _ its2.toArray n n2 dd dd2 sl sl2 (by simp)) ⟨ho,ho2,.ref b,H,I,rfl,q b H (aU.refl _) hb⟩
 ·refine bL7 pins s σ H _ _ v u Q I rx ry ⟨a,b,xs,ys,rfl,rfl,aT.of ha,aT.of hb,hx,hz,fun e=>?_,fun _ p hp=>q p _ (aC hp _) aD⟩
  subst e
  exact q a H (aU.refl _) (by rw [gz];exact ha)
end
section
variable {prog:Program}{w:World}{A:Around}{E:Value->Shared->Prop}{s:Shared}
end
section
variable {X:Cx}{pins:List (Addr×Obj)}{σ: St}{H:Hp}{s:Shared}{A:Around}{E:Value->Shared->Prop}
end
section
variable {prog:Program}{w:World}{K:Type} [DecidableEq K] {knd:KeyKind prog w K}{A:Around}{E:Value->Shared->Prop}{s:Shared}
end
section
variable {X:Cx}
theorem kT:∀ {ps:List Addr}{us:List Value},bB (ps.map V.ref) us->us=ps.map Value.ref
 |[],_,h=>by cases h;rfl
 |p :: r,_,h=>by
  rw [bi] at h
  cases h with
  |cons h1 h2=>rw [kT h2,show _=Value.ref p from h1];rfl
end
end L2
namespace PySem
namespace F
theorem bI4:Slot "reversed" "__init__" "object.__init__" :=
 .of (owner:="object") (n:="__init__") (by rw [typeLookup_type,builtinLookup_eq_fast];kernel_rfl) (by decide +kernel) (by decide +kernel) (by decide +kernel)
  (by first | exact .inl (by decide +kernel) | exact .inr (by decide +kernel)) (by rw [isSubtype_type];kernel_rfl)
theorem called_reversed:TypeCalled "reversed" "reversed.__new__" "object.__init__" :=
 ⟨by decide +kernel,by decide +kernel,⟨_,_,mro_reversed⟩,made_reversed,by decide +kernel,sub_reversed_self,bI4⟩
theorem aA6:Manifest.owners.lookup (String.ofList ['d', 'e', 's', 'r', 'e', 'v', 'e', 'r'].reverse)=some Manifest.sig_reversed:=by kernel_rfl
theorem rv_next:Slot "reversed" "__next__" "reversed.__next__" :=
 .of (owner:="reversed") (n:="__next__") (by rw [typeLookup_type,builtinLookup_eq_fast];kernel_rfl) (by decide +kernel) (by decide +kernel) (by decide +kernel)
  (by first | exact .inl (by decide +kernel) | exact .inr (by decide +kernel)) (by rw [isSubtype_type];kernel_rfl)
theorem rv_entry_next:entryFor table "reversed.__next__"=some Builtin.«reversed.__next__» :=entryFor_of_tree (by kernel_rfl)
theorem rv_args_next (a:Value):argsOk "reversed.__next__" ⟨[a],[]⟩:=by
 unfold argsOk;rw [signature?_of (id:="reversed.__next__") (n:=['_', '_', 't', 'x', 'e', 'n', '_', '_']) (o:=['d', 'e', 's', 'r', 'e', 'v', 'e', 'r']) (by kernel_rfl) aA6];kernel_rfl
theorem rv_iter:Slot "reversed" "__iter__" "reversed.__iter__" :=
 .of (owner:="reversed") (n:="__iter__") (by rw [typeLookup_type,builtinLookup_eq_fast];kernel_rfl) (by decide +kernel) (by decide +kernel) (by decide +kernel)
  (by first | exact .inl (by decide +kernel) | exact .inr (by decide +kernel)) (by rw [isSubtype_type];kernel_rfl)
theorem rv_args_iter (a:Value):argsOk "reversed.__iter__" ⟨[a],[]⟩:=by
 unfold argsOk;rw [signature?_of (id:="reversed.__iter__") (n:=['_', '_', 'r', 'e', 't', 'i', '_', '_']) (o:=['d', 'e', 's', 'r', 'e', 'v', 'e', 'r']) (by kernel_rfl) aA6];kernel_rfl
theorem rv_entry_iter:entryFor table "reversed.__iter__"=some Builtin.«dict_keyiterator.__iter__» :=
 entryFor_alias (id':="dict_keyiterator.__iter__") (by kernel_rfl) (by first | rfl | decide +kernel | (unfold String.splitOn;simp +decide [String.splitOnAux])) (by decide +kernel) (by kernel_rfl)
theorem rv_tup_rev:typeLookup (.type "tuple") "__reversed__"=pure none:=by rw [typeLookup_type,builtinLookup_eq_fast];kernel_rfl
theorem rv_tup_dict:isSubtype (.type "tuple") (.type "dict")=pure false:=by rw [isSubtype_type];kernel_rfl
end F
end PySem
namespace PySem
section
variable {prog:Program}{w:World}{A:Around}{E:Value->Shared->Prop}{s:Shared}
def aG7 (l:Addr) (i:Int):Obj:={ cls:= .type "reversed",data:= .fields #[.ref l,rawInt i] }
def Heap.IsTRev (h:Heap) (a l:Addr) (i:Int):Prop:=∃ o,h.get? a=some o/\o.cls= .type "reversed"/\o.data= .fields #[.ref l,rawInt i]
theorem Heap.IsTRev.typeIs {a l:Addr}{i:Int}(x:s.heap.IsTRev a l i):s.TypeIs (.ref a) "reversed":=by obtain ⟨o,ho,hc,_⟩:=x;exact ⟨o,ho,hc⟩
theorem Heap.IsTRev.at {h h':Heap}{a l:Addr}{i:Int}(x:h.IsTRev a l i) (e:∀ o,h.get? a=some o->h'.get? a=some o):h'.IsTRev a l i:=by obtain ⟨o,ho,r⟩:=x;exact ⟨o,e _ ho,r⟩
theorem bM7 (l:Addr) (items:Array Value):Meets (Builtin.«reversed.__new__» ⟨[.type "reversed",.ref l],[]⟩) (fun _ R s=>s.heap.IsTuple l items/\(items.size:Int) < 2 ^ 63 /\
   ∀ tk,R (.ok (.ret (.ref s.heap.objs.size))) { s with heap:=s.heap.push (aG7 l ((items.size:Int) - 1)),toks:=tk }) :=
 .of_wp fun prog w A R s h=>by
  obtain ⟨q,g,d,tk,os⟩:=s;obtain ⟨t1,fit,h⟩:=h
  unfold Builtin.«reversed.__new__»
  refine wpAny_bind (wpAny_of_eq (newClass_reversed _) ?_)
  try dsimp only
  refine wpAny_bind (wpAny_of_eq (a:=()) (by first | rfl | kernel_rfl) ?_)
  refine wpAny_bind (wpAny_of_eq (a:=()) (by first | rfl | kernel_rfl) ?_)
  try dsimp only
  refine wpAny_bind (wpAny_specialOf t1.typeIs F.rv_tup_rev ?_)
  try dsimp only
  have hT:(⟨q,g,d,tk,os⟩:Shared).TypeIs (.ref l) "tuple":=t1.typeIs
  have f1:=F.rv_tup_dict
  have f2:=PyProof.Rows.slot_tuple_getitem.lookup
  have T1:PyProof.Rows.IsTup (Shared.heap ⟨q,g,d,tk,os⟩) l items:=t1
  wp_walk using PyProof.Rows.len_tuple T1 fit
  exact ⟨_,rfl,h _⟩
theorem nC {l:Addr}{items:Array Value}{Q:Value->Shared->Prop}(hl:s.heap.IsTuple l items) (hf:(items.size:Int) < 2 ^ 63)
  (h:∀ tk,Q (.ref s.heap.objs.size) { s with heap:=s.heap.push (aG7 l ((items.size:Int) - 1)),toks:=tk }):wpAny (model prog w) A (call (.type "reversed") [.ref l]) Q E s:=by
 refine callType_new F.called_reversed (by decide) (F.typeCall_reversed_1 _) (F.newCall_reversed_1 _) (fun obj=>F.args_object_init_2 obj _) F.entry_reversed_new (bM7 l items) ⟨hl,hf,fun tk=>?_⟩
 exact ⟨⟨_,Heap.get?_push_size _ rfl,rfl⟩,h tk⟩
theorem jV {it l:Addr}{i:Nat}{items:Array Value}{x:Value}{Q:Option Value->Shared->Prop}(hit:s.heap.IsTRev it l (i:Int)) (hl:s.heap.IsTuple l items) (hf:(items.size:Int) < 2 ^ 63) (hx:items[i]?=some x)
  (hQ:∀ h' tk,h'.IsTRev it l ((i:Int) - 1)->Heap.SameBut it s.heap h'->Q (some x) { s with heap:=h',toks:=tk }):wpAny (model prog w) A (pyNext (.ref it)) Q E s:=by
 obtain ⟨o,ho,hc,hd⟩:=id hit
 have hlt:i < items.size:=by
  rw [Array.getElem?_eq_some_iff] at hx
  exact hx.1
 unfold pyNext
 refine wpAny_bind (wpAny_attempt (wpAny_callSpecial?_slot (name:=Str.ofString "__next__") hit.typeIs F.rv_next
  (wpAny_call_entry F.rv_next hit.typeIs F.rv_entry_next ?_ (F.rv_args_next _))))
 unfold Builtin.«reversed.__next__»
 refine wpAny_bind (wpAny_of_eq (a:=(Value.ref it,[])) rfl ?_)
 try dsimp only
 refine wpAny_bind (wpAny_field ho hd (x:= .ref l) rfl ?_)
 refine wpAny_bind (wpAny_field ho hd (x:=rawInt (i:Int)) rfl ?_)
 show wpAny _ _ (if (i:Int) < 0 then _ else _) _ _ s
 rw [if_neg (by omega)]
 refine (show wpAny _ _ (specialOf (.ref l) "__getitem__" >>= _) _ _ s from wpAny_bind (wpAny_specialOf hl.typeIs PyProof.Rows.slot_tuple_getitem.lookup ?_))
 show wpAny _ _ (mkInt (i:Int) >>= _) _ _ s
 refine wpAny_bind (wpAny_mkInt ?_)
 refine wpAny_bind (wpAny_attempt (PyProof.Rows.getItem_tuple (j:=i) (x:=x) (show PyProof.Rows.IsTup _ l items from hl) (by omega) (by omega) (by unfold seqIndex?;simp;omega) hx ?_))
 show wpAny _ _ (field (.ref it) 1 >>= _) _ _ _
 refine wpAny_bind (wpAny_field ho hd (x:=rawInt (i:Int)) rfl ?_)
 show wpAny _ _ (setField (.ref it) 1 (rawInt ((i:Int) - 1)) >>= _) _ _ _
 refine wpAny_bind (wpAny_setField ho hd (by simp) ?_)
 first
 |refine wpAny_pure ⟨x,rfl,wpAny_pure (hQ _ _ ?_ (Heap.SameBut.update ..))⟩
 |refine wpAny_bind (wpAny_pure (wpAny_pure ⟨x,rfl,wpAny_pure (hQ _ _ ?_ (Heap.SameBut.update ..))⟩))
 exact ⟨_,Heap.get?_update_self _ ho (Obj.isFreed_of_fields (Obj.data_mapFields hd _)),(Obj.cls_mapFields ..).trans hc,by
  rw [Obj.data_mapFields hd];simp⟩
theorem jX {it l:Addr}{Q:Option Value->Shared->Prop}(hh:A.handled=none) (hit:s.heap.IsTRev it l (-1))
  (hQ:∀ h',Heap.ExtBut it s.heap h'->Q none { s with heap:=h' }):wpAny (model prog w) A (pyNext (.ref it)) Q E s:=by
 obtain ⟨o,ho,hc,hd⟩:=id hit
 unfold pyNext
 refine wpAny_bind (wpAny_attempt (wpAny_callSpecial?_slot (name:=Str.ofString "__next__") hit.typeIs F.rv_next
  (wpAny_call_entry F.rv_next hit.typeIs F.rv_entry_next ?_ (F.rv_args_next _))))
 unfold Builtin.«reversed.__next__»
 refine wpAny_bind (wpAny_of_eq (a:=(Value.ref it,[])) rfl ?_)
 try dsimp only
 refine wpAny_bind (wpAny_field ho hd (x:= .ref l) rfl ?_)
 refine wpAny_bind (wpAny_field ho hd (x:=rawInt (-1)) rfl ?_)
 show wpAny _ _ (if (-1:Int) < 0 then _ else _) _ _ s
 rw [if_pos (by decide)]
 refine wpAny_bind (wpAny_rule ?_)
 refine (show wpAny _ _ ((setField (.ref it) 1 (rawInt (-1)) >>= fun _=>setField (.ref it) 0 .none) >>= _) _ _ _ from wpAny_bind (wpAny_bind (wpAny_setField ho hd (by simp) ?_)))
 have g1:=Heap.get?_update_self (Obj.mapFields fun x=>x.setIfInBounds 1 (rawInt (-1))) ho (Obj.isFreed_of_fields (Obj.data_mapFields hd _))
 refine wpAny_setField (s:={ s with heap:=s.heap.update it _ }) g1 (Obj.data_mapFields hd _) (by simp) ?_
 have g2:Heap.ExtBut it s.heap ((s.heap.update it (Obj.mapFields fun x=>x.setIfInBounds 1 (rawInt (-1)))).update it (Obj.mapFields fun x=>x.setIfInBounds 0 Value.none)):=fun b o hb e=>(Heap.SameBut.update ..).extBut b o hb ((Heap.SameBut.update ..).extBut b o hb e)
 first
 |show wpAny _ _ (newExc (.type "StopIteration") [] >>= _) _ _ _
 |(refine wpAny_bind ?_;show wpAny _ _ (newExc (.type "StopIteration") [] >>= _) _ _ _)
 refine wpAny_bind ?_
 simp only [newExc,newTuple]
 refine wpAny_bind (wpAny_newObj_type ?_ (by size_fits))
 refine wpAny_bind (m:=firstArgMember _ _) (wpAny_of_eq (a:=Value.none) (by first | rfl | (simp only [firstArgMember];rfl)) ?_)
 refine wpAny_newObj_type ?_ (by size_fits)
 simp only [raiseNew]
 refine wpAny_bind (wpAny_handled ?_)
 first | rw [show A.in1.handled=none from hh] | rw [hh]
 refine wpAny_bind (wpAny_pure (wpAny_throw ?_))
 refine wpAny_bind (wpAny_isInstance (T:="StopIteration") (b:=true) ⟨_,Heap.get?_push_size _ rfl,rfl⟩ isSubtype_stop ?_)
 exact wpAny_pure (hQ _ ((g2.push _).push _))
theorem fI {it l:Addr}{i:Int}{Q:Value->Shared->Prop}(hit:s.heap.IsTRev it l i) (h:Q (.ref it) s):wpAny (model prog w) A (pyIter (.ref it)) Q E s:=by
 refine wpAny_pyIter_slot hit.typeIs F.rv_iter (wpAny_call_entry F.rv_iter hit.typeIs F.rv_entry_iter ?_ (F.rv_args_iter _))
 show wpAny _ _ (ret (.ref it)) _ _ s
 exact wpAny_pure ⟨_,rfl,"reversed",_,hit.typeIs,F.rv_next.lookup,h⟩
end
theorem Walks.tupRev {prog:Program}{w:World}{A:Around}(hh:A.handled=none) (I l:Addr) (hne:l≠I) (items:Array Value) (hf:(items.size:Int) < 2 ^ 63) :
  Walks prog w A I [I,l] [I] items.size (fun i v=>items[items.size - 1 - i]?=some v) (fun i h=>i<=items.size/\h.IsTRev I l ((items.size:Int) - 1 - (i:Int))/\h.IsTuple l items) where
 sub:=fun b hb=>by simp at hb;simp [hb]
 frame:=fun _ _ _ x hk=>⟨x.1,x.2.1.at fun o e=>hk I (by simp) o e,x.2.2.at fun o e=>hk l (by simp) o e⟩
 item:=fun i s Q E hi x hQ=>by
  have e:(items.size:Int) - 1 - (i:Int)=((items.size - 1 - i:Nat):Int):=by omega
  have hit:=x.2.1
  rw [e] at hit
  have hx:items[items.size - 1 - i]?=some (items[items.size - 1 - i]'(by omega)):=Array.getElem?_eq_getElem (by omega)
  refine jV hit x.2.2 hf hx fun h' tk hit' hs'=>?_
  have e2:((items.size - 1 - i:Nat):Int) - 1=(items.size:Int) - 1 - ((i+1:Nat):Int):=by omega
  rw [e2] at hit'
  exact hQ _ h' tk hx ⟨hi,hit',x.2.2.at fun o eo=>(hs'.2 l hne).trans eo⟩ fun b o hb eo=>hs'.extBut b o (fun h=>hb (by simp [h])) eo
 done:=fun s Q E x hQ=>by
  have e:(items.size:Int) - 1 - (items.size:Int)= -1:=by omega
  have hit:=x.2.1
  rw [e] at hit
  exact jX hh hit fun h' he'=>hQ h' s.toks fun b o hb eo=>he' b o (fun h=>hb (by simp [h])) eo
 self:=fun _ _ _ _ x hQ=>fI x.2.1 hQ
section
variable {prog:Program}{w:World}{A:Around}{E:Value->Shared->Prop}{s:Shared}
end
end PySem
namespace L2
open PySem PySem.Spec PyProof.Rows
section
variable {prog:Program}{w:World}{A:Around}{E:Value->Shared->Prop}{Q:Value->Shared->Prop}{s:Shared}{it p:Addr}{items:Array Value}
end
open PySem
theorem lay {H:Hp}{l:Addr}(h:H l=none) (o:HO):∃ H2,aM H l o=H2/\aU H H2/\H2 l=some o:=⟨_,rfl,aC h o,aD⟩
theorem sV:1<=sizeLine:=by decide
theorem dH:2<=sizeLine:=by decide
end L2
namespace Mine
open PySem L2
def gI (a b:Int):Int:=(Nat.gcd a.toNat b.toNat:Nat)
def bJ (a b:Int):Int:=a / gI a b
def bA (a b:Int):Int:=b / gI a b
theorem aI1 {a b:Int}(hb:1<=b):0 < gI a b:=by
 have:0 < Nat.gcd a.toNat b.toNat:=Nat.gcd_pos_of_pos_right _ (by omega);unfold gI;omega
theorem bS8 {a b c:Int}(ha:0<=a) (hb:0<=b) (hc:0<=c):gI (c * a) (c * b)=c * gI a b:=by
 obtain ⟨x,rfl⟩:=fu ha;obtain ⟨y,rfl⟩:=fu hb;obtain ⟨z,rfl⟩:=fu hc;unfold gI;rw [<- ko, <- ko,dz,dz,dz,dz,Nat.gcd_mul_left,ko]
theorem aM9 {a b c:Int}(ha:0<=a) (hb:1<=b) (hc:1<=c):bJ (c * a) (c * b)=bJ a b/\bA (c * a) (c * b)=bA a b:=by
 unfold bJ bA;rw [bS8 ha (by omega) (by omega),vj _ _ (by omega),vj _ _ (by omega)];exact ⟨rfl,rfl⟩
theorem oF {a b c d:Int}(ha:0<=a) (hb:1<=b) (hc:0<=c) (hd:1<=d) (h:a * d=c * b):bJ a b=bJ c d/\bA a b=bA c d:=by
 have e1:=aM9 ha hb hd;have e2:=aM9 hc hd hb;have q1:d * a=b * c:=by rw [ql d a,h,ql]
 have q2:d * b=b * d:=ql _ _;rw [q1,q2] at e1;exact ⟨e1.1.symm.trans e2.1,e1.2.symm.trans e2.2⟩
theorem bJ8 {a b:Int}(ha:0<=a):gI a b ∣ a:=by
 obtain ⟨x,rfl⟩:=fu ha;unfold gI;rw [dz];exact vk.mpr (Nat.gcd_dvd_left _ _)
theorem aK7 {a b:Int}(hb:0<=b):gI a b ∣ b:=by
 obtain ⟨x,rfl⟩:=fu hb;unfold gI;rw [dz];exact vk.mpr (Nat.gcd_dvd_right _ _)
theorem dM {a b:Int}(ha:0<=a) (hb:1<=b):bJ a b * b=a * bA a b:=by
 have h1:=qw (bJ8 (b:=b) ha);have h2:=qw (aK7 (a:=a) (b:=b) (by omega));unfold bJ bA;generalize a / gI a b=x at h1 ⊢;generalize b / gI a b=y at h2 ⊢;rw [<- h1, <- h2];generalize gI (x * gI a b) (y * gI a b)=g
 grind
theorem bL {a b:Int}(ha:0<=a):0<=bJ a b:=Int.ediv_nonneg ha (by unfold gI;omega)
theorem cB {a b:Int}(hb:1<=b):1<=bA a b:=by
 have h2:=qw (aK7 (a:=a) (b:=b) (by omega));have g:=aI1 (a:=a) hb;unfold bA;generalize b / gI a b=y at h2 ⊢
 by_cases z:0 < y
 ·omega
 ·have:=bz (show 0<= -y by omega) (je g);rw [Int.neg_mul] at this;omega
theorem qD {a b:Int}(ha:0<=a) (hb:1<=b):bJ a b<=a:=Int.ediv_le_self _ ha
theorem qA {a b:Int}(hb:1<=b):bA a b<=b:=Int.ediv_le_self _ (by omega)
def shN (p q:Int) (n:Nat):Int:=(q - p) * p ^ n
def gN (p q:Int) (n:Nat):Int:=(q+p) * q ^ n
def mI (p q:Int) (n:Nat):Int:=q * p ^ n
def tN (p q k:Int):Int:=if 0<=k then mI p q k.toNat else gN p q (1 - k).toNat - mI p q (1 - k).toNat
def tD (p q k:Int):Int:=if 0<=k then gN p q k.toNat else gN p q (1 - k).toNat
theorem nZ {p q:Int}(hp:0<=p) (h:p<=q):∀ n:Nat,p ^ n<=q ^ n
 |0=>by simp
 |n+1=>by
  rw [fm,fm];exact rg (nZ hp h n) h hp (lh (by omega))
theorem bC9 {p q:Int}(hp:1<=p) (h:p < q) (n:Nat):mI p q n<=gN p q n:=by
 unfold mI gN;have h1:=nZ (p:=p) (q:=q) (by omega) (by omega) n;have h2:0<=p ^ n:=lh (by omega);exact rg (by omega) h1 h2 (by omega)
theorem jS {p q:Int}(hp:1<=p) (h:p < q) (n:Nat):1<=gN p q n:=by
 have h1:0 < q ^ n:=ft (by omega);have:=df (show 0 < q+p by omega) h1;unfold gN;omega
theorem bR2 {p q:Int}(hp:1<=p) (h:p < q) (n:Nat):0<=mI p q n:=bz (by omega) (lh (by omega))
theorem cI9 {p q:Int}(hp:1<=p) (h:p < q) (n:Nat):0<=shN p q n:=bz (by omega) (lh (by omega))
theorem cF0 {p q:Int}(hp:1<=p) (h:p < q) (k:Int):0<=tN p q k:=by
 unfold tN;split
 ·exact bR2 hp h _
 ·have:=bC9 hp h (1 - k).toNat;omega
theorem aF4 {p q:Int}(hp:1<=p) (h:p < q) (k:Int):1<=tD p q k:=by
 unfold tD;split <;> exact jS hp h _
theorem bP0 {p q:Int}(hp:1<=p) (h:p < q) (k:Int):(shN p q k.natAbs * tD p q (k+1)+tN p q (k+1) * gN p q k.natAbs) * tD p q k=tN p q k * (gN p q k.natAbs * tD p q (k+1)):=by
 unfold tN tD
 by_cases c:0<=k
 ·obtain ⟨n,rfl⟩:=fu c;have e1:(0:Int)<=(n:Int)+1:=by omega
  have e2:((n:Int)+1).toNat=n+1:=by omega
  simp only [if_pos c,if_pos e1,e2,Int.natAbs_natCast,Int.toNat_natCast];unfold mI gN shN;rw [fm,fm];generalize p ^ n=x;generalize q ^ n=y
  grind
 ·obtain ⟨n,hn⟩:∃ n:Nat,k= -((n:Int)+1):=⟨(-k - 1).toNat,by omega⟩
  have e0:k.natAbs=n+1:=by omega
  have e1:(1 - k).toNat=n+2:=by omega
  rw [e0];simp only [if_neg c,e1]
  by_cases d:0<=k+1
  ·have e2:n=0:=by omega
   have e3:(k+1).toNat=0:=by omega
   subst e2;simp only [if_pos d,e3];unfold mI gN shN;simp only [Nat.zero_add,Int.pow_zero,Int.pow_one,Int.pow_succ]
   grind
  ·have e4:(1 - (k+1)).toNat=n+1:=by omega
   simp only [if_neg d,e4];unfold mI gN shN;rw [show n+2=n+1+1 from rfl,fm p (n+1),fm q (n+1)];generalize p ^ (n+1)=x;generalize q ^ (n+1)=y
   grind
theorem aI0 {a b:Int}(ha:a<=b) (hb:1<=b):bJ a b<=bA a b:=Int.ediv_le_ediv (aI1 hb) ha
theorem aW4 {x y:Int}(hx:0<=x) (hy:0 < y):gI y (x % y)=gI x y:=by
 obtain ⟨m,rfl⟩:=fu hx;obtain ⟨n,rfl⟩:=fu (je hy);unfold gI;rw [<- Int.natCast_emod,dz,dz,dz,Nat.gcd_comm m n,Nat.gcd_rec n m,Nat.gcd_comm]
theorem bM8 {x:Int}(hx:0<=x):gI x 0=x:=by
 unfold gI;simp;omega
theorem cH5 {a b:Int}(hb:1<=b):gI a b<=b:=by
 have:Nat.gcd a.toNat b.toNat<=b.toNat:=Nat.gcd_le_right _ (by omega);unfold gI;omega
theorem pN {a:Int}{n:Nat}(h0:0<=a) (h9:a<=9) (hn:n<=21):0<=a ^ n/\a ^ n < 2 ^ 67:=by
 refine ⟨lh h0,?_⟩;have h1:=nZ h0 h9 n;obtain ⟨m,hm⟩:∃ m,n+m=21:=⟨21 - n,by omega⟩
 have h2:(9:Int) ^ 21=9 ^ n * 9 ^ m:=by rw [<- hm,ox]
 have h3:(1:Int)<=9 ^ m:=by have:(0:Int) < 9 ^ m:=ft (by decide);omega
 have h4:(0:Int)<=9 ^ n:=lh (by decide);have h5:(9:Int) ^ n * 1<=9 ^ n * 9 ^ m:=ir h3 h4;have h6:(9:Int) ^ 21 < 2 ^ 67:=by decide
 omega
theorem eY {a b:Int}{m n:Nat}(a0:0<=a) (a1:a < 2 ^ m) (b0:0<=b) (b1:b < 2 ^ n):0<=a * b/\a * b < 2 ^ (m+n):=by
 refine ⟨bz a0 b0,?_⟩;rw [ox];have hp:(0:Int) < 2 ^ n:=ft (by decide);have h1:a * b<=a * 2 ^ n:=ir (je b1) a0;have h2:a * 2 ^ n < 2 ^ m * 2 ^ n:=Int.mul_lt_mul_of_pos_right a1 hp;omega
structure bP (p q:Int):Prop where
 p1:1<=p
 pq:p < q
 q9:q<=9
def aY (H:Hp) (p:Addr) (a b:Int):Prop:=H p=some (.tup [.int a,.int b])
theorem ix0 (a b:Int):mH [V.int a,V.int b] 0=some (.int a):=rfl
theorem zF (a b:Int):mH [V.int a,V.int b] 1=some (.int b):=rfl
def iS (a b:Int):List V:=[.int (bJ a b),.int (bA a b)]
def pW (a:Int):Prop:=0<=a/\a < 2 ^ 180
theorem pW.below {a:Int}(h:pW a):yY a:=⟨by have:=h.1;omega,by have:=h.2;omega⟩
theorem cK5 {p q:Int}(s:bP p q) {n:Nat}(hn:n<=21):pW (shN p q n)/\pW (gN p q n)/\pW (mI p q n):=by
 obtain ⟨h1,h2,h3⟩:=s;have e1:=pN (a:=p) (by omega) (by omega) hn;have e2:=pN (a:=q) (by omega) (by omega) hn;have q1:=eY (a:=q - p) (m:=5) (by omega) (by omega) e1.1 e1.2;have q2:=eY (a:=q+p) (m:=5) (by omega) (by omega) e2.1 e2.2;have q3:=eY (a:=q) (m:=5) (by omega) (by omega) e1.1 e1.2;have up:(2:Int) ^ (5+67) < 2 ^ 180:=by decide
 exact ⟨⟨q1.1,jy q1.2 up⟩,⟨q2.1,jy q2.2 up⟩,⟨q3.1,jy q3.2 up⟩⟩
theorem bB9 {a b:Int}(ha:pW a) (hb:pW b) (h1:1<=b):pW (bJ a b)/\pW (bA a b):=by
 have q1:=bL (b:=b) ha.1;have q2:=cB (a:=a) h1;have q3:=qD ha.1 h1;have q4:=qA (a:=a) h1;have:=ha.2;have:=hb.2;exact ⟨⟨q1,by omega⟩,⟨by omega,by omega⟩⟩
def spGcd:Sp:=fun vs H Q _=>∃ a b:Int,vs=[.int a,.int b]/\0<=a/\0<=b/\Q (.int (gI a b)) H
def aT0:Sp:=fun vs H Q _=>∃ a b:Int,vs=[.int a,.int b]/\0<=a/\1<=b/\b < 2 ^ 200 * 2 ^ 200/\∀ p,H p=none->Q (.ref p) (aM H p (.tup (iS a b)))
def pS:Sp:=fun vs H Q _=>∃ (p q:Addr) (a b c d:Int),vs=[.ref p,.ref q]/\aY H p a b/\aY H q c d/\pW a/\pW b/\pW c/\pW d/\1<=b/\1<=d/\∀ r,H r=none->Q (.ref r) (aM H r (.tup (iS (a * c) (b * d))))
def spMinus:Sp:=fun vs H Q _=>∃ (p q:Addr) (a b c d:Int),vs=[.ref p,.ref q]/\aY H p a b/\aY H q c d/\pW a/\pW b/\pW c/\pW d/\1<=b/\1<=d/\c * b<=a * d/\∀ r,H r=none->Q (.ref r) (aM H r (.tup (iS (a * d - c * b) (b * d))))
def spPow:Sp:=fun vs H Q _=>∃ (p:Addr) (a b k:Int),vs=[.ref p,.int k]/\aY H p a b/\0<=a/\a<=9/\0<=b/\b<=9/\0<=k/\k<=21/\∀ r,H r=none->Q (.ref r) (aM H r (.tup [.int (a ^ k.toNat),.int (b ^ k.toNat)]))
def aC3 (lo hi:Int) (f g:Int->Int->Int->Int):Sp:=fun vs H Q _=>∃ (st:Addr) (p q k:Int),vs=[.ref st,.int k]/\aY H st p q/\bP p q/\lo<=k/\k<=hi /\
 ∀ H' r,aU H H'->aY H' r (bJ (f p q k) (g p q k)) (bA (f p q k) (g p q k))->Q (.ref r) H'
def aK4 (K:W.Frag):Sp:=fun vs H Q _=>∃ (a:Addr) (ns:List Int),vs=[.ref a]/\bM K H a (ns.map V.int)/\ns.length<=63/\∀ H',Q (.bl true) H'
def mQ (n lo hi:Int):Int:=if hi < (if lo > n then lo else n) then hi else (if lo > n then lo else n)
theorem bG0 {n lo hi:Int}(h:lo<=hi):lo<=mQ n lo hi/\mQ n lo hi<=hi:=by
 unfold mQ
 split <;> split <;> omega
def dO {α: Type}(R:V->α->Prop):List V->List α->Prop
 |[],[]=>True
 |v :: vs,a :: as=>R v a/\dO R vs as
 |_,_=>False
theorem dO.mono {α: Type}{R R':V->α->Prop}(h:∀ v a,R v a->R' v a):∀ {vs:List V}{as:List α},dO R vs as->dO R' vs as
 |[],[],_=>trivial
 |_ :: _,_ :: _,⟨e,r⟩=>⟨h _ _ e,dO.mono h r⟩
 |[],_ :: _,z=>z.elim
 |_ :: _,[],z=>z.elim
theorem dO.append {α: Type}{R:V->α->Prop}:∀ {vs ws:List V}{as bs:List α},dO R vs as->dO R ws bs->dO R (vs++ws) (as++bs)
 |[],_,[],_,_,r=>r
 |_ :: _,_,_ :: _,_,⟨e,r⟩,r2=>⟨e,dO.append r r2⟩
 |[],_,_ :: _,_,z,_=>z.elim
 |_ :: _,_,[],_,z,_=>z.elim
theorem dO.length {α: Type}{R:V->α->Prop}:∀ {vs:List V}{as:List α},dO R vs as->vs.length=as.length
 |[],[],_=>rfl
 |_ :: _,_ :: _,⟨_,r⟩=>by simp [dO.length r]
 |[],_ :: _,z=>z.elim
 |_ :: _,[],z=>z.elim
theorem dO.rep {α: Type}{R:V->α->Prop}{K:W.Frag}{H:Hp}{f:α->PyData}(h:∀ v a,R v a->nW K H (f a) v):∀ {vs:List V}{as:List α},dO R vs as->sI K H (as.map f) vs
 |[],[],_=>rfl
 |_ :: _,_ :: _,⟨e,r⟩=>⟨_,_,rfl,h _ _ e,dO.rep h r⟩
 |[],_ :: _,z=>z.elim
 |_ :: _,[],z=>z.elim
def TS (H H':Hp):Prop:=∀ a xs,H a=some (.tup xs)->H' a=some (.tup xs)
theorem TS.of {H H':Hp}(s:aU H H'):TS H H':=fun _ _ e=>s _ _ e
theorem TS.trans {H H1 H2:Hp}(a:TS H H1) (b:TS H1 H2):TS H H2:=fun c o h=>b c o (a c o h)
theorem TS.lst {H:Hp}{l:Addr}{xs ys:List V}(h:H l=some (.lst xs)):TS H (aM H l (.lst ys)):=fun a o e=>by
 rw [aG (fW e h (by intro z;cases z))];exact e
theorem dF {H H1:Hp}{l:Addr}{ys:List V}(s:aU H H1) (h:H l=none):aU H (aM H1 l (.lst ys)):=fun b o e=>by
 rw [aG (aN e h)];exact s b o e
theorem cH {α: Type}{l:List α}{i:Nat}{x:α}(h:l[i]?=some x):l.take (i+1)=l.take i++[x]:=by
 rw [List.take_succ,h];rfl
def nO (H:Hp) (v:V) (e:Int×Int×Int):Prop:=∃ p q,v= .ref p/\H p=some (.tup [.int e.1,.ref q])/\aY H q e.2.1 e.2.2
theorem nO.ts {H H':Hp}{v:V}{e:Int×Int×Int}(t:TS H H') (h:nO H v e):nO H' v e:=by obtain ⟨p,q,a,b,c⟩:=h;exact ⟨p,q,a,t _ _ b,t _ _ c⟩
theorem eW {H H':Hp}{vs:List V}{es:List (Int×Int×Int)}(t:TS H H') (h:dO (nO H) vs es):dO (nO H') vs es:=h.mono fun _ _ z=>z.ts t
def eN (p q lo hi n y:Int):Int:=if y=lo\/y=hi then mI p q (y - n).natAbs else shN p q (y - n).natAbs
def eD (p q n y:Int):Int:=gN p q (y - n).natAbs
def ent (p q lo hi n y:Int):Int×Int×Int:=(y,bJ (eN p q lo hi n y) (eD p q n y),bA (eN p q lo hi n y) (eD p q n y))
def lY (p q lo hi n:Int):List (Int×Int×Int):=if lo=hi then [(lo,1,1)] else (aQ lo (hi+1 - lo).toNat).map (ent p q lo hi n)
theorem fQ (lo:Int):∀ n:Nat,aQ lo (n+1)=lo :: aQ (lo+1) n
 |0=>by simp [aQ]
 |n+1=>by
  rw [bZ,fQ lo n,bZ];simp;omega
theorem xY {lo hi:Int}(h:lo < hi):aQ lo (hi+1 - lo).toNat=[lo]++aQ (lo+1) (hi - (lo+1)).toNat++[hi]:=by
 obtain ⟨m,hm⟩:∃ m:Nat,hi=lo+1+m:=⟨(hi - lo - 1).toNat,by omega⟩
 subst hm;have e1:(lo+1+(m:Int)+1 - lo).toNat=m+1+1:=by omega
 have e2:(lo+1+(m:Int) - (lo+1)).toNat=m:=by omega
 rw [e1,e2,bZ,fQ];simp;omega
def cZ (p q lo hi n y:Int):Int:=p ^ (y - n).natAbs * q ^ (hi - lo - ((y - n).natAbs:Int)).toNat * (if y=lo\/y=hi then q else q - p)
def cI (p q lo hi n:Int):List Int:=if lo=hi then [1] else (aQ lo (hi+1 - lo).toNat).map (cZ p q lo hi n)
def dS (p q lo hi:Int):Int:=if lo=hi then 1 else gN p q (hi - lo).toNat
def kF (b:Int):Int->List Int->List (Int×Int×Int)
 |_,[]=>[]
 |f,s :: r=>(f,bJ s b,bA s b) :: kF b (f+1) r
theorem oG (b:Int):∀ (f:Int) (l:List Int) (s:Int),kF b f (l++[s])=kF b f l++[(f+l.length,bJ s b,bA s b)]
 |f,[],s=>by simp [kF]
 |f,a :: r,s=>by
  simp only [List.cons_append,kF,oG b (f+1) r s,List.length_cons];have e:f+1+(r.length:Int)=f+((r.length+1:Nat):Int):=by omega
  rw [e]
theorem sT (b:Int) (g:Int->Int) (lo:Int):∀ m:Nat,kF b lo ((aQ lo m).map g)=(aQ lo m).map fun y=>(y,bJ (g y) b,bA (g y) b)
 |0=>rfl
 |m+1=>by
  rw [bZ,aq,aq];show kF b lo (_++[g (lo+m)])=_;rw [oG,sT b g lo m,ac,bO];rfl
theorem cK4 {p q lo hi n y:Int}(s:bP p q):0<=eN p q lo hi n y:=by
 unfold eN;split
 ·exact bR2 s.p1 s.pq _
 ·exact cI9 s.p1 s.pq _
theorem xJ {p q lo hi n y:Int}(s:bP p q):1<=cZ p q lo hi n y:=by
 unfold cZ;have h1:(0:Int) < p ^ (y - n).natAbs:=ft (by have:=s.p1;omega);have h2:(0:Int) < q ^ (hi - lo - ((y - n).natAbs:Int)).toNat:=ft (by have:=s.p1;have:=s.pq;omega);have h3:(0:Int) < (if y=lo\/y=hi then q else q - p):=by have:=s.p1;have:=s.pq;split <;> omega
 have:=df (df h1 h2) h3;omega
theorem aL2 {lo hi n y:Int}(h1:lo<=n) (h2:n<=hi) (h3:lo<=y) (h4:y<=hi):(hi - lo).toNat=(hi - lo - ((y - n).natAbs:Int)).toNat+(y - n).natAbs:=by omega
theorem bI7 {p q lo hi n y:Int}(s:bP p q) (h1:lo<=n) (h2:n<=hi) (h3:lo<=y) (h4:y<=hi) :
  bJ (cZ p q lo hi n y) (gN p q (hi - lo).toNat)=bJ (eN p q lo hi n y) (eD p q n y)/\bA (cZ p q lo hi n y) (gN p q (hi - lo).toNat)=bA (eN p q lo hi n y) (eD p q n y):=by
 have q1:=xJ (lo:=lo) (hi:=hi) (n:=n) (y:=y) s;refine oF (by omega) (jS s.p1 s.pq _) (cK4 s) (jS s.p1 s.pq _) ?_;obtain ⟨f,hf⟩:∃ f:Nat,(y - n).natAbs=f:=⟨_,rfl⟩
 obtain ⟨g,hg⟩:∃ g:Nat,(hi - lo - (f:Int)).toNat=g:=⟨_,rfl⟩
 have hw:(hi - lo).toNat=f+g:=by rw [aL2 h1 h2 h3 h4,hf,hg,Nat.add_comm]
 unfold cZ eN eD gN mI shN;rw [hf,hg,hw,ox];generalize p ^ f=a;generalize q ^ f=b;generalize q ^ g=c
 split <;> grind
theorem tR {p q lo hi n:Int}(s:bP p q) (h1:lo<=n) (h2:n<=hi):kF (dS p q lo hi) lo (cI p q lo hi n)=lY p q lo hi n:=by
 unfold dS cI lY
 by_cases c:lo=hi
 ·simp only [if_pos c];have e1:bJ 1 1=1:=by decide
  have e2:bA 1 1=1:=by decide
  simp only [kF,e1,e2]
 ·simp only [if_neg c];rw [sT];refine eh fun y hy=>?_
  obtain ⟨y1,y2⟩:=eJ.mp hy;have e:=bI7 s h1 h2 y1 (by omega);unfold ent;rw [e.1,e.2]
def hV (xs ys:List Int):Int:=(List.zipWith (· * ·) xs ys).sum
def cR (H:Hp) (a:Addr) (ns:List Int):Prop:=H a=some (.tup (ns.map V.int))
structure Wts (ws cs:List Int):Prop where
 len:ws.length=cs.length
 few:ws.length<=3
 wt:∀ x∈ws,0<=x/\x<=3
structure fH (lo hi:Int):Prop where
 a:0<=lo
 b:lo<=hi
 c:hi<=9
def spCut:Sp:=fun vs H Q _=>∃ n lo hi:Int,vs=[.int n,.int lo,.int hi]/\Q (.int (mQ n lo hi)) H
def spUp:Sp:=fun vs H Q _=>∃ a b ws cs,vs=[.ref a,.ref b]/\cR H a ws/\cR H b cs/\Wts ws cs/\∀ H',aU H H'->Q (.int (hV ws cs)) H'
def spLad:Sp:=fun vs H Q _=>∃ st p q n lo hi,vs=[.int n,.ref st,.int lo,.int hi]/\aY H st p q/\bP p q/\fH lo hi/\lo<=n/\n<=hi/\∀ H' t us,aU H H'->H' t=some (.tup us)->dO (nO H') us (lY p q lo hi n)->Q (.ref t) H'
theorem cC6 {z:Str}{r:Int}(h0:0<=r) (h1:r < (z.length:Int)):∃ c,mH z.cps.toList r=some c:=by
 have hk:r.toNat < z.cps.toList.length:=by
  rw [fw];exact (Int.toNat_lt h0).mpr h1
 have e2:((r.toNat:Nat):Int)=r:=yn h0;have q:mH z.cps.toList ((r.toNat:Nat):Int)=some z.cps.toList[r.toNat]:=wB (bw hk);rw [e2] at q;exact ⟨_,q⟩
theorem zW:∀ {zs:List Str},(∀ z∈zs,z.length=1)->(zs.map (·.length)).sum=zs.length
 |[],_=>rfl
 |z :: r,h=>by
  have h1:=h z ah;have h2:=zW fun y hy=>h y (ae z hy)
  simp only [List.map_cons,List.sum_cons,List.length_cons,h1,h2];omega
theorem rS (sep:Str):∀ (ys:List Str) (a:Array Nat),(ys.foldl (fun acc p=>acc++sep.cps++p.cps) a).size=a.size+(ys.map (·.length)).sum+ys.length * sep.length
 |[],a=>by simp
 |y :: r,a=>by
  rw [kj,rS sep r];simp only [Array.size_append,List.map_cons,List.sum_cons,List.length_cons,Nat.add_mul,Nat.one_mul];have e1:sep.cps.size=sep.length:=rfl;have e2:y.cps.size=y.length:=rfl;omega
theorem aS5 (sep:Str) (ys:List Str):(Txt.join sep ys).length<=(ys.map (·.length)).sum+ys.length * sep.length:=by
 cases ys with
 |nil=>exact bj _
 |cons y r =>
  show (List.foldl (fun acc p=>acc++sep.cps++p.cps) y.cps r).size<=_;rw [rS];simp only [List.map_cons,List.sum_cons,List.length_cons,Nat.add_mul,Nat.one_mul];have e2:y.cps.size=y.length:=rfl;omega
theorem gL {p q lo hi n:Int}(s:bP p q):∀ z∈cI p q lo hi n,1<=z:=by
 unfold cI;intro z hz
 split at hz
 ·have e:z=1:=by simpa using hz
  omega
 ·obtain ⟨y,_,rfl⟩:=cm.mp hz;exact xJ s
def iW (u:Int×Int):Prop:=pW u.1/\pW u.2/\1<=u.2
def eF (u e:Int×Int):Int×Int:=(bJ (u.1 * e.2+e.1 * u.2) (u.2 * e.2),bA (u.1 * e.2+e.1 * u.2) (u.2 * e.2))
def jW (T:Int->Option (Int×Int)) (e:Int×Int×Int):Int->Option (Int×Int):=fun k=>if k=e.1 then some (eF ((T k).getD (0,1)) e.2) else T k
def mM (es:List (Int×Int×Int)):Int->Option (Int×Int):=es.foldl jW (fun _=>none)
def aG9:(Int->Option (Int×Int))->List (Int×Int×Int)->Prop
 |_,[]=>True
 |T,e :: r=>iW ((T e.1).getD (0,1))/\iW e.2/\aG9 (jW T e) r
theorem vY:∀ {es:List (Int×Int×Int)}{T:Int->Option (Int×Int)}{i:Nat}{e:Int×Int×Int},aG9 T es->es[i]?=some e->iW ((((es.take i).foldl jW T) e.1).getD (0,1))/\iW e.2
 |[],_,_,_,_,h=>by simp at h
 |a :: r,T,0,e,⟨s1,s2,_⟩,h=>by
  have q:a=e:=by simpa using h
  subst q;exact ⟨s1,s2⟩
 |a :: r,T,i+1,e,⟨_,_,s3⟩,h=>by
  have:=vY (i:=i) s3 (by simpa using h)
  simpa using this
theorem uQ:∀ {l:List Int},l.Pairwise (· <= ·)->l.Nodup->l.Pairwise (· < ·)
 |[],_,_=>uf
 |a :: r,h,n=>by
  obtain ⟨h1,h2⟩:=nc.mp h;obtain ⟨n1,n2⟩:=ji.mp n;refine nc.mpr ⟨fun b hb=>?_,uQ h2 n2⟩;have:=h1 b hb;have:a≠b:=fun z=>n1 (by rw [z];exact hb)
  omega
def pG (T:Int->Option (Int×Int)) (ks:List Int):List (Int×Int×Int):=ks.map fun k=>(k,(T k).getD (0,1))
theorem rK:∀ {l m:List Int},l.Pairwise (· < ·)->m.Pairwise (· < ·)->(∀ x,x∈l↔x∈m)->l=m
 |[],[],_,_,_=>rfl
 |[],b :: m,_,_,h=>absurd ((h b).mpr ah) (by simp)
 |a :: l,[],_,_,h=>absurd ((h a).mp ah) (by simp)
 |a :: l,b :: m,p,q,h=>by
  obtain ⟨p1,p2⟩:=nc.mp p;obtain ⟨q1,q2⟩:=nc.mp q;have e:a=b:=by
   rcases av.mp ((h a).mp ah) with z | z
   ·exact z
   ·rcases av.mp ((h b).mpr ah) with w | w
    ·exact w.symm
    ·have:=q1 a z;have:=p1 b w;omega
  subst e;have e2:l=m:=rK p2 q2 fun x=>by
   constructor
   ·intro hx;rcases av.mp ((h x).mp (ae _ hx)) with z | z
    ·have:=p1 x hx;omega
    ·exact z
   ·intro hx;rcases av.mp ((h x).mpr (ae _ hx)) with z | z
    ·have:=q1 x hx;omega
    ·exact z
  rw [e2]
def bR9:Sp:=fun vs H Q _=>∃ (p q:Addr) (u e:Int×Int),vs=[.ref p,.ref q]/\aY H p u.1 u.2/\aY H q e.1 e.2/\iW u/\iW e/\∀ r,H r=none->Q (.ref r) (aM H r (.tup [.int (eF u e).1,.int (eF u e).2]))
def qR:Sp:=fun vs H Q _=>∃ l us es,vs=[.ref l]/\H l=some (.lst us)/\dO (nO H) us es/\es.length < 60/\aG9 (fun _=>none) es /\
 ∀ H' t ws ks,aU H H'->H' t=some (.tup ws)->ks.Pairwise (· < ·)->(∀ k,k∈ks↔∃ u,mM es k=some u/\u≠(0,1))->dO (nO H') ws (pG (mM es) ks)->Q (.ref t) H'
def oI:(Int->Int)->List Int->Int->Int
 |c,[]=>c
 |c,k :: r=>oI (fun z=>if z=k then c z+1 else c z) r
theorem zH:∀ (c:Int->Int) (ks:List Int) (y:Int),y∉ks->oI c ks y=c y
 |c,[],y,_=>rfl
 |c,a :: r,y,h=>by
  have h1:¬ y=a:=fun z=>h (by rw [z];exact ah)
  show oI (fun z=>if z=a then c z+1 else c z) r y=c y;rw [zH _ r y fun z=>h (ae _ z)];exact aj h1
theorem aL9:∀ (c:Int->Int) (ks:List Int) (b:Int),(∀ y,0<=c y/\c y<=b)->∀ y,0<=oI c ks y/\oI c ks y<=b+ks.length
 |c,[],b,h,y=>by simpa [oI] using h y
 |c,a :: r,b,h,y=>by
  have:=aL9 (fun z=>if z=a then c z+1 else c z) r (b+1) (fun z=>by have:=h z;split <;> omega) y;simp only [List.length_cons];have e:oI c (a :: r) y=oI (fun z=>if z=a then c z+1 else c z) r y:=rfl;rw [e];omega
def lO (m n:Int):Option (Int×Int):=if n=0 then none else some (bJ n m,bA n m)
theorem vB {m:Int}(hm:1<=m) {T:Int->Option (Int×Int)}{c:Int->Int}(hc:∀ y,0<=c y) (h:∀ y,T y=lO m (c y)) (k:Int):∀ y,jW T (k,1,m) y=lO m (if y=k then c y+1 else c y):=by
 intro y;unfold jW
 by_cases e:y=k
 ·rw [ao e,ao e,h y];have c0:=hc y;unfold lO;rw [aj (show ¬ c y+1=0 by omega)]
  by_cases z:c y=0
  ·rw [ao z,z];show some (eF (0,1) (1,m))=_;unfold eF;simp
  ·rw [aj z];show some (eF (bJ (c y) m,bA (c y) m) (1,m))=_;have r:=dM c0 hm;have n1:=bL (b:=m) c0;have n2:=cB (a:=c y) hm;have q1:0<=bJ (c y) m * m:=bz n1 (by (first | exact bn (b:=1) (by decide +kernel) (by with_reducible assumption) | omega));have q2:0 < bA (c y) m * m:=df (by (first | exact ar (b:=1) (by decide +kernel) (by with_reducible assumption) | omega)) (by (first | exact ar (b:=1) (by decide +kernel) (by with_reducible assumption) | omega));have e1:=oF (a:=bJ (c y) m * m+1 * bA (c y) m) (b:=bA (c y) m * m) (c:=c y+1) (d:=m) (by omega) (by (first | exact cj (a:=0) (by with_reducible assumption) | omega)) (by omega) hm (by
    generalize bJ (c y) m=a at r ⊢;generalize bA (c y) m=b at r ⊢
    grind)
   unfold eF;rw [e1.1,e1.2]
 ·rw [aj e,aj e,h y]
theorem yA {m:Int}(hm:1<=m):∀ (ks:List Int) (T:Int->Option (Int×Int)) (c:Int->Int),(∀ y,0<=c y)->(∀ y,T y=lO m (c y))->∀ y,((ks.map fun k=>((k,1,m):Int×Int×Int)).foldl jW T) y=lO m (oI c ks y)
 |[],T,c,_,h,y=>h y
 |k :: r,T,c,hc,h,y=>by
  simp only [List.map_cons,List.foldl_cons];exact yA hm r _ _ (fun z=>by have:=hc z;split <;> omega) (vB hm hc h k) y
theorem uS {m:Int}(hm:1<=m) (h9:m<=9):∀ (ks:List Int) (T:Int->Option (Int×Int)) (c:Int->Int) (b:Int),(∀ y,0<=c y/\c y<=b)->b+ks.length<=1000->(∀ y,T y=lO m (c y))->aG9 T (ks.map fun k=>(k,1,m))
 |[],_,_,_,_,_,_=>trivial
 |k :: r,T,c,b,hc,hb,h=>by
  simp only [List.length_cons] at hb;refine ⟨?_,⟨⟨by show (0:Int)<=1;decide,by show (1:Int) < 2 ^ 180;decide⟩,⟨by show 0<=m;(first | exact bn (b:=1) (by decide +kernel) (by with_reducible assumption) | omega),by show m < 2 ^ 180;(first | exact ik (by with_reducible assumption) (by decide +kernel) | omega)⟩,hm⟩,uS hm h9 r _ _ (b+1) (fun z=>by have:=hc z;split <;> omega) (by omega) (vB hm (fun y=>(hc y).1) h k)⟩;have ck:=hc k;show iW ((T k).getD (0,1));rw [h k];unfold lO
  split
  ·exact ⟨⟨by decide,by decide⟩,⟨by decide,by decide⟩,by decide⟩
  ·have l1:=bL (b:=m) ck.1;have l2:=qD ck.1 hm;have l3:=cB (a:=c k) hm;have l4:=qA (a:=c k) hm;exact ⟨⟨l1,by show bJ (c k) m < 2 ^ 180;omega⟩,⟨by show 0<=bA (c k) m;(first | exact bn (b:=1) (by decide +kernel) (by with_reducible assumption) | omega),by show bA (c k) m < 2 ^ 180;omega⟩,l3⟩
def iJ (b:Int):Int->List Int->List (Int×Int×Int)
 |_,[]=>[]
 |f,s :: r=>if 0 < s then (f,bJ s b,bA s b) :: iJ b (f+1) r else iJ b (f+1) r
theorem vF (b:Int):∀ (f:Int) (l:List Int) (s:Int),iJ b f (l++[s])=iJ b f l++(if 0 < s then [(f+l.length,bJ s b,bA s b)] else [])
 |f,[],s=>by simp [iJ]
 |f,a :: r,s=>by
  have e:f+1+(r.length:Int)=f+((r.length+1:Nat):Int):=by omega
  simp only [List.cons_append,iJ,vF b (f+1) r s,List.length_cons,e]
  split <;> simp
theorem yL (b:Int):∀ (f:Int) (l:List Int),(iJ b f l).length<=l.length
 |_,[]=>ai _
 |f,a :: r=>by
  have:=yL b (f+1) r;unfold iJ
  split <;> simp <;> (first | with_reducible assumption | omega)
theorem sQ (b:Int) (g:Int->Int) (lo:Int):∀ m:Nat,iJ b lo ((aQ lo m).map g)=((aQ lo m).filter fun y=>decide (0 < g y)).map fun y=>(y,bJ (g y) b,bA (g y) b)
 |0=>rfl
 |m+1=>by
  rw [bZ,aq,sv,aq];show iJ b lo (_++[g (lo+m)])=_;rw [vF,sQ b g lo m,ac,bO]
  by_cases c:0 < g (lo+m) <;> simp [c]
theorem rM (b:Int):∀ (f:Int) (l:List Int),(∀ s∈l,1<=s)->iJ b f l=kF b f l
 |_,[],_=>rfl
 |f,a :: r,h=>by
  have:=h a ah;unfold iJ kF;rw [ao (by (first | exact ar (b:=1) (by decide +kernel) (by with_reducible assumption) | omega)),rM b (f+1) r fun s hs=>h s (ae _ hs)]
theorem jN (lo:Int):∀ m:Nat,(aQ lo m).Pairwise (· < ·)
 |0=>uf
 |m+1=>by
  rw [bZ];refine List.pairwise_append.mpr ⟨jN lo m,List.pairwise_singleton _ _,fun a ha b hb=>?_⟩;have:=eJ.mp ha;have e:b=lo+m:=by simpa using hb
  omega
def iE (n r lo hi:Int):List Int:=(aQ (-r) (r+1 - -r).toNat).map fun u=>mQ (n+u) lo hi
def gE (n r lo hi:Int):Int->Int:=oI (fun _=>0) (iE n r lo hi)
def xM (n r lo hi:Int):List (Int×Int×Int):=iJ (2 * r+1) lo ((aQ lo (hi+1 - lo).toNat).map (gE n r lo hi))
theorem aF8 {n r lo hi:Int}(h:lo<=hi) (r0:0<=r) {ks:List Int}(hk:ks.Pairwise (· < ·)) (hm:∀ k,k∈ks↔∃ u,mM ((iE n r lo hi).map fun k=>(k,1,2 * r+1)) k=some u/\u≠(0,1)) :
  pG (mM ((iE n r lo hi).map fun k=>(k,1,2 * r+1))) ks=xM n r lo hi:=by
 have tt:∀ y,mM ((iE n r lo hi).map fun k=>(k,1,2 * r+1)) y=lO (2 * r+1) (gE n r lo hi y):=fun y =>
  yA (m:=2 * r+1) (by omega) (iE n r lo hi) (fun _=>none) (fun _=>0) (fun _=>cu _) (fun _=>rfl) y
 have c0:∀ y,0<=gE n r lo hi y:=fun y=>(aL9 (fun _=>0) (iE n r lo hi) 0 (fun _=>⟨cu _,cu _⟩) y).1
 have ek:ks=(aQ lo (hi+1 - lo).toNat).filter fun y=>decide (0 < gE n r lo hi y):=by
  refine rK hk ((jN lo _).sublist ml) fun k=>?_
  rw [hm k,tt k,du,eJ,oo];unfold lO
  by_cases z:gE n r lo hi k=0
  ·rw [ao z]
   constructor
   ·rintro ⟨u,e,_⟩;cases e
   ·rintro ⟨_,q⟩;omega
  ·rw [aj z];have:=c0 k
   constructor
   ·intro _;have mem:k∈iE n r lo hi:=by
     by_cases q:k∈iE n r lo hi
     ·exact q
     ·exact absurd (zH (fun _=>0) _ k q) z
    obtain ⟨u,_,rfl⟩:=cm.mp mem;have:=bG0 (n:=n+u) h;refine ⟨⟨this.1,?_⟩,by omega⟩;omega
   ·intro _;refine ⟨_,rfl,fun q=>?_⟩;have q1:bJ (gE n r lo hi k) (2 * r+1)=0:=gv Prod.fst q;have rt:=dM (a:=gE n r lo hi k) (b:=2 * r+1) (by (first | with_reducible assumption | omega)) (by omega);rw [q1,li] at rt;have p:=cB (a:=gE n r lo hi k) (b:=2 * r+1) (by omega);have:=df (show 0 < gE n r lo hi k by omega) (show 0 < bA (gE n r lo hi k) (2 * r+1) by (first | exact ar (b:=1) (by decide +kernel) (by with_reducible assumption) | omega));omega
 unfold xM pG;rw [sQ,ek];refine eh fun y hy=>?_
 have hy2:0 < gE n r lo hi y:=by
  have:=(du.mp hy).2;exact ba this
 rw [tt y];unfold lO;rw [aj (by (first | exact zf (by with_reducible assumption) | omega))];rfl
def gC (p q n:Int):Int:=q ^ n.toNat * p ^ (9 - n).toNat
def wC (p q n:Int):Int×Int:=(q ^ n.toNat,p ^ n.toNat)
def eQ (p q:Int) (ns:List Int):Int:=(ns.map (gC p q)).sum
theorem lL {p q n:Int}(s:bP p q) (h0:0<=n) (h9:n<=9):1<=gC p q n/\gC p q n < 2 ^ 66:=by
 obtain ⟨p1,pq,q9⟩:=s;have e1:(1:Int)<=q ^ n.toNat:=by have:(0:Int) < q ^ n.toNat:=ft (by omega);(first | exact cj (a:=0) (by with_reducible assumption) | omega)
 have e2:(1:Int)<=p ^ (9 - n).toNat:=by have:(0:Int) < p ^ (9 - n).toNat:=ft (by (first | exact ar (b:=1) (by decide +kernel) (by with_reducible assumption) | omega));(first | exact cj (a:=0) (by with_reducible assumption) | omega)
 have hq:=nZ (p:=q) (q:=9) (by omega) q9 n.toNat;have hp:=nZ (p:=p) (q:=9) (by (first | exact bn (b:=1) (by decide +kernel) (by with_reducible assumption) | omega)) (by omega) (9 - n).toNat;have m9:∀ j:Nat,j<=9->(9:Int) ^ j < 2 ^ 33:=fun j hj=>by
  have:j=0\/j=1\/j=2\/j=3\/j=4\/j=5\/j=6\/j=7\/j=8\/j=9:=by omega
  rcases this with rfl | rfl | rfl | rfl | rfl | rfl | rfl | rfl | rfl | rfl <;> decide
 have b1:=m9 n.toNat (by omega);have b2:=m9 (9 - n).toNat (by omega);have m:=eY (a:=q ^ n.toNat) (b:=p ^ (9 - n).toNat) (m:=33) (n:=33) (by (first | exact bn (b:=1) (by decide +kernel) (by with_reducible assumption) | omega)) (by omega) (by (first | exact bn (b:=1) (by decide +kernel) (by with_reducible assumption) | omega)) (by omega);have p0:=df (show 0 < q ^ n.toNat by (first | exact ar (b:=1) (by decide +kernel) (by with_reducible assumption) | omega)) (show 0 < p ^ (9 - n).toNat by (first | exact ar (b:=1) (by decide +kernel) (by with_reducible assumption) | omega));unfold gC;exact ⟨by (first | exact cj (a:=0) (by with_reducible assumption) | omega),m.2⟩
theorem uD {p n:Int}(h0:0<=n) (h9:n<=9):p ^ 9=p ^ n.toNat * p ^ (9 - n).toNat:=by
 rw [<- ox]
 congr 1
 omega
theorem aL3 {p q n:Int}(s:bP p q) (h0:0<=n) (h9:n<=9):iW (wC p q n):=by
 obtain ⟨p1,pq,q9⟩:=s;have a:=pN (a:=q) (n:=n.toNat) (by omega) (by (first | with_reducible assumption | omega)) (by omega);have b:=pN (a:=p) (n:=n.toNat) (by (first | exact bn (b:=1) (by decide +kernel) (by with_reducible assumption) | omega)) (by omega) (by omega);have e2:(1:Int)<=p ^ n.toNat:=by have:(0:Int) < p ^ n.toNat:=ft (by (first | exact ar (b:=1) (by decide +kernel) (by with_reducible assumption) | omega));(first | exact cj (a:=0) (by with_reducible assumption) | omega)
 exact ⟨⟨a.1,by show q ^ n.toNat < 2 ^ 180;omega⟩,⟨b.1,by show p ^ n.toNat < 2 ^ 180;omega⟩,e2⟩
theorem vE {p q S n:Int}(s:bP p q) (hS:0<=S) (h0:0<=n) (h9:n<=9):eF (bJ S (p ^ 9),bA S (p ^ 9)) (wC p q n)=(bJ (S+gC p q n) (p ^ 9),bA (S+gC p q n) (p ^ 9)):=by
 have hP:1<=p ^ 9:=by have:(0:Int) < p ^ 9:=ft (by have:=s.p1;(first | exact ar (b:=1) (by decide +kernel) (by with_reducible assumption) | omega));(first | exact cj (a:=0) (by with_reducible assumption) | omega)
 have r:=dM hS hP;have n1:=bL (b:=p ^ 9) hS;have n2:=cB (a:=S) hP;have fr:=aL3 s h0 h9;have g:=(lL s h0 h9).1;have q1:=bz n1 (show 0<=(wC p q n).2 by have:=fr.2.2;(first | exact bn (b:=1) (by decide +kernel) (by with_reducible assumption) | omega));have q2:=bz fr.1.1 (show 0<=bA S (p ^ 9) by (first | exact bn (b:=1) (by decide +kernel) (by with_reducible assumption) | omega));have q3:=df (show 0 < bA S (p ^ 9) by (first | exact ar (b:=1) (by decide +kernel) (by with_reducible assumption) | omega)) (show 0 < (wC p q n).2 by have:=fr.2.2;(first | exact ar (b:=1) (by decide +kernel) (by with_reducible assumption) | omega));have e:=oF (a:=bJ S (p ^ 9) * (wC p q n).2+(wC p q n).1 * bA S (p ^ 9)) (b:=bA S (p ^ 9) * (wC p q n).2) (c:=S+gC p q n) (d:=p ^ 9) (by omega) (by (first | exact cj (a:=0) (by with_reducible assumption) | omega)) (by omega) hP (by
  have sp:=uD (p:=p) h0 h9;generalize bJ S (p ^ 9)=x at r ⊢;generalize bA S (p ^ 9)=y at r ⊢;unfold wC gC
  dsimp only
  generalize p ^ 9=P at r sp ⊢;generalize q ^ n.toNat=a;generalize p ^ n.toNat=b at sp ⊢;generalize p ^ (9 - n).toNat=c at sp ⊢
  grind)
 unfold eF;rw [e.1,e.2]
theorem xZ {p q:Int}(s:bP p q):∀ (ns:List Int) (S:Int),0<=S->(∀ n∈ns,0<=n/\n<=9)->(ns.map (wC p q)).foldl eF (bJ S (p ^ 9),bA S (p ^ 9))=(bJ (S+eQ p q ns) (p ^ 9),bA (S+eQ p q ns) (p ^ 9))
 |[],S,_,_=>by simp [eQ]
 |n :: r,S,hS,h=>by
  have hn:=h n ah;have g:=(lL s hn.1 hn.2).1;simp only [List.map_cons,List.foldl_cons];rw [vE s hS hn.1 hn.2,xZ s r _ (by omega) fun m hm=>h m (ae _ hm)];have e:S+gC p q n+eQ p q r=S+eQ p q (n :: r):=by simp [eQ];omega
  rw [e]
theorem vO {p:Int}(h:1<=p):((0,1):Int×Int)=(bJ 0 (p ^ 9),bA 0 (p ^ 9)):=by
 have hP:0 < p ^ 9:=ft (by (first | exact ar (b:=1) (by decide +kernel) (by with_reducible assumption) | omega));have g:gI 0 (p ^ 9)=p ^ 9:=by unfold gI;simp;omega
 unfold bJ bA;rw [g,Int.zero_ediv,Int.ediv_self (by (first | exact zf (by with_reducible assumption) | omega))]
theorem wH {p q:Int}(s:bP p q):∀ (ns:List Int),(∀ n∈ns,0<=n/\n<=9)->0<=eQ p q ns/\eQ p q ns<=ns.length * 2 ^ 66
 |[],_=>by simp [eQ]
 |n :: r,h=>by
  have hn:=h n ah;have g:=lL s hn.1 hn.2;have ih:=wH s r fun m hm=>h m (ae _ hm)
  have e:eQ p q (n :: r)=gC p q n+eQ p q r:=by simp [eQ]
  rw [e,ci];omega
def aA4:Int×Int->List (Int×Int)->Prop
 |_,[]=>True
 |u,f :: r=>iW u/\iW f/\aA4 (eF u f) r
theorem aA0:∀ {fs:List (Int×Int)}{u:Int×Int}{i:Nat}{f:Int×Int},aA4 u fs->fs[i]?=some f->iW ((fs.take i).foldl eF u)/\iW f
 |[],_,_,_,_,h=>by simp at h
 |a :: r,u,0,f,⟨s1,s2,_⟩,h=>by
  have q:a=f:=by simpa using h
  subst q;exact ⟨s1,s2⟩
 |a :: r,u,i+1,f,⟨_,_,s3⟩,h=>by
  have:=aA0 (i:=i) s3 (by simpa using h)
  simpa using this
theorem lW {S P:Int}(hS:0<=S) (h1:S < 2 ^ 180) (hP:1<=P) (h2:P < 2 ^ 180):iW (bJ S P,bA S P):=by
 have l:=bB9 (a:=S) (b:=P) ⟨hS,h1⟩ ⟨by (first | exact bn (b:=1) (by decide +kernel) (by with_reducible assumption) | omega),h2⟩ hP;exact ⟨l.1,l.2,cB hP⟩
theorem pE {p q:Int}(s:bP p q):∀ (ns:List Int) (S:Int),0<=S->S+ns.length * 2 ^ 66 < 2 ^ 180->(∀ n∈ns,0<=n/\n<=9)->aA4 (bJ S (p ^ 9),bA S (p ^ 9)) (ns.map (wC p q))
 |[],_,_,_,_=>trivial
 |n :: r,S,hS,hb,h=>by
  have hn:=h n ah;have g:=lL s hn.1 hn.2;have p9:=pN (a:=p) (n:=9) (by have:=s.p1;(first | exact bn (b:=1) (by decide +kernel) (by with_reducible assumption) | omega)) (by have:=s.pq;have:=s.q9;omega) (by decide);have hP:1<=p ^ 9:=by have:(0:Int) < p ^ 9:=ft (by have:=s.p1;(first | exact ar (b:=1) (by decide +kernel) (by with_reducible assumption) | omega));(first | exact cj (a:=0) (by with_reducible assumption) | omega)
  rw [ci] at hb;refine ⟨lW hS (by omega) hP (by omega),aL3 s hn.1 hn.2,?_⟩;rw [vE s hS hn.1 hn.2];exact pE s r _ (by omega) (by omega) fun m hm=>h m (ae _ hm)
theorem wT {p q n S:Int}(s:bP p q) (hS:1<=S) (h0:0<=n) (h9:n<=9) :
  bJ ((wC p q n).1 * bA S (p ^ 9)) ((wC p q n).2 * bJ S (p ^ 9))=bJ (gC p q n) S/\bA ((wC p q n).1 * bA S (p ^ 9)) ((wC p q n).2 * bJ S (p ^ 9))=bA (gC p q n) S:=by
 have hP:1<=p ^ 9:=by have:(0:Int) < p ^ 9:=ft (by have:=s.p1;(first | exact ar (b:=1) (by decide +kernel) (by with_reducible assumption) | omega));(first | exact cj (a:=0) (by with_reducible assumption) | omega)
 have r:=dM (a:=S) (by (first | exact bn (b:=1) (by decide +kernel) (by with_reducible assumption) | omega)) hP;have n2:=cB (a:=S) hP;have n1:1<=bJ S (p ^ 9):=by
  have a:=bL (a:=S) (b:=p ^ 9) (by (first | exact bn (b:=1) (by decide +kernel) (by with_reducible assumption) | omega))
  by_cases z:bJ S (p ^ 9)=0
  ·rw [z,li] at r;have:=df (show 0 < S by (first | exact ar (b:=1) (by decide +kernel) (by with_reducible assumption) | omega)) (show 0 < bA S (p ^ 9) by (first | exact ar (b:=1) (by decide +kernel) (by with_reducible assumption) | omega));omega
  ·omega
 have fr:=aL3 s h0 h9;have g:=(lL s h0 h9).1;have q1:=bz fr.1.1 (show 0<=bA S (p ^ 9) by (first | exact bn (b:=1) (by decide +kernel) (by with_reducible assumption) | omega));have q2:=df (show 0 < (wC p q n).2 by have:=fr.2.2;(first | exact ar (b:=1) (by decide +kernel) (by with_reducible assumption) | omega)) (show 0 < bJ S (p ^ 9) by (first | exact ar (b:=1) (by decide +kernel) (by with_reducible assumption) | omega));refine oF (by (first | with_reducible assumption | omega)) (by (first | exact cj (a:=0) (by with_reducible assumption) | omega)) (by (first | exact bn (b:=1) (by decide +kernel) (by with_reducible assumption) | omega)) hS ?_;have sp:=uD (p:=p) h0 h9;generalize bJ S (p ^ 9)=x at r ⊢;generalize bA S (p ^ 9)=y at r ⊢;unfold wC gC
 dsimp only
 generalize p ^ 9=P at r sp ⊢;generalize q ^ n.toNat=a;generalize p ^ n.toNat=b at sp ⊢;generalize p ^ (9 - n).toNat=c at sp ⊢
 grind
def aP4 (H:Hp) (r:Addr) (wd x:Str) (a3 a4:V) (lo hi:Int):Prop:=H r=some (.tup [.str wd,.str x,a3,a4,.int lo,.int hi])
def aD2 (H:Hp) (v:V) (ws:List Int):Prop:=∃ a,v= .ref a/\cR H a ws
theorem aD2.ts {H H':Hp}{v:V}{ws:List Int}(t:TS H H') (h:aD2 H v ws):aD2 H' v ws:=by obtain ⟨a,e,q⟩:=h;exact ⟨a,e,t _ _ q⟩
def cF (wss:List (List Int)) (cs:List Int) (lo hi:Int):List Int:=wss.map fun ws=>mQ (hV ws cs) lo hi
structure Few (wss:List (List Int)) (cs:List Int):Prop where
 a:1<=wss.length
 b:wss.length<=4
 w:∀ ws∈wss,Wts ws cs
theorem cE1:¬ (("flat": Str)="choose"):=by decide +kernel
theorem aS4:¬ (("flat": Str)="first"):=by decide +kernel
theorem bA8:¬ (("choose": Str)="first"):=by decide +kernel
theorem aB5 {a b:Str}(h:¬ a=b):decide (V.str a=V.str b)=false:=dm fun z=>h (V.str.inj z)
theorem aY5 (a:Str):decide (V.str a=V.str a)=true:=ap rfl
def FrR (H:Hp) (v:V) (f:Int×Int):Prop:=∃ q,v= .ref q/\aY H q f.1 f.2
theorem FrR.ts {H H':Hp}{v:V}{f:Int×Int}(t:TS H H') (h:FrR H v f):FrR H' v f:=by obtain ⟨a,e,q⟩:=h;exact ⟨a,e,t _ _ q⟩
def spCome:Sp:=fun vs H Q _=>∃ l us fs,vs=[.ref l]/\H l=some (.lst us)/\dO (FrR H) us fs/\aA4 (0,1) fs/\∀ H' q,aU H H'->aY H' q (fs.foldl eF (0,1)).1 (fs.foldl eF (0,1)).2->Q (.ref q) H'
def spDiv:Sp:=fun vs H Q _=>∃ (p q:Addr) (u e:Int×Int),vs=[.ref p,.ref q]/\aY H p u.1 u.2/\aY H q e.1 e.2/\iW u/\iW e/\1<=e.1/\∀ r,H r=none->Q (.ref r) (aM H r (.tup (iS (u.1 * e.2) (u.2 * e.1))))
def spFlatT:Sp:=fun vs H Q _=>∃ n r lo hi:Int,vs=[.int n,.int r,.int lo,.int hi]/\0<=r/\r<=4/\fH lo hi/\∀ H' t us,aU H H'->H' t=some (.tup us)->dO (nO H') us (xM n r lo hi)->Q (.ref t) H'
def spChT:Sp:=fun vs H Q _=>∃ nt st p q ns,vs=[.ref nt,.ref st]/\cR H nt ns/\(∀ n∈ns,0<=n/\n<=9)/\1<=ns.length/\ns.length<=4/\aY H st p q/\bP p q /\
 ∀ H' t us,aU H H'->H' t=some (.tup us)->dO (nO H') us (kF (eQ p q ns) 0 (ns.map (gC p q)))->Q (.ref t) H'
theorem iP {b:Bool}{A B:Prop}(h:b=false) (x:B):if b=true then A else B:=by subst h;exact x
theorem qQ {b:Bool}{A B:Prop}(h:b=true) (x:A):if b=true then A else B:=by subst h;exact x
theorem dO.at {α: Type}{R:V->α->Prop}:∀ {vs:List V}{as:List α}{i:Nat}{v:V},dO R vs as->vs[i]?=some v->∃ a,as[i]?=some a/\R v a
 |[],[],_,_,_,h=>by simp at h
 |v :: vs,a :: as,0,w,⟨h1,_⟩,h=>by
  have e:v=w:=by simpa using h
  subst e;exact ⟨a,by simp,h1⟩
 |v :: vs,a :: as,i+1,w,⟨_,h2⟩,h=>by
  obtain ⟨b,hb,r⟩:=dO.at (i:=i) h2 (by simpa using h);exact ⟨b,by simpa using hb,r⟩
theorem zN {H H1:Hp}{l:Addr}{o:HO}(s:aU H H1) (h:H l=none):aU H (aM H1 l o):=fun b u e=>by
 rw [aG (aN e h)];exact s b u e
theorem aS9 {p q:Int}(s:bP p q):∀ {ns:List Int},(∀ n∈ns,0<=n/\n<=9)->1<=ns.length->1<=eQ p q ns
 |n :: r,h,_=>by
  have a1:=h n ah;have g:=(lL s a1.1 a1.2).1;have ih:=wH s r fun m hm=>h m (ae _ hm)
  have e:eQ p q (n :: r)=gC p q n+eQ p q r:=by simp [eQ]
  omega
theorem yI {S P:Int}(hS:1<=S) (hP:1<=P):1<=bJ S P:=by
 have r:=dM (a:=S) (by (first | exact bn (b:=1) (by decide +kernel) (by with_reducible assumption) | omega)) hP;have n2:=cB (a:=S) hP;have a:=bL (a:=S) (b:=P) (by (first | exact bn (b:=1) (by decide +kernel) (by with_reducible assumption) | omega))
 by_cases z:bJ S P=0
 ·rw [z,li] at r;have:=df (show 0 < S by (first | exact ar (b:=1) (by decide +kernel) (by with_reducible assumption) | omega)) (show 0 < bA S P by (first | exact ar (b:=1) (by decide +kernel) (by with_reducible assumption) | omega));omega
 ·omega
theorem aQ1 (a b c d:Int):Spec.same (.tuple [.int a,.int b]) (.tuple [.int c,.int d])=decide ((a,b)=(c,d)):=by
 have e:Spec.same (.tuple ([a,b].map PyData.int)) (.tuple ([c,d].map PyData.int))=decide ([a,b]=[c,d]):=jD [a,b] [c,d];refine Eq.trans e ?_
 by_cases h1:a=c <;> by_cases h2:b=d <;> simp [h1,h2]
theorem bN7 {wss:List (List Int)}{cs ws:List Int}{lo hi:Int}{i:Nat}(h:wss[i]?=some ws):(cF wss cs lo hi)[i]?=some (mQ (hV ws cs) lo hi):=by
 unfold cF;rw [cy,h];rfl
theorem rF {p q lo h n m:Int}(s:bP p q) (n0:lo<=n) (n1:n<=h) (m0:lo<=m) (m1:m<=h) :
  cZ p q lo h n m * gN p q (m - n).natAbs=(if m=lo\/m=h then mI p q (m - n).natAbs else shN p q (m - n).natAbs) * gN p q (h - lo).toNat:=by
 have e:q ^ (h - lo).toNat=q ^ (h - lo - ((m - n).natAbs:Int)).toNat * q ^ (m - n).natAbs:=by
  rw [<- ox]
  congr 1
  exact aL2 n0 n1 m0 m1
 unfold cZ gN
 split
 ·unfold mI;generalize q ^ (h - lo).toNat=a at e ⊢;generalize q ^ (h - lo - ((m - n).natAbs:Int)).toNat=b at e ⊢;generalize q ^ (m - n).natAbs=c at e ⊢;generalize p ^ (m - n).natAbs=d
  grind
 ·unfold shN;generalize q ^ (h - lo).toNat=a at e ⊢;generalize q ^ (h - lo - ((m - n).natAbs:Int)).toNat=b at e ⊢;generalize q ^ (m - n).natAbs=c at e ⊢;generalize p ^ (m - n).natAbs=d
  grind
def pM (p q lo h n m:Int):Int:=((aQ m (h+1 - m).toNat).map (cZ p q lo h n)).sum
theorem sJ {p q lo h n m:Int}(hm:m<=h):pM p q lo h n m=cZ p q lo h n m+pM p q lo h n (m+1):=by
 unfold pM;have e:(h+1 - m).toNat=(h+1 - (m+1)).toNat+1:=by omega
 rw [e,fQ,bi,cw]
theorem bJ0 {p q lo h n:Int}:pM p q lo h n (h+1)=0:=by
 unfold pM;have e:(h+1 - (h+1)).toNat=0:=by omega
 rw [e];rfl
theorem aM1 {a b x y:Int}(hx:1<=x) (hy:1<=y) (h:a * (x * y)=b * (x * y)):a=b:=by
 have:x * y≠0:=by
  have:=df (show 0 < x by (first | exact ar (b:=1) (by decide +kernel) (by with_reducible assumption) | omega)) (show 0 < y by (first | exact ar (b:=1) (by decide +kernel) (by with_reducible assumption) | omega))
  (first | exact zf (by with_reducible assumption) | omega)
 exact Int.eq_of_mul_eq_mul_right this h
theorem xV {p q lo h n:Int}(s:bP p q) (n0:lo<=n) (n1:n<=h):∀ (k:Nat) (m:Int),lo < m->m<=h->(h - m).toNat=k->pM p q lo h n m * tD p q (m - n)=tN p q (m - n) * gN p q (h - lo).toNat:=by
 intro k
 induction k with
 |zero =>
  intro m m0 m1 hk;have e:m=h:=by omega
  subst e;have f:=rF s n0 n1 (by (first | exact je (by with_reducible assumption) | omega):lo<=m) (cu m);rw [ao (ux rfl)] at f;rw [sJ (cu m),bJ0,zg];have c0:0<=m - n:=by (first | exact Int.sub_nonneg_of_le (by with_reducible assumption) | omega)
  have ek:(m - n).natAbs=(m - n).toNat:=by omega
  rw [ek] at f;unfold tN tD;rw [ao c0,ao c0];exact f
 |succ k ih =>
  intro m m0 m1 hk;have i:=ih (m+1) (by omega) (by omega) (by omega);have f:=rF s n0 n1 (by (first | exact je (by with_reducible assumption) | omega):lo<=m) m1;rw [aj (by omega)] at f;have t:=bP0 s.p1 s.pq (m - n);have d1:=jS s.p1 s.pq (m - n).natAbs;have d2:=aF4 s.p1 s.pq (m - n+1);rw [sJ m1];have em:m+1 - n=m - n+1:=by omega
  rw [em] at i;refine aM1 d1 d2 ?_;generalize cZ p q lo h n m=x at f ⊢;generalize pM p q lo h n (m+1)=y at i ⊢;generalize gN p q (h - lo).toNat=u at f i ⊢;generalize gN p q (m - n).natAbs=a at f t ⊢;generalize shN p q (m - n).natAbs=b at f t;generalize tD p q (m - n+1)=c at i t ⊢;generalize tN p q (m - n+1)=d at i t;generalize tD p q (m - n)=e at t ⊢;generalize tN p q (m - n)=g at t ⊢
  grind
theorem tV {p q lo h n:Int}(s:bP p q) (n0:lo<=n) (n1:n<=h) (lt:lo < h):pM p q lo h n lo=gN p q (h - lo).toNat:=by
 have f:=rF s n0 n1 (cu lo) (by (first | exact je (by with_reducible assumption) | omega));rw [ao (mz rfl)] at f;have t:=xV s n0 n1 (h - (lo+1)).toNat (lo+1) (by omega) (by omega) rfl;have d1:=jS s.p1 s.pq (lo - n).natAbs;have d2:=aF4 s.p1 s.pq (lo+1 - n);rw [sJ (by (first | exact je (by with_reducible assumption) | omega))];refine aM1 d1 d2 ?_;have key:mI p q (lo - n).natAbs * tD p q (lo+1 - n)+tN p q (lo+1 - n) * gN p q (lo - n).natAbs=gN p q (lo - n).natAbs * tD p q (lo+1 - n):=by
  unfold tN tD
  by_cases c:0<=lo+1 - n
  ·rw [ao c,ao c];have:lo - n=0\/lo - n= -1:=by omega
   rcases this with z | z
   ·have e1:(lo - n).natAbs=0:=by omega
    have e2:(lo+1 - n).toNat=1:=by omega
    rw [e1,e2];unfold mI gN;simp only [Int.pow_zero,Int.pow_one]
    grind
   ·have e1:(lo - n).natAbs=1:=by omega
    have e2:(lo+1 - n).toNat=0:=by omega
    rw [e1,e2];unfold mI gN;simp only [Int.pow_zero,Int.pow_one]
    grind
  ·rw [aj c,aj c];have e1:(1 - (lo+1 - n)).toNat=(lo - n).natAbs:=by omega
   rw [e1];generalize mI p q (lo - n).natAbs=a;generalize gN p q (lo - n).natAbs=b
   grind
 generalize cZ p q lo h n lo=x at f ⊢;generalize pM p q lo h n (lo+1)=y at t ⊢;generalize gN p q (h - lo).toNat=u at f t ⊢;generalize gN p q (lo - n).natAbs=a at f key ⊢;generalize mI p q (lo - n).natAbs=b at f key;generalize tD p q (lo+1 - n)=c at t key ⊢;generalize tN p q (lo+1 - n)=d at t key
 grind
def aH0 (p q lo h n m:Int):Int×Int:=if m<=lo then (1,1) else if h < m then (0,1) else (bJ (tN p q (m - n)) (tD p q (m - n)),bA (tN p q (m - n)) (tD p q (m - n)))
def aX (c w:Int):Int×Int:=(bJ c w,bA c w)
theorem iD {a b c d:Int}(ha:0<=a) (hb:1<=b) (hc:0<=c) (hd:1<=d) (h:a * d=c * b):aX a b=aX c d:=by
 have e:=oF ha hb hc hd h;unfold aX;rw [e.1,e.2]
theorem yC {w:Int}(h:1<=w):aX w w=(1,1):=by
 have e:=iD (a:=w) (b:=w) (c:=1) (d:=1) (by (first | exact bn (b:=1) (by decide +kernel) (by with_reducible assumption) | omega)) h (by decide) (by decide) (by omega);rw [e]
 decide
theorem kW {w:Int}(h:1<=w):aX 0 w=(0,1):=by
 have e:=iD (a:=0) (b:=w) (c:=0) (d:=1) (by omega) h (by decide) (by decide) (by omega);rw [e]
 decide
theorem sC (lo:Int):∀ (j N:Nat),(aQ lo N).drop j=aQ (lo+j) (N - j)
 |0,N=>by simp
 |j+1,0=>by simp [aQ]
 |j+1,N+1=>by
  rw [fQ,List.drop_succ_cons,sC (lo+1) j N];have e:lo+1+(j:Int)=lo+((j+1:Nat):Int):=by omega
  rw [e,Nat.succ_sub_succ]
def aft (p q lo h n m:Int):Int:=((cI p q lo h n).drop (m - lo).toNat).sum
def bef (p q lo h n m:Int):Int:=((cI p q lo h n).take (m - lo).toNat).sum
theorem bM5 {p q lo h n m:Int}:bef p q lo h n m+aft p q lo h n m=(cI p q lo h n).sum:=by
 unfold bef aft;rw [<- mo,ww]
theorem jT:∀ {l:List Int},(∀ x∈l,1<=x)->0<=l.sum
 |[],_=>by decide
 |a :: r,h=>by
  rw [cw];have:=h a ah;have:=jT fun x hx=>h x (ae _ hx)
  omega
theorem bA0 {p q lo h n m:Int}(s:bP p q):0<=aft p q lo h n m:=jT fun x hx=>gL s x (xp hx)
theorem bT8 {p q lo h n m:Int}(s:bP p q):0<=bef p q lo h n m:=jT fun x hx=>gL s x (xq hx)
theorem jP {p q lo h n:Int}(s:bP p q) (n0:lo<=n) (n1:n<=h):(cI p q lo h n).sum=dS p q lo h:=by
 unfold cI dS
 by_cases c:lo=h
 ·rw [ao c,ao c];rfl
 ·rw [aj c,aj c];exact tV s n0 n1 (by omega)
theorem bN1 {p q lo h n m:Int}(s:bP p q) (n0:lo<=n) (n1:n<=h) (m0:lo<=m) (m1:m<=h+1) (bp:1<=dS p q lo h):aH0 p q lo h n m=aX (aft p q lo h n m) (dS p q lo h):=by
 unfold aH0
 by_cases c1:m<=lo
 ·rw [ao c1];have e:m=lo:=by omega
  subst e;have e2:aft p q m h n m=dS p q m h:=by
   unfold aft;have e0:(m - m).toNat=0:=by omega
   rw [e0,rh];exact jP s n0 n1
  rw [e2,yC bp]
 ·rw [aj c1]
  by_cases c2:h < m
  ·rw [ao c2];have e2:aft p q lo h n m=0:=by
    unfold aft;rw [wj]
    ·rfl
    ·unfold cI
     split
     ·show 1<=_;omega
     ·rw [ac,bO];omega
   rw [e2,kW bp]
  ·rw [aj c2];have c:¬ lo=h:=by omega
   have t:=xV s n0 n1 (h - m).toNat m (by omega) (by omega) rfl;have e2:aft p q lo h n m=pM p q lo h n m:=by
    unfold aft cI pM;rw [aj c, <- ye,sC];have a1:lo+((m - lo).toNat:Int)=m:=by omega
    have a2:(h+1 - lo).toNat - (m - lo).toNat=(h+1 - m).toNat:=by omega
    rw [a1,a2]
   have an:=bA0 (lo:=lo) (h:=h) (n:=n) (m:=m) s;rw [e2] at an ⊢;have bq:dS p q lo h=gN p q (h - lo).toNat:=by unfold dS;rw [aj c]
   rw [bq] at bp ⊢;exact iD (cF0 s.p1 s.pq _) (aF4 s.p1 s.pq _) an bp t.symm
theorem wJ {a b c d:Int}(ha:0<=a) (hb:1<=b) (hc:0<=c) (hd:1<=d):aX ((aX a b).1 * (aX c d).1) ((aX a b).2 * (aX c d).2)=aX (a * c) (b * d):=by
 have r1:=dM ha hb;have r2:=dM hc hd;have n1:=bL (b:=b) ha;have n2:=bL (b:=d) hc;have p1:=cB (a:=a) hb;have p2:=cB (a:=c) hd;have q1:=bz n1 n2;have q2:=df (show 0 < bA a b by (first | exact ar (b:=1) (by decide +kernel) (by with_reducible assumption) | omega)) (show 0 < bA c d by (first | exact ar (b:=1) (by decide +kernel) (by with_reducible assumption) | omega));have q3:=bz ha hc;have q4:=df (show 0 < b by (first | exact ar (b:=1) (by decide +kernel) (by with_reducible assumption) | omega)) (show 0 < d by (first | exact ar (b:=1) (by decide +kernel) (by with_reducible assumption) | omega));refine iD q1 (by show 1<=bA a b * bA c d;(first | exact cj (a:=0) (by with_reducible assumption) | omega)) q3 (by (first | exact cj (a:=0) (by with_reducible assumption) | omega)) ?_
 show bJ a b * bJ c d * (b * d)=a * c * (bA a b * bA c d);generalize bJ a b=x at r1 ⊢;generalize bA a b=y at r1 ⊢;generalize bJ c d=z at r2 ⊢;generalize bA c d=w at r2 ⊢
 grind
theorem wN {a b w:Int}(ha:0<=a) (hb:0<=b) (hw:1<=w):eF (aX a w) (aX b w)=aX (a+b) w:=by
 have r1:=dM ha hw;have r2:=dM hb hw;have n1:=bL (b:=w) ha;have n2:=bL (b:=w) hb;have p1:=cB (a:=a) hw;have p2:=cB (a:=b) hw;have q1:=bz n1 (show 0<=bA b w by (first | exact bn (b:=1) (by decide +kernel) (by with_reducible assumption) | omega));have q2:=bz n2 (show 0<=bA a w by (first | exact bn (b:=1) (by decide +kernel) (by with_reducible assumption) | omega));have q3:=df (show 0 < bA a w by (first | exact ar (b:=1) (by decide +kernel) (by with_reducible assumption) | omega)) (show 0 < bA b w by (first | exact ar (b:=1) (by decide +kernel) (by with_reducible assumption) | omega));show aX (bJ a w * bA b w+bJ b w * bA a w) (bA a w * bA b w)=_;refine iD (by omega) (by (first | exact cj (a:=0) (by with_reducible assumption) | omega)) (by omega) hw ?_;generalize bJ a w=x at r1 ⊢;generalize bA a w=y at r1 ⊢
 generalize bJ b w=z at r2 ⊢;generalize bA b w=v at r2 ⊢
 grind
theorem bM6 {a c u:Int}(ha:0<=a) (hc:0<=c) (hu:1<=u) (h:a+c=u):aX (1 * (aX a u).2 - (aX a u).1 * 1) (1 * (aX a u).2)=aX c u:=by
 have r1:=dM ha hu;have n1:=bL (b:=u) ha;have p1:=cB (a:=a) hu;have l2:=aI0 (a:=a) (b:=u) (by omega) hu;refine iD (by show 0<=1 * bA a u - bJ a u * 1;omega) (by show 1<=1 * bA a u;omega) hc hu ?_;show (1 * bA a u - bJ a u * 1) * u=c * (1 * bA a u);generalize bJ a u=x at r1 ⊢;generalize bA a u=y at r1 ⊢
 grind
def dC:List (Int×Int×Int)->Int
 |[]=>1
 |t :: r=>t.2.2 * dC r
def yK (u y:Int×Int):Int×Int:=aX (u.1 * y.1) (u.2 * y.2)
def cX:Int->List (Int×Int×Int)->List Int
 |l,[]=>[l]
 |l,t :: r=>l * t.1 * dC r :: cX (l * t.2.1) r
structure Tri (t:Int×Int×Int):Prop where
 a:0<=t.1
 c:0<=t.2.1
 s:t.1+t.2.1=t.2.2
 u:1<=t.2.2
theorem nS:∀ {ts:List (Int×Int×Int)},(∀ t∈ts,Tri t)->1<=dC ts
 |[],_=>by decide
 |t :: r,h=>by
  have a:=(h t ah).u;have b:=nS fun x hx=>h x (ae _ hx)
  show 1<=t.2.2 * dC r;have:=df (show 0 < t.2.2 by (first | exact ar (b:=1) (by decide +kernel) (by with_reducible assumption) | omega)) (show 0 < dC r by (first | exact ar (b:=1) (by decide +kernel) (by with_reducible assumption) | omega))
  (first | exact cj (a:=0) (by with_reducible assumption) | omega)
def jK:(Int->Int)->List (Int×Int)->Int->Int
 |c,[]=>c
 |c,e :: r=>jK (fun z=>if z=e.1 then c z+e.2 else c z) r
theorem aJ4:∀ (c:Int->Int) (es fs:List (Int×Int)),jK c (es++fs)=jK (jK c es) fs
 |c,[],fs=>rfl
 |c,e :: r,fs=>aJ4 _ r fs
theorem aK8:∀ (c:Int->Int) (es:List (Int×Int)) (y:Int),(∀ e∈es,e.1≠y)->jK c es y=c y
 |c,[],y,_=>rfl
 |c,e :: r,y,h=>by
  have h1:¬ y=e.1:=fun z=>h e ah z.symm
  show jK (fun z=>if z=e.1 then c z+e.2 else c z) r y=c y;rw [aK8 _ r y fun x hx=>h x (ae _ hx)];exact aj h1
def OkT (w:Int) (T:Int->Option (Int×Int)) (c:Int->Int):Prop:=∀ y,(T y=none/\c y=0)\/T y=some (aX (c y) w)
theorem OkT.get {w:Int}{T:Int->Option (Int×Int)}{c:Int->Int}(hw:1<=w) (h:OkT w T c) (y:Int):(T y).getD (0,1)=aX (c y) w:=by
 rcases h y with ⟨e1,e2⟩ | e
 ·rw [e1,e2,kW hw];rfl
 ·rw [e];rfl
theorem OkT.step {w:Int}{T:Int->Option (Int×Int)}{c:Int->Int}(hw:1<=w) (hc:∀ y,0<=c y) (h:OkT w T c) {k v:Int}(hv:0<=v):OkT w (jW T (k,aX v w)) (fun z=>if z=k then c z+v else c z):=by
 intro y;unfold jW
 by_cases e:y=k
 ·refine .inr ?_;simp only [e,if_true];rw [h.get hw k,wN (hc k) hv hw]
 ·simp only [e,if_false];exact h y
theorem aJ7 {w:Int}(hw:1<=w):∀ (es:List (Int×Int)) (T:Int->Option (Int×Int)) (c:Int->Int),(∀ y,0<=c y)->(∀ e∈es,0<=e.2)->OkT w T c->OkT w ((es.map fun e=>((e.1,aX e.2 w):Int×Int×Int)).foldl jW T) (jK c es)
 |[],T,c,_,_,h=>h
 |e :: r,T,c,hc,he,h=>by
  simp only [List.map_cons,List.foldl_cons];have h1:=he e ah;exact aJ7 hw r _ _ (fun z=>by have:=hc z;split <;> omega) (fun x hx=>he x (ae _ hx)) (h.step hw hc h1)
theorem yV {w b v:Int}(hw:1<=w) (hb:w < 2 ^ 180) (hv:0<=v):∀ (es:List (Int×Int)) (T:Int->Option (Int×Int)) (c:Int->Int) (b:Int),(∀ y,0<=c y/\c y<=b)->(∀ e∈es,0<=e.2/\e.2<=v)->b+es.length * v < 2 ^ 180->v < 2 ^ 180->OkT w T c->aG9 T (es.map fun e=>(e.1,aX e.2 w))
 |[],_,_,_,_,_,_,_,_=>trivial
 |e :: r,T,c,b,hc,he,hbd,hv2,h=>by
  have h1:=he e ah;have e3:((e :: r).length:Int) * v=v+(r.length:Int) * v:=by
   rw [ci]
   push_cast
   rw [aAd,rq,Int.add_comm]
  rw [e3] at hbd;have rv:0<=(r.length:Int) * v:=bz (by (first | with_reducible exact sw _ | omega)) hv;refine ⟨?_,lW h1.1 (by omega) hw hb,yV (b:=b) hw hb hv r _ _ (b+v) (fun z=>by have:=hc z;split <;> omega) (fun x hx=>he x (ae _ hx)) (by omega) hv2 (h.step hw (fun y=>(hc y).1) h1.1)⟩;have ck:=hc e.1;show iW ((T e.1).getD (0,1));rw [h.get hw];exact lW ck.1 (by omega) hw hb
theorem aP2 {w:Int}(hw:1<=w) {es:List (Int×Int)}(he:∀ e∈es,0<=e.2) {m:Nat}(hk:∀ e∈es,0<=e.1/\e.1 < m) {ks:List Int}(hr:ks.Pairwise (· < ·)) (hm:∀ k,k∈ks↔∃ u,mM (es.map fun e=>(e.1,aX e.2 w)) k=some u/\u≠(0,1)) :
  pG (mM (es.map fun e=>(e.1,aX e.2 w))) ks=iJ w 0 ((aQ 0 m).map (jK (fun _=>0) es)):=by
 have tt:OkT w (mM (es.map fun e=>(e.1,aX e.2 w))) (jK (fun _=>0) es):=aJ7 hw es (fun _=>none) (fun _=>0) (fun _=>cu _) he (fun _=> .inl ⟨rfl,rfl⟩);have nn:∀ (l:List (Int×Int)) (c:Int->Int),(∀ y,0<=c y)->(∀ e∈l,0<=e.2)->∀ y,0<=jK c l y:=by
  intro l
  induction l with
  |nil=>intro c h _ y;exact h y
  |cons e r ih =>
   intro c h he y;have:=he e ah;exact ih _ (fun z=>by have:=h z;split <;> omega) (fun x hx=>he x (ae _ hx)) y
 have c0:=nn es (fun _=>0) (fun _=>cu _) he;generalize hT:mM (es.map fun e=>(e.1,aX e.2 w))=T at tt hm ⊢;have inr:∀ k,jK (fun _=>0) es k≠0->0<=k/\k < m:=fun k hk'=>by
  by_cases q:∃ e∈es,e.1=k
  ·obtain ⟨e,he',rfl⟩:=q;exact hk e he'
  ·exact absurd (aK8 (fun _=>0) es k fun e he' z=>q ⟨e,he',z⟩) hk'
 generalize jK (fun _=>0) es=c at tt c0 inr ⊢;have ne:∀ a,0 < a->aX a w≠(0,1):=fun a ha z=>by
  have q1:bJ a w=0:=gv Prod.fst z;have:=yI (S:=a) (P:=w) (by (first | exact cj (a:=0) (by with_reducible assumption) | omega)) hw;omega
 have ek:ks=(aQ 0 m).filter fun y=>decide (0 < c y):=by
  refine rK hr ((jN 0 _).sublist ml) fun k=>?_
  rw [hm k,du,eJ,oo];have ck:=c0 k
  constructor
  ·rintro ⟨u,e1,e2⟩;rcases tt k with ⟨z,_⟩ | z
   ·rw [z] at e1;cases e1
   ·rw [z] at e1
    cases e1
    by_cases q:c k=0
    ·rw [q,kW hw] at e2;exact absurd rfl e2
    ·have:=inr k q;exact ⟨⟨this.1,by omega⟩,by omega⟩
  ·rintro ⟨_,q⟩;rcases tt k with ⟨_,z⟩ | z
   ·omega
   ·exact ⟨_,z,ne _ q⟩
 unfold pG;rw [sQ,ek];refine eh fun y hy=>?_
 have hy2:0 < c y:=by
  have:=(du.mp hy).2;exact ba this
 rcases tt y with ⟨_,z⟩ | z
 ·omega
 ·rw [z];rfl
def uF (pb qb lo h m n:Int):Int×Int×Int:=(aft pb qb lo h n m,bef pb qb lo h n m,dS pb qb lo h)
theorem cA8 {pb qb lo h m n:Int}(s:bP pb qb) (n0:lo<=n) (n1:n<=h) (bp:1<=dS pb qb lo h):Tri (uF pb qb lo h m n):=by
 have e1:=bM5 (p:=pb) (q:=qb) (lo:=lo) (h:=h) (n:=n) (m:=m);have e2:=jP s n0 n1;exact ⟨bA0 s,bT8 s,by show aft pb qb lo h n m+bef pb qb lo h n m=dS pb qb lo h;omega,bp⟩
theorem kU {pb qb lo h m:Int}:∀ ns:List Int,dC (ns.map (uF pb qb lo h m))=dS pb qb lo h ^ ns.length
 |[]=>by simp [dC]
 |n :: r=>by
  show dS pb qb lo h * dC (r.map (uF pb qb lo h m))=_;rw [kU r,ci,fm,ql]
def gB:Int->List Int->List (Int×Int)
 |_,[]=>[]
 |k,c :: r=>(k,c) :: gB (k+1) r
theorem mD:∀ (k:Int) (l:List Int) (c:Int),gB k (l++[c])=gB k l++[(k+l.length,c)]
 |k,[],c=>by simp [gB]
 |k,a :: r,c=>by
  have e:k+1+(r.length:Int)=k+((r.length+1:Nat):Int):=by omega
  simp only [List.cons_append,gB,mD (k+1) r c,List.length_cons,e]
theorem vG:∀ {k:Int}{l:List Int}{e:Int×Int},e∈gB k l->(k<=e.1/\e.1 < k+l.length)/\e.2∈l
 |k,[],e,h=>nomatch h
 |k,a :: r,e,h=>by
  rcases av.mp h with z | z
  ·subst z;refine ⟨⟨cu _,?_⟩,ah⟩;show k < k+((r.length+1:Nat):Int);omega
  ·have:=vG z;rw [ci];exact ⟨⟨by omega,by omega⟩,ae _ this.2⟩
theorem kR:∀ (k:Int) (l:List Int),(gB k l).length=l.length
 |_,[]=>rfl
 |k,a :: r=>by simp [gB,kR (k+1) r]
theorem iA:∀ (l:Int) (ts:List (Int×Int×Int)),(cX l ts).length=ts.length+1
 |_,[]=>rfl
 |l,t :: r=>by simp [cX,iA]
theorem mC:∀ (ts:List (Int×Int×Int)) (l:Int),0<=l->(∀ t∈ts,Tri t)->∀ c∈cX l ts,0<=c/\c<=l * dC ts
 |[],l,hl,_,c,hc=>by
  have e:c=l:=by simpa [cX] using hc
  subst e;exact ⟨hl,by show c<=c * 1;omega⟩
 |t :: r,l,hl,h,c,hc=>by
  have ht:=h t ah;have hr:∀ x∈r,Tri x:=fun x hx=>h x (ae _ hx)
  have pr:=nS hr;have q1:=bz hl ht.a;have q2:=bz hl ht.c;have es:l * t.1+l * t.2.1=l * t.2.2:=by rw [<- Int.mul_add,ht.s]
  have ep:l * dC (t :: r)=l * t.2.2 * dC r:=by show l * (t.2.2 * dC r)=_;rw [ud]
  rw [ep];rcases av.mp hc with z | z
  ·subst z;exact ⟨bz q1 (by (first | exact bn (b:=1) (by decide +kernel) (by with_reducible assumption) | omega)),di (by omega) (by (first | exact bn (b:=1) (by decide +kernel) (by with_reducible assumption) | omega))⟩
  ·have ih:=mC r (l * t.2.1) q2 hr c z;exact ⟨ih.1,bn ih.2 (di (by omega) (by (first | exact bn (b:=1) (by decide +kernel) (by with_reducible assumption) | omega)))⟩
def sF (pa qa pb qb mk:Int) (ns:List Int) (lo hi m:Int):List (Int×Int):=gB 0 (cX (cZ pa qa lo hi mk m) (ns.map (uF pb qb lo (hi - 1) m)))
def dQ (pa qa pb qb mk:Int) (ns:List Int) (lo hi:Int) (j:Nat):List (Int×Int):=(aQ lo j).flatMap (sF pa qa pb qb mk ns lo hi)
theorem kI {pa qa pb qb mk:Int}{ns:List Int}{lo hi:Int}(j:Nat):dQ pa qa pb qb mk ns lo hi (j+1)=dQ pa qa pb qb mk ns lo hi j++sF pa qa pb qb mk ns lo hi (lo+j):=by
 unfold dQ;rw [bZ,yo];simp
def wF (pa qa pb qb lo hi:Int) (k:Nat):Int:=dS pa qa lo hi * dS pb qb lo (hi - 1) ^ k
def aO1 (w:Int) (e:Int×Int):Int×Int×Int:=(e.1,aX e.2 w)
def mY (pa qa pb qb mk:Int) (ns:List Int) (lo hi:Int):List (Int×Int×Int) :=
 iJ (wF pa qa pb qb lo hi ns.length) 0 ((aQ 0 (ns.length+1)).map (jK (fun _=>0) (dQ pa qa pb qb mk ns lo hi (hi+1 - lo).toNat)))
theorem qX {p q lo hi:Int}(s:bP p q) (a:0<=lo) (b:lo<=hi) (c:hi<=9):1<=dS p q lo hi/\dS p q lo hi < 2 ^ 34:=by
 obtain ⟨p1,pq,q9⟩:=id s;unfold dS
 split
 ·decide
 ·have e1:=jS p1 pq (hi - lo).toNat;refine ⟨e1,?_⟩;have hq:=nZ (p:=q) (q:=9) (by omega) q9 (hi - lo).toNat;have m9:∀ j:Nat,j<=9->(9:Int) ^ j < 2 ^ 29:=by decide
  have b1:=m9 (hi - lo).toNat (by omega);have q0:0 < q ^ (hi - lo).toNat:=ft (by omega);have m:=eY (a:=q+p) (b:=q ^ (hi - lo).toNat) (m:=5) (n:=29) (by omega) (by omega) (by (first | exact je (by with_reducible assumption) | omega)) (by omega);exact m.2
theorem cC0 {u:Int}(h1:1<=u) (h2:u < 2 ^ 34):∀ k:Nat,k<=4->1<=u ^ k/\u ^ k < 2 ^ 136
 |0,_=>by rw [vc];decide
 |1,_=>by rw [wk];exact ⟨h1,by (first | exact ar (by with_reducible assumption) (by decide +kernel) | omega)⟩
 |2,_=>by
  have m:=eY (a:=u) (b:=u) (m:=34) (n:=34) (by (first | exact bn (b:=1) (by decide +kernel) (by with_reducible assumption) | omega)) h2 (by (first | exact bn (b:=1) (by decide +kernel) (by with_reducible assumption) | omega)) h2;have p:=df (show 0 < u by (first | exact ar (b:=1) (by decide +kernel) (by with_reducible assumption) | omega)) (show 0 < u by (first | exact ar (b:=1) (by decide +kernel) (by with_reducible assumption) | omega));have e:u ^ 2=u * u:=by rw [fm,wk]
  rw [e];exact ⟨by (first | exact cj (a:=0) (by with_reducible assumption) | omega),jy m.2 (by decide)⟩
 |3,_=>by
  have i:=cC0 h1 h2 2 (by decide);have m2:=eY (a:=u) (b:=u) (m:=34) (n:=34) (by (first | exact bn (b:=1) (by decide +kernel) (by with_reducible assumption) | omega)) h2 (by (first | exact bn (b:=1) (by decide +kernel) (by with_reducible assumption) | omega)) h2;have m:=eY (a:=u * u) (b:=u) (m:=68) (n:=34) m2.1 m2.2 (by (first | exact bn (b:=1) (by decide +kernel) (by with_reducible assumption) | omega)) h2;have p:=df (df (show 0 < u by (first | exact ar (b:=1) (by decide +kernel) (by with_reducible assumption) | omega)) (show 0 < u by (first | exact ar (b:=1) (by decide +kernel) (by with_reducible assumption) | omega))) (show 0 < u by (first | exact ar (b:=1) (by decide +kernel) (by with_reducible assumption) | omega));have e:u ^ 3=u * u * u:=by rw [fm,fm,wk]
  rw [e];exact ⟨by (first | exact cj (a:=0) (by with_reducible assumption) | omega),jy m.2 (by decide)⟩
 |4,_=>by
  have m2:=eY (a:=u) (b:=u) (m:=34) (n:=34) (by (first | exact bn (b:=1) (by decide +kernel) (by with_reducible assumption) | omega)) h2 (by (first | exact bn (b:=1) (by decide +kernel) (by with_reducible assumption) | omega)) h2;have m3:=eY (a:=u * u) (b:=u) (m:=68) (n:=34) m2.1 m2.2 (by (first | exact bn (b:=1) (by decide +kernel) (by with_reducible assumption) | omega)) h2;have m:=eY (a:=u * u * u) (b:=u) (m:=102) (n:=34) m3.1 m3.2 (by (first | exact bn (b:=1) (by decide +kernel) (by with_reducible assumption) | omega)) h2;have p:=df (df (df (show 0 < u by (first | exact ar (b:=1) (by decide +kernel) (by with_reducible assumption) | omega)) (show 0 < u by (first | exact ar (b:=1) (by decide +kernel) (by with_reducible assumption) | omega))) (show 0 < u by (first | exact ar (b:=1) (by decide +kernel) (by with_reducible assumption) | omega))) (show 0 < u by (first | exact ar (b:=1) (by decide +kernel) (by with_reducible assumption) | omega))
  have e:u ^ 4=u * u * u * u:=by rw [fm,fm,fm,wk]
  rw [e];exact ⟨by (first | exact cj (a:=0) (by with_reducible assumption) | omega),m.2⟩
structure bF9 (lo hi:Int):Prop where
 a:0<=lo
 b:lo+1<=hi
 c:hi<=9
theorem aM7 {pa qa pb qb lo hi:Int}{k:Nat}(sa:bP pa qa) (sb:bP pb qb) (e:bF9 lo hi) (hk:k<=4):1<=wF pa qa pb qb lo hi k/\wF pa qa pb qb lo hi k < 2 ^ 170:=by
 have e1:=qX sa e.a (show lo<=hi by have:=e.b;omega) e.c;have e2:=qX (lo:=lo) (hi:=hi - 1) sb e.a (by have:=e.b;omega) (by have:=e.c;omega);have e3:=cC0 e2.1 e2.2 k hk;unfold wF;have m:=eY (a:=dS pa qa lo hi) (b:=dS pb qb lo (hi - 1) ^ k) (m:=34) (n:=136) (by omega) e1.2 (by omega) e3.2;have p:=df (show 0 < dS pa qa lo hi by omega) (show 0 < dS pb qb lo (hi - 1) ^ k by omega);exact ⟨by (first | exact cj (a:=0) (by with_reducible assumption) | omega),m.2⟩
theorem vK {p q lo hi n y:Int}(s:bP p q) (n0:lo<=n) (n1:n<=hi) (lt:lo < hi) (y0:lo<=y) (y1:y<=hi):cZ p q lo hi n y<=dS p q lo hi:=by
 rw [<- jP s n0 n1];have hm:cZ p q lo hi n y∈cI p q lo hi n:=by
  unfold cI;rw [aj (by omega)];exact cm.mpr ⟨y,eJ.mpr ⟨y0,by omega⟩,rfl⟩
 have pos:=gL (lo:=lo) (hi:=hi) (n:=n) s;have gen:∀ (l:List Int),(∀ x∈l,1<=x)->∀ z∈l,z<=l.sum:=by
  intro l
  induction l with
  |nil=>intro _ z hz;cases hz
  |cons a r ih =>
   intro h z hz;have hs:=jT fun x hx=>h x (ae _ hx)
   have ha:=h a ah;rw [cw];rcases av.mp hz with e | e
   ·subst e;omega
   ·have:=ih (fun x hx=>h x (ae _ hx)) z e;omega
 exact gen _ pos _ hm
theorem yB {p q lo hi n:Int}(s:bP p q) (n0:lo<=n) (n1:n<=hi) (lt:lo < hi):lY p q lo hi n=(aQ lo (hi+1 - lo).toNat).map fun y=>(y,aX (cZ p q lo hi n y) (dS p q lo hi)):=by
 rw [<- tR s n0 n1];unfold cI;rw [aj (by omega),sT];rfl
structure InF (pa qa pb qb mk:Int) (ns:List Int) (lo hi:Int):Prop where
 sa:bP pa qa
 sb:bP pb qb
 en:bF9 lo hi
 m0:lo<=mk
 m1:mk<=hi
 nn:∀ n∈ns,lo<=n/\n<=hi - 1
 l1:1<=ns.length
 l4:ns.length<=4
theorem InF.tris {pa qa pb qb mk:Int}{ns:List Int}{lo hi m:Int}(F:InF pa qa pb qb mk ns lo hi):∀ t∈ns.map (uF pb qb lo (hi - 1) m),Tri t:=fun t ht=>by
 obtain ⟨n,hn,rfl⟩:=cm.mp ht;have e:=F.en;have e2:=qX (lo:=lo) (hi:=hi - 1) F.sb e.a (by have:=e.b;omega) (by have:=e.c;omega);exact cA8 F.sb (F.nn n hn).1 (F.nn n hn).2 e2.1
theorem InF.cells {pa qa pb qb mk:Int}{ns:List Int}{lo hi:Int}(F:InF pa qa pb qb mk ns lo hi):∀ e∈dQ pa qa pb qb mk ns lo hi (hi+1 - lo).toNat,(0<=e.1/\e.1 < ((ns.length+1:Nat):Int))/\0<=e.2/\e.2<=wF pa qa pb qb lo hi ns.length:=fun e he=>by
 obtain ⟨m,hm,hc⟩:=List.mem_flatMap.mp he;have hm:=eJ.mp hm;have en:=F.en;have:=en.b;obtain ⟨⟨k0,k1⟩,hv⟩:=vG hc;have l0:=xJ (lo:=lo) (hi:=hi) (n:=mk) (y:=m) F.sa;have bd:=mC _ _ (by (first | exact bn (b:=1) (by decide +kernel) (by with_reducible assumption) | omega)) F.tris _ hv;rw [iA,ac] at k1;rw [kU] at bd;have le:=vK F.sa F.m0 F.m1 (by omega) hm.1 (by omega);have e2:=qX (lo:=lo) (hi:=hi - 1) F.sb en.a (by omega) (by have:=en.c;omega);have e3:=cC0 e2.1 e2.2 ns.length F.l4;refine ⟨⟨k0,by omega⟩,bd.1,bn bd.2 ?_⟩;unfold wF;exact di le (by omega)
theorem iY {pa qa pb qb mk:Int}{ns:List Int}{lo hi:Int}:∀ j:Nat,(dQ pa qa pb qb mk ns lo hi j).length=j * (ns.length+1)
 |0=>by simp [dQ,aQ]
 |j+1=>by
  rw [kI,be,iY j];unfold sF;rw [kR,iA,ac,qi]
theorem InF.len {pa qa pb qb mk:Int}{ns:List Int}{lo hi:Int}(F:InF pa qa pb qb mk ns lo hi):(dQ pa qa pb qb mk ns lo hi (hi+1 - lo).toNat).length<=50:=by
 rw [iY];have a:(hi+1 - lo).toNat<=10:=by have:=F.en.a;have:=F.en.c;omega
 have b:ns.length+1<=5:=by have:=F.l4;(first | exact cg (by with_reducible assumption) (by decide +kernel) | omega)
 exact gj a b
theorem InF.safe {pa qa pb qb mk:Int}{ns:List Int}{lo hi:Int}(F:InF pa qa pb qb mk ns lo hi):aG9 (fun _=>none) ((dQ pa qa pb qb mk ns lo hi (hi+1 - lo).toNat).map (aO1 (wF pa qa pb qb lo hi ns.length))):=by
 have w:=aM7 F.sa F.sb F.en F.l4;have l:=F.len;refine yV (b:=0) (v:=wF pa qa pb qb lo hi ns.length) w.1 (by omega) (by omega) _ _ (fun _=>0) 0 (fun _=>⟨cu _,cu _⟩) (fun e he=>(F.cells e he).2) ?_ (by omega) (fun _=> .inl ⟨rfl,rfl⟩);have:((dQ pa qa pb qb mk ns lo hi (hi+1 - lo).toNat).length:Int) * wF pa qa pb qb lo hi ns.length<=50 * wF pa qa pb qb lo hi ns.length:=di (by (first | exact bn (Int.ofNat_le.mpr (by with_reducible assumption)) (by decide +kernel) | omega)) (by omega);omega
theorem InF.table {pa qa pb qb mk:Int}{ns:List Int}{lo hi:Int}(F:InF pa qa pb qb mk ns lo hi) {ks:List Int}(hr:ks.Pairwise (· < ·)) (hm:∀ k,k∈ks↔∃ u,mM ((dQ pa qa pb qb mk ns lo hi (hi+1 - lo).toNat).map (aO1 (wF pa qa pb qb lo hi ns.length))) k=some u/\u≠(0,1)) :
  pG (mM ((dQ pa qa pb qb mk ns lo hi (hi+1 - lo).toNat).map (aO1 (wF pa qa pb qb lo hi ns.length)))) ks=mY pa qa pb qb mk ns lo hi :=
 aP2 (aM7 F.sa F.sb F.en F.l4).1 (fun e he=>(F.cells e he).2.1) (fun e he=>(F.cells e he).1) hr hm
theorem pw1 {p:Int}(h:1<=p) (n:Nat):1<=p ^ n:=by
 have:(0:Int) < p ^ n:=ft (by omega);omega
theorem rJ:∀ (c:Int->Int) (ks:List Int) (y:Int),oI c ks y=c y+(ks.count y:Nat)
 |c,[],y=>by simp [oI]
 |c,a :: r,y=>by
  show oI (fun z=>if z=a then c z+1 else c z) r y=_;rw [rJ _ r y,List.count_cons]
  by_cases h:y=a
  ·subst h;rw [ao rfl,ao (by simp)];omega
  ·rw [aj h,aj (by simpa using fun z=>h z.symm)];omega
def seg (lo hi a:Int) (m:Nat):List Int:=(aQ a m).map fun z=>mQ z lo hi
theorem bH1 (lo hi a:Int) (m:Nat):(seg lo hi a m).length=m:=by unfold seg;rw [ac,bO]
theorem pF (b:Int):∀ (m:Nat) (a:Int),(aQ a m).map (fun u=>b+u)=aQ (b+a) m
 |0,a=>rfl
 |m+1,a=>by
  rw [bZ,bZ,aq,pF b m a];have e:b+(a+(m:Int))=b+a+m:=by omega
  rw [<- e];rfl
theorem aQ5 {n r lo hi:Int}(r0:0<=r):iE n r lo hi=seg lo hi (n - r) (2 * r+1).toNat:=by
 unfold iE seg;have e:(r+1 - -r).toNat=(2 * r+1).toNat:=by omega
 rw [e,show n - r=n + -r by omega, <- pF n,jf];rfl
theorem bI5 {z lo hi:Int}(h:lo<=hi):lo<=mQ z lo hi/\mQ z lo hi<=hi:=by unfold mQ;constructor <;> (split <;> split <;> omega)
theorem bW6 {lo hi a:Int}{m:Nat}(h:lo<=hi):∀ z∈seg lo hi a m,lo<=z/\z<=hi:=fun z hz=>by
 obtain ⟨u,_,rfl⟩:=cm.mp hz;exact bI5 h
theorem uC {lo hi:Int}:∀ {ks:List Int},(∀ z∈ks,lo<=z/\z<=hi)->((aQ lo (hi+1 - lo).toNat).map fun y=>((ks.count y:Nat):Int)).sum=ks.length
 |[],_=>by
  have:∀ l:List Int,(l.map fun y=>((([]:List Int).count y:Nat):Int)).sum=0:=fun l=>by
   induction l with
   |nil=>rfl
   |cons y l ih=>rw [bi,cw,ih];simp
  rw [this];rfl
 |k :: ks,h=>by
  have ih:=uC (ks:=ks) fun z hz=>h z (ae _ hz)
  have hk:=h k ah;have one:∀ (l:List Int),l.Nodup->(l.map fun y=>(((k :: ks).count y:Nat):Int)).sum=(l.map fun y=>((ks.count y:Nat):Int)).sum+if k∈l then 1 else 0:=fun l=>by
   induction l with
   |nil=>intro _;rfl
   |cons y l il =>
    intro nd;obtain ⟨n1,n2⟩:=ji.mp nd;rw [bi,cw,bi,cw,il n2,List.count_cons]
    by_cases e:k=y
    ·subst e;rw [aj n1,ao (by simp),ao ah];omega
    ·rw [aj (by simpa using e)]
     by_cases m:k∈l
     ·rw [ao m,ao (ae _ m)];omega
     ·rw [aj m,aj (fun z=>by rcases av.mp z with z | z <;> contradiction)];omega
  rw [one _ ((jN lo _).imp fun z=>by omega),ih,ao (eJ.mpr ⟨hk.1,by omega⟩),ci];omega
theorem pJ {n r lo hi:Int}(r0:0<=r) (y:Int):gE n r lo hi y=((seg lo hi (n - r) (2 * r+1).toNat).count y:Nat):=by
 unfold gE;rw [rJ,aQ5 r0];omega
theorem aU4 {n r lo hi:Int}(h:lo<=hi) (r0:0<=r):((aQ lo (hi+1 - lo).toNat).map (gE n r lo hi)).sum=2 * r+1:=by
 have e:(aQ lo (hi+1 - lo).toNat).map (gE n r lo hi)=(aQ lo (hi+1 - lo).toNat).map fun y=>(((seg lo hi (n - r) (2 * r+1).toNat).count y:Nat):Int):=eh fun y _=>pJ r0 y
 rw [e,uC (bW6 h),bH1];omega
section
variable {p q lo h n n' m m':Int}
end
theorem pI:∀ {ts:List (Int×Int×Int)}{l:Int},(∀ t∈ts,Tri t)->(cX l ts).sum=l * dC ts
 |[],l,_=>by simp [cX,dC]
 |t :: r,l,h=>by
  have T:=h t ah;unfold cX;rw [cw,pI fun x hx=>h x (ae _ hx)];show _=l * (t.2.2 * dC r);rw [<- T.s]
  grind
theorem aE4 {ts:List (Int×Int×Int)}{l:Int}(l0:0<=l) (h:∀ t∈ts,Tri t) (i:Nat):0<=(cX l ts).getD i 0:=by
 rw [ig]
 cases e:(cX l ts)[i]? with
 |none=>exact cu _
 |some c=>exact (mC ts l l0 h c (br e)).1
def FC (L:Int->Int) (T:Int->List (Int×Int×Int)) (lo:Int) (N y:Nat):Int:=((aQ lo N).map fun m=>(cX (L m) (T m)).getD y 0).sum
theorem uG:∀ (l:List Int) (k:Int) (c:Int->Int) (y:Int),jK c (gB k l) y=c y+if k<=y then l.getD (y - k).toNat 0 else 0
 |[],k,c,y=>by simp [gB,jK]
 |a :: r,k,c,y=>by
  show jK (fun z=>if z=k then c z+a else c z) (gB (k+1) r) y=_;rw [uG r (k+1) _ y]
  by_cases e:y=k
  ·subst e;rw [ao rfl,aj (by omega),ao (cu _),show (y - y).toNat=0 by omega];show c y+a+0=c y+a;omega
  ·rw [aj e]
   by_cases h:k<=y
   ·rw [ao (by omega),ao h,show (y - k).toNat=(y - (k+1)).toNat+1 by omega,List.getD_cons_succ]
   ·rw [aj (by omega),aj h]
theorem uE {pa qa pb qb mk:Int}{ns:List Int}{lo hi:Int}{y:Int}(y0:0<=y):∀ j:Nat,jK (fun _=>0) (dQ pa qa pb qb mk ns lo hi j) y=FC (cZ pa qa lo hi mk) (fun m=>ns.map (uF pb qb lo (hi - 1) m)) lo j y.toNat
 |0=>rfl
 |j+1=>by
  rw [kI,aJ4];unfold sF;rw [uG,ao y0,uE y0 j,show y - 0=y by omega];unfold FC;rw [bZ,aq,mo];simp
theorem aQ0 {pa qa pb qb mk:Int}{ns:List Int}{lo hi:Int}:(aQ 0 (ns.length+1)).map (jK (fun _=>0) (dQ pa qa pb qb mk ns lo hi (hi+1 - lo).toNat))=(aQ 0 (ns.length+1)).map fun y=>FC (cZ pa qa lo hi mk) (fun m=>ns.map (uF pb qb lo (hi - 1) m)) lo (hi+1 - lo).toNat y.toNat :=
 eh fun y hy=>uE (eJ.mp hy).1 _
theorem aA2 {α: Type}(f:α->Nat->Int) (K:Nat):∀ l:List α,((aQ 0 K).map fun y=>(l.map fun m=>f m y.toNat).sum).sum=(l.map fun m=>((aQ 0 K).map fun y=>f m y.toNat).sum).sum
 |[]=>by
  have:∀ l:List Int,(l.map fun _=>(0:Int)).sum=0:=fun l=>by
   induction l with
   |nil=>rfl
   |cons _ _ ih=>rw [bi,cw,ih];rfl
  exact this _
 |a :: r=>by
  have e:∀ l:List Int,(l.map fun y=>((a :: r).map fun m=>f m y.toNat).sum).sum=(l.map fun y=>f a y.toNat).sum+(l.map fun y=>(r.map fun m=>f m y.toNat).sum).sum:=fun l=>by
   induction l with
   |nil=>rfl
   |cons y l ih =>
    rw [bi,cw,ih,bi,cw,bi,cw,bi,cw];omega
  rw [e,aA2 f K r,bi,cw]
theorem bE1 (l:List Int):((aQ 0 l.length).map fun y=>l.getD y.toNat 0).sum=l.sum:=by
 have:∀ (l:List Int) (k:Nat) (pre:List Int),pre.length=k->((aQ k l.length).map fun y=>(pre++l).getD y.toNat 0).sum=l.sum:=by
  intro l
  induction l with
  |nil=>intro k pre _;rfl
  |cons a r ih =>
   intro k pre hk;rw [ci,fQ,bi,cw,cw];have e:=ih (k+1) (pre++[a]) (by simp [hk]);rw [show ((k+1:Nat):Int)=(k:Int)+1 by omega] at e;simp only [List.append_assoc,List.singleton_append] at e;rw [e,show ((k:Int)).toNat=k by omega,ig,tz (by omega),hk];simp
 exact this l 0 [] rfl
section
variable {p q lo h:Int}
end
section
variable {pa qa pb qb mk lo hi:Int}{ns ns':List Int}{w:Nat}
abbrev trs (pb qb lo hi:Int) (ns:List Int) (m:Int):List (Int×Int×Int):=ns.map (uF pb qb lo (hi - 1) m)
theorem cB9 {p q n y:Int}(s:bP p q):0<=cZ p q lo hi n y:=by
 unfold cZ;have:=s.p1;have:=s.pq;refine bz (bz (by have:=pw1 s.p1 (y - n).natAbs;omega) (by have:=pw1 (p:=q) (by omega) (hi - lo - ((y - n).natAbs:Int)).toNat;omega)) ?_
 split <;> omega
theorem aL0 {f:Int->Int}:∀ {l:List Int},(∀ m∈l,0<=f m)->0<=(l.map f).sum
 |[],_=>cu _
 |x :: r,h=>by
  have i:=aL0 (l:=r) fun m hm=>h m (ae _ hm)
  have k:=h x ah;rw [bi,cw];omega
abbrev cQ1 (pa qa pb qb mk lo hi:Int) (ns:List Int) (y:Nat):Int:=FC (cZ pa qa lo hi mk) (trs pb qb lo hi ns) lo (hi+1 - lo).toNat y
abbrev csF (pa qa pb qb mk lo hi:Int) (ns:List Int):List Int:=(aQ 0 (ns.length+1)).map fun y=>cQ1 pa qa pb qb mk lo hi ns y.toNat
theorem bT0:(aQ 0 (ns.length+1)).map (jK (fun _=>0) (dQ pa qa pb qb mk ns lo hi (hi+1 - lo).toNat))=csF pa qa pb qb mk lo hi ns:=aQ0
theorem cC1 (F:InF pa qa pb qb mk ns lo hi) (a:Int) (N:Nat):((aQ 0 (ns.length+1)).map fun y=>FC (cZ pa qa lo hi mk) (trs pb qb lo hi ns) a N y.toNat).sum=((aQ a N).map (cZ pa qa lo hi mk)).sum * dS pb qb lo (hi - 1) ^ ns.length:=by
 unfold FC;rw [aA2 (fun m y=>(cX (cZ pa qa lo hi mk m) (trs pb qb lo hi ns m)).getD y 0)];generalize aQ a N=l
 induction l with
 |nil=>simp
 |cons m l ih =>
  rw [bi,cw,ih,bi,cw,aAd]
  congr 1
  have e:=bE1 (cX (cZ pa qa lo hi mk m) (trs pb qb lo hi ns m));rw [iA,ac] at e;rw [e,pI F.tris,kU]
theorem bL2 (F:InF pa qa pb qb mk ns lo hi):(csF pa qa pb qb mk lo hi ns).sum=wF pa qa pb qb lo hi ns.length:=by
 have eb:=F.en.b;rw [cC1 F];unfold wF
 congr 1
 have e:=tV F.sa F.m0 F.m1 (by omega);unfold pM at e;rw [e];unfold dS;rw [aj (by omega)]
theorem bY9 (F:InF pa qa pb qb mk ns lo hi):∀ c∈csF pa qa pb qb mk lo hi ns,0<=c:=fun c hc=>by
 obtain ⟨y,_,rfl⟩:=cm.mp hc;exact aL0 fun m _=>aE4 (cB9 F.sa) F.tris _
end
def cB4 (H:Hp) (r:Addr) (x:Str) (mk:Int) (sa sb sm:Addr) (lo hi:Int):Prop:=H r=some (.tup [.str "first",.str x,.int mk,.ref sa,.ref sb,.ref sm,.int lo,.int hi])
def kE (H:Hp) (sm:Addr) (wss:List (List Int)):Prop:=∃ vs,H sm=some (.tup vs)/\dO (aD2 H) vs wss
theorem kE.ts {H H':Hp}{sm:Addr}{wss:List (List Int)}(t:TS H H') (h:kE H sm wss):kE H' sm wss:=by obtain ⟨vs,e,q⟩:=h;exact ⟨vs,t _ _ e,q.mono fun _ _ z=>z.ts t⟩
def spFrom:Sp:=fun vs H Q _=>∃ st p q m n lo h,vs=[.int m,.int n,.ref st,.int lo,.int h]/\aY H st p q/\bP p q/\ -10<=m - n/\m - n<=10/\∀ H' r,aU H H'->aY H' r (aH0 p q lo h n m).1 (aH0 p q lo h n m).2->Q (.ref r) H'
def bN8 (H:Hp) (r c:Addr) (x:Str) (mk:Int) (sa sb sm:Addr) (lo hi:Int) (wss:List (List Int)) (cs:List Int) (pa qa pb qb:Int):Prop :=
 cB4 H r x mk sa sb sm lo hi/\kE H sm wss/\cR H c cs/\Few wss cs/\aY H sa pa qa/\aY H sb pb qb/\InF pa qa pb qb mk (cF wss cs lo (hi - 1)) lo hi
def spFirstT:Sp:=fun vs H Q _=>∃ r c x mk sa sb sm lo hi wss cs pa qa pb qb,vs=[.ref r,.ref c]/\bN8 H r c x mk sa sb sm lo hi wss cs pa qa pb qb /\
 ∀ H' t us,aU H H'->H' t=some (.tup us)->dO (nO H') us (mY pa qa pb qb mk (cF wss cs lo (hi - 1)) lo hi)->Q (.ref t) H'
theorem aZ3 {α: Type}{l:List α}{i:Nat}{x:α}(h:l[i]?=some x):l.drop i=x :: l.drop (i+1):=by
 obtain ⟨hi,e⟩:=bu.mp h;rw [<- e];exact mq hi
end Mine
namespace L2
open PySem PySem.Spec PyProof.Rows
theorem aQ7 {K:PySem.W.Frag}{a:Addr}{xs:List V}{g:TG}{tb:TS}{D:fH}{σ: St}{H:Hp}(Pv:Nat->St->Hp->Prop) (h0:Pv 0 σ H) (hl:∀ i σ H,i<=xs.length->Pv i σ H->bM K H a xs)
  (hs:∀ (D':fH),∀ i x σ H,xs[i]?=some x->Pv i σ H->g x σ H fun σ2 H2=>tb { D' with nx:=Pv (i+1),ct:=Pv (i+1),bk:=D'.nx } σ2 H2) (hd:∀ σ H,Pv xs.length σ H->D.nx σ H) :
  ∃ W:Nat->Nat->St->Hp->Prop,(∃ m,W 0 m σ H)/\∀ i m σ H,W i m σ H ->
   ((Itl K a).stop i H/\D.nx σ H)\/((Itl K a).go i H/\∃ N:St->Hp->Prop,(∀ σ' H',N σ' H'->∃ m',m' < m/\W (i+1) m' σ' H')/\∀ x H',(Itl K a).yld i H x H'->g x σ H' fun σ2 H2=>tb { D with nx:=N,ct:=N,bk:=D.nx } σ2 H2):=sK Pv h0 hl (hs D) hd
theorem bB0 {K:PySem.W.Frag}{a:Addr}{xs:List V}{g:TG}{tb:TS}{D:fH}{σ: St}{H:Hp}(Pv:Nat->St->Hp->Prop) (h0:Pv 0 σ H) (hl:∀ i σ H,i<=xs.length->Pv i σ H->aT K H a xs)
  (hs:∀ (D':fH),∀ i x σ H,xs[i]?=some x->Pv i σ H->g x σ H fun σ2 H2=>tb { D' with nx:=Pv (i+1),ct:=Pv (i+1),bk:=D'.nx } σ2 H2) (hd:∀ σ H,Pv xs.length σ H->D.nx σ H) :
  ∃ W:Nat->Nat->St->Hp->Prop,(∃ m,W 0 m σ H)/\∀ i m σ H,W i m σ H ->
   ((Itt K a).stop i H/\D.nx σ H)\/((Itt K a).go i H/\∃ N:St->Hp->Prop,(∀ σ' H',N σ' H'->∃ m',m' < m/\W (i+1) m' σ' H')/\∀ x H',(Itt K a).yld i H x H'->g x σ H' fun σ2 H2=>tb { D with nx:=N,ct:=N,bk:=D.nx } σ2 H2):=xA Pv h0 hl (hs D) hd
theorem gW {lo:Int}{n:Nat}{g:TG}{tb:TS}{D:fH}{σ: St}{H:Hp}(Pv:Nat->St->Hp->Prop) (h0:Pv 0 σ H)
  (hs:∀ (D':fH),∀ i σ H,i < n->Pv i σ H->g (.int (lo+i)) σ H fun σ2 H2=>tb { D' with nx:=Pv (i+1),ct:=Pv (i+1),bk:=D'.nx } σ2 H2) (hd:∀ σ H,Pv n σ H->D.nx σ H) :
  ∃ W:Nat->Nat->St->Hp->Prop,(∃ m,W 0 m σ H)/\∀ i m σ H,W i m σ H ->
   ((Itr lo n).stop i H/\D.nx σ H)\/((Itr lo n).go i H/\∃ N:St->Hp->Prop,(∀ σ' H',N σ' H'->∃ m',m' < m/\W (i+1) m' σ' H')/\∀ x H',(Itr lo n).yld i H x H'->g x σ H' fun σ2 H2=>tb { D with nx:=N,ct:=N,bk:=D.nx } σ2 H2):=uB Pv h0 (hs D) hd
end L2
namespace Mine
open PySem L2
theorem oX {p q lo h n:Int}(e:lo<=h):(cI p q lo h n).length=(h+1 - lo).toNat:=by
 unfold cI
 split
 ·have:(h+1 - lo).toNat=1:=by omega
  rw [this];rfl
 ·rw [ac,bO]
end Mine
namespace L2
open PySem PySem.Spec PyProof.Rows
def cK (n:Nat) (i:Int):Prop:=i.natAbs < 2 ^ n
theorem cK.mono {m n:Nat}{i:Int}(h:cK m i) (le:m<=n):cK n i:=bm h (ip (by decide) le)
theorem cK.mul {m n:Nat}{i j:Int}(h:cK m i) (k:cK n j):cK (m+n) (i * j):=by
 unfold cK at *;rw [Int.natAbs_mul,Nat.pow_add];exact Nat.mul_lt_mul'' h k
theorem cK.add {n:Nat}{i j:Int}(h:cK n i) (k:cK n j):cK (n+1) (i+j):=by
 unfold cK at *;rw [ni];have:=Int.natAbs_add_le i j;omega
theorem cK.of {n:Nat}{i:Int}(h0:0<=i) (h1:i < 2 ^ n):cK n i:=by
 unfold cK;have e:((i.natAbs:Nat):Int)=i:=xg h0;have:((i.natAbs:Nat):Int) < ((2 ^ n:Nat):Int):=by rw [e];exact_mod_cast h1
 exact Int.ofNat_lt.mp this
def cN4 (i j:Int):Prop:=∃ m n,cK m i/\cK n j/\m<=100000/\n<=100000
theorem fP {X:Cx}:kK X (binaryOp .Mult) (rI cN4 fun i j=> .int (i * j)):=opI fun _ _ _ _ _ _ _ hc q=>by
 obtain ⟨m,n,a,b,hm,hn⟩:=hc;exact mul_int q (IntMulOk.of_bits (bv (ny a) (bv hm (by decide))) (bv (ny b) (bv hn (by decide))))
def cK0 (i j:Int):Prop:=0 < j/\∃ n,cK n j/\n<=8990
theorem gQ {X:Cx}:kK X (binaryOp .FloorDiv) (rI cK0 fun i j=> .int (i / j)):=opI fun i j _ _ _ _ _ hc q=>by
 obtain ⟨h0,n,h1,hn⟩:=hc;refine floordiv_int (by omega) ?_ (.inl (uz ?_))
 ·rw [ua i (by omega)];exact q
 ·have h3:j.natAbs≠0:=by omega
  exact bm ((Nat.log2_lt h3).mpr h1) (bv hn (by decide))
end L2
namespace Mine
open PySem L2
inductive dP where
 |lad (p q lo hi:Int)
 |fla (r lo hi:Int)
 |cho (p q lo hi:Int)
 |fst (pa qa pb qb mk lo hi:Int)
namespace dP
def wd:dP->Str
 |lad .. =>"ladder" | fla .. =>"flat" | cho .. =>"choose" | fst .. =>"first"
def one:dP->Bool
 |lad .. =>true | fla .. =>true | cho .. =>false | fst .. =>false
def lo:dP->Int
 |lad _ _ l _=>l | fla _ l _=>l | cho _ _ l _=>l | fst _ _ _ _ _ l _=>l
def hb:dP->Int
 |lad _ _ _ h=>h | fla _ _ h=>h | cho _ _ _ h=>h | fst _ _ _ _ _ _ h=>h - 1
structure Ok (T:dP):Prop where
 l:match T with
  |lad p q lo hi=>bP p q/\fH lo hi
  |fla r lo hi=>0<=r/\r<=4/\fH lo hi
  |cho p q lo hi=>bP p q/\fH lo hi
  |fst pa qa pb qb mk lo hi=>bP pa qa/\bP pb qb/\2 * pb<=qb/\bF9 lo hi/\lo<=mk/\mk<=hi
def W:dP->List Int->Int
 |lad p q lo hi,_=>dS p q lo hi
 |fla r _ _,_=>2 * r+1
 |cho p q _ _,ns=>eQ p q ns
 |fst pa qa pb qb _ lo hi,ns=>wF pa qa pb qb lo hi ns.length
def f0:dP->Int
 |lad _ _ l _=>l | fla _ l _=>l | cho .. =>0 | fst .. =>0
def cs:dP->List Int->List Int
 |lad p q lo hi,ns=>cI p q lo hi (ns.headD 0)
 |fla r lo hi,ns=>(aQ lo (hi+1 - lo).toNat).map (gE (ns.headD 0) r lo hi)
 |cho p q _ _,ns=>ns.map (gC p q)
 |fst pa qa pb qb mk lo hi,ns=>csF pa qa pb qb mk lo hi ns
def tab (T:dP) (ns:List Int):List (Int×Int×Int):=iJ (T.W ns) T.f0 (T.cs ns)
structure Num (T:dP) (ns:List Int):Prop where
 l1:1<=ns.length
 l4:ns.length<=4
 o:T.one=true->ns.length=1
 i:∀ n∈ns,T.lo<=n/\n<=T.hb
variable {T:dP}{ns ns':List Int}{w:Nat}
theorem Ok.lo0 (h:T.Ok):0<=T.lo/\T.lo<=T.hb/\T.hb<=9:=by
 cases T with
 |lad p q lo hi=>have e:=h.l.2;exact ⟨e.a,e.b,e.c⟩
 |fla r lo hi=>have e:=h.l.2.2;exact ⟨e.a,e.b,e.c⟩
 |cho p q lo hi=>have e:=h.l.2;exact ⟨e.a,e.b,e.c⟩
 |fst pa qa pb qb mk lo hi=>have e:=h.l.2.2.2.1;have:=e.a;have:=e.b;have:=e.c;exact ⟨e.a,by show lo<=hi - 1;omega,by show hi - 1<=9;omega⟩
theorem inF {pa qa pb qb mk lo hi:Int}(h:(fst pa qa pb qb mk lo hi).Ok) (n:(fst pa qa pb qb mk lo hi).Num ns):InF pa qa pb qb mk ns lo hi :=by
 obtain ⟨a,b,_,d,e,f⟩:=h.l;exact ⟨a,b,d,e,f,n.i,n.l1,n.l4⟩
theorem one_num {α: List Int}(h:α.length=1):∃ n,α=[n]:=by
 cases α with
 |nil=>cases h
 |cons n r=>cases r with | nil=>exact ⟨n,rfl⟩ | cons _ _=>cases h
theorem sums (h:T.Ok) (n:T.Num ns):(T.cs ns).sum=T.W ns/\(∀ c∈T.cs ns,0<=c)/\1<=T.W ns/\T.W ns < 2 ^ 170/\(T.cs ns).length<=10:=by
 cases T with
 |lad p q lo hi =>
  obtain ⟨m,rfl⟩:=one_num (n.o rfl);have i:=n.i m (List.mem_singleton.mpr rfl);have i:lo<=m/\m<=hi:=i;have e:=h.l.2;have b:=qX h.l.1 e.a e.b e.c;refine ⟨jP h.l.1 i.1 i.2,fun c hc=>by have:=gL h.l.1 c hc;omega,b.1,by show dS p q lo hi < 2 ^ 170;have:=b.2;omega,?_⟩;show (cI p q lo hi m).length<=10;rw [oX e.b];have:=e.a;have:=e.c;omega
 |fla r lo hi =>
  obtain ⟨r0,r4,e⟩:=h.l;refine ⟨aU4 e.b r0,fun c hc=>?_,by show 1<=2 * r+1;omega,by show 2 * r+1 < 2 ^ 170;omega,?_⟩
  ·obtain ⟨y,_,rfl⟩:=List.mem_map.mp hc;rw [pJ r0];omega
  ·show ((aQ lo (hi+1 - lo).toNat).map _).length<=10;rw [List.length_map,bO];have:=e.a;have:=e.c;omega
 |cho p q lo hi =>
  have e:=h.l.2;have bd:∀ l:List Int,(∀ n∈l,lo<=n/\n<=hi)->0<=eQ p q l/\eQ p q l<=l.length * 2 ^ 66:=fun l=>by
   induction l with
   |nil=>intro _;exact ⟨Int.le_refl _,Int.le_refl _⟩
   |cons m l ih =>
    intro hl;have k:=hl m List.mem_cons_self;have g:=lL h.l.1 (show 0<=m by have:=e.a;omega) (show m<=9 by have:=e.c;omega);have i:=ih fun x hx=>hl x (List.mem_cons_of_mem _ hx)
    have q:eQ p q (m :: l)=gC p q m+eQ p q l:=by unfold eQ;rw [List.map_cons,List.sum_cons]
    rw [q,List.length_cons];omega
  have b:=bd ns n.i;have l4:=n.l4;have pos:1<=eQ p q ns:=by
   cases ns with
   |nil=>have:=n.l1;cases this
   |cons m l =>
    have k:lo<=m/\m<=hi:=n.i m List.mem_cons_self;have g:=lL h.l.1 (show 0<=m by have:=e.a;omega) (show m<=9 by have:=e.c;omega);have i:=bd l fun x hx=>n.i x (List.mem_cons_of_mem _ hx)
    have q:eQ p q (m :: l)=gC p q m+eQ p q l:=by unfold eQ;rw [List.map_cons,List.sum_cons]
    omega
  refine ⟨rfl,fun c hc=>?_,pos,by show eQ p q ns < 2 ^ 170;omega,by show (ns.map _).length<=10;rw [List.length_map];omega⟩;obtain ⟨y,hy,rfl⟩:=List.mem_map.mp hc;have k:lo<=y/\y<=hi:=n.i y hy;have:=(lL h.l.1 (show 0<=y by have:=e.a;omega) (show y<=9 by have:=e.c;omega)).1;omega
 |fst pa qa pb qb mk lo hi =>
  have F:=inF h n;have b:=aM7 F.sa F.sb F.en F.l4;refine ⟨bL2 F,bY9 F,b.1,b.2,?_⟩;show ((aQ 0 (ns.length+1)).map _).length<=10;rw [List.length_map,bO];have:=n.l4;omega
end dP
open PySem L2
def yD (wd:Str):Bool:=inV (.str wd) [.str "ladder",.str "flat"]
def aD1 (H:Hp) (r:Addr) (wd:Str) (a3:V) (lo hb:Int):Prop:=∃ xs,H r=some (.tup xs)/\mH xs 0=some (.str wd)/\mH xs (if wd="first" then 5 else 2)=some a3/\mH xs (-2)=some (.int lo)/\mH xs (-1)=some (.int (if wd="first" then hb+1 else hb))
def aB3 (H:Hp) (r:Addr) (T:dP) (a3:V):Prop:=match T with
 |.lad p q lo hi=>∃ x st,aP4 H r "ladder" x a3 (.ref st) lo hi/\aY H st p q
 |.fla rr lo hi=>∃ x,aP4 H r "flat" x a3 (.int rr) lo hi
 |.cho p q lo hi=>∃ x st,aP4 H r "choose" x a3 (.ref st) lo hi/\aY H st p q
 |.fst pa qa pb qb mk lo hi=>∃ x sa sb sm,a3= .ref sm/\cB4 H r x mk sa sb sm lo hi/\aY H sa pa qa/\aY H sb pb qb
theorem aV2:¬ (("ladder": Str)="first"):=by decide +kernel
theorem aB3.v {H:Hp}{r:Addr}{a3:V}:∀ {T:dP},aB3 H r T a3->aD1 H r T.wd a3 T.lo T.hb
 |.lad _ _ _ hi,⟨x,st,h,_⟩=>⟨_,h,rfl,by show mH _ (if ("ladder": Str)="first" then 5 else 2)=some a3;rw [if_neg aV2];rfl,rfl,by show _=some (V.int (if ("ladder": Str)="first" then hi+1 else hi));rw [if_neg aV2];rfl⟩
 |.fla _ _ hi,⟨x,h⟩=>⟨_,h,rfl,by show mH _ (if ("flat": Str)="first" then 5 else 2)=some a3;rw [if_neg aS4];rfl,rfl,by show _=some (V.int (if ("flat": Str)="first" then hi+1 else hi));rw [if_neg aS4];rfl⟩
 |.cho _ _ _ hi,⟨x,st,h,_⟩=>⟨_,h,rfl,by show mH _ (if ("choose": Str)="first" then 5 else 2)=some a3;rw [if_neg bA8];rfl,rfl,by show _=some (V.int (if ("choose": Str)="first" then hi+1 else hi));rw [if_neg bA8];rfl⟩
 |.fst _ _ _ _ _ _ hi,⟨x,sa,sb,sm,e,h,_⟩=>⟨_,h,rfl,by show mH _ (if ("first": Str)="first" then 5 else 2)=some a3;rw [if_pos rfl,e];rfl,rfl,by show some (V.int hi)=some (V.int (if ("first": Str)="first" then hi - 1+1 else hi - 1));rw [if_pos rfl,show hi - 1+1=hi by omega]⟩
theorem aD1.ts {H H':Hp}(t:TS H H') {r:Addr}{wd:Str}{a3:V}{lo hb:Int}(h:aD1 H r wd a3 lo hb):aD1 H' r wd a3 lo hb:=by obtain ⟨xs,a,b⟩:=h;exact ⟨xs,t _ _ a,b⟩
theorem vR:∀ T:dP,yD T.wd=T.one
 |.lad .. =>by show yD "ladder"=true;decide +kernel
 |.fla .. =>by show yD "flat"=true;decide +kernel
 |.cho .. =>by show yD "choose"=false;decide +kernel
 |.fst .. =>by show yD "first"=false;decide +kernel
def sP (H:Hp) (b:Bool) (a3:V) (wss:List (List Int)):Prop:=(b=true/\∃ w ws,a3= .ref w/\cR H w ws/\wss=[ws])\/(b=false/\∃ sm,a3= .ref sm/\kE H sm wss)
theorem sP.ts {H H':Hp}(t:TS H H') {b:Bool}{a3:V}{wss:List (List Int)}(h:sP H b a3 wss):sP H' b a3 wss:=by
 rcases h with ⟨e,w,ws,e1,e2,e3⟩ | ⟨e,sm,e1,e2⟩
 ·exact .inl ⟨e,w,ws,e1,t _ _ e2,e3⟩
 ·exact .inr ⟨e,sm,e1,e2.ts t⟩
def spOneU:Sp:=fun vs H Q _=>∃ wd:Str,vs=[.str wd]/\∀ H',aU H H'->Q (.bl (yD wd)) H'
def spPlaceU:Sp:=fun vs H Q _=>∃ wd:Str,vs=[.str wd]/\Q (.int (if wd="first" then 5 else 2)) H
def spSumsU:Sp:=fun vs H Q _=>∃ r wd a3 lo hb wss,vs=[.ref r]/\aD1 H r wd a3 lo hb/\sP H (yD wd) a3 wss/\∀ H' t us,aU H H'->H' t=some (.tup us)->dO (aD2 H') us wss->Q (.ref t) H'
def spRngU:Sp:=fun vs H Q _=>∃ r wd a3 lo hb,vs=[.ref r]/\aD1 H r wd a3 lo hb/\∀ H' t,aU H H'->aY H' t lo hb->Q (.ref t) H'
def spNumU:Sp:=fun vs H Q _=>∃ r wd a3 lo hb wss c cs,vs=[.ref r,.ref c]/\aD1 H r wd a3 lo hb/\sP H (yD wd) a3 wss/\cR H c cs/\Few wss cs/\∀ H' t,aU H H'->cR H' t (cF wss cs lo hb)->Q (.ref t) H'
structure tE (T:dP) (wss:List (List Int)) (cs:List Int):Prop where
 few:Few wss cs
 o:T.one=true->wss.length=1
theorem tE.num {T:dP}{wss:List (List Int)}{cs:List Int}(h:T.Ok) (a:tE T wss cs):T.Num (cF wss cs T.lo T.hb):=by
 have l:(cF wss cs T.lo T.hb).length=wss.length:=by unfold cF;rw [List.length_map]
 refine ⟨by rw [l];exact a.few.a,by rw [l];exact a.few.b,fun e=>by rw [l];exact a.o e,fun n hn=>?_⟩;obtain ⟨ws,_,rfl⟩:=List.mem_map.mp hn;exact bG0 h.lo0.2.1
def cF2 (H:Hp) (r c:Addr) (T:dP) (a3:V) (wss:List (List Int)) (cs:List Int):Prop:=aB3 H r T a3/\sP H T.one a3 wss/\cR H c cs
def spThrU:Sp:=fun vs H Q _=>∃ r c T a3 wss cs,vs=[.ref r,.ref c]/\cF2 H r c T a3 wss cs/\T.Ok/\tE T wss cs/\∀ H' t us,aU H H'->H' t=some (.tup us)->dO (nO H') us (T.tab (cF wss cs T.lo T.hb))->Q (.ref t) H'
end Mine
namespace L2
open PySem PySem.Spec PyProof.Rows
abbrev NKey:=Key ⊕ List Key
inductive lG:List Key->List Value->Prop where
 |nil:lG [] []
 |cons {k:Key}{v:Value}{ks:List Key}{vs:List Value}:dU k v=true->lG ks vs->lG (k :: ks) (v :: vs)
theorem lG.items {prog:Program}{w:World}:∀ {ks:List Key}{vs:List Value},lG ks vs->ItemsAre (bH prog w) ks vs
 |_,_,.nil=> .nil
 |_,_,.cons h r=> .cons h (lG.items r)
def rY (h:Heap) (ks:List Key) (a:Addr):Prop:=∃ o items n,h.get? a=some o/\o.cls= .type "tuple"/\o.data= .seq items n/\lG ks items.toList
theorem rY.key {prog:Program}{w:World}{h:Heap}{ks:List Key}{a:Addr}(t:rY h ks a):IsTupleKey (bH prog w) h ks a:=by obtain ⟨o,i,n,a,b,c,d⟩:=t;exact ⟨o,i,n,a,b,c,d.items⟩
def oW (h:Heap):NKey->Value->Prop
 |.inl k,v=>dU k v=true
 |.inr ks,v=>∃ c,v= .ref c/\rY h ks c
inductive fJ (h:Heap):List NKey->List Value->Prop where
 |nil:fJ h [] []
 |cons {k:NKey}{v:Value}{ks:List NKey}{vs:List Value}:oW h k v->fJ h ks vs->fJ h (k :: ks) (v :: vs)
def fK (h:Heap) (ks:List NKey) (a:Addr):Prop:=∃ o items n,h.get? a=some o/\o.cls= .type "tuple"/\o.data= .seq items n/\fJ h ks items.toList
theorem xB {k j:Key}{v:Value}(a:dU k v=true) (b:dU j v=true):k=j:=by
 rcases aW a with ⟨i,t,rfl,rfl⟩ | ⟨x,t,rfl,rfl⟩
 ·rcases aW b with ⟨i',t',rfl,e⟩ | ⟨x,t,rfl,e⟩
  ·cases e;rfl
  ·cases e
 ·rcases aW b with ⟨i',t',rfl,e⟩ | ⟨x,t,rfl,e⟩
  ·cases e
  ·cases e;rfl
theorem bA7:∀ {x y:List Key}{vs:List Value},lG x vs->lG y vs->x=y
 |_,_,_,.nil,.nil=>rfl
 |_,_,_,.cons a r,.cons b t=>by rw [xB a b,bA7 r t]
theorem bO5 {h:Heap}{x y:List Key}{a:Addr}(p:rY h x a) (q:rY h y a):x=y:=by
 obtain ⟨o,i,n,a1,b1,c1,d1⟩:=p;obtain ⟨o2,i2,n2,a2,b2,c2,d2⟩:=q;rw [a1] at a2
 cases a2
 rw [c1] at c2
 cases c2
 exact bA7 d1 d2
theorem bJ3 {h:Heap}:∀ {x y:NKey}{v:Value},oW h x v->oW h y v->x=y
 |.inl k,.inl j,v,a,b=>by rw [xB a b]
 |.inl k,.inr j,v,a,⟨c,e,_⟩=>by
  subst e;rcases aW (show dU k (.ref c)=true from a) with ⟨i,t,_,z⟩ | ⟨x,t,_,z⟩ <;> cases z
 |.inr k,.inl j,v,⟨c,e,_⟩,b=>by
  subst e;rcases aW (show dU j (.ref c)=true from b) with ⟨i,t,_,z⟩ | ⟨x,t,_,z⟩ <;> cases z
 |.inr k,.inr j,v,⟨c,e,p⟩,⟨c2,e2,q⟩=>by
  subst e
  cases e2
  rw [bO5 p q]
theorem aY8 {h:Heap}:∀ {x y:List NKey}{vs:List Value},fJ h x vs->fJ h y vs->x=y
 |_,_,_,.nil,.nil=>rfl
 |_,_,_,.cons a r,.cons b t=>by rw [bJ3 a b,aY8 r t]
theorem rA {h:Heap}{x y:List NKey}{a:Addr}(p:fK h x a) (q:fK h y a):x=y:=by
 obtain ⟨o,i,n,a1,b1,c1,d1⟩:=p;obtain ⟨o2,i2,n2,a2,b2,c2,d2⟩:=q;rw [a1] at a2
 cases a2
 rw [c1] at c2
 cases c2
 exact aY8 d1 d2
theorem rQ {h:Heap}{a d:Addr}{o q:Obj}{items:Array Value}{n ep:Nat}{es:Array DictEntry}(ho:h.get? a=some o) (c:o.data= .seq items n) (hd:h.get? d=some q) (hq:q.data= .dict es ep):a≠d:=fun e=>by
 rw [e,hd] at ho
 cases ho
 rw [hq] at c
 cases c
theorem vU {h h':Heap}{d:Addr}{q:Obj}{es:Array DictEntry}{ep:Nat}(hd:h.get? d=some q) (hq:q.data= .dict es ep) (s:Heap.SameBut d h h'):∀ {ks:List NKey}{vs:List Value},fJ h ks vs->fJ h' ks vs
 |_,_,.nil=> .nil
 |_,_,.cons (k:= .inl _) a r=> .cons a (vU hd hq s r)
 |_,_,.cons (k:= .inr _) ⟨c,e,t⟩ r=>by
  refine .cons ⟨c,e,?_⟩ (vU hd hq s r);obtain ⟨o,i,n,a1,b1,c1,d1⟩:=t;exact ⟨o,i,n,by rw [s.2 c (rQ a1 c1 hd hq)];exact a1,b1,c1,d1⟩
section
variable {prog:Program}{w:World}
def eK (prog:Program) (w:World):NKey->Int
 |.inl k=>(bH prog w).hash k
 |.inr ks=>tupleKeyHash (bH prog w) ks
def eR:NKey->Nat
 |.inl _=>1
 |.inr ks=>ks.length+1
def nI (prog:Program) (w:World) (ks:List NKey):Int:=reduceHash (Builtin.Tuple.tupleHashOf (ks.map (eK prog w)))
def jB (ks:List NKey):Nat:=(ks.map eR).sum+1
variable {A:Around}{E:Value->Shared->Prop}{s:Shared}
theorem bF0 {k:NKey}{v:Value}{Q:Int->Shared->Prop}(hu:A.units < cLine) (h:oW s.heap k v) (q:Q (eK prog w k) { s with toks:=s.toks+eR k }):wpAny (model prog w) A (pyHash v) Q E s:=by
 cases k with
 |inl k=>exact (bH prog w).pyHash (k:=k) h q
 |inr ks =>
  obtain ⟨c,rfl,t⟩:=h;exact wpAny_pyHash_tuple hu t.key q
theorem aA8 {Q:Array Int->Shared->Prop}(hu:A.units < cLine):∀ {ks:List NKey}{vs:List Value}(hs:Array Int) (s:Shared),fJ s.heap ks vs->Q (hs++(ks.map (eK prog w)).toArray) { s with toks:=s.toks+(ks.map eR).sum } ->
  wpAny (model prog w) A (forIn vs hs fun x (r:Array Int)=>do
   let i <- pyHash x
   pure (ForInStep.yield (r.push i))) Q E s
 |_,_,hs,s,.nil,q=>by
  rw [List.forIn_nil];exact am (by simpa using q)
 |k :: ks,v :: vs,hs,s,.cons a r,q=>by
  rw [vp];simp only [bind_assoc,pure_bind];refine aa (bF0 hu a ?_);refine aA8 hu (hs.push (eK prog w k)) { s with toks:=s.toks+eR k } r ?_;have e1:hs.push (eK prog w k)++(ks.map (eK prog w)).toArray=hs++((k :: ks).map (eK prog w)).toArray:=by simp
  have e2:s.toks+eR k+(ks.map eR).sum=s.toks+((k :: ks).map eR).sum:=by rw [bi,cw];omega
  rw [e1];show Q _ { s with toks:=s.toks+eR k+(ks.map eR).sum };rw [e2];exact q
theorem uZ {ks:List NKey}{a:Addr}{Q:Int->Shared->Prop}(hu:A.units+3 < cLine) (h:fK s.heap ks a) (q:Q (nI prog w ks) { s with toks:=s.toks+jB ks }):wpAny (model prog w) A (pyHash (.ref a)) Q E s:=by
 obtain ⟨o,items,n,h1,h2,h3,h4⟩:=h;have hT:s.TypeIs (.ref a) "tuple":=⟨o,h1,h2⟩
 show wpAny _ _ (pyHashByItsType (.ref a)) _ _ _;unfold pyHashByItsType;refine aa (wx (by omega) ?_);refine aa (gc hT F.slot_tuple_hash.lookup ?_);rw [aj (by decide)];refine aa (gc hT F.slot_tuple_hash.lookup ?_);rw [aj (by decide)];refine aa (me hT oq (dw oq hT zh ?_ (yq _)));unfold Builtin.«tuple.__hash__» slotArgs;simp only [List.isEmpty_nil,Bool.not_true,Bool.false_eq_true,if_false,bind_assoc,List.length_nil,bne_self_eq_false];refine aa (am ?_);refine aa (zi h1 h3 ?_);refine aa ?_;rw [<- jg];refine aA8 (by show A.units+1 < cLine;omega) #[] s h4 ?_;unfold retInt;refine aa (aAc (am ⟨_,rfl,?_⟩));have e:(#[]++(ks.map (eK prog w)).toArray:Array Int).toList=ks.map (eK prog w):=by simp
 rw [e];show wpAny _ _ (if (decide (-(2:Int) ^ 63<=Builtin.Tuple.tupleHashOf (ks.map (eK prog w))) && decide (Builtin.Tuple.tupleHashOf (ks.map (eK prog w)) < 2 ^ 63))=true then _ else _) Q E _;unfold nI reduceHash at q;have e3:s.toks+jB ks=s.toks+(ks.map eR).sum+1:=by unfold jB;omega
 rw [e3] at q
 by_cases hr:(decide (-(2:Int) ^ 63<=Builtin.Tuple.tupleHashOf (ks.map (eK prog w))) && decide (Builtin.Tuple.tupleHashOf (ks.map (eK prog w)) < 2 ^ 63))=true
 ·rw [ao hr] at q ⊢;exact am q
 ·rw [aj hr] at q ⊢;exact aa (kc (am q))
theorem bS7 {j k:NKey}{u v:Value}(hu:A.units+1 < cLine) (a:oW s.heap j u) (b:oW s.heap k v):SeqAt.EqAt A s u v (decide (j=k)):=by
 cases j with
 |inl j =>
  cases k with
  |inl k =>
   have e:decide ((Sum.inl j:NKey)=Sum.inl k)=decide (j=k):=by simp
   rw [e];intro prog w E Q q;exact (bH prog w).eqBool (a:=j) (b:=k) a b q
  |inr ks =>
   have e:decide ((Sum.inl j:NKey)=Sum.inr ks)=false:=by simp
   rw [e];obtain ⟨c,rfl,o,items,n,h1,h2,h3,_⟩:=b;have ht:s.heap.IsTuple c items:=⟨o,h1,h2,n,h3⟩
   rcases aW (show dU j u=true from a) with ⟨i,t,_,rfl⟩ | ⟨x,t,_,rfl⟩
   ·exact xt i t ht (by omega)
   ·exact xu x t ht (by omega)
 |inr js =>
  obtain ⟨c,rfl,t⟩:=a
  cases k with
  |inl k =>
   have e:decide ((Sum.inr js:NKey)=Sum.inl k)=false:=by simp
   rw [e];obtain ⟨o,items,n,h1,h2,h3,_⟩:=t;have ht:s.heap.IsTuple c items:=⟨o,h1,h2,n,h3⟩
   rcases aW (show dU k v=true from b) with ⟨i,t,_,rfl⟩ | ⟨x,t,_,rfl⟩
   ·exact xw i t ht (by omega)
   ·exact xx x t ht (by omega)
  |inr ks =>
   obtain ⟨c2,rfl,t2⟩:=b;have e:decide ((Sum.inr js:NKey)=Sum.inr ks)=decide (js=ks):=by simp
   rw [e];intro prog w E Q q;exact wpAny_eqBool_tuple (knd:=bH prog w) (by omega) t.key t2.key q
theorem fJ.at {h:Heap}:∀ {ks:List NKey}{vs:List Value},fJ h ks vs->∀ {i:Nat}(hi:i < vs.length),∃ hk:i < ks.length,oW h ks[i] vs[i]
 |_,_,.nil,i,hi=>absurd hi (qm i)
 |_,_,.cons a r,0,_=>⟨Nat.succ_pos _,a⟩
 |_,_,.cons a r,i+1,hi=>by
  obtain ⟨hk,q⟩:=fJ.at r (i:=i) (by simpa using hi);exact ⟨by simpa using hk,by simpa using q⟩
theorem fJ.len {h:Heap}:∀ {ks:List NKey}{vs:List Value},fJ h ks vs->ks.length=vs.length
 |_,_,.nil=>rfl
 |_,_,.cons _ r=>by rw [ci,ci,fJ.len r]
theorem cC2 {xs ys:List NKey}:((List.range (min xs.length ys.length)).all (fun i=>decide (xs.getD i (.inr [])=ys.getD i (.inr []))) && xs.length == ys.length)=decide (xs=ys):=by
 rw [ke,ii,List.all_eq_true,qf,oo]
 constructor
 ·rintro ⟨h,l⟩;refine ve l fun i h1 h2=>?_
  have:=ba (h i (by simp;omega))
  simpa [List.getD,h1,h2] using this
 ·rintro rfl;exact ⟨fun i _=>ap rfl,rfl⟩
theorem aM6 {x y:List NKey}{a b:Addr}{Q:Bool->Shared->Prop}(hu:A.units+3 < cLine) (p:fK s.heap x a) (q:fK s.heap y b) (h:Q (decide (x=y)) s):wpAny (model prog w) A (eqBool (.ref a) (.ref b)) Q E s:=by
 by_cases e:a=b
 ·subst e;have:=rA p q;subst this;rw [ap rfl] at h;exact vo (.ref a) prog w E Q h
 ·obtain ⟨o,items,n,h1,h2,h3,h4⟩:=p;obtain ⟨o2,items2,n2,k1,k2,k3,k4⟩:=q;have l1:x.length=items.size:=by rw [h4.len,fw]
  have l2:y.length=items2.size:=by rw [k4.len,fw]
  have r:=zx (A:=A) (s:=s) (l:=a) (b:=b) (items:=items) (items2:=items2) (e:=fun i=>decide (x.getD i (.inr [])=y.getD i (.inr []))) ⟨o,h1,h2,n,h3⟩ ⟨o2,k1,k2,n2,k3⟩ (by omega) fun j q1 q2=>?_
  ·rw [<- l1, <- l2,cC2] at r;exact zj e r prog w E Q h
  ·obtain ⟨g1,s1⟩:=h4.at (i:=j) (by simpa using q1);obtain ⟨g2,s2⟩:=k4.at (i:=j) (by simpa using q2);have e1:x.getD j (.inr [])=x[j]:=by simp [List.getD,g1]
   have e2:y.getD j (.inr [])=y[j]:=by simp [List.getD,g2]
   rw [e1,e2];simp only [Array.getElem_toList] at s1 s2;exact bS7 (by show A.units+1+1 < cLine;omega) s1 s2
theorem aP0 {d:Nat}{ks:List Key}{a:Addr}{Q:Bool->Shared->Prop}(hk:rY s.heap ks a) (h:Q true s):wpAny (model prog w) A (eqIsQuiet (d+1) (.ref a)) Q E s:=by
 have hT:=(hk.key (prog:=prog) (w:=w)).typeIs;obtain ⟨o,items,n,ho,_,hd,hi⟩:=hk;unfold eqIsQuiet;refine aa (gc hT F.slot_tuple_eq.lookup ?_);show wpAny _ _ (isInstance (.ref a) (.type "tuple") >>= _) _ _ s;refine aa (ij hT lq ?_);simp only [Bool.not_true,Bool.false_eq_true,if_false];refine aa (gi ho hd ?_);refine aa ?_;show wpAny _ _ (forIn items _ _) _ _ s;rw [<- jg];refine md _ (fun rest r s'=>r.1=none/\s'=s/\∀ v∈rest,carriedByValue v=true) _ ?_ ?_ _ _ ⟨rfl,rfl,(hi.items (prog:=prog) (w:=w)).byValue⟩
 ·rintro v rest r s' ⟨hr,rfl,hall⟩;rw [uh _ (hall v ah)];refine aa (am ?_);simp only [Bool.not_true,Bool.false_eq_true,if_false];exact am ⟨rfl,rfl,fun u hu'=>hall u (ae _ hu')⟩
 ·rintro ⟨r1,r2⟩ s' ⟨hr,rfl,_⟩;simp only at hr;subst hr;exact am h
theorem vN {d:Nat}{k:NKey}{v:Value}{Q:Bool->Shared->Prop}(hk:oW s.heap k v) (h:Q true s):wpAny (model prog w) A (eqIsQuiet (d+1) v) Q E s:=by
 cases k with
 |inl k =>
  rw [uh _ ((bH prog w).byValue k v hk)];exact am h
 |inr ks =>
  obtain ⟨c,rfl,t⟩:=hk;exact aP0 t h
theorem aH3 {ks:List NKey}{a:Addr}{Q:Bool->Shared->Prop}(hk:fK s.heap ks a) (h:Q true s):wpAny (model prog w) A (eqIsQuiet 8 (.ref a)) Q E s:=by
 obtain ⟨o,items,n,ho,hc,hd,hi⟩:=hk;have hT:s.TypeIs (.ref a) "tuple":=⟨o,ho,hc⟩
 unfold eqIsQuiet;refine aa (gc hT F.slot_tuple_eq.lookup ?_);show wpAny _ _ (isInstance (.ref a) (.type "tuple") >>= _) _ _ s;refine aa (ij hT lq ?_);simp only [Bool.not_true,Bool.false_eq_true,if_false];refine aa (gi ho hd ?_);refine aa ?_;show wpAny _ _ (forIn items _ _) _ _ s;rw [<- jg];refine md _ (fun rest r s'=>r.1=none/\s'=s/\∃ ks,fJ s.heap ks rest) _ ?_ ?_ _ _ ⟨rfl,rfl,ks,hi⟩
 ·rintro v rest r s' ⟨hr,rfl,ks',hall⟩
  cases hall with
  |cons a1 a2 =>
   refine aa (vN a1 ?_);simp only [Bool.not_true,Bool.false_eq_true,if_false];exact am ⟨rfl,rfl,_,a2⟩
 ·rintro ⟨r1,r2⟩ s' ⟨hr,rfl,_⟩;simp only at hr;subst hr;exact am h
end
theorem fK.keeps {h h':Heap}{ks:List NKey}{a d:Addr}{q:Obj}{es:Array DictEntry}{ep:Nat}(t:fK h ks a) (hd:h.get? d=some q) (hq:q.data= .dict es ep) (s:Heap.SameBut d h h'):fK h' ks a:=by
 obtain ⟨o,items,n,ho,hc,hdd,hi⟩:=t;exact ⟨o,items,n,by rw [s.2 a (rQ ho hdd hd hq)];exact ho,hc,hdd,vU hd hq s hi⟩
def aX9 (prog:Program) (w:World):HeapKind prog w (List NKey) where
 is:=fK
 hash:=nI prog w
 draws:=jB
 room:=fun A=>A.units+3 < cLine
 inj:=fun hx hy=>rA hx hy
 keeps:=fun x ho hd hs=>x.keeps ho hd hs
 pyHash:=fun hu hk h=>uZ hu hk h
 eqBool:=fun hu hx hy h=>aM6 hu hx hy h
 quiet:=fun hk h=>aH3 hk h
theorem bQ5 {X:Cx}{j:Nat}{p p2:Pos}:PE X (.UnaryOp .USub (.Constant (.int 1) j p) p2) (tC (.int (-1))):=fun pins s σ H Q I h =>
 aX7 (X:=X) aE2 aB pins s σ H Q I ⟨1,rfl,h⟩
section
variable {X:Cx}
def cL1 (t:TT):TT:=fun σ H Q=>∃ P:Bool->Hp->Prop,t σ H P/\∀ b G,P b G->Q b G
theorem jU {e:Expr}{t:TT}(h:PT X e t):PT X e (cL1 t):=by
 intro pins s σ H Q I ⟨P,h1,h2⟩;refine cV (h pins s σ H P I h1) ?_;rintro b s' ⟨G,I',p⟩;exact ⟨G,I',h2 b G p⟩
def cI7 (t:TS):TS:=fun D σ H=>∃ P:St->Hp->Prop,t { D with nx:=P } σ H/\∀ σ' G,P σ' G->D.nx σ' G
theorem kQ {st:Stmt}{t:TS}(h:PS X st t):PS X st (cI7 t):=by
 intro pins s σ H D I ⟨P,h1,h2⟩;refine cV (h pins s σ H _ I h1) fun f s' q=>?_
 cases f with
 |next =>
  obtain ⟨σ',G,I',p⟩:=q;exact ⟨σ',G,I',h2 σ' G p⟩
 |ret v=>exact q
 |brk=>exact q
 |cont=>exact q
end
section
variable {X:Cx}{o e:Expr}{es:List Expr}{to:TE}{t:TA}{name:Str}{apos cpos:Pos}{T id:String}{r:V->List V->Hp->VK->Prop}
end
def cP6 (σ: List Key) (k:Key):Bool:=σ.any fun j=>decide (j=k)
def ddS (σ: List Key) (k:Key):List Key:=if cP6 σ k=true then σ else σ++[k]
def dd (ks:List Key):List Key:=ks.foldl ddS []
section
variable {prog:Program}{w:World}{A:Around}{R:Result->Shared->Prop}{I:Addr}{fp wr:List Addr}{G:Array GenState->Array GenState->Prop}{n:Nat}{P:Nat->Value->Prop}{St:Nat->Shared->Prop}
end
section
variable {prog:Program}{w:World}{A:Around}{E:Value->Shared->Prop}{s:Shared}
end
section
variable {X:Cx}
end
section
variable {prog:Program}{w:World}{A:Around}{E:Value->Shared->Prop}{s:Shared}{a:Addr}{S:Key->Bool}{n:Nat}{led:Bool}
end
section
variable {prog:Program}{w:World}{A:Around}{E:Value->Shared->Prop}{s:Shared}
end
section
variable {prog:Program}{w:World}{A:Around}{E:Value->Shared->Prop}{s:Shared}{a:Addr}{o:Obj}{es:Array (Int×Value)}{ep:Nat}{t:SetTable}
end
section
variable {prog:Program}{w:World}{A:Around}{E:Value->Shared->Prop}{s:Shared}{a it tp:Addr}{o:Obj}{es:Array (Int×Value)}{ep:Nat}{t:SetTable}
theorem aG0 {α: Type}{R:α->Shared->Prop}(hh:A.handled=none) (k:∀ e g,(∀ c o,s.heap.get? c=some o->g.get? c=some o)->(∃ oe,g.get? e=some oe/\oe.cls= .type "StopIteration")->E (.ref e) { s with heap:=g }) :
  wpAny (model prog w) A (newExc (.type "StopIteration") [] >>= fun e=>raiseNew (α:=α) e) R E s:=by
 refine aa ?_;simp only [newExc,newTuple];refine aa (ff (aa (m:=firstArgMember _ _) (kq (a:=Value.none) (by first | rfl | (simp only [firstArgMember];rfl)) (ff ?_ (by size_fits)))) (by size_fits));unfold raiseNew;refine aa (yc ?_);rw [hh];refine aa (am (aAb (k _ _ (fun c o e=>af _ (af _ e)) ⟨_,az _ rfl,rfl⟩)))
end
theorem nM:entryFor table "dict_keyiterator.__next__"=some Builtin.«dict_keyiterator.__next__» :=vb (by kernel_rfl)
theorem wV:entryFor table "dict.__iter__"=some Builtin.«dict.__iter__» :=vb (by kernel_rfl)
section
variable {prog:Program}{w:World}{A:Around}{E:Value->Shared->Prop}{s:Shared}{d it:Addr}{o:Obj}{es:Array DictEntry}{ep i:Nat}
theorem bB1 {e:DictEntry}{Q:Option Value->Shared->Prop}(hit:s.heap.IsKeyIter it d i es.size ep) (h1:s.heap.get? d=some o) (h3:o.data= .dict es ep) (he:es[i]?=some e)
  (hQ:∀ h',h'.IsKeyIter it d (i+1) es.size ep->Heap.SameBut it s.heap h'->Q (some e.key) { s with heap:=h' }):wpAny (model prog w) A (pyNext (.ref it)) Q E s:=by
 obtain ⟨oi,ho,hc,hd⟩:=id hit;unfold pyNext;refine aa (jp (ef (name:=Str.ofString "__next__") hit.typeIs ja (dw ja hit.typeIs nM ?_ (qo _))));refine (show wpAny _ _ (Builtin.Dict_items.slot0 "__next__" ⟨[.ref it],[]⟩ >>= _) _ _ _ from aa ?_);unfold Builtin.Dict_items.slot0 slotArgs;simp only [List.isEmpty_nil,Bool.not_true,Bool.false_eq_true,if_false,bind_assoc,List.length_nil,bne_self_eq_false];refine aa (am (am (aa ?_)));refine (show wpAny _ _ ((typeNameOfWhole (.ref it) >>= fun _=>_) >>= fun _=>_) _ _ _ from aa (aa (iu hit.typeIs (am ?_))));refine aa (wpAny_fieldsOf ho hd ?_)
 dsimp only
 refine (show wpAny _ _ (dictEntries d >>= fun _=>_) _ _ _ from aa (uj h1 h3 ?_));rw [aj (by simp)];refine (show wpAny _ _ (dictEpoch d >>= fun _=>_) _ _ _ from aa (vq h1 h3 ?_));rw [aj (by simp)];refine am ?_;refine (show wpAny _ _ (match if (i:Int) < 0 then none else es[(i:Int).toNat]? with | some e=>_ | none=>_) _ _ _ from ?_);rw [aj (by omega),dz,he]
 dsimp only
 refine (show wpAny _ _ ((typeNameOfWhole (.ref it) >>= fun _=>_) >>= fun _=>_) _ _ _ from aa (aa (iu hit.typeIs (am ?_))));refine aa (wy hit.typeIs ?_);refine aa (jv ho hd (by show (1:Nat) < 4;decide) ?_);have hit':(s.heap.update it (Obj.mapFields (·.setIfInBounds 1 (rawInt ((i:Int)+1))))).IsKeyIter it d (i+1) es.size ep :=
  ⟨_,jj _ ho (kx (gq hd _)),(ug ..).trans hc,by rw [gq hd];simp [rawInt]⟩
 refine aa (jn ?_);refine (show wpAny _ _ (Builtin.Dict_items.isOneOf (.ref it) _ >>= fun _=>_) _ _ _ from aa (wy (s:={ s with heap:=s.heap.update it (Obj.mapFields (·.setIfInBounds 1 (rawInt ((i:Int)+1)))) }) hit'.typeIs ?_));refine (show wpAny _ _ (pure e.key) _ _ _ from am ?_);exact am ⟨_,rfl,am (hQ _ hit' (ic ..))⟩
theorem bL0 {Q:Option Value->Shared->Prop}(hh:A.handled=none) (hit:s.heap.IsKeyIter it d i es.size ep) (h1:s.heap.get? d=some o) (h3:o.data= .dict es ep) (he:es[i]?=none)
  (hQ:∀ h',(∀ c u,c≠it->s.heap.get? c=some u->h'.get? c=some u)->Q none { s with heap:=h' }):wpAny (model prog w) A (pyNext (.ref it)) Q E s:=by
 obtain ⟨oi,ho,hc,hd⟩:=id hit;unfold pyNext;refine aa (jp (ef (name:=Str.ofString "__next__") hit.typeIs ja (dw ja hit.typeIs nM ?_ (qo _))));refine (show wpAny _ _ (Builtin.Dict_items.slot0 "__next__" ⟨[.ref it],[]⟩ >>= _) _ _ _ from aa ?_);unfold Builtin.Dict_items.slot0 slotArgs;simp only [List.isEmpty_nil,Bool.not_true,Bool.false_eq_true,if_false,bind_assoc,List.length_nil,bne_self_eq_false];refine aa (am (am (aa ?_)));refine (show wpAny _ _ ((typeNameOfWhole (.ref it) >>= fun _=>_) >>= fun _=>_) _ _ _ from aa (aa (iu hit.typeIs (am ?_))));refine aa (wpAny_fieldsOf ho hd ?_)
 dsimp only
 refine (show wpAny _ _ (dictEntries d >>= fun _=>_) _ _ _ from aa (uj h1 h3 ?_));rw [aj (by simp)];refine (show wpAny _ _ (dictEpoch d >>= fun _=>_) _ _ _ from aa (vq h1 h3 ?_));rw [aj (by simp)];refine am ?_;refine (show wpAny _ _ (match if (i:Int) < 0 then none else es[(i:Int).toNat]? with | some e=>_ | none=>_) _ _ _ from ?_);rw [aj (by omega),dz,he]
 dsimp only
 refine (show wpAny _ _ ((typeNameOfWhole (.ref it) >>= fun _=>_) >>= fun _=>_) _ _ _ from aa (aa (iu hit.typeIs (am ?_))));refine aa (jv ho hd (by show (0:Nat) < 4;decide) ?_);refine aG0 (show A.in1.handled=none from hh) fun e g kp ex=>?_
 obtain ⟨oe,e1,e2⟩:=ex;refine aa (ij (T:="StopIteration") (b:=true) ⟨oe,e1,e2⟩ re ?_);exact am (hQ _ fun c u hc e=>kp c u (by rw [ka _ _ _ _ hc];exact e))
theorem bB3 {Q:Value->Shared->Prop}(ns:(d == sysModules)=false) (h1:s.heap.get? d=some o) (h2:o.ExactDict) (h3:o.data= .dict es ep)
  (h:Q (.ref s.heap.objs.size) { s with heap:=s.heap.push { cls:= .type "dict_keyiterator",data:= .fields #[.ref d,.int 0 0,.int (es.size:Nat) 0,.int (ep:Nat) 0] } }):wpAny (model prog w) A (pyIter (.ref d)) Q E s:=by
 have hT:s.TypeIs (.ref d) "dict":=⟨o,h1,h2.1⟩
 refine zw hT F.slot_dict_iter (dw F.slot_dict_iter hT wV ?_ (F.args_dict_iter_1 _));unfold Builtin.«dict.__iter__» Builtin.Dict.dictSlotNone;simp only [bind_assoc];refine aa (wpAny_notOrdered_dict hT ?_);unfold slotArgs;simp only [List.isEmpty_nil,Bool.not_true,Bool.false_eq_true,if_false,bind_assoc,List.length_nil,bne_self_eq_false];refine aa (am (aa (am ?_)));refine (show wpAny _ _ (pure d >>= fun _=>_) _ _ _ from aa (am ?_));unfold Builtin.Dict.showsAll;rw [ns,aj (by decide)];refine aa (am ?_);refine aa (uj h1 h3 ?_);refine aa (vq h1 h3 ?_);refine aa ?_;unfold newFields;refine ff (am ⟨_,rfl,"dict_keyiterator",_,⟨_,az _ rfl,rfl⟩,F.slot_dict_keyiterator_next.lookup,h⟩)
end
theorem aR.freezeT {X:Cx}{pins:List (Addr×Obj)}{σ: St}{H:Hp}{s:Shared}{d:Addr}{o:Obj}{kvs:List (List Key×V)}(I:aR X pins σ H s) (h:H d=some (.dT kvs)) (ho:s.heap.get? d=some o) :
  aR X pins σ (aM H d (.frz o (.dT kvs))) s:=by
 have nd:∀ b u,H b=some u->(∀ z,u≠ .dT z)->b≠d:=fun b u e hu z=>by
  rw [z,h] at e;exact hu _ (cx e).symm
 refine I.step (g':=s.gens) (d':=s.drawn) (t':=s.toks) (h':=s.heap) (ch:=[]) (fun _ z=>nomatch z) (fun b u _ _ _ e _=>e) (fun b u _ _ _ e _=>⟨u.slots,e⟩) (fun b u _ e n=>by rw [aG (fun z=>by rw [z,h] at n;cases n)];exact n)
  (fun b u _ e=>⟨u,e⟩) (fun b xs e=>by rw [aG (nd b _ e (by intro z c;cases c))];exact e) (fun b u v e=>by rw [aG (nd b _ e (by intro z c;cases c))];exact e)
  (fun b ps e=>⟨#[],by rw [aG (nd b _ e (by intro z c;cases c)),e];simp⟩) (fun m hm=>hm) (fun b u e=>?_) I.bare
 by_cases hb:b=d
 ·subst hb;rw [aD] at e
  cases e
  refine ⟨ho,?_⟩;exact (show cJ X.prog X.w H s.heap b (.dT kvs) from I.hok b _ h).stay (fun c v _ q=>q) (fun c q=>by rw [aG (nd c _ q (by intro z w;cases w))];exact q) fun c xs q=>by rw [aG (nd c _ q (by intro z w;cases w))];exact q
 ·rw [aG hb] at e;exact (I.hok b u e).stay (fun c v _ q=>q) (fun c q=>by rw [aG (nd c _ q (by intro z w;cases w))];exact q) fun c xs q=>by rw [aG (nd c _ q (by intro z w;cases w))];exact q
def bO8 (d:Addr) (o:Obj) (kvs:List (List Key×V)):It :=
 ⟨fun i H=>i < kvs.length/\H d=some (.frz o (.dT kvs)),fun i H x H'=>H'=H/\∃ k v b,kvs[i]?=some (k,v)/\H b=some (.tup (k.map kV))/\x= .ref b,fun i H=>kvs.length<=i/\H d=some (.frz o (.dT kvs))⟩
theorem zM {α β: Type}{F:α->β->Prop}:∀ {l:List α}{m:List β}{i:Nat}{a:α},Paired F l m->l[i]?=some a->∃ b,m[i]?=some b/\F a b
 |_,_,_,_,.nil,e=>by simp at e
 |_,_,0,_,.cons r _,e=>by
  simp at e;subst e;exact ⟨_,by simp,r⟩
 |_,_,i+1,_,.cons _ r,e=>by
  obtain ⟨u,e1,e2⟩:=zM (i:=i) r (by simpa using e);exact ⟨u,by simpa using e1,e2⟩
theorem wW {X:Cx}{pins:List (Addr×Obj)}{σ: St}{H:Hp}{s:Shared}{d:Addr}{o:Obj}{kvs:List (List Key×V)}{es:Array DictEntry}{ep:Nat}(I:aR X pins σ H s) (ho:o.data= .dict es ep) (h:H d=some (.frz o (.dT kvs))) :
  s.heap.get? d=some o/\o.ExactDict/\(d == sysModules)=false/\es.size=kvs.length/\∀ (i:Nat) (k:List Key) (v:V),kvs[i]?=some (k,v)->∃ (e:DictEntry) (b:Addr),es[i]?=some e/\e.key= .ref b/\H b=some (.tup (k.map kV)):=by
 obtain ⟨e,z,ns,xs,rel,o',es',ep',h1,h2,h3,h4,h5⟩:=(show cJ X.prog X.w H s.heap d (.frz o (.dT kvs)) from I.hok d _ h)
 rw [e] at h1
 cases h1
 rw [ho] at h3
 cases h3
 refine ⟨e,h2,ns,?_,fun i k v hk=>?_⟩
 ·rw [<- fw,h4,ac,iq rel]
 ·obtain ⟨q,hq,r⟩:=zM rel hk;refine ⟨_,q.2.1,by rw [<- pj,h4,cy,hq];rfl,rfl,r.2.1⟩
theorem aF1 {P:Program}{w:World}{K:W.Frag}{tg:Expr}(d it:Addr) (o:Obj) (kvs:List (List Key×V)) {es:Array DictEntry}{ep:Nat}(ho:o.data= .dict es ep) :
  pO P w K tg (bO8 d o kvs) [it] it (fun i h=>i<=kvs.length/\h.IsKeyIter it d i kvs.length ep) where
 mem:=by simp
 obj:=fun i h st b hb=>by
  have e:b=it:=by simpa using hb
  subst e;obtain ⟨o,e,c,q⟩:=st.2;exact ⟨o,e,fun v z=>by rw [q] at z;cases z⟩
 keep:=fun i h h' st k=>⟨st.1,st.2.at fun o e=>k it (by simp) o e⟩
 item:=by
  intro X hP hw hK hc i pins s σ H E I hf st hg;subst hP hw hK;obtain ⟨hi,hd⟩:=hg;obtain ⟨f0,f1,f2,f3,f4,f5⟩:=hf it (by simp);obtain ⟨h1,h2,ns,sz,at'⟩:=wW I ho hd;obtain ⟨e,b,he,kb,hb⟩:=at' i kvs[i].1 kvs[i].2 (by simp [hi]);have st2:=st.2;rw [<- sz] at st2;refine bB1 st2 h1 ho he fun h' st' sb=>?_
  have I1:aR X pins σ H { s with heap:=h' }:=I.turned (t':=s.toks) (fun b o hb e=>(sb.2 b hb).trans e) f0 f1 f3 f4 f5;obtain ⟨o2,e2,c2,d2⟩:=id st';rw [sz] at st';refine ⟨e.key,rfl,go_of (s:={ s with heap:=h' }) e2 c2 d2 (by decide) ⟨.ref b,H,I1,kb,⟨rfl,kvs[i].1,kvs[i].2,b,by simp [hi],hb,rfl⟩,⟨hi,st'⟩,fun b hb=>(hf b hb).1⟩⟩
 done:=by
  intro X hP hw hK hc i pins s σ H E I hf st hg;subst hP hw hK;obtain ⟨hi,hd⟩:=hg;obtain ⟨f0,f1,f2,f3,f4,f5⟩:=hf it (by simp);obtain ⟨h1,h2,ns,sz,at'⟩:=wW I ho hd;have st2:=st.2;rw [<- sz] at st2;exact bL0 (I.ok.hd hc) st2 h1 ho (Array.getElem?_eq_none (by omega)) fun h' eb=>⟨rfl,I.turned (t':=s.toks) (fun b o hb e=>eb b o hb e) f0 f1 f3 f4 f5⟩
 self:=fun _ _ _ _ _ st h=>xj st.2 h
def aB7 (tl:TE):TI:=fun σ H R=>tl σ H fun x H1=>∃ d kvs,x= .ref d/\H1 d=some (.dT kvs)/\∀ o,R (bO8 d o kvs) (aM H1 d (.frz o (.dT kvs)))
theorem aY1 {X:Cx}{tg l:Expr}{tl:TE}(hl:PE X l tl):PI X tg l (aB7 tl):=by
 intro pins s σ H R I h;refine cV (hl pins s σ H _ I h) ?_;rintro v s1 ⟨x,H1,I1,r1,q1⟩
 obtain ⟨d,kvs,e,hd,q⟩:=q1;subst e
 cases r1
 obtain ⟨z,ns,xs,rel,o,es,ep,h1,h2,h3,h4,h5⟩:=(show cJ X.prog X.w H1 s1.heap d (.dT kvs) from I1.hok d _ hd)
 have I2:=I1.freezeT hd h1;obtain ⟨_,_,_,sz,_⟩:=wW I2 h3 aD;refine bB3 ns h1 h2 h3 ?_;have f:(aM H1 d (.frz o (.dT kvs))) s1.heap.objs.size=none:=I2.hok.fresh (ai _);refine ⟨s1.heap.objs.size,[s1.heap.objs.size],_,_,_,rfl,I2.kept (t':=s1.toks) fun b o e=>af _ e,aF1 d _ o kvs h3,⟨bj _,⟨_,az _ rfl,rfl,by rw [sz];rfl⟩⟩,fun b hb=>?_,q o⟩;have e:b=s1.heap.objs.size:=by simpa using hb
 subst e;exact I2.fpOk (ai _) f
theorem aC5 {d:Addr}{o:Obj}{kvs:List (List Key×V)}{g:TG}{tc:TT}{te:TE}{Kf:List V->Hp->Prop}{σ0:St}{H1:Hp}(Pv:Nat->List V->St->Hp->Prop) (hz:kvs.length < sizeLine) (h0:Pv 0 [] σ0 H1) (hb:∀ i zs σ H,Pv i zs σ H->zs.length<=i)
  (hl:∀ i zs σ H,i<=kvs.length->Pv i zs σ H->H d=some (.frz o (.dT kvs)))
  (hs:∀ i k v b zs σ H,kvs[i]?=some (k,v)->H b=some (.tup (k.map kV))->Pv i zs σ H->g (.ref b) σ H fun σ2 H2=>tc σ2 H2 fun b H3=>if b=true then te σ2 H3 fun y H4=>Pv (i+1) (zs++[y]) σ2 H4 else Pv (i+1) zs σ2 H3)
  (hd:∀ zs σ H,Pv kvs.length zs σ H->Kf zs H):lK (bO8 d o kvs) g tc te Kf σ0 H1:=by
 refine ⟨fun i m zs σ H=>m=kvs.length - i/\i<=kvs.length/\Pv i zs σ H,⟨kvs.length,by simp,bj _,h0⟩,?_⟩;rintro i m zs σ H ⟨rfl,hi,p⟩;have q1:=hl i zs σ H hi p;refine ⟨cg (hb _ _ _ _ p) (cg hi hz),?_⟩
 by_cases hlt:i < kvs.length
 ·refine .inr ⟨⟨hlt,q1⟩,Pv (i+1),fun zs' σ' H' p'=>⟨kvs.length - (i+1),fj hlt (dq i),rfl,hlt,p'⟩,fun x H' y=>?_⟩;obtain ⟨rfl,k,v,b,e1,e2,rfl⟩:=y;exact hs i k v b zs σ _ e1 e2 p
 ·have e:i=kvs.length:=by omega
  subst e;exact .inl ⟨⟨ai _,q1⟩,hd zs σ H p⟩
section
variable {prog:Program}{w:World}{A:Around}{E:Value->Shared->Prop}{s:Shared}{a it tp:Addr}{o:Obj}{es:Array (Int×Value)}{ep:Nat}{t:SetTable}
end
section
variable {prog:Program}{w:World}{A:Around}{E:Value->Shared->Prop}{s:Shared}{a tp:Addr}{o:Obj}{es:Array (Int×Value)}{ep:Nat}{t:SetTable}
end
theorem aR.draw {X:Cx}{pins:List (Addr×Obj)}{σ: St}{H:Hp}{s:Shared}(I:aR X pins σ H s) (d':Drawn):aR X pins σ H { s with drawn:=d' } :=
 ⟨I.ok,I.os,I.bare,I.base,I.loc,I.cell,I.free,I.freeC,I.pin,I.hok,I.len⟩
section
variable {prog:Program}{w:World}{A:Around}{E:Value->Shared->Prop}{s:Shared}{a:Addr}{o:Obj}{es:Array (Int×Value)}{ep:Nat}{t:SetTable}
end
abbrev tk (ts:List Str):List Key:=ts.map Sum.inr
section
variable {prog:Program}{w:World}{A:Around}{R:Result->Shared->Prop}{I:Addr}{fp wr:List Addr}{G:Array GenState->Array GenState->Prop}{n:Nat}{P:Nat->Value->Prop}{St:Nat->Shared->Prop}{led:Bool}
end
section
variable {prog:Program}{w:World}{A:Around}{E:Value->Shared->Prop}{s:Shared}
end
section
variable {X:Cx}{k:Nat}
end
def aE5 (H:Hp):NKey->V->Prop
 |.inl k,v=>v=kV k
 |.inr ks,v=>∃ c,v= .ref c/\H c=some (.tup (ks.map kV))
def NAt (H:Hp) (ks:List NKey) (b:Addr):Prop:=∃ vs,H b=some (.tup vs)/\Paired (aE5 H) ks vs
theorem aE5.ts {H H':Hp}(t:∀ b ys,H b=some (.tup ys)->H' b=some (.tup ys)):∀ {k:NKey}{v:V},aE5 H k v->aE5 H' k v
 |.inl _,_,h=>h
 |.inr _,_,⟨c,e,h⟩=>⟨c,e,t _ _ h⟩
theorem NAt.ts {H H':Hp}(t:∀ b ys,H b=some (.tup ys)->H' b=some (.tup ys)) {ks:List NKey}{b:Addr}(h:NAt H ks b):NAt H' ks b:=by obtain ⟨vs,e,r⟩:=h;exact ⟨vs,t _ _ e,Paired.mapP r fun _ _ z=>z.ts t⟩
theorem aC8 {k:Key}{u:Value}(h:bG (kV k) u):dU k u=true:=by
 cases k with
 |inl i=>obtain ⟨t,rfl⟩:=(show ∃ t,u=Value.int i t from h);simp [dU,Value.isInt,Value.isStrOf]
 |inr x=>obtain ⟨t,rfl⟩:=(show ∃ t,u=Value.str x t from h);simp [dU,Value.isInt,Value.isStrOf]
theorem bQ0:∀ {ks:List Key}{us:List Value},bB (ks.map kV) us->lG ks us
 |[],_,.nil=> .nil
 |k :: ks,_,.cons r t=> .cons (aC8 r) (bQ0 t)
section
variable {P:Program}{w:World}{H:Hp}{h:Heap}{a:Addr}
theorem cB1 {ks:List Key}(ok:kA P w H h) (e:H a=some (.tup (ks.map kV))):rY h ks a:=by
 obtain ⟨_,its,r,o,h1,h2,n,h3,_⟩:=(show cJ P w H h a (.tup (ks.map kV)) from ok a _ e)
 exact ⟨o,its.toArray,n,h1,h2,h3,by simpa using bQ0 r⟩
theorem bB4 (ok:kA P w H h):∀ {ks:List NKey}{vs:List V}{us:List Value},Paired (aE5 H) ks vs->bB vs us->fJ h ks us
 |_,_,_,.nil,.nil=> .nil
 |.inl k :: _,_,_,.cons a r,.cons b t=> .cons (show dU k _=true from aC8 (by rw [<- (show _=kV k from a)];exact b)) (bB4 ok r t)
 |.inr ks :: _,_,_,.cons ⟨c,e,q⟩ r,.cons b t=> .cons ⟨c,by subst e;exact b,cB1 ok q⟩ (bB4 ok r t)
theorem bH5 {ks:List NKey}(ok:kA P w H h) (e:NAt H ks a):(aX9 P w).is h ks a:=by
 obtain ⟨vs,e,r⟩:=e;obtain ⟨_,its,rv,o,h1,h2,n,h3,_⟩:=(show cJ P w H h a (.tup vs) from ok a _ e)
 exact ⟨o,its.toArray,n,h1,h2,h3,by simpa using bB4 ok r rv⟩
end
section
variable {X:Cx}{pins:List (Addr×Obj)}{σ: St}{H:Hp}{s:Shared}{a:Addr}{y v:V}{u r:Value}{o:Option V}{A:Around}{E:Value->Shared->Prop}
end
section
variable {X:Cx}{o i e value:Expr}{pos pos' tpos:Pos}{td ty tv:TE}{k:Nat}
end
abbrev RKey:=Key ⊕ List NKey
instance rkeyEq:DecidableEq (List RKey):= @instDecidableEqList RKey (@instDecidableEqSum Key (List NKey) inferInstance inferInstance)
def yM (h:Heap):RKey->Value->Prop
 |.inl k,v=>dU k v=true
 |.inr ks,v=>∃ c,v= .ref c/\fK h ks c
inductive zS (h:Heap):List RKey->List Value->Prop where
 |nil:zS h [] []
 |cons {k:RKey}{v:Value}{ks:List RKey}{vs:List Value}:yM h k v->zS h ks vs->zS h (k :: ks) (v :: vs)
def lF (h:Heap) (ks:List RKey) (a:Addr):Prop:=∃ o items n,h.get? a=some o/\o.cls= .type "tuple"/\o.data= .seq items n/\zS h ks items.toList
theorem bC4 {h:Heap}:∀ {x y:RKey}{v:Value},yM h x v->yM h y v->x=y
 |.inl k,.inl j,v,a,b=>by rw [xB a b]
 |.inl k,.inr j,v,a,⟨c,e,_⟩=>by
  subst e;rcases aW (show dU k (.ref c)=true from a) with ⟨i,t,_,z⟩ | ⟨x,t,_,z⟩ <;> cases z
 |.inr k,.inl j,v,⟨c,e,_⟩,b=>by
  subst e;rcases aW (show dU j (.ref c)=true from b) with ⟨i,t,_,z⟩ | ⟨x,t,_,z⟩ <;> cases z
 |.inr k,.inr j,v,⟨c,e,p⟩,⟨c2,e2,q⟩=>by
  subst e
  cases e2
  rw [rA p q]
theorem aM8 {h:Heap}:∀ {x y:List RKey}{vs:List Value},zS h x vs->zS h y vs->x=y
 |_,_,_,.nil,.nil=>rfl
 |_,_,_,.cons a r,.cons b t=>by rw [bC4 a b,aM8 r t]
theorem uX {h:Heap}{x y:List RKey}{a:Addr}(p:lF h x a) (q:lF h y a):x=y:=by
 obtain ⟨o,i,n,a1,b1,c1,d1⟩:=p;obtain ⟨o2,i2,n2,a2,b2,c2,d2⟩:=q;rw [a1] at a2
 cases a2
 rw [c1] at c2
 cases c2
 exact aM8 d1 d2
theorem sU {h h':Heap}{d:Addr}{q:Obj}{es:Array DictEntry}{ep:Nat}(hd:h.get? d=some q) (hq:q.data= .dict es ep) (s:Heap.SameBut d h h'):∀ {ks:List RKey}{vs:List Value},zS h ks vs->zS h' ks vs
 |_,_,.nil=> .nil
 |_,_,.cons (k:= .inl _) a r=> .cons a (sU hd hq s r)
 |_,_,.cons (k:= .inr _) ⟨c,e,t⟩ r=>by
  exact .cons ⟨c,e,fK.keeps t hd hq s⟩ (sU hd hq s r)
section
variable {prog:Program}{w:World}{A:Around}{E:Value->Shared->Prop}{s:Shared}
theorem yJ {d:Nat}{ks:List NKey}{a:Addr}{Q:Bool->Shared->Prop}(hk:fK s.heap ks a) (h:Q true s):wpAny (model prog w) A (eqIsQuiet (d+2) (.ref a)) Q E s:=by
 obtain ⟨o,items,n,ho,hc,hd,hi⟩:=hk;have hT:s.TypeIs (.ref a) "tuple":=⟨o,ho,hc⟩
 unfold eqIsQuiet;refine aa (gc hT F.slot_tuple_eq.lookup ?_);show wpAny _ _ (isInstance (.ref a) (.type "tuple") >>= _) _ _ s;refine aa (ij hT lq ?_);simp only [Bool.not_true,Bool.false_eq_true,if_false];refine aa (gi ho hd ?_);refine aa ?_;show wpAny _ _ (forIn items _ _) _ _ s;rw [<- jg];refine md _ (fun rest r s'=>r.1=none/\s'=s/\∃ ks,fJ s.heap ks rest) _ ?_ ?_ _ _ ⟨rfl,rfl,ks,hi⟩
 ·rintro v rest r s' ⟨hr,rfl,ks',hall⟩
  cases hall with
  |cons a1 a2 =>
   refine aa (vN a1 ?_);simp only [Bool.not_true,Bool.false_eq_true,if_false];exact am ⟨rfl,rfl,_,a2⟩
 ·rintro ⟨r1,r2⟩ s' ⟨hr,rfl,_⟩;simp only at hr;subst hr;exact am h
end
section
variable {prog:Program}{w:World}
def dN (prog:Program) (w:World):RKey->Int
 |.inl k=>(bH prog w).hash k
 |.inr ks=>nI prog w ks
def dY:RKey->Nat
 |.inl _=>1
 |.inr ks=>jB ks
def nV (prog:Program) (w:World) (ks:List RKey):Int:=reduceHash (Builtin.Tuple.tupleHashOf (ks.map (dN prog w)))
def jR (ks:List RKey):Nat:=(ks.map dY).sum+1
variable {A:Around}{E:Value->Shared->Prop}{s:Shared}
theorem aO6 {k:RKey}{v:Value}{Q:Int->Shared->Prop}(hu:A.units+3 < cLine) (h:yM s.heap k v) (q:Q (dN prog w k) { s with toks:=s.toks+dY k }):wpAny (model prog w) A (pyHash v) Q E s:=by
 cases k with
 |inl k=>exact (bH prog w).pyHash (k:=k) h q
 |inr ks =>
  obtain ⟨c,rfl,t⟩:=h;exact uZ hu t q
theorem vH {Q:Array Int->Shared->Prop}(hu:A.units+3 < cLine):∀ {ks:List RKey}{vs:List Value}(hs:Array Int) (s:Shared),zS s.heap ks vs->Q (hs++(ks.map (dN prog w)).toArray) { s with toks:=s.toks+(ks.map dY).sum } ->
  wpAny (model prog w) A (forIn vs hs fun x (r:Array Int)=>do
   let i <- pyHash x
   pure (ForInStep.yield (r.push i))) Q E s
 |_,_,hs,s,.nil,q=>by
  rw [List.forIn_nil];exact am (by simpa using q)
 |k :: ks,v :: vs,hs,s,.cons a r,q=>by
  rw [vp];simp only [bind_assoc,pure_bind];refine aa (aO6 hu a ?_);refine vH hu (hs.push (dN prog w k)) { s with toks:=s.toks+dY k } r ?_;have e1:hs.push (dN prog w k)++(ks.map (dN prog w)).toArray=hs++((k :: ks).map (dN prog w)).toArray:=by simp
  have e2:s.toks+dY k+(ks.map dY).sum=s.toks+((k :: ks).map dY).sum:=by rw [bi,cw];omega
  rw [e1];show Q _ { s with toks:=s.toks+dY k+(ks.map dY).sum };rw [e2];exact q
theorem aE1 {ks:List RKey}{a:Addr}{Q:Int->Shared->Prop}(hu:A.units+6 < cLine) (h:lF s.heap ks a) (q:Q (nV prog w ks) { s with toks:=s.toks+jR ks }):wpAny (model prog w) A (pyHash (.ref a)) Q E s:=by
 obtain ⟨o,items,n,h1,h2,h3,h4⟩:=h;have hT:s.TypeIs (.ref a) "tuple":=⟨o,h1,h2⟩
 show wpAny _ _ (pyHashByItsType (.ref a)) _ _ _;unfold pyHashByItsType;refine aa (wx (by omega) ?_);refine aa (gc hT F.slot_tuple_hash.lookup ?_);rw [aj (by decide)];refine aa (gc hT F.slot_tuple_hash.lookup ?_);rw [aj (by decide)];refine aa (me hT oq (dw oq hT zh ?_ (yq _)));unfold Builtin.«tuple.__hash__» slotArgs;simp only [List.isEmpty_nil,Bool.not_true,Bool.false_eq_true,if_false,bind_assoc,List.length_nil,bne_self_eq_false];refine aa (am ?_);refine aa (zi h1 h3 ?_);refine aa ?_;rw [<- jg];refine vH (by show A.units+1+3 < cLine;omega) #[] s h4 ?_;unfold retInt;refine aa (aAc (am ⟨_,rfl,?_⟩));have e:(#[]++(ks.map (dN prog w)).toArray:Array Int).toList=ks.map (dN prog w):=by simp
 rw [e];show wpAny _ _ (if (decide (-(2:Int) ^ 63<=Builtin.Tuple.tupleHashOf (ks.map (dN prog w))) && decide (Builtin.Tuple.tupleHashOf (ks.map (dN prog w)) < 2 ^ 63))=true then _ else _) Q E _;unfold nV reduceHash at q;have e3:s.toks+jR ks=s.toks+(ks.map dY).sum+1:=by unfold jR;omega
 rw [e3] at q
 by_cases hr:(decide (-(2:Int) ^ 63<=Builtin.Tuple.tupleHashOf (ks.map (dN prog w))) && decide (Builtin.Tuple.tupleHashOf (ks.map (dN prog w)) < 2 ^ 63))=true
 ·rw [ao hr] at q ⊢;exact am q
 ·rw [aj hr] at q ⊢;exact aa (kc (am q))
theorem bN4 {j k:RKey}{u v:Value}(hu:A.units+3 < cLine) (a:yM s.heap j u) (b:yM s.heap k v):SeqAt.EqAt A s u v (decide (j=k)):=by
 cases j with
 |inl j =>
  cases k with
  |inl k =>
   have e:decide ((Sum.inl j:RKey)=Sum.inl k)=decide (j=k):=by simp
   rw [e];intro prog w E Q q;exact (bH prog w).eqBool (a:=j) (b:=k) a b q
  |inr ks =>
   have e:decide ((Sum.inl j:RKey)=Sum.inr ks)=false:=by simp
   rw [e];obtain ⟨c,rfl,o,items,n,h1,h2,h3,_⟩:=b;have ht:s.heap.IsTuple c items:=⟨o,h1,h2,n,h3⟩
   rcases aW (show dU j u=true from a) with ⟨i,t,_,rfl⟩ | ⟨x,t,_,rfl⟩
   ·exact xt i t ht (by omega)
   ·exact xu x t ht (by omega)
 |inr js =>
  obtain ⟨c,rfl,t⟩:=a
  cases k with
  |inl k =>
   have e:decide ((Sum.inr js:RKey)=Sum.inl k)=false:=by simp
   rw [e];obtain ⟨o,items,n,h1,h2,h3,_⟩:=t;have ht:s.heap.IsTuple c items:=⟨o,h1,h2,n,h3⟩
   rcases aW (show dU k v=true from b) with ⟨i,t,_,rfl⟩ | ⟨x,t,_,rfl⟩
   ·exact xw i t ht (by omega)
   ·exact xx x t ht (by omega)
  |inr ks =>
   obtain ⟨c2,rfl,t2⟩:=b;have e:decide ((Sum.inr js:RKey)=Sum.inr ks)=decide (js=ks):=by simp
   rw [e];intro prog w E Q q;exact aM6 (by omega) t t2 q
theorem zS.at {h:Heap}:∀ {ks:List RKey}{vs:List Value},zS h ks vs->∀ {i:Nat}(hi:i < vs.length),∃ hk:i < ks.length,yM h ks[i] vs[i]
 |_,_,.nil,i,hi=>absurd hi (qm i)
 |_,_,.cons a r,0,_=>⟨Nat.succ_pos _,a⟩
 |_,_,.cons a r,i+1,hi=>by
  obtain ⟨hk,q⟩:=zS.at r (i:=i) (by simpa using hi);exact ⟨by simpa using hk,by simpa using q⟩
theorem zS.len {h:Heap}:∀ {ks:List RKey}{vs:List Value},zS h ks vs->ks.length=vs.length
 |_,_,.nil=>rfl
 |_,_,.cons _ r=>by rw [ci,ci,zS.len r]
theorem bK6 {xs ys:List RKey}:((List.range (min xs.length ys.length)).all (fun i=>decide (xs.getD i (.inr [])=ys.getD i (.inr []))) && xs.length == ys.length)=decide (xs=ys):=by
 rw [ke,ii,List.all_eq_true,qf,oo]
 constructor
 ·rintro ⟨h,l⟩;refine ve l fun i h1 h2=>?_
  have:=ba (h i (by simp;omega))
  simpa [List.getD,h1,h2] using this
 ·rintro rfl;exact ⟨fun i _=>ap rfl,rfl⟩
theorem aY6 {x y:List RKey}{a b:Addr}{Q:Bool->Shared->Prop}(hu:A.units+6 < cLine) (p:lF s.heap x a) (q:lF s.heap y b) (h:Q (decide (x=y)) s):wpAny (model prog w) A (eqBool (.ref a) (.ref b)) Q E s:=by
 by_cases e:a=b
 ·subst e;have:=uX p q;subst this;rw [ap rfl] at h;exact vo (.ref a) prog w E Q h
 ·obtain ⟨o,items,n,h1,h2,h3,h4⟩:=p;obtain ⟨o2,items2,n2,k1,k2,k3,k4⟩:=q;have l1:x.length=items.size:=by rw [h4.len,fw]
  have l2:y.length=items2.size:=by rw [k4.len,fw]
  have r:=zx (A:=A) (s:=s) (l:=a) (b:=b) (items:=items) (items2:=items2) (e:=fun i=>decide (x.getD i (.inr [])=y.getD i (.inr []))) ⟨o,h1,h2,n,h3⟩ ⟨o2,k1,k2,n2,k3⟩ (by omega) fun j q1 q2=>?_
  ·rw [<- l1, <- l2,bK6] at r;exact zj e r prog w E Q h
  ·obtain ⟨g1,s1⟩:=h4.at (i:=j) (by simpa using q1);obtain ⟨g2,s2⟩:=k4.at (i:=j) (by simpa using q2);have e1:x.getD j (.inr [])=x[j]:=by simp [List.getD,g1]
   have e2:y.getD j (.inr [])=y[j]:=by simp [List.getD,g2]
   rw [e1,e2];simp only [Array.getElem_toList] at s1 s2;exact bN4 (by show A.units+1+3 < cLine;omega) s1 s2
theorem aF0 {d:Nat}{k:RKey}{v:Value}{Q:Bool->Shared->Prop}(hk:yM s.heap k v) (h:Q true s):wpAny (model prog w) A (eqIsQuiet (d+2) v) Q E s:=by
 cases k with
 |inl k =>
  rw [uh _ ((bH prog w).byValue k v hk)];exact am h
 |inr ks =>
  obtain ⟨c,rfl,t⟩:=hk;exact yJ t h
theorem aA9 {ks:List RKey}{a:Addr}{Q:Bool->Shared->Prop}(hk:lF s.heap ks a) (h:Q true s):wpAny (model prog w) A (eqIsQuiet 8 (.ref a)) Q E s:=by
 obtain ⟨o,items,n,ho,hc,hd,hi⟩:=hk;have hT:s.TypeIs (.ref a) "tuple":=⟨o,ho,hc⟩
 unfold eqIsQuiet;refine aa (gc hT F.slot_tuple_eq.lookup ?_);show wpAny _ _ (isInstance (.ref a) (.type "tuple") >>= _) _ _ s;refine aa (ij hT lq ?_);simp only [Bool.not_true,Bool.false_eq_true,if_false];refine aa (gi ho hd ?_);refine aa ?_;show wpAny _ _ (forIn items _ _) _ _ s;rw [<- jg];refine md _ (fun rest r s'=>r.1=none/\s'=s/\∃ ks,zS s.heap ks rest) _ ?_ ?_ _ _ ⟨rfl,rfl,ks,hi⟩
 ·rintro v rest r s' ⟨hr,rfl,ks',hall⟩
  cases hall with
  |cons a1 a2 =>
   refine aa (aF0 a1 ?_);simp only [Bool.not_true,Bool.false_eq_true,if_false];exact am ⟨rfl,rfl,_,a2⟩
 ·rintro ⟨r1,r2⟩ s' ⟨hr,rfl,_⟩;simp only at hr;subst hr;exact am h
end
theorem lF.keeps {h h':Heap}{ks:List RKey}{a d:Addr}{q:Obj}{es:Array DictEntry}{ep:Nat}(t:lF h ks a) (hd:h.get? d=some q) (hq:q.data= .dict es ep) (s:Heap.SameBut d h h'):lF h' ks a:=by
 obtain ⟨o,items,n,ho,hc,hdd,hi⟩:=t;exact ⟨o,items,n,by rw [s.2 a (rQ ho hdd hd hq)];exact ho,hc,hdd,sU hd hq s hi⟩
def kX (prog:Program) (w:World):HeapKind prog w (List RKey) where
 is:=lF
 hash:=nV prog w
 draws:=jR
 room:=fun A=>A.units+6 < cLine
 inj:=fun hx hy=>uX hx hy
 keeps:=fun x ho hd hs=>x.keeps ho hd hs
 pyHash:=fun hu hk h=>aE1 hu hk h
 eqBool:=fun hu hx hy h=>aY6 hu hx hy h
 quiet:=fun hk h=>aA9 hk h
abbrev NE3:=List RKey×Addr×V
abbrev KN3:List NE3->List (List RKey×Addr×Value)->Prop:=Paired fun p q=>p.1=q.1/\p.2.1=q.2.1/\bG p.2.2 q.2.2
def dN3 (P:Program) (w:World) (a:Addr) (xs:List NE3):HO:= .ext fun h=>xs.length<=sizeLine/\(a == sysModules)=false/\(xs.map (·.1)).Nodup/\∃ ys,KN3 xs ys/\∃ o es ep,h.get? a=some o/\o.ExactDict/\o.data= .dict es ep/\es.toList=ys.map (entryOfKey (kX P w))
def xR (H:Hp):RKey->V->Prop
 |.inl k,v=>v=kV k
 |.inr ks,v=>∃ c,v= .ref c/\NAt H ks c
def oK (H:Hp) (ks:List RKey) (b:Addr):Prop:=∃ vs,H b=some (.tup vs)/\Paired (xR H) ks vs
theorem xR.ts {H H':Hp}(t:∀ b ys,H b=some (.tup ys)->H' b=some (.tup ys)):∀ {k:RKey}{v:V},xR H k v->xR H' k v
 |.inl _,_,h=>h
 |.inr _,_,⟨c,e,h⟩=>⟨c,e,NAt.ts t h⟩
theorem oK.ts {H H':Hp}(t:∀ b ys,H b=some (.tup ys)->H' b=some (.tup ys)) {ks:List RKey}{b:Addr}(h:oK H ks b):oK H' ks b:=by obtain ⟨vs,e,r⟩:=h;exact ⟨vs,t _ _ e,Paired.mapP r fun _ _ z=>z.ts t⟩
section
variable {P:Program}{w:World}{H:Hp}{h:Heap}{a:Addr}
theorem aG2 (ok:kA P w H h):∀ {ks:List RKey}{vs:List V}{us:List Value},Paired (xR H) ks vs->bB vs us->zS h ks us
 |_,_,_,.nil,.nil=> .nil
 |.inl k :: _,_,_,.cons a r,.cons b t=> .cons (show dU k _=true from aC8 (by rw [<- (show _=kV k from a)];exact b)) (aG2 ok r t)
 |.inr ks :: _,_,_,.cons ⟨c,e,q⟩ r,.cons b t=> .cons ⟨c,by subst e;exact b,bH5 (P:=P) (w:=w) ok q⟩ (aG2 ok r t)
theorem mU {ks:List RKey}(ok:kA P w H h) (e:oK H ks a):(kX P w).is h ks a:=by
 obtain ⟨vs,e,r⟩:=e;obtain ⟨_,its,rv,o,h1,h2,n,h3,_⟩:=(show cJ P w H h a (.tup vs) from ok a _ e)
 exact ⟨o,its.toArray,n,h1,h2,h3,by simpa using aG2 ok r rv⟩
end
def lB (xs:List NE3):List (List RKey×V):=xs.map fun x=>(x.1,x.2.2)
def cG4 (P:Program) (w:World) (H:Hp) (d:Addr) (l:List (List RKey×V)):Prop:=∃ xs,Rd H d (dN3 P w d xs)/\lB xs=l/\∀ x∈xs,oK H x.1 x.2.1
def DN3 (P:Program) (w:World) (H:Hp) (d:Addr) (l:List (List RKey×V)):Prop:=∃ xs,H d=some (dN3 P w d xs)/\lB xs=l/\∀ x∈xs,oK H x.1 x.2.1
theorem DN3.r {P:Program}{w:World}{H:Hp}{d:Addr}{l:List (List RKey×V)}(h:DN3 P w H d l):cG4 P w H d l:=by obtain ⟨xs,a,b,c⟩:=h;exact ⟨xs,.inl a,b,c⟩
theorem DN3.keep {P:Program}{w:World}{H H':Hp}{d:Addr}{l:List (List RKey×V)}(h:DN3 P w H d l) (t:∀ b ys,H b=some (.tup ys)->H' b=some (.tup ys)) (s:∀ o,H d=some o->H' d=some o):DN3 P w H' d l :=by
 obtain ⟨xs,a,b,c⟩:=h;exact ⟨xs,s _ a,b,fun x hx=>(c x hx).ts t⟩
theorem DN3.ext {P:Program}{w:World}{H:Hp}{d:Addr}{l:List (List RKey×V)}(h:DN3 P w H d l):∃ φ,H d=some (.ext φ):=by obtain ⟨_,a,_,_⟩:=h;exact ⟨_,a⟩
theorem KN3.val {xs:List NE3}{ys:List (List RKey×Addr×Value)}(r:KN3 xs ys) (k:List RKey):kO (dA (lB xs) k) ((atKey ys k).map (·.2)):=by
 induction r with
 |nil=>exact jt
 |@cons p q ps qs h t ih =>
  obtain ⟨h1,_,h2⟩:=h
  by_cases e:p.1=k
  ·have e':q.1=k:=h1.symm.trans e;have b:atKey (q :: qs) k=some q.2:=by simp [atKey,List.find?_cons,e']
   rw [show lB (p :: ps)=(p.1,p.2.2) :: lB ps from rfl,bN e,b];exact h2
  ·have e':¬ q.1=k:=fun z=>e (h1.trans z)
   have b:atKey (q :: qs) k=atKey qs k:=by simp [atKey,List.find?_cons,e']
   rw [show lB (p :: ps)=(p.1,p.2.2) :: lB ps from rfl,aO e,b];exact ih
def fE (xs:List NE3) (k:List RKey) (b:Addr) (v:V):List NE3 :=
 if ((lB xs).any fun kv=>decide (kv.1=k))=true then xs.map (fun x=>if x.1=k then (x.1,x.2.1,v) else x) else xs++[(k,b,v)]
theorem pA (xs:List NE3) (k:List RKey) (b:Addr) (v:V):lB (fE xs k b v)=cM (lB xs) k v:=by
 unfold fE cM
 split
 ·unfold lB;rw [jf,jf];refine eh fun x _=>?_
  show (fun y:NE3=>(y.1,y.2.2)) (if x.1=k then (x.1,x.2.1,v) else x)=if x.1=k then (x.1,v) else (x.1,x.2.2)
  split <;> rfl
 ·unfold lB;rw [aq];rfl
theorem wY {xs:List NE3}{k:List RKey}{b:Addr}{v:V}{x:NE3}(h:x∈fE xs k b v):(x.1=k/\x.2.1=b)\/∃ y∈xs,x.1=y.1/\x.2.1=y.2.1:=by
 unfold fE at h
 split at h
 ·obtain ⟨y,hy,e⟩:=cm.mp h;refine .inr ⟨y,hy,?_⟩
  split at e <;> (subst e;exact ⟨rfl,rfl⟩)
 ·rcases bf.mp h with h | h
  ·exact .inr ⟨x,h,rfl,rfl⟩
  ·rw [au.mp h];exact .inl ⟨rfl,rfl⟩
theorem KN3.put {xs:List NE3}{ys:List (List RKey×Addr×Value)}(r:KN3 xs ys) (k:List RKey) {b:Addr}{y:V}{u:Value}(ry:bG y u):KN3 (fE xs k b y) (storedH ys k b u):=by
 have e:((lB xs).any fun kv=>decide (kv.1=k))=(atKey ys k).isSome:=by
  rw [dJ,(r.val k).isSome_eq,oj]
 unfold fE storedH;rw [e]
 by_cases q:(atKey ys k).isSome=true
 ·rw [ao q,ao q];clear e q
  induction r with
  |nil=>exact .nil
  |@cons p q ps qs h t ih =>
   rw [bi,bi];refine .cons ?_ ih;obtain ⟨h1,h2,h3⟩:=h;unfold putAt
   by_cases e:p.1=k
   ·rw [ao e,ao (h1.symm.trans e)];exact ⟨h1,h2,ry⟩
   ·rw [aj e,aj (fun z=>e (h1.trans z))];exact ⟨h1,h2,h3⟩
 ·rw [aj q,aj q];exact aAa r ⟨rfl,rfl,ry⟩
theorem KN3.keys {xs:List NE3}{ys:List (List RKey×Addr×Value)}(r:KN3 xs ys):xs.map (·.1)=ys.map (·.1):=by
 induction r with
 |nil=>rfl
 |cons h _ ih=>rw [bi,bi,h.1,ih]
section
variable {P:Program}{w:World}{H:Hp}{h:Heap}{a:Addr}
theorem pT {xs:List NE3}(ok:kA P w H h) (e:Rd H a (dN3 P w a xs)) (hk:∀ x∈xs,oK H x.1 x.2.1):xs.length<=sizeLine/\(a == sysModules)=false/\∃ ys,KN3 xs ys/\h.DictOfH (kX P w) a ys:=by
 obtain ⟨z,y,nd,ys,r,o,es,ep,h1,h2,h3,h4⟩:=(show cJ P w H h a (dN3 P w a xs) from bC8 ok e).1;refine ⟨z,y,ys,r,o,es,ep,h1,h2,h3,h4,fun x hx=>?_,by rw [<- r.keys];exact nd⟩;have all:∀ {l:List NE3}{m:List (List RKey×Addr×Value)},KN3 l m->(∀ x∈l,oK H x.1 x.2.1)->∀ x∈m,(kX P w).is h x.1 x.2.1:=by
  intro l m q
  induction q with
  |nil=>intro _ x hx;exact nomatch hx
  |@cons p q ps qs hq t ih =>
   intro hl x hx;rcases av.mp hx with e | hx
   ·subst e;rw [<- hq.1, <- hq.2.1];exact mU ok (hl p ah)
   ·exact ih (fun x hx=>hl x (ae _ hx)) x hx
 exact all r hk x hx
theorem aX5 {xs:List NE3}{ys:List (List RKey×Addr×Value)}{H':Hp}(z:xs.length<=sizeLine) (y:(a == sysModules)=false) (r:KN3 xs ys) (dd:h.DictOfH (kX P w) a ys):cJ P w H' h a (dN3 P w a xs):=by
 obtain ⟨o,es,ep,h1,h2,h3,h4,_,h5⟩:=dd;refine ⟨⟨z,y,by rw [r.keys];exact h5,ys,r,o,es,ep,h1,h2,h3,h4⟩,⟨o,h1⟩,fun g1 g2 g k=>?_⟩;obtain ⟨z,y,nd,ys,r,o,es,ep,h1,h2,h3,h4⟩:=g;exact ⟨z,y,nd,ys,r,o,es,ep,k _ h1,h2,h3,h4⟩
theorem aR2 {P:Program}{w:World}{H:Hp}(h:Heap) (hb:sysModules < h.objs.size):cJ P w H (h.push { cls:= .type "dict",data:= .dict #[] }) h.objs.size (dN3 P w h.objs.size []) :=
 aX5 (bj _) (gn.mpr (Ne.symm (bt hb))) .nil ⟨_, #[],0,az _ rfl,⟨rfl,rfl,rfl⟩,rfl,rfl,(fun x hx=>nomatch hx),qz⟩
end
def zL (P:Program) (w:World) (H:Hp) (a:Addr) (y:V) (r:Option V):Prop:=fD H a y r\/∃ l ks b,cG4 P w H a l/\y= .ref b/\oK H ks b/\r=dA l ks
def bQ1 (P:Program) (w:World) (H:Hp) (a:Addr) (y v:V) (Q:Hp->Prop):Prop:=(∃ H',nA H a y v H'/\Q H')\/∃ l ks b,DN3 P w H a l/\y= .ref b/\oK H ks b/\l.length < sizeLine/\∀ H',DN3 P w H' a (cM l ks v)->(∀ c,c≠a->H' c=H c)->Q H'
theorem sN (xs:List NE3):(lB xs).length=xs.length:=ac _
section
variable {X:Cx}{pins:List (Addr×Obj)}{σ: St}{H:Hp}{s:Shared}{a:Addr}{y v:V}{u r:Value}{o:Option V}{A:Around}{E:Value->Shared->Prop}
theorem aN7 (I:aR X pins σ H s) (g:zL X.prog X.w H a y o):s.TypeIs (.ref a) "dict":=by
 rcases g with g | ⟨l,ks,b,⟨xs,e,_,hk⟩,_⟩
 ·exact oV I g
 ·obtain ⟨_,_,ys,_,dd⟩:=pT I.hok e hk;exact dd.typeIs
theorem aD8 {Q:Value->Shared->Prop}(hu:A.units+8 < cLine) (I:aR X pins σ H s) (g:zL X.prog X.w H a y (some v)) (ry:bG y u) (h:∀ w' s',aR X pins σ H s'->bG v w'->Q w' s') :
  wpAny (model X.prog X.w) A (getItem (.ref a) u) Q E s:=by
 rcases g with g | ⟨l,ks,b,⟨xs,e,el,hk⟩,ey,eb,l'⟩
 ·exact tY (by omega) I g ry h
 ·subst ey el
  cases (show u=Value.ref b from ry)
  obtain ⟨z,hd,ys,rel,dd⟩:=pT I.hok e hk;obtain ⟨w',hw,rw'⟩:=kO.some_of (v:=v) (o:=(atKey ys ks).map (·.2)) (by rw [l'];exact rel.val ks);obtain ⟨p,hp,hp2⟩:=gh.mp hw;refine yx (show A.units+1+6 < cLine by omega) (mU I.hok eb) dd hp ?_;rw [hp2];exact h w' _ (I.tok _) rw'
theorem bD9 {Q:Value->Shared->Prop}(hu:A.units+8 < cLine) (I:aR X pins σ H s) (g:zL X.prog X.w H a y o) (ry:bG y u) (h:∀ s',aR X pins σ H s'->Q (.bool (!o.isSome)) s') :
  wpAny (model X.prog X.w) A (compareOp .NotIn u (.ref a)) Q E s:=by
 rcases g with g | ⟨l,ks,b,⟨xs,e,el,hk⟩,ey,eb,l'⟩
 ·exact bL3 (by omega) I g ry h
 ·subst ey el
  cases (show u=Value.ref b from ry)
  obtain ⟨z,hd,ys,rel,dd⟩:=pT I.hok e hk;refine wpAny_notIn_heap (show A.units+1+6 < cLine by omega) (mU I.hok eb) hd dd ?_;have q:=(rel.val ks).isSome_eq;rw [oj] at q;rw [<- q, <- l'];exact h _ (I.tok _)
theorem bM1 {h':Heap}{t':Nat}{xs:List NE3}{ys:List (List RKey×Addr×Value)}{ks:List RKey}{b:Addr}(I:aR X pins σ H s) (e:H a=some (dN3 X.prog X.w a xs)) (hk:∀ x∈xs,oK H x.1 x.2.1) (eb:oK H ks b) (rv:bG v r) (z:xs.length < sizeLine) (hd:(a == sysModules)=false) (rel:KN3 xs ys)
  (dd:h'.DictOfH (kX X.prog X.w) a (storedH ys ks b r)) (hs:Heap.SameBut a s.heap h'):∃ H',aR X pins σ H' { s with heap:=h',toks:=t' }/\DN3 X.prog X.w H' a (cM (lB xs) ks v)/\∀ c,c≠a->H' c=H c:=by
 have hl:(fE xs ks b v).length<=sizeLine:=by
  have:=iG (lB xs) ks v;rw [<- pA xs ks b v,sN,sN] at this;omega
 have he:∃ q,h'.get? a=some q:=by obtain ⟨q,_,_,hq,_⟩:=dd;exact ⟨q,hq⟩
 have nt:∀ c ys,H c=some (.tup ys)->aM H a (dN3 X.prog X.w a (fE xs ks b v)) c=some (.tup ys):=fun c ys ec=>by
  rw [aG (fW ec e (fun z=>nomatch z))];exact ec
 refine ⟨aM H a (dN3 X.prog X.w a (fE xs ks b v)),pV I (by rw [e];exact jt) hs he (aX5 hl hd (rel.put ks rv) dd),⟨_,aD,pA xs ks b v,fun x hx=>?_⟩,fun c hc=>aG hc⟩;rcases wY hx with ⟨e1,e2⟩ | ⟨y,hy,e1,e2⟩
 ·rw [e1,e2];exact eb.ts nt
 ·rw [e1,e2];exact (hk y hy).ts nt
theorem aD7 {W:Hp->Prop}{Q:Unit->Shared->Prop}(hu:A.units+8 < cLine) (I:aR X pins σ H s) (g:bQ1 X.prog X.w H a y v W) (ry:bG y u) (rv:bG v r) (h:∀ H' s',aR X pins σ H' s'->W H'->Q () s') :
  wpAny (model X.prog X.w) A (setItem (.ref a) u r) Q E s:=by
 rcases g with ⟨H',g,q⟩ | ⟨l,ks,b,⟨xs,e,el,hk⟩,ey,eb,l',q⟩
 ·exact uR (by omega) I g ry rv fun s' I'=>h _ _ I' q
 ·subst ey el
  cases (show u=Value.ref b from ry)
  obtain ⟨z,hd,ys,rel,dd⟩:=pT I.hok (.inl e) hk;rw [sN] at l';refine yy (hsz:=by rw [<- iq rel];exact z) (show A.units+1+6 < cLine by omega) (mU I.hok eb) dd fun h' dd' hs=>?_
  obtain ⟨H',I',d',o'⟩:=bM1 I e hk eb rv l' hd rel dd' hs;exact h _ _ I' (q H' d' o')
end
def aX3 (P:Program) (w:World) (td ty:TE):TE:=fun σ H Q=>td σ H fun x H1=>ty σ H1 fun y H2=>∃ a v,x= .ref a/\zL P w H2 a y (some v)/\Q v H2
def yU (P:Program) (w:World) (ty td:TE):TE:=fun σ H Q=>ty σ H fun y H1=>td σ H1 fun x H2=>∃ a o,x= .ref a/\zL P w H2 a y o/\Q (.bl (!o.isSome)) H2
def bG3 (P:Program) (w:World) (td ty tv:TE):TS:=fun D σ H=>tv σ H fun v H1=>td σ H1 fun x H2=>ty σ H2 fun y H3=>∃ a,x= .ref a/\bQ1 P w H3 a y v fun H4=>D.nx σ H4
section
variable {X:Cx}{o i e value:Expr}{pos pos' tpos:Pos}{td ty tv:TE}{k:Nat}
theorem aY0 (hr:dE k X.A) (ho:PE X o td) (hi:PE X i ty) (hs:aY7 i):PE X (.Subscript o i pos) (aX3 X.prog X.w td ty):=by
 intro pins s σ H Q I h;have hu:=hr.units;refine aK5 PySem.F.slot_dict_getitem.lookup hs (cV (ho pins s σ H _ I h) ?_);rintro u s1 ⟨x,H1,I1,rx,q1⟩;refine cV (hi pins s1 σ H1 _ I1 q1) ?_;rintro iv s2 ⟨y,H2,I2,ry,a,v,ex,g,q2⟩;subst ex;obtain rfl:u=Value.ref a:=rx;exact ⟨aN7 I2 g,aD8 (by omega) I2 g ry fun w' s3 I3 rw'=>⟨v,H2,I3,rw',q2⟩⟩
theorem aH8 (hr:dE k X.A) (hi:PE X i ty) (ho:PE X o td):PC X .NotIn i o (yU X.prog X.w ty td):=by
 intro pins s σ H Q I h;have hu:=hr.units;refine cV (hi pins s σ H _ I h) ?_;rintro iv s1 ⟨y,H1,I1,ry,q1⟩;refine cV (ho pins s1 σ H1 _ I1 q1) ?_;rintro u s2 ⟨x,H2,I2,rx,a,ov,ex,g,q2⟩
 subst ex;obtain rfl:u=Value.ref a:=rx;exact bD9 (by omega) I2 g ry fun s3 I3=>⟨.bl (!ov.isSome),H2,I3,rfl,q2⟩
theorem bB2 (hr:dE k X.A) (ho:PE X o td) (hi:PE X i ty) (hv:PE X value tv) (hs:swapsWith value (some (.Subscript o i pos')) pos.line X.env=pure false) :
  PS X (.Assign [.Subscript o i pos'] value pos) (bG3 X.prog X.w td ty tv):=by
 intro pins s σ H D I h;have hu:=hr.units;refine vx (cV (hv pins s σ H _ I h) ?_) hs;rintro r s1 ⟨v,H1,I1,rv,q1⟩;refine cV (ho pins s1 σ H1 _ I1 q1) ?_;rintro u s2 ⟨x,H2,I2,rx,q2⟩;refine cV (hi pins s2 σ H2 _ I2 q2) ?_;rintro iv s3 ⟨y,H3,I3,ry,a,ex,g⟩;subst ex;obtain rfl:u=Value.ref a:=rx;exact aD7 (by omega) I3 g ry rv fun H4 s4 I4 q3=>⟨σ,H4,I4,q3⟩
end
end L2
namespace Mine
open PySem L2
inductive Tm where
 |num (p:Addr) (n:Int)
 |nam (p:Addr) (x:Str)
 |op (p:Addr) (s:Str) (a b:Tm)
def Tm.p:Tm->Addr
 |.num p _=>p
 |.nam p _=>p
 |.op p _ _ _=>p
def Tm.names:Tm->List Str
 |.num _ _=>[]
 |.nam _ x=>[x]
 |.op _ _ a b=>a.names++b.names
def Tm.size:Tm->Nat
 |.op _ _ a b=>1+a.size+b.size
 |_=>1
def cB6:List Str:=["+","-","*","<","="]
def Tm.ok:Tm->Prop
 |.num _ n=>0<=n/\n < 1000
 |.nam _ _=>True
 |.op _ s a b=>s∈cB6/\a.ok/\b.ok
def qP (H:Hp):Tm->Prop
 |.num p n=>H p=some (.tup [.str "num",.int n])
 |.nam p x=>H p=some (.tup [.str "name",.str x])
 |.op p s a b=>H p=some (.tup [.str "op",.str s,.ref a.p,.ref b.p])/\qP H a/\qP H b
theorem qP.ts {H H':Hp}(t:TS H H'):∀ {a:Tm},qP H a->qP H' a
 |.num _ _,h=>t _ _ h
 |.nam _ _,h=>t _ _ h
 |.op _ _ _ _,⟨h,ha,hb⟩=>⟨t _ _ h,qP.ts t ha,qP.ts t hb⟩
def Tm.w:Tm->Str
 |.num _ _=>"num"
 |.nam _ _=>"name"
 |.op _ _ _ _=>"op"
def Tm.rest:Tm->List V
 |.num _ n=>[.int n]
 |.nam _ x=>[.str x]
 |.op _ s a b=>[.str s,.ref a.p,.ref b.p]
theorem qP.at {H:Hp}:∀ {t:Tm},qP H t->H t.p=some (.tup (.str t.w :: t.rest))
 |.num _ _,h=>h
 |.nam _ _,h=>h
 |.op _ _ _ _,h=>h.1
theorem Tm.size_pos:∀ t:Tm,1<=t.size
 |.num _ _=>ai _
 |.nam _ _=>ai _
 |.op _ _ _ _=>by unfold Tm.size;omega
def Tm.pre:Tm->List Tm
 |.num p n=>[.num p n]
 |.nam p x=>[.nam p x]
 |.op p s a b=> .op p s a b :: (a.pre++b.pre)
theorem Tm.pre_len:∀ t:Tm,t.pre.length=t.size
 |.num _ _=>rfl
 |.nam _ _=>rfl
 |.op _ _ a b=>by simp only [Tm.pre,Tm.size,List.length_cons,List.length_append,Tm.pre_len a,Tm.pre_len b];omega
theorem qP.pre {H:Hp}:∀ {t:Tm},qP H t->∀ u∈t.pre,qP H u
 |.num _ _,h,u,hu=>by rw [au.mp hu];exact h
 |.nam _ _,h,u,hu=>by rw [au.mp hu];exact h
 |.op _ _ _ _,h,u,hu=>by
  rcases av.mp hu with e | e
  ·rw [e];exact h
  ·rcases bf.mp e with e | e
   ·exact qP.pre h.2.1 u e
   ·exact qP.pre h.2.2 u e
theorem Tm.ok_pre:∀ {t:Tm},t.ok->∀ u∈t.pre,u.ok
 |.num _ _,h,u,hu=>by rw [au.mp hu];exact h
 |.nam _ _,h,u,hu=>by rw [au.mp hu];exact h
 |.op _ _ _ _,h,u,hu=>by
  rcases av.mp hu with e | e
  ·rw [e];exact h
  ·rcases bf.mp e with e | e
   ·exact Tm.ok_pre h.2.1 u e
   ·exact Tm.ok_pre h.2.2 u e
theorem Tm.names_pre:∀ {t:Tm},∀ u∈t.pre,∀ x∈u.names,x∈t.names
 |.num _ _,u,hu,x,hx=>by rw [au.mp hu] at hx;exact hx
 |.nam _ _,u,hu,x,hx=>by rw [au.mp hu] at hx;exact hx
 |.op _ _ _ _,u,hu,x,hx=>by
  rcases av.mp hu with e | e
  ·rw [e] at hx;exact hx
  ·rcases bf.mp e with e | e
   ·exact dj _ (Tm.names_pre u e x hx)
   ·exact bh _ (Tm.names_pre u e x hx)
def wo (s:Str) (a b:Int):Int :=
 if s="<" then (if a < b then 1 else 0) else if s="=" then (if a=b then 1 else 0) else if s="+" then (a+b) % 1000000 else if s="-" then (a - b) % 1000000 else a * b % 1000000
def Tm.val (ev:Str->Int):Tm->Int
 |.num _ n=>n
 |.nam _ x=>ev x
 |.op _ s a b=>wo s (a.val ev) (b.val ev)
theorem bR8 (s:Str) (a b:Int):0<=wo s a b/\wo s a b < 1000000:=by
 unfold wo
 repeat' split
 all_goals first | omega | exact ⟨ia _ (by decide),gr _ (by decide)⟩
def kJ (ev:Str->Int) (t:Tm) (st:List Int):Option (List Int):=match t with
 |.num _ n=>some (n :: st)
 |.nam _ x=>some (ev x :: st)
 |.op _ s _ _=>match st with
  |a :: b :: r=>some (wo s a b :: r)
  |_=>none
def run (ev:Str->Int):List Tm->List Int->Option (List Int)
 |[],st=>some st
 |t :: r,st=>(kJ ev t st).bind (run ev r)
theorem nP (ev:Str->Int):∀ (xs ys:List Tm) (st:List Int),run ev (xs++ys) st=(run ev xs st).bind (run ev ys)
 |[],_,_=>rfl
 |t :: r,ys,st=>by
  show (kJ ev t st).bind (run ev (r++ys))=((kJ ev t st).bind (run ev r)).bind (run ev ys)
  cases kJ ev t st with
  |none=>rfl
  |some z=>exact nP ev r ys z
theorem qK (ev:Str->Int):∀ (t:Tm) (st:List Int),run ev t.pre.reverse st=some (t.val ev :: st)
 |.num _ _,_=>rfl
 |.nam _ _,_=>rfl
 |.op p s a b,st=>by
  show run ev (List.reverse (Tm.op p s a b :: (a.pre++b.pre))) st=_;rw [kr,yr,nP,nP,qK ev b st];show ((run ev a.pre.reverse (b.val ev :: st)).bind (run ev [Tm.op p s a b]))=_;rw [qK ev a];rfl
theorem cC4 (ev:Str->Int) (t:Tm) {i:Nat}{u:Tm}{st:List Int}(hu:t.pre.reverse[i]?=some u) (h:run ev (t.pre.reverse.take i) []=some st):∃ st',kJ ev u st=some st'/\run ev (t.pre.reverse.take (i+1)) []=some st':=by
 have e:t.pre.reverse=t.pre.reverse.take i++(u :: t.pre.reverse.drop (i+1)):=by
  have hi:=(bu.mp hu)
  rw [<- hi.2, <- mq,ww]
 have r:=qK ev t [];rw [e,nP,h] at r;have r:(kJ ev u st).bind (run ev (t.pre.reverse.drop (i+1)))=some [t.val ev]:=r
 cases q:kJ ev u st with
 |none=>rw [q] at r;cases r
 |some st' =>
  refine ⟨st',rfl,?_⟩;rw [cH hu,nP,h];show (kJ ev u st).bind (run ev [])=some st';rw [q];rfl
theorem bE8 {ev:Str->Int}{u:Tm}{st st':List Int}(ok:u.ok) (he:∀ x∈u.names,0<=ev x/\ev x < 1000000) (h:∀ n∈st,0<=n/\n < 1000000) (e:kJ ev u st=some st'):(∀ n∈st',0<=n/\n < 1000000)/\st'.length<=st.length+1:=by
 cases u with
 |num p n =>
  cases e
  refine ⟨fun z hz=>?_,ai _⟩;rcases av.mp hz with q | q
  ·have:=ok.1;have:=ok.2;omega
  ·exact h z q
 |nam p x =>
  cases e
  refine ⟨fun z hz=>?_,ai _⟩;rcases av.mp hz with q | q
  ·rw [q];exact he x (by simp [Tm.names])
  ·exact h z q
 |op p s a b =>
  unfold kJ at e
  cases st with
  |nil=>cases e
  |cons x st =>
   cases st with
   |nil=>cases e
   |cons y r =>
    cases e
    refine ⟨fun z hz=>?_,by simp only [List.length_cons];omega⟩;rcases av.mp hz with q | q
    ·rw [q];exact bR8 s x y
    ·exact h z (ae _ (ae _ q))
theorem aW6 {ev:Str->Int}:∀ {t:Tm},t.ok->(∀ x∈t.names,0<=ev x/\ev x < 1000000)->0<=t.val ev/\t.val ev < 1000000
 |.num _ n,h,_=>⟨h.1,by have:=h.2;show n < 1000000;omega⟩
 |.nam _ x,_,h=>h x (by simp [Tm.names])
 |.op _ s a b,_,_=>bR8 s _ _
def spParts:Sp:=fun vs H Q _=>∃ t:Tm,vs=[.ref t.p]/\qP H t/\t.size<=900/\∀ (r:Addr) (H':Hp),aU H H'->H r=none->H' r=some (.lst (t.pre.map fun u=>V.ref u.p))->Q (.ref r) H'
def spWo:Sp:=fun vs H Q _=>∃ (s:Str) (a b:Int),vs=[.str s,.int a,.int b]/\s∈cB6/\0<=a/\a < 1000000/\0<=b/\b < 1000000/\Q (.int (wo s a b)) H
structure Dv (H:Hp) (vd:Addr) (ev:Str->Int) (ns:List Str):Prop where
 ex:∃ kvs,H vd=some (.dK kvs)/\(∀ x∈ns,dA kvs (Sum.inr x:Key)=some (.int (ev x)))/\∀ q∈kvs,∃ n,q.2=V.int n
 bd:∀ x∈ns,0<=ev x/\ev x < 1000000
theorem Dv.same {H H':Hp}{vd:Addr}{ev:Str->Int}{ns:List Str}(s:aU H H') (D:Dv H vd ev ns):Dv H' vd ev ns:=⟨let ⟨k,a,b⟩:=D.ex;⟨k,s _ _ a,b⟩,D.bd⟩
theorem Dv.get {H:Hp}{vd:Addr}{ev:Str->Int}{ns:List Str}(D:Dv H vd ev ns) {x:Str}(hx:x∈ns):fD H vd (.str x) (some (.int (ev x))):=by
 obtain ⟨k,a,b,_⟩:=D.ex;rw [<- b x hx];exact fD.k (k:=Sum.inr x) a
def spVof:Sp:=fun vs H Q _=>∃ (t:Tm) (vd:Addr) (ev:Str->Int),vs=[.ref t.p,.ref vd]/\qP H t/\t.ok/\t.size<=900/\Dv H vd ev t.names/\∀ H',aU H H'->Q (.int (t.val ev)) H'
inductive Rw where
 |thr (p:Addr) (x:Str) (T:dP) (a3:V) (wss:List (List Int))
 |lt (p:Addr) (x:Str) (t:Tm)
 |tell (p:Addr) (t:Tm)
 |when (p pa pb:Addr) (t:Tm) (a b:List Rw)
 |times (p pb:Addr) (n:Nat) (b:List Rw)
def Rw.p:Rw->Addr
 |.thr p _ _ _ _=>p
 |.lt p _ _=>p
 |.tell p _=>p
 |.when p _ _ _ _ _=>p
 |.times p _ _ _=>p
def mF:Nat->List Rw->List Rw
 |0,_=>[]
 |n+1,b=>b++mF n b
mutual
def Rw.cost:Rw->Nat
 |.thr _ _ _ _ _=>1
 |.lt _ _ _=>1
 |.tell _ _=>1
 |.when _ _ _ _ a b=>1+(bD a+bD b)
 |.times _ _ n b=>1+n * bD b
def bD:List Rw->Nat
 |[]=>0
 |r :: rs=>r.cost+bD rs
end
theorem dZ:∀ (rs qs:List Rw),bD (rs++qs)=bD rs+bD qs
 |[],qs=>by simp [bD]
 |r :: rs,qs=>by simp only [List.cons_append,bD,dZ rs qs];omega
theorem jH (b:List Rw):∀ n:Nat,bD (mF n b)=n * bD b
 |0=>by simp [mF,bD]
 |n+1=>by rw [mF,dZ,jH b n,qi];omega
def tI (cs:List Int) (T:dP) (wss:List (List Int)):List (Int×Int×Int):=T.tab (cF wss cs T.lo T.hb)
abbrev Ev:=Str->Int
def iN (e:Ev) (x:Str) (v:Int):Ev:=fun y=>if y=x then v else e y
abbrev Lf:=List Int×Int×Int
def mK (cs:List Int):Nat->List Rw->Ev->List Int->Int×Int->List Lf
 |0,_,_,_,_=>[]
 |_+1,[],_,td,sh=>[(td,sh)]
 |n+1,.thr _ x T _ wss :: rs,e,td,sh=>(tI cs T wss).reverse.flatMap fun z=>mK cs n rs (iN e x z.1) td (yK sh z.2)
 |n+1,.lt _ x t :: rs,e,td,sh=>mK cs n rs (iN e x (t.val e)) td sh
 |n+1,.tell _ t :: rs,e,td,sh=>mK cs n rs e (td++[t.val e]) sh
 |n+1,.when _ _ _ t a b :: rs,e,td,sh=>mK cs n ((if t.val e=0 then b else a)++rs) e td sh
 |n+1,.times _ _ k b :: rs,e,td,sh=>mK cs n (mF k b++rs) e td sh
theorem jC (cs:List Int):∀ (n m:Nat) (rs:List Rw) (e:Ev) (td:List Int) (sh:Int×Int),bD rs < n->n<=m->mK cs n rs e td sh=mK cs m rs e td sh
 |0,_,_,_,_,_,h,_=>absurd h (qm _)
 |n+1,0,_,_,_,_,_,h=>absurd h (by omega)
 |n+1,m+1,[],e,td,sh,_,_=>by simp only [mK]
 |n+1,m+1,.thr _ x T _ wss :: rs,e,td,sh,h,h2=>by
  simp only [bD,Rw.cost] at h;simp only [mK]
  congr 1
  funext z
  exact jC cs n m rs _ _ _ (by omega) (by omega)
 |n+1,m+1,.lt _ x t :: rs,e,td,sh,h,h2=>by
  simp only [bD,Rw.cost] at h;simp only [mK];exact jC cs n m rs _ _ _ (by omega) (by omega)
 |n+1,m+1,.tell _ t :: rs,e,td,sh,h,h2=>by
  simp only [bD,Rw.cost] at h;simp only [mK];exact jC cs n m rs _ _ _ (by omega) (by omega)
 |n+1,m+1,.when _ _ _ t a b :: rs,e,td,sh,h,h2=>by
  simp only [bD,Rw.cost] at h;simp only [mK];exact jC cs n m _ _ _ _ (by rw [dZ];split <;> omega) (by omega)
 |n+1,m+1,.times _ _ k b :: rs,e,td,sh,h,h2=>by
  simp only [bD,Rw.cost] at h;simp only [mK];exact jC cs n m _ _ _ _ (by rw [dZ,jH];omega) (by omega)
def LV (cs:List Int) (rs:List Rw) (e:Ev) (td:List Int) (sh:Int×Int):List Lf:=mK cs (bD rs+1) rs e td sh
section
variable {cs:List Int}{rs:List Rw}{e:Ev}{td:List Int}{sh:Int×Int}
theorem qN {n:Nat}(h:bD rs < n):mK cs n rs e td sh=LV cs rs e td sh:=(jC cs _ _ rs e td sh (dq _) h).symm
theorem cB3:LV cs [] e td sh=[(td,sh)]:=by simp only [LV,mK]
theorem bZ8 {p:Addr}{x:Str}{T:dP}{a3:V}{wss:List (List Int)}:LV cs (.thr p x T a3 wss :: rs) e td sh=(tI cs T wss).reverse.flatMap fun z=>LV cs rs (iN e x z.1) td (yK sh z.2):=by
 unfold LV;simp only [bD,Rw.cost,mK]
 congr 1
 funext z
 exact qN (by omega)
theorem cM5 {p:Addr}{x:Str}{t:Tm}:LV cs (.lt p x t :: rs) e td sh=LV cs rs (iN e x (t.val e)) td sh:=by
 conv=>lhs;unfold LV
 simp only [bD,Rw.cost,mK];exact qN (by omega)
theorem bG8 {p:Addr}{t:Tm}:LV cs (.tell p t :: rs) e td sh=LV cs rs e (td++[t.val e]) sh:=by
 conv=>lhs;unfold LV
 simp only [bD,Rw.cost,mK];exact qN (by omega)
theorem bI6 {p pa pb:Addr}{t:Tm}{a b:List Rw}:LV cs (.when p pa pb t a b :: rs) e td sh=LV cs ((if t.val e=0 then b else a)++rs) e td sh:=by
 conv=>lhs;unfold LV
 simp only [bD,Rw.cost,mK];exact qN (by rw [dZ];split <;> omega)
theorem bB8 {p pb:Addr}{k:Nat}{b:List Rw}:LV cs (.times p pb k b :: rs) e td sh=LV cs (mF k b++rs) e td sh:=by
 conv=>lhs;unfold LV
 simp only [bD,Rw.cost,mK];exact qN (by rw [dZ,jH];omega)
end
mutual
def okR (NM:List Str) (cs:List Int):Rw->Prop
 |.thr _ x T _ wss=>(T.Ok/\tE T wss cs)/\x∈NM
 |.lt _ x t=>(t.ok/\t.size<=900)/\x∈NM
 |.tell _ t=>t.ok/\t.size<=900
 |.when _ _ _ t a b=>(t.ok/\t.size<=900)/\qG NM cs a/\qG NM cs b
 |.times _ _ _ b=>qG NM cs b
def qG (NM:List Str) (cs:List Int):List Rw->Prop
 |[]=>True
 |r :: rs=>okR NM cs r/\qG NM cs rs
end
theorem qG.app {NM:List Str}{cs:List Int}:∀ {rs qs:List Rw},qG NM cs rs->qG NM cs qs->qG NM cs (rs++qs)
 |[],_,_,h=>h
 |_ :: _,_,⟨h,k⟩,h2=>⟨h,qG.app k h2⟩
theorem qG.rep {NM:List Str}{cs:List Int}{b:List Rw}(h:qG NM cs b):∀ n:Nat,qG NM cs (mF n b)
 |0=>trivial
 |n+1=>h.app (qG.rep h n)
def szT (T:dP) (wss:List (List Int)):Nat:=match T with
 |.lad _ _ lo hi=>(hi+1 - lo).toNat
 |.fla _ lo hi=>(hi+1 - lo).toNat
 |.cho .. =>wss.length
 |.fst .. =>wss.length+1
mutual
def wR:Rw->Nat
 |.thr _ _ T _ wss=>szT T wss
 |.lt _ _ _=>1
 |.tell _ _=>1
 |.when _ _ _ _ a b=>wL a * wL b
 |.times _ _ n b=>wL b ^ n
def wL:List Rw->Nat
 |[]=>1
 |r :: rs=>wR r * wL rs
end
theorem rO:∀ (rs qs:List Rw),wL (rs++qs)=wL rs * wL qs
 |[],qs=>by simp [wL]
 |r :: rs,qs=>by simp only [List.cons_append,wL,rO rs qs,Nat.mul_assoc]
theorem aW7 (b:List Rw):∀ n:Nat,wL (mF n b)=wL b ^ n
 |0=>by simp [mF,wL]
 |n+1=>by rw [mF,rO,aW7 b n,ni,uw]
theorem psm {a b:Int}(ha:1<=a) (hb:1<=b):1<=a * b:=df ha hb
theorem bU0 {cs:List Int}{T:dP}{wss:List (List Int)}(h:T.Ok):(T.cs (cF wss cs T.lo T.hb)).length=szT T wss:=by
 have l:(cF wss cs T.lo T.hb).length=wss.length:=by unfold cF;rw [ac]
 cases T with
 |lad p q lo hi =>
  show (cI p q lo hi _).length=_;rw [oX h.l.2.b];rfl
 |fla r lo hi =>
  show ((aQ lo (hi+1 - lo).toNat).map _).length=_;rw [ac,bO];rfl
 |cho p q lo hi =>
  show (List.map _ _).length=_;rw [ac,l];rfl
 |fst pa qa pb qb mk lo hi =>
  show ((aQ 0 (_+1)).map _).length=_;rw [ac,bO,l];rfl
theorem sO {b:Int}:∀ {f:Int}{l:List Int}{z:Int×Int×Int},z∈iJ b f l->∃ c∈l,0 < c/\z.2=aX c b/\f<=z.1/\z.1 < f+l.length
 |_,[],z,h=>absurd h cz
 |f,s :: r,z,h=>by
  unfold iJ at h
  by_cases c:0 < s
  ·rw [ao c] at h;rcases av.mp h with rfl | h
   ·exact ⟨s,ah,c,rfl,cu _,by show f < f+((r.length+1:Nat):Int);omega⟩
   ·obtain ⟨c',h1,h2,h3,h4,h5⟩:=sO h;exact ⟨c',ae _ h1,h2,h3,by omega,by show z.1 < f+((r.length+1:Nat):Int);omega⟩
  ·rw [aj c] at h;obtain ⟨c',h1,h2,h3,h4,h5⟩:=sO h;exact ⟨c',ae _ h1,h2,h3,by omega,by show z.1 < f+((r.length+1:Nat):Int);omega⟩
theorem aK2 {b:Int}:∀ {f:Int}{l:List Int},0 < l.sum->iJ b f l≠[]
 |_,[],h=>absurd h (by decide)
 |f,s :: r,h=>by
  unfold iJ
  by_cases c:0 < s
  ·rw [ao c];exact List.cons_ne_nil _ _
  ·rw [aj c];rw [cw] at h;exact aK2 (by omega)
theorem sX:∀ {l:List Int}{c:Int},(∀ x∈l,0<=x)->c∈l->c<=l.sum
 |[],_,_,h=>absurd h cz
 |s :: r,c,nn,h=>by
  have n0:0<=s:=nn s ah;have n1:0<=r.sum:=by
   have:∀ {l:List Int},(∀ x∈l,0<=x)->0<=l.sum:=by
    intro l
    induction l with
    |nil=>intro _;decide
    |cons a l ih=>intro h;rw [cw];have:=h a ah;have:=ih fun x hx=>h x (ae _ hx);omega
   exact this fun x hx=>nn x (ae _ hx)
  rw [cw];rcases av.mp h with rfl | h
  ·omega
  ·have:=sX (fun x hx=>nn x (ae _ hx)) h;omega
def mT (cs:List Int) (T:dP) (wss:List (List Int)):Int:=if szT T wss=1 then 1 else T.W (cF wss cs T.lo T.hb)
section
variable {cs:List Int}{T:dP}{wss:List (List Int)}
structure cI1 (cs:List Int) (T:dP) (wss:List (List Int)):Prop where
 ne:tI cs T wss≠[]
 le:(tI cs T wss).length<=szT T wss
 l10:szT T wss<=10
 m1:1<=mT cs T wss
 m2:szT T wss=1/\mT cs T wss=1\/2<=szT T wss/\mT cs T wss < 2 ^ 170
 sh:∀ z∈tI cs T wss,(0<=z.1/\z.1<=20)/\∃ c,1<=c/\c<=mT cs T wss/\z.2=aX c (mT cs T wss)
theorem cJ2 (h:T.Ok):0<=T.f0/\T.f0<=9:=by
 cases T with
 |lad p q lo hi=>have e:=h.l.2;have:=e.a;have:=e.b;have:=e.c;exact ⟨e.a,by show lo<=9;omega⟩
 |fla r lo hi=>have e:=h.l.2.2;have:=e.a;have:=e.b;have:=e.c;exact ⟨e.a,by show lo<=9;omega⟩
 |cho p q lo hi=>exact ⟨cu _,by show (0:Int)<=9;decide⟩
 |fst pa qa pb qb mk lo hi=>exact ⟨cu _,by show (0:Int)<=9;decide⟩
theorem aG6 (h:T.Ok) (a:tE T wss cs):cI1 cs T wss:=by
 have nm:=a.num h;obtain ⟨s1,s2,s3,s4,s5⟩:=dP.sums h nm;have l:=bU0 (cs:=cs) (wss:=wss) h;have ne:tI cs T wss≠[]:=aK2 (by rw [s1];omega);have le:(tI cs T wss).length<=szT T wss:=by
  have:=yL (T.W (cF wss cs T.lo T.hb)) T.f0 (T.cs (cF wss cs T.lo T.hb));rw [l] at this;exact this
 have p1:1<=szT T wss:=bv (Nat.one_le_iff_ne_zero.mpr fun z=>ne (qu z)) le;rw [l] at s5;have fb:=cJ2 h;have key:∀ z∈tI cs T wss,(0<=z.1/\z.1<=20)/\∃ c∈T.cs (cF wss cs T.lo T.hb),0 < c/\z.2=aX c (T.W (cF wss cs T.lo T.hb)):=by
  intro z hz;obtain ⟨c,h1,h2,h3,h4,h5⟩:=sO hz;rw [l] at h5;exact ⟨⟨by omega,by omega⟩,c,h1,h2,h3⟩
 by_cases q:szT T wss=1
 ·have em:mT cs T wss=1:=by unfold mT;rw [ao q]
  refine ⟨ne,le,by omega,by rw [em];decide,.inl ⟨q,em⟩,fun z hz=>?_⟩;obtain ⟨hb,c,h1,h2,h3⟩:=key z hz;refine ⟨hb,1,cu _,by rw [em];decide,?_⟩;have ec:c=T.W (cF wss cs T.lo T.hb):=by
   have l1:(T.cs (cF wss cs T.lo T.hb)).length=1:=l.trans q;obtain ⟨x,ex⟩:=dP.one_num l1;rw [ex] at h1 s1;rw [au.mp h1, <- s1];simp
  rw [h3,ec,em,yC s3]
  decide
 ·have em:mT cs T wss=T.W (cF wss cs T.lo T.hb):=by unfold mT;rw [aj q]
  refine ⟨ne,le,by omega,by rw [em];exact s3,.inr ⟨by omega,by rw [em];exact s4⟩,fun z hz=>?_⟩;obtain ⟨hb,c,h1,h2,h3⟩:=key z hz;refine ⟨hb,c,h2,?_,by rw [em];exact h3⟩;rw [em, <- s1];exact sX s2 h1
end
mutual
def mR (cs:List Int):Rw->Int
 |.thr _ _ T _ wss=>mT cs T wss
 |.lt _ _ _=>1
 |.tell _ _=>1
 |.when _ _ _ _ a b=>mL cs a * mL cs b
 |.times _ _ n b=>mL cs b ^ n
def mL (cs:List Int):List Rw->Int
 |[]=>1
 |r :: rs=>mR cs r * mL cs rs
end
theorem xH (cs:List Int):∀ (rs qs:List Rw),mL cs (rs++qs)=mL cs rs * mL cs qs
 |[],qs=>by simp [mL]
 |r :: rs,qs=>by simp only [List.cons_append,mL,xH cs rs qs,Int.mul_assoc]
theorem aU6 (cs:List Int) (b:List Rw):∀ n:Nat,mL cs (mF n b)=mL cs b ^ n
 |0=>by simp [mF,mL]
 |n+1=>by rw [mF,xH,aU6 cs b n,fm,ql]
def vX (m:Int) (w:Nat):Prop:=1<=m/\∃ k:Nat,m<=2 ^ (170 * k)/\2 ^ k<=w
theorem vX.one:vX 1 1:=⟨cu _,0,by decide,by decide⟩
theorem vX.mul {m m':Int}{w w':Nat}(h:vX m w) (h':vX m' w'):vX (m * m') (w * w'):=by
 obtain ⟨a,k,b,c⟩:=h;obtain ⟨a',k',b',c'⟩:=h';refine ⟨psm a a',k+k',?_,?_⟩
 ·rw [Nat.mul_add,ox];exact rg b b' (by omega) (by have:(0:Int) < 2 ^ (170 * k):=ft (by decide);omega)
 ·rw [Nat.pow_add];exact gj c c'
theorem vX.pow {m:Int}{w:Nat}(h:vX m w):∀ n:Nat,vX (m ^ n) (w ^ n)
 |0=>by rw [vc,Nat.pow_zero];exact vX.one
 |n+1=>by rw [fm,ni];exact (h.pow n).mul h
mutual
theorem lgR {NM:List Str}{cs:List Int}:∀ r:Rw,okR NM cs r->vX (mR cs r) (wR r)
 |.thr _ _ T _ wss,h=>by
  have o:=aG6 h.1.1 h.1.2;refine ⟨o.m1,?_⟩;rcases o.m2 with ⟨a,b⟩ | ⟨a,b⟩
  ·exact ⟨0,by show mT cs T wss<=_;rw [b];decide,by show _<=szT T wss;rw [a];decide⟩
  ·exact ⟨1,je b,a⟩
 |.lt _ _ _,_=>vX.one
 |.tell _ _,_=>vX.one
 |.when _ _ _ _ a b,h=>(lgL a h.2.1).mul (lgL b h.2.2)
 |.times _ _ n b,h=>(lgL b h).pow n
theorem lgL {NM:List Str}{cs:List Int}:∀ rs:List Rw,qG NM cs rs->vX (mL cs rs) (wL rs)
 |[],_=>vX.one
 |r :: rs,h=>(lgR r h.1).mul (lgL rs h.2)
end
theorem vX.bd {m:Int}{w:Nat}(h:vX m w) (hw:w<=30):1<=m/\m<=2 ^ 680:=by
 obtain ⟨a,k,b,c⟩:=h;refine ⟨a,bn b ?_⟩;have k4:k<=4:=by
  rcases zk 4 k with z | z
  ·have:2 ^ 5<=2 ^ k:=ip (by decide) z;omega
  ·exact z
 have:(2:Nat) ^ (170 * k)<=2 ^ 680:=ip (by decide) (by omega)
 exact_mod_cast this
theorem vX.w1 {m:Int}{w:Nat}(h:vX m w):1<=w:=by
 obtain ⟨_,k,_,c⟩:=h;have:0 < 2 ^ k:=sg (by decide);omega
def ShM (N:Int) (u:Int×Int):Prop:=1<=N/\∃ c,1<=c/\c<=N/\u=aX c N
theorem ShM.mul {N m:Int}{u y:Int×Int}(h:ShM N u) (h':ShM m y):ShM (N * m) (yK u y):=by
 obtain ⟨a,c,c1,c2,rfl⟩:=h;obtain ⟨a',d,d1,d2,rfl⟩:=h';exact ⟨psm a a',c * d,psm c1 d1,rg c2 d2 (by omega) (by omega),wJ (by omega) a (by omega) a'⟩
theorem ShM.dv {N M:Int}{u:Int×Int}(h:ShM N u) (hM:1<=M) (d:N ∣ M):ShM M u:=by
 obtain ⟨a,c,c1,c2,rfl⟩:=h;obtain ⟨k,rfl⟩:=d;have k1:1<=k:=by
  rcases Int.lt_or_le 0 k with z | z
  ·exact z
  ·have:=Int.mul_nonpos_of_nonneg_of_nonpos (show 0<=N by omega) z;omega
 exact ⟨hM,c * k,psm c1 k1,di c2 (by omega),iD (by omega) a (by have:=psm c1 k1;omega) hM (by grind)⟩
mutual
def aE0:Rw->List Str->List Str
 |.thr _ x _ _ _,D=>x :: D
 |.lt _ x _,D=>x :: D
 |.tell _ _,D=>D
 |.when _ _ _ _ a b,D=>(lU a D).filter fun x=>decide (x∈lU b D)
 |.times _ _ _ b,D=>lU b D
def lU:List Rw->List Str->List Str
 |[],D=>D
 |r :: rs,D=>lU rs (aE0 r D)
end
mutual
def knR:Rw->List Str->Prop
 |.thr _ _ _ _ _,_=>True
 |.lt _ _ t,D=>∀ x∈t.names,x∈D
 |.tell _ t,D=>∀ x∈t.names,x∈D
 |.when _ _ _ t a b,D=>(∀ x∈t.names,x∈D)/\knL a D/\knL b D
 |.times _ _ n b,D=>(1<=n/\n<=100)/\knL b D
def knL:List Rw->List Str->Prop
 |[],_=>True
 |r :: rs,D=>knR r D/\knL rs (aE0 r D)
end
abbrev jZ (D D':List Str):Prop:=∀ x∈D,x∈D'
mutual
theorem bX8:∀ (r:Rw) (D:List Str),jZ D (aE0 r D)
 |.thr _ x _ _ _,D=>fun y h=>ae _ h
 |.lt _ x _,D=>fun y h=>ae _ h
 |.tell _ _,D=>fun y h=>h
 |.when _ _ _ _ a b,D=>fun y h=>du.mpr ⟨kZ a D y h,ap (kZ b D y h)⟩
 |.times _ _ _ b,D=>kZ b D
theorem kZ:∀ (rs:List Rw) (D:List Str),jZ D (lU rs D)
 |[],D=>fun y h=>h
 |r :: rs,D=>fun y h=>kZ rs _ y (bX8 r D y h)
end
mutual
theorem aA1:∀ (r:Rw) {D D':List Str},jZ D D'->jZ (aE0 r D) (aE0 r D')
 |.thr _ x _ _ _,D,D',s=>fun y h=>by
  rcases av.mp h with e | h
  ·rw [e];exact ah
  ·exact ae _ (s y h)
 |.lt _ x _,D,D',s=>fun y h=>by
  rcases av.mp h with e | h
  ·rw [e];exact ah
  ·exact ae _ (s y h)
 |.tell _ _,D,D',s=>s
 |.when _ _ _ _ a b,D,D',s=>fun y h=>by
  obtain ⟨h1,h2⟩:=du.mp h;exact du.mpr ⟨iU a s y h1,ap (iU b s y (ba h2))⟩
 |.times _ _ _ b,D,D',s=>iU b s
theorem iU:∀ (rs:List Rw) {D D':List Str},jZ D D'->jZ (lU rs D) (lU rs D')
 |[],D,D',s=>s
 |r :: rs,D,D',s=>iU rs (aA1 r s)
end
mutual
theorem bN0:∀ (r:Rw) {D D':List Str},jZ D D'->knR r D->knR r D'
 |.thr _ x _ _ _,_,_,_,_=>trivial
 |.lt _ x t,_,_,s,h=>fun y hy=>s y (h y hy)
 |.tell _ t,_,_,s,h=>fun y hy=>s y (h y hy)
 |.when _ _ _ t a b,_,_,s,h=>⟨fun y hy=>s y (h.1 y hy),fG a s h.2.1,fG b s h.2.2⟩
 |.times _ _ _ b,_,_,s,h=>⟨h.1,fG b s h.2⟩
theorem fG:∀ (rs:List Rw) {D D':List Str},jZ D D'->knL rs D->knL rs D'
 |[],_,_,_,_=>trivial
 |r :: rs,_,_,s,h=>⟨bN0 r s h.1,fG rs (aA1 r s) h.2⟩
end
theorem qL:∀ (rs qs:List Rw) (D:List Str),lU (rs++qs) D=lU qs (lU rs D)
 |[],_,_=>rfl
 |r :: rs,qs,D=>qL rs qs (aE0 r D)
theorem nN:∀ {rs qs:List Rw}{D:List Str},knL rs D->knL qs (lU rs D)->knL (rs++qs) D
 |[],_,_,_,h=>h
 |r :: rs,qs,D,h,k=>⟨h.1,nN h.2 k⟩
theorem aJ8 {b:List Rw}:∀ {n:Nat}{D:List Str},knL b D->knL (mF n b) D
 |0,_,_=>trivial
 |n+1,D,h=>nN h (aJ8 (fG b (kZ b D) h))
theorem bA9 {b:List Rw}{n:Nat}{D:List Str}(h:1<=n):jZ (lU b D) (lU (mF n b) D):=by
 cases n with
 |zero=>exact absurd h (by decide)
 |succ n=>intro y hy;rw [mF,qL];exact kZ _ _ y hy
mutual
def rW:Rw->Nat
 |.thr _ _ _ _ _=>0
 |.lt _ _ _=>0
 |.tell _ _=>1
 |.when _ _ _ _ a b=>max (eG a) (eG b)
 |.times _ _ n b=>n * eG b
def eG:List Rw->Nat
 |[]=>0
 |r :: rs=>rW r+eG rs
end
theorem kG:∀ (rs qs:List Rw),eG (rs++qs)=eG rs+eG qs
 |[],qs=>by simp [eG]
 |r :: rs,qs=>by simp only [List.cons_append,eG,kG rs qs];omega
theorem yR (b:List Rw):∀ n:Nat,eG (mF n b)=n * eG b
 |0=>by simp [mF,eG]
 |n+1=>by rw [mF,kG,yR b n,qi];omega
structure Rn where
 rs:List Rw
 e:Ev
 td:List Int
 sh:Int×Int
def Rn.lv (cs:List Int) (r:Rn):List Lf:=LV cs r.rs r.e r.td r.sh
structure Gd (NM:List Str) (cs:List Int) (M:Int) (D:List Str) (r:Rn):Prop where
 ok:qG NM cs r.rs
 kn:knL r.rs D
 bd:∀ x∈D,0<=r.e x/\r.e x < 1000000
 tl:r.td.length+eG r.rs<=4
 tb:∀ n∈r.td,0<=n/\n < 1000000
 sh:∃ N,ShM N r.sh/\N * mL cs r.rs ∣ M
structure Nx (cs:List Int) (r r':Rn):Prop where
 lv:r.lv cs=r'.lv cs
 co:bD r'.rs<=bD r.rs
 w:wL r'.rs<=wL r.rs
 s:r'.sh=r.sh
theorem Nx.rfl' {cs:List Int}{r:Rn}:Nx cs r r:=⟨rfl,ai _,ai _,rfl⟩
theorem Nx.tr {cs:List Int}{a b c:Rn}(h:Nx cs a b) (k:Nx cs b c):Nx cs a c:=⟨h.lv.trans k.lv,bv k.co h.co,bv k.w h.w,k.s.trans h.s⟩
section
variable {NM:List Str}{cs:List Int}{M:Int}{D:List Str}{rs:List Rw}{e:Ev}{td:List Int}{sh:Int×Int}
theorem aW8 {x:Str}{v:Int}(h:∀ x∈D,0<=e x/\e x < 1000000) (hv:0<=v/\v < 1000000):∀ y∈x :: D,0<=iN e x v y/\iN e x v y < 1000000:=by
 intro y hy;unfold iN
 by_cases c:y=x
 ·rw [ao c];exact hv
 ·rw [aj c];rcases av.mp hy with z | z
  ·exact absurd z c
  ·exact h y z
theorem bT9 {N a b:Int}(h:N * (a * b) ∣ M):N * b ∣ M:=yf ⟨a,by grind⟩ h
theorem bG6 {p:Addr}{x:Str}{t:Tm}(g:Gd NM cs M D ⟨.lt p x t :: rs,e,td,sh⟩):Gd NM cs M (x :: D) ⟨rs,iN e x (t.val e),td,sh⟩/\Nx cs ⟨.lt p x t :: rs,e,td,sh⟩ ⟨rs,iN e x (t.val e),td,sh⟩/\bD rs < bD (.lt p x t :: rs):=by
 have hv:=aW6 g.ok.1.1.1 fun y hy=>g.bd y (g.kn.1 y hy)
 have tl:=g.tl;simp only [eG,rW] at tl;refine ⟨⟨g.ok.2,g.kn.2,aW8 g.bd hv,by show td.length+eG rs<=4;omega,g.tb,?_⟩,⟨cM5,?_,?_,rfl⟩,?_⟩
 ·obtain ⟨N,a,b⟩:=g.sh;exact ⟨N,a,by have b:N * (1 * mL cs rs) ∣ M:=b;rw [rq] at b;exact b⟩
 ·simp only [bD,Rw.cost];omega
 ·simp only [wL,wR];omega
 ·simp only [bD,Rw.cost];omega
theorem aN9 {p:Addr}{t:Tm}(g:Gd NM cs M D ⟨.tell p t :: rs,e,td,sh⟩):Gd NM cs M D ⟨rs,e,td++[t.val e],sh⟩/\Nx cs ⟨.tell p t :: rs,e,td,sh⟩ ⟨rs,e,td++[t.val e],sh⟩/\bD rs < bD (.tell p t :: rs):=by
 have hv:=aW6 g.ok.1.1 fun y hy=>g.bd y (g.kn.1 y hy)
 have tl:=g.tl;simp only [eG,rW] at tl;refine ⟨⟨g.ok.2,g.kn.2,g.bd,by show (td++[t.val e]).length+eG rs<=4;rw [be,ku];omega,?_,?_⟩,⟨bG8,?_,?_,rfl⟩,?_⟩
 ·intro n hn;rcases bf.mp hn with z | z
  ·exact g.tb n z
  ·rw [au.mp z];exact hv
 ·obtain ⟨N,a,b⟩:=g.sh;exact ⟨N,a,by have b:N * (1 * mL cs rs) ∣ M:=b;rw [rq] at b;exact b⟩
 ·simp only [bD,Rw.cost];omega
 ·simp only [wL,wR];omega
 ·simp only [bD,Rw.cost];omega
theorem aQ8 {p pa pb:Addr}{t:Tm}{a b:List Rw}{rs':List Rw}(g:Gd NM cs M D ⟨.when p pa pb t a b :: rs,e,td,sh⟩) (er:rs'=if t.val e=0 then b else a) :
  Gd NM cs M D ⟨rs'++rs,e,td,sh⟩/\Nx cs ⟨.when p pa pb t a b :: rs,e,td,sh⟩ ⟨rs'++rs,e,td,sh⟩/\bD (rs'++rs) < bD (.when p pa pb t a b :: rs):=by
 have tl:=g.tl;simp only [eG,rW] at tl;have ok:=g.ok;have la:=lgL a ok.1.2.1;have lb:=lgL b ok.1.2.2;have wa:=la.w1;have wb:=lb.w1;have kn:=g.kn;have lv:LV cs (.when p pa pb t a b :: rs) e td sh=LV cs (rs'++rs) e td sh:=by rw [bI6,er]
 obtain ⟨N,h1,h2⟩:=g.sh;have h2:N * (mL cs a * mL cs b * mL cs rs) ∣ M:=h2;have key:qG NM cs rs'/\knL rs' D/\jZ (aE0 (.when p pa pb t a b) D) (lU rs' D)/\eG rs'<=max (eG a) (eG b)/\bD rs'<=bD a+bD b/\wL rs'<=wL a * wL b/\N * (mL cs rs' * mL cs rs) ∣ M:=by
  by_cases c:t.val e=0
  ·rw [ao c] at er;subst er;exact ⟨ok.1.2.2,kn.1.2.2,fun y hy=>ba (du.mp hy).2,by omega,by omega,Nat.le_mul_of_pos_left _ wa,bT9 (a:=mL cs a) (by rw [<- ud (mL cs a)];exact h2)⟩
  ·rw [aj c] at er;subst er;exact ⟨ok.1.2.1,kn.1.2.1,fun y hy=>(du.mp hy).1,by omega,by omega,oa _ wb,yf ⟨mL cs b,by grind⟩ h2⟩
 obtain ⟨k1,k2,k3,k4,k5,k6,k7⟩:=key;refine ⟨⟨k1.app ok.2,nN k2 (fG rs k3 kn.2),g.bd,by show td.length+eG (rs'++rs)<=4;rw [kG];omega,g.tb,N,h1,by show N * mL cs (rs'++rs) ∣ M;rw [xH];exact k7⟩,⟨lv,?_,?_,rfl⟩,?_⟩
 ·simp only [dZ,bD,Rw.cost];omega
 ·show wL (rs'++rs)<=wL a * wL b * wL rs;rw [rO];exact gj k6 (ai _)
 ·simp only [dZ,bD,Rw.cost];omega
theorem aC7 {p pb:Addr}{n:Nat}{b:List Rw}(g:Gd NM cs M D ⟨.times p pb n b :: rs,e,td,sh⟩) :
  Gd NM cs M D ⟨mF n b++rs,e,td,sh⟩/\Nx cs ⟨.times p pb n b :: rs,e,td,sh⟩ ⟨mF n b++rs,e,td,sh⟩/\bD (mF n b++rs) < bD (.times p pb n b :: rs):=by
 have tl:=g.tl;simp only [eG,rW] at tl;have ok:=g.ok;have kn:=g.kn;obtain ⟨N,h1,h2⟩:=g.sh;have h2:N * (mL cs b ^ n * mL cs rs) ∣ M:=h2;refine ⟨⟨(qG.rep ok.1 n).app ok.2,nN (aJ8 kn.1.2) (fG rs (bA9 kn.1.1.1) kn.2),g.bd,by show td.length+eG (mF n b++rs)<=4;rw [kG,yR];omega,g.tb,N,h1,by show N * mL cs (mF n b++rs) ∣ M;rw [xH,aU6];exact h2⟩,⟨bB8,?_,?_,rfl⟩,?_⟩
 ·simp only [dZ,jH,bD,Rw.cost];omega
 ·show wL (mF n b++rs)<=wL b ^ n * wL rs;rw [rO,aW7];exact ai _
 ·simp only [dZ,jH,bD,Rw.cost];omega
def qM (cs:List Int) (x:Str) (T:dP) (wss:List (List Int)) (r:Rn):List Rn:=(tI cs T wss).map fun z=>⟨r.rs,iN r.e x z.1,r.td,yK r.sh z.2⟩
theorem aU9 {p:Addr}{x:Str}{T:dP}{a3:V}{wss:List (List Int)}(g:Gd NM cs M D ⟨.thr p x T a3 wss :: rs,e,td,sh⟩) :
  (∀ r∈qM cs x T wss ⟨rs,e,td,sh⟩,Gd NM cs M (x :: D) r/\r.rs=rs)/\(qM cs x T wss ⟨rs,e,td,sh⟩).length<=10/\((qM cs x T wss ⟨rs,e,td,sh⟩).map fun r=>wL r.rs).sum<=wL (.thr p x T a3 wss :: rs) /\
  LV cs (.thr p x T a3 wss :: rs) e td sh=(qM cs x T wss ⟨rs,e,td,sh⟩).reverse.flatMap (Rn.lv cs):=by
 have ok:=g.ok;have o:=aG6 ok.1.1.1 ok.1.1.2;have tl:=g.tl;simp only [eG,rW] at tl;obtain ⟨N,h1,h2⟩:=g.sh;have h2:N * (mT cs T wss * mL cs rs) ∣ M:=h2;refine ⟨fun r hr=>?_,?_,?_,?_⟩
 ·obtain ⟨z,hz,rfl⟩:=cm.mp hr;obtain ⟨zb,c,c1,c2,c3⟩:=o.sh z hz;exact ⟨⟨ok.2,g.kn.2,aW8 g.bd ⟨zb.1,by omega⟩,by show td.length+eG rs<=4;omega,g.tb,N * mT cs T wss,h1.mul ⟨o.m1,c,c1,c2,c3⟩,by show N * mT cs T wss * mL cs rs ∣ M;rw [ud];exact h2⟩,rfl⟩
 ·unfold qM;rw [ac];exact bv o.le o.l10
 ·have:∀ l:List (Int×Int×Int),((l.map fun z=>(⟨rs,iN e x z.1,td,yK sh z.2⟩:Rn)).map fun r=>wL r.rs).sum=l.length * wL rs:=by
   intro l
   induction l with
   |nil=>simp
   |cons a l ih=>simp only [List.map_cons,List.sum_cons,ih,List.length_cons,Nat.succ_mul];omega
  unfold qM;rw [this];exact gj o.le (ai _)
 ·rw [bZ8];unfold qM;rw [<- vf,List.flatMap_map];rfl
end
def wM (H:Hp) (r:Addr) (x:Str) (T:dP) (a3:V):Prop:=match T with
 |.lad p q lo hi=>∃ st,aP4 H r "ladder" x a3 (.ref st) lo hi/\aY H st p q
 |.fla rr lo hi=>aP4 H r "flat" x a3 (.int rr) lo hi
 |.cho p q lo hi=>∃ st,aP4 H r "choose" x a3 (.ref st) lo hi/\aY H st p q
 |.fst pa qa pb qb mk lo hi=>∃ sa sb sm,a3= .ref sm/\cB4 H r x mk sa sb sm lo hi/\aY H sa pa qa/\aY H sb pb qb
theorem wM.t {H:Hp}{r:Addr}{x:Str}{a3:V}:∀ {T:dP},wM H r x T a3->aB3 H r T a3
 |.lad ..,⟨st,h,k⟩=>⟨x,st,h,k⟩
 |.fla ..,h=>⟨x,h⟩
 |.cho ..,⟨st,h,k⟩=>⟨x,st,h,k⟩
 |.fst ..,⟨sa,sb,sm,h⟩=>⟨x,sa,sb,sm,h⟩
theorem wM.ts {H H':Hp}(t:TS H H') {r:Addr}{x:Str}{a3:V}:∀ {T:dP},wM H r x T a3->wM H' r x T a3
 |.lad ..,⟨st,h,k⟩=>⟨st,t _ _ h,t _ _ k⟩
 |.fla ..,h=>t _ _ h
 |.cho ..,⟨st,h,k⟩=>⟨st,t _ _ h,t _ _ k⟩
 |.fst ..,⟨sa,sb,sm,e,h,k,l⟩=>⟨sa,sb,sm,e,t _ _ h,t _ _ k,t _ _ l⟩
theorem wM.at {H:Hp}{r:Addr}{x:Str}{a3:V}:∀ {T:dP},wM H r x T a3->∃ us,H r=some (.tup (.str T.wd :: .str x :: us))
 |.lad ..,⟨st,h,k⟩=>⟨_,h⟩
 |.fla ..,h=>⟨_,h⟩
 |.cho ..,⟨st,h,k⟩=>⟨_,h⟩
 |.fst ..,⟨sa,sb,sm,e,h,k,l⟩=>⟨_,h⟩
def bT (rs:List Rw):List V:=rs.map fun r=> .ref r.p
mutual
def pL (H:Hp):Rw->Prop
 |.thr p x T a3 wss=>wM H p x T a3/\sP H T.one a3 wss
 |.lt p x t=>H p=some (.tup [.str "let",.str x,.ref t.p])/\qP H t
 |.tell p t=>H p=some (.tup [.str "tell",.ref t.p])/\qP H t
 |.when p pa pb t a b=>H p=some (.tup [.str "when",.ref t.p,.ref pa,.ref pb])/\qP H t/\H pa=some (.tup (bT a))/\H pb=some (.tup (bT b))/\bY H a/\bY H b
 |.times p pb n b=>H p=some (.tup [.str "times",.int n,.ref pb])/\H pb=some (.tup (bT b))/\bY H b
def bY (H:Hp):List Rw->Prop
 |[]=>True
 |r :: rs=>pL H r/\bY H rs
end
mutual
theorem pL.ts {H H':Hp}(t:TS H H'):∀ (r:Rw),pL H r->pL H' r
 |.thr _ _ _ _ _,⟨h,k⟩=>⟨h.ts t,k.ts t⟩
 |.lt _ _ _,⟨h,k⟩=>⟨t _ _ h,k.ts t⟩
 |.tell _ _,⟨h,k⟩=>⟨t _ _ h,k.ts t⟩
 |.when _ _ _ _ a b,⟨h,k,ha,hb,ra,rb⟩=>⟨t _ _ h,k.ts t,t _ _ ha,t _ _ hb,bY.ts t a ra,bY.ts t b rb⟩
 |.times _ _ _ b,⟨h,hb,rb⟩=>⟨t _ _ h,t _ _ hb,bY.ts t b rb⟩
theorem bY.ts {H H':Hp}(t:TS H H'):∀ (rs:List Rw),bY H rs->bY H' rs
 |[],_=>trivial
 |r :: rs,⟨h,k⟩=>⟨pL.ts t r h,bY.ts t rs k⟩
end
theorem bY.app {H:Hp}:∀ {rs qs:List Rw},bY H rs->bY H qs->bY H (rs++qs)
 |[],_,_,h=>h
 |_ :: _,_,⟨h,k⟩,h2=>⟨h,bY.app k h2⟩
def lX (ns:List Int):List NKey:=ns.map fun n=> .inl (.inl n)
def aO4 (ws:List Int):NKey:= .inr (ws.map fun n=> .inl n)
def kN (n:Int):RKey:= .inl (.inl n)
def kS (s:Str):RKey:= .inl (.inr s)
def eZ (x:Str) (T:dP) (wss:List (List Int)):List RKey:=match T with
 |.lad p q lo hi=>[kS "ladder",kS x,.inr (lX (wss.headD [])),.inr (lX [p,q]),kN lo,kN hi]
 |.fla r lo hi=>[kS "flat",kS x,.inr (lX (wss.headD [])),kN r,kN lo,kN hi]
 |.cho p q lo hi=>[kS "choose",kS x,.inr (wss.map aO4),.inr (lX [p,q]),kN lo,kN hi]
 |.fst pa qa pb qb mk lo hi=>[kS "first",kS x,kN mk,.inr (lX [pa,qa]),.inr (lX [pb,qb]),.inr (wss.map aO4),kN lo,kN hi]
theorem rZ {a b:List Int}(h:lX a=lX b):a=b:=by
 induction a generalizing b with
 |nil=>cases b with | nil=>rfl | cons _ _=>cases h
 |cons x a ih =>
  cases b with
  |nil=>cases h
  |cons y b =>
   have h1:(Sum.inl (Sum.inl x):NKey) :: lX a=Sum.inl (Sum.inl y) :: lX b:=h;injection h1 with e1 e2
   rw [ih e2,mj (mj e1)]
theorem aB8 {a b:List Int}(h:(a.map fun n=>(Sum.inl n:Key))=b.map fun n=> .inl n):a=b:=by
 induction a generalizing b with
 |nil=>cases b with | nil=>rfl | cons _ _=>cases h
 |cons x a ih =>
  cases b with
  |nil=>cases h
  |cons y b =>
   simp only [List.map_cons] at h;injection h with e1 e2
   rw [ih e2,mj e1]
theorem yN {a b:List (List Int)}(h:a.map aO4=b.map aO4):a=b:=by
 induction a generalizing b with
 |nil=>cases b with | nil=>rfl | cons _ _=>cases h
 |cons x a ih =>
  cases b with
  |nil=>cases h
  |cons y b =>
   simp only [List.map_cons] at h;injection h with e1 e2
   rw [ih e2,aB8 (de e1)]
theorem iK {a b:Int}(h:kN a=kN b):a=b:=mj (mj h)
theorem qJ {a b c d:Int}(h:lX [a,b]=lX [c,d]):a=c/\b=d:=by
 have:=rZ h;injection this with e1 e2
 injection e2 with e2 _
 exact ⟨e1,e2⟩
theorem yW {a b:List (List Int)}(la:a.length=1) (lb:b.length=1) (h:a.headD []=b.headD []):a=b:=by
 match a,la,b,lb,h with
 |[x],_,[y],_,h=>rw [show x=y from h]
theorem bW3 {x x':Str}{T T':dP}{wss wss':List (List Int)}(h:eZ x T wss=eZ x' T' wss'):T.wd=T'.wd:=by
 have e:∀ (y:Str) (U:dP) (vss:List (List Int)),(eZ y U vss).head?=some (kS U.wd):=fun y U vss=>by cases U <;> rfl
 have z:=e x T wss;rw [h,e] at z;exact (de (mj (cx z))).symm
theorem bD4 {x x':Str}{T T':dP}{wss wss':List (List Int)}(o:T.one=true->wss.length=1) (o':T'.one=true->wss'.length=1) (h:eZ x T wss=eZ x' T' wss'):T=T'/\wss=wss':=by
 have w:=bW3 h
 cases T with
 |lad p q lo hi =>
  cases T' with
  |lad p' q' lo' hi' =>
   unfold eZ at h;injection h with _ h;injection h with _ h;injection h with h1 h;injection h with h2 h;injection h with h3 h;injection h with h4 _
   obtain ⟨rfl,rfl⟩:=qJ (de h2);rw [iK h3,iK h4,yW (o rfl) (o' rfl) (rZ (de h1))];exact ⟨rfl,rfl⟩
  |fla r' lo' hi'=>exact absurd w (by dsimp only [dP.wd];decide +kernel)
  |cho p' q' lo' hi'=>exact absurd w (by dsimp only [dP.wd];decide +kernel)
  |fst pa qa pb qb mk lo' hi'=>exact absurd w (by dsimp only [dP.wd];decide +kernel)
 |fla r lo hi =>
  cases T' with
  |lad p' q' lo' hi'=>exact absurd w (by dsimp only [dP.wd];decide +kernel)
  |fla r' lo' hi' =>
   unfold eZ at h;injection h with _ h;injection h with _ h;injection h with h1 h;injection h with h2 h;injection h with h3 h;injection h with h4 _
   rw [iK h2,iK h3,iK h4,yW (o rfl) (o' rfl) (rZ (de h1))];exact ⟨rfl,rfl⟩
  |cho p' q' lo' hi'=>exact absurd w (by dsimp only [dP.wd];decide +kernel)
  |fst pa qa pb qb mk lo' hi'=>exact absurd w (by dsimp only [dP.wd];decide +kernel)
 |cho p q lo hi =>
  cases T' with
  |lad p' q' lo' hi'=>exact absurd w (by dsimp only [dP.wd];decide +kernel)
  |fla r' lo' hi'=>exact absurd w (by dsimp only [dP.wd];decide +kernel)
  |cho p' q' lo' hi' =>
   unfold eZ at h;injection h with _ h;injection h with _ h;injection h with h1 h;injection h with h2 h;injection h with h3 h;injection h with h4 _
   obtain ⟨rfl,rfl⟩:=qJ (de h2);rw [iK h3,iK h4,yN (de h1)];exact ⟨rfl,rfl⟩
  |fst pa qa pb qb mk lo' hi'=>exact absurd w (by dsimp only [dP.wd];decide +kernel)
 |fst pa qa pb qb mk lo hi =>
  cases T' with
  |lad p' q' lo' hi'=>exact absurd w (by dsimp only [dP.wd];decide +kernel)
  |fla r' lo' hi'=>exact absurd w (by dsimp only [dP.wd];decide +kernel)
  |cho p' q' lo' hi'=>exact absurd w (by dsimp only [dP.wd];decide +kernel)
  |fst pa' qa' pb' qb' mk' lo' hi' =>
   unfold eZ at h;injection h with _ h;injection h with _ h;injection h with h1 h;injection h with h2 h;injection h with h3 h;injection h with h4 h;injection h with h5 h;injection h with h6 _
   obtain ⟨rfl,rfl⟩:=qJ (de h2);obtain ⟨rfl,rfl⟩:=qJ (de h3);rw [iK h1,iK h5,iK h6,yN (de h4)];exact ⟨rfl,rfl⟩
theorem aY3 {H:Hp}:∀ ns:List Int,Paired (aE5 H) (lX ns) (ns.map V.int)
 |[]=> .nil
 |n :: ns=> .cons rfl (aY3 ns)
theorem bS5:∀ ns:List Int,(ns.map fun n=>(Sum.inl n:Key)).map kV=ns.map V.int
 |[]=>rfl
 |n :: ns=>by simp only [List.map_cons,bS5 ns];rfl
theorem bP6 {H:Hp}:∀ {vs:List V}{wss:List (List Int)},dO (aD2 H) vs wss->Paired (aE5 H) (wss.map aO4) vs
 |[],[],_=> .nil
 |v :: vs,ws :: wss,h=> .cons (by obtain ⟨a,e,h1⟩:=h.1;exact ⟨a,e,by rw [bS5];exact h1⟩) (bP6 h.2)
 |[],_ :: _,h=>absurd h id
 |_ :: _,[],h=>absurd h id
theorem zX {H:Hp}{a:Addr}{ns:List Int}(h:cR H a ns):NAt H (lX ns) a:=⟨_,h,aY3 ns⟩
theorem pR {H:Hp}{a:Addr}{p q:Int}(h:aY H a p q):NAt H (lX [p,q]) a:=⟨_,h,aY3 [p,q]⟩
theorem zV {H:Hp}{a:Addr}{wss:List (List Int)}(h:kE H a wss):NAt H (wss.map aO4) a:=by obtain ⟨vs,e,t⟩:=h;exact ⟨vs,e,bP6 t⟩
theorem xN {H:Hp}{p:Addr}{x:Str}{T:dP}{a3:V}{wss:List (List Int)}(h:pL H (.thr p x T a3 wss)):oK H (eZ x T wss) p:=by
 obtain ⟨h,s⟩:=h;rcases s with ⟨e,w,ws,rfl,hw,rfl⟩ | ⟨e,sm,rfl,hs⟩
 ·cases T with
  |lad p q lo hi=>obtain ⟨st,h,k⟩:=h;exact ⟨_,h,.cons rfl (.cons rfl (.cons ⟨w,rfl,zX hw⟩ (.cons ⟨st,rfl,pR k⟩ (.cons rfl (.cons rfl .nil)))))⟩
  |fla r lo hi=>exact ⟨_,h,.cons rfl (.cons rfl (.cons ⟨w,rfl,zX hw⟩ (.cons rfl (.cons rfl (.cons rfl .nil)))))⟩
  |cho p q lo hi=>cases e
  |fst pa qa pb qb mk lo hi=>cases e
 ·cases T with
  |lad p q lo hi=>cases e
  |fla r lo hi=>cases e
  |cho p q lo hi=>obtain ⟨st,h,k⟩:=h;exact ⟨_,h,.cons rfl (.cons rfl (.cons ⟨sm,rfl,zV hs⟩ (.cons ⟨st,rfl,pR k⟩ (.cons rfl (.cons rfl .nil)))))⟩
  |fst pa qa pb qb mk lo hi =>
   obtain ⟨sa,sb,sm',e',h,k,l⟩:=h
   cases e'
   exact ⟨_,h,.cons rfl (.cons rfl (.cons rfl (.cons ⟨sa,rfl,pR k⟩ (.cons ⟨sb,rfl,pR l⟩ (.cons ⟨sm,rfl,zV hs⟩ (.cons rfl (.cons rfl .nil)))))))⟩
end Mine
namespace L2
open PySem PySem.Spec PyProof.Rows
def aR9 (K:W.Frag) (a:Addr) (n:Nat):It :=
 ⟨fun i H=>∃ xs,aT K H a xs/\xs.length=n/\i < n,fun i H x H'=>H'=H/\∀ ys,aT K H a ys->ys.reverse[i]?=some x,fun i H=>∃ xs,aT K H a xs/\xs.length=n/\n<=i⟩
theorem aP3 {P:Program}{w:World}{K:W.Frag}{tg:Expr}(a it:Addr) (n:Nat) (ne:a≠it):pO P w K tg (aR9 K a n) [it] it (fun i h=>i<=n/\h.IsTRev it a ((n:Int) - 1 - (i:Int))) where
 mem:=by simp
 obj:=fun i h st b hb=>by
  have e:b=it:=by simpa using hb
  subst e;obtain ⟨_,o,e,c,d⟩:=st;exact ⟨o,e,fun v z=>by rw [d] at z;cases z⟩
 keep:=fun i h h' st k=>⟨st.1,let ⟨o,e,r⟩:=st.2;⟨o,k it (by simp) o e,r⟩⟩
 item:=by
  intro X hP hw hK hc i pins s σ H E I hf st hg;subst hP hw hK;obtain ⟨xs,hq,hn,hi⟩:=hg;obtain ⟨its,rv,p,hz⟩:=I.tuple hq;have hl:=rv.length;have sz:its.toArray.size=n:=by rw [aw];omega
  obtain ⟨f0,f1,f2,f3,f4,f5⟩:=hf it (by simp);have Wk:=Walks.tupRev (prog:=X.prog) (w:=X.w) (A:=X.A) (I.ok.hd hc) it a ne its.toArray (by rw [aw];have:=ju;have:=rv.length;omega);refine Wk.item i s _ _ (by omega) ⟨by omega,by rw [sz];exact st.2,(show s.heap.IsTuple a its.toArray from p)⟩ fun v h' tk pv st' kp=>?_
  have I1:aR X pins σ H { s with heap:=h',toks:=tk }:=I.turned (t':=tk) (fun b o hb e=>kp b o (by simpa using hb) e) f0 f1 f3 f4 f5;have hx:i < xs.reverse.length:=by rw [gp];omega
  obtain ⟨u,hu,ru⟩:=rv.get (show xs[xs.length - 1 - i]?=some (xs[xs.length - 1 - i]'(by omega)) from bw (by omega));obtain ⟨o,e,c,d⟩:=id st'.2.1;have ev:v=u:=by
   have:its.toArray[its.toArray.size - 1 - i]?=some v:=pv;rw [sz, <- hn] at this;have t2:its[xs.length - 1 - i]?=some v:=by simpa using this
   rw [hu] at t2;exact (cx t2).symm
  subst ev;refine ⟨_,rfl,go_of (s:={ s with heap:=h',toks:=tk }) e c d (by decide) ⟨xs[xs.length - 1 - i]'(by omega),H,I1,ru,⟨rfl,fun ys hy=>?_⟩,⟨by omega,by have:=st'.2.1;rw [sz] at this;exact this⟩,fun b hb=>(hf b hb).1⟩⟩;rw [I.tuple_inj hy hq,pp (by omega)];exact bw (by omega)
 done:=by
  intro X hP hw hK hc i pins s σ H E I hf st hg;subst hP hw hK;obtain ⟨xs,hq,hn,hi⟩:=hg;obtain ⟨its,rv,p,hz⟩:=I.tuple hq;have hl:=rv.length;have sz:its.toArray.size=n:=by rw [aw];omega
  obtain ⟨f0,f1,f2,f3,f4,f5⟩:=hf it (by simp);have Wk:=Walks.tupRev (prog:=X.prog) (w:=X.w) (A:=X.A) (I.ok.hd hc) it a ne its.toArray (by rw [aw];have:=ju;have:=rv.length;omega);have ei:i=n:=by have:=st.1;omega
  refine Wk.done s _ _ ⟨ai _,by rw [sz, <- ei];have:=st.2;rw [<- ei] at this;exact this,(show s.heap.IsTuple a its.toArray from p)⟩ fun h' tk kp=>⟨rfl,I.turned (t':=tk) (fun b o hb e=>kp b o (by simpa using hb) e) f0 f1 f3 f4 f5⟩
 self:=fun _ _ _ _ _ st h=>fI st.2 h
def cH4 (K:W.Frag) (te:TE):TI:=fun σ H R=>te σ H fun x H1=>∃ a ys,x= .ref a/\aT K H1 a ys/\R (aR9 K a ys.length) H1
theorem bL9 {X:Cx}{tg:Expr}{e:Expr}{te:TE}{p2 pos2:Pos}(he:PE X e te) (g2:Gl X "reversed") (m2:X.mg "reversed"=none) (hs2:autoParam (starEach [e] X.env=[(false,eval e X.env)]) Rq0._auto_1) :
  PI X tg (.Call (.Name "reversed" p2) [e] [] pos2) (cH4 X.K te):=by
 intro pins s σ H R I h;refine ge (jM I g2 m2 uc (fi ?_ hs2 rfl));rw [hs2];refine kh (cV (he pins s σ H _ I h) ?_);rintro u s1 ⟨x,H1,I1,r1,a,ys,ex,hq,q⟩;refine oh ?_;subst ex
 cases r1
 obtain ⟨its,rv,pl,hz⟩:=I1.tuple hq;have il:=(show s1.heap.IsTuple a its.toArray from pl)
 have len:=rv.length;have sz:its.toArray.size=ys.length:=by rw [aw];omega
 have aLt:a < s1.heap.objs.size:=by
  obtain ⟨o,e,_⟩:=il;exact ay e
 refine nC il (by rw [aw];have:=ju;have:=rv.length;omega) fun tk0=>?_
 have st:(s1.heap.push (aG7 a ((its.toArray.size:Int) - 1))).IsTRev s1.heap.objs.size a ((ys.length:Int) - 1 - ((0:Nat):Int)):=by
  rw [sz,Int.natCast_zero,Int.sub_zero];exact ⟨_,az _ rfl,rfl,rfl⟩
 refine fI st ?_;refine ⟨s1.heap.objs.size,[s1.heap.objs.size],_,aR9 X.K a ys.length,H1,rfl,I1.kept (t':=tk0) fun b o e=>af _ e,aP3 a _ ys.length (bt aLt),⟨bj _,st⟩,fun b hb=>?_,q⟩;have e:b=s1.heap.objs.size:=by simpa using hb
 subst e;exact I1.fpOk (ai _) (I1.hok.fresh (ai _))
theorem aP9 {K:PySem.W.Frag}{a:Addr}{xs:List V}{g:TG}{tb:TS}{D:fH}{σ: St}{H:Hp}(Pv:Nat->St->Hp->Prop) (z0:Pv 0 σ H) (zl:∀ i σ H,i<=xs.length->Pv i σ H->aT K H a xs)
  (zs:∀ (D':fH),∀ i x σ H,xs.reverse[i]?=some x->Pv i σ H->g x σ H fun σ2 H2=>tb { D' with nx:=Pv (i+1),ct:=Pv (i+1),bk:=D'.nx } σ2 H2) (zd:∀ σ H,Pv xs.length σ H->D.nx σ H) :
  ∃ W:Nat->Nat->St->Hp->Prop,(∃ m,W 0 m σ H)/\∀ i m σ H,W i m σ H ->
   ((aR9 K a xs.length).stop i H/\D.nx σ H)\/((aR9 K a xs.length).go i H/\∃ N:St->Hp->Prop,(∀ σ' H',N σ' H'->∃ m',m' < m/\W (i+1) m' σ' H')/\∀ x H',(aR9 K a xs.length).yld i H x H'->g x σ H' fun σ2 H2=>tb { D with nx:=N,ct:=N,bk:=D.nx } σ2 H2):=by
 refine ⟨fun i m σ H=>m=xs.length - i/\i<=xs.length/\Pv i σ H,⟨xs.length,rfl,bj _,z0⟩,?_⟩;rintro i m σ H ⟨rfl,le,p⟩;have q:=zl i σ H le p
 by_cases c:i < xs.length
 ·exact .inr ⟨⟨xs,q,rfl,c⟩,Pv (i+1),fun σ' H' p'=>⟨xs.length - (i+1),by omega,rfl,c,p'⟩,fun x H' ⟨e,y⟩=>by
   subst e;exact zs D i x σ _ (y xs q) p⟩
 ·obtain rfl:i=xs.length:=by omega
  exact .inl ⟨⟨xs,q,rfl,ai _⟩,zd σ H p⟩
section
variable {X:Cx}
end
section
variable {prog:Program}{w:World}{A:Around}{E:Value->Shared->Prop}{s:Shared}{d it v:Addr}{o:Obj}{es:Array DictEntry}{ep i:Nat}
end
section
variable {prog:Program}{w:World}{A:Around}{E:Value->Shared->Prop}{s:Shared}
end
section
variable {X:Cx}
end
section
variable {X:Cx}
end
open PySem PySem.Spec PyProof.Rows PySem.MeetsSeq
section
variable {prog:Program}{w:World}{A:Around}{E:Value->Shared->Prop}{s:Shared}
end
section
variable {X:Cx}{pins:List (Addr×Obj)}{σ: St}{H:Hp}{s:Shared}
end
open PySem PySem.Spec PyProof.Rows
section
variable {prog:Program}{w:World}{A:Around}{d it v:Addr}{o:Obj}{es:Array DictEntry}{ep:Nat}
end
section
variable {X:Cx}{pins:List (Addr×Obj)}{σ: St}{H:Hp}{s:Shared}{d:Addr}{vs:List V}
end
section
variable {X:Cx}
end
section
variable {X:Cx}{pins:List (Addr×Obj)}{σ: St}{H:Hp}{s:Shared}{A:Around}{E:Value->Shared->Prop}
end
section
variable {X:Cx}{o i e value:Expr}{pos pos' tpos:Pos}{td ty tv:TE}{k:Nat}
end
section
variable {prog:Program}{w:World}{A:Around}{E:Value->Shared->Prop}{s:Shared}{a:Addr}{o:Obj}{es:Array (Int×Value)}{ep:Nat}{t:SetTable}
def cR9 (t:SetTable) (i:Nat):Nat:=match i with
 |0=>0
 |i+1=>t.place.getD i 0+1
end
section
variable {prog:Program}{w:World}{A:Around}{E:Value->Shared->Prop}{s:Shared}{a:Addr}{o:Obj}{es:Array (Int×Value)}{ep:Nat}{t:SetTable}
end
open PySem PySem.Spec PyProof.Rows PySem.W
def dD {α: Type}(n:Nat) (f:Nat->Nat) (R:α->Prop):KasT α->Prop
 |.ret a=>R a
 |.ask i j k=>i < n/\j < n/\dD n f R (k (decide (f i < f j)))
theorem dD.bind {α β: Type}{n:Nat}{f:Nat->Nat}{R:α->Prop}{S:β->Prop}{g:α->KasT β}:∀ {t:KasT α},dD n f R t->(∀ a,R a->dD n f S (g a))->dD n f S (t.bind g)
 |.ret a,h,k=>by rw [KasT.bind.eq_1];exact k a h
 |.ask i j _,h,k=>by rw [KasT.bind.eq_2];exact ⟨h.1,h.2.1,dD.bind h.2.2 k⟩
theorem dD.wp {α: Type}{n:Nat}{f:Nat->Nat}{R:α->Prop}{cmp:Nat->Nat->(Bool->Shared->Prop)->Shared->Prop}{Q:α->Shared->Prop}{s:Shared}(hc:∀ i j C,i < n->j < n->C (decide (f i < f j)) s->cmp i j C s) (hq:∀ a,R a->Q a s):∀ {t:KasT α},dD n f R t->KasT.kasWp cmp t Q s
 |.ret a,h=>by rw [KasT.kasWp.eq_1];exact hq a h
 |.ask i j k,h=>by rw [KasT.kasWp.eq_2];exact hc i j _ h.1 h.2.1 (dD.wp hc hq h.2.2)
theorem dD.yes {α: Type}{n:Nat}{f:Nat->Nat}{R:α->Prop}{i j:Nat}{k:Bool->KasT α}(hi:i < n) (hj:j < n) (c:f i < f j) (h:dD n f R (k true)):dD n f R (.ask i j k):=⟨hi,hj,by rw [ap c];exact h⟩
theorem dD.no {α: Type}{n:Nat}{f:Nat->Nat}{R:α->Prop}{i j:Nat}{k:Bool->KasT α}(hi:i < n) (hj:j < n) (c:¬ f i < f j) (h:dD n f R (k false)):dD n f R (.ask i j k):=⟨hi,hj,by rw [dm c];exact h⟩
theorem dD.mono {α: Type}{n:Nat}{f:Nat->Nat}{R S:α->Prop}(k:∀ a,R a->S a):∀ {t:KasT α},dD n f R t->dD n f S t
 |.ret a,h=>k a h
 |.ask _ _ _,h=>⟨h.1,h.2.1,dD.mono k h.2.2⟩
theorem eB.size {n:Nat}{p:Array Nat}(h:eB n p):p.size=n:=by
 have:=(ie.mp h).length_eq
 simpa using this
theorem eB.inj {n:Nat}{p:Array Nat}(h:eB n p) {i j:Nat}(hi:i < n) (hj:j < n) (e:p.getD i 0=p.getD j 0):i=j:=by
 have z:=h.size;have nd:p.toList.Nodup:=((ie.mp h).nodup_iff).mpr (by simpa using List.nodup_range);have ei:p.getD i 0=p.toList[i]'(by simp [z,hi]):=by simp [Array.getD,z,hi]
 have ej:p.getD j 0=p.toList[j]'(by simp [z,hj]):=by simp [Array.getD,z,hj]
 rw [ei,ej] at e;exact (oz nd).mp e
section
variable {n:Nat}{f:Nat->Nat}
def kk (f:Nat->Nat) (p:Array Nat) (k:Nat):Nat:=f (p.getD k 0)
def Up (f:Nat->Nat) (p:Array Nat) (m:Nat):Prop:=∀ i j,i < j->j < m->kk f p i < kk f p j
def Dn (f:Nat->Nat) (p:Array Nat) (m:Nat):Prop:=∀ i j,i < j->j < m->kk f p j < kk f p i
theorem kD {p q:Array Nat}{i j:Nat}(h:p[i]?=q[j]?):p.getD i 0=q.getD j 0:=by
 rw [sx,sx,h]
theorem aZ0 {p:Array Nat}{j:Nat}(hj:j<=p.size) (k:Nat):kk f (kas_rev p 0 j) k=if k < j then kk f p (j - 1 - k) else kk f p k:=by
 have e:=getElem?_mirror_all (xs:=p) (i:=0) (j:=j) hj k;unfold kk kas_rev
 by_cases c:k < j
 ·rw [ao ⟨bj _,c⟩] at e;rw [ao c,kD e];simp
 ·rw [aj fun z=>c z.2] at e;rw [aj c,kD e]
theorem bG1 {p:Array Nat}{x l:Nat}(hx:x < p.size) (hl:l<=x) (k:Nat):kk f (bubble p x (x - l)) k=if k=l then kk f p x else if l < k/\k<=x then kk f p (k - 1) else kk f p k:=by
 have e:=getElem?_bubble (xs:=p) (src:=x) hx (x - l) (Nat.sub_le _ _) k;have s:x - (x - l)=l:=by omega
 rw [s] at e;unfold kk
 by_cases c:k=l
 ·rw [ao c] at e;rw [ao c,kD e]
 ·rw [aj c] at e;rw [aj c]
  by_cases d:l < k/\k<=x
  ·rw [ao d] at e;rw [ao d,kD e]
  ·rw [aj d] at e;rw [aj d,kD e]
variable (hf:∀ i j,i < n->j < n->f i=f j->i=j)
include hf
theorem bD8 {p:Array Nat}(h:eB n p) {i j:Nat}(hi:i < n) (hj:j < n) (e:i≠j):kk f p i≠kk f p j:=fun q=>by
 have h0:0 < n:=by omega
 exact e (h.inj hi hj (hf _ _ (h.get h0 _) (h.get h0 _) q))
theorem bN3 {p:Array Nat}(h:eB n p) {x:Nat}(u:Up f p x) (x1:1<=x) (xn:x < n) (c:¬ kk f p x < kk f p (x - 1)):Up f p (x+1):=fun i j hij hj=>by
 have:=bD8 hf h xn (show x - 1 < n by omega) (by omega)
 by_cases e:j=x
 ·rw [e]
  by_cases d:i=x - 1
  ·rw [d];omega
  ·have:=u i (x - 1) (by omega) (by omega);omega
 ·exact u i j hij (by omega)
omit hf in
theorem bK1 {p:Array Nat}{x:Nat}(u:Dn f p x) (x1:1<=x) (c:kk f p x < kk f p (x - 1)):Dn f p (x+1):=fun i j hij hj=>by
 by_cases e:j=x
 ·rw [e]
  by_cases d:i=x - 1
  ·rw [d];exact c
  ·have:=u i (x - 1) (by omega) (by omega);omega
 ·exact u i j hij (by omega)
theorem aV7 {p:Array Nat}(h:eB n p):∀ (k x:Nat),1<=x->x+k<=n->Up f p x->dD n f (fun r=>x<=r/\r<=x+k/\Up f p r/\(r=x+k\/kk f p r < kk f p (r - 1))) (kas_asc p k x)
 |0,x,x1,xn,u=>by rw [kas_asc.eq_1];exact ⟨ai _,by omega,u,.inl rfl⟩
 |k+1,x,x1,xn,u=>by
  have h0:0 < n:=by omega
  rw [show k+1=k.succ from rfl,kas_asc.eq_2]
  by_cases c:kk f p x < kk f p (x - 1)
  ·exact dD.yes (h.get h0 _) (h.get h0 _) c (show dD n f _ (KasT.ret x) from ⟨ai _,by omega,u,.inr c⟩)
  ·refine dD.no (h.get h0 _) (h.get h0 _) c ?_;show dD n f _ (kas_asc p k (x+1));have ih:=aV7 h k (x+1) (by omega) (by omega) (bN3 hf h u x1 (by omega) c);have e:x+1+k=x+k.succ:=by omega
   rw [e] at ih;refine dD.mono ?_ ih;rintro r ⟨a,b,c,d⟩;exact ⟨by omega,b,c,d⟩
theorem bC0 {p:Array Nat}(h:eB n p):∀ (k x:Nat),1<=x->x+k<=n->Dn f p x->dD n f (fun r:Array Nat×Nat×Nat=>r.1=p/\r.2.2=0/\1<=r.2.1/\r.2.1<=x+k/\Dn f p r.2.1) (kas_desc k p x 0)
 |0,x,x1,xn,u=>by rw [kas_desc.eq_1];exact ⟨rfl,rfl,x1,ai _,u⟩
 |k+1,x,x1,xn,u=>by
  have h0:0 < n:=by omega
  rw [show k+1=k.succ from rfl,kas_desc.eq_2]
  by_cases c:kk f p x < kk f p (x - 1)
  ·refine dD.yes (h.get h0 _) (h.get h0 _) c ?_;show dD n f _ (kas_desc k p (x+1) 0);have ih:=bC0 h k (x+1) (by omega) (by omega) (bK1 u x1 c);have e:x+1+k=x+k.succ:=by omega
   rw [e] at ih;exact ih
  ·refine dD.no (h.get h0 _) (h.get h0 _) c ?_;have:=bD8 hf h (show x < n by omega) (show x - 1 < n by omega) (by omega);have d:kk f p (x - 1) < kk f p x:=by omega
   exact dD.yes (h.get h0 _) (h.get h0 _) d (show dD n f _ (KasT.ret (p,x,0)) from ⟨rfl,rfl,x1,iz _ _,u⟩)
theorem bY1 {p:Array Nat}(h:eB n p) {x:Nat}(x1:1<=x) (xn:x<=n) (u:Dn f p x):dD n f (fun r:Nat×Array Nat=>eB n r.2/\1<=r.1/\r.1<=n/\Up f r.2 r.1) (kas_tail3 x n p):=by
 rw [kas_tail3.eq_1];have up:Up f (kas_rev p 0 x) x:=fun i j hij hj=>by
  have z:=h.size;rw [aZ0 (by omega),aZ0 (by omega),ao (by omega),ao hj];exact u _ _ (by omega) (by omega)
 refine (aV7 hf (h.rev 0 x) (n - x) x x1 (by omega) up).bind fun a ⟨h1,h2,h3,_⟩=>?_
 exact ⟨h.rev 0 x,by omega,by omega,h3⟩
theorem bI3 (h0:1<=n) {p:Array Nat}(h:eB n p):dD n f (fun r:Nat×Array Nat=>eB n r.2/\1<=r.1/\r.1<=n/\Up f r.2 r.1) (kas_count n p):=by
 rw [kas_count.eq_1];refine (aV7 hf h (n - 1) 1 (ai _) (by omega) fun i j a b=>by omega).bind fun x ⟨h1,h2,h3,h4⟩=>?_
 by_cases c:x=n
 ·rw [ao (by simpa using c)];exact ⟨h,h1,by omega,h3⟩
 ·rw [aj (by simpa using c)]
  by_cases d:x > 1
  ·rw [ao d];have q:kk f p 0 < kk f p (x - 1):=h3 0 (x - 1) (by omega) (by omega);exact dD.yes (h.get h0 _) (h.get h0 _) q (show dD n f _ (KasT.ret (x,p)) from ⟨h,h1,by dsimp only;omega,h3⟩)
  ·rw [aj d,kas_descPart.eq_1];have x1:x=1:=by omega
   subst x1;have q:kk f p 1 < kk f p 0:=by
    rcases h4 with e | e
    ·omega
    ·exact e
   have dn:Dn f p 2:=fun i j hij hj=>by
    have a:i=0:=by omega
    have b:j=1:=by omega
    rw [a,b];exact q
   refine (bC0 hf h (n - (1+1)) (1+1) (by omega) (by omega) dn).bind fun r hr=>?_
   obtain ⟨p',m,q'⟩:=r;obtain ⟨e1,e2,e3,e4,e5⟩:=hr
   dsimp only at e1 e2 e3 e4 e5 ⊢
   subst e1 e2;rw [aj (gb 0)];exact bY1 hf h e3 (by omega) e5
theorem wX {p:Array Nat}(h:eB n p) {k:Nat}(kn:k < n) (u:Up f p k):∀ (g l r:Nat),r - l<=g->l<=r->r<=k->(∀ i,i < l->kk f p i < kk f p k)->(∀ i,r<=i->i < k->kk f p k < kk f p i) ->
  dD n f (fun m=>m<=k/\(∀ i,i < m->kk f p i < kk f p k)/\∀ i,m<=i->i < k->kk f p k < kk f p i) (kas_place p k g l r)
 |0,l,r,hg,lr,rk,a,b=>by
  rw [kas_place.eq_def];have e:l=r:=by omega
  exact ⟨by omega,a,fun i hi=>b i (by omega)⟩
 |g+1,l,r,hg,lr,rk,a,b=>by
  have h0:0 < n:=by omega
  rw [kas_place.eq_def];show dD n f _ (if l ≥ r then _ else _)
  by_cases c:l ≥ r
  ·rw [ao c];exact ⟨by omega,a,fun i hi=>b i (by omega)⟩
  ·rw [aj c];have m1:(l+r) / 2 < r:=by omega
   have m2:l<=(l+r) / 2:=by omega
   generalize (l+r) / 2=m at m1 m2 ⊢
   by_cases d:kk f p k < kk f p m
   ·refine dD.yes (h.get h0 _) (h.get h0 _) d ?_;show dD n f _ (kas_place p k g l m);refine wX h kn u g l m (by omega) m2 (by omega) a fun i hi hk=>?_
    by_cases e:i=m
    ·rw [e];exact d
    ·have:=u m i (by omega) hk;omega
   ·refine dD.no (h.get h0 _) (h.get h0 _) d ?_;show dD n f _ (kas_place p k g (m+1) r);refine wX h kn u g (m+1) r (by omega) (by omega) rk (fun i hi=>?_) b;have:=bD8 hf h (show m < n by omega) kn (by omega)
    by_cases e:i=m
    ·rw [e];omega
    ·have:=u i m (by omega) (by omega);omega
theorem bQ7:∀ (g:Nat) {p:Array Nat}(x:Nat),eB n p->x+g=n->Up f p x->dD n f (fun q=>eB n q/\Up f q n) (kas_bin g p x)
 |0,p,x,h,e,u=>by
  rw [kas_bin.eq_1];have:x=n:=by omega
  subst this;exact ⟨h,u⟩
 |g+1,p,x,h,e,u=>by
  have z:=h.size;rw [show g+1=g.succ from rfl,kas_bin.eq_2];refine (wX hf h (show x < n by omega) u x 0 x (by omega) (by omega) (ai _) (fun i hi=>by omega) (fun i a b=>by omega)).bind fun l ⟨h1,h2,h3⟩=>?_
  refine bQ7 g _ ((bubble_perm p _ _).trans h) (by omega) fun i j hij hj=>?_
  rw [bG1 (by omega) h1,bG1 (by omega) h1];rcases zy i l with c | c | c
  ·rw [aj (by omega),aj (by omega)];rcases zy j l with d | d | d
   ·rw [aj (by omega),aj (by omega)];exact u _ _ hij (by omega)
   ·rw [ao d];exact h2 _ c
   ·rw [aj (by omega),ao (by omega)];exact u _ _ (by omega) (by omega)
  ·rw [ao c,aj (by omega),ao (by omega)];exact h3 _ (by omega) (by omega)
  ·rw [aj (by omega),ao (by omega),aj (by omega),ao (by omega)];exact u _ _ (by omega) (by omega)
theorem bW9 (h0:1<=n):dD n f (fun q=>eB n q/\Up f q n) (kas_sort n):=by
 unfold kas_sort;refine (bI3 hf h0 (Array.Perm.refl _)).bind ?_;rintro r ⟨h1,h2,h3,h4⟩
 split
 ·rename_i c
  rw [Nat.max_eq_left h2];exact bQ7 hf _ _ h1 (by omega) h4
 ·rename_i c
  have:r.1=n:=by omega
  rw [this] at h4;exact ⟨h1,h4⟩
end
open PySem PySem.Spec PyProof.Rows
section
variable {prog:Program}{w:World}{A:Around}{E:Value->Shared->Prop}{s:Shared}{a:Addr}{S:Key->Bool}{n:Nat}{led:Bool}
end
section
variable {prog:Program}{w:World}{A:Around}{R:Result->Shared->Prop}{I:Addr}{fp wr:List Addr}{G:Array GenState->Array GenState->Prop}{n:Nat}{P:Nat->Value->Prop}{St:Nat->Shared->Prop}{led:Bool}
end
section
variable {prog:Program}{w:World}{A:Around}{E:Value->Shared->Prop}{s:Shared}
end
def tb (m:Nat):SetTable:={ SetTable.fresh 0 0 true with mask:=m }
def bs (m:Nat) (h:Int):Nat->Nat×Nat
 |0=>(SetTable.bits h % (m+1),SetTable.bits h)
 |L+1=>SetTable.leap m (bs m h L).1 (bs m h L).2
def lf (m i:Nat):Nat:=(i * 5+1) % (m+1)
section
variable {prog:Program}{w:World}{A:Around}{E:Value->Shared->Prop}{s:Shared}{K:Type} [DecidableEq K] {knd:KeyKind prog w K}
variable (knd) in
end
section
variable {prog:Program}{w:World}{A:Around}{E:Value->Shared->Prop}{s:Shared}{K:Type} [DecidableEq K] {knd:KeyKind prog w K}
end
section
variable {prog:Program}{w:World}{A:Around}{E:Value->Shared->Prop}{s:Shared}{K:Type} [DecidableEq K] {knd:KeyKind prog w K}
end
section
variable {prog:Program}{w:World}{A:Around}{K:Type} [DecidableEq K] {knd:KeyKind prog w K}{I:Addr}{fp wr:List Addr}{G:Array GenState->Array GenState->Prop}{n:Nat}{P:Nat->Value->Prop}{St:Nat->Shared->Prop}{R:Result->Shared->Prop}
variable (knd) in
end
section
variable {prog:Program}{w:World}{A:Around}{E:Value->Shared->Prop}{s:Shared}{K:Type} [DecidableEq K] {knd:KeyKind prog w K}
end
def eP (H:Hp) (bs:List Addr) (nss:List (List Int)):Prop:=bs.length=nss.length/\∀ (i:Nat) b ns,bs[i]?=some b->nss[i]?=some ns->H b=some (.tup (ns.map V.int))
theorem bH3 {ns ms:List Int}(h:ns.map (Sum.inl:Int->Key)=ms.map Sum.inl):ns=ms:=by
 induction ns generalizing ms with
 |nil=>cases ms with | nil=>rfl | cons _ _=>cases h
 |cons x r ih =>
  cases ms with
  |nil=>cases h
  |cons y t =>
   rw [bi,bi] at h;injection h with h1 h2
   injection h1 with h1
   rw [h1,ih h2]
open PySem PySem.Spec PyProof.Rows PySem.W HT
theorem qI:∀ a:List Int,HT.lexLt a a=false
 |[]=>rfl
 |x :: r=>by rw [lexLt_cons,ao rfl];exact qI r
theorem oO:∀ {a b c:List Int},HT.lexLt a b=true->HT.lexLt b c=true->HT.lexLt a c=true
 |[],[],_,h,_=>by cases h
 |[],_ :: _,[],_,h=>by cases h
 |[],_ :: _,_ :: _,_,_=>rfl
 |_ :: _,[],_,h,_=>by cases h
 |_ :: _,_ :: _,[],_,h=>by cases h
 |x :: a,y :: b,z :: c,h,k=>by
  rw [lexLt_cons] at h k ⊢
  by_cases e:x=y
  ·subst e;rw [ao rfl] at h
   by_cases f:x=z
   ·rw [ao f] at k ⊢;exact oO h k
   ·rw [aj f] at k ⊢;exact k
  ·rw [aj e] at h;have h:=ba h
   by_cases f:y=z
   ·subst f;rw [aj e];exact ap h
   ·rw [aj f] at k;have k:=ba k;rw [aj (by omega)];exact ap (by omega)
theorem vZ:∀ {a b:List Int},HT.lexLt a b=false->HT.lexLt b a=false->a=b
 |[],[],_,_=>rfl
 |[],_ :: _,h,_=>by cases h
 |_ :: _,[],_,h=>by cases h
 |x :: a,y :: b,h,k=>by
  rw [lexLt_cons] at h k
  by_cases e:x=y
  ·subst e;rw [ao rfl] at h k;rw [vZ h k]
  ·rw [aj e] at h;rw [aj (fun z=>e z.symm)] at k;have h:=zm h;have k:=zm k;omega
theorem eU {α: Type}{l:List α}{d:α}{i:Nat}(h:i < l.length):l.getD i d=l[i]:=by simp [List.getD,h]
theorem uU {α: Type}{p q:α->Bool}:∀ {l:List α}{x:α},(∀ y∈l,p y=true->q y=true)->x∈l->q x=true->p x=false->l.countP p < l.countP q
 |y :: r,x,h,m,qx,px=>by
  have hr:∀ y∈r,p y=true->q y=true:=fun z hz=>h z (ae _ hz)
  have le:r.countP p<=r.countP q:=List.countP_mono_left hr;rw [List.countP_cons,List.countP_cons]
  by_cases e:x=y
  ·subst e;rw [qx,px];simp;omega
  ·have m':x∈r:=by
    rcases av.mp m with z | z
    ·exact absurd z e
    ·exact z
   have ih:=uU hr m' qx px;have hy:=h y ah
   cases hp:p y
   ·simp;omega
   ·rw [hy hp];simp;omega
def rkL (nss:List (List Int)) (i:Nat):Nat:=nss.countP fun y=>HT.lexLt y (nss.getD i [])
theorem bR7 {nss:List (List Int)}{i j:Nat}(hi:i < nss.length) (h:HT.lexLt (nss.getD i []) (nss.getD j [])=true):rkL nss i < rkL nss j:=by
 refine uU (x:=nss.getD i []) (fun y _ hy=>oO hy h) ?_ h (qI _);rw [eU hi];exact pd hi
theorem wD {nss:List (List Int)}(nd:nss.Nodup) {i j:Nat}(hi:i < nss.length) (hj:j < nss.length):decide (rkL nss i < rkL nss j)=HT.lexLt (nss.getD i []) (nss.getD j []):=by
 cases h:HT.lexLt (nss.getD i []) (nss.getD j []) with
 |true=>exact ap (bR7 hi h)
 |false =>
  refine dm fun c=>?_
  cases k:HT.lexLt (nss.getD j []) (nss.getD i []) with
  |true=>have:=bR7 hj k;omega
  |false =>
   have e:=vZ h k;rw [eU hi,eU hj] at e;have:=(oz nd).mp e;subst this;omega
theorem cD1 {nss:List (List Int)}(nd:nss.Nodup) (i j:Nat) (hi:i < nss.length) (hj:j < nss.length) (e:rkL nss i=rkL nss j):i=j:=by
 have a:=wD nd hi hj;have b:=wD nd hj hi;rw [e,dm (gb _)] at a b;have e:=vZ a.symm b.symm;rw [eU hi,eU hj] at e;exact (oz nd).mp e
def cF6 (h:Heap) (bs:List Addr) (nss:List (List Int)):Prop:=bs.length=nss.length/\∀ (i:Nat),i < bs.length->∃ its,IsTup h (bs.getD i 0) its/\IntsAre its.toList (nss.getD i [])
section
variable {prog:Program}{w:World}{A:Around}{E:Value->Shared->Prop}{s:Shared}
theorem bS4 {b fin:Bool}{Q:Bool->Shared->Prop}(hu:A.units < cLine):∀ {us vs:List Value}{ns ms:List Int}(i:Nat),IntsAre us ns->IntsAre vs ms->fin=decide (us.length < vs.length)->Q (HT.lexLt ns ms) s->KatLex prog w A b fin Q (us.zip vs) i s
 |_,_,_,_,i,.nil,.nil,e,q=>by subst e;exact kat_nil q
 |_,_,_,_,i,.nil,.cons _ _ _,e,q=>by subst e;exact kat_nil q
 |_,_,_,_,i,.cons _ _ _,.nil,e,q=>by subst e;exact kat_nil q
 |_,_,_,_,i,.cons x t r,.cons y u r',e,q=>by
  rw [sr];refine kat_cons (sq x t y u prog w _ _ ?_);rw [lexLt_cons] at q;rw [KatGo.eq_1]
  by_cases c:x=y
  ·rw [ao c] at q;rw [ao (by simpa using c)];exact bS4 hu (i+1) r r' (by simpa using e) q
  ·rw [aj c] at q;rw [aj (by simpa using c)]
   cases hb:(b && i == 0)
   ·exact kat_one _ _ (yj q)
   ·exact kat_lt_int q
theorem cO8 {a c:Addr}{its jts:Array Value}{ns ms:List Int}{κ: SortKind}{Q:Bool->Shared->Prop}(hu:A.units+1 < cLine) (hx:IsTup s.heap a its) (ix:IntsAre its.toList ns) (hy:IsTup s.heap c jts) (iy:IntsAre jts.toList ms) (hk:κ=general'\/κ=oneType'\/∃ b,κ=tuples' b) (hQ:Q (HT.lexLt ns ms) s) :
  wpAny (model prog w) A (keyLt' κ (.ref a) (.ref c)) Q E s:=by
 rcases hk with rfl | rfl | ⟨b,rfl⟩
 ·exact kat_one _ _ (aI9 hx hy ix iy (by omega) hQ)
 ·show wpAny _ _ (oneLt' true _ _) _ _ _;rw [oneLt'_eq];refine aa (wx (by omega) ?_);obtain ⟨⟨cls,dd,data,sl⟩,ho,hc,n,hd⟩:=id hx;obtain ⟨⟨cls2,dd2,data2,sl2⟩,ho2,hc2,n2,hd2⟩:=id hy;simp only at hc hd hc2 hd2;subst hc hd hc2 hd2;refine aa (wpAny_callSpecialIfBound?_slot (T:="tuple") ⟨_,ho,rfl⟩ pi (nu pi ⟨_,ho,rfl⟩ vz (vi _ _) (lN a c its jts n n2 dd dd2 sl sl2 ns ms ix iy) ⟨ho,ho2,?_⟩));exact jq hQ
 ·obtain ⟨o,ho,hc,n,hd⟩:=id hx;obtain ⟨o2,ho2,hc2,n2,hd2⟩:=id hy;exact kat_lt ho hd ho2 hd2 (bS4 (by omega) 0 ix iy (by simp) hQ)
def iC (bs:List Addr) (p:List Nat):List Addr:=p.map fun i=>bs.getD i 0
def lJ (nss:List (List Int)) (p:List Nat):List (List Int):=p.map fun i=>nss.getD i []
theorem jO {α: Type}(l:List α) (d:α):(List.range l.length).map (fun i=>l.getD i d)=l:=by
 apply ve
 ·simp
 ·intro i h1 h2;simp [List.getD,h2]
theorem cN1 {nss:List (List Int)}(nd:nss.Nodup) {p:Array Nat}(hp:eB nss.length p) (u:Up (rkL nss) p nss.length):(lJ nss p.toList).Pairwise fun a b=>HT.lexLt a b=true:=by
 unfold lJ;rw [ot,uo];intro i j hi hj hij;have z:=hp.size;rw [fw] at hi hj;have h0:0 < nss.length:=by omega
 have a:=u i j hij (by omega);have b:=wD nd (hp.get h0 i) (hp.get h0 j);rw [ap (show rkL nss (p.getD i 0) < rkL nss (p.getD j 0) from a)] at b;have ei:p.toList[i]=p.getD i 0:=by simp [Array.getD,hi]
 have ej:p.toList[j]=p.getD j 0:=by simp [Array.getD,hj]
 rw [ei,ej];exact b.symm
theorem aW9 {bs:List Addr}{p:Array Nat}(hp:eB bs.length p):(p.toList.map fun i=>(bs.map Value.ref).getD i Value.none)=(iC bs p.toList).map Value.ref:=by
 unfold iC;rw [jf];refine eh fun i hi=>?_
 have hi:i < bs.length:=by
  have:=(ie.mp hp).mem_iff.mp hi
  simpa using this
 simp [List.getD,hi]
theorem aI8 {a:Addr}{bs:List Addr}{nss:List (List Int)}{n:Nat}{P:PySem.Fin->Shared->Prop}(hu:A.units+1 < cLine) (hl:s.heap.get? a=some (seqObj "list" (bs.map Value.ref).toArray n)) (hn:bs.length < 64) (ht:cF6 s.heap bs nss) (nd:nss.Nodup) (hc:∀ b∈bs,b≠a)
  (q:∀ (h':Heap) (p:List Nat) (c:Nat),(∀ b o,b≠a->s.heap.get? b=some o->h'.get? b=some o)->h'.get? a=some (seqObj "list" ((iC bs p).map Value.ref).toArray c)->p.Perm (List.range bs.length)->(lJ nss p).Pairwise (fun a b=>HT.lexLt a b=true)->P (Fin.done (Flow.ret Value.none)) { s with heap:=h' }) :
  wpAny (model prog w) A (Builtin.«list.sort» { pos:=[Value.ref a] }) P E s:=by
 obtain ⟨vs,hv⟩:∃ vs,vs=bs.map Value.ref:=⟨_,rfl⟩
 have vl:vs.length=bs.length:=by rw [hv,ac]
 rw [<- hv] at hl;have la:=ay hl;have zs:vs.length<=sizeLine:=fk (aK (by omega));have zs2:vs.toArray.size<=sizeLine:=by rw [aw];exact zs
 rw [list_sort_plain];refine aa (listItems_at hl rfl ?_);refine aa (yg hl rfl ?_ zs2 (by show (0:Nat)<=_;omega));have hl1:=vt hl fun _=> #[]
 have k1:∀ b o,b≠a->s.heap.get? b=some o->(s.heap.update a (Obj.mapSeq fun _=> #[])).get? b=some o:=fun b o hb e=>by
  rw [ka _ _ _ _ hb];exact e
 generalize s.heap.update a (Obj.mapSeq fun _=> #[])=h1 at hl1 k1 ⊢;refine aa (aAe hl1 rfl ?_);refine aa (wpAny_newTuple ?_ zs);refine aa (wpAny_newList ?_ (bj _));have k2:∀ b o,h1.get? b=some o->((h1.push { cls:= .type "tuple",data:= .seq vs.toArray }).push { cls:= .type "list",data:= .seq ([]:List Value).toArray }).get? b=some o:=fun b o e=>af _ (af _ e)
 dsimp only
 generalize ((h1.push { cls:= .type "tuple",data:= .seq vs.toArray }).push { cls:= .type "list",data:= .seq ([]:List Value).toArray })=h2 at k2 ⊢;have hl2:=k2 _ _ hl1;have ht2:∀ i,i < bs.length->∃ its,IsTup h2 (bs.getD i 0) its/\IntsAre its.toList (nss.getD i []):=fun i hi=>by
  obtain ⟨its,⟨o,ho,r⟩,ix⟩:=ht.2 i hi;refine ⟨its,⟨o,k2 _ _ (k1 _ _ (hc _ ?_) ho),r⟩,ix⟩;rw [eU hi];exact pd hi
 refine jn ?_
 by_cases c:vs.length < 2
 ·rw [ao (by simpa using c)];refine aa (am ?_);rw [ao (by simpa using c)];refine aa (am ?_);have f:failedOf (SortSt.mk' general' (vs.toArray.zip vs.toArray) #[] 7 none)=none:=rfl;have e:Array.map (fun x=>x.snd) (arrOf (SortSt.mk' general' (vs.toArray.zip vs.toArray) #[] 7 none))=((iC bs (List.range bs.length)).map Value.ref).toArray:=by
   show Array.map (fun x=>x.snd) (vs.toArray.zip vs.toArray)=_;unfold iC;rw [jO, <- hv]
   apply Array.ext
   ·simp
   ·intro i h1 h2;simp
  have pw:(lJ nss (List.range bs.length)).Pairwise (fun a b=>HT.lexLt a b=true):=by
   unfold lJ;rw [ht.1,jO];have:nss.length < 2:=by rw [<- ht.1];omega
   rw [uo];intro i j hi hj hij;omega
  refine aa (aAe hl2 rfl ?_);refine aa (yg hl2 rfl ?_ (bj _) (by dsimp only;rw [e,aw,ac];unfold iC;rw [ac,List.length_range];omega))
  try rw [f]
  try dsimp only
  rw [aj (by simp)];refine am ?_;have hl3:=vt hl2 fun _=>Array.map (fun x=>x.snd) (arrOf (SortSt.mk' general' (vs.toArray.zip vs.toArray) #[] 7 none))
  refine q _ _ _ (fun b o hb e0=>?_) (by rw [<- e];exact hl3) (List.Perm.refl _) pw;rw [ka _ _ _ _ hb];exact k2 _ _ (k1 _ _ hb e0)
 ·rw [aj (by simpa using c)];refine aa (bF6 (vs:=vs) (fun v hv'=>?_) fun κ hk=>?_)
  ·rw [hv] at hv';obtain ⟨b,hb,rfl⟩:=cm.mp hv';obtain ⟨i,hi,e⟩:=qp.mp hb;obtain ⟨its,x1,x2⟩:=ht2 i hi;rw [eU hi,e] at x1;exact ⟨b,its,_,rfl,x1,x2⟩
  rw [aj (by simpa using c)];refine aa ?_;refine fq (kat_run (ks:=vs) (vs:=vs) (Q:=fun st s'=>s'={ s with heap:=h2 }/\failedOf st=none/\∃ p:List Nat,Array.map (fun x=>x.snd) (arrOf st)=((iC bs p).map Value.ref).toArray/\p.Perm (List.range bs.length)/\(lJ nss p).Pairwise (fun a b=>HT.lexLt a b=true)) (G:=fun p s'=>s'={ s with heap:=h2 }/\eB bs.length p/\Up (rkL nss) p bs.length) rfl (by omega) (by omega) (fun p st s' hp ha hf hG=>⟨hG.1,hf,p.toList,by rw [kat_snds rfl ha,hv,aW9 hG.2.1],by have:=ie.mp hG.2.1;simpa using this,cN1 nd (by rw [<- ht.1];exact hG.2.1) (by rw [<- ht.1];exact hG.2.2)⟩) ?_) ?_ (fun _ _ h=>h)
  rotate_left
  ·rintro ⟨_,st⟩ s' ⟨rfl,f,p,e,pm,pw⟩
   dsimp only at f e ⊢
   refine aa (aAe hl2 rfl ?_);refine aa (yg hl2 rfl ?_ (bj _) (by show (Array.map (fun x=>x.snd) (arrOf st)).size<=_;rw [e,aw,ac];unfold iC;rw [ac,pm.length_eq,List.length_range];omega))
   try rw [f]
   dsimp only
   rw [aj (by simp)];refine am ?_;have hl3:=vt hl2 fun _=>Array.map (fun x=>x.snd) (arrOf st)
   refine q _ p _ (fun b o hb e0=>?_) (by rw [<- e];exact hl3) pm pw;rw [ka _ _ _ _ hb];exact k2 _ _ (k1 _ _ hb e0)
  ·rw [vl];have hz:=ht.1;refine dD.wp (n:=bs.length) (f:=rkL nss) (fun i j C hi hj hC=>?_) (fun p hp=>⟨rfl,hp⟩) (bW9 (fun i j hi hj=>cD1 nd i j (by omega) (by omega)) (by omega));unfold kas_ask;obtain ⟨its,x1,x2⟩:=ht2 i hi;obtain ⟨jts,y1,y2⟩:=ht2 j hj;rw [wD nd (by omega) (by omega)] at hC;have ei:vs.getD i Value.none= .ref (bs.getD i 0):=by rw [hv];simp [List.getD,hi]
   have ej:vs.getD j Value.none= .ref (bs.getD j 0):=by rw [hv];simp [List.getD,hj]
   rw [ei,ej];exact cO8 hu x1 x2 y1 y2 hk hC
end
theorem rC {bs:List Addr}{p:List Nat}(h:p.Perm (List.range bs.length)):(iC bs p).Perm bs:=by
 have:=h.map fun i=>bs.getD i 0
 rw [jO] at this;exact this
theorem aD0 {nss:List (List Int)}{p:List Nat}(h:p.Perm (List.range nss.length)):(lJ nss p).Perm nss:=by
 have:=h.map fun i=>nss.getD i []
 rw [jO] at this;exact this
theorem eP.pick {H:Hp}{bs:List Addr}{nss:List (List Int)}(t:eP H bs nss) {p:List Nat}(h:p.Perm (List.range bs.length)):eP H (iC bs p) (lJ nss p):=by
 refine ⟨by unfold iC lJ;rw [ac,ac],fun i b ns h1 h2=>?_⟩;unfold iC at h1;unfold lJ at h2;rw [cy] at h1 h2;obtain ⟨j,hj,rfl⟩:=gh.mp h1;rw [hj] at h2
 cases h2
 have lj:j < bs.length:=by
  have:=h.mem_iff.mp (br hj)
  simpa using this
 have ln:=t.1;refine t.2 j _ _ ?_ ?_
 ·rw [eU lj];exact bw lj
 ·dsimp only;rw [eU (by omega)];exact bw (by omega)
section
variable {X:Cx}{k:Nat}
theorem bO7 {pins:List (Addr×Obj)}{σ: St}{H:Hp}{s:Shared}{bs:List Addr}{nss:List (List Int)}(I:aR X pins σ H s) (t:eP H bs nss):cF6 s.heap bs nss:=by
 refine ⟨t.1,fun i hi=>?_⟩;have ln:=t.1;have ha:=t.2 i bs[i] nss[i] (bw hi) (bw (by omega));obtain ⟨jts,rj,tp,_⟩:=I.tuple (aT.of ha);rw [eU hi,eU (by omega)];exact ⟨jts.toArray,tp,sW (by simpa using rj)⟩
theorem aF5 {pins:List (Addr×Obj)}{σ: St}{H:Hp}{s:Shared}{Q:VK}{h':Heap}{d':Drawn}{t:Nat}{bs:List Addr}{nss:List (List Int)}(hr:dE k X.A) (I:aR X pins σ H s) (ht:eP H bs nss) (nd:nss.Nodup) (h64:bs.length < 64) (keep:∀ b o,s.heap.get? b=some o->h'.get? b=some o) (le:s.heap.objs.size<=h'.objs.size)
  (q:∀ (bs':List Addr) (nss':List (List Int)),bs'.Perm bs->nss'.Perm nss->eP H bs' nss'->nss'.Pairwise (fun a b=>HT.lexLt a b=true)->∀ l,H l=none->Q (.ref l) (aM H l (.lst (bs'.map V.ref)))) :
  wpAny (model X.prog X.w) X.A.in1 (newList (bs.map Value.ref) >>= fun l=>holding [l] (call (.builtin "list.sort") [l] []) >>= fun _=>ret l) (fun fin s'=>∃ v,fin= .done (.ret v)/\EP X pins σ Q v s') X.xe { s with heap:=h',drawn:=d',toks:=t }:=by
 refine aa (wpAny_newList ?_ (by rw [ju,ac];omega));have un:=hr.units;have hoL:(h'.push (seqObj "list" (bs.map Value.ref).toArray 0)).get? h'.objs.size=some (seqObj "list" (bs.map Value.ref).toArray 0):=az _ rfl;have tc:=bO7 I ht;have k2:∀ b o,s.heap.get? b=some o->(h'.push (seqObj "list" (bs.map Value.ref).toArray 0)).get? b=some o:=fun b o z=>af _ (keep b o z)
 refine aa (jn (dw slot_list_sort ⟨_,hoL,rfl⟩ entry_list_sort (aI8 (nss:=nss) (by show X.A.units+1+1+1 < cLine;omega) hoL h64 ⟨tc.1,fun i hi=>?_⟩ nd (fun b hb z=>?_) fun h'' p c k3 hD pm pw=>⟨_,rfl,?_⟩) (args_list_sort _)))
 ·obtain ⟨its,⟨o,ho,r⟩,ix⟩:=tc.2 i hi;exact ⟨its,⟨o,k2 _ _ ho,r⟩,ix⟩
 ·obtain ⟨i,hi,e⟩:=qp.mp hb;obtain ⟨its,⟨o,ho,r⟩,ix⟩:=tc.2 i hi;rw [eU hi,e,z] at ho;exact absurd (ay ho) (um.mpr le)
 ·refine am ⟨_,rfl,?_⟩;refine ⟨.ref h'.objs.size,_,(I.draw d').laid (t':=t) (o:= .lst ((iC bs p).map V.ref)) (fun b o z=>k3 b o (fun e=>absurd (ay z) (by rw [e];exact um.mpr le)) (k2 b o z)) le ?_,rfl,q _ _ (rC pm) (aD0 (by rw [<- ht.1];exact pm)) (ht.pick pm) pw _ (I.hok.fresh le)⟩;refine ⟨?_,(iC bs p).map Value.ref,c,kT _,hD⟩;rw [ac,(rC pm).length_eq];exact fk (aK (by omega))
where kT:∀ bs:List Addr,bB (bs.map V.ref) (bs.map Value.ref)
 |[]=> .nil
 |b :: r=> .cons rfl (kT r)
theorem zG (hr:dE k X.A):eS X (.builtin "sorted") (fun xs H Q=>∃ (p:Addr) (bs:List Addr) (nss:List (List Int)),xs=[.ref p]/\bM X.K H p (bs.map V.ref)/\bs.length < 64/\eP H bs nss/\nss.Nodup /\
  ∀ (bs':List Addr) (nss':List (List Int)),bs'.Perm bs->nss'.Perm nss->eP H bs' nss'->nss'.Pairwise (fun a b=>HT.lexLt a b=true)->∀ l,H l=none->Q (.ref l) (aM H l (.lst (bs'.map V.ref)))):=by
 intro pins s σ H xs us Q I r h;obtain ⟨p,bs,nss,rfl,hq,hz,ht,nd,q⟩:=h;obtain ⟨u,rfl,ru⟩:=iQ r
 cases ru
 obtain ⟨its,rv,pl,_⟩:=I.list hq;have e:its=bs.map Value.ref:=refs_of rv;subst e;refine Calls.call_function_entry kind_sorted plain_sorted entry_sorted (args_sorted1 _) ?_;unfold Builtin.«sorted»;refine aa (m:=checkCount "sorted" 1 1 _) (am ?_);refine aa (collect_list pl.isList ?_ (by rw [ju,ac];omega));refine aF5 (d':=s.drawn) (t:=s.toks) hr I ht nd hz (fun b o e=>?_) ?_ q
 ·rw [ka _ _ _ _ (bt (ay e))];exact af _ e
 ·rw [Heap.size_update,size_push'];omega
where refs_of:∀ {bs:List Addr}{us:List Value},bB (bs.map V.ref) us->us=bs.map Value.ref
 |[],_,h=>by cases h;rfl
 |b :: r,_,h=>by
  rw [bi] at h
  cases h with
  |cons h1 h2 =>
   cases h1
   rw [refs_of h2];rfl
end
open PySem PySem.Spec PyProof.Rows
def cE0 (t:TE):TE:=fun σ H Q=>∃ P:V->Hp->Prop,t σ H P/\∀ v G,P v G->Q v G
theorem pX {X:Cx}{e:Expr}{t:TE}(h:PE X e t):PE X e (cE0 t):=by
 intro pins s σ H Q I ⟨P,h1,h2⟩;refine cV (h pins s σ H P I h1) ?_;rintro v s' ⟨x,G,I',r,p⟩;exact ⟨x,G,I',r,h2 x G p⟩
section
variable {X:Cx}
theorem bC6 {e:Expr}{t1 t2:TE}(h1:PE X e t1) (h2:PE X e t2):PE X e (fun σ H Q=>t1 σ H Q\/t2 σ H Q):=fun pins s σ H Q I h=>h.elim (h1 pins s σ H Q I) (h2 pins s σ H Q I)
theorem cN2 {tg l:Expr}{t1 t2:TI}(h1:PI X tg l t1) (h2:PI X tg l t2):PI X tg l (fun σ H R=>t1 σ H R\/t2 σ H R):=fun pins s σ H R I h=>h.elim (h1 pins s σ H R I) (h2 pins s σ H R I)
theorem bI9 {f:Value}{r1 r2:List V->Hp->VK->Prop}(h1:eS X f r1) (h2:eS X f r2):eS X f (fun xs H Q=>r1 xs H Q\/r2 xs H Q):=fun pins s σ H xs us Q I v h=>h.elim (h1 pins s σ H xs us Q I v) (h2 pins s σ H xs us Q I v)
theorem aT5 {pos:Pos}:PE X (.Dict [] [] pos) (fun σ H Q=>tDNewK σ H Q\/tDNewT σ H Q):=bC6 zU bE6
theorem bD1 {tg l:Expr}{tl:TE}(hl:PE X l tl):PI X tg l (fun σ H R=>bC2 tl σ H R\/aB7 tl σ H R):=cN2 (bM0 hl) (aY1 hl)
end
section
variable {X:Cx}{pos pos':Pos}{o i value:Expr}{td ty tv:TE}{k:Nat}
theorem cO9 (P:Program) (w:World) (hP:autoParam (X.prog=P) Rq0._auto_1) (hw:autoParam (X.w=w) Rq0._auto_1):PE X (.Dict [] [] pos) (fun _ H Q=>∀ p,H p=none->Q (.ref p) (aM H p (dN3 P w p []))):=by
 subst hP hw;exact fun pins s σ H Q I h=>uu ⟨.ref s.heap.objs.size,_,I.laid (a:=s.heap.objs.size) (o:=dN3 X.prog X.w s.heap.objs.size []) (t':=s.toks) (fun _ _ q=>af _ q) (ai _) (aR2 s.heap I.big),rfl,h _ (I.hok.fresh (ai _))⟩
theorem cO5 (P:Program) (w:World) (hr:dE k X.A) (ho:PE X o td) (hi:PE X i ty) (hs:autoParam (aY7 i) Rq7._auto_1) (hP:autoParam (X.prog=P) Rq0._auto_1) (hw:autoParam (X.w=w) Rq0._auto_1):PE X (.Subscript o i pos) (aX3 P w td ty):=by subst hP hw;exact aY0 hr ho hi hs
theorem cP0 (P:Program) (w:World) (hr:dE k X.A) (ho:PE X o td) (hi:PE X i ty) (hv:PE X value tv) (hs:autoParam (swapsWith value (some (.Subscript o i pos')) pos.line X.env=pure false) Rq0._auto_1) (hP:autoParam (X.prog=P) Rq0._auto_1) (hw:autoParam (X.w=w) Rq0._auto_1):PS X (.Assign [.Subscript o i pos'] value pos) (bG3 P w td ty tv):=by subst hP hw;exact bB2 hr ho hi hv hs
theorem cR7 (P:Program) (w:World) (hr:dE k X.A) (hi:PE X i ty) (ho:PE X o td) (hP:autoParam (X.prog=P) Rq0._auto_1) (hw:autoParam (X.w=w) Rq0._auto_1):PC X .NotIn i o (yU P w ty td):=by subst hP hw;exact aH8 hr hi ho
end
theorem bQ2 {X:Cx}{pos:Pos}(P:Program) (w:World) (hP:autoParam (X.prog=P) Rq0._auto_1) (hw:autoParam (X.w=w) Rq0._auto_1):PE X (.Dict [] [] pos) (fun σ H Q=>(∀ p,H p=none->Q (.ref p) (aM H p (dN3 P w p [])))\/tDNewK σ H Q):=bC6 (cO9 P w hP hw) zU
theorem cG {α: Type}{n:Nat}{us:List α}(h:us.length=n+1):∃ u r,us=u :: r/\r.length=n:=by
 cases us with
 |nil=>cases h
 |cons u r=>exact ⟨u,r,rfl,qr h⟩
section
variable {K:W.Frag}{x qual:Str}{st:Stmt}{f:Addr}{fd:FuncData}{p1 p2 p3 p4 p5:Str}
theorem xQ.b1 (F:xQ K x qual st f fd) (h:∀ (kV doc pm:Value) (an:Option Addr) (cdv ct u1:Value),bindArgs (W.fnOf x qual (cA st) (bS st) (aZ st) .none kV doc pm an cdv ct) ⟨[u1],[]⟩=pure [(p1,u1)]):fZ K fd [p1] []:=by
 refine F.binds fun kV doc pm an cdv ct us h0=>?_
 obtain ⟨u1,r1,rfl,h1⟩:=cG (n:=0) h0
 cases gu.mp h1
 exact h kV doc pm an cdv ct u1
theorem xQ.b2 (F:xQ K x qual st f fd) (h:∀ (kV doc pm:Value) (an:Option Addr) (cdv ct u1 u2:Value),bindArgs (W.fnOf x qual (cA st) (bS st) (aZ st) .none kV doc pm an cdv ct) ⟨[u1,u2],[]⟩=pure [(p1,u1),(p2,u2)]):fZ K fd [p1,p2] []:=by
 refine F.binds fun kV doc pm an cdv ct us h0=>?_
 obtain ⟨u1,r1,rfl,h1⟩:=cG (n:=1) h0;obtain ⟨u2,r2,rfl,h2⟩:=cG (n:=0) h1
 cases gu.mp h2
 exact h kV doc pm an cdv ct u1 u2
theorem xQ.b3 (F:xQ K x qual st f fd) (h:∀ (kV doc pm:Value) (an:Option Addr) (cdv ct u1 u2 u3:Value),bindArgs (W.fnOf x qual (cA st) (bS st) (aZ st) .none kV doc pm an cdv ct) ⟨[u1,u2,u3],[]⟩=pure [(p1,u1),(p2,u2),(p3,u3)]):fZ K fd [p1,p2,p3] []:=by
 refine F.binds fun kV doc pm an cdv ct us h0=>?_
 obtain ⟨u1,r1,rfl,h1⟩:=cG (n:=2) h0;obtain ⟨u2,r2,rfl,h2⟩:=cG (n:=1) h1;obtain ⟨u3,r3,rfl,h3⟩:=cG (n:=0) h2
 cases gu.mp h3
 exact h kV doc pm an cdv ct u1 u2 u3
theorem xQ.b4 (F:xQ K x qual st f fd) (h:∀ (kV doc pm:Value) (an:Option Addr) (cdv ct u1 u2 u3 u4:Value),bindArgs (W.fnOf x qual (cA st) (bS st) (aZ st) .none kV doc pm an cdv ct) ⟨[u1,u2,u3,u4],[]⟩=pure [(p1,u1),(p2,u2),(p3,u3),(p4,u4)]):fZ K fd [p1,p2,p3,p4] []:=by
 refine F.binds fun kV doc pm an cdv ct us h0=>?_
 obtain ⟨u1,r1,rfl,h1⟩:=cG (n:=3) h0;obtain ⟨u2,r2,rfl,h2⟩:=cG (n:=2) h1;obtain ⟨u3,r3,rfl,h3⟩:=cG (n:=1) h2;obtain ⟨u4,r4,rfl,h4⟩:=cG (n:=0) h3
 cases gu.mp h4
 exact h kV doc pm an cdv ct u1 u2 u3 u4
theorem xQ.b5 (F:xQ K x qual st f fd) (h:∀ (kV doc pm:Value) (an:Option Addr) (cdv ct u1 u2 u3 u4 u5:Value),bindArgs (W.fnOf x qual (cA st) (bS st) (aZ st) .none kV doc pm an cdv ct) ⟨[u1,u2,u3,u4,u5],[]⟩=pure [(p1,u1),(p2,u2),(p3,u3),(p4,u4),(p5,u5)]):fZ K fd [p1,p2,p3,p4,p5] []:=by
 refine F.binds fun kV doc pm an cdv ct us h0=>?_
 obtain ⟨u1,r1,rfl,h1⟩:=cG (n:=4) h0;obtain ⟨u2,r2,rfl,h2⟩:=cG (n:=3) h1;obtain ⟨u3,r3,rfl,h3⟩:=cG (n:=2) h2;obtain ⟨u4,r4,rfl,h4⟩:=cG (n:=1) h3;obtain ⟨u5,r5,rfl,h5⟩:=cG (n:=0) h4
 cases gu.mp h5
 exact h kV doc pm an cdv ct u1 u2 u3 u4 u5
end
section
variable {K:W.Frag}{x qual:Str}{st:Stmt}{f:Addr}{fd:FuncData}{p1 p2 p3 p4 p5 p6:Str}
end
section
variable {P:Program}{w:World}{K:W.Frag}{mg:Str->Option Value}{base:Heap}
def Cl (P:Program) (w:World) (K:W.Frag) (mg:Str->Option Value) (base:Heap) (n:Nat) (sp:Sp) (x:Str):Prop:=∃ f d ps,jY P w K mg base CX0 n f d ps sp/\fZ K d ps []/\W.keepIn K (.ref f)=true/\mg x=some (.ref f)
def fC (P:Program) (w:World) (K:W.Frag) (mg:Str->Option Value) (base:Heap) (x q:Str) (st:Stmt) (n:Nat) (ps:List Str) (sp:Sp):Prop:=∀ {f:Addr}{d:FuncData},xQ K x q st f d->jY P w K mg base CX0 n f d ps sp
theorem fV {x q:Str}{st:Stmt}{k:Nat}{ps:List Str}{sp:Sp}(N:List Str)
  (hb:∀ {f:Addr}{cdv:Value}{A:Around}{outer:List Env}{s:Shared}{vs:List V}{E:XK}(H:Hp) (Q:VK),N.Nodup->dE k (A.deeper (envOfC q (aZ st) s.heap.objs.size f cdv))->sp vs H Q E ->
   ∃ t,vW (yZ CX0 P w K mg base N q (aZ st) f cdv A outer s H E).nox (bS st) t/\t { nx:=fun _ H'=>Q .non H',rt:=Q } (lM N vs) H)
  (len:autoParam (∀ vs H Q E,sp vs H Q E->vs.length=ps.length) Rq8._auto_1)
  (S:autoParam (mJ N ps (aZ st)) Rq10._auto_1):fC P w K mg base x q st (k+1) ps sp :=
 fun F=>F.ok S len fun _ _ _ _ H _ Q _ hr h=>hb H Q S.nd hr h
def DefAt (K:W.Frag) (x q:Str) (st:Stmt) (f:Addr):Prop:=∃ (oc:Value) (od:Option Addr) (kV dc pm:Value) (an:Option Addr) (cd ct:Value) (sl:Array (Option Value)),K.lookup f=some ⟨oc,od,.func (W.fnOf x q (cA st) (bS st) (aZ st) .none kV dc pm an cd ct),sl⟩/\W.codeIn K cd q=true/\W.keepIn K (.ref f)=true
def TopAt (K:W.Frag) (x:Str) (st:Stmt):Prop:=∃ f,W.nsIn K mainGlobals x=some (some (.ref f))/\DefAt K x x st f
theorem DefAt.of {x q:Str}{st:Stmt}{f:Addr}{oc:Value}{od:Option Addr}{kV dc pm:Value}{an:Option Addr}{cd ct:Value}{sl:Array (Option Value)}(l:K.lookup f=some ⟨oc,od,.func (W.fnOf x q (cA st) (bS st) (aZ st) .none kV dc pm an cd ct),sl⟩) (c:W.codeIn K cd q=true) (k:W.keepIn K (.ref f)=true):DefAt K x q st f:=⟨_,_,_,_,_,_,_,_,_,l,c,k⟩
theorem TopAt.of {x:Str}{st:Stmt}{f:Addr}{oc:Value}{od:Option Addr}{kV dc pm:Value}{an:Option Addr}{cd ct:Value}{sl:Array (Option Value)}(a:W.nsIn K mainGlobals x=some (some (.ref f))) (l:K.lookup f=some ⟨oc,od,.func (W.fnOf x x (cA st) (bS st) (aZ st) .none kV dc pm an cd ct),sl⟩) (c:W.codeIn K cd x=true) (k:W.keepIn K (.ref f)=true):TopAt K x st:=⟨_,a,.of l c k⟩
theorem DefAt.fn {x q:Str}{st:Stmt}{f:Addr}:DefAt K x q st f->∃ d,xQ K x q st f d
 |⟨_,_,_,_,_,_,_,_,_,l,c,k⟩=>⟨_,aV0 l c k⟩
structure Zx (P:Program) (w:World) (K:W.Frag) (mg:Str->Option Value) (base:Heap):Prop where
 ns:∀ x u,W.nsIn K mainGlobals x=some (some u)->mg x=some u
 no:∀ x,W.nsIn K mainGlobals x=some none->mg x=none
theorem Zx.of {h:Heap}(X:K.In h) (G:h.Ns mainGlobals mg):Zx P w K mg base:=⟨fun _ _ e=>W.mg_of X G e,fun _ e=>W.mg_none_of X G e⟩
variable {x p1 p2 p3 p4 p5 p6:Str}{st:Stmt}{n:Nat}{sp:Sp}
theorem Zx.cl (Z:Zx P w K mg base) (t:TopAt K x st) {ps:List Str}(ok:fC P w K mg base x x st n ps sp) (b:∀ {f d},xQ K x x st f d->fZ K d ps []):Cl P w K mg base n sp x :=by
 obtain ⟨_,a,t⟩:=t;obtain ⟨_,F⟩:=t.fn;exact ⟨_,_,_,ok F,b F,F.kp,Z.ns _ _ a⟩
theorem Zx.c1 (Z:Zx P w K mg base) (t:TopAt K x st) (ok:fC P w K mg base x x st n [p1] sp) (h:autoParam (∀ (kV doc pm:Value) (an:Option Addr) (cdv ct u1:Value),bindArgs (W.fnOf x x (cA st) (bS st) (aZ st) .none kV doc pm an cdv ct) ⟨[u1],[]⟩=pure [(p1,u1)]) Rq4._auto_1):Cl P w K mg base n sp x:=Z.cl t ok fun F=>F.b1 h
theorem Zx.c2 (Z:Zx P w K mg base) (t:TopAt K x st) (ok:fC P w K mg base x x st n [p1,p2] sp) (h:autoParam (∀ (kV doc pm:Value) (an:Option Addr) (cdv ct u1 u2:Value),bindArgs (W.fnOf x x (cA st) (bS st) (aZ st) .none kV doc pm an cdv ct) ⟨[u1,u2],[]⟩=pure [(p1,u1),(p2,u2)]) Rq4._auto_1):Cl P w K mg base n sp x:=Z.cl t ok fun F=>F.b2 h
theorem Zx.c3 (Z:Zx P w K mg base) (t:TopAt K x st) (ok:fC P w K mg base x x st n [p1,p2,p3] sp) (h:autoParam (∀ (kV doc pm:Value) (an:Option Addr) (cdv ct u1 u2 u3:Value),bindArgs (W.fnOf x x (cA st) (bS st) (aZ st) .none kV doc pm an cdv ct) ⟨[u1,u2,u3],[]⟩=pure [(p1,u1),(p2,u2),(p3,u3)]) Rq4._auto_1):Cl P w K mg base n sp x:=Z.cl t ok fun F=>F.b3 h
theorem Zx.c4 (Z:Zx P w K mg base) (t:TopAt K x st) (ok:fC P w K mg base x x st n [p1,p2,p3,p4] sp) (h:autoParam (∀ (kV doc pm:Value) (an:Option Addr) (cdv ct u1 u2 u3 u4:Value),bindArgs (W.fnOf x x (cA st) (bS st) (aZ st) .none kV doc pm an cdv ct) ⟨[u1,u2,u3,u4],[]⟩=pure [(p1,u1),(p2,u2),(p3,u3),(p4,u4)]) Rq4._auto_1):Cl P w K mg base n sp x:=Z.cl t ok fun F=>F.b4 h
theorem Zx.c5 (Z:Zx P w K mg base) (t:TopAt K x st) (ok:fC P w K mg base x x st n [p1,p2,p3,p4,p5] sp) (h:autoParam (∀ (kV doc pm:Value) (an:Option Addr) (cdv ct u1 u2 u3 u4 u5:Value),bindArgs (W.fnOf x x (cA st) (bS st) (aZ st) .none kV doc pm an cdv ct) ⟨[u1,u2,u3,u4,u5],[]⟩=pure [(p1,u1),(p2,u2),(p3,u3),(p4,u4),(p5,u5)]) Rq4._auto_1):Cl P w K mg base n sp x:=Z.cl t ok fun F=>F.b5 h
theorem okn {q:Str}{k:Nat}{ps:List Str}:fC P w K mg base x q st k ps (fun _ _ _ _=>False):=fun _=>⟨fun _ _ _ _ h=>h.elim,fun _ _ _ _ _ _ _ _ _ _ _ _ _ h=>h.elim⟩
end
section
variable {X:Cx}{x:Str}{p pos pos':Pos}{e:Expr}{es:List Expr}{t:TA}{te:TE}
theorem bQ {k:Nat}{sp:Sp}(C:Cl X.prog X.w X.K X.mg X.base k sp x) {n:Nat}(hr:dE n X.A) (ha:PA X (e :: es) t) (hn:autoParam (k<=n) Rq5._auto_1) (hg:autoParam (Gl X x) Rq0._auto_1) (hdb:autoParam ((x == ("__debug__": Str))=false) Rq1._auto_1) (he:autoParam (starEach (e :: es) X.env=(false,eval e X.env) :: starEach es X.env) Rq0._auto_1)
  (hpl:autoParam ((backTo pos (starEach es X.env)).any (·.1)=false) Rq0._auto_1):PE X (.Call (.Name x p) (e :: es) [] pos) (aZ8 sp [] E0 t):=by obtain ⟨_,_,_,g,b,k,m⟩:=C;exact aN2 g (hr.mono hn) hg m k b .nil aT4 ha hdb he hpl
theorem dB (i:Nat) {rest:List Stmt}{u:TS}(hN:X.N.Nodup) (he:PE X e te) (h2:vW X rest u) (hi:autoParam (X.N[i]?=some x) Rq0._auto_1) (hx:autoParam (Loc X.env.scope x) Rq6._auto_1) (hs:autoParam (swapsWith e (some (.Name x pos')) pos.line X.env=pure false) Rq0._auto_1)
  (hf:autoParam (X.fn x=true\/X.env.scope.names.lookup x=some .local) Rq2._auto_1):vW X (.Assign [.Name x pos'] e pos :: rest) (cI6 (aX8 te (vL i)) u):=aF (aB9 hN hi hx he hs hf) h2
theorem zO (i:Nat) (hN:X.N.Nodup) (he:PE X e te) (hi:autoParam (X.N[i]?=some x) Rq0._auto_1) (hx:autoParam (Loc X.env.scope x) Rq6._auto_1) (hs:autoParam (swapsWith e (some (.Name x pos')) pos.line X.env=pure false) Rq0._auto_1)
  (hf:autoParam (X.fn x=true\/X.env.scope.names.lookup x=some .local) Rq2._auto_1):PS X (.Assign [.Name x pos'] e pos) (aX8 te (vL i)):=aB9 hN hi hx he hs hf
theorem iF (i:Nat) (hN:X.N.Nodup:=by dsimp only [cD];decide +kernel) (hi:autoParam (X.N[i]?=some x) Rq0._auto_1) (hx:autoParam (Loc X.env.scope x) Rq6._auto_1) (hf:autoParam (X.fn x=true\/X.env.scope.names.lookup x=some .local) Rq2._auto_1):PG X (.Name x pos) (vL i):=bJ7 hN hi hx hf
theorem xP {tg iter:Expr}{body:List Stmt}{wi:TI}{g:TG}{tb:TS}(hi:PI X tg iter wi) (hg:PG X tg g) (hb:vW X body tb) (hp:PassesOwn (model X.prog X.w) X.A X.env X.xe:=by exact ib) (hc:autoParam (X.calm=true) Rq0._auto_1)
  (hs:autoParam (∀ x,foldedSetIterable iter X.env x=pure x) Rq3._auto_1):PS X (.For tg iter body [] pos) (cI2 wi g tb):=cD5 hp hc hi hg hb hs
variable {id T:String}{r:List V->Hp->VK->Prop}
theorem sY (hc:eS X (.builtin id) r) (hm:X.mg x=none) (hv:bootBuiltins x=some (.builtin id)) (ha:PA X (e :: es) t) (hg:autoParam (Gl X x) Rq0._auto_1) (hn:autoParam (x≠"__name__") Rq1._auto_1) (hdb:autoParam ((x == ("__debug__": Str))=false) Rq1._auto_1)
  (he:autoParam (starEach (e :: es) X.env=(false,eval e X.env) :: starEach es X.env) Rq0._auto_1) (hpl:autoParam ((backTo pos (starEach es X.env)).any (·.1)=false) Rq0._auto_1):PE X (.Call (.Name x p) (e :: es) [] pos) (tCB r t):=bG5 hc hg hm hv ha hn hdb he hpl
theorem pct (hc:eS X (.type T) r) (hm:X.mg x=none) (hv:bootBuiltins x=some (.type T)) (ha:PA X (e :: es) t) (hg:autoParam (Gl X x) Rq0._auto_1) (hn:autoParam (x≠"__name__") Rq1._auto_1) (hdb:autoParam ((x == ("__debug__": Str))=false) Rq1._auto_1)
  (he:autoParam (starEach (e :: es) X.env=(false,eval e X.env) :: starEach es X.env) Rq0._auto_1) (hpl:autoParam ((backTo pos (starEach es X.env)).any (·.1)=false) Rq0._auto_1):PE X (.Call (.Name x p) (e :: es) [] pos) (tCB r t):=aQ2 hc hg hm hv ha hn hdb he hpl
variable {a b:Expr}{ta tb:TE}
theorem bX {r:R2}(hr:IxR X r) (ha:PE X a ta) (hb:PE X b tb) (hs:autoParam (aN5 b) Rq7._auto_1):PE X (.Subscript a b pos) (tOp r ta tb):=cL7 hr ha hb hs
theorem eL {op:CmpOp}{r:R2}(ho:kK X (compareOp op) r) (ha:PE X a ta) (hb:PE X b tb) (hm:autoParam (behindInMarks op b=false) Rq9._auto_1):PT X (.Compare a [op] [b] pos) (bQ8 (tOp r ta tb)):=bN5 ho ha hb hm
theorem pec {op:CmpOp}{r:R2}(ho:kK X (compareOp op) r) (ha:PE X a ta) (hb:PE X b tb) (hm:autoParam (behindInMarks op b=false) Rq9._auto_1):PE X (.Compare a [op] [b] pos) (tOp r ta tb):=bK4 ho ha hb hm
theorem sZ (hu:X.A.units+1 < cLine) (ho:PE X a ta) (hi:PE X b tb) (hs:autoParam (aY7 b) Rq7._auto_1):PE X (.Subscript a b pos) (bR6 ta tb):=bM3 hu ho hi hs
theorem pdp {tv:TE}(hu:X.A.units+1 < cLine) (ho:PE X a ta) (hi:PE X b tb) (hv:PE X e tv) (hs:autoParam (swapsWith e (some (.Subscript a b pos')) pos.line X.env=pure false) Rq0._auto_1):PS X (.Assign [.Subscript a b pos'] e pos) (bS1 ta tb tv):=bO9 hu ho hi hv hs
theorem aP (ha:PE X a ta) (h:autoParam (starEach [a] X.env=[(false,eval a X.env)]) Rq0._auto_1):PA X [a] (bS2 ta tNil):=aA ha eI h
theorem pgl {v:Addr}(hm:X.mg x=some (.ref v)) (hg:autoParam (Gl X x) Rq0._auto_1) (hd:autoParam ((x == ("__debug__": Str))=false) Rq1._auto_1):PE X (.Name x pos) (tC (.ref v)):=qE hg hm rfl hd
end
end L2
namespace Mine
open PySem L2
def cU (S:List Addr) (H H':Hp):Prop:=∀ b o,H b=some o->b∉S->H' b=some o
theorem cU.refl {S:List Addr}(H:Hp):cU S H H:=fun _ _ e _=>e
theorem cU.trans {S:List Addr}{H H1 H2:Hp}(a:cU S H H1) (b:cU S H1 H2):cU S H H2:=fun c o e h=>b c o (a c o e h) h
theorem cU.of {S:List Addr}{H H':Hp}(s:aU H H'):cU S H H':=fun c o e _=>s c o e
theorem cU.up {S:List Addr}{H H1:Hp}{p:Addr}{o:HO}(a:cU S H H1) (h:p∈S):cU S H (aM H1 p o):=fun b u e n=>by
 rw [aG fun z=>n (by rw [z];exact h)];exact a b u e n
mutual
def uW:Rw->List (List RKey)
 |.thr _ x T _ wss=>[eZ x T wss]
 |.lt _ _ _=>[]
 |.tell _ _=>[]
 |.when _ _ _ _ a b=>cC a++cC b
 |.times _ _ _ b=>cC b
def cC:List Rw->List (List RKey)
 |[]=>[]
 |r :: rs=>uW r++cC rs
end
theorem iR:∀ (rs qs:List Rw),cC (rs++qs)=cC rs++cC qs
 |[],qs=>rfl
 |r :: rs,qs=>by simp only [List.cons_append,cC,iR rs qs,List.append_assoc]
theorem tM {b:List Rw}:∀ {n:Nat}{k:List RKey},k∈cC (mF n b)->k∈cC b
 |0,_,h=>absurd h cz
 |n+1,k,h=>by
  rw [mF,iR] at h;rcases bf.mp h with h | h
  ·exact h
  ·exact tM h
def tH (H:Hp):V->List Rw->Prop
 |v,[]=>v= .non
 |v,r :: rs=>∃ c v',v= .ref c/\H c=some (.tup [.ref r.p,v'])/\tH H v' rs
theorem tH.ts {H H':Hp}(t:TS H H'):∀ {v:V}{rs:List Rw},tH H v rs->tH H' v rs
 |_,[],h=>h
 |_,_ :: _,⟨c,v',e,h,k⟩=>⟨c,v',e,t _ _ h,k.ts t⟩
def jJ (cv:V) (kd tl sp:Addr):List (Str×V):=[("coming",cv),("known",.ref kd),("told",.ref tl),("share",.ref sp)]
structure RnT (K:W.Frag) (C:Addr):Prop where
 cl:Cls K C
 n1:iL K C "coming"
 n2:iL K C "known"
 n3:iL K C "told"
 n4:iL K C "share"
theorem aJ6 (cv:V) (kd tl sp:Addr):fS "share" (.ref sp) (fS "told" (.ref tl) (fS "known" (.ref kd) (fS "coming" cv [])))=jJ cv kd tl sp:=by
 have h1:¬ (("coming": Str)="known"):=by decide +kernel
 have h2:¬ (("coming": Str)="told"):=by decide +kernel
 have h3:¬ (("known": Str)="told"):=by decide +kernel
 have h4:¬ (("coming": Str)="share"):=by decide +kernel
 have h5:¬ (("known": Str)="share"):=by decide +kernel
 have h6:¬ (("told": Str)="share"):=by decide +kernel
 simp only [fS,if_neg h1,if_neg h2,if_neg h3,if_neg h4,if_neg h5,if_neg h6,jJ]
theorem nJ (cv:V) (kd tl sp:Addr):(jJ cv kd tl sp).lookup ("coming": Str)=some cv/\(jJ cv kd tl sp).lookup ("known": Str)=some (.ref kd)/\(jJ cv kd tl sp).lookup ("told": Str)=some (.ref tl)/\(jJ cv kd tl sp).lookup ("share": Str)=some (.ref sp):=by
 rw [<- aJ6];simp only [kL];refine ⟨?_,?_,?_,?_⟩
 ·rw [aj (by decide +kernel),aj (by decide +kernel),aj (by decide +kernel),ao trivial]
 ·rw [aj (by decide +kernel),aj (by decide +kernel),ao trivial]
 ·rw [aj (by decide +kernel),ao trivial]
 ·rw [ao trivial]
theorem pZ (cv cv':V) (kd tl sp:Addr):fS "coming" cv' (jJ cv kd tl sp)=jJ cv' kd tl sp:=by
 simp only [jJ,fS,if_pos]
def gZ (ks:List Str) (e:Ev):List (Key×V):=ks.map fun y=>(.inr y,.int (e y))
theorem yG {ks:List Str}{e:Ev}{x:Str}(h:x∈ks):dA (gZ ks e) (Sum.inr x)=some (.int (e x)):=by
 induction ks with
 |nil=>exact absurd h cz
 |cons k ks ih =>
  by_cases c:k=x
  ·subst c;exact bN (p:=((Sum.inr k:Key),V.int (e k))) rfl
  ·exact (aO (p:=((Sum.inr k:Key),V.int (e k))) (r:=gZ ks e) (k:=Sum.inr x) (fun z=>c (de z))).trans (ih ((av.mp h).resolve_left fun z=>c z.symm))
def kC (ks:List Str) (x:Str):List Str:=if x∈ks then ks else ks++[x]
theorem xT {ks:List Str}{e:Ev}{x:Str}{v:Int}:cM (gZ ks e) (Sum.inr x) (.int v)=gZ (kC ks x) (iN e x v):=by
 by_cases h:x∈ks
 ·unfold cM kC;rw [ao (by rw [dJ,yG h];rfl),ao h];unfold gZ;rw [jf];refine eh fun k _=>?_
  show (if ((Sum.inr k:Key)=Sum.inr x) then ((Sum.inr k:Key),V.int v) else (Sum.inr k,V.int (e k)))=(.inr k,.int (iN e x v k))
  unfold iN
  by_cases c:k=x
  ·subst c;simp
  ·rw [aj (fun z=>c (de z)),aj c]
 ·have hk:(Sum.inr x:Key)∉(gZ ks e).map (·.1):=fun z=>by
   unfold gZ at z;rw [jf] at z;obtain ⟨y,hy,ey⟩:=cm.mp z;exact h (by rw [<- (de (show (Sum.inr y:Key)=Sum.inr x from ey))];exact hy)
  unfold kC;rw [aj h];have e1:cM (gZ ks e) (Sum.inr x) (.int v)=gZ ks e++[(.inr x,.int v)]:=by
   have nn:dA (gZ ks e) (Sum.inr x)=none:=by
    clear hk
    induction ks with
    |nil=>rfl
    |cons k ks ih =>
     have hn:=fun z=>h (ae k z)
     exact (aO (p:=((Sum.inr k:Key),V.int (e k))) (r:=gZ ks e) (k:=Sum.inr x) (fun z=>h (by rw [<- de z];exact ah))).trans (ih hn)
   unfold cM;rw [aj (by rw [dJ,nn];decide)]
  rw [e1];unfold gZ;rw [aq]
  congr 1
  ·refine eh fun k hk=>?_
   unfold iN;rw [aj fun z=>h (by rw [<- z];exact hk)]
  ·simp [iN]
theorem aM3 {ks:List Str}{x:Str}:jZ (x :: ks) (kC ks x):=fun y hy=>by
 unfold kC
 by_cases h:x∈ks
 ·rw [ao h];rcases av.mp hy with e | e
  ·rw [e];exact h
  ·exact e
 ·rw [aj h];rcases av.mp hy with e | e
  ·rw [e];exact bh _ ah
  ·exact dj _ e
theorem qC {ks:List Str}{x:Str}:jZ (kC ks x) (x :: ks):=fun y hy=>by
 unfold kC at hy
 by_cases h:x∈ks
 ·rw [ao h] at hy;exact ae _ hy
 ·rw [aj h] at hy;rcases bf.mp hy with e | e
  ·exact ae _ e
  ·rw [au.mp e];exact ah
theorem aK6 {ks:List Str}{x:Str}(n:ks.Nodup):(kC ks x).Nodup:=by
 unfold kC
 by_cases h:x∈ks
 ·rw [ao h];exact n
 ·rw [aj h];refine gy.mpr ⟨n,by simp,fun a ha b hb e=>h ?_⟩;rw [<- au.mp hb, <- e];exact ha
structure kB (C:Addr) (NM:List Str) (H:Hp) (x kd tl:Addr) (ks:List Str) (r:Rn):Prop where
 ex:∃ dx cv sp,H x=some (.ins C dx (jJ cv kd tl sp))/\tH H cv r.rs/\aY H sp r.sh.1 r.sh.2
 kn:H kd=some (.dK (gZ ks r.e))
 nd:ks.Nodup
 sb:jZ ks NM
 tl:H tl=some (.lst (r.td.map V.int))
 rw:bY H r.rs
theorem kB.ts {C:Addr}{NM:List Str}{H H':Hp}{x kd tl:Addr}{ks:List Str}{r:Rn}(h:kB C NM H x kd tl ks r) (t:TS H H') (e1:H' x=H x) (e2:H' kd=H kd) (e3:H' tl=H tl):kB C NM H' x kd tl ks r:=by
 obtain ⟨⟨dx,cv,sp,a,b,c⟩,d,n,s,f,g⟩:=h;exact ⟨⟨dx,cv,sp,e1.trans a,b.ts t,t _ _ c⟩,e2.trans d,n,s,e3.trans f,bY.ts t _ g⟩
theorem kB.same {C:Addr}{NM:List Str}{H H':Hp}{x kd tl:Addr}{ks:List Str}{r:Rn}(h:kB C NM H x kd tl ks r) (s:aU H H'):kB C NM H' x kd tl ks r:=by
 obtain ⟨dx,cv,sp,a,_⟩:=h.ex;exact h.ts (.of s) ((s _ _ a).trans a.symm) ((s _ _ h.kn).trans h.kn.symm) ((s _ _ h.tl).trans h.tl.symm)
structure GdK (NM:List Str) (KS:List (List RKey)) (cs:List Int) (M:Int) (ks:List Str) (r:Rn):Prop where
 g:Gd NM cs M ks r
 k:∀ k∈cC r.rs,k∈KS
theorem Gd.sbs {NM:List Str}{cs:List Int}{M:Int}{D D':List Str}{r:Rn}(g:Gd NM cs M D r) (h:jZ D D') (h':jZ D' D):Gd NM cs M D' r:=⟨g.ok,fG _ h g.kn,fun x hx=>g.bd x (h' x hx),g.tl,g.tb,g.sh⟩
def spPut:Sp:=fun vs H Q _=>∃ (pa:Addr) (cv:V) (a rs:List Rw),vs=[.ref pa,cv]/\H pa=some (.tup (bT a))/\tH H cv rs/\∀ H' cv',aU H H'->tH H' cv' (a++rs)->Q cv' H'
def cJ0:Rw->Prop
 |.thr .. =>True
 |_=>False
def aS2 (C:Addr):Sp:=fun vs H Q _=>∃ (x kd tl:Addr) (NM:List Str) (KS:List (List RKey)) (cs:List Int) (M:Int) (ks:List Str) (r:Rw) (rs:List Rw) (e:Ev) (td:List Int) (sh:Int×Int),vs=[.ref x,.ref r.p] /\
 kB C NM H x kd tl ks ⟨rs,e,td,sh⟩/\pL H r/\¬ cJ0 r/\NM.length<=100/\GdK NM KS cs M ks ⟨r :: rs,e,td,sh⟩ /\
 ∀ H' ks' rn',kB C NM H' x kd tl ks' rn'->GdK NM KS cs M ks' rn'->Nx cs ⟨r :: rs,e,td,sh⟩ rn'->bD rn'.rs < bD (r :: rs)->cU [x,kd,tl] H H'->Q .non H'
def bE5 (C:Addr):Sp:=fun vs H Q _=>∃ (x kd tl:Addr) (NM:List Str) (KS:List (List RKey)) (cs:List Int) (M:Int) (ks:List Str) (rn:Rn),vs=[.ref x]/\kB C NM H x kd tl ks rn/\NM.length<=100/\GdK NM KS cs M ks rn /\
 (∀ H' ks' rn',kB C NM H' x kd tl ks' rn'->rn'.rs=[]->GdK NM KS cs M ks' rn'->Nx cs rn rn'->cU [x,kd,tl] H H'->Q .non H') /\
 ∀ H' ks' (rn':Rn) p y T a3 wss,kB C NM H' x kd tl ks' rn'->pL H' (.thr p y T a3 wss)->GdK NM KS cs M ks' ⟨.thr p y T a3 wss :: rn'.rs,rn'.e,rn'.td,rn'.sh⟩->Nx cs rn ⟨.thr p y T a3 wss :: rn'.rs,rn'.e,rn'.td,rn'.sh⟩->cU [x,kd,tl] H H'->Q (.ref p) H'
def aN6 (K:W.Frag) (C:Addr):Sp:=fun vs H Q _=>∃ (x dx kd tl sp:Addr) (cv:V),vs=[.ref x,cv,.ref kd,.ref tl,.ref sp]/\H x=some (.ins C dx [])/\∀ H',(∀ b,b≠x->H' b=H b)->H' x=some (.ins C dx (jJ cv kd tl sp))->Q .non H'
theorem aU2 {f:Str}{v:V}{fs:List (Str×V)}{n:Nat}(h:fs.length<=n):(fS f v fs).length<=n+1:=by
 induction fs generalizing n with
 |nil=>simp [fS]
 |cons a r ih =>
  unfold fS
  split
  ·rw [ci] at h ⊢;omega
  ·rw [ci] at h ⊢;have:=ih (n:=n - 1) (by omega);omega
theorem gU {β: Type} [DecidableEq β]:∀ {l m:List β},l.Nodup->(∀ x∈l,x∈m)->l.length<=m.length
 |[],m,_,_=>bj _
 |x :: r,m,nd,hs=>by
  have hx:=hs x ah;have nd:=ji.mp nd;have ih:=gU (m:=m.erase x) nd.2 fun y hy=>(List.mem_erase_of_ne fun e=>nd.1 (by rw [<- e];exact hy)).mpr (hs y (ae _ hy))
  rw [List.length_erase_of_mem hx] at ih;have:=List.length_pos_of_mem hx;rw [ci];omega
def aX1:List Str:=["ladder","flat","choose","first"]
theorem aX4:∀ T:dP,inV (.str T.wd) (aX1.map V.str)=true
 |.lad .. =>by show inV (.str "ladder") _=true;decide +kernel
 |.fla .. =>by show inV (.str "flat") _=true;decide +kernel
 |.cho .. =>by show inV (.str "choose") _=true;decide +kernel
 |.fst .. =>by show inV (.str "first") _=true;decide +kernel
theorem dG:∀ xs:List Str,(xs.map V.str).all mX=true
 |[]=>rfl
 |x :: xs=>by rw [bi,yb,dG xs];rfl
theorem aM5:∀ l:List Tm,l.length<=(l.flatMap Tm.pre).length
 |[]=>ai _
 |t :: r=>by have:=aM5 r;have:=t.size_pos;rw [ci,uk,be,Tm.pre_len];omega
theorem cP1:¬ (V.str "num"=V.str "op"):=by decide +kernel
theorem cR3:¬ (V.str "name"=V.str "op"):=by decide +kernel
theorem wNN:¬ (V.str "name"=V.str "num"):=by decide +kernel
theorem wON:¬ (V.str "op"=V.str "num"):=by decide +kernel
theorem wOM:¬ (V.str "op"=V.str "name"):=by decide +kernel
theorem zY {H:Hp}{a:Addr}{o o':HO}(h:H a=some o) (hn:∀ xs,o≠ .tup xs):TS H (aM H a o'):=fun b ys e=>by
 by_cases c:b=a
 ·subst c;rw [h] at e;exact absurd (cx e) (hn ys)
 ·rw [aG c];exact e
section
variable {C:Addr}{NM:List Str}{H H1:Hp}{X kd tl:Addr}{ks:List Str}{rs:List Rw}{e:Ev}{td:List Int}{sh:Int×Int}
theorem kB.ne (h:kB C NM H X kd tl ks ⟨rs,e,td,sh⟩):X≠kd/\X≠tl/\kd≠tl:=by
 obtain ⟨dx,cv,sp,a,_⟩:=h.ex;exact ⟨fW a h.kn (by intro z;cases z),fW a h.tl (by intro z;cases z),fW h.kn h.tl (by intro z;cases z)⟩
theorem cM7 {x:Str}{v:Int}(h:kB C NM H X kd tl ks ⟨rs,e,td,sh⟩) (hx:x∈NM):kB C NM (aM H kd (.dK (cM (gZ ks e) (Sum.inr x) (.int v)))) X kd tl (kC ks x) ⟨rs,iN e x v,td,sh⟩/\cU [X,kd,tl] H (aM H kd (.dK (cM (gZ ks e) (Sum.inr x) (.int v)))):=by
 have n:=h.ne;obtain ⟨⟨dx,cv,sp,a,b,c⟩,d,nd,sb,f,g⟩:=h;have t:=zY (o':= .dK (cM (gZ ks e) (Sum.inr x) (.int v))) d (by intro xs z;cases z);refine ⟨⟨⟨dx,cv,sp,(aG n.1).trans a,b.ts t,t _ _ c⟩,by rw [aD,xT],aK6 nd,fun y hy=>?_,(aG n.2.2.symm).trans f,bY.ts t _ g⟩,(cU.refl H).up (by simp)⟩;rcases av.mp (qC y hy) with z | z
 ·rw [z];exact hx
 ·exact sb y z
theorem bL1 {v:Int}(h:kB C NM H X kd tl ks ⟨rs,e,td,sh⟩):kB C NM (aM H tl (.lst (td.map V.int++[.int v]))) X kd tl ks ⟨rs,e,td++[v],sh⟩/\cU [X,kd,tl] H (aM H tl (.lst (td.map V.int++[.int v]))):=by
 have n:=h.ne;obtain ⟨⟨dx,cv,sp,a,b,c⟩,d,nd,sb,f,g⟩:=h;have t:=zY (o':= .lst (td.map V.int++[.int v])) f (by intro xs z;cases z);exact ⟨⟨⟨dx,cv,sp,(aG n.2.1).trans a,b.ts t,t _ _ c⟩,(aG n.2.2).trans d,nd,sb,by rw [aD,aq];rfl,bY.ts t _ g⟩,(cU.refl H).up (by simp)⟩
theorem vS {dx sp:Addr}{cv cv':V}{rs':List Rw}(h:kB C NM H X kd tl ks ⟨rs,e,td,sh⟩) (hX:H X=some (.ins C dx (jJ cv kd tl sp))) (hc:tH H cv' rs') (hr:bY H rs') :
  kB C NM (aM H X (.ins C dx (jJ cv' kd tl sp))) X kd tl ks ⟨rs',e,td,sh⟩/\cU [X,kd,tl] H (aM H X (.ins C dx (jJ cv' kd tl sp))):=by
 have n:=h.ne;obtain ⟨⟨dx',cv'',sp',a,b,c⟩,d,nd,sb,f,g⟩:=h;have ea:=a.symm.trans hX;have t:=zY (o':= .ins C dx (jJ cv' kd tl sp)) hX (by intro xs z;cases z);have esp:sp'=sp:=by
  injection ea with ea
  injection ea with _ _ ea
  unfold jJ at ea;injection ea with _ ea
  injection ea with _ ea
  injection ea with _ ea
  injection ea with ea _
  injection ea with _ ea
  injection ea
 subst esp;exact ⟨⟨⟨dx,cv',sp',aD,hc.ts t,t _ _ c⟩,(aG n.1.symm).trans d,nd,sb,(aG n.2.1.symm).trans f,bY.ts t _ hr⟩,(cU.refl H).up (by simp)⟩
end
theorem Gd.dv {NM:List Str}{cs:List Int}{M:Int}{ks:List Str}{r:Rn}{H:Hp}{kd:Addr}{ns:List Str}(g:Gd NM cs M ks r) (h:H kd=some (.dK (gZ ks r.e))) (hn:∀ x∈ns,x∈ks):Dv H kd r.e ns :=
 ⟨⟨_,h,fun x hx=>yG (hn x hx),fun q hq=>by obtain ⟨y,_,rfl⟩:=cm.mp hq;exact ⟨_,rfl⟩⟩,fun x hx=>g.bd x (hn x hx)⟩
theorem bC7 {ks NM:List Str}{e:Ev}(nd:ks.Nodup) (sb:jZ ks NM) (h:NM.length<=100):(gZ ks e).length < sizeLine:=by
 have l:=gU nd sb;unfold gZ;rw [ac];exact aK (by omega)
abbrev En:=List Int×Int×Int
def xO:Bool->Hp->V->List Int->Prop
 |true,H,v,a=>∃ p,v= .ref p/\H p=some (.tup (a.map V.int))
 |false,_,v,a=>∃ n,a=[n]/\v= .int n
theorem xO.ts {H H':Hp}(t:TS H H'):∀ {b:Bool}{v:V}{a:List Int},xO b H v a->xO b H' v a
 |true,_,_,⟨p,e,h⟩=>⟨p,e,t _ _ h⟩
 |false,_,_,h=>h
def EnA (b:Bool) (H:Hp) (v:V) (e:En):Prop:=∃ p x q,v= .ref p/\H p=some (.tup [x,.ref q])/\xO b H x e.1/\aY H q e.2.1 e.2.2
theorem EnA.ts {H H':Hp}(t:TS H H') {b:Bool}{v:V}{e:En}(h:EnA b H v e):EnA b H' v e :=by
 obtain ⟨p,x,q,e1,h1,h2,h3⟩:=h;exact ⟨p,x,q,e1,t _ _ h1,h2.ts t,t _ _ h3⟩
def aO0 (b:Bool) (H:Hp) (t:Addr) (es:List En):Prop:=∃ us,H t=some (.tup us)/\dO (EnA b H) us es
theorem aO0.ts {H H':Hp}(s:TS H H') {b:Bool}{t:Addr}{es:List En}(h:aO0 b H t es):aO0 b H' t es :=by
 obtain ⟨us,h1,h2⟩:=h;exact ⟨us,s _ _ h1,h2.mono fun _ _ z=>z.ts s⟩
def aE6 (H:Hp):Option V->Option (Int×Int)->Prop
 |none,none=>True
 |some v,some f=>FrR H v f
 |_,_=>False
theorem aE6.ts {H H':Hp}(t:TS H H'):∀ {o:Option V}{f:Option (Int×Int)},aE6 H o f->aE6 H' o f
 |none,none,_=>trivial
 |some _,some _,h=>FrR.ts t h
 |none,some _,h=>h
 |some _,none,h=>h
theorem aC2 (ns:List Int):(ns.map Sum.inl:List Key).map kV=ns.map V.int:=by
 rw [jf];rfl
theorem xU {H:Hp}:∀ ns:List Int,dO (xO false H) (ns.map V.int) (ns.map fun n=>[n])
 |[]=>trivial
 |n :: r=>⟨⟨n,rfl,rfl⟩,xU r⟩
def lE (b:Bool) (a:List Int):PyData:=if b then .tuple (a.map PyData.int) else .int (a.headD 0)
theorem bH8 {K:W.Frag}{H:Hp}:∀ {b:Bool}{v:V}{a:List Int},xO b H v a->nW K H (lE b a) v
 |true,_,a,⟨p,rfl,h⟩=>⟨p,_,rfl,aT.of h,tL a⟩
 |false,_,_,⟨n,rfl,rfl⟩=>rfl
theorem aH6 {α: Type}{l:List α}{a:α}(nd:l.Nodup) (h:a∉l):(l++[a]).Nodup:=by
 rw [gy];refine ⟨nd,by simp,fun x hx y hy z=>?_⟩;have:y=a:=by simpa using hy
 subst this;exact h (z ▸ hx)
theorem xG {n:Nat}{i j:Int}(h:cK n j) (h0:0<=i) (h1:i<=j):cK n i:=cg (by omega) h
def sL (n:Nat) (u:Int×Int):Prop:=0<=u.1/\1<=u.2/\cK n u.1/\cK n u.2
theorem sL.mono {m n:Nat}{u:Int×Int}(h:sL m u) (l:m<=n):sL n u:=⟨h.1,h.2.1,h.2.2.1.mono l,h.2.2.2.mono l⟩
theorem sL.add {m n:Nat}{u e:Int×Int}(h:sL m u) (k:sL n e):sL (m+n+1) (eF u e):=by
 obtain ⟨u0,u1,u2,u3⟩:=h;obtain ⟨e0,e1,e2,e3⟩:=k;have q1:0<=u.1 * e.2+e.1 * u.2:=Int.add_nonneg (bz u0 (by omega)) (bz e0 (by omega));have q2:1<=u.2 * e.2:=df (by omega) (by omega);have b1:cK (m+n+1) (u.1 * e.2+e.1 * u.2):=cK.add (u2.mul e3) ((e2.mul u3).mono (by omega));have b2:cK (m+n+1) (u.2 * e.2):=(u3.mul e3).mono (by omega);exact ⟨bL q1,cB q2,xG b1 (bL q1) (qD q1 q2),xG b2 (by have:=cB (a:=u.1 * e.2+e.1 * u.2) q2;show 0<=bA _ _;omega) (qA q2)⟩
theorem cF3:sL 1 (0,1):=⟨by decide,by decide,by unfold cK;decide,by unfold cK;decide⟩
def Ups (as:List (List Int)):Prop:=as.Pairwise fun a b=>HT.lexLt a b=true
theorem cG1 (n m:Int):HT.lexLt [n] [m]=decide (n < m):=by
 rw [HT.lexLt_cons]
 split
 ·rename_i h
  subst h;simp [HT.lexLt_nil_nil]
 ·rfl
theorem Ups.nodup {as:List (List Int)}(h:Ups as):as.Nodup:=by
 rw [mi];exact h.imp fun q z=>by rw [z,qI] at q;cases q
theorem aA7 {as bs:List (List Int)}(ha:Ups as) (hb:Ups bs) (h:∀ x,x∈as↔x∈bs):as=bs :=
 List.Perm.eq_of_pairwise (le:=fun a b=>HT.lexLt a b=true) (fun a b _ _ x y=>by have:=oO x y;rw [qI] at this;cases this) ha hb ((List.perm_ext_iff_of_nodup ha.nodup hb.nodup).mpr fun x=>h x)
theorem aT8 {ns:List Int}(h:ns.Pairwise (· <= ·)) (nd:ns.Nodup):Ups (ns.map fun n=>[n]):=by
 unfold Ups;rw [ot];have:=uQ h nd;exact this.imp fun {a b} q=>by rw [cG1];exact ap q
def eA (T:List Int->Option (Int×Int)) (e:En):List Int->Option (Int×Int):=fun k=>if k=e.1 then some (eF ((T k).getD (0,1)) e.2) else T k
def oQ (es:List En):List Int->Option (Int×Int):=es.foldl eA (fun _=>none)
def ofK (es:List En) (a:List Int):List (Int×Int):=(es.filter fun e=>decide (e.1=a)).map (·.2)
theorem bA4 (e:En) (r:List En) (a:List Int):ofK (e :: r) a=if e.1=a then e.2 :: ofK r a else ofK r a:=by
 unfold ofK;rw [List.filter_cons]
 by_cases c:e.1=a
 ·simp [c]
 ·simp [c]
theorem zR:∀ (es:List En) (T:List Int->Option (Int×Int)) (a:List Int),es.foldl eA T a=if ofK es a=[] then T a else some ((ofK es a).foldl eF ((T a).getD (0,1)))
 |[],T,a=>by simp [ofK]
 |e :: r,T,a=>by
  rw [kj,zR r,bA4];unfold eA
  by_cases c:e.1=a
  ·rw [ao c,ao c.symm]
   by_cases d:ofK r a=[]
   ·rw [d];simp
   ·rw [aj d];simp
  ·have c':¬ a=e.1:=fun z=>c z.symm
   rw [aj c];simp only [if_neg c']
theorem bN6 (es:List En) (a:List Int):oQ es a=if ofK es a=[] then none else some ((ofK es a).foldl eF (0,1)):=by
 unfold oQ;rw [zR];rfl
theorem lS {es:List En}{i:Nat}{e:En}{T:List Int->Option (Int×Int)}(h:es[i]?=some e):(es.take (i+1)).foldl eA T=eA ((es.take i).foldl eA T) e:=by
 rw [cH h,List.foldl_append];rfl
def lR (T:List Int->Option (Int×Int)) (ks:List (List Int)):List En:=ks.map fun k=>(k,(T k).getD (0,1))
def gF (a:List Int):Key:=Sum.inl (a.headD 0)
def gT (a:List Int):List Key:=a.map Sum.inl
def gdA:Bool->List Int->Prop
 |false,a=>∃ n,a=[n]
 |true,_=>True
theorem aT3 {H:Hp}{x:V}{a:List Int}:∀ {b:Bool},xO b H x a->gdA b a
 |false,⟨n,e,_⟩=>⟨n,e⟩
 |true,_=>trivial
structure KvG {κ: Type} [DecidableEq κ] (g:List Int->κ) (G:List Int->Prop) (H:Hp) (kvs:List (κ×V)) (ks:List (List Int)) (T:List Int->Option (Int×Int)):Prop where
 keys:kvs.map (·.1)=ks.map g
 nd:ks.Nodup
 gd:∀ a∈ks,G a
 val:∀ a,G a->aE6 H (dA kvs (g a)) (T a)
 mem:∀ a,G a->(a∈ks↔∃ u,T a=some u)
theorem KvG.nil {κ: Type} [DecidableEq κ] {g:List Int->κ}{gd:List Int->Prop}{H:Hp}:KvG g gd H [] [] fun _=>none :=
 ⟨rfl,qz,fun _ h=>(nomatch h),fun _ _=>trivial,fun a _=>⟨fun h=>(nomatch h),(by rintro ⟨_,h⟩;exact (nomatch h))⟩⟩
theorem KvG.ts {κ: Type} [DecidableEq κ] {g:List Int->κ}{gd:List Int->Prop}{H H':Hp}{kvs:List (κ×V)}{ks:List (List Int)}{T:List Int->Option (Int×Int)}(s:TS H H') (h:KvG g gd H kvs ks T):KvG g gd H' kvs ks T :=
 ⟨h.keys,h.nd,h.gd,fun a ha=>(h.val a ha).ts s,h.mem⟩
def xI (ks:List (List Int)) (a:List Int):List (List Int):=if a∈ks then ks else ks++[a]
theorem bD6 (ks:List (List Int)) (a:List Int):(xI ks a).length<=ks.length+1:=by unfold xI;split <;> simp
theorem aO3 {κ: Type} [DecidableEq κ] {kvs:List (κ×V)}{k:κ}{v:V}:(∃ x,dA kvs k=some x)->(cM kvs k v).map (·.1)=kvs.map (·.1):=by
 rintro ⟨x,hx⟩;unfold cM;rw [dJ,hx];simp only [Option.isSome_some,if_true,List.map_map];refine eh fun p _=>?_
 simp only [Function.comp]
 split <;> rfl
theorem KvG.put {κ: Type} [DecidableEq κ] {g:List Int->κ}{gd:List Int->Prop}(hg:∀ x y,gd x->gd y->g x=g y->x=y) {H:Hp}{kvs:List (κ×V)}{ks:List (List Int)}{T:List Int->Option (Int×Int)}{a:List Int}{q:Addr}{f:Int×Int}
  (h:KvG g gd H kvs ks T) (ga:gd a) (hq:aY H q f.1 f.2):KvG g gd H (cM kvs (g a) (.ref q)) (xI ks a) fun k=>if k=a then some f else T k:=by
 refine ⟨?_,?_,fun x hx=>?_,fun x gx=>?_,fun x gx=>?_⟩
 ·unfold xI;have va:=h.val a ga
  by_cases c:a∈ks
  ·rw [ao c];obtain ⟨u,hu⟩:=(h.mem a ga).mp c;rw [hu] at va
   cases e:dA kvs (g a) with
   |none=>rw [e] at va;exact va.elim
   |some x=>rw [aO3 ⟨x,e⟩,h.keys]
  ·rw [aj c];have hu:T a=none:=by
    cases e:T a with
    |none=>rfl
    |some u=>exact absurd ((h.mem a ga).mpr ⟨u,e⟩) c
   rw [hu] at va
   cases e:dA kvs (g a) with
   |none=>rw [iV _ e,aq,h.keys,aq];rfl
   |some x=>rw [e] at va;exact va.elim
 ·unfold xI
  split
  ·exact h.nd
  ·rename_i c;exact aH6 h.nd c
 ·unfold xI at hx
  split at hx
  ·exact h.gd x hx
  ·rcases bf.mp hx with z | z
   ·exact h.gd x z
   ·rw [au.mp z];exact ga
 ·rw [aY4]
  by_cases c:x=a
  ·rw [ao (by rw [c]),ao c];exact ⟨q,rfl,hq⟩
  ·rw [aj fun z=>c (hg x a gx ga z),aj c];exact h.val x gx
 ·unfold xI
  by_cases c:x=a
  ·subst c;rw [ao rfl]
   constructor
   ·exact fun _=>⟨f,rfl⟩
   ·intro _
    split
    ·assumption
    ·simp
  ·rw [aj c];rw [<- h.mem x gx]
   split
   ·rfl
   ·rw [bf,au]
    constructor
    ·rintro (z | z)
     ·exact z
     ·exact absurd z c
    ·exact .inl
theorem bY3 (x y:List Int) (hx:gdA false x) (hy:gdA false y) (e:gF x=gF y):x=y:=by
 obtain ⟨n,rfl⟩:=hx;obtain ⟨m,rfl⟩:=hy;have e:(Sum.inl n:Key)=Sum.inl m:=e;injection e with e
 rw [e]
theorem bX6 (x y:List Int) (_:gdA true x) (_:gdA true y) (e:gT x=gT y):x=y:=bH3 e
def tF:Bool->Hp->HO->List (List Int)->(List Int->Option (Int×Int))->Prop
 |false,H,u,ks,T=>∃ kvs:List (Key×V),u= .dK kvs/\KvG gF (gdA false) H kvs ks T
 |true,H,u,ks,T=>∃ kvs:List (List Key×V),u= .dT kvs/\KvG gT (gdA true) H kvs ks T
theorem tF.ts {H H':Hp}(s:TS H H') {u:HO}{ks:List (List Int)}{T:List Int->Option (Int×Int)}:∀ {b:Bool},tF b H u ks T->tF b H' u ks T
 |false,⟨kvs,e,h⟩=>⟨kvs,e,h.ts s⟩
 |true,⟨kvs,e,h⟩=>⟨kvs,e,h.ts s⟩
theorem tF.isD {H:Hp}{u:HO}{ks:List (List Int)}{T:List Int->Option (Int×Int)}{d:Addr}(r:Rd H d u):∀ {b:Bool},tF b H u ks T->IsD H d
 |false,⟨kvs,e,_⟩=> .inl ⟨kvs,by rw [<- e];exact r⟩
 |true,⟨kvs,e,_⟩=> .inr ⟨kvs,by rw [<- e];exact r⟩
theorem tF.not_tup {H:Hp}{u:HO}{ks:List (List Int)}{T:List Int->Option (Int×Int)}:∀ {b:Bool},tF b H u ks T->∀ xs,u≠ .tup xs
 |false,⟨_,e,_⟩,xs,z=>by rw [e] at z;cases z
 |true,⟨_,e,_⟩,xs,z=>by rw [e] at z;cases z
theorem tF.get {H:Hp}{u:HO}{ks:List (List Int)}{T:List Int->Option (Int×Int)}{d:Addr}{x:V}{a:List Int}(r:Rd H d u):∀ {b:Bool},tF b H u ks T->xO b H x a->∃ o,fD H d x o/\aE6 H o (T a)
 |false,⟨kvs,e,h⟩,⟨n,ea,ex⟩=>⟨_,.inl ⟨kvs,gF a,by rw [<- e];exact r,by rw [ex,ea];rfl,rfl⟩,h.val a ⟨n,ea⟩⟩
 |true,⟨kvs,e,h⟩,⟨p,ex,hp⟩=>⟨_,.inr ⟨kvs,gT a,p,by rw [<- e];exact r,ex,by unfold gT;rw [aC2];exact hp,rfl⟩,h.val a trivial⟩
theorem tF.nodup {H:Hp}{u:HO}{ks:List (List Int)}{T:List Int->Option (Int×Int)}:∀ {b:Bool},tF b H u ks T->ks.Nodup
 |false,⟨_,_,h⟩=>h.nd
 |true,⟨_,_,h⟩=>h.nd
theorem tF.mem {H:Hp}{u:HO}{ks:List (List Int)}{T:List Int->Option (Int×Int)}:∀ {b:Bool},tF b H u ks T->∀ a,gdA b a->(a∈ks↔∃ u,T a=some u)
 |false,⟨_,_,h⟩=>h.mem
 |true,⟨_,_,h⟩=>h.mem
theorem tF.gd {H:Hp}{u:HO}{ks:List (List Int)}{T:List Int->Option (Int×Int)}:∀ {b:Bool},tF b H u ks T->∀ a∈ks,gdA b a
 |false,⟨_,_,h⟩=>h.gd
 |true,⟨_,_,h⟩=>h.gd
theorem nG {κ: Type}{kvs:List (κ×V)}{ks:List (List Int)}{g:List Int->κ}(h:kvs.map (·.1)=ks.map g):kvs.length=ks.length:=by
 have:=gv List.length h
 simpa using this
theorem xF {H:Hp}{d:Addr}{u u':HO}(h:H d=some u) (n:∀ xs,u≠ .tup xs):TS H (aM H d u'):=fun b xs q=>by
 rw [aG (fun z=>by rw [z,h] at q;exact n _ (cx q))];exact q
theorem tF.put {H:Hp}{u:HO}{ks:List (List Int)}{T:List Int->Option (Int×Int)}{d q:Addr}{x:V}{a:List Int}{f:Int×Int}(r:H d=some u) (hq:aY H q f.1 f.2) (hz:ks.length < sizeLine):∀ {b:Bool},tF b H u ks T->xO b H x a ->
  ∃ u',nA H d x (.ref q) (aM H d u')/\tF b (aM H d u') u' (xI ks a) fun k=>if k=a then some f else T k
 |false,⟨kvs,e,h⟩,⟨n,ea,ex⟩=>by
  subst e;refine ⟨.dK (cM kvs (gF a) (.ref q)),.inl ⟨kvs,gF a,r,by rw [ex,ea];rfl,by rw [nG h.keys];exact hz,rfl⟩,_,rfl,?_⟩;exact (h.put bY3 ⟨n,ea⟩ hq).ts (xF r fun xs z=>by cases z)
 |true,⟨kvs,e,h⟩,⟨p,ex,hp⟩=>by
  subst e;refine ⟨.dT (cM kvs (gT a) (.ref q)),.inr ⟨kvs,gT a,p,r,ex,by unfold gT;rw [aC2];exact hp,by rw [nG h.keys];exact hz,rfl⟩,_,rfl,?_⟩;exact (h.put bX6 trivial hq).ts (xF r fun xs z=>by cases z)
theorem cN9 {σ: St}{H:Hp}{Q:VK}(b:Bool) (h:∀ d u,H d=none->tF b (aM H d u) u [] (fun _=>none)->Q (.ref d) (aM H d u)):tDNewK σ H Q\/tDNewT σ H Q:=by
 cases b
 ·exact .inl fun d hd=>h d _ hd ⟨[],rfl,KvG.nil⟩
 ·exact .inr fun d hd=>h d _ hd ⟨[],rfl,KvG.nil⟩
def ItA:Bool->Addr->Obj->HO->List (List Int)->It->Prop
 |false,d,o,u,ks,J=>∃ kvs:List (Key×V),u= .dK kvs/\J=Itd d o kvs/\kvs.map (·.1)=ks.map gF
 |true,d,o,u,ks,J=>∃ kvs:List (List Key×V),u= .dT kvs/\J=bO8 d o kvs/\kvs.map (·.1)=ks.map gT
theorem cM6 {H:Hp}{u:HO}{ks:List (List Int)}{T:List Int->Option (Int×Int)}{d:Addr}{tl:TE}{σ: St}{R:It->Hp->Prop}(r:H d=some u) (htl:∀ F:VK,F (.ref d) H->tl σ H F):∀ {b:Bool},tF b H u ks T ->
  (∀ o J,ItA b d o u ks J->R J (aM H d (.frz o u)))->bC2 tl σ H R\/aB7 tl σ H R
 |false,⟨kvs,e,h⟩,q=> .inl (htl _ ⟨d,kvs,rfl,by rw [<- e];exact r,fun o=>by have:=q o _ ⟨kvs,e,rfl,h.keys⟩;rw [e] at this;exact this⟩)
 |true,⟨kvs,e,h⟩,q=> .inr (htl _ ⟨d,kvs,rfl,by rw [<- e];exact r,fun o=>by have:=q o _ ⟨kvs,e,rfl,h.keys⟩;rw [e] at this;exact this⟩)
theorem aK1 {κ: Type}{kvs:List (κ×V)}{ks:List (List Int)}{g:List Int->κ}(h:kvs.map (·.1)=ks.map g) {i:Nat}{k:κ}{v:V}(e:kvs[i]?=some (k,v)):∃ a,ks[i]?=some a/\k=g a:=by
 have:(kvs.map (·.1))[i]?=some k:=by rw [cy,e];rfl
 rw [h,cy] at this;obtain ⟨a,h1,h2⟩:=gh.mp this;exact ⟨a,h1,h2.symm⟩
theorem bU9 {d:Addr}{o:Obj}{u:HO}{ks:List (List Int)}{J:It}{g:TG}{tc:TT}{te:TE}{Kf:List V->Hp->Prop}{σ0:St}{H1:Hp}(Pv:Nat->List V->St->Hp->Prop) (hz:ks.length < sizeLine) (h0:Pv 0 [] σ0 H1) (hb:∀ i zs σ H,Pv i zs σ H->zs.length<=i)
  (hl:∀ i zs σ H,i<=ks.length->Pv i zs σ H->H d=some (.frz o u)):∀ {b:Bool},ItA b d o u ks J->(∀ a∈ks,gdA b a) ->
  (∀ i a x zs σ H,ks[i]?=some a->xO b H x a->Pv i zs σ H->g x σ H fun σ2 H2=>tc σ2 H2 fun b H3=>if b=true then te σ2 H3 fun y H4=>Pv (i+1) (zs++[y]) σ2 H4 else Pv (i+1) zs σ2 H3) ->
  (∀ zs σ H,Pv ks.length zs σ H->Kf zs H)->lK J g tc te Kf σ0 H1
 |false,⟨kvs,e,ej,hk⟩,gd,hs,hd=>by
  subst e ej;have ln:=nG hk;refine aS0 Pv (by rw [ln];exact hz) h0 hb (fun i zs σ H hi p=>hl i zs σ H (by rw [<- ln];exact hi) p) (fun i k v zs σ H hv p=>?_) (by rw [ln];exact hd);obtain ⟨a,ha,rfl⟩:=aK1 hk hv;obtain ⟨n,rfl⟩:=gd a (br ha);exact hs i _ _ zs σ H ha ⟨n,rfl,rfl⟩ p
 |true,⟨kvs,e,ej,hk⟩,gd,hs,hd=>by
  subst e ej;have ln:=nG hk;refine aC5 Pv (by rw [ln];exact hz) h0 hb (fun i zs σ H hi p=>hl i zs σ H (by rw [<- ln];exact hi) p) (fun i k v b' zs σ H hv hb' p=>?_) (by rw [ln];exact hd);obtain ⟨a,ha,rfl⟩:=aK1 hk hv;exact hs i _ _ zs σ H ha ⟨b',rfl,by rw [<- aC2];exact hb'⟩ p
theorem yH {H:Hp}:∀ {zs:List V}{as:List (List Int)},dO (xO true H) zs as->∃ bs:List Addr,zs=bs.map V.ref/\eP H bs as
 |[],[],_=>⟨[],rfl,rfl,fun i b ns h=>by simp at h⟩
 |v :: zs,a :: as,⟨⟨p,e,h⟩,t⟩=>by
  obtain ⟨bs,e2,l,k⟩:=yH t;refine ⟨p :: bs,by rw [e,e2];rfl,by simp [l],fun i b ns h1 h2=>?_⟩
  cases i with
  |zero =>
   simp at h1 h2;subst h1 h2;exact h
  |succ i=>exact k i b ns (by simpa using h1) (by simpa using h2)
theorem aB6 {H:Hp}:∀ {bs:List Addr}{as:List (List Int)},eP H bs as->dO (xO true H) (bs.map V.ref) as
 |[],[],_=>trivial
 |[],_ :: _,⟨l,_⟩=>by simp at l
 |_ :: _,[],⟨l,_⟩=>by simp at l
 |b :: bs,a :: as,⟨l,k⟩=>⟨⟨b,rfl,k 0 b a rfl rfl⟩,aB6 ⟨by simpa using l,fun i x y h1 h2=>k (i+1) x y (by simpa using h1) (by simpa using h2)⟩⟩
theorem tQ {H:Hp}:∀ {zs:List V}{as:List (List Int)},dO (xO false H) zs as->∃ ns:List Int,zs=ns.map V.int/\as=ns.map fun n=>[n]
 |[],[],_=>⟨[],rfl,rfl⟩
 |v :: zs,a :: as,⟨⟨n,e,h⟩,t⟩=>by
  obtain ⟨ns,e2,e3⟩:=tQ t;exact ⟨n :: ns,by rw [h,e2];rfl,by rw [e,e3];rfl⟩
theorem eP.ts {H H':Hp}(s:TS H H') {bs:List Addr}{as:List (List Int)}(h:eP H bs as):eP H' bs as:=⟨h.1,fun i b ns h1 h2=>s _ _ (h.2 i b ns h1 h2)⟩
theorem tG {ns:List Int}(h:(ns.map fun n=>[n]).Nodup):ns.Nodup:=by
 rw [mi,ot] at h;rw [mi];exact h.imp fun z q=>z (by rw [q])
def bF2 (K:W.Frag):List V->Hp->VK->Prop:=fun xs H Q =>
 (∃ (p:Addr) (ns:List Int),xs=[.ref p]/\bM K H p (ns.map V.int)/\ns.length < 64/\∀ ns':List Int,ns'.Perm ns->ns'.Pairwise (· <= ·)->∀ l,H l=none->Q (.ref l) (aM H l (.lst (ns'.map V.int)))) \/
 ∃ (p:Addr) (bs:List Addr) (nss:List (List Int)),xs=[.ref p]/\bM K H p (bs.map V.ref)/\bs.length < 64/\eP H bs nss/\nss.Nodup /\
  ∀ (bs':List Addr) (nss':List (List Int)),bs'.Perm bs->nss'.Perm nss->eP H bs' nss'->nss'.Pairwise (fun a b=>HT.lexLt a b=true)->∀ l,H l=none->Q (.ref l) (aM H l (.lst (bs'.map V.ref)))
theorem aF9 {X:Cx}{k:Nat}(hr:dE k X.A):eS X (.builtin "sorted") (bF2 X.K):=bI9 aH9 (zG hr)
theorem cJ9 {K:W.Frag}{H:Hp}{Q:VK}{l:Addr}{zs:List V}{as:List (List Int)}(hl:H l=some (.lst zs)) (nd:as.Nodup) (h64:zs.length < 64):∀ {b:Bool},dO (xO b H) zs as ->
  (∀ zs' as' l',as'.Perm as->Ups as'->H l'=none->dO (xO b (aM H l' (.lst zs'))) zs' as'->Q (.ref l') (aM H l' (.lst zs')))->bF2 K [.ref l] H Q
 |false,tw,q=>by
  obtain ⟨ns,rfl,rfl⟩:=tQ tw;refine .inl ⟨l,ns,rfl,bM.of hl,by simpa using h64,fun ns' p s l' hl'=>q _ (ns'.map fun n=>[n]) l' (p.map _) (aT8 s (p.symm.nodup (tG nd))) hl' (xU ns')⟩
 |true,tw,q=>by
  obtain ⟨bs,rfl,t⟩:=yH tw;exact .inr ⟨l,bs,as,rfl,bM.of hl,by simpa using h64,t,nd,fun bs' nss' p1 p2 t' s l' hl'=>q _ nss' l' p2 s hl' (aB6 (eP.ts (.of (aC hl' _)) t'))⟩
def gK (b:Bool) (e:En):PyData:= .tuple [lE b e.1,oY e.2.1 e.2.2]
theorem aZ2 {K:W.Frag}{b:Bool}{H:Hp}{v:V}{e:En}(h:EnA b H v e):nW K H (gK b e) v:=by
 obtain ⟨p,x,q,e1,h1,h2,h3⟩:=h;exact ⟨p,_,e1,aT.of h1,_,_,rfl,bH8 h2,_,_,rfl,rX h3,rfl⟩
theorem aV5 (b:Bool) (a:List Int):(lE b a).canLay0=true/\(lE b a).depth<=1:=by
 cases b
 ·exact ⟨by simp [lE,PyData.canLay0],by simp [lE,PyData.depth]⟩
 ·refine ⟨by simp [lE,PyData.canLay0,aB0],?_⟩;simp only [lE,PyData.depth,rH,if_true];omega
theorem xW (b:Bool):∀ es:List En,PyData.canLayAll0 (es.map (gK b))=true/\PyData.depthAll (es.map (gK b))<=2
 |[]=>⟨rfl,bj _⟩
 |e :: r=>by
  have ih:=xW b r;obtain ⟨a1,a2⟩:=aV5 b e.1;simp only [List.map_cons,gK,oY,PyData.canLayAll0,PyData.canLay0,PyData.depthAll,PyData.depth,ih.1,a1] at *;exact ⟨by simp,by omega⟩
theorem gG (b:Bool) (es:List En):SeqAt.shaped (.tuple (es.map (gK b)))=true:=by
 obtain ⟨h1,h2⟩:=xW b es;simp only [SeqAt.shaped,PyData.canLay0,h1,Bool.true_and];exact ap (by simp only [PyData.depth];omega)
theorem jD:∀ ns:List Int,Spec.sameAll (ns.map PyData.int) (ns.map PyData.int)=true
 |[]=>rfl
 |n :: r=>by simp [Spec.sameAll,Spec.same,jD r]
theorem tP (b:Bool) (a:List Int):Spec.same (lE b a) (lE b a)=true/\SeqAt.noMix (lE b a) (lE b a)=true:=by
 cases b
 ·exact ⟨by simp [lE,Spec.same],by simp [lE,SeqAt.noMix]⟩
 ·exact ⟨by simp [lE,Spec.same,jD],by simp [lE,SeqAt.noMix,qU]⟩
theorem lZ (b:Bool):∀ es:List En,SeqAt.noMixAll (es.map (gK b)) (es.map (gK b))=true
 |[]=>rfl
 |e :: r=>by simp [gK,oY,SeqAt.noMixAll,SeqAt.noMix,lZ b r,(tP b e.1).2]
theorem vA (b:Bool):∀ es:List En,Spec.sameAll (es.map (gK b)) (es.map (gK b))=true
 |[]=>rfl
 |e :: r=>by simp [gK,oY,Spec.sameAll,Spec.same,vA b r,(tP b e.1).1]
theorem aZ6 {K:W.Frag}{b:Bool}{H:Hp}{us:List V}{es:List En}(h:dO (EnA b H) us es):sI K H (es.map (gK b)) us:=dO.rep (fun _ _ z=>aZ2 z) h
def spLowY:Sp:=fun vs H Q _=>∃ a b:Int,vs=[.int a,.int b]/\0<=a/\1<=b/\(∃ n,cK n b/\n<=8990)/\∀ p,H p=none->Q (.ref p) (aM H p (.tup (iS a b)))
def spAddX:Sp:=fun vs H Q _=>∃ (p q:Addr) (u e:Int×Int) (m n:Nat),vs=[.ref p,.ref q]/\aY H p u.1 u.2/\aY H q e.1 e.2/\sL m u/\sL n e/\m<=4000/\n<=4000/\∀ r,H r=none->Q (.ref r) (aM H r (.tup [.int (eF u e).1,.int (eF u e).2]))
end Mine
namespace HT
open PySem PySem.Spec PyProof.Rows L2
section
variable {prog:Program}{w:World}{A:Around}{E:Value->Shared->Prop}{s:Shared}
theorem getItem_tuple_all {t sl:Addr}{items:Array Value}{vl vu:Value}{lo hi:Option Int}{Q:Value->Shared->Prop}(ht:IsTup s.heap t items) (hs:s.heap.IsSliceOf sl vl vu .none) (pl:IsPart vl lo) (pu:IsPart vu hi)
  (hw:sIx items.size 0 lo=0/\sIx items.size items.size hi=items.size) (h:Q (.ref t) s):wpAny (model prog w) A (getItem (.ref t) (.ref sl)) Q E s:=by
 obtain ⟨os,hos,hcs,hds⟩:=id hs;have hTs:s.TypeIs (.ref sl) "slice":=⟨os,hos,hcs⟩
 unfold getItem
 try with_reducible refine wpAny_holding ?_
 first | refine wpAny_bind (wpAny_pure ?_) | skip
 refine wpAny_bind (wpAny_sequenceKey ht.typeIs (by decide) ?_);refine wpAny_bind (wpAny_callSpecial?_slot (name:=Str.ofString "__getitem__") ht.typeIs PyProof.Rows.slot_tuple_getitem
  (wpAny_call_entry PyProof.Rows.slot_tuple_getitem ht.typeIs entry_tuple_getitem ?_ (args_tuple_getitem _ _)))
 show wpAny _ _ (Builtin.Tuple.tupleItemsOf (.ref t) >>= _) _ _ s;refine wpAny_bind (tupleItemsOf_ ht ?_);refine wpAny_bind (wpAny_typeOf hTs ?_);rw [if_pos (by decide)];refine wpAny_bind (iX hs pl pu ?_);have hyes:(((sIx items.size 0 lo:Nat):Int) == 0 && (1:Int) == 1 && (sIx items.size items.size hi - sIx items.size 0 lo) == items.size)=true:=by
  rw [hw.1,hw.2];simp
 show wpAny _ _ (if (((sIx items.size 0 lo:Nat):Int) == 0 && (1:Int) == 1 && (sIx items.size items.size hi - sIx items.size 0 lo) == items.size)=true then _ else _) _ _ s;rw [if_pos hyes];refine wpAny_bind (show wpAny _ _ (typeOf (.ref t) >>= fun _=>_) _ _ _ from wpAny_bind (wpAny_typeOf ht.typeIs (wpAny_pure ?_)));rw [if_pos (by decide)];exact wpAny_bind (wpAny_rule (wpAny_pure ⟨_,rfl,wpAny_pure h⟩))
end
end HT
namespace L2
open PySem PySem.Spec PyProof.Rows
def rSlA:V->Option Int->Option Int->Hp->VK->Prop:=fun x lo hi H Q=>∃ a xs,x= .ref a/\H a=some (.tup xs)/\∀ r H',aU H H'->H' r=some (.tup (iT xs lo hi))->Q (.ref r) H'
theorem aL8 {X:Cx}:SlR X rSlA:=by
 intro pins s σ H x v vl vu lo hi sl Q I rx hs pl pu h;obtain ⟨a,xs,rfl,ha,q⟩:=h
 by_cases c:HT.sIx xs.length 0 lo=0/\HT.sIx xs.length xs.length hi=xs.length
 ·cases rx
  obtain ⟨its,r,ht,hz⟩:=I.tuple (aT.of ha);have hlen:its.toArray.size=xs.length:=by rw [aw];exact r.length.symm
  refine ⟨"tuple",_,PyProof.Rows.slot_tuple_getitem.lookup,ht.typeIs,?_⟩;refine HT.getItem_tuple_all ht hs pl pu (by rw [hlen];exact c) ⟨.ref a,H,I,rfl,q a H (aU.refl _) ?_⟩;unfold iT;rw [c.1,c.2,rh,zn,dy];exact ha
 ·exact cA2 pins s σ H (.ref a) v vl vu lo hi sl Q I rx hs pl pu ⟨a,xs,rfl,aT.of ha,c,fun p hp=>q p _ (aC hp _) aD⟩
end L2
namespace Mine
open PySem L2
theorem sR (T:List Int->Option (Int×Int)) (e:En):eA T e=fun k=>if k=e.1 then some (eF ((T e.1).getD (0,1)) e.2) else T k:=by
 funext k
 unfold eA
 by_cases c:k=e.1
 ·rw [ao c,ao c,c]
 ·rw [aj c,aj c]
def lI (T:List Int->Option (Int×Int)) (a:List Int):Bool:=decide (T a≠some (0,1))
theorem aO2 {H:Hp}{t:Option (Int×Int)}{o:Option V}{z:Addr}(h:aE6 H o t) (hz:aY H z 0 1):∃ q,o.getD (.ref z)= .ref q/\aY H q (t.getD (0,1)).1 (t.getD (0,1)).2:=by
 cases t with
 |none =>
  cases o with
  |none=>exact ⟨z,rfl,hz⟩
  |some v=>exact h.elim
 |some s =>
  cases o with
  |none=>exact h.elim
  |some v =>
   obtain ⟨q,e,hq⟩:=h;exact ⟨q,e,hq⟩
theorem uL {H:Hp}{f:Int×Int}{o:Option V}(h:aE6 H o (some f)):∃ q,o=some (.ref q)/\aY H q f.1 f.2:=by
 cases o with
 |none=>exact h.elim
 |some v =>
  obtain ⟨q,e,hq⟩:=h;exact ⟨q,by rw [e],hq⟩
theorem bH0 {es:List En}{a:List Int}{f:Int×Int}(h:oQ es a=some f):∃ e∈es,e.1=a:=by
 rw [bN6] at h
 split at h
 ·cases h
 ·rename_i c
  unfold ofK at c;obtain ⟨e,he⟩:=List.exists_mem_of_ne_nil _ (fun z=>c (by rw [z];rfl):(es.filter fun e=>decide (e.1=a))≠[]);exact ⟨e,(du.mp he).1,ba (du.mp he).2⟩
theorem aA5 {α: Type}{R:V->α->Prop}:∀ {us:List V}{as:List α},dO R us as->∀ {a:α},a∈as->∃ v,R v a
 |[],[],_,_,m=>absurd m cz
 |[],_ :: _,h,_,_=>h.elim
 |_ :: _,[],h,_,_=>h.elim
 |_ :: _,_ :: _,⟨h,t⟩,a,m=>by
  rcases av.mp m with e | e
  ·exact ⟨_,by rw [e];exact h⟩
  ·exact aA5 t e
theorem bV3 {σ: St}{H:Hp}{F:List V->Hp->Prop}(h:F [] H):tNil σ H F:=h
def spTimesX:Sp:=fun vs H Q _=>∃ (p q:Addr) (u e:Int×Int),vs=[.ref p,.ref q]/\aY H p u.1 u.2/\aY H q e.1 e.2/\sL 900 u/\sL 900 e/\∀ r,H r=none->Q (.ref r) (aM H r (.tup (iS (u.1 * e.1) (u.2 * e.2))))
def bX7 (es:List En):Prop:=(∀ e∈es,sL 900 e.2)/\∀ i a f,(es.take i).foldl eA (fun _=>none) a=some f->sL 900 f
def spMrg:Sp:=fun vs H Q _=>∃ b l us es,vs=[.ref l]/\H l=some (.lst us)/\dO (EnA b H) us es/\es.length<=60/\bX7 es /\
 ∀ H' t ks,aU H H'->aO0 b H' t (lR (oQ es) ks)->Ups ks->(∀ k,k∈ks↔∃ u,oQ es k=some u/\u≠(0,1))->Q (.ref t) H'
theorem b72 {n:Nat}{a:Int}(h:pW a) (hn:180<=n):cK n a:=(cK.of h.1 h.2).mono hn
theorem sE {vs:List V}{H:Hp}{Q:VK}{E:XK}(h:pS vs H Q E):spTimesX vs H Q E:=by
 obtain ⟨p,q,a,b,c,d,e,h1,h2,ha,hb,hc,hd,b1,d1,k⟩:=h;exact ⟨p,q,(a,b),(c,d),e,h1,h2,⟨ha.1,b1,b72 ha (by decide),b72 hb (by decide)⟩,⟨hc.1,d1,b72 hc (by decide),b72 hd (by decide)⟩,k⟩
theorem bV7 {vs:List V}{H:Hp}{Q:VK}{E:XK}(h:bR9 vs H Q E):spAddX vs H Q E:=by
 obtain ⟨p,q,u,e,ev,h1,h2,hu,he,k⟩:=h;obtain ⟨ha,hb,b1⟩:=hu;obtain ⟨hc,hd,d1⟩:=he;exact ⟨p,q,u,e,180,180,ev,h1,h2,⟨ha.1,b1,b72 ha (by decide),b72 hb (by decide)⟩,⟨hc.1,d1,b72 hc (by decide),b72 hd (by decide)⟩,by decide,by decide,k⟩
theorem aS8 {vs:List V}{H:Hp}{Q:VK}{E:XK}(h:aT0 vs H Q E):spLowY vs H Q E:=by
 obtain ⟨a,b,e,h1,h2,h3,k⟩:=h;exact ⟨a,b,e,h1,h2,⟨400,cK.of (by omega) h3,by decide⟩,k⟩
theorem Cl.imp {P:Program}{w:World}{K:W.Frag}{mg:Str->Option Value}{base:Heap}{n:Nat}{sp sp':Sp}{x:Str}(C:Cl P w K mg base n sp x) (h:∀ {vs:List V}{H:Hp}{Q:VK}{E:XK},sp' vs H Q E->sp vs H Q E):Cl P w K mg base n sp' x :=by
 obtain ⟨f,d,ps,F,r⟩:=C;exact ⟨f,d,ps,F.imp fun _ _ _ _ z=>h z,r⟩
def OvM (M:Int) (u:Int×Int):Prop:=∃ c,0<=c/\c<=M/\u=aX c M
theorem aD4 {M S:Int}{n:Nat}(h0:0<=S) (hM:1<=M) (h1:S < 2 ^ n) (h2:M < 2 ^ n):sL n (aX S M) :=
 ⟨bL h0,cB hM,cK.of (bL h0) (ik (qD h0 hM) h1),cK.of (by have:=cB (a:=S) hM;show 0<=bA S M;omega) (ik (qA hM) h2)⟩
theorem bY8 {M:Int}{es:List En}(hM:1<=M) (hM2:M<=2 ^ 680) (hl:es.length<=60) (h:∀ e∈es,OvM M e.2):bX7 es:=by
 have p1:(2:Int) ^ 680 * 64 < 2 ^ 900:=by decide +kernel
 have b:∀ S:Int,0<=S->S<=60 * M->sL 900 (aX S M):=fun S h0 h1=>aD4 h0 hM (by generalize (2:Int) ^ 680=x at *;generalize (2:Int) ^ 900=y at *;omega) (by generalize (2:Int) ^ 680=x at *;generalize (2:Int) ^ 900=y at *;omega)
 have key:∀ i,i<=es.length->∀ a f,(es.take i).foldl eA (fun _=>none) a=some f->∃ S,0<=S/\S<=i * M/\f=aX S M:=by
  intro i
  induction i with
  |zero=>intro _ a f h;cases h
  |succ i ih =>
   intro hi a f hf;have he:=bw (show i < es.length by omega);rw [lS he,sR] at hf;obtain ⟨c,c0,c1,ec⟩:=h _ (br he);have im:((i+1:Nat):Int) * M=(i:Int) * M+M:=by rw [pf,aAd,rq]
   have i0:0<=(i:Int) * M:=bz (sw _) (by omega);have hf:(if a=es[i].1 then some (eF (((es.take i).foldl eA (fun _=>none) es[i].1).getD (0,1)) es[i].2) else (es.take i).foldl eA (fun _=>none) a)=some f:=hf
   by_cases q:a=es[i].1
   ·rw [ao q] at hf
    cases hf
    cases r:(es.take i).foldl eA (fun _=>none) es[i].1 with
    |none =>
     refine ⟨c,c0,by omega,?_⟩;rw [ec];have z:=kW hM;show eF (0,1) _=_;rw [<- z,wN (cu _) c0 hM,nj]
    |some g =>
     obtain ⟨S,s0,s1,rfl⟩:=ih (by omega) _ _ r;refine ⟨S+c,by omega,by omega,?_⟩;rw [ec];exact wN s0 c0 hM
   ·rw [aj q] at hf;obtain ⟨S,s0,s1,e⟩:=ih (by omega) a f hf;exact ⟨S,s0,by omega,e⟩
 refine ⟨fun e he=>?_,fun i a f hf=>?_⟩
 ·obtain ⟨c,c0,c1,ec⟩:=h e he;rw [ec];exact b c c0 (by omega)
 ·rcases zk es.length i with z | z
  ·rw [jc (fk z)] at hf;obtain ⟨S,s0,s1,rfl⟩:=key es.length (ai _) a f (by rw [dy];exact hf);refine b S s0 (bn s1 (di (by omega) (by omega)))
  ·obtain ⟨S,s0,s1,rfl⟩:=key i z a f hf;refine b S s0 (bn s1 (di (by omega) (by omega)))
def oneA (e:Int×Int×Int):En:=([e.1],e.2)
structure Alk (T:Int->Option (Int×Int)) (T':List Int->Option (Int×Int)):Prop where
 a:∀ k,T' [k]=T k
 b:∀ k u,T' k=some u->∃ n,k=[n]
theorem aV9 {T:Int->Option (Int×Int)}{T':List Int->Option (Int×Int)}(h:Alk T T') (e:Int×Int×Int):Alk (jW T e) (eA T' (oneA e)):=by
 refine ⟨fun k=>?_,fun k u hu=>?_⟩
 ·unfold jW eA oneA
  by_cases c:k=e.1
  ·rw [ao c,ao (by rw [c]),h.a]
  ·rw [aj c,aj (fun z=>c (by injection z)),h.a]
 ·unfold eA oneA at hu
  by_cases c:k=[e.1]
  ·exact ⟨_,c⟩
  ·rw [aj c] at hu;exact h.b k u hu
theorem rV:∀ (es:List (Int×Int×Int)) {T:Int->Option (Int×Int)}{T':List Int->Option (Int×Int)},Alk T T'->Alk (es.foldl jW T) ((es.map oneA).foldl eA T')
 |[],_,_,h=>h
 |e :: r,_,_,h=>rV r (aV9 h e)
theorem bP2 (es:List (Int×Int×Int)):Alk (mM es) (oQ (es.map oneA)):=rV es ⟨fun _=>rfl,fun _ _ h=>nomatch h⟩
theorem cA6 {u:Int×Int}(h:iW u):sL 180 u:=⟨h.1.1,h.2.2,b72 h.1 (ai _),b72 h.2.1 (ai _)⟩
theorem bT6 {es:List (Int×Int×Int)}(h:aG9 (fun _=>none) es):bX7 (es.map oneA):=by
 refine ⟨fun e he=>?_,?_⟩
 ·obtain ⟨e',he',rfl⟩:=cm.mp he;obtain ⟨i,hi⟩:=List.mem_iff_getElem?.mp he';exact (cA6 (vY h hi).2).mono (by decide)
 ·have key:∀ i a f,((es.map oneA).take i).foldl eA (fun _=>none) a=some f->sL 361 f:=by
   intro i
   induction i with
   |zero=>intro a f h;cases h
   |succ i ih =>
    intro a f hf;rcases zk i es.length with z | z
    ·have he:=bw z;have he':(es.map oneA)[i]?=some (oneA es[i]):=by rw [cy,he];rfl
     rw [lS he',sR] at hf;have sf:=vY h he;have al:=rV (es.take i) (T:=fun _=>none) (T':=fun _=>none) ⟨fun _=>rfl,fun _ _ h=>nomatch h⟩;rw [yh] at al;have hf:(if a=(oneA es[i]).1 then some (eF ((((es.map oneA).take i).foldl eA (fun _=>none) (oneA es[i]).1).getD (0,1)) (oneA es[i]).2) else ((es.map oneA).take i).foldl eA (fun _=>none) a)=some f:=hf
     by_cases q:a=(oneA es[i]).1
     ·rw [ao q] at hf
      cases hf
      have e2:((es.map oneA).take i).foldl eA (fun _=>none) (oneA es[i]).1=_:=al.a es[i].1;rw [e2];exact (cA6 sf.1).add (cA6 sf.2)
     ·rw [aj q] at hf;exact ih a f hf
    ·rw [jc (by rw [ac];omega)] at hf;rw [jc (by rw [ac];omega)] at ih;exact ih a f hf
  exact fun i a f hf=>(key i a f hf).mono (by decide)
theorem aB4 {H:Hp}:∀ {us:List V}{es:List (Int×Int×Int)},dO (nO H) us es->dO (EnA false H) us (es.map oneA)
 |[],[],_=>trivial
 |u :: us,e :: es,h=>⟨let ⟨p,q,e1,h1,h2⟩:=h.1;⟨p,_,q,e1,h1,⟨e.1,rfl,rfl⟩,h2⟩,aB4 h.2⟩
 |[],_ :: _,h=>absurd h id
 |_ :: _,[],h=>absurd h id
theorem aA3 {H:Hp}:∀ {us:List V}{es:List (Int×Int×Int)},dO (EnA false H) us (es.map oneA)->dO (nO H) us es
 |[],[],_=>trivial
 |u :: us,e :: es,h=>⟨by
   obtain ⟨p,x,q,e1,h1,⟨n,en,ex⟩,h2⟩:=h.1;have:n=e.1:=by have en:[e.1]=[n]:=en;injection en with en;exact en.symm
   exact ⟨p,q,e1,by rw [h1,ex,this],h2⟩,aA3 h.2⟩
 |[],_ :: _,h=>absurd h id
 |_ :: _,[],h=>absurd h id
theorem cO3 {ks:List (List Int)}(h:∀ k∈ks,∃ n,k=[n]):∃ ns:List Int,ks=ns.map fun n=>[n]:=by
 induction ks with
 |nil=>exact ⟨[],rfl⟩
 |cons k ks ih =>
  obtain ⟨n,rfl⟩:=h k ah;obtain ⟨ns,rfl⟩:=ih fun x hx=>h x (ae _ hx)
  exact ⟨n :: ns,rfl⟩
theorem aJ3 {vs:List V}{H:Hp}{Q:VK}{E:XK}(h:qR vs H Q E):spMrg vs H Q E:=by
 obtain ⟨l,us,es,e,hl,tw,h60,sf,k⟩:=h;refine ⟨false,l,us,es.map oneA,e,hl,aB4 tw,by rw [ac];omega,bT6 sf,fun H' t ks s ht up hm=>?_⟩;have al:=bP2 es;obtain ⟨ns,rfl⟩:=cO3 fun k hk=>by obtain ⟨u,hu,_⟩:=(hm k).mp hk;exact al.b k u hu
 obtain ⟨ws,h1,h2⟩:=ht;refine k H' t ws ns s h1 ?_ (fun n=>?_) ?_
 ·have:(ns.map fun n=>[n]).Pairwise fun a b=>HT.lexLt a b=true:=up
  rw [ot] at this;exact this.imp fun {a b} z=>by rw [cG1] at z;exact ba z
 ·rw [<- al.a n, <- hm [n]]
  constructor
  ·exact fun z=>cm.mpr ⟨n,z,rfl⟩
  ·intro z;obtain ⟨m,hm',e⟩:=cm.mp z;injection e with e
   rw [<- e];exact hm'
 ·refine aA3 ?_;have e2:lR (oQ (es.map oneA)) (ns.map fun n=>[n])=(pG (mM es) ns).map oneA:=by
   unfold lR pG;rw [jf,jf];refine eh fun n _=>?_
   show ([n],(oQ (es.map oneA) [n]).getD (0,1))=([n],(mM es n).getD (0,1))
   rw [al.a]
  rw [<- e2];exact h2
end Mine
namespace L2
open PySem PySem.Spec PyProof.Rows
def MkL (P:Program) (w:World) (K:W.Frag) (mg:Str->Option Value) (base:Heap) (n:Nat) (sp:Sp) (C:Addr) (x:Str):Prop:=∃ f d ps,Mk K C f/\jY P w K mg base CX0 n f d ps sp/\fZ K d ps []/\mg x=some (.ref C)
theorem pml {X:Cx}{x:Str}{p pos:Pos}{e:Expr}{es:List Expr}{t:TA}{C:Addr}{k:Nat}{sp:Sp}(M:MkL X.prog X.w X.K X.mg X.base k sp C x) {n:Nat}(hr:dE n X.A) (ha:PA X (e :: es) t) (hn:autoParam (k+1<=n) Rq5._auto_1) (hg:autoParam (Gl X x) Rq0._auto_1) (hdb:autoParam ((x == ("__debug__": Str))=false) Rq1._auto_1) (he:autoParam (starEach (e :: es) X.env=(false,eval e X.env) :: starEach es X.env) Rq0._auto_1)
  (hpl:autoParam ((backTo pos (starEach es X.env)).any (·.1)=false) Rq0._auto_1):PE X (.Call (.Name x p) (e :: es) [] pos) (bQ4 C sp [] E0 t):=by obtain ⟨_,_,_,m,g,b,h⟩:=M;exact bI0 m g (hr.mono hn) hg h b .nil aT4 ha hdb he hpl
end L2
namespace Mine
open PySem L2
abbrev Hn:=Addr×Addr×Addr×List Str
def RnQ (C:Addr) (NM:List Str) (H:Hp) (h:Hn) (r:Rn):Prop:=kB C NM H h.1 h.2.1 h.2.2.1 h.2.2.2 r
def fA (C:Addr) (NM:List Str) (H:Hp):List Hn->List Rn->Prop
 |[],[]=>True
 |h :: hs,r :: rs=>RnQ C NM H h r/\fA C NM H hs rs
 |_,_=>False
theorem fA.mono {C:Addr}{NM:List Str}{H H':Hp}:∀ {hs:List Hn}{rs:List Rn},fA C NM H hs rs->(∀ h∈hs,∀ r,RnQ C NM H h r->RnQ C NM H' h r)->fA C NM H' hs rs
 |[],[],_,_=>trivial
 |h :: hs,r :: rs,⟨a,b⟩,f=>⟨f h ah r a,b.mono fun x hx=>f x (ae _ hx)⟩
 |[],_ :: _,h,_=>h
 |_ :: _,[],h,_=>h
theorem fA.same {C:Addr}{NM:List Str}{H H':Hp}{hs:List Hn}{rs:List Rn}(h:fA C NM H hs rs) (s:aU H H'):fA C NM H' hs rs:=h.mono fun _ _ _ z=>kB.same z s
theorem fA.length {C:Addr}{NM:List Str}{H:Hp}:∀ {hs:List Hn}{rs:List Rn},fA C NM H hs rs->hs.length=rs.length
 |[],[],_=>rfl
 |h :: hs,r :: rs,⟨_,b⟩=>by simp only [List.length_cons,b.length]
 |[],_ :: _,h=>absurd h id
 |_ :: _,[],h=>absurd h id
theorem fA.app {C:Addr}{NM:List Str}{H:Hp}:∀ {hs gs:List Hn}{rs qs:List Rn},fA C NM H hs rs->fA C NM H gs qs->fA C NM H (hs++gs) (rs++qs)
 |[],_,[],_,_,h=>h
 |_ :: _,_,_ :: _,_,⟨a,b⟩,h=>⟨a,b.app h⟩
 |[],_,_ :: _,_,h,_=>absurd h id
 |_ :: _,_,[],_,h,_=>absurd h id
theorem fA.split {C:Addr}{NM:List Str}{H:Hp}:∀ {hs:List Hn}{rs:List Rn}{r:Rn},fA C NM H hs (rs++[r])->∃ gs g,hs=gs++[g]/\fA C NM H gs rs/\RnQ C NM H g r
 |[],[],_,h=>absurd h id
 |[],_ :: _,_,h=>absurd h id
 |[h],[],r,⟨a,_⟩=>⟨[],h,rfl,trivial,a⟩
 |_ :: _ :: _,[],_,⟨_,b⟩=>absurd b id
 |h :: hs,q :: rs,r,⟨a,b⟩=>let ⟨gs,g,e,b1,b2⟩:=fA.split b;⟨h :: gs,g,by rw [e];rfl,⟨a,b1⟩,b2⟩
theorem fA.there {C:Addr}{NM:List Str}{H:Hp}:∀ {hs:List Hn}{rs:List Rn},fA C NM H hs rs->∀ h∈hs,(∃ dx fs,H h.1=some (.ins C dx fs))/\(∃ kvs,H h.2.1=some (.dK kvs))/\∃ xs,H h.2.2.1=some (.lst xs)
 |h :: hs,r :: rs,⟨a,b⟩,g,hg=>by
  rcases av.mp hg with e | e
  ·rw [e];obtain ⟨dx,cv,sp,q,_⟩:=a.ex;exact ⟨⟨dx,_,q⟩,⟨_,a.kn⟩,_,a.tl⟩
  ·exact b.there g e
 |[],[],_,_,hg=>absurd hg cz
 |[],_ :: _,h,_,_=>absurd h id
 |_ :: _,[],h,_,_=>absurd h id
theorem fA.not_in {C:Addr}{NM:List Str}{H:Hp}{hs:List Hn}{rs:List Rn}(h:fA C NM H hs rs) (a:Addr) (ha:H a=none):a∉hs.map (·.1)/\a∉hs.map (·.2.1)/\a∉hs.map (·.2.2.1):=by
 refine ⟨fun z=>?_,fun z=>?_,fun z=>?_⟩
 all_goals
  obtain ⟨g,hg,rfl⟩:=cm.mp z;obtain ⟨⟨_,_,q1⟩,⟨_,q2⟩,_,q3⟩:=h.there g hg
 ·rw [ha] at q1;cases q1
 ·rw [ha] at q2;cases q2
 ·rw [ha] at q3;cases q3
structure Frs (H:Hp) (hs:List Hn):Prop where
 x:(hs.map (·.1)).Nodup
 k:(hs.map (·.2.1)).Nodup
 t:(hs.map (·.2.2.1)).Nodup
 n:∀ h∈hs,H h.1=none/\H h.2.1=none/\H h.2.2.1=none
def aN8 (rn:Rn) (y:Str) (z:Int×Int×Int):Rn:=⟨rn.rs,iN rn.e y z.1,rn.td,yK rn.sh z.2⟩
def cN (hs:List Hn):List V:=hs.map fun h=> .ref h.1
def bQ9 (C:Addr):Sp:=fun vs H Q _=>∃ (x kd tl:Addr) (NM ks:List Str) (rn:Rn) (y:Str) (t:Addr) (us:List V) (tb:List (Int×Int×Int)),vs=[.ref x,.str y,.ref t]/\kB C NM H x kd tl ks rn/\y∈NM/\NM.length<=100/\H t=some (.tup us)/\dO (nO H) us tb/\tb.length<=10/\rn.td.length<=4/\sL 900 rn.sh/\(∀ z∈tb,sL 900 z.2) /\
 ∀ H' l hs,aU H H'->H l=none->H' l=some (.lst (cN hs))->fA C NM H' hs (tb.map (aN8 rn y))->Frs H hs->(∀ h∈hs,h.2.2.2=kC ks y)->Q (.ref l) H'
def jQ (NM:List Str) (KS:List (List RKey)) (cs:List Int) (M:Int):List Hn->List Rn->Prop
 |[],[]=>True
 |h :: hs,r :: rs=>GdK NM KS cs M h.2.2.2 r/\jQ NM KS cs M hs rs
 |_,_=>False
theorem jQ.app {NM:List Str}{KS:List (List RKey)}{cs:List Int}{M:Int}:∀ {hs gs:List Hn}{rs qs:List Rn},jQ NM KS cs M hs rs->jQ NM KS cs M gs qs->jQ NM KS cs M (hs++gs) (rs++qs)
 |[],_,[],_,_,h=>h
 |_ :: _,_,_ :: _,_,⟨a,b⟩,h=>⟨a,b.app h⟩
 |[],_,_ :: _,_,h,_=>absurd h id
 |_ :: _,_,[],_,h,_=>absurd h id
theorem jQ.split {NM:List Str}{KS:List (List RKey)}{cs:List Int}{M:Int}:∀ {gs:List Hn}{g:Hn}{rs:List Rn}{r:Rn},gs.length=rs.length->jQ NM KS cs M (gs++[g]) (rs++[r])->jQ NM KS cs M gs rs/\GdK NM KS cs M g.2.2.2 r
 |[],_,[],_,_,⟨a,_⟩=>⟨trivial,a⟩
 |_ :: _,_,_ :: _,_,l,⟨a,b⟩=>let ⟨c,d⟩:=jQ.split (qr l) b;⟨⟨a,c⟩,d⟩
 |[],_,_ :: _,_,l,_=>absurd l (by simp)
 |_ :: _,_,[],_,l,_=>absurd l (by simp)
theorem jQ.all {NM:List Str}{KS:List (List RKey)}{cs:List Int}{M:Int}{ks:List Str}:∀ {hs:List Hn}{rs:List Rn},hs.length=rs.length->(∀ h∈hs,h.2.2.2=ks)->(∀ r∈rs,GdK NM KS cs M ks r)->jQ NM KS cs M hs rs
 |[],[],_,_,_=>trivial
 |h :: hs,r :: rs,l,a,b=>⟨by rw [a h ah];exact b r ah,jQ.all (qr l) (fun x hx=>a x (ae _ hx)) fun x hx=>b x (ae _ hx)⟩
 |[],_ :: _,l,_,_=>absurd l (by simp)
 |_ :: _,[],l,_,_=>absurd l (by simp)
def wS (rns:List Rn):Nat:=(rns.map fun r=>wL r.rs).sum
theorem aI5 (a b:List Rn):wS (a++b)=wS a+wS b:=by unfold wS;rw [aq,mo]
theorem aH5 (r:Rn):wS [r]=wL r.rs:=by simp [wS]
theorem bC1 {NM:List Str}{KS:List (List RKey)}{cs:List Int}{M:Int}:∀ {hs:List Hn}{rs:List Rn},jQ NM KS cs M hs rs->rs.length<=wS rs
 |[],[],_=>bj _
 |h :: hs,r :: rs,⟨a,b⟩=>by
  have:=bC1 b;have:=(lgL r.rs a.g.ok).w1;show rs.length+1<=wS ([r]++rs);rw [aI5,aH5];omega
 |[],_ :: _,h=>absurd h id
 |_ :: _,[],h=>absurd h id
def mS (rns:List Rn):Nat:=(rns.map fun r=>11 ^ (bD r.rs)).sum
theorem aH7 (a b:List Rn):mS (a++b)=mS a+mS b:=by unfold mS;rw [aq,mo]
theorem aD5 (r:Rn):mS [r]=11 ^ bD r.rs:=by simp [mS]
theorem bS0 {n:Nat}:∀ {rns:List Rn},(∀ r∈rns,bD r.rs=n)->mS rns=rns.length * 11 ^ n
 |[],_=>by simp [mS]
 |r :: rs,h=>by
  have ih:=bS0 fun x hx=>h x (ae _ hx)
  show mS ([r]++rs)=(rs.length+1) * 11 ^ n;rw [aH7,aD5,ih,h r ah,qi];omega
theorem bK5 {rn r':Rn}{kids:List Rn}{n:Nat}(h:n+1<=bD rn.rs) (hk:∀ r∈kids,bD r.rs=n) (l:kids.length<=10):mS kids < mS [rn]:=by
 rw [bS0 hk,aD5];have p:0 < 11 ^ n:=sg (by decide);have:11 ^ (n+1)<=11 ^ bD rn.rs:=ip (by decide) h;rw [ni] at this;have:kids.length * 11 ^ n<=10 * 11 ^ n:=Nat.mul_le_mul_right _ l;omega
def lvS (cs:List Int) (rns:List Rn):List Lf:=rns.reverse.flatMap (Rn.lv cs)
theorem aN4 (cs:List Int) (a b:List Rn):lvS cs (a++b)=lvS cs b++lvS cs a:=by unfold lvS;rw [yr,yo]
theorem bK8 (cs:List Int) (r:Rn):lvS cs [r]=r.lv cs:=by simp [lvS]
structure pP (H:Hp) (KS:List (List RKey)) (cs:List Int) (l:List (List RKey×V)):Prop where
 nd:(l.map (·.1)).Nodup
 ks:∀ e∈l,e.1∈KS
 tb:∀ e∈l,∃ x T wss t us,e.1=eZ x T wss/\(T.one=true->wss.length=1)/\e.2= .ref t/\H t=some (.tup us)/\dO (nO H) us (tI cs T wss)
theorem pP.ts {H H':Hp}(s:TS H H') {KS:List (List RKey)}{cs:List Int}{l:List (List RKey×V)}(h:pP H KS cs l):pP H' KS cs l :=
 ⟨h.nd,h.ks,fun e he=>let ⟨x,T,wss,t,us,a,b,c,d,f⟩:=h.tb e he;⟨x,T,wss,t,us,a,b,c,s _ _ d,eW s f⟩⟩
theorem pP.len {H:Hp}{KS:List (List RKey)}{cs:List Int}{l:List (List RKey×V)}(h:pP H KS cs l):l.length<=KS.length:=by
 have:=gU h.nd (m:=KS) fun x hx=>by obtain ⟨e,he,rfl⟩:=cm.mp hx;exact h.ks e he
 rw [ac] at this;exact this
theorem aW5 {κ: Type} [DecidableEq κ] {l:List (κ×V)}{k:κ}{v:V}(h:dA l k=some v):(k,v)∈l:=by
 induction l with
 |nil=>cases h
 |cons e r ih =>
  by_cases c:e.1=k
  ·rw [bN c] at h
   cases h
   rw [<- c];exact ah
  ·rw [aO c] at h;exact ae _ (ih h)
theorem pP.get {H:Hp}{KS:List (List RKey)}{cs:List Int}{l:List (List RKey×V)}(h:pP H KS cs l) {x:Str}{T:dP}{wss:List (List Int)}{v:V}(o:T.one=true->wss.length=1) (e:dA l (eZ x T wss)=some v):∃ t us,v= .ref t/\H t=some (.tup us)/\dO (nO H) us (tI cs T wss):=by
 obtain ⟨x',T',wss',t,us,a,b,c,d,f⟩:=h.tb _ (aW5 e);obtain ⟨rfl,rfl⟩:=bD4 o b a;exact ⟨t,us,c,d,f⟩
theorem pP.put {H:Hp}{KS:List (List RKey)}{cs:List Int}{l:List (List RKey×V)}(h:pP H KS cs l) {x:Str}{T:dP}{wss:List (List Int)}{t:Addr}{us:List V}(o:T.one=true->wss.length=1) (hk:eZ x T wss∈KS) (e:dA l (eZ x T wss)=none) (ht:H t=some (.tup us)) (tw:dO (nO H) us (tI cs T wss)) :
  pP H KS cs (cM l (eZ x T wss) (.ref t))/\dA (cM l (eZ x T wss) (.ref t)) (eZ x T wss)=some (.ref t):=by
 have hn:eZ x T wss∉l.map (·.1):=fun z=>by
  obtain ⟨q,hq,eq⟩:=cm.mp z;have:∀ (m:List (List RKey×V)),q∈m->dA m (eZ x T wss)≠none:=by
   intro m
   induction m with
   |nil=>intro z;exact absurd z cz
   |cons a r ih =>
    intro z
    by_cases c:a.1=eZ x T wss
    ·rw [bN c];exact fun z=>nomatch z
    ·rw [aO c];rcases av.mp z with e | e
     ·rw [e] at eq;exact absurd eq c
     ·exact ih e
  exact this l hq e
 have ep:cM l (eZ x T wss) (.ref t)=l++[(eZ x T wss,.ref t)]:=by
  unfold cM;rw [aj (by rw [dJ,e];decide)]
 rw [ep];refine ⟨⟨?_,fun q hq=>?_,fun q hq=>?_⟩,?_⟩
 ·rw [aq];refine gy.mpr ⟨h.nd,by simp,fun a ha b hb eab=>hn ?_⟩;rw [zo] at hb;have hb:b=eZ x T wss:=au.mp hb;rw [<- hb, <- eab];exact ha
 ·rcases bf.mp hq with z | z
  ·exact h.ks q z
  ·rw [au.mp z];exact hk
 ·rcases bf.mp hq with z | z
  ·exact h.tb q z
  ·rw [au.mp z];exact ⟨x,T,wss,t,us,rfl,o,rfl,ht,tw⟩
 ·clear ep h
  induction l with
  |nil=>exact bN rfl
  |cons a r ih =>
   by_cases c:a.1=eZ x T wss
   ·exact absurd (by rw [<- c];exact ah) hn
   ·rw [List.cons_append,aO c];rw [aO c] at e;exact ih e fun z=>hn (ae _ z)
def e0:Ev:=fun _=>0
def aV6 (C:Addr):Sp:=fun vs H Q _=>∃ (pg pr c:Addr) (kv:V) (most:Int) (NM:List Str) (KS:List (List RKey)) (cs:List Int) (M:Int) (rs:List Rw),vs=[.ref pg,.ref c,.int most]/\30<=most/\most < 2 ^ 30 /\
 H pg=some (.tup [kv,.ref pr])/\H pr=some (.tup (bT rs))/\bY H rs/\cR H c cs/\NM.length<=100/\KS.length<=100/\GdK NM KS cs M [] ⟨rs,e0,[],(1,1)⟩/\1<=M/\M<=2 ^ 680/\wL rs<=30 /\
 ∀ H' l us,aU H H'->H' l=some (.lst us)->dO (EnA true H') us (LV cs rs e0 [] (1,1))->(LV cs rs e0 [] (1,1)).length<=30->(∀ e∈LV cs rs e0 [] (1,1),OvM M e.2)->Q (.ref l) H'
structure Wt (P:Program) (w:World) (C:Addr) (NM:List Str) (KS:List (List RKey)) (cs:List Int) (M:Int) (TOT:List Lf) (H G:Hp) (tb el wl:Addr) (E X:List Lf) (nX:Nat) (us:List V) (hs:List Hn) (rns:List Rn) (l:List (List RKey×V)):Prop where
 s:aU H G
 d:DN3 P w G tb l
 db:H tb=none
 dt:pP G KS cs l
 e:G el=some (.lst us)
 en:H el=none
 et:dO (EnA true G) us E
 w:G wl=some (.lst (cN hs))
 wn:H wl=none
 ne:el≠wl
 q:fA C NM G hs rns
 f:Frs H hs
 tl:∀ h∈hs,h.2.2.1≠el/\h.2.2.1≠wl
 g:jQ NM KS cs M hs rns
 t:TOT=E++(X++lvS cs rns)
 n:E.length+(nX+wS rns)<=30
 ov:∀ e∈E,OvM M e.2
structure Cur (H:Hp) (el wl:Addr) (gs:List Hn) (g:Hn):Prop where
 x:g.1∉gs.map (·.1)
 k:g.2.1∉gs.map (·.2.1)
 t:g.2.2.1∉gs.map (·.2.2.1)
 f:H g.1=none/\H g.2.1=none/\H g.2.2.1=none
 ne:g.2.2.1≠el/\g.2.2.1≠wl
section
variable {P:Program}{w:World}{C:Addr}{NM:List Str}{KS:List (List RKey)}{cs:List Int}{M:Int}{TOT:List Lf}{H G G':Hp}{tb el wl:Addr}{E X:List Lf}{nX:Nat}{us:List V}{hs gs:List Hn}{rns:List Rn}{l:List (List RKey×V)}{g:Hn}{r:Rn}
theorem Wt.keep (h:Wt P w C NM KS cs M TOT H G tb el wl E X nX us hs rns l) (s:aU H G') (t:TS G G') (ed:∀ o,G tb=some o->G' tb=some o) (ee:G' el=G el) (ew:G' wl=G wl) (eq:∀ h∈hs,G' h.1=G h.1/\G' h.2.1=G h.2.1/\G' h.2.2.1=G h.2.2.1):Wt P w C NM KS cs M TOT H G' tb el wl E X nX us hs rns l :=
 ⟨s,h.d.keep t ed,h.db,h.dt.ts t,ee.trans h.e,h.en,h.et.mono fun _ _ z=>z.ts t,ew.trans h.w,h.wn,h.ne,h.q.mono fun x hx _ z=>kB.ts z t (eq x hx).1 (eq x hx).2.1 (eq x hx).2.2,h.f,h.tl,h.g,h.t,h.n,h.ov⟩
theorem Wt.same (h:Wt P w C NM KS cs M TOT H G tb el wl E X nX us hs rns l) (s:aU G G'):Wt P w C NM KS cs M TOT H G' tb el wl E X nX us hs rns l :=
 h.keep (h.s.trans s) (.of s) (fun o e=>s _ _ e) ((s _ _ h.e).trans h.e.symm) ((s _ _ h.w).trans h.w.symm) fun x hx=>by
  obtain ⟨⟨_,_,q1⟩,⟨_,q2⟩,_,q3⟩:=h.q.there x hx;exact ⟨(s _ _ q1).trans q1.symm,(s _ _ q2).trans q2.symm,(s _ _ q3).trans q3.symm⟩
theorem bC {a b:Addr}{o o':HO}(ha:G a=some o) (hb:G b=some o') (h:o≠o'):a≠b:=fun z=>h (by rw [z,hb] at ha;exact (cx ha).symm)
theorem Wt.off (h:Wt P w C NM KS cs M TOT H G tb el wl E X nX us gs rns l) (c:Cur H el wl gs g) (hr:RnQ C NM G g r) (o:cU [g.1,g.2.1,g.2.2.1] G G'):Wt P w C NM KS cs M TOT H G' tb el wl E X nX us gs rns l:=by
 obtain ⟨dx,cv,sp,hx,_⟩:=hr.ex;have hk:=hr.kn;have ht:=hr.tl;have out:∀ a o,G a=some o->a≠g.1->a≠g.2.1->a≠g.2.2.1->G' a=some o:=fun a o' e n1 n2 n3=>o a o' e (by simp only [List.mem_cons,List.not_mem_nil,or_false];exact fun z=>z.elim n1 fun z=>z.elim n2 n3)
 have s:aU H G':=fun a o' e=>out a o' (h.s _ _ e) (fun z=>by rw [z,c.f.1] at e;cases e) (fun z=>by rw [z,c.f.2.1] at e;cases e) (fun z=>by rw [z,c.f.2.2] at e;cases e)
 have t:TS G G':=fun a ys e=>out a _ e (bC e hx (by intro z;cases z)) (bC e hk (by intro z;cases z)) (bC e ht (by intro z;cases z))
 have sb:∀ {a o'},G a=some o'->a≠g.1->a≠g.2.1->a≠g.2.2.1->G' a=G a:=fun e n1 n2 n3=>(out _ _ e n1 n2 n3).trans e.symm
 obtain ⟨φ,ed⟩:=h.d.ext;refine h.keep s t (fun o' e=>out tb o' e ?_ ?_ ?_) (sb h.e (bC h.e hx (by intro z;cases z)) (bC h.e hk (by intro z;cases z)) c.ne.1.symm) (sb h.w (bC h.w hx (by intro z;cases z)) (bC h.w hk (by intro z;cases z)) c.ne.2.symm) fun x hx'=>?_
 ·exact bC ed hx (by intro z;cases z)
 ·exact bC ed hk (by intro z;cases z)
 ·exact bC ed ht (by intro z;cases z)
 obtain ⟨⟨_,_,q1⟩,⟨_,q2⟩,_,q3⟩:=h.q.there x hx';have m1:x.1≠g.1:=fun z=>c.x (by rw [<- z];exact cm.mpr ⟨x,hx',rfl⟩)
 have m2:x.2.1≠g.2.1:=fun z=>c.k (by rw [<- z];exact cm.mpr ⟨x,hx',rfl⟩)
 have m3:x.2.2.1≠g.2.2.1:=fun z=>c.t (by rw [<- z];exact cm.mpr ⟨x,hx',rfl⟩)
 exact ⟨sb q1 m1 (bC q1 hk (by intro z;cases z)) (bC q1 ht (by intro z;cases z)),sb q2 (bC q2 hx (by intro z;cases z)) m2 (bC q2 ht (by intro z;cases z)),sb q3 (bC q3 hx (by intro z;cases z)) (bC q3 hk (by intro z;cases z)) m3⟩
theorem Wt.pop (h:Wt P w C NM KS cs M TOT H G tb el wl E [] 0 us (gs++[g]) (rns++[r]) l) :
  Wt P w C NM KS cs M TOT H (aM G wl (.lst (cN gs))) tb el wl E (r.lv cs) (wL r.rs) us gs rns l/\RnQ C NM (aM G wl (.lst (cN gs))) g r/\Cur H el wl gs g/\GdK NM KS cs M g.2.2.2 r:=by
 obtain ⟨gs',g',e1,q1,q2⟩:=fA.split h.q;obtain ⟨rfl,e2⟩:=List.append_inj' e1 rfl;obtain rfl:g=g':=by injection e2
 obtain ⟨g1,g2⟩:=jQ.split q1.length h.g;have t:TS G (aM G wl (.lst (cN gs))):=TS.lst h.w;have nw:∀ a,a≠wl->aM G wl (.lst (cN gs)) a=G a:=fun a n=>aG n
 have hn:=h.t;have nn:=h.n;rw [aN4,bK8,List.nil_append] at hn;rw [aI5,aH5] at nn;obtain ⟨dx,cv,sp,hx,_⟩:=q2.ex;obtain ⟨φ,ed⟩:=h.d.ext;have mem:∀ x∈gs,x∈gs++[g]:=fun x hx=>dj _ hx
 have ng:g∈gs++[g]:=bh _ ah;have nd:∀ (f:Hn->Addr),((gs++[g]).map f).Nodup->(gs.map f).Nodup/\f g∉gs.map f:=fun f n=>by
  rw [aq] at n;obtain ⟨a,_,c⟩:=gy.mp n;exact ⟨a,fun z=>c _ z _ (by simp) rfl⟩
 refine ⟨⟨dF h.s h.wn,h.d.keep t fun o e=>by rw [nw tb (bC ed h.w (by intro z;cases z))];exact e,h.db,h.dt.ts t,(nw el h.ne).trans h.e,h.en,h.et.mono fun _ _ z=>z.ts t,aD,h.wn,h.ne,q1.mono fun x hx' r' z=>?_,⟨(nd _ h.f.x).1,(nd _ h.f.k).1,(nd _ h.f.t).1,fun x hx'=>h.f.n x (mem x hx')⟩,fun x hx'=>h.tl x (mem x hx'),g1,hn,by omega,h.ov⟩,?_,⟨(nd _ h.f.x).2,(nd _ h.f.k).2,(nd _ h.f.t).2,h.f.n g ng,h.tl g ng⟩,g2⟩
 ·obtain ⟨_,_,_,p1,_⟩:=z.ex;exact kB.ts z t (nw _ (bC p1 h.w (by intro z;cases z))) (nw _ (bC z.kn h.w (by intro z;cases z))) (nw _ (h.tl x (mem x hx')).2)
 ·exact kB.ts q2 t (nw _ (bC hx h.w (by intro z;cases z))) (nw _ (bC q2.kn h.w (by intro z;cases z))) (nw _ (h.tl g ng).2)
end
theorem at1 {v u:V}{r:List V}:mH (v :: u :: r) 1=some u:=by
 unfold mH ixN;rw [ao (by decide),ao (by simp only [List.length_cons];omega)];rfl
section
variable {P:Program}{w:World}{C:Addr}{NM:List Str}{KS:List (List RKey)}{cs:List Int}{M:Int}{TOT:List Lf}{H G G':Hp}{tb el wl:Addr}{E X:List Lf}{nX:Nat}{us:List V}{hs gs:List Hn}{rns:List Rn}{l:List (List RKey×V)}{g:Hn}{r:Rn}
theorem Wt.fin {v:V}{lf:Lf}(h:Wt P w C NM KS cs M TOT H G tb el wl E [lf] nX us gs rns l) (n1:1<=nX) (hv:EnA true G v lf) (ho:OvM M lf.2):Wt P w C NM KS cs M TOT H (aM G el (.lst (us++[v]))) tb el wl (E++[lf]) [] 0 (us++[v]) gs rns l:=by
 have t:TS G (aM G el (.lst (us++[v]))):=TS.lst h.e;have nw:∀ a,a≠el->aM G el (.lst (us++[v])) a=G a:=fun a n=>aG n
 obtain ⟨φ,ed⟩:=h.d.ext;have nn:=h.n;refine ⟨dF h.s h.en,h.d.keep t fun o e=>by rw [nw tb (bC ed h.e (by intro z;cases z))];exact e,h.db,h.dt.ts t,aD,h.en,dO.append (h.et.mono fun _ _ z=>z.ts t) ⟨hv.ts t,trivial⟩,(nw wl h.ne.symm).trans h.w,h.wn,h.ne,h.q.mono fun x hx' r' z=>?_,h.f,h.tl,h.g,?_,?_,fun e he=>?_⟩
 ·obtain ⟨_,_,_,p1,_⟩:=z.ex;exact kB.ts z t (nw _ (bC p1 h.e (by intro z;cases z))) (nw _ (bC z.kn h.e (by intro z;cases z))) (nw _ (h.tl x hx').1)
 ·rw [h.t,jr];rfl
 ·rw [be,ku];omega
 ·rcases bf.mp he with z | z
  ·exact h.ov e z
  ·rw [au.mp z];exact ho
theorem Wt.push {G0:Hp}{ks:List Hn}{krs:List Rn}(h:Wt P w C NM KS cs M TOT H G tb el wl E X nX us gs rns l) (s0:aU H G0) (he:∃ o,G0 el=some o) (hw:∃ o,G0 wl=some o) (hg:∀ x∈gs,(∃ o,G0 x.1=some o)/\(∃ o,G0 x.2.1=some o)/\∃ o,G0 x.2.2.1=some o)
  (q:fA C NM G ks krs) (fr:Frs G0 ks) (gd:jQ NM KS cs M ks krs) (eX:X=lvS cs krs) (en:wS krs<=nX):Wt P w C NM KS cs M TOT H (aM G wl (.lst (cN gs++cN ks))) tb el wl E [] 0 us (gs++ks) (rns++krs) l:=by
 have t:TS G (aM G wl (.lst (cN gs++cN ks))):=TS.lst h.w;have nw:∀ a,a≠wl->aM G wl (.lst (cN gs++cN ks)) a=G a:=fun a n=>aG n
 obtain ⟨φ,ed⟩:=h.d.ext;have nn:=h.n;have tlk:∀ x∈ks,x.2.2.1≠el/\x.2.2.1≠wl:=fun x hx=>by
  obtain ⟨_,_,n3⟩:=fr.n x hx;obtain ⟨o,eo⟩:=he;obtain ⟨o',eo'⟩:=hw;exact ⟨fun z=>(by rw [z,eo] at n3;cases n3),fun z=>(by rw [z,eo'] at n3;cases n3)⟩
 have two:∀ {hs':List Hn}{rs':List Rn},fA C NM G hs' rs'->(∀ x∈hs',x.2.2.1≠wl)->fA C NM (aM G wl (.lst (cN gs++cN ks))) hs' rs':=fun q' n'=>q'.mono fun x hx' r' z=>by
  obtain ⟨_,_,_,p1,_⟩:=z.ex;exact kB.ts z t (nw _ (bC p1 h.w (by intro z;cases z))) (nw _ (bC z.kn h.w (by intro z;cases z))) (nw _ (n' x hx'))
 have nd:∀ (f:Hn->Addr),(gs.map f).Nodup->(ks.map f).Nodup->(∀ x∈gs,∃ o,G0 (f x)=some o)->(∀ x∈ks,G0 (f x)=none)->((gs++ks).map f).Nodup:=fun f n1 n2 h1 h2=>by
  rw [aq];refine gy.mpr ⟨n1,n2,fun a ha b hb e=>?_⟩;obtain ⟨x,hx,rfl⟩:=cm.mp ha;obtain ⟨y,hy,rfl⟩:=cm.mp hb;obtain ⟨o,eo⟩:=h1 x hx;rw [e,h2 y hy] at eo
  cases eo
 refine ⟨dF h.s h.wn,h.d.keep t fun o e=>by rw [nw tb (bC ed h.w (by intro z;cases z))];exact e,h.db,h.dt.ts t,(nw el h.ne).trans h.e,h.en,h.et.mono fun _ _ z=>z.ts t,by rw [aD];unfold cN;rw [aq],h.wn,h.ne,fA.app (two h.q fun x hx=>(h.tl x hx).2) (two q fun x hx=>(tlk x hx).2),
  ⟨nd _ h.f.x fr.x (fun x hx=>(hg x hx).1) fun x hx=>(fr.n x hx).1,nd _ h.f.k fr.k (fun x hx=>(hg x hx).2.1) fun x hx=>(fr.n x hx).2.1,nd _ h.f.t fr.t (fun x hx=>(hg x hx).2.2) fun x hx=>(fr.n x hx).2.2,fun x hx=>?_⟩,fun x hx=>?_,jQ.app h.g gd,?_,?_,h.ov⟩
 ·rcases bf.mp hx with z | z
  ·exact h.f.n x z
  ·obtain ⟨a,b,c⟩:=fr.n x z;exact ⟨s0.free a,s0.free b,s0.free c⟩
 ·rcases bf.mp hx with z | z
  ·exact h.tl x z
  ·exact tlk x z
 ·rw [aN4,h.t,eX];rfl
 ·rw [aI5];omega
theorem Wt.put {G':Hp}{l':List (List RKey×V)}(h:Wt P w C NM KS cs M TOT H G tb el wl E X nX us gs rns l) (d:DN3 P w G' tb l') (o:∀ c,c≠tb->G' c=G c) (dt:pP G KS cs l'):Wt P w C NM KS cs M TOT H G' tb el wl E X nX us gs rns l'/\TS G G':=by
 obtain ⟨φ,ed⟩:=h.d.ext;have t:TS G G':=fun a ys e=>by rw [o a (bC e ed (by intro z;cases z))];exact e
 have s:aU H G':=fun a o' e=>by rw [o a fun z=>by rw [z,h.db] at e;cases e];exact h.s _ _ e
 refine ⟨⟨s,d,h.db,dt.ts t,(o el (bC h.e ed (by intro z;cases z))).trans h.e,h.en,h.et.mono fun _ _ z=>z.ts t,(o wl (bC h.w ed (by intro z;cases z))).trans h.w,h.wn,h.ne,h.q.mono fun x hx' r' z=>?_,h.f,h.tl,h.g,h.t,h.n,h.ov⟩,t⟩;obtain ⟨_,_,_,p1,_⟩:=z.ex;exact kB.ts z t (o _ (bC p1 ed (by intro z;cases z))) (o _ (bC z.kn ed (by intro z;cases z))) (o _ (bC z.tl ed (by intro z;cases z)))
end
structure zZ (NM:List Str) (KS:List (List RKey)) (H:Hp) (pg c:Addr) (cs:List Int) (M:Int) (rs:List Rw):Prop where
 at':∃ kv pr,H pg=some (.tup [kv,.ref pr])/\H pr=some (.tup (bT rs))
 rw:bY H rs
 c:cR H c cs
 nm:NM.length<=100
 ks:KS.length<=100
 g:GdK NM KS cs M [] ⟨rs,e0,[],(1,1)⟩
 m1:1<=M
 m2:M<=2 ^ 680
 w:wL rs<=30
def spRunsOf:Sp:=fun vs H Q _=>∃ (pg c:Addr) (most:Int) (NM:List Str) (KS:List (List RKey)) (cs:List Int) (M:Int) (rs:List Rw),vs=[.ref pg,.ref c,.int most]/\30<=most/\most < 2 ^ 30/\zZ NM KS H pg c cs M rs/\∀ H',aU H H'->Q (.int (LV cs rs e0 [] (1,1)).length) H'
def spTold:Sp:=fun vs H Q _=>∃ (pg c:Addr) (most:Int) (NM:List Str) (KS:List (List RKey)) (cs:List Int) (M:Int) (rs:List Rw),vs=[.ref pg,.ref c,.int most]/\30<=most/\most < 2 ^ 30/\zZ NM KS H pg c cs M rs /\
 ∀ H' t ks,aU H H'->aO0 true H' t (lR (oQ (LV cs rs e0 [] (1,1))) ks)->Ups ks->(∀ k,k∈ks↔∃ u,oQ (LV cs rs e0 [] (1,1)) k=some u/\u≠(0,1))->Q (.ref t) H'
structure gM (H:Hp) (p l:Addr) (sd n:Int) (ls:List Int):Prop where
 pc:H p=some (.lst [.int sd,.int n,.ref l])
 lc:H l=some (.lst (ls.map V.int))
 ne:p≠l
 s0:0<=sd
 s1:sd < 2147483647
 n0:0<=n
 l0:∀ x∈ls,0<=x
def iM (H:Hp) (p l:Addr):Prop:=∃ sd n ls,gM H p l sd n ls
theorem gM.seed {H:Hp}{p l:Addr}{sd n:Int}{ls:List Int}(D:gM H p l sd n ls) {v:Int}(h0:0<=v) (h1:v < 2147483647):gM (aM H p (.lst [.int v,.int n,.ref l])) p l v n ls :=
 ⟨aD,by rw [aG D.ne.symm];exact D.lc,D.ne,h0,h1,D.n0,D.l0⟩
theorem gM.number {H:Hp}{p l:Addr}{sd n:Int}{ls:List Int}(D:gM H p l sd n ls) {v:Int}(h0:0<=v):gM (aM H p (.lst [.int sd,.int v,.ref l])) p l sd v ls :=
 ⟨aD,by rw [aG D.ne.symm];exact D.lc,D.ne,D.s0,D.s1,h0,D.l0⟩
theorem gM.left {H:Hp}{p l:Addr}{sd n:Int}{ls ls':List Int}(D:gM H p l sd n ls) (h:∀ x∈ls',0<=x):gM (aM H l (.lst (ls'.map V.int))) p l sd n ls' :=
 ⟨by rw [aG D.ne];exact D.pc,aD,D.ne,D.s0,D.s1,D.n0,h⟩
theorem gM.out {H H':Hp}{p l:Addr}{sd n:Int}{ls:List Int}(D:gM H p l sd n ls) (s:aU H H'):gM H' p l sd n ls:=⟨s _ _ D.pc,s _ _ D.lc,D.ne,D.s0,D.s1,D.n0,D.l0⟩
theorem iM.same {H H':Hp}{p l:Addr}(D:iM H p l) (s:aU H H'):iM H' p l:=by obtain ⟨sd,n,ls,q⟩:=D;exact ⟨sd,n,ls,q.out s⟩
theorem iM.ts {H H':Hp}{p l:Addr}(D:iM H p l) (o:Out p l H H'):TS H H':=fun a xs e=>by
 obtain ⟨sd,n,ls,q⟩:=D;exact o a _ e (fW e q.pc (by intro z;cases z)) (fW e q.lc (by intro z;cases z))
theorem eM {H:Hp}{p l r:Addr}(D:iM H p l) (h:H r=none):r≠p/\r≠l:=by
 obtain ⟨sd,n,ls,q⟩:=D;exact ⟨(aN q.pc h).symm,(aN q.lc h).symm⟩
theorem pQ {H:Hp}{p l a:Addr}{ys:List V}(D:iM H p l) (n1:a≠p) (n2:a≠l):iM (aM H a (.lst ys)) p l:=by
 obtain ⟨sd,n,ls,q⟩:=D;exact ⟨sd,n,ls,(aG n1.symm).trans q.pc,(aG n2.symm).trans q.lc,q.ne,q.s0,q.s1,q.n0,q.l0⟩
theorem dR {H H':Hp}{p l a:Addr}{o:HO}(h:H a=some o) (n1:a≠p) (n2:a≠l) (u:Out p l H H'):H' a=some o:=u a o h n1 n2
theorem oH {H H2:Hp}{p l a:Addr}(D2:iM H2 p l) (o:Out p l H H2) (h:H2 a=none):H a=none:=by
 obtain ⟨n1,n2⟩:=eM D2 h
 cases e:H a with
 |none=>rfl
 |some u=>rw [o a u e n1 n2] at h;cases h
def spDrawP:Sp:=fun vs H Q _=>∃ (p l:Addr) (m:Int),vs=[.ref p,.int m]/\iM H p l/\0 < m/\m < 2 ^ 64 /\
 ∀ (r:Int) (H':Hp),0<=r->r < m->iM H' p l->Out p l H H'->Q (.int r) H'
def spSumP:Sp:=fun vs H Q _=>∃ p l k,vs=[.ref p,.int k]/\iM H p l/\1<=k/\k<=3/\∀ r ws H',cR H' r ws->ws.length=k.toNat->(∀ x∈ws,0<=x/\x<=3)->iM H' p l->Out p l H H'->Q (.ref r) H'
theorem cI4 {r:Int}(h0:0<=r) (h1:r < 3):∃ v:Int,mH [V.int 2,V.int 2,V.int 4] r=some (.int v)/\2<=v/\v<=4:=by
 have:r=0\/r=1\/r=2:=by omega
 rcases this with rfl | rfl | rfl
 ·exact ⟨2,rfl,by decide,by decide⟩
 ·exact ⟨2,rfl,by decide,by decide⟩
 ·exact ⟨4,rfl,by decide,by decide⟩
def spSteepP:Sp:=fun vs H Q _=>∃ (p l:Addr) (t:Int),vs=[.ref p,.int t]/\iM H p l/\∀ (r:Addr) (a b:Int) (H':Hp),aY H' r a b->bP a b->(t=2->2 * a<=b)->iM H' p l->Out p l H H'->Q (.ref r) H'
theorem aR5 {a b k:Int}(k2:2<=k) (ha:a % k=0) (hb:b % k=0) (h:bP a b):bP (a / k) (b / k)/\a / k < a/\(2 * a<=b->2 * (a / k)<=b / k):=by
 have ea:=wz a k;have eb:=wz b k;rw [ha,zg] at ea;rw [hb,zg] at eb;generalize a / k=x at ea ⊢;generalize b / k=y at eb ⊢;have h1:=h.p1;have h2:=h.pq;have h3:=h.q9;rw [<- ea] at h1 h2;rw [<- eb] at h2 h3;have kp:0 < k:=by omega
 have x1:0 < x:=Int.pos_of_mul_pos_right (a:=k) (by omega) kp |> fun z=>z
 have xy:x < y:=Int.lt_of_mul_lt_mul_left h2 (by omega);have yk:2 * y<=k * y:=di k2 (by omega);have xk:2 * x<=k * x:=di k2 (by omega);refine ⟨⟨by omega,xy,by omega⟩,by rw [<- ea];omega,fun z=>?_⟩;rw [<- ea, <- eb] at z;have z:k * (2 * x)<=k * y:=by rw [Int.mul_left_comm];exact z
 exact Int.le_of_mul_le_mul_left z kp
def spAgain:Sp:=fun vs H Q _=>∃ (a:Nat) (n:Nat),vs=[.int a,.int n]/\a<=40/\n<=40/\∀ H',aU H H'->Q (.int ((a ^ n:Nat):Int)) H'
def gX (kn rw ag rn hg:Int) (nl:Addr):List (Key×V):=[(.inr "kinds",.int kn),(.inr "rows",.int rw),(.inr "again",.int ag),(.inr "runs",.int rn),(.inr "high",.int hg),(.inr "names",.ref nl)]
section
variable {kn rw ag rn hg:Int}{nl:Addr}
theorem cB5:¬ ((Sum.inr "kinds": Key)=(Sum.inr "rows": Key)):=fun z=>absurd (de z) (by decide +kernel)
theorem bX3:¬ ((Sum.inr "kinds": Key)=(Sum.inr "again": Key)):=fun z=>absurd (de z) (by decide +kernel)
theorem bU7:¬ ((Sum.inr "kinds": Key)=(Sum.inr "runs": Key)):=fun z=>absurd (de z) (by decide +kernel)
theorem cI8:¬ ((Sum.inr "kinds": Key)=(Sum.inr "high": Key)):=fun z=>absurd (de z) (by decide +kernel)
theorem cK3:¬ ((Sum.inr "kinds": Key)=(Sum.inr "names": Key)):=fun z=>absurd (de z) (by decide +kernel)
theorem bH7:¬ ((Sum.inr "rows": Key)=(Sum.inr "again": Key)):=fun z=>absurd (de z) (by decide +kernel)
theorem bN2:¬ ((Sum.inr "rows": Key)=(Sum.inr "runs": Key)):=fun z=>absurd (de z) (by decide +kernel)
theorem bX4:¬ ((Sum.inr "rows": Key)=(Sum.inr "high": Key)):=fun z=>absurd (de z) (by decide +kernel)
theorem cC3:¬ ((Sum.inr "rows": Key)=(Sum.inr "names": Key)):=fun z=>absurd (de z) (by decide +kernel)
theorem bL8:¬ ((Sum.inr "again": Key)=(Sum.inr "runs": Key)):=fun z=>absurd (de z) (by decide +kernel)
theorem bT3:¬ ((Sum.inr "again": Key)=(Sum.inr "high": Key)):=fun z=>absurd (de z) (by decide +kernel)
theorem bT1:¬ ((Sum.inr "again": Key)=(Sum.inr "names": Key)):=fun z=>absurd (de z) (by decide +kernel)
theorem bY0:¬ ((Sum.inr "runs": Key)=(Sum.inr "high": Key)):=fun z=>absurd (de z) (by decide +kernel)
theorem bV8:¬ ((Sum.inr "runs": Key)=(Sum.inr "names": Key)):=fun z=>absurd (de z) (by decide +kernel)
theorem cD6:¬ ((Sum.inr "high": Key)=(Sum.inr "names": Key)):=fun z=>absurd (de z) (by decide +kernel)
theorem aX0:dA (gX kn rw ag rn hg nl) (Sum.inr "kinds": Key)=some (.int kn):=by
 unfold gX;rw [bN rfl]
theorem aN0:dA (gX kn rw ag rn hg nl) (Sum.inr "rows": Key)=some (.int rw):=by
 unfold gX;rw [aO cB5,bN rfl]
theorem rR:dA (gX kn rw ag rn hg nl) (Sum.inr "again": Key)=some (.int ag):=by
 unfold gX;rw [aO bX3,aO bH7,bN rfl]
theorem wA:dA (gX kn rw ag rn hg nl) (Sum.inr "runs": Key)=some (.int rn):=by
 unfold gX;rw [aO bU7,aO bN2,aO bL8,bN rfl]
theorem aM4:dA (gX kn rw ag rn hg nl) (Sum.inr "high": Key)=some (.int hg):=by
 unfold gX;rw [aO cI8,aO bX4,aO bT3,aO bY0,bN rfl]
theorem bF3:dA (gX kn rw ag rn hg nl) (Sum.inr "names": Key)=some (.ref nl):=by
 unfold gX;rw [aO cK3,aO cC3,aO bT1,aO bV8,aO cD6,bN rfl]
theorem bI8 {y:Int}:cM (gX kn rw ag rn hg nl) (Sum.inr "rows": Key) (.int y)=gX kn y ag rn hg nl:=by
 unfold cM;rw [ao (by rw [dJ,aN0];rfl)];unfold gX;simp only [List.map_cons,List.map_nil];rw [aj cB5,ao trivial,aj (fun z=>bH7 z.symm),aj (fun z=>bN2 z.symm),aj (fun z=>bX4 z.symm),aj (fun z=>cC3 z.symm)]
theorem aW2 {y:Int}:cM (gX kn rw ag rn hg nl) (Sum.inr "again": Key) (.int y)=gX kn rw y rn hg nl:=by
 unfold cM;rw [ao (by rw [dJ,rR];rfl)];unfold gX;simp only [List.map_cons,List.map_nil];rw [aj bX3,aj bH7,ao trivial,aj (fun z=>bL8 z.symm),aj (fun z=>bT3 z.symm),aj (fun z=>bT1 z.symm)]
theorem bJ1 {y:Int}:cM (gX kn rw ag rn hg nl) (Sum.inr "runs": Key) (.int y)=gX kn rw ag y hg nl:=by
 unfold cM;rw [ao (by rw [dJ,wA];rfl)];unfold gX;simp only [List.map_cons,List.map_nil];rw [aj bU7,aj bN2,aj bL8,ao trivial,aj (fun z=>bY0 z.symm),aj (fun z=>bV8 z.symm)]
end
def spFew:Sp:=fun vs H Q _=>∃ (sc nl:Addr) (kn rw rn hg:Int) (n:Nat),vs=[.ref sc]/\H sc=some (.dK (gX kn rw n rn hg nl))/\n<=27/\1<=rn/\rn<=30/\∀ (m:Nat) (H':Hp),aU H H'->1<=m->m<=6->((m ^ n:Nat):Int)<=rn->Q (.int m) H'
def spBnd:Sp:=fun vs H Q _=>∃ (p l sc nl:Addr) (kn rw ag rn m:Int),vs=[.ref p,.ref sc,.int m]/\iM H p l/\H sc=some (.dK (gX kn rw ag rn 9 nl))/\1<=m/\m<=1000/\∀ (r:Addr) (lo hi:Int) (H':Hp),aY H' r lo hi->0<=lo->hi<=9->hi=lo+(if 10 < m then 10 else m) - 1->iM H' p l->Out p l H H'->Q (.ref r) H'
def spCrowdP:Sp:=fun vs H Q _=>∃ p l k,vs=[.ref p,.int k]/\iM H p l/\1<=k/\k<=3/\∀ r cs H',cR H' r cs->cs.length=k.toNat->(∀ x∈cs,0<=x/\x<=1000000)->iM H' p l->Out p l H H'->Q (.ref r) H'
theorem cP4 {r:Int}(h0:0<=r) (h1:r < 3):∃ v:Int,mH [V.int 3,V.int 12,V.int 1000001] r=some (.int v)/\1<=v/\v<=1000001:=by
 have:r=0\/r=1\/r=2:=by omega
 rcases this with rfl | rfl | rfl
 ·exact ⟨3,rfl,by decide,by decide⟩
 ·exact ⟨12,rfl,by decide,by decide⟩
 ·exact ⟨1000001,rfl,by decide,by decide⟩
theorem Out.new {p l a:Addr}{H G:Hp}{o:HO}(u:Out p l H G) (h:H a=none):Out p l H (aM G a o):=fun b v e n1 n2=>by
 rw [aG (aN e h)];exact u b v e n1 n2
theorem mZ (w:Str) (xs:List Str):inV (.str w) (xs.map V.str)=decide (w∈xs):=by
 unfold inV;rw [List.any_map]
 induction xs with
 |nil=>rfl
 |cons x r ih =>
  rw [mh,ih];have e:(eqV (V.str x) (V.str w))=decide (x=w):=rfl;show (eqV (V.str x) (V.str w) || _)=_;rw [e]
  by_cases c:x=w
  ·simp [c]
  ·have c2:¬ w=x:=fun z=>c z.symm
   simp [c,c2]
theorem qB {xs:List Str}{i:Nat}{v:V}(h:(xs.map V.str)[i]?=some v):∃ x,v= .str x/\xs[i]?=some x:=by
 rw [cy] at h
 cases e:xs[i]? with
 |none=>rw [e] at h;cases h
 |some r=>rw [e] at h;exact ⟨r,(cx h).symm,rfl⟩
theorem oS {r x y z:Int}(h0:0<=r) (h1:r < 3):∃ w,mH [V.int x,V.int y,V.int z] r=some (.int w)/\(w=x\/w=y\/w=z):=by
 have:r=0\/r=1\/r=2:=by omega
 rcases this with rfl | rfl | rfl
 ·exact ⟨x,rfl,.inl rfl⟩
 ·exact ⟨y,rfl,.inr (.inl rfl)⟩
 ·exact ⟨z,rfl,.inr (.inr rfl)⟩
theorem bZ2 {r:Int}(h0:0<=r) (h1:r < 5):∃ c,mH ("+-*<=": Str).cps.toList r=some c/\(⟨#[c]⟩:Str)∈cB6:=by
 have:r=0\/r=1\/r=2\/r=3\/r=4:=by omega
 rcases this with rfl | rfl | rfl | rfl | rfl
 ·exact ⟨43,rfl,by decide +kernel⟩
 ·exact ⟨45,rfl,by decide +kernel⟩
 ·exact ⟨42,rfl,by decide +kernel⟩
 ·exact ⟨60,rfl,by decide +kernel⟩
 ·exact ⟨61,rfl,by decide +kernel⟩
theorem aI6 {α: Type}{xs:List α}{r:Int}(h0:0<=r) (h1:r < (xs.length:Int)):∃ v,xs[r.toNat]?=some v/\mH xs r=some v:=by
 have hk:r.toNat < xs.length:=by omega
 refine ⟨_,bw hk,?_⟩;have q:=wB (bw hk);rw [yn h0] at q;exact q
mutual
def rD:Rw->Nat
 |.when _ _ _ _ a b=>1+max (gY a) (gY b)
 |.times _ _ _ b=>1+gY b
 |.thr _ _ _ _ _=>0
 |.lt _ _ _=>0
 |.tell _ _=>0
def gY:List Rw->Nat
 |[]=>0
 |r :: rs=>max (rD r) (gY rs)
end
theorem xS:∀ (rs qs:List Rw),gY (rs++qs)=max (gY rs) (gY qs)
 |[],qs=>by simp [gY]
 |r :: rs,qs=>by simp only [List.cons_append,gY,xS rs qs];omega
structure jI (xs ns ns':List Str) (kn:Int) (rw rw' ag rn rn':Nat) (rs:List Rw) (told m:Nat):Prop where
 ok:∀ cs:List Int,(cs.length:Int)=kn->qG xs cs rs
 kn:knL rs ns
 out:jZ ns' (lU rs ns)
 tel:eG rs<=told
 key:(cC rs).length+rw'<=rw
 run:wL rs ^ ag * rn'<=rn
 up:jZ ns ns'
 dep:gY rs<=m
section
variable {xs ns ns1 ns2:List Str}{kn:Int}{rw rw1 rw2 ag rn rn1 rn2:Nat}{rs qs:List Rw}{t t' m:Nat}
theorem jI.nil:jI xs ns ns kn rw rw ag rn rn [] 0 m:=⟨fun _ _=>trivial,trivial,fun _ h=>h,ai _,by simp [cC],by simp [wL],fun _ h=>h,bj _⟩
theorem jI.app (a:jI xs ns ns1 kn rw rw1 ag rn rn1 rs t m) (b:jI xs ns1 ns2 kn rw1 rw2 ag rn1 rn2 qs t' m):jI xs ns ns2 kn rw rw2 ag rn rn2 (rs++qs) (t+t') m:=by
 refine ⟨fun cs h=>(a.ok cs h).app (b.ok cs h),nN a.kn (fG _ a.out b.kn),fun y hy=>?_,?_,?_,?_,fun y hy=>b.up y (a.up y hy),?_⟩
 ·rw [qL];exact iU _ a.out y (b.out y hy)
 ·rw [kG];have:=a.tel;have:=b.tel;omega
 ·rw [iR,be];have:=a.key;have:=b.key;omega
 ·rw [rO,Nat.mul_pow,yi];exact bv (gj (ai _) b.run) a.run
 ·rw [xS];exact Nat.max_le.mpr ⟨a.dep,b.dep⟩
theorem sH {r:Rw}:wL [r]=wR r:=by simp only [wL];omega
theorem jI.lt {p:Addr}{x:Str}{u:Tm}{ns':List Str}(ok:u.ok) (sz:u.size<=12) (nm:∀ y∈u.names,y∈ns) (hx:x∈xs) (h':jZ ns' (x :: ns)) (up:jZ ns ns') (hr:rw' + 1<=rw):jI xs ns ns' kn rw rw' ag rn rn [.lt p x u] 0 m :=
 ⟨fun _ _=>⟨⟨⟨ok,by omega⟩,hx⟩,trivial⟩,⟨nm,trivial⟩,h',by simp [eG,rW],by simp only [cC,uW,List.append_nil,List.length_nil];omega,by rw [sH];simp [wR],up,by simp [gY,rD]⟩
theorem jI.tell {p:Addr}{u:Tm}(ok:u.ok) (sz:u.size<=12) (nm:∀ y∈u.names,y∈ns):jI xs ns ns kn rw rw ag rn rn [.tell p u] 1 m :=
 ⟨fun _ _=>⟨⟨ok,by omega⟩,trivial⟩,⟨nm,trivial⟩,fun _ h=>h,by simp [eG,rW],by simp [cC,uW],by rw [sH];simp [wR],fun _ h=>h,by simp [gY,rD]⟩
theorem jI.thr {p:Addr}{x:Str}{T:dP}{a3:V}{wss:List (List Int)}{ns':List Str}(ok:T.Ok) (ak:∀ cs:List Int,(cs.length:Int)=kn->tE T wss cs) (hx:x∈xs) (h':jZ ns' (x :: ns)) (up:jZ ns ns') (hr:rw' + 1<=rw) (hw:szT T wss ^ ag * rn1<=rn):jI xs ns ns' kn rw rw' ag rn rn1 [.thr p x T a3 wss] 0 m :=
 ⟨fun cs h=>⟨⟨⟨ok,ak cs h⟩,hx⟩,trivial⟩,⟨trivial,trivial⟩,h',by simp [eG,rW],by simp only [cC,uW,List.append_nil,List.length_singleton];omega,by rw [sH];exact hw,up,by simp [gY,rD]⟩
theorem jI.when {p pa pb:Addr}{u:Tm}{a b:List Rw}{na nb ns':List Str}(ok:u.ok) (sz:u.size<=12) (nm:∀ y∈u.names,y∈ns) (da:jI xs ns na kn rw rw1 ag rn rn1 a t m) (db:jI xs ns nb kn rw1 rw2 ag rn1 rn2 b t m) (h':∀ y∈ns',y∈na/\y∈nb) (up:jZ ns ns'):jI xs ns ns' kn (rw+1) rw2 ag rn rn2 [.when p pa pb u a b] t (m+1):=by
 refine ⟨fun cs h=>⟨⟨⟨ok,by omega⟩,da.ok cs h,db.ok cs h⟩,trivial⟩,⟨⟨nm,da.kn,db.kn⟩,trivial⟩,fun y hy=>du.mpr ⟨da.out y (h' y hy).1,ap (db.out y (h' y hy).2)⟩,?_,?_,?_,up,?_⟩
 ·simp only [eG,rW];have:=da.tel;have:=db.tel;omega
 ·simp only [cC,uW,List.append_nil,List.length_append];have:=da.key;have:=db.key;omega
 ·rw [sH];show (wL a * wL b) ^ ag * rn2<=rn;rw [Nat.mul_pow,yi];exact bv (gj (ai _) db.run) da.run
 ·simp only [gY,rD];have:=da.dep;have:=db.dep;omega
theorem jI.times {p pb:Addr}{k:Nat}{b:List Rw}(k1:1<=k) (k3:k<=3) (d:jI xs ns ns1 kn rw rw1 (ag * k) rn rn1 b t m):jI xs ns ns1 kn (rw+1) rw1 ag rn rn1 [.times p pb k b] (k * t) (m+1):=by
 refine ⟨fun cs h=>⟨d.ok cs h,trivial⟩,⟨⟨⟨k1,by omega⟩,d.kn⟩,trivial⟩,d.out,?_,?_,?_,d.up,?_⟩
 ·simp only [eG,rW];exact gj (ai _) d.tel
 ·simp only [cC,uW,List.append_nil];have:=d.key;omega
 ·rw [sH];show (wL b ^ k) ^ ag * rn1<=rn;rw [<- Nat.pow_mul,uw k];exact d.run
 ·simp only [gY,rD];have:=d.dep;omega
theorem jI.less (d:jI xs ns ns1 kn rw rw1 ag rn rn1 rs t m) (h:t<=t'):jI xs ns ns1 kn rw rw1 ag rn rn1 rs t' m:=⟨d.ok,d.kn,d.out,bv d.tel h,d.key,d.run,d.up,d.dep⟩
end
structure Sc (H:Hp) (p l sc nl nh:Addr) (kn:Int) (rw ag rn:Nat) (xs ns:List Str):Prop where
 pot:iM H p l
 sc:H sc=some (.dK (gX kn rw ag rn 9 nl))
 nm:H nl=some (.lst (xs.map V.str))
 hn:H nh=some (.lst (ns.map V.str))
 n1:nl≠p
 n2:nl≠l
 n3:nh≠p
 n4:nh≠l
 n5:nh≠nl
 k1:1<=kn
 k3:kn<=3
 x3:xs.length=3
 r1:1<=rn
 r2:rn<=30
 a1:1<=ag
 a2:ag<=27
 w1:rw<=4
 nd:ns.Nodup
 sb:jZ ns xs
section
variable {H H':Hp}{p l sc nl nh:Addr}{kn:Int}{rw ag rn:Nat}{xs ns:List Str}
theorem Sc.ns3 (S:Sc H p l sc nl nh kn rw ag rn xs ns):ns.length<=3:=by have:=gU S.nd S.sb;have:=S.x3;omega
theorem Sc.scp (S:Sc H p l sc nl nh kn rw ag rn xs ns):sc≠p/\sc≠l:=by
 obtain ⟨a,b,c,q⟩:=S.pot;exact ⟨fW S.sc q.pc (by intro z;cases z),fW S.sc q.lc (by intro z;cases z)⟩
theorem Sc.scn (S:Sc H p l sc nl nh kn rw ag rn xs ns):sc≠nl/\sc≠nh:=⟨fW S.sc S.nm (by intro z;cases z),fW S.sc S.hn (by intro z;cases z)⟩
theorem Sc.out (S:Sc H p l sc nl nh kn rw ag rn xs ns) (P:iM H' p l) (o:Out p l H H'):Sc H' p l sc nl nh kn rw ag rn xs ns :=
 ⟨P,o _ _ S.sc S.scp.1 S.scp.2,o _ _ S.nm S.n1 S.n2,o _ _ S.hn S.n3 S.n4,S.n1,S.n2,S.n3,S.n4,S.n5,S.k1,S.k3,S.x3,S.r1,S.r2,S.a1,S.a2,S.w1,S.nd,S.sb⟩
theorem Sc.same (S:Sc H p l sc nl nh kn rw ag rn xs ns) (s:aU H H'):Sc H' p l sc nl nh kn rw ag rn xs ns:=S.out (S.pot.same s) (.of s)
theorem Sc.ts (S:Sc H p l sc nl nh kn rw ag rn xs ns) (o:cU [p,l,sc,nh] H H'):TS H H':=fun a ys e=>o a _ e fun z=>by
 obtain ⟨_,_,_,q⟩:=S.pot;simp only [List.mem_cons,List.not_mem_nil,or_false] at z;rcases z with z | z | z | z
 ·rw [z,q.pc] at e;cases e
 ·rw [z,q.lc] at e;cases e
 ·rw [z,S.sc] at e;cases e
 ·rw [z,S.hn] at e;cases e
theorem cU.out {sc nh:Addr}(o:Out p l H H'):cU [p,l,sc,nh] H H':=fun b u e n=>o b u e (fun z=>n (by simp [z])) fun z=>n (by simp [z])
theorem Sc.put (S:Sc H p l sc nl nh kn rw ag rn xs ns) {rw' ag' rn':Nat}(r1:1<=rn') (r2:rn'<=30) (a1:1<=ag') (a2:ag'<=27) (w1:rw'<=4):Sc (aM H sc (.dK (gX kn rw' ag' rn' 9 nl))) p l sc nl nh kn rw' ag' rn' xs ns/\cU [p,l,sc,nh] H (aM H sc (.dK (gX kn rw' ag' rn' 9 nl))):=by
 obtain ⟨a,b,c,q⟩:=S.pot;refine ⟨⟨⟨a,b,c,(aG S.scp.1.symm).trans q.pc,(aG S.scp.2.symm).trans q.lc,q.ne,q.s0,q.s1,q.n0,q.l0⟩,aD,(aG S.scn.1.symm).trans S.nm,(aG S.scn.2.symm).trans S.hn,S.n1,S.n2,S.n3,S.n4,S.n5,S.k1,S.k3,S.x3,r1,r2,a1,a2,w1,S.nd,S.sb⟩,cU.up (.refl _) (by simp)⟩
theorem Sc.names (S:Sc H p l sc nl nh kn rw ag rn xs ns) {ns':List Str}(nd:ns'.Nodup) (sb:jZ ns' xs):Sc (aM H nh (.lst (ns'.map V.str))) p l sc nl nh kn rw ag rn xs ns'/\cU [p,l,sc,nh] H (aM H nh (.lst (ns'.map V.str))) :=
 ⟨⟨pQ S.pot S.n3 S.n4,(aG S.scn.2).trans S.sc,(aG S.n5.symm).trans S.nm,aD,S.n1,S.n2,S.n3,S.n4,S.n5,S.k1,S.k3,S.x3,S.r1,S.r2,S.a1,S.a2,S.w1,nd,sb⟩,cU.up (.refl _) (by simp)⟩
theorem Sc.at (S:Sc H p l sc nl nh kn rw ag rn xs ns) {nh':Addr}{ns':List Str}(h:H nh'=some (.lst (ns'.map V.str))) (n3:nh'≠p) (n4:nh'≠l) (n5:nh'≠nl) (nd:ns'.Nodup) (sb:jZ ns' xs):Sc H p l sc nl nh' kn rw ag rn xs ns' :=
 ⟨S.pot,S.sc,S.nm,h,S.n1,S.n2,n3,n4,n5,S.k1,S.k3,S.x3,S.r1,S.r2,S.a1,S.a2,S.w1,nd,sb⟩
theorem Sc.keep (S:Sc H p l sc nl nh kn rw ag rn xs ns) (o:cU [p,l,sc,nh] H H') {a:Addr}{ys:List V}(h:H a=some (.lst ys)) (n1:a≠p) (n2:a≠l) (n3:a≠nh):H' a=some (.lst ys):=o a _ h fun z=>by
 simp only [List.mem_cons,List.not_mem_nil,or_false] at z;rcases z with z | z | z | z
 ·exact n1 z
 ·exact n2 z
 ·rw [z,S.sc] at h;cases h
 ·exact n3 z
theorem Sc.g_again (S:Sc H p l sc nl nh kn rw ag rn xs ns):fD H sc (.str "again") (some (.int ag)):=by rw [<- rR (kn:=kn) (rw:=rw) (ag:=ag) (rn:=rn) (hg:=9) (nl:=nl)];exact fD.k (k:=Sum.inr "again") S.sc
theorem Sc.g_runs (S:Sc H p l sc nl nh kn rw ag rn xs ns):fD H sc (.str "runs") (some (.int rn)):=by rw [<- wA (kn:=kn) (rw:=rw) (ag:=ag) (rn:=rn) (hg:=9) (nl:=nl)];exact fD.k (k:=Sum.inr "runs") S.sc
theorem Sc.g_rows (S:Sc H p l sc nl nh kn rw ag rn xs ns):fD H sc (.str "rows") (some (.int rw)):=by rw [<- aN0 (kn:=kn) (rw:=rw) (ag:=ag) (rn:=rn) (hg:=9) (nl:=nl)];exact fD.k (k:=Sum.inr "rows") S.sc
theorem Sc.g_high (S:Sc H p l sc nl nh kn rw ag rn xs ns):fD H sc (.str "high") (some (.int 9)):=by rw [<- aM4 (kn:=kn) (rw:=rw) (ag:=ag) (rn:=rn) (hg:=9) (nl:=nl)];exact fD.k (k:=Sum.inr "high") S.sc
theorem Sc.g_kinds (S:Sc H p l sc nl nh kn rw ag rn xs ns):fD H sc (.str "kinds") (some (.int kn)):=by rw [<- aX0 (kn:=kn) (rw:=rw) (ag:=ag) (rn:=rn) (hg:=9) (nl:=nl)];exact fD.k (k:=Sum.inr "kinds") S.sc
theorem Sc.g_names (S:Sc H p l sc nl nh kn rw ag rn xs ns):fD H sc (.str "names") (some (.ref nl)):=by rw [<- bF3 (kn:=kn) (rw:=rw) (ag:=ag) (rn:=rn) (hg:=9) (nl:=nl)];exact fD.k (k:=Sum.inr "names") S.sc
theorem Sc.p_rows (S:Sc H p l sc nl nh kn rw ag rn xs ns) {y:Int}:nA H sc (.str "rows") (.int y) (aM H sc (.dK (gX kn y ag rn 9 nl))):=by
 have:=nA.k (k:=Sum.inr "rows") (v:= .int y) S.sc (by show 6 < sizeLine;decide);rw [bI8] at this;exact this
theorem Sc.p_again (S:Sc H p l sc nl nh kn rw ag rn xs ns) {y:Int}:nA H sc (.str "again") (.int y) (aM H sc (.dK (gX kn rw y rn 9 nl))):=by
 have:=nA.k (k:=Sum.inr "again") (v:= .int y) S.sc (by show 6 < sizeLine;decide);rw [aW2] at this;exact this
theorem Sc.p_runs (S:Sc H p l sc nl nh kn rw ag rn xs ns) {y:Int}:nA H sc (.str "runs") (.int y) (aM H sc (.dK (gX kn rw ag y 9 nl))):=by
 have:=nA.k (k:=Sum.inr "runs") (v:= .int y) S.sc (by show 6 < sizeLine;decide);rw [bJ1] at this;exact this
end
def bA3 (K:W.Frag):Sp:=fun vs H Q _=>∃ (a:Addr) (ns:List Int),vs=[.ref a,.int 0]/\bM K H a (ns.map V.int)/\ns.length<=63/\∀ p l H',iM H' p l->aU H H'->Q (.ref p) H'
theorem aU5 (ns:List Int) (lo hi:Option Int):∃ ms:List Int,iT (ns.map V.int) lo hi=ms.map V.int/\ms.length<=ns.length:=by
 refine ⟨(ns.drop (HT.sIx ns.length 0 lo)).take (HT.sIx ns.length ns.length hi - HT.sIx ns.length 0 lo),?_,?_⟩
 ·unfold iT;rw [ac,yh,ye]
 ·rw [dk,jx];omega
def vJ:List Str:=["kind","ladders","flats","chose","firs","lets","tells","whens","ends","o","ofs","time"]
theorem bH6 {r:Int}(h0:0<=r) (h1:r < 12):∃ w:Str,mH (vJ.map V.str) r=some (.str w)/\w.length<=8:=by
 obtain ⟨v,hv,ha⟩:=aI6 (xs:=vJ.map V.str) h0 h1;obtain ⟨w,rfl,hw⟩:=qB hv;exact ⟨w,ha,(by decide +kernel:∀ w∈vJ,w.length<=8) w (br hw)⟩
theorem pC (a b:Str):(a++b).length=a.length+b.length:=by
 show (a.cps++b.cps).size=a.cps.size+b.cps.size;exact Array.size_append
def lzs:List Str:=["z","y","x"]
theorem bO3 {w:Str}{s:Nat}{ws:List Str}(s3:s<=3) (hs:jZ (lzs.take (s - 1)) ws) (hw:0 < s->w=lzs.getD (s - 1) "") (c:w∈ws) (l2:ws.length<=2):s<=2/\jZ (lzs.take (s+1 - 1)) ws:=by
 have key:jZ (lzs.take s) ws:=by
  have:s=0\/s=1\/s=2\/s=3:=by omega
  rcases this with rfl | rfl | rfl | rfl
  ·exact fun _ z=>nomatch z
  ·intro y hy;rw [au.mp (show y∈[("z": Str)] from hy)];rw [hw (by decide)] at c;exact c
  ·intro y hy;rcases av.mp (show y∈[("z": Str),"y"] from hy) with e | e
   ·rw [e];exact hs _ (show ("z": Str)∈[("z": Str)] from ah)
   ·rw [au.mp e];rw [hw (by decide)] at c;exact c
  ·intro y hy;rcases av.mp (show y∈[("z": Str),"y","x"] from hy) with e | e
   ·rw [e];exact hs _ (show ("z": Str)∈[("z": Str),"y"] from ah)
   ·rcases av.mp e with e | e
    ·rw [e];exact hs _ (show ("y": Str)∈[("z": Str),"y"] from ae _ ah)
    ·rw [au.mp e];rw [hw (by decide)] at c;exact c
 have nd:lzs.Nodup:=by decide +kernel
 have:=gU (nd.sublist (zr s lzs)) key;rw [dk] at this;have e3:lzs.length=3:=rfl;rw [e3] at this;exact ⟨by omega,key⟩
theorem cJ6 {s:Nat}(h:s<=2):∃ c,mH ("zyxwvutsrqponmlkjihgfedcba": Str).cps.toList ((s:Int) % 26)=some c/\(⟨#[c]⟩:Str)=lzs.getD s "":=by
 have:s=0\/s=1\/s=2:=by omega
 rcases this with rfl | rfl | rfl
 ·exact ⟨122,rfl,rfl⟩
 ·exact ⟨121,rfl,rfl⟩
 ·exact ⟨120,rfl,rfl⟩
def spNameP:Sp:=fun vs H Q _=>∃ p l,vs=[.ref p]/\iM H p l/\∀ (w:Str) (H':Hp),w.length<=20->iM H' p l->Out p l H H'->Q (.str w) H'
def spNamesP:Sp:=fun vs H Q _=>∃ (p l:Addr) (n:Int),vs=[.ref p,.int n]/\iM H p l/\1<=n/\n<=3/\∀ (r:Addr) (ws:List Str) (H':Hp),H r=none->H' r=some (.lst (ws.map V.str))->ws.length=n.toNat->iM H' p l->Out p l H H'->r≠p->r≠l->Q (.ref r) H'
def aY9:Nat->Sp
 |0=>fun _ _ _ _=>False
 |n+1=>fun vs H Q _=>∃ (p l nh:Addr) (ns:List Str) (room:Int),vs=[.ref p,.ref nh,.int room]/\iM H p l/\H nh=some (.lst (ns.map V.str))/\nh≠p/\nh≠l/\ns.length<=3/\1<=room/\room<=((n+1:Nat):Int)/\room<=12 /\
  ∀ (t:Tm) (H':Hp),iM H' p l->Out p l H H'->qP H' t->(∀ y∈t.names,y∈ns)->(t.size:Int)<=room->t.ok->Q (.ref t.p) H'
def spThrP:Sp:=fun vs H Q _=>∃ (p l sc nl nh:Addr) (kn:Int) (rw ag rn:Nat) (xs ns:List Str) (x:Str),vs=[.ref p,.ref sc,.str x]/\Sc H p l sc nl nh kn rw ag rn xs ns /\
 ∀ (pt:Addr) (T:dP) (a3:V) (wss:List (List Int)) (rn':Nat) (H':Hp),pL H' (.thr pt x T a3 wss)->T.Ok->(∀ cs:List Int,(cs.length:Int)=kn->tE T wss cs)->szT T wss ^ ag * rn'<=rn->Sc H' p l sc nl nh kn rw ag rn' xs ns->cU [p,l,sc,nh] H H'->Q (.ref pt) H'
def xE:Nat->Sp
 |0=>fun _ _ _ _=>False
 |m+1=>fun vs H Q _=>∃ (p l sc nl nh:Addr) (kn:Int) (rw ag rn left:Nat) (deep:Int) (xs ns:List Str),vs=[.ref p,.ref sc,.ref nh,.int left,.int deep]/\Sc H p l sc nl nh kn rw ag rn xs ns/\left<=3/\deep+(m:Int)=3/\ag * 3 ^ m<=27 /\
  ∀ (t:Addr) (rs:List Rw) (rw' rn':Nat) (ns':List Str) (H':Hp),H' t=some (.tup (bT rs))->rs.length<=9->bY H' rs->Sc H' p l sc nl nh kn rw' ag rn' xs ns'->jI xs ns ns' kn rw rw' ag rn rn' rs left m->cU [p,l,sc,nh] H H'->Q (.ref t) H'
def wI (b:Bool) (m:Nat):Sp:=fun vs H Q _=>∃ (p l sc nl nh:Addr) (kn:Int) (rw ag rn left:Nat) (deep:Int) (xs ns:List Str),vs=[.ref p,.ref sc,.ref nh,.int left,.int deep]/\Sc H p l sc nl nh kn rw ag rn xs ns/\left<=3/\deep+(m:Int)=3/\ag * 3 ^ m<=27/\(if b then 1<=rw/\1<=m else 0 < left\/0 < rw) /\
  ∀ (t:Addr) (r:Rw) (told rw' rn':Nat) (ns':List Str) (H':Hp),H' t=some (.tup [.ref r.p,.int told])->pL H' r->Sc H' p l sc nl nh kn rw' ag rn' xs ns'->jI xs ns ns' kn rw rw' ag rn rn' [r] told m->told<=left->rw' < rw+told->cU [p,l,sc,nh] H H'->Q (.ref t) H'
theorem qF {T:dP}{wss:List (List Int)}{kn:Int}(l1:1<=wss.length) (l4:wss.length<=4) (k3:kn<=3) (hw:∀ ws∈wss,ws.length=kn.toNat/\∀ x∈ws,0<=x/\x<=3) (o:T.one=true->wss.length=1):∀ cs:List Int,(cs.length:Int)=kn->tE T wss cs :=
 fun cs h=>⟨⟨l1,l4,fun ws hs=>⟨by rw [(hw ws hs).1];omega,by rw [(hw ws hs).1];omega,(hw ws hs).2⟩⟩,o⟩
theorem bE7 {few many ag rn:Nat}(h:((few ^ ag:Nat):Int)<=rn) (h1:1<=many) (hm:many<=few) (r2:rn<=30):1<=rn / many ^ ag/\rn / many ^ ag<=30/\many ^ ag * (rn / many ^ ag)<=rn/\0 < many ^ ag/\many ^ ag<=30:=by
 have p:0 < many ^ ag:=sg h1;have q:many ^ ag<=few ^ ag:=yt hm ag;have q2:few ^ ag<=rn:=by exact_mod_cast h
 refine ⟨(Nat.le_div_iff_mul_le p).mpr (by omega),bv (Nat.div_le_self _ _) r2,Nat.mul_div_le _ _,p,by omega⟩
section
variable {H H0 H1 H2:Hp}{p l sc nl nh a:Addr}{kn:Int}{rw ag rn:Nat}{xs ns:List Str}
theorem Sc.fresh (S:Sc H1 p l sc nl nh kn rw ag rn xs ns) (o:cU [p,l,sc,nh] H0 H1) (h:H1 a=none):H0 a=none:=by
 obtain ⟨_,_,_,q⟩:=S.pot
 cases e:H0 a with
 |none=>rfl
 |some u =>
  have z:a∉[p,l,sc,nh]:=fun z=>by
   simp only [List.mem_cons,List.not_mem_nil,or_false] at z;rcases z with z | z | z | z
   ·rw [z,q.pc] at h;cases h
   ·rw [z,q.lc] at h;cases h
   ·rw [z,S.sc] at h;cases h
   ·rw [z,S.hn] at h;cases h
  rw [o a u e z] at h
  cases h
theorem cU.in {p l sc nh a:Addr}(h:H0 a=none) (o:cU [p,l,sc,nh] H0 H1) (o':cU [p,l,sc,a] H1 H2):cU [p,l,sc,nh] H0 H2:=fun b u e n=>o' b u (o b u e n) fun z=>by
 simp only [List.mem_cons,List.not_mem_nil,or_false] at z n;rcases z with z | z | z | z
 ·exact n (.inl z)
 ·exact n (.inr (.inl z))
 ·exact n (.inr (.inr (.inl z)))
 ·rw [z,h] at e;cases e
theorem Sc.new (S:Sc H p l sc nl nh kn rw ag rn xs ns) (h:H a=none):a≠p/\a≠l/\a≠nl/\a≠nh:=by
 obtain ⟨n1,n2⟩:=eM S.pot h;exact ⟨n1,n2,(aN S.nm h).symm,(aN S.hn h).symm⟩
theorem bK2 {na nb:List Str}(h:ns.Nodup) (ha:na.Nodup):(ns++na.filter fun x=>decide (x∈nb) && decide (¬ x∈ns)).Nodup:=by
 refine gy.mpr ⟨h,ha.sublist ml,fun x hx y hy e=>?_⟩;have:=(du.mp hy).2;rw [ii] at this;exact ba this.2 (by rw [<- e];exact hx)
theorem bK0 {na nb:List Str}{x:Str}(h:x∈ns++na.filter fun x=>decide (x∈nb) && decide (¬ x∈ns)):x∈ns\/(x∈na/\x∈nb):=by
 rcases bf.mp h with q | q
 ·exact .inl q
 ·obtain ⟨q1,q2⟩:=du.mp q;rw [ii] at q2;exact .inr ⟨q1,ba q2.1⟩
end
theorem aS6 {kn rw ag rn hg:Int}{nl:Addr}:mE [] (gX kn rw ag rn hg nl)=gX kn rw ag rn hg nl:=by
 unfold mE gX;simp only [List.foldl_cons,List.foldl_nil];have e0:cM ([]:List (Key×V)) (Sum.inr "kinds": Key) (V.int kn)=[((Sum.inr "kinds": Key),V.int kn)]:=rfl;have e1:cM [((Sum.inr "kinds": Key),V.int kn)] (Sum.inr "rows": Key) (V.int rw)=[((Sum.inr "kinds": Key),V.int kn),((Sum.inr "rows": Key),V.int rw)]:=iV _ (by rw [aO cB5,kH]);have e2:cM [((Sum.inr "kinds": Key),V.int kn),((Sum.inr "rows": Key),V.int rw)] (Sum.inr "again": Key) (V.int ag)=[((Sum.inr "kinds": Key),V.int kn),((Sum.inr "rows": Key),V.int rw),((Sum.inr "again": Key),V.int ag)]:=iV _ (by rw [aO bX3,aO bH7,kH]);have e3:cM [((Sum.inr "kinds": Key),V.int kn),((Sum.inr "rows": Key),V.int rw),((Sum.inr "again": Key),V.int ag)] (Sum.inr "runs": Key) (V.int rn)=[((Sum.inr "kinds": Key),V.int kn),((Sum.inr "rows": Key),V.int rw),((Sum.inr "again": Key),V.int ag),((Sum.inr "runs": Key),V.int rn)]:=iV _ (by rw [aO bU7,aO bN2,aO bL8,kH])
 have e4:cM [((Sum.inr "kinds": Key),V.int kn),((Sum.inr "rows": Key),V.int rw),((Sum.inr "again": Key),V.int ag),((Sum.inr "runs": Key),V.int rn)] (Sum.inr "high": Key) (V.int hg)=[((Sum.inr "kinds": Key),V.int kn),((Sum.inr "rows": Key),V.int rw),((Sum.inr "again": Key),V.int ag),((Sum.inr "runs": Key),V.int rn),((Sum.inr "high": Key),V.int hg)]:=iV _ (by rw [aO cI8,aO bX4,aO bT3,aO bY0,kH]);have e5:cM [((Sum.inr "kinds": Key),V.int kn),((Sum.inr "rows": Key),V.int rw),((Sum.inr "again": Key),V.int ag),((Sum.inr "runs": Key),V.int rn),((Sum.inr "high": Key),V.int hg)] (Sum.inr "names": Key) (V.ref nl)=[((Sum.inr "kinds": Key),V.int kn),((Sum.inr "rows": Key),V.int rw),((Sum.inr "again": Key),V.int ag),((Sum.inr "runs": Key),V.int rn),((Sum.inr "high": Key),V.int hg),((Sum.inr "names": Key),V.ref nl)]:=iV _ (by rw [aO cK3,aO cC3,aO bT1,aO bV8,aO cD6,kH]);rw [e0,e1,e2,e3,e4,e5]
theorem jI.more {xs ns ns1:List Str}{kn:Int}{rw rw0 rw1 ag rn rn1:Nat}{rs:List Rw}{t m:Nat}(d:jI xs ns ns1 kn rw rw1 ag rn rn1 rs t m) (h:rw<=rw0):jI xs ns ns1 kn rw0 rw1 ag rn rn1 rs t m:=⟨d.ok,d.kn,d.out,d.tel,bv d.key h,d.run,d.up,d.dep⟩
theorem Out.in {p l d nh:Addr}{H H1 H2:Hp}(o:Out p l H H1) (h1:H d=none) (h2:H nh=none) (o':cU [p,l,d,nh] H1 H2):Out p l H H2:=fun b u e n1 n2=>o' b u (o b u e n1 n2) fun z=>by
 simp only [List.mem_cons,List.not_mem_nil,or_false] at z;rcases z with z | z | z | z
 ·exact n1 z
 ·exact n2 z
 ·rw [z,h1] at e;cases e
 ·rw [z,h2] at e;cases e
structure bH4 (xs:List Str) (kn:Int) (rs:List Rw):Prop where
 ok:∀ cs:List Int,(cs.length:Int)=kn->qG xs cs rs
 kn:knL rs []
 tel:eG rs<=4
 key:(cC rs).length<=100
 w:wL rs<=30
 dep:gY rs<=3
 x3:xs.length=3
theorem jI.pg {xs ns1:List Str}{kn:Int}{rw1 rn1:Nat}{rs:List Rw}{t:Nat}(d:jI xs [] ns1 kn 5 rw1 1 30 rn1 rs t 3) (h:t<=3) (r1:1<=rn1) (x3:xs.length=3):bH4 xs kn rs :=
 ⟨d.ok,d.kn,by have:=d.tel;omega,by have:=d.key;omega,by have:=d.run;rw [Nat.pow_one] at this;exact bv (oa _ r1) this,d.dep,x3⟩
def spPrgP:Sp:=fun vs H Q _=>∃ p l,vs=[.ref p,.int 3,.int 30,.int 9]/\iM H p l/\∀ (pg kt pr:Addr) (ks xs:List Str) (rs:List Rw) (H':Hp),H' pg=some (.tup [.ref kt,.ref pr])->H' kt=some (.tup (ks.map V.str))->1<=ks.length->ks.length<=3->H' pr=some (.tup (bT rs))->bY H' rs->bH4 xs ks.length rs->iM H' p l->Out p l H H'->Q (.ref pg) H'
end Mine
namespace L2
open PySem PySem.Spec PyProof.Rows
theorem aG8 {X:Cx}(hc:autoParam (X.calm=true) Rq0._auto_1):eS X (.builtin "max") (fun xs H Q=>∃ (p:Addr) (ns:List Int),xs=[.ref p]/\bM X.K H p (ns.map V.int)/\ns≠[]/\∀ i∈ns,(∀ n∈ns,n<=i)->Q (.int i) H):=by
 intro pins s σ H xs us Q I r h;obtain ⟨p,ns,rfl,hq,hne,q⟩:=h;obtain ⟨u,rfl,ru⟩:=iQ r
 cases ru
 obtain ⟨its,rv,pl,hz⟩:=I.list hq;have it:=pl.isList;have lp:p < s.heap.objs.size:=by
  obtain ⟨o,e,_⟩:=it;exact ay e
 have hl:=rv.length;rw [ac] at hl;have val:∀ i v,its.toArray[i]?=some v->∃ t,v=Value.int (ns.getD i 0) t:=fun i v hv=>by
  have hi:its[i]?=some v:=by simpa using hv
  have hb:i < ns.length:=by
   have:=(bu.mp hi).1;omega
  obtain ⟨u,hu,ru⟩:=rv.get (i:=i) (x:=V.int ns[i]) (by rw [cy,bw hb];rfl);rw [hi] at hu
  cases hu
  obtain ⟨t,e⟩:=ru;exact ⟨t,by rw [e];simp [List.getD,hb]⟩
 have hpos:0 < its.toArray.size:=by
  rw [aw, <- hl]
  cases ns with
  |nil=>exact absurd rfl hne
  |cons _ _=>simp
 refine call_max_walk (ue it ⟨s.heap.objs.size,_,_,_,_,_,_,rfl,Walks.list (A:=X.A.in1) (I.ok.hd hc) s.heap.objs.size p (bt lp) its.toArray,⟨⟨_,az _ rfl,rfl,rfl⟩,it.at fun o e=>af _ e⟩,?_,hpos,CmpOf.ints_gt (fun i=>ns.getD i 0) val,?_⟩)
 ·intro b hb;rw [gf];rcases av.mp hb with z | z
  ·rw [z];exact dq _
  ·have z:b=p:=by simpa using z
   rw [z];exact om lp
 ·intro v h' tk hv hk;have kept:∀ b o,s.heap.get? b=some o->h'.get? b=some o:=fun b o e=>hk b o (by
   intro z;have z:b=s.heap.objs.size:=by simpa using z
   exact absurd (ay e) (by rw [z];exact gb _)) (af _ e)
  have hv2:its.toArray[argBest (fun i j=>decide (ns.getD i 0 > ns.getD j 0)) (its.toArray.size - 1)]?=some v:=hv;have hin:argBest (fun i j=>decide (ns.getD i 0 > ns.getD j 0)) (its.toArray.size - 1) < ns.length:=by
   have:its[argBest (fun i j=>decide (ns.getD i 0 > ns.getD j 0)) (its.toArray.size - 1)]?=some v:=by simpa using hv2
   have:=(bu.mp this).1;omega
  obtain ⟨t,rfl⟩:=val _ _ hv;refine ⟨.int _,H,I.kept kept,⟨t,rfl⟩,q _ ?_ fun n hn=>?_⟩
  ·rw [ig,bw hin];exact pd hin
  obtain ⟨i,hi,e⟩:=qp.mp hn;have:=yS (fun i=>ns.getD i 0) (its.toArray.size - 1) i (by rw [aw, <- hl];omega);rw [show ns.getD i 0=n by simp [List.getD,hi,e]] at this;exact this
end L2
namespace Mine
open PySem L2
mutual
def bR1:Rw->List (dP×List (List Int))
 |.thr _ _ T _ wss=>[(T,wss)]
 |.lt _ _ _=>[]
 |.tell _ _=>[]
 |.when _ _ _ _ a b=>gD a++gD b
 |.times _ _ _ b=>gD b
def gD:List Rw->List (dP×List (List Int))
 |[]=>[]
 |r :: rs=>bR1 r++gD rs
end
theorem jA:∀ (rs qs:List Rw),gD (rs++qs)=gD rs++gD qs
 |[],qs=>rfl
 |r :: rs,qs=>by simp only [List.cons_append,gD,jA rs qs,List.append_assoc]
theorem vI {b:List Rw}:∀ {n:Nat}{z:dP×List (List Int)},z∈gD (mF n b)->z∈gD b
 |0,_,h=>absurd h cz
 |n+1,z,h=>by
  rw [mF,jA] at h;rcases bf.mp h with h | h
  ·exact h
  ·exact vI h
mutual
theorem aW1 {NM:List Str}{cs:List Int}:∀ {r:Rw},okR NM cs r->∀ z∈bR1 r,z.1.Ok/\tE z.1 z.2 cs
 |.thr _ _ _ _ _,h,z,hz=>by rw [au.mp hz];exact h.1
 |.when _ _ _ _ a b,h,z,hz=>by
  rcases bf.mp hz with q | q
  ·exact jG h.2.1 z q
  ·exact jG h.2.2 z q
 |.times _ _ _ b,h,z,hz=>jG h z hz
 |.lt _ _ _,_,_,hz=>absurd hz cz
 |.tell _ _,_,_,hz=>absurd hz cz
theorem jG {NM:List Str}{cs:List Int}:∀ {rs:List Rw},qG NM cs rs->∀ z∈gD rs,z.1.Ok/\tE z.1 z.2 cs
 |[],_,_,hz=>absurd hz cz
 |r :: rs,h,z,hz=>by
  rcases bf.mp hz with q | q
  ·exact aW1 h.1 z q
  ·exact jG h.2 z q
end
def EqN (cs cs':List Int) (rs:List Rw):Prop:=∀ z∈gD rs,cF z.2 cs z.1.lo z.1.hb=cF z.2 cs' z.1.lo z.1.hb
theorem EqN.trans {a b c:List Int}{rs:List Rw}(h:EqN a b rs) (k:EqN b c rs):EqN a c rs:=fun z hz=>(h z hz).trans (k z hz)
theorem oU {cs cs':List Int}:∀ (n:Nat) (rs:List Rw) (e:Ev) (td:List Int) (sh:Int×Int),EqN cs cs' rs->mK cs n rs e td sh=mK cs' n rs e td sh
 |0,_,_,_,_,_=>rfl
 |n+1,[],_,_,_,_=>by simp only [mK]
 |n+1,.thr _ x T _ wss :: rs,e,td,sh,h=>by
  have e1:tI cs T wss=tI cs' T wss:=by unfold tI;rw [h (T,wss) (dj _ ah)]
  simp only [mK,e1]
  congr 1
  funext z
  exact oU n rs _ _ _ fun z hz=>h z (bh _ hz)
 |n+1,.lt _ x t :: rs,e,td,sh,h=>by simp only [mK];exact oU n rs _ _ _ fun z hz=>h z (bh _ hz)
 |n+1,.tell _ t :: rs,e,td,sh,h=>by simp only [mK];exact oU n rs _ _ _ fun z hz=>h z (bh _ hz)
 |n+1,.when _ _ _ t a b :: rs,e,td,sh,h=>by
  simp only [mK];refine oU n _ _ _ _ fun z hz=>?_
  rw [jA] at hz;rcases bf.mp hz with q | q
  ·refine h z (dj _ ?_)
   by_cases c:t.val e=0
   ·rw [ao c] at q;exact bh _ q
   ·rw [aj c] at q;exact dj _ q
  ·exact h z (bh _ q)
 |n+1,.times _ _ k b :: rs,e,td,sh,h=>by
  simp only [mK];refine oU n _ _ _ _ fun z hz=>?_
  rw [jA] at hz;rcases bf.mp hz with q | q
  ·exact h z (dj _ (vI q))
  ·exact h z (bh _ q)
theorem aV3 {cs cs':List Int}{rs:List Rw}(h:EqN cs cs' rs):LV cs rs e0 [] (1,1)=LV cs' rs e0 [] (1,1):=oU _ _ _ _ _ h
def fR (c:Int):Int:=if 9 < c then 9 else c
theorem fU (w c:Int) (ws cs:List Int):hV (w :: ws) (c :: cs)=w * c+hV ws cs:=by unfold hV;rw [wm,cw]
theorem wE:∀ {ws cs:List Int},(∀ x∈ws,0<=x)->(∀ x∈cs,0<=x)->0<=hV ws cs
 |[],_,_,_=>by simp [hV]
 |_ :: _,[],_,_=>by simp [hV]
 |w :: ws,c :: cs,h,k=>by
  rw [fU];have:=wE (fun x hx=>h x (ae w hx)) (fun x hx=>k x (ae c hx));have:=bz (h w ah) (k c ah);omega
theorem xL:∀ {ws cs:List Int},(∀ x∈ws,0<=x)->(∀ x∈cs,0<=x)->hV ws cs=hV ws (cs.map fR)\/9<=hV ws cs/\9<=hV ws (cs.map fR)
 |[],_,_,_=> .inl (by simp [hV])
 |_ :: _,[],_,_=> .inl (by simp [hV])
 |w :: ws,c :: cs,h,k=>by
  rw [bi,fU,fU];have h':=fun x hx=>h x (ae w hx)
  have k':=fun x hx=>k x (ae c hx)
  have w0:=h w ah;have c0:=k c ah;have k9:∀ x∈cs.map fR,0<=x:=fun x hx=>by
   obtain ⟨y,hy,rfl⟩:=cm.mp hx;have:=k' y hy;unfold fR;split <;> omega
  have p1:=wE h' k';have p2:=wE h' k9;have q1:=bz w0 c0;have q2:0<=w * fR c:=bz w0 (by unfold fR;split <;> omega)
  by_cases b:9 < c
  ·rcases Int.lt_or_le 0 w with z | z
   ·have e:fR c=9:=by unfold fR;rw [ao b]
    rw [e];have:1 * c<=w * c:=di z c0;exact .inr ⟨by omega,by omega⟩
   ·have:w=0:=by omega
    subst this;rw [li,li];rcases xL h' k' with d | d
    ·exact .inl (by omega)
    ·exact .inr ⟨by omega,by omega⟩
  ·have e:fR c=c:=by unfold fR;rw [aj b]
   rw [e];rw [e] at q2;rcases xL h' k' with d | d
   ·exact .inl (by omega)
   ·exact .inr ⟨by omega,by omega⟩
theorem aZ7 {d lo hb:Int}(h:9<=d) (l:lo<=hb) (b:hb<=9):mQ d lo hb=hb:=by
 unfold mQ
 by_cases c:lo > d
 ·rw [ao c];split <;> omega
 ·rw [aj c];split <;> omega
theorem bJ2 {NM:List Str}{cs:List Int}{rs:List Rw}(ok:qG NM cs rs) (h0:∀ x∈cs,0<=x):EqN cs (cs.map fR) rs:=fun z hz=>by
 obtain ⟨o,a⟩:=jG ok z hz;have l:=o.lo0;unfold cF;refine eh fun ws hw=>?_
 rcases xL (fun x hx=>((a.few.w ws hw).wt x hx).1) h0 with d | d
 ·rw [d]
 ·rw [aZ7 d.1 l.2.1 l.2.2,aZ7 d.2 l.2.1 l.2.2]
def pU (kd:Nat) (rs:List Rw):Prop:=∀ z∈gD rs,∀ ws∈z.2,ws.getD kd 0=0
theorem zQ {v:Int}:∀ {kd:Nat}{ws cs:List Int},ws.length=cs.length->kd < cs.length->ws.getD kd 0=0->hV ws (cs.take kd++[v]++cs.drop (kd+1))=hV ws cs
 |_,[],[],_,h,_=>absurd h (qm _)
 |_,[],_ :: _,h,_,_=>by cases h
 |_,_ :: _,[],h,_,_=>by cases h
 |0,w :: ws,c :: cs,_,_,z=>by
  have z:w=0:=by simpa using z
  show hV (w :: ws) (v :: cs)=_;rw [fU,fU,z,li,li]
 |kd+1,w :: ws,c :: cs,l,h,z=>by
  have l:ws.length=cs.length:=qr l;have z:ws.getD kd 0=0:=by simpa using z
  show hV (w :: ws) (c :: (cs.take kd++[v]++cs.drop (kd+1)))=_;rw [fU,fU,zQ l (Nat.lt_of_succ_lt_succ h) z]
theorem aV1 {NM:List Str}{cs:List Int}{rs:List Rw}{kd:Nat}{v:Int}(ok:qG NM cs rs) (h:kd < cs.length) (z:pU kd rs):EqN cs (cs.take kd++[v]++cs.drop (kd+1)) rs:=fun t ht=>by
 obtain ⟨o,a⟩:=jG ok t ht;unfold cF;refine eh fun ws hw=>?_
 rw [zQ (a.few.w ws hw).len h (z t ht ws hw)]
theorem bH4.prg {xs:List Str}{kn:Int}{rs:List Rw}{H:Hp}{pg kt pr c:Addr}{cs:List Int}(P:bH4 xs kn rs) (h1:H pg=some (.tup [.ref kt,.ref pr])) (h2:H pr=some (.tup (bT rs))) (h3:bY H rs) (hc:cR H c cs) (l:(cs.length:Int)=kn):zZ xs (cC rs) H pg c cs (mL cs rs) rs:=by
 have ok:=P.ok cs l;have b:=(lgL rs ok).bd P.w;exact ⟨⟨_,_,h1,h2⟩,h3,hc,by have:=P.x3;omega,P.key,⟨⟨ok,P.kn,(fun _ z=>nomatch z),by show 0+eG rs<=4;have:=P.tel;omega,(fun _ z=>nomatch z),1,⟨cu _,1,cu _,cu _,by show ((1:Int),(1:Int))=aX 1 1;decide⟩,by rw [rq];exact Int.dvd_refl _⟩,fun k hk=>hk⟩,b.1,b.2,P.w⟩
def spLSm:Sp:=fun vs H Q _=>∃ (p:Addr) (x:Str) (T:dP) (a3:V) (wss:List (List Int)),vs=[.ref p]/\pL H (.thr p x T a3 wss)/\∀ s H',aU H H'->kE H' s wss->Q (.ref s) H'
def aN3:Nat->Sp
 |0=>fun _ _ _ _=>False
 |n+1=>fun vs H Q _=>∃ (pr:Addr) (rs:List Rw) (kd:Nat) (xs:List Str) (cs:List Int),vs=[.ref pr,.int kd]/\H pr=some (.tup (bT rs))/\bY H rs/\gY rs<=n/\qG xs cs rs/\kd < cs.length/\∀ (b:Bool) H',aU H H'->(b=false->pU kd rs)->Q (.bl b) H'
theorem pU.nil {kd:Nat}:pU kd []:=fun _ z=>nomatch z
theorem pU.app {kd:Nat}{rs qs:List Rw}(a:pU kd rs) (b:pU kd qs):pU kd (rs++qs):=fun z hz=>by
 rw [jA] at hz;rcases bf.mp hz with q | q
 ·exact a z q
 ·exact b z q
theorem pU.thr {kd:Nat}{p:Addr}{x:Str}{T:dP}{a3:V}{wss:List (List Int)}(h:∀ ws∈wss,ws.getD kd 0=0):pU kd [.thr p x T a3 wss]:=fun z hz=>by
 rw [au.mp (show z∈[(T,wss)] from hz)];exact h
theorem pU.when {kd:Nat}{p pa pb:Addr}{t:Tm}{a b:List Rw}(ha:pU kd a) (hb:pU kd b):pU kd [.when p pa pb t a b]:=fun z hz=>by
 have hz:z∈(gD a++gD b)++[]:=hz;rw [gz] at hz;rcases bf.mp hz with q | q
 ·exact ha z q
 ·exact hb z q
theorem pU.times {kd:Nat}{p pb:Addr}{n:Nat}{b:List Rw}(hb:pU kd b):pU kd [.times p pb n b]:=fun z hz=>by
 have hz:z∈gD b++[]:=hz;rw [gz] at hz;exact hb z hz
theorem aU3 {NM:List Str}{cs:List Int}:∀ {rs:List Rw}{r:Rw},qG NM cs rs->r∈rs->okR NM cs r
 |r :: rs,q,h,m=>by
  rcases av.mp m with e | e
  ·rw [e];exact h.1
  ·exact aU3 h.2 e
theorem aL5 {H:Hp}:∀ {rs:List Rw}{r:Rw},bY H rs->r∈rs->pL H r
 |r :: rs,q,h,m=>by
  rcases av.mp m with e | e
  ·rw [e];exact h.1
  ·exact aL5 h.2 e
theorem aL7:∀ {rs:List Rw}{r:Rw},r∈rs->rD r<=gY rs
 |r :: rs,q,m=>by
  simp only [gY];rcases av.mp m with e | e
  ·rw [e];omega
  ·have:=aL7 e;omega
theorem aJ2:∀ T:dP,¬ (V.str T.wd=V.str "when")/\¬ (V.str T.wd=V.str "times")
 |.lad .. =>by dsimp only [dP.wd];constructor <;> decide +kernel
 |.fla .. =>by dsimp only [dP.wd];constructor <;> decide +kernel
 |.cho .. =>by dsimp only [dP.wd];constructor <;> decide +kernel
 |.fst .. =>by dsimp only [dP.wd];constructor <;> decide +kernel
def Crd (kn:Nat) (H:Hp) (v:V):Prop:=∃ (c:Addr) (cs:List Int),v= .ref c/\cR H c cs/\(cs.length:Int)=kn/\∀ x∈cs,0<=x/\x<=1000000
theorem Crd.ts {kn:Nat}{H H':Hp}{v:V}(h:Crd kn H v) (t:TS H H'):Crd kn H' v:=by obtain ⟨c,cs,e,a,b⟩:=h;exact ⟨c,cs,e,t _ _ a,b⟩
theorem pY {K:W.Frag}{b:Bool}{H:Hp}{t:Addr}{es:List En}(h:aO0 b H t es):nW K H (.tuple (es.map (gK b))) (.ref t):=by obtain ⟨us,a,c⟩:=h;exact ⟨t,us,rfl,aT.of a,aZ6 c⟩
theorem aC4 {xs:List V}{r:Int}(h0:0<=r) (h1:r<=xs.length):iT xs none (some r)=xs.take r.toNat:=by
 unfold iT;rw [show r=((r.toNat:Nat):Int) by omega,HT.sIx_nat,HT.sIx_none,rh,zn,dz,Nat.min_eq_left (by omega)]
theorem bA2 {xs:List V}{r:Int}(h0:0<=r) (h1:r<=xs.length):iT xs (some r) none=xs.drop r.toNat:=by
 unfold iT;rw [show r=((r.toNat:Nat):Int) by omega,HT.sIx_nat,HT.sIx_none,dz,Nat.min_eq_left (by omega),jc (by rw [jx];omega)]
theorem uP (b:Bool) (es:List En):Spec.same (.tuple (es.map (gK b))) (.tuple (es.map (gK b)))=true:=vA b es
namespace dP
theorem tab_lad {p q lo hi n:Int}(h:(lad p q lo hi).Ok) (a:lo<=n) (b:n<=hi):(lad p q lo hi).tab [n]=lY p q lo hi n:=by
 show iJ (dS p q lo hi) lo (cI p q lo hi n)=_;rw [rM _ _ _ (gL h.l.1),tR h.l.1 a b]
theorem tab_cho {p q lo hi:Int}{ns:List Int}(h:(cho p q lo hi).Ok) (hn:∀ n∈ns,lo<=n/\n<=hi):(cho p q lo hi).tab ns=kF (eQ p q ns) 0 (ns.map (gC p q)):=by
 have e:=h.l.2;refine rM _ _ _ fun s hs=>?_
 obtain ⟨y,hy,rfl⟩:=List.mem_map.mp hs;have k:=hn y hy;exact (lL h.l.1 (show 0<=y by have:=e.a;omega) (show y<=9 by have:=e.c;omega)).1
theorem tab_fst {pa qa pb qb mk lo hi:Int}{ns:List Int}:(fst pa qa pb qb mk lo hi).tab ns=mY pa qa pb qb mk ns lo hi:=by
 unfold mY;rw [bT0];rfl
end dP
open PySem L2
namespace dP
end dP
open PySem L2
theorem cF5:¬ (("ladder": Str)="choose"):=by decide +kernel
theorem cJ7:¬ (("ladder": Str)="flat"):=by decide +kernel
end Mine
namespace L2
open PySem PySem.Spec PyProof.Rows
section
variable {X:Cx}
end
section
variable {prog:Program}{w:World}{A:Around}{E:Value->Shared->Prop}{s:Shared}
end
section
variable {X:Cx}{pos:Pos}
end
theorem vM {K:PySem.W.Frag}{a:Addr}{xs:List V}{g:TG}{tb:TS}{D:fH}{σ: St}{H:Hp}(Pv:Nat->St->Hp->Prop) (h0:Pv 0 σ H) (hl:∀ i σ H,i<=xs.length->Pv i σ H->bM K H a xs)
  (hs:∀ (D':fH) (N:St->Hp->Prop),∀ i,(∀ σ H,Pv (i+1) σ H->N σ H)->∀ x σ H,xs[i]?=some x->Pv i σ H->g x σ H fun σ2 H2=>tb { D' with nx:=N,ct:=N,bk:=D'.nx } σ2 H2) (hd:∀ σ H,Pv xs.length σ H->D.nx σ H) :
  ∃ W:Nat->Nat->St->Hp->Prop,(∃ m,W 0 m σ H)/\∀ i m σ H,W i m σ H ->
   ((Itl K a).stop i H/\D.nx σ H)\/((Itl K a).go i H/\∃ N:St->Hp->Prop,(∀ σ' H',N σ' H'->∃ m',m' < m/\W (i+1) m' σ' H')/\∀ x H',(Itl K a).yld i H x H'->g x σ H' fun σ2 H2=>tb { D with nx:=N,ct:=N,bk:=D.nx } σ2 H2):=aQ7 Pv h0 hl (fun D' i x σ H hi p=>hs D' (Pv (i+1)) i (fun _ _ z=>z) x σ H hi p) hd
theorem lP {lo:Int}{n:Nat}{g:TG}{tb:TS}{D:fH}{σ: St}{H:Hp}(Pv:Nat->St->Hp->Prop) (h0:Pv 0 σ H)
  (hs:∀ (D':fH) (N:St->Hp->Prop),∀ i,(∀ σ H,Pv (i+1) σ H->N σ H)->∀ σ H,i < n->Pv i σ H->g (.int (lo+i)) σ H fun σ2 H2=>tb { D' with nx:=N,ct:=N,bk:=D'.nx } σ2 H2) (hd:∀ σ H,Pv n σ H->D.nx σ H) :
  ∃ W:Nat->Nat->St->Hp->Prop,(∃ m,W 0 m σ H)/\∀ i m σ H,W i m σ H ->
   ((Itr lo n).stop i H/\D.nx σ H)\/((Itr lo n).go i H/\∃ N:St->Hp->Prop,(∀ σ' H',N σ' H'->∃ m',m' < m/\W (i+1) m' σ' H')/\∀ x H',(Itr lo n).yld i H x H'->g x σ H' fun σ2 H2=>tb { D with nx:=N,ct:=N,bk:=D.nx } σ2 H2):=gW Pv h0 (fun D' i σ H hi p=>hs D' (Pv (i+1)) i (fun _ _ z=>z) σ H hi p) hd
section
variable {P:Program}{w:World}{K:W.Frag}{mg:Str->Option Value}{base:Heap}
structure cO7 (K:W.Frag) (x qual:Str) (st:Stmt) (f:Addr) (fd:FuncData):Prop where
 ex:∃ (oc:Value) (od:Option Addr) (dV kV doc pm:Value) (an:Option Addr) (cdv ct:Value) (osl:Array (Option Value)),
  fd=W.fnOf x qual (cA st) (bS st) (aZ st) dV kV doc pm an cdv ct/\K.lookup f=some ⟨oc,od,.func fd,osl⟩/\W.codeIn K cdv qual=true
def bO1 (P:Program) (w:World) (K:W.Frag) (mg:Str->Option Value) (base:Heap) (x q:Str) (st:Stmt) (n:Nat) (ps:List Str) (sp:Sp):Prop:=∀ {f:Addr}{d:FuncData},cO7 K x q st f d->jY P w K mg base CX0 n f d ps sp
theorem cK9 {x q:Str}{st:Stmt}{k:Nat}{ps:List Str}{sp:Sp}(N:List Str)
  (hb:∀ {f:Addr}{cdv:Value}{A:Around}{outer:List Env}{s:Shared}{vs:List V}{E:XK}(H:Hp) (Q:VK),N.Nodup->dE k (A.deeper (envOfC q (aZ st) s.heap.objs.size f cdv))->sp vs H Q E ->
   ∃ t,vW (yZ CX0 P w K mg base N q (aZ st) f cdv A outer s H E).nox (bS st) t/\t { nx:=fun _ H'=>Q .non H',rt:=Q } (lM N vs) H)
  (len:autoParam (∀ vs H Q E,sp vs H Q E->vs.length=ps.length) Rq8._auto_1)
  (S:autoParam (mJ N ps (aZ st)) Rq10._auto_1):bO1 P w K mg base x q st (k+1) ps sp:=fun F=>by
 obtain ⟨oc,od,dV,kV,doc,pm,an,cdv,ct,osl,rfl,lk,hcd⟩:=F.ex;refine bR0 lk hcd S len fun A outer s H vs Q E hr hsp=>?_
 obtain ⟨t,h,q⟩:=hb H Q S.nd hr hsp;exact ⟨t,h.nox,q⟩
def ClD (P:Program) (w:World) (K:W.Frag) (mg:Str->Option Value) (base:Heap) (n:Nat) (sp:Sp) (x:Str) (dvs:List V):Prop:=∃ f d ps ds,jY P w K mg base CX0 n f d ps sp/\fZ K d ps ds/\bB dvs ds/\W.keepIn K (.ref f)=true/\mg x=some (.ref f)
def bU1 (K:W.Frag) (x:Str) (st:Stmt) (f:Addr) (i:Int):Prop:=∃ (oc:Value) (od:Option Addr) (T:Addr) (kV dc pm:Value) (an:Option Addr) (cd ct:Value) (sl:Array (Option Value)) (o:Obj) (n:Nat) (t:Tok),K.lookup f=some ⟨oc,od,.func (W.fnOf x x (cA st) (bS st) (aZ st) (.ref T) kV dc pm an cd ct),sl⟩/\W.codeIn K cd x=true/\W.keepIn K (.ref f)=true/\K.lookup T=some o/\o.data= .seq #[.int i t] n
def TopAtD (K:W.Frag) (x:Str) (st:Stmt) (i:Int):Prop:=∃ f,W.nsIn K mainGlobals x=some (some (.ref f))/\bU1 K x st f i
theorem TopAtD.of {x:Str}{st:Stmt}{i:Int}{f:Addr}{oc:Value}{od:Option Addr}{T:Addr}{kV dc pm:Value}{an:Option Addr}{cd ct:Value}{sl:Array (Option Value)}{oc2:Value}{od2:Option Addr}{n:Nat}{t:Tok}{sl2:Array (Option Value)}(a:W.nsIn K mainGlobals x=some (some (.ref f))) (l:K.lookup f=some ⟨oc,od,.func (W.fnOf x x (cA st) (bS st) (aZ st) (.ref T) kV dc pm an cd ct),sl⟩) (c:W.codeIn K cd x=true) (k:W.keepIn K (.ref f)=true) (h:K.lookup T=some ⟨oc2,od2,.seq #[.int i t] n,sl2⟩):TopAtD K x st i:=⟨_,a,_,_,_,_,_,_,_,_,_,_,_,_,_,l,c,k,h,rfl⟩
theorem Zx.cd {x p1 p2 p3:Str}{st:Stmt}{n:Nat}{sp:Sp}{i:Int}(Z:Zx P w K mg base) (t:TopAtD K x st i) (ok:bO1 P w K mg base x x st n [p1,p2,p3] sp)
  (h:∀ (T:Addr) (kV doc pm:Value) (an:Option Addr) (cdv ct u1 u2:Value),∃ k,bindArgs (W.fnOf x x (cA st) (bS st) (aZ st) (.ref T) kV doc pm an cdv ct) ⟨[u1,u2],[]⟩=seqItems? (.ref T) >>= k/\∀ v,k (some #[v])=pure [(p1,u1),(p2,u2),(p3,v)]:=by intros;exact ⟨_,rfl,fun _=>rfl⟩):ClD P w K mg base n sp x [.int i]:=by
 obtain ⟨f,a,oc,od,T,kV,dc,pm,an,cd,ct,sl,o,m,tk,l,c,k,h1,h2⟩:=t;refine ⟨f,_,_,[.int i tk],ok ⟨_,_,_,_,_,_,_,_,_,_,rfl,l,c⟩,fun s us hK hl=>?_,.cons ⟨tk,rfl⟩ .nil,k,Z.ns _ _ a⟩;rw [be] at hl;have hl:us.length=2:=qr hl;obtain ⟨u1,r1,rfl,e1⟩:=cG (n:=1) hl;obtain ⟨u2,r2,rfl,e2⟩:=cG (n:=0) e1
 cases gu.mp e2
 obtain ⟨kk,b1,b2⟩:=h T kV dc pm an cd ct u1 u2;exact BindsTo.of_defaults rfl (hK _ _ h1) h2 b1 (b2 _)
end
section
variable {X:Cx}{x:Str}{p pos:Pos}{e:Expr}{es:List Expr}{t:TA}
theorem bB7 {k:Nat}{sp:Sp}{dvs:List V}(C:ClD X.prog X.w X.K X.mg X.base k sp x dvs) {n:Nat}(hr:dE n X.A) (ha:PA X (e :: es) t) (hn:autoParam (k<=n) Rq5._auto_1) (hg:autoParam (Gl X x) Rq0._auto_1) (hdb:autoParam ((x == ("__debug__": Str))=false) Rq1._auto_1) (he:autoParam (starEach (e :: es) X.env=(false,eval e X.env) :: starEach es X.env) Rq0._auto_1)
  (hpl:autoParam ((backTo pos (starEach es X.env)).any (·.1)=false) Rq0._auto_1):PE X (.Call (.Name x p) (e :: es) [] pos) (aZ8 sp dvs E0 t):=by obtain ⟨_,_,_,_,g,b,v,k,m⟩:=C;exact aN2 g (hr.mono hn) hg m k b v aT4 ha hdb he hpl
end
end L2
namespace Mine
open PySem L2
def inC (s:Stmt) (i:Nat):Stmt:=match s with
 |.ClassDef _ _ _ b _ _ _ _ _ _ _=>b.getD i (.Pass ⟨0,0,0,0⟩)
 |_=> .Pass ⟨0,0,0,0⟩
def top (i:Nat):Stmt:=PySem.Challenge.pw_pairedthrows_k27_whole_great_crowds_like.main.body.getD i (.Pass ⟨0,0,0,0⟩)
abbrev cG8:Stmt:=top 5
abbrev bE0:Stmt:=top 6
abbrev bQ3:Stmt:=top 7
abbrev cJ1:Stmt:=top 8
abbrev cL9:Stmt:=top 9
abbrev cE9:Stmt:=top 11
abbrev cK6:Stmt:=top 12
abbrev cE2:Stmt:=top 13
abbrev aT6:Stmt:=top 14
abbrev aZ4:Stmt:=top 15
abbrev bP8:Stmt:=top 16
abbrev cF7:Stmt:=top 17
abbrev sWo:Stmt:=top 20
abbrev cH2:Stmt:=top 21
abbrev bQ6:Stmt:=top 23
abbrev bP3:Stmt:=top 24
abbrev cH3:Stmt:=top 26
abbrev sUp:Stmt:=top 27
abbrev cE5:Stmt:=top 28
abbrev bC3:Stmt:=top 29
abbrev cJ8:Stmt:=top 30
abbrev bS3:Stmt:=top 31
abbrev cM3:Stmt:=top 32
abbrev aU7:Stmt:=top 33
abbrev cM2:Stmt:=top 34
abbrev bR4:Stmt:=top 35
abbrev aL4:Stmt:=top 36
abbrev cL2:Stmt:=top 37
abbrev cL4:Stmt:=inC (top 39) 0
abbrev cK2:Stmt:=top 40
abbrev bR5:Stmt:=top 41
abbrev cM1:Stmt:=top 42
abbrev bP7:Stmt:=top 43
abbrev cJ5:Stmt:=top 44
abbrev cF9:Stmt:=top 45
abbrev bP5:Stmt:=top 46
abbrev cF4:Stmt:=top 48
abbrev bP4:Stmt:=top 49
abbrev cD9:Stmt:=top 50
abbrev cG9:Stmt:=top 51
abbrev cD8:Stmt:=top 52
abbrev cI3:Stmt:=top 53
abbrev cM0:Stmt:=top 54
abbrev cG3:Stmt:=top 55
abbrev cL6:Stmt:=top 56
abbrev cG0:Stmt:=top 57
abbrev cE8:Stmt:=top 58
abbrev cG2:Stmt:=top 59
abbrev cE7:Stmt:=top 60
abbrev cE6:Stmt:=top 61
abbrev cL3:Stmt:=top 62
abbrev cM8:Stmt:=top 63
abbrev cL8:Stmt:=top 64
abbrev cG6:Stmt:=top 65
abbrev bE9:Stmt:=top 66
section
variable {P:Program}{w:World}{K:W.Frag}{mg:Str->Option Value}{base:Heap}
theorem cA3  : fC P w K mg base "parts_of" "parts_of" cJ1 1 ["term"] spParts:=by
 refine fV ["term","parts","waiting","part"] fun H Q nd hr h=>?_
 obtain ⟨t,rfl,ht,hz,k⟩:=h;have hu:=jE hr;refine ⟨_,(dB 1 nd (cS eI)
  (dB 2 nd (cS (aP (pv 0)))
  (aF (fY ib (zP (pv 2) (fun _=>rfl))
  (dB 3 nd (wQ bg jk jl wP (pv 2))
  (aF (cP (fB bg cp cq cE (pv 1) (aP (pv 3))))
  (aE (bK (eL cY (bX aJ (pv 3) aB) aH) (aE (cP (fB bg nk nq nY (pv 2) (aP (cS (aA (bX aJ (pv 3) aB) (aP (bX aJ (pv 3) aB)))))))) aV)))))
  (aE (aL (pv 1)))))),?_⟩
 refine ⟨bj _,fun l1 hl1=>?_⟩;obtain ⟨H1,e0,s1,h1⟩:=lay hl1 (.lst []);rw [e0];clear e0;refine ⟨_,rfl,sV,fun l2 hl2=>?_⟩;have n2:=s1.free hl2;have ne:l2≠l1:=(aN h1 hl2).symm;have s2:=s1.trans (aC hl2 (.lst [.ref t.p]));have h12:aM H1 l2 (.lst [.ref t.p]) l1=some (.lst []):=by rw [aG ne.symm];exact h1
 have h2:aM H1 l2 (.lst [.ref t.p]) l2=some (.lst [.ref t.p]):=aD;generalize aM H1 l2 (.lst [.ref t.p])=H2 at s2 h12 h2 ⊢;refine ⟨fun m σ G=>∃ (ps stk:List Tm) (v3:Option V),σ=[some (.ref t.p),some (.ref l1),some (.ref l2),v3]/\aU H G/\G l1=some (.lst (ps.map fun u=>V.ref u.p))/\G l2=some (.lst (stk.reverse.map fun u=>V.ref u.p))/\ps++stk.flatMap Tm.pre=t.pre/\(∀ u∈stk,qP H u)/\m=(stk.flatMap Tm.pre).length,
  ⟨_,[],[t],none,rfl,s2,h12,h2,by simp,fun u hu=>by rw [List.mem_singleton.mp hu];exact ht,rfl⟩,?_⟩
 rintro m σ G ⟨ps,stk,v3,rfl,s3,g1,g2,eq,hs,rfl⟩;refine ⟨_,rfl,_,.inl ⟨_,bM.of g2,rfl⟩,?_⟩;have lt:=gv List.length eq;rw [be,Tm.pre_len] at lt;have ls:stk.length<=(stk.flatMap Tm.pre).length:=aM5 stk
 cases stk with
 |nil =>
  refine bF (by simp) ?_;rw [List.flatMap_nil,gz] at eq;exact ⟨_,rfl,k l1 G s3 hl1 (by rw [<- eq];exact g1)⟩
 |cons u rest =>
  refine bV (by simp) ?_;have hu:=hs u ah;have up:=u.size_pos;rw [uk,be,Tm.pre_len] at lt;rw [ci,uk,be,Tm.pre_len] at ls;refine ⟨fun σ' G'=>∃ (ps' stk':List Tm) (v3:Option V),σ'=[some (.ref t.p),some (.ref l1),some (.ref l2),v3]/\aU H G'/\G' l1=some (.lst (ps'.map fun u=>V.ref u.p))/\G' l2=some (.lst (stk'.reverse.map fun u=>V.ref u.p))/\ps'++stk'.flatMap Tm.pre=t.pre/\(∀ u∈stk',qP H u)/\(stk'.flatMap Tm.pre).length+1=((u :: rest).flatMap Tm.pre).length,
   (by rintro σ' G' ⟨ps',stk',v3',e1,e2,e3,e4,e5,e6,e7⟩;exact ⟨_,by omega,ps',stk',v3',e1,e2,e3,e4,e5,e6,rfl⟩),?_⟩
  have er:(u :: rest).reverse.map (fun u=>V.ref u.p)=rest.reverse.map (fun u=>V.ref u.p)++[V.ref u.p]:=by rw [kr,aq];rfl
  rw [er] at g2;refine ⟨_,rfl,.inl ⟨rfl,_,bM.of g2⟩,l2,_,V.ref u.p,rfl,rfl,g2,by simp,?_⟩;rw [mf];have s4:=dF (ys:=rest.reverse.map fun u=>V.ref u.p) s3 n2;have g3:aM G l2 (.lst (rest.reverse.map fun u=>V.ref u.p)) l2=some (.lst (rest.reverse.map fun u=>V.ref u.p)):=aD;have g4:aM G l2 (.lst (rest.reverse.map fun u=>V.ref u.p)) l1=some (.lst (ps.map fun u=>V.ref u.p)):=by rw [aG ne.symm];exact g1
  generalize aM G l2 (.lst (rest.reverse.map fun u=>V.ref u.p))=G1 at s4 g3 g4 ⊢;refine ⟨_,rfl,.inl ⟨rfl,_,bM.of g4⟩,_,rfl,l1,_,_,rfl,rfl,g4,aK (by rw [ac];omega),?_⟩;have s5:=dF (ys:=(ps++[u]).map fun u=>V.ref u.p) s4 hl1;have ea:(ps.map fun u=>V.ref u.p)++[V.ref u.p]=(ps++[u]).map fun u=>V.ref u.p:=by rw [aq];rfl
  rw [ea];have g5:aM G1 l1 (.lst ((ps++[u]).map fun u=>V.ref u.p)) l1=some (.lst ((ps++[u]).map fun u=>V.ref u.p)):=aD;have g6:aM G1 l1 (.lst ((ps++[u]).map fun u=>V.ref u.p)) l2=some (.lst (rest.reverse.map fun u=>V.ref u.p)):=by rw [aG ne];exact g3
  generalize aM G1 l1 (.lst ((ps++[u]).map fun u=>V.ref u.p))=G2 at s5 g5 g6 ⊢;have hu5:=hu.ts (.of s5);refine ⟨_,rfl,u.p,_,_,.str u.w,rfl,rfl,aT.of hu5.at,at0 _ _,rfl,_,rfl,?_⟩
  cases u with
  |op p s a b =>
   refine bV (ap rfl) ?_;refine ⟨_,rfl,.inl ⟨rfl,_,bM.of g6⟩,_,rfl,p,_,_,.ref b.p,rfl,rfl,aT.of hu5.1,rfl,_,rfl,p,_,_,.ref a.p,rfl,rfl,aT.of hu5.1,rfl,dH,fun l3 hl3=>?_⟩;have s6:=s5.trans (aC hl3 (.lst [.ref b.p,.ref a.p]));have n31:l1≠l3:=aN g5 hl3;have n32:l2≠l3:=aN g6 hl3;have g7:aM G2 l3 (.lst [.ref b.p,.ref a.p]) l3=some (.lst [.ref b.p,.ref a.p]):=aD;have g8:aM G2 l3 (.lst [.ref b.p,.ref a.p]) l1=_:=(aG n31).trans g5;have g9:aM G2 l3 (.lst [.ref b.p,.ref a.p]) l2=_:=(aG n32).trans g6;generalize aM G2 l3 (.lst [.ref b.p,.ref a.p])=G3 at s6 g7 g8 g9 ⊢;refine ⟨l2,l3,_,_,rfl,rfl,g9,g7,by rw [ac,gp];have:=aK (n:=1000) (ai _);show rest.length+2<=_;omega,?_⟩;have ez:(rest.reverse.map fun u=>V.ref u.p)++[.ref b.p,.ref a.p]=(a :: b :: rest).reverse.map fun u=>V.ref u.p:=by simp
   rw [ez];refine ⟨ps++[.op p s a b],a :: b :: rest,_,rfl,dF s6 n2,(aG ne.symm).trans g8,aD,?_,fun x hx=>?_,?_⟩
   ·rw [<- eq];simp [Tm.pre]
   ·rcases av.mp hx with e | e
    ·rw [e];exact hu.2.1
    ·rcases av.mp e with e | e
     ·rw [e];exact hu.2.2
     ·exact hs x (ae _ e)
   ·simp [Tm.pre] <;> omega
  |num p n =>
   refine bF (fun z=>cP1 (ba z)) ?_;refine ⟨ps++[.num p n],rest,_,rfl,s5,g5,g6,?_,fun x hx=>hs x (ae _ hx),?_⟩
   ·rw [<- eq];simp [Tm.pre]
   ·simp [Tm.pre] <;> omega
  |nam p n =>
   refine bF (fun z=>cR3 (ba z)) ?_;refine ⟨ps++[.nam p n],rest,_,rfl,s5,g5,g6,?_,fun x hx=>hs x (ae _ hx),?_⟩
   ·rw [<- eq];simp [Tm.pre]
   ·simp [Tm.pre] <;> omega
theorem cK7 {tW:Tok}(m_WRAP:mg "WRAP"=some (.int 1000000 tW)):fC P w K mg base "worked_out" "worked_out" sWo 1 ["sign","one","other"] spWo:=by
 refine fV ["sign","one","other"] fun H Q nd hr h=>?_
 obtain ⟨s,a,b,rfl,hs,a0,a1,b0,b1,k⟩:=h;refine ⟨_,(aF (bK (eL cY (pv 0) aH) (aE (aL (gS (eL nL (pv 1) (pv 2)) aB aB))) aV)
  (aF (bK (eL cY (pv 0) aH) (aE (aL (gS (eL cY (pv 1) (pv 2)) aB aB))) aV)
  (aF (bK (eL cY (pv 0) aH) (aE (aL (aI fF (aI bE (pv 1) (pv 2)) (qE (v:= .int 1000000) (by rfl) m_WRAP ⟨_,rfl⟩)))) aV)
  (aF (bK (eL cY (pv 0) aH) (aE (aL (aI fF (aI cQ (pv 1) (pv 2)) (qE (v:= .int 1000000) (by rfl) m_WRAP ⟨_,rfl⟩)))) aV)
  (aE (aL (aI fF (aI mB (pv 1) (pv 2)) (qE (v:= .int 1000000) (by rfl) m_WRAP ⟨_,rfl⟩)))))))),?_⟩
 unfold wo at k;refine ⟨_,rfl,rfl,_,rfl,?_⟩
 by_cases c1:s="<"
 ·rw [ao c1] at k;refine bV (by rw [c1];exact ap rfl) ?_;refine ⟨_,rfl,_,rfl,_,_,rfl,rfl,_,rfl,?_⟩
  by_cases c:a < b
  ·rw [ao c] at k;exact bV (ap c) k
  ·rw [aj c] at k;exact bF (by simpa using c) k
 rw [aj c1] at k;refine bF (fun z=>c1 (by have z:=ba z;injection z)) ?_;refine ⟨_,rfl,rfl,_,rfl,?_⟩
 by_cases c2:s="="
 ·rw [ao c2] at k;refine bV (by rw [c2];exact ap rfl) ?_;refine ⟨_,rfl,_,rfl,rfl,_,rfl,?_⟩
  by_cases c:a=b
  ·rw [ao c] at k;exact bV (ap (by rw [c])) k
  ·rw [aj c] at k;exact bF (fun z=>c (by have z:=ba z;injection z)) k
 rw [aj c2] at k;refine bF (fun z=>c2 (by have z:=ba z;injection z)) ?_;refine ⟨_,rfl,rfl,_,rfl,?_⟩;have q1:(0:Int) < 1000000:=by decide
 by_cases c3:s="+"
 ·rw [ao c3] at k;refine bV (by rw [c3];exact ap rfl) ?_;exact ⟨_,rfl,_,rfl,_,_,rfl,rfl,_,_,rfl,rfl,q1,k⟩
 rw [aj c3] at k;refine bF (fun z=>c3 (by have z:=ba z;injection z)) ?_;refine ⟨_,rfl,rfl,_,rfl,?_⟩
 by_cases c4:s="-"
 ·rw [ao c4] at k;refine bV (by rw [c4];exact ap rfl) ?_;exact ⟨_,rfl,_,rfl,_,_,rfl,rfl,_,_,rfl,rfl,q1,k⟩
 rw [aj c4] at k;refine bF (fun z=>c4 (by have z:=ba z;injection z)) ?_;exact ⟨_,rfl,_,rfl,_,_,rfl,rfl,.inl ⟨by omega,by omega⟩,_,_,rfl,rfl,q1,k⟩
theorem bZ5 (C_Prt:Cl P w K mg base 1 spParts "parts_of") (C_Wo:Cl P w K mg base 1 spWo "worked_out") (m_reversed:mg "reversed"=none):fC P w K mg base "value_of" "value_of" cH2 2 ["term","values"] spVof:=by
 refine fV ["term","values","ready","part","one","other"] fun H Q nd hr h=>?_
 obtain ⟨t,vd,ev,rfl,ht,ok,hz,D0,k⟩:=h;have hu:=jE hr;refine ⟨_,(dB 2 nd (cS eI)
  (aF (xP (cD0 (bQ C_Prt hr (aP (pv 0))) (by rfl) m_reversed) (iF 3 nd)
  (aE (bK (eL cY (bX aJ (pv 3) aB) aH) (aE (cP (fB bg cp cq cE (pv 2) (aP (bX aJ (pv 3) aB))))) (aE (bK (eL cY (bX aJ (pv 3) aB) aH) (aE (cP (fB bg cp cq cE (pv 2) (aP (sZ hu (pv 1) (bX aJ (pv 3) aB)))))) (dB 4 nd (wQ bg jk jl wP (pv 2))
  (dB 5 nd (wQ bg jk jl wP (pv 2))
  (aE (cP (fB bg cp cq cE (pv 2) (aP (bQ C_Wo hr (aA (bX aJ (pv 3) aB) (aA (pv 4) (aP (pv 5))))))))))))))))
  (aE (aL (bX cW (pv 2) aB))))),?_⟩
 refine ⟨bj _,fun l1 hl1=>?_⟩;obtain ⟨H1,e0,s1,h1⟩:=lay hl1 (.lst []);rw [e0];clear e0;refine ⟨_,rfl,t,rfl,ht.ts (.of s1),hz,fun r H2 s2 nr h2=>⟨r,_,rfl,bM.of h2,?_⟩⟩;have s3:=s1.trans s2;have h3:=s2 _ _ h1;have nlr:r≠l1:=fun z=>by rw [z,h1] at nr;cases nr
 have pl:=Tm.pre_len t;refine aS7 (K:=K) (a:=r) (xs:=t.pre.map fun u=>V.ref u.p) (fun i σ G=>∃ (st:List Int) (v3 v4 v5:Option V),σ=[some (.ref t.p),some (.ref vd),some (.ref l1),v3,v4,v5]/\aU H G/\G r=some (.lst (t.pre.map fun u=>V.ref u.p))/\G l1=some (.lst (st.reverse.map V.int))/\run ev (t.pre.reverse.take i) []=some st/\(∀ n∈st,0<=n/\n < 1000000)/\st.length<=i)
  ⟨[],_,_,_,rfl,s3,h2,h3,rfl,fun _ z=>absurd z cz,ai _⟩ (by rintro i σ G _ ⟨_,_,_,_,_,_,e,_⟩;exact bM.of e) ?_ ?_
 ·rintro D' i x σ G hx ⟨st,v3,v4,v5,rfl,s4,g1,g2,hrun,hb,hl⟩;obtain ⟨u,hu,rfl⟩:∃ u,t.pre.reverse[i]?=some u/\x=V.ref u.p:=by
   rw [<- vf,cy] at hx
   cases e:t.pre.reverse[i]? with
   |none=>rw [e] at hx;cases hx
   |some u=>rw [e] at hx;exact ⟨u,rfl,(cx hx).symm⟩
  have mu:u∈t.pre:=List.mem_reverse.mp (br hu);have ui:=(bu.mp hu).1;rw [gp] at ui;obtain ⟨st',e1,e2⟩:=cC4 ev t hu hrun;have hU:=(qP.pre ht u mu).ts (.of s4);have okU:=Tm.ok_pre ok u mu;have nmU:=Tm.names_pre u mu;have bd:=bE8 okU (fun x hx=>D0.bd x (nmU x hx)) hb e1;refine ⟨_,rfl,u.p,_,_,.str u.w,rfl,rfl,aT.of hU.at,at0 _ _,rfl,_,rfl,?_⟩;have sz:(st.reverse.map V.int).length < sizeLine:=by rw [ac,gp];exact aK (by omega)
  generalize hP:u.p=P
  cases u with
  |num p n =>
   obtain rfl:p=P:=hP
   cases e1
   refine bV (ap rfl) ?_;refine ⟨_,rfl,.inl ⟨rfl,_,bM.of g2⟩,_,rfl,p,_,_,.int n,rfl,rfl,aT.of hU,rfl,l1,_,_,rfl,rfl,g2,sz,?_⟩;refine ⟨n :: st,_,_,_,rfl,dF s4 hl1,(aG nlr).trans g1,?_,e2,bd.1,by have:=bd.2;omega⟩;rw [aD,kr,aq];rfl
  |nam p y =>
   obtain rfl:p=P:=hP
   cases e1
   refine bF (fun z=>wNN (ba z)) ?_;refine ⟨_,rfl,p,_,_,.str "name",rfl,rfl,aT.of hU,rfl,rfl,_,rfl,?_⟩;refine bV (ap rfl) ?_;refine ⟨_,rfl,.inl ⟨rfl,_,bM.of g2⟩,_,rfl,_,rfl,p,_,_,.str y,rfl,rfl,aT.of hU,rfl,vd,.int (ev y),rfl,(D0.same s4).get (nmU y (by simp [Tm.names])),l1,_,_,rfl,rfl,g2,sz,?_⟩;refine ⟨ev y :: st,_,_,_,rfl,dF s4 hl1,(aG nlr).trans g1,?_,e2,bd.1,by have:=bd.2;omega⟩;rw [aD,kr,aq];rfl
  |op p s a b =>
   obtain rfl:p=P:=hP;refine bF (fun z=>wON (ba z)) ?_;refine ⟨_,rfl,p,_,_,.str "op",rfl,rfl,aT.of hU.1,rfl,rfl,_,rfl,?_⟩;refine bF (fun z=>wOM (ba z)) ?_;unfold kJ at e1
   match st,e1,g2,hb,hl,bd,e2 with
   |x :: y :: q,e1,g2,hb,hl,bd,e2 =>
    cases e1
    have ex:((x :: y :: q).reverse.map V.int)=(q.reverse.map V.int++[V.int y])++[V.int x]:=by simp
    rw [ex] at g2;have bx:=hb x ah;have by':=hb y (ae _ ah)
    refine ⟨_,rfl,.inl ⟨rfl,_,bM.of g2⟩,l1,_,.int x,rfl,rfl,g2,by simp,?_⟩;rw [mf];have s5:=dF (ys:=q.reverse.map V.int++[V.int y]) s4 hl1;have g3:aM G l1 (.lst (q.reverse.map V.int++[V.int y])) l1=some (.lst (q.reverse.map V.int++[V.int y])):=aD;have g4:aM G l1 (.lst (q.reverse.map V.int++[V.int y])) r=_:=(aG nlr).trans g1;have hU5:aM G l1 (.lst (q.reverse.map V.int++[V.int y])) p=_:=TS.lst g2 _ _ hU.1;generalize aM G l1 (.lst (q.reverse.map V.int++[V.int y]))=G1 at s5 g3 g4 hU5 ⊢;refine ⟨_,rfl,.inl ⟨rfl,_,bM.of g3⟩,l1,_,.int y,rfl,rfl,g3,by simp,?_⟩;rw [mf];have s6:=dF (ys:=q.reverse.map V.int) s5 hl1;have g5:aM G1 l1 (.lst (q.reverse.map V.int)) l1=some (.lst (q.reverse.map V.int)):=aD;have g6:aM G1 l1 (.lst (q.reverse.map V.int)) r=_:=(aG nlr).trans g4;have hU6:aM G1 l1 (.lst (q.reverse.map V.int)) p=_:=TS.lst g3 _ _ hU5;generalize aM G1 l1 (.lst (q.reverse.map V.int))=G2 at s6 g5 g6 hU6 ⊢
    refine ⟨_,rfl,.inl ⟨rfl,_,bM.of g5⟩,_,rfl,p,_,_,.str s,rfl,rfl,aT.of hU6,rfl,_,rfl,_,rfl,s,x,y,rfl,okU.1,bx.1,bx.2,by'.1,by'.2,l1,_,_,rfl,rfl,g5,aK (by rw [ac,gp];simp only [List.length_cons] at hl;omega),?_⟩;refine ⟨wo s x y :: q,_,_,_,rfl,dF s6 hl1,(aG nlr).trans g6,?_,e2,bd.1,by have:=bd.2;simp only [List.length_cons] at *;omega⟩;rw [aD,kr,aq];rfl
 ·rintro σ G ⟨st,v3,v4,v5,rfl,s4,g1,g2,hrun,hb,hl⟩;rw [ac, <- gp,dy,qK] at hrun
  cases hrun
  exact ⟨_,rfl,l1,_,_,.int (t.val ev),rfl,rfl,bM.of g2,rfl,k G s4⟩
theorem cA1 {cL:Addr}(T:RnT K cL)  : fC P w K mg base "__init__" "Run.__init__" cL4 1 ["self","coming","known","told","share"] (aN6 K cL):=by
 refine fV ["self","coming","known","told","share"] fun H Q nd hr h=>?_
 obtain ⟨x,dx,kd,tl,sp,cv,rfl,hx,k⟩:=h;refine ⟨_,(aF (lT (pv 0) (pv 1) rfl)
  (aF (lT (pv 0) (pv 2) rfl)
  (aF (lT (pv 0) (pv 3) rfl)
  (aE (lT (pv 0) (pv 4) rfl))))),?_⟩
 refine ⟨_,rfl,_,rfl,x,cL,dx,_,rfl,hx,T.cl,T.n1,by decide,?_⟩;refine ⟨_,rfl,_,rfl,x,cL,dx,_,rfl,aD,T.cl,T.n2,by show 1 < 1000;decide,?_⟩;rw [qH];refine ⟨_,rfl,_,rfl,x,cL,dx,_,rfl,aD,T.cl,T.n3,cg (aU2 (aU2 (n:=0) (ai _))) (by decide),?_⟩;rw [qH];refine ⟨_,rfl,_,rfl,x,cL,dx,_,rfl,aD,T.cl,T.n4,cg (aU2 (aU2 (aU2 (n:=0) (ai _)))) (by decide),?_⟩;rw [qH,aJ6];exact k _ (fun b hb=>aG hb) aD
theorem bY4 (m_reversed:mg "reversed"=none):fC P w K mg base "put_ahead" "put_ahead" cK2 1 ["rows","coming"] spPut:=by
 refine fV ["rows","coming","row"] fun H Q nd hr h=>?_
 obtain ⟨pa,cv,a,rs,rfl,ha,hc,k⟩:=h;refine ⟨_,(aF (xP (bL9 (pv 0) (by rfl) m_reversed) (iF 2 nd)
  (aE (zO 1 nd (aS (aA (pv 2) (aP (pv 1)))))))
  (aE (aL (pv 1)))),?_⟩
 refine ⟨_,rfl,pa,_,rfl,aT.of ha,?_⟩;refine aP9 (K:=K) (a:=pa) (xs:=bT a) (fun i σ G=>∃ (cv':V) (v2:Option V),σ=[some (.ref pa),some cv',v2]/\aU H G/\tH G cv' (a.drop (a.length - i)++rs))
  ⟨cv,_,rfl,.refl _,by rw [zn,List.drop_length];exact hc⟩ (by rintro i σ G _ ⟨_,_,_,s,_⟩;exact aT.of (s _ _ ha)) ?_ ?_
 ·rintro D' i v σ G hv ⟨cv',v2,rfl,s,hc'⟩;unfold bT at hv;rw [<- vf,cy] at hv;obtain ⟨r,hr,rfl⟩:=gh.mp hv;have hi:=(bu.mp hr).1;rw [gp] at hi;rw [pp hi] at hr;refine ⟨_,rfl,_,rfl,dH,fun t ht=>⟨.ref t,_,rfl,s.trans (aC ht _),?_⟩⟩;have e:a.drop (a.length - (i+1))=r :: a.drop (a.length - i):=by
   have h2:=bu.mp hr;rw [show a.length - (i+1)=a.length - 1 - i by omega,mq h2.1,h2.2,show a.length - 1 - i+1=a.length - i by omega]
  rw [e];exact ⟨t,cv',rfl,aD,hc'.ts (.of (aC ht _))⟩
 ·rintro σ G ⟨cv',v2,rfl,s,hc'⟩;rw [show a.length - (bT a).length=0 by unfold bT;rw [ac];omega,rh] at hc';exact ⟨_,rfl,k _ _ s hc'⟩
theorem bM2 {cL:Addr}(T:RnT K cL)  (C_Vof:Cl P w K mg base 2 spVof "value_of") (C_Put:Cl P w K mg base 1 spPut "put_ahead") (m_range:mg "range"=none):fC P w K mg base "take_row" "take_row" bR5 3 ["run","row"] (aS2 cL):=by
 refine fV ["run","row","rows","time"] fun H Q nd hr h=>?_
 obtain ⟨x,kd,tl,NM,KS,cs,M,ks,r,rs,e,td,sh,rfl,h,hw,nt,hN,gk,k⟩:=h;have hu:=jE hr;refine ⟨_,(aE (bK (eL cY (bX aJ (pv 1) aB) aH) (aE (pdp hu (eO (pv 0) rfl) (bX aJ (pv 1) aB) (bQ C_Vof hr (aA (bX aJ (pv 1) aB) (aP (eO (pv 0) rfl)))))) (aE (bK (eL cY (bX aJ (pv 1) aB) aH) (aE (cP (fB bg cp cq cE (eO (pv 0) rfl) (aP (bQ C_Vof hr (aA (bX aJ (pv 1) aB) (aP (eO (pv 0) rfl)))))))) (aE (bK (eL cY (bX aJ (pv 1) aB) aH) (dB 2 nd (gS (eL aS1 (bQ C_Vof hr (aA (bX aJ (pv 1) aB) (aP (eO (pv 0) rfl)))) aB) (bX aJ (pv 1) aB) (bX aJ (pv 1) aB))
  (aE (lT (pv 0) (bQ C_Put hr (aA (pv 2) (aP (eO (pv 0) rfl)))) rfl))) (aE (xP (dL (by rfl) m_range (aP (bX aJ (pv 1) aB))) (iF 3 nd)
  (aE (lT (pv 0) (bQ C_Put hr (aA (bX aJ (pv 1) aB) (aP (eO (pv 0) rfl)))) rfl)))))))))),?_⟩
 obtain ⟨dx,cv,sp,hX,hc,hs⟩:=h.ex;have ok:=gk.g.ok;have kn:=gk.g.kn;have at4:=nJ cv kd tl sp;have tl4:=gk.g.tl;have tlS:(td.map V.int).length < sizeLine:=by rw [ac];exact aK (by show td.length<=1000;have:td.length+eG (r :: rs)<=4:=tl4;omega)
 cases r with
 |thr p y T a3 wss=>exact absurd trivial nt
 |lt p y t =>
  refine ⟨_,rfl,p,_,_,.str "let",rfl,rfl,aT.of hw.1,rfl,rfl,_,rfl,bV (ap rfl) ?_⟩;refine ⟨_,rfl,p,_,_,.ref t.p,rfl,rfl,aT.of hw.1,rfl,_,rfl,x,cL,dx,_,_,rfl,hX,T.cl,T.n2,at4.2.1,t,kd,e,rfl,hw.2,ok.1.1.1,ok.1.1.2,gk.g.dv h.kn kn.1,fun H1 s1=>?_⟩;have h1:=h.same s1;refine ⟨_,rfl,x,cL,dx,_,_,rfl,s1 _ _ hX,T.cl,T.n2,at4.2.1,_,rfl,p,_,_,.str y,rfl,rfl,aT.of (s1 _ _ hw.1),rfl,kd,_,rfl,nA.k (k:=Sum.inr y) h1.kn (bC7 h.nd h.sb hN),?_⟩;obtain ⟨h2,o2⟩:=cM7 (v:=t.val e) h1 ok.1.2;obtain ⟨g2,n2,l2⟩:=bG6 gk.g;exact k _ _ _ h2 ⟨g2.sbs aM3 qC,gk.k⟩ n2 l2 ((cU.of s1).trans o2)
 |tell p t =>
  refine ⟨_,rfl,p,_,_,.str "tell",rfl,rfl,aT.of hw.1,rfl,rfl,_,rfl,bF (by decide +kernel) ?_⟩;refine ⟨_,rfl,p,_,_,.str "tell",rfl,rfl,aT.of hw.1,rfl,rfl,_,rfl,bV (ap rfl) ?_⟩;refine ⟨_,rfl,x,cL,dx,_,_,rfl,hX,T.cl,T.n3,at4.2.2.1,.inl ⟨rfl,_,bM.of h.tl⟩,_,rfl,p,_,_,.ref t.p,rfl,rfl,aT.of hw.1,rfl,_,rfl,x,cL,dx,_,_,rfl,hX,T.cl,T.n2,at4.2.1,t,kd,e,rfl,hw.2,ok.1.1,ok.1.2,gk.g.dv h.kn kn.1,fun H1 s1=>?_⟩;have h1:=h.same s1;refine ⟨tl,_,_,rfl,rfl,h1.tl,tlS,?_⟩;obtain ⟨h2,o2⟩:=bL1 (v:=t.val e) h1;obtain ⟨g2,n2,l2⟩:=aN9 gk.g;exact k _ _ _ h2 ⟨g2,gk.k⟩ n2 l2 ((cU.of s1).trans o2)
 |when p pa pb t a b =>
  obtain ⟨hp,ht,ha,hb,ra,rb⟩:=id hw;refine ⟨_,rfl,p,_,_,.str "when",rfl,rfl,aT.of hp,rfl,rfl,_,rfl,bF (by decide +kernel) ?_⟩;refine ⟨_,rfl,p,_,_,.str "when",rfl,rfl,aT.of hp,rfl,rfl,_,rfl,bF (by decide +kernel) ?_⟩;refine ⟨_,rfl,p,_,_,.str "when",rfl,rfl,aT.of hp,rfl,rfl,_,rfl,bV (ap rfl) ?_⟩;refine ⟨_,rfl,p,_,_,.ref t.p,rfl,rfl,aT.of hp,rfl,_,rfl,x,cL,dx,_,_,rfl,hX,T.cl,T.n2,at4.2.1,t,kd,e,rfl,ht,ok.1.1.1,ok.1.1.2,gk.g.dv h.kn kn.1.1,fun H1 s1=>?_⟩;have h1:=h.same s1;refine ⟨rfl,_,rfl,?_⟩;have fin:∀ (pr:Addr) (rr:List Rw),H1 pr=some (.tup (bT rr))->bY H1 rr->rr=(if t.val e=0 then b else a)->(∀ q∈cC rr,q∈cC a++cC b)->∀ H2 cv2,aU H1 H2->tH H2 cv2 (rr++rs)->Q .non (aM H2 x (.ins cL dx (jJ cv2 kd tl sp))):=fun pr rr hpr hrr er hq H2 cv2 s2 hc2=>by
   have h2:=h1.same s2;obtain ⟨h3,o3⟩:=vS h2 (s2 _ _ (s1 _ _ hX)) hc2 (bY.app (bY.ts (.of s2) _ hrr) h2.rw);obtain ⟨g3,n3,l3⟩:=aQ8 gk.g er;refine k _ _ _ h3 ⟨g3,fun q hq'=>gk.k q ?_⟩ n3 l3 ((cU.of (s1.trans s2)).trans o3);have hq':q∈cC (rr++rs):=hq';rw [iR] at hq';show q∈(cC a++cC b)++cC rs;rcases bf.mp hq' with z | z
   ·exact dj _ (hq q z)
   ·exact bh _ z
  by_cases c:t.val e=0
  ·refine bF (by rw [c];decide) ?_;refine ⟨_,rfl,p,_,_,.ref pb,rfl,rfl,aT.of (s1 _ _ hp),rfl,?_⟩;refine ⟨_,rfl,_,rfl,x,cL,dx,_,_,rfl,s1 _ _ hX,T.cl,T.n1,at4.1,pb,cv,b,rs,rfl,s1 _ _ hb,hc.ts (.of s1),fun H2 cv2 s2 hc2=>?_⟩;refine ⟨_,rfl,x,cL,dx,_,rfl,s2 _ _ (s1 _ _ hX),T.cl,T.n1,by show 4 < 1000;decide,?_⟩;rw [pZ];exact fin pb b (s1 _ _ hb) (bY.ts (.of s1) _ rb) (by rw [ao c]) (fun q hq=>bh _ hq) H2 cv2 s2 hc2
  ·refine bV (by simpa using c) ?_;refine ⟨_,rfl,p,_,_,.ref pa,rfl,rfl,aT.of (s1 _ _ hp),rfl,?_⟩;refine ⟨_,rfl,_,rfl,x,cL,dx,_,_,rfl,s1 _ _ hX,T.cl,T.n1,at4.1,pa,cv,a,rs,rfl,s1 _ _ ha,hc.ts (.of s1),fun H2 cv2 s2 hc2=>?_⟩;refine ⟨_,rfl,x,cL,dx,_,rfl,s2 _ _ (s1 _ _ hX),T.cl,T.n1,by show 4 < 1000;decide,?_⟩;rw [pZ];exact fin pa a (s1 _ _ ha) (bY.ts (.of s1) _ ra) (by rw [aj c]) (fun q hq=>dj _ hq) H2 cv2 s2 hc2
 |times p pb n b =>
  obtain ⟨hp,hb,rb⟩:=id hw;refine ⟨_,rfl,p,_,_,.str "times",rfl,rfl,aT.of hp,rfl,rfl,_,rfl,bF (by decide +kernel) ?_⟩;refine ⟨_,rfl,p,_,_,.str "times",rfl,rfl,aT.of hp,rfl,rfl,_,rfl,bF (by decide +kernel) ?_⟩;refine ⟨_,rfl,p,_,_,.str "times",rfl,rfl,aT.of hp,rfl,rfl,_,rfl,bF (by decide +kernel) ?_⟩;have n100:=kn.1.1.2;refine ⟨_,rfl,p,_,_,.int n,rfl,rfl,aT.of hp,rfl,n,rfl,by omega,by omega,?_⟩;refine gW (n:=n) (fun i σ G=>∃ (v3:Option V),σ=[some (.ref x),some (.ref p),none,v3]/\kB cL NM G x kd tl ks ⟨mF i b++rs,e,td,sh⟩/\cU [x,kd,tl] H G/\TS H G) ⟨_,rfl,h,.refl _,fun _ _ z=>z⟩ ?_ ?_
  ·rintro D' i σ G hi ⟨v3,rfl,hg,og,tg⟩;obtain ⟨dx,cv,sp,hX,hc,hs⟩:=hg.ex;have at4:=nJ cv kd tl sp;refine ⟨_,rfl,p,_,_,.ref pb,rfl,rfl,aT.of (tg _ _ hp),rfl,_,rfl,x,cL,dx,_,_,rfl,hX,T.cl,T.n1,at4.1,pb,cv,b,_,rfl,tg _ _ hb,hc,fun H2 cv2 s2 hc2=>?_⟩;refine ⟨_,rfl,x,cL,dx,_,rfl,s2 _ _ hX,T.cl,T.n1,by show 4 < 1000;decide,?_⟩;rw [pZ];have h2:=hg.same s2;have t2:=tg.trans (.of s2);obtain ⟨h3,o3⟩:=vS h2 (s2 _ _ hX) hc2 (bY.app (bY.ts t2 _ rb) h2.rw);rw [<- jr] at h3;exact ⟨_,rfl,h3,og.trans ((cU.of s2).trans o3),t2.trans (zY (s2 _ _ hX) (by intro xs z;cases z))⟩
  ·rintro σ G ⟨v3,rfl,hg,og,tg⟩;obtain ⟨g3,n3,l3⟩:=aC7 gk.g;refine k _ _ _ hg ⟨g3,fun q hq=>gk.k q ?_⟩ n3 l3 og;have hq:q∈cC (mF n b++rs):=hq;rw [iR] at hq;show q∈cC b++cC rs;rcases bf.mp hq with z | z
   ·exact dj _ (tM z)
   ·exact bh _ z
theorem cB8 {cL:Addr}(T:RnT K cL) {cT:Addr}(m_THROWS:mg "THROWS"=some (.ref cT)) (hT:∀ H,aT K H cT (aX1.map V.str))  (C_Take:Cl P w K mg base 3 (aS2 cL) "take_row"):fC P w K mg base "next_throw" "next_throw" cM1 4 ["run"] (bE5 cL):=by
 refine fV ["run","row"] fun H Q nd hr h=>?_
 obtain ⟨x,kd,tl,NM,KS,cs,M,ks,rn,rfl,h,hN,gk,k0,k⟩:=h;refine ⟨_,(aF (fY ib (aD6 (bO2 (eO (pv 0) rfl)))
  (dB 1 nd (bX aJ (eO (pv 0) rfl) aB)
  (aF (lT (pv 0) (bX aJ (eO (pv 0) rfl) aB) rfl)
  (aF (bK (eL fN (bX aJ (pv 1) aB) (pgl m_THROWS)) (aE (aL (pv 1))) aV)
  (aE (cP (bQ C_Take hr (aA (pv 0) (aP (pv 1))))))))))
  (aE (aL aU0))),?_⟩
 refine ⟨fun m σ G=>∃ (ks':List Str) (rn':Rn) (v1:Option V),σ=[some (.ref x),v1]/\kB cL NM G x kd tl ks' rn'/\GdK NM KS cs M ks' rn'/\Nx cs rn rn'/\cU [x,kd,tl] H G/\m=bD rn'.rs,
  ⟨_,ks,rn,_,rfl,h,gk,.rfl',.refl _,rfl⟩,?_⟩
 rintro m σ G ⟨ks',⟨rs,e,td,sh⟩,v1,rfl,hg,gg,ng,og,rfl⟩;obtain ⟨dx,cv,sp,hX,hc,hs⟩:=hg.ex;have at4:=nJ cv kd tl sp;refine ⟨_,rfl,x,cL,dx,_,_,rfl,hX,T.cl,T.n1,at4.1,_,rfl,?_⟩
 cases rs with
 |nil =>
  obtain rfl:cv= .non:=hc;refine bF (by decide) ?_;exact k0 _ _ _ hg rfl gg ng og
 |cons r rs =>
  obtain ⟨c,v',rfl,h1,h2⟩:=hc;refine bV rfl ?_;refine ⟨fun σ' G'=>∃ (ks':List Str) (rn':Rn) (v1:Option V),σ'=[some (.ref x),v1]/\kB cL NM G' x kd tl ks' rn'/\GdK NM KS cs M ks' rn'/\Nx cs rn rn'/\cU [x,kd,tl] H G'/\bD rn'.rs < bD (r :: rs),
   (by rintro σ' G' ⟨ks2,rn2,v2,e1,e2,e3,e4,e5,e6⟩;exact ⟨_,e6,ks2,rn2,v2,e1,e2,e3,e4,e5,rfl⟩),?_⟩
  refine ⟨_,rfl,x,cL,dx,_,_,rfl,hX,T.cl,T.n1,at4.1,c,_,_,.ref r.p,rfl,rfl,aT.of h1,rfl,?_⟩;refine ⟨_,rfl,x,cL,dx,_,_,rfl,hX,T.cl,T.n1,at4.1,c,_,_,v',rfl,rfl,aT.of h1,rfl,_,rfl,x,cL,dx,_,rfl,hX,T.cl,T.n1,by show 4 < 1000;decide,?_⟩;rw [pZ];have tu:=zY (o':= .ins cL dx (jJ v' kd tl sp)) hX (by intro xs z;cases z);obtain ⟨h3,o3⟩:=vS hg hX h2 hg.rw.2;have hw:=pL.ts tu _ hg.rw.1;replace og:=og.trans o3;generalize aM G x (.ins cL dx (jJ v' kd tl sp))=G1 at h3 og hw ⊢
  cases r with
  |thr p y T a3 wss =>
   obtain ⟨us,hp⟩:=hw.1.at;refine ⟨_,rfl,p,_,_,.str T.wd,rfl,rfl,aT.of hp,at0 _ _,cT,_,rfl,.inr (hT _),rfl,dG _,_,rfl,qQ (aX4 T) ?_⟩;exact ⟨_,rfl,k _ _ _ p y T a3 wss h3 hw gg ng og⟩
  |lt p y t =>
   refine ⟨_,rfl,p,_,_,.str "let",rfl,rfl,aT.of hw.1,at0 _ _,cT,_,rfl,.inr (hT _),rfl,dG _,_,rfl,iP (by decide +kernel) ?_⟩;exact ⟨_,rfl,_,rfl,x,kd,tl,NM,KS,cs,M,ks',_,rs,e,td,sh,rfl,h3,hw,id,hN,gg,fun H2 ks2 rn2 h4 g4 n4 l4 o4=>⟨ks2,rn2,_,rfl,h4,g4,ng.tr n4,og.trans o4,l4⟩⟩
  |tell p t =>
   refine ⟨_,rfl,p,_,_,.str "tell",rfl,rfl,aT.of hw.1,at0 _ _,cT,_,rfl,.inr (hT _),rfl,dG _,_,rfl,iP (by decide +kernel) ?_⟩;exact ⟨_,rfl,_,rfl,x,kd,tl,NM,KS,cs,M,ks',_,rs,e,td,sh,rfl,h3,hw,id,hN,gg,fun H2 ks2 rn2 h4 g4 n4 l4 o4=>⟨ks2,rn2,_,rfl,h4,g4,ng.tr n4,og.trans o4,l4⟩⟩
  |when p pa pb t a b =>
   refine ⟨_,rfl,p,_,_,.str "when",rfl,rfl,aT.of hw.1,at0 _ _,cT,_,rfl,.inr (hT _),rfl,dG _,_,rfl,iP (by decide +kernel) ?_⟩;exact ⟨_,rfl,_,rfl,x,kd,tl,NM,KS,cs,M,ks',_,rs,e,td,sh,rfl,h3,hw,id,hN,gg,fun H2 ks2 rn2 h4 g4 n4 l4 o4=>⟨ks2,rn2,_,rfl,h4,g4,ng.tr n4,og.trans o4,l4⟩⟩
  |times p pb n b =>
   refine ⟨_,rfl,p,_,_,.str "times",rfl,rfl,aT.of hw.1,at0 _ _,cT,_,rfl,.inr (hT _),rfl,dG _,_,rfl,iP (by decide +kernel) ?_⟩;exact ⟨_,rfl,_,rfl,x,kd,tl,NM,KS,cs,M,ks',_,rs,e,td,sh,rfl,h3,hw,id,hN,gg,fun H2 ks2 rn2 h4 g4 n4 l4 o4=>⟨ks2,rn2,_,rfl,h4,g4,ng.tr n4,og.trans o4,l4⟩⟩
theorem bX5  : fC P w K mg base "common_divisor" "common_divisor" cE9 1 ["one","other"] spGcd:=by
 refine fV ["one","other","remainder"] fun H Q nd hr h=>?_
 obtain ⟨a,b,rfl,ha,hb,k⟩:=h;refine ⟨_,(aF (fY ib (eL aS1 (pv 1) aB)
  (dB 2 nd (aI fF (pv 0) (pv 1))
  (dB 0 nd (pv 1)
  (aE (zO 1 nd (pv 2))))))
  (aE (aL (pv 0)))),?_⟩
 refine ⟨fun j σ H1=>H1=H/\∃ (x y:Int) (r:Option V),σ=[some (.int x),some (.int y),r]/\0<=x/\0<=y/\gI x y=gI a b/\j=y.toNat,⟨_,rfl,a,b,none,rfl,ha,hb,rfl,rfl⟩,?_⟩;rintro j σ H1 ⟨rfl,x,y,r,rfl,hx,hy,hg,rfl⟩;refine ⟨_,rfl,rfl,_,rfl,?_⟩
 by_cases y0:y=0
 ·subst y0;refine cM9 rfl ⟨_,rfl,?_⟩;rw [<- hg,bM8 hx] at k;exact k
 ·have yp:0 < y:=by omega
  have e:(!decide (V.int y=V.int 0))=true:=by simp [y0]
  rw [e];refine ⟨fun σ' H'=>H'=H1/\∃ r',σ'=[some (.int y),some (.int (x % y)),r'],fun σ' H' ⟨e1,r',e2⟩=>⟨(x % y).toNat,?_,e1,y,x % y,r',e2,hy,ia _ y0,(aW4 hx yp).trans hg,rfl⟩,?_⟩
  ·have:=gr x yp;have:=ia x y0;omega
  ·exact ⟨_,rfl,_,rfl,_,_,rfl,rfl,yp,_,rfl,_,rfl,rfl,_,rfl⟩
theorem bV6 (C_Gcd:Cl P w K mg base 1 spGcd "common_divisor"):fC P w K mg base "lowest" "lowest" cK6 2 ["top","bottom"] spLowY:=by
 refine fV ["top","bottom","divisor"] fun H Q nd hr h=>?_
 obtain ⟨a,b,rfl,ha,hb,hz,k⟩:=h;refine ⟨_,(dB 2 nd (bQ C_Gcd hr (aA (pv 0) (aP (pv 1))))
  (aE (aL (aS (aA (aI gQ (pv 0) (pv 2)) (aP (aI gQ (pv 1) (pv 2)))))))),?_⟩
 have g0:0 < gI a b:=aI1 hb;obtain ⟨n,hn,hn2⟩:=hz;have g1:∃ n,cK n (gI a b)/\n<=8990:=⟨n,xG hn (by omega) (cH5 hb),hn2⟩
 refine ⟨_,rfl,_,rfl,a,b,rfl,ha,by omega,?_⟩;refine ⟨_,rfl,_,rfl,_,_,rfl,rfl,⟨g0,g1⟩,_,rfl,_,rfl,_,_,rfl,rfl,⟨g0,g1⟩,dH,fun p hp=>k p hp⟩
theorem bW2 (C_Low:Cl P w K mg base 2 spLowY "lowest"):fC P w K mg base "added" "added" cE2 3 ["one","other"] spAddX:=by
 refine fV ["one","other"] fun H Q nd hr h=>?_
 obtain ⟨p,q,⟨a,b⟩,⟨c,d⟩,m,n,rfl,hp,hq,⟨a0,b1,ab,bb⟩,⟨c0,d1,cb,db⟩,hm,hn,k⟩:=h;refine ⟨_,(aE (aL (bQ C_Low hr (aA (aI bE (aI fP (bX aJ (pv 0) aB) (bX aJ (pv 1) aB)) (aI fP (bX aJ (pv 1) aB) (bX aJ (pv 0) aB))) (aP (aI fP (bX aJ (pv 0) aB) (bX aJ (pv 1) aB))))))),?_⟩;replace a0:0<=a:=a0;replace b1:1<=b:=b1;replace c0:0<=c:=c0;replace d1:1<=d:=d1;have q1:0<=a * d+c * b:=Int.add_nonneg (bz a0 (by omega)) (bz c0 (by omega));have q2:1<=b * d:=df (by omega) (by omega);refine ⟨_,rfl,p,_,_,_,rfl,rfl,aT.of hp,ix0 a b,_,rfl,q,_,_,_,rfl,rfl,aT.of hq,zF c d,_,_,rfl,rfl,⟨m,n,ab,db,by omega,by omega⟩,?_⟩;refine ⟨_,rfl,q,_,_,_,rfl,rfl,aT.of hq,ix0 c d,_,rfl,p,_,_,_,rfl,rfl,aT.of hp,zF a b,_,_,rfl,rfl,⟨n,m,cb,bb,by omega,by omega⟩,_,_,rfl,rfl,?_⟩;refine ⟨_,rfl,p,_,_,_,rfl,rfl,aT.of hp,zF a b,_,rfl,q,_,_,_,rfl,rfl,aT.of hq,zF c d,_,_,rfl,rfl,⟨m,n,bb,db,by omega,by omega⟩,?_⟩
 exact ⟨_,_,rfl,q1,q2,⟨m+n,bb.mul db,by omega⟩,k⟩
theorem aW3 (C_Low:Cl P w K mg base 2 spLowY "lowest"):fC P w K mg base "times" "times" aT6 3 ["one","other"] spTimesX:=by
 refine fV ["one","other"] fun H Q nd hr h=>?_
 obtain ⟨p,q,⟨a,b⟩,⟨c,d⟩,rfl,hp,hq,⟨a0,b1,ab,bb⟩,⟨c0,d1,cb,db⟩,k⟩:=h;refine ⟨_,(aE (aL (bQ C_Low hr (aA (aI fP (bX aJ (pv 0) aB) (bX aJ (pv 1) aB)) (aP (aI fP (bX aJ (pv 0) aB) (bX aJ (pv 1) aB))))))),?_⟩;replace a0:0<=a:=a0;replace b1:1<=b:=b1;replace c0:0<=c:=c0;replace d1:1<=d:=d1;have q2:1<=b * d:=df (by omega) (by omega);refine ⟨_,rfl,p,_,_,_,rfl,rfl,aT.of hp,ix0 a b,_,rfl,q,_,_,_,rfl,rfl,aT.of hq,ix0 c d,_,_,rfl,rfl,⟨900,900,ab,cb,by decide,by decide⟩,?_⟩;refine ⟨_,rfl,p,_,_,_,rfl,rfl,aT.of hp,zF a b,_,rfl,q,_,_,_,rfl,rfl,aT.of hq,zF c d,_,_,rfl,rfl,⟨900,900,bb,db,by decide,by decide⟩,?_⟩;exact ⟨_,_,rfl,bz a0 c0,q2,⟨900+900,bb.mul db,by decide⟩,k⟩
theorem bI1 (C_Add:Cl P w K mg base 3 spAddX "added") (m_sorted:mg "sorted"=none) (m_tuple:mg "tuple"=none):fC P w K mg base "merged" "merged" bP3 4 ["pairs"] spMrg:=by
 refine fV ["pairs","totals","pair","answers"] fun H Q nd hr h=>?_
 obtain ⟨b,l,us,es,rfl,hl,tw,h60,fx,k⟩:=h;have hu:=jE hr;have hr1:dE 1 _:=hr.mono (by decide);have hr3:dE 3 _:=hr.mono (by decide);refine ⟨_,(dB 1 nd aT5
  (aF (xP (lA (pv 0)) (iF 2 nd)
  (aE (pdp hu (pv 1) (bX aJ (pv 2) aB) (bQ C_Add hr (aA (aU8 hu (pv 1) (bX aJ (pv 2) aB) (aS (aA aB (aP aB))) ⟨rfl,rfl,rfl,rfl⟩) (aP (bX aJ (pv 2) aB)))))))
  (dB 3 nd (sY (aF9 hr1) m_sorted PyProof.Rows.boot_sorted (aP (eV ["answer","totals"] [none,some 1] (bD1 (pv 1)) (fun _ _ _ _=>(iF 0)) (fun _ _ _ _=>(bD0 (eL (cR6 K hr1) (sZ hu (pv 1) (pv 0)) (aS (aA aB (aP aB)))))) (fun _ _ _ _=>(pv 0)))))
  (aE (aL (pct bR m_tuple eg (aP (eV ["answer","totals"] [none,some 1] (lA (pv 3)) (fun _ _ _ _=>(iF 0)) (fun _ _ _ _=>fM) (fun _ _ _ _=>(aS (aA (pv 0) (aP (sZ hu (pv 1) (pv 0)))))))))))))),?_⟩
 have ul:=tw.length;refine cN9 b fun d u hd Dh=>?_
 refine ⟨_,rfl,l,rfl,⟨_,bM.of (aC hd _ _ _ hl)⟩,sK (K:=K) (a:=l) (xs:=us) (fun i σ H1=>∃ ks u v2,σ=[some (.ref l),some (.ref d),v2,none]/\aU H H1/\H1 d=some u/\tF b H1 u ks ((es.take i).foldl eA fun _=>none)/\ks.length<=i)
  ⟨[],u,_,rfl,aC hd _,aD,Dh,ai _⟩ (by rintro i σ H1 _ ⟨_,_,_,_,e,_⟩;exact bM.of (e _ _ hl)) ?_ ?_⟩
 ·rintro i v σ H1 hv ⟨ks,u,v2,rfl,s1,hd1,dh,hkl⟩;obtain ⟨e,he,p,x,q,rfl,hp,hx,hq⟩:=tw.at hv;have hi:i < es.length:=(bu.mp he).1;have fe:=fx.1 e (br he);have bx:=fx.2 i;rw [lS he,sR];generalize (es.take i).foldl eA (fun _=>none)=T at dh bx ⊢;refine ⟨_,rfl,d,rfl,dh.isD (.inl hd1),_,rfl,p,_,_,x,rfl,rfl,aT.of (s1 _ _ hp),rfl,?_⟩;refine ⟨dH,fun t0 ht0=>?_⟩;have s2:=s1.trans (aC ht0 (.tup [.int 0,.int 1]));have hd2:=aC ht0 (.tup [.int 0,.int 1]) _ _ hd1;have dh2:=dh.ts (.of (aC ht0 (.tup [.int 0,.int 1])));have h01:aY (aM H1 t0 (.tup [.int 0,.int 1])) t0 0 1:=aD;generalize aM H1 t0 (.tup [.int 0,.int 1])=H2 at s2 hd2 dh2 h01 ⊢;obtain ⟨o,dg,og⟩:=dh2.get (.inl hd2) (hx.ts (.of s2));obtain ⟨g,hg,tg⟩:=aO2 og h01;have fg:sL 900 ((T e.1).getD (0,1)):=by
   cases c:T e.1 with
   |none=>exact cF3.mono (by decide)
   |some f=>exact bx _ _ c
  refine ⟨o,dg,_,rfl,p,_,_,.ref q,rfl,rfl,aT.of (s2 _ _ hp),rfl,?_⟩;refine ⟨g,q,_,e.2,900,900,by rw [hg];rfl,tg,s2 _ _ hq,fg,fe,by decide,by decide,fun r hr'=>?_⟩;have hr3:aY (aM H2 r (.tup [.int (eF ((T e.1).getD (0,1)) e.2).1,.int (eF ((T e.1).getD (0,1)) e.2).2])) r (eF ((T e.1).getD (0,1)) e.2).1 (eF ((T e.1).getD (0,1)) e.2).2:=aD;have s3':=aC hr' (.tup [.int (eF ((T e.1).getD (0,1)) e.2).1,.int (eF ((T e.1).getD (0,1)) e.2).2]);generalize aM H2 r (.tup [.int (eF ((T e.1).getD (0,1)) e.2).1,.int (eF ((T e.1).getD (0,1)) e.2).2])=H3 at s3' hr3 ⊢;have s3:=s2.trans s3';obtain ⟨u',dp,dh4⟩:=(dh2.ts (.of s3')).put (s3' _ _ hd2) hr3 (aK (by omega)) (hx.ts (.of s3));refine ⟨_,rfl,_,rfl,p,_,_,x,rfl,rfl,aT.of (s3 _ _ hp),rfl,d,_,rfl,dp,?_⟩;refine ⟨xI ks e.1,u',_,rfl,zN s3 hd,aD,dh4,bv (bD6 _ _) (by omega)⟩
 ·rintro σ H1 ⟨ks,u,v2,rfl,s1,hd1,dh,hkl⟩;rw [ul,dy] at dh;have eT:es.foldl eA (fun _=>none)=oQ es:=rfl;rw [eT] at dh;have tm:∀ a f,oQ es a=some f->gdA b a:=fun a f h=>by
   obtain ⟨e,he,rfl⟩:=bH0 h;obtain ⟨v,p,x,q,_,_,hx,_⟩:=aA5 tw he;exact aT3 hx
  generalize oQ es=T at dh k tm;clear eT;refine cM6 hd1 (fun F hF=>⟨_,rfl,hF⟩) dh fun o J hJ=>?_
  have s2:aU H (aM H1 d (.frz o u)):=zN s1 hd;have hd2:aM H1 d (.frz o u) d=some (.frz o u):=aD;have dh2:=dh.ts (xF (u':= .frz o u) hd1 dh.not_tup);generalize aM H1 d (.frz o u)=H2 at s2 hd2 dh2 ⊢;refine bU9 (o:=o) (u:=u) (fun i zs σ H3=>aU H2 H3/\(∃ v,σ=[v,some (.ref d)])/\dO (xO b H3) zs ((ks.take i).filter (lI T))) (aK (by omega)) ⟨aU.refl _,⟨_,rfl⟩,trivial⟩
   (fun i zs σ H3 ⟨_,_,e⟩=>by
    rw [e.length];exact bv (pz _ _) (by rw [dk];omega)) (by rintro i zs σ H3 _ ⟨e,_⟩;exact e _ _ hd2) hJ dh.gd ?_ ?_
  ·rintro i a x zs σ H3 ha ax ⟨s3,⟨v',rfl⟩,tw3⟩;obtain ⟨f,hf⟩:=(dh.mem a (aT3 ax)).mp (br ha);obtain ⟨o',dg,og⟩:=(dh2.ts (.of s3)).get (.inr ⟨o,s3 _ _ hd2⟩) ax;rw [hf] at og;obtain ⟨q,rfl,hq⟩:=uL og;refine ⟨_,rfl,_,rfl,d,.ref q,rfl,dg,?_⟩;refine ⟨dH,fun t0 ht0=>?_⟩;have s4:=aC ht0 (.tup [.int 0,.int 1]);refine ⟨oY f.1 f.2,oY 0 1,rX (s4 _ _ hq),rX aD,rfl,rfl,rfl,_,rfl,?_⟩;rw [cH ha,sv];have tw4:=tw3.mono fun _ _ z=>xO.ts (.of s4) z
   unfold oY;rw [aQ1]
   by_cases c:f=(0,1)
   ·refine bF (by simp [c]) ⟨s3.trans s4,⟨_,rfl⟩,?_⟩;have e:lI T a=false:=by unfold lI;rw [hf,c];rfl
    rw [show [a].filter (lI T)=[] by simp [e],gz];exact tw4
   ·refine bV (by simp [c]) ⟨_,rfl,s3.trans s4,⟨_,rfl⟩,?_⟩;have e:lI T a=true:=by unfold lI;rw [hf];simp [c]
    rw [show [a].filter (lI T)=[a] by simp [e]];exact dO.append tw4 ⟨ax.ts (.of s4),trivial⟩
  ·rintro zs σ H3 ⟨s3,_,tw3⟩ l3 hl3;rw [dy] at tw3;have s4:=s3.trans (aC hl3 (.lst zs));have h3:aM H3 l3 (.lst zs) l3=some (.lst zs):=aD;replace tw3:=tw3.mono fun _ _ z=>xO.ts (.of (aC hl3 (.lst zs))) z
   generalize aM H3 l3 (.lst zs)=H4 at s4 h3 tw3 ⊢;have lz:=tw3.length;have lf:=pz (lI T) ks;refine bV3 ?_;refine cJ9 h3 (dh.nodup.sublist ml) (by omega) tw3 fun zs' as l4 pm up hl4 tw5=>?_
   have s5:=s4.trans (aC hl4 (.lst zs'));have h5:aM H4 l4 (.lst zs') l4=some (.lst zs'):=aD;generalize aM H4 l4 (.lst zs')=H5 at s5 h5 tw5 ⊢;have al:as.length<=60:=by rw [pm.length_eq];omega
   have lz':=tw5.length;refine ⟨_,rfl,l4,rfl,⟨_,bM.of h5⟩,uH (K:=K) (a:=l4) (xs:=zs') (fun i ys σ H6=>aU H5 H6/\(∃ v,σ=[v,some (.ref d)])/\dO (EnA b H6) ys (lR T (as.take i)))
    (aK (by omega)) ⟨aU.refl _,⟨_,rfl⟩,trivial⟩ (fun i zs σ H5 ⟨_,_,e⟩=>by
     rw [e.length];unfold lR;rw [ac,dk];omega) (by rintro i zs σ H5 _ ⟨e,_⟩;exact bM.of (e _ _ h5)) ?_ ?_⟩
   ·rintro i y ys σ H6 hy ⟨s6,⟨v,rfl⟩,tw6⟩;obtain ⟨a,ha,ax⟩:=tw5.at hy;have ma:=du.mp (pm.mem_iff.mp (br ha));obtain ⟨f,hf⟩:=(dh.mem a (aT3 ax)).mp ma.1;have g6:=s5.trans s6;obtain ⟨o',dg,og⟩:=(dh2.ts (.of g6)).get (.inr ⟨o,g6 _ _ hd2⟩) (ax.ts (.of s6));rw [hf] at og;obtain ⟨q,rfl,hq⟩:=uL og;refine ⟨_,rfl,_,rfl,_,rfl,d,.ref q,rfl,dg,?_⟩;refine ⟨dH,fun t ht=>⟨s6.trans (aC ht _),⟨_,rfl⟩,?_⟩⟩;have s7:=aC ht (.tup [y,.ref q]);rw [cH ha];unfold lR at tw6 ⊢;rw [aq];refine dO.append (tw6.mono fun _ _ z=>EnA.ts (.of s7) z) ⟨⟨t,y,q,rfl,aD,ax.ts (.of (s6.trans s7)),?_⟩,trivial⟩
    dsimp only
    rw [hf];exact s7 _ _ hq
   ·rintro ys σ H6 ⟨s6,_,tw6⟩ l6 hl6;rw [lz',dy] at tw6;refine ⟨l6,_,rfl,.inl ⟨bM.of aD,fun u6 hu'=>?_⟩⟩;have s7:=(aC hl6 (.lst ys)).trans (aC hu' (.tup ys));refine k _ u6 as (s2.trans (s5.trans (s6.trans s7))) ⟨ys,aD,tw6.mono fun _ _ z=>EnA.ts (.of s7) z⟩ up fun a=>?_
    rw [pm.mem_iff,du]
    constructor
    ·rintro ⟨h1,h2⟩;obtain ⟨f,hf⟩:=(dh.mem a (dh.gd a h1)).mp h1;refine ⟨f,hf,fun z=>?_⟩;unfold lI at h2;rw [hf,z] at h2;simp at h2
    ·rintro ⟨f,hf,hne⟩;refine ⟨(dh.mem a (tm a f hf)).mpr ⟨f,hf⟩,?_⟩;unfold lI;rw [hf];simp [hne]
theorem bJ6 {cL:Addr}(T:RnT K cL) (MK:MkL P w K mg base 1 (aN6 K cL) cL "Run")  (C_Times:Cl P w K mg base 3 spTimesX "times") (m_dict:mg "dict"=none) (m_list:mg "list"=none):fC P w K mg base "parted" "parted" bP7 4 ["run","name","table"] (bQ9 cL):=by
 refine fV ["run","name","table","runs","value","share","known"] fun H Q nd hr h=>?_
 obtain ⟨x,kd,tl,NM,ks,rn,y,t,us,tb,rfl,h,hy,hN,ht,tw,l10,td4,fs,fz,k⟩:=h;have hu:=jE hr;refine ⟨_,(dB 3 nd (cS eI)
  (aF (xP (lQ (pv 2)) (mG rfl (cO (iF 4 nd) (cO (iF 5 nd) iB)))
  (dB 6 nd (pct aC6 m_dict PyProof.Rows.boot_dict (aP (eO (pv 0) rfl)))
  (aF (pdp hu (pv 6) (pv 1) (pv 4))
  (aE (cP (fB bg cp cq cE (pv 3) (aP (pml MK hr (aA (eO (pv 0) rfl) (aA (pv 6) (aA (pct jL m_list oy (aP (eO (pv 0) rfl))) (aP (bQ C_Times hr (aA (eO (pv 0) rfl) (aP (pv 5))))))))))))))))
  (aE (aL (pv 3))))),?_⟩
 obtain ⟨dx0,cv,sp,hX,hc,hs⟩:=h.ex;have at4:=nJ cv kd tl sp;refine ⟨bj _,fun ll hll=>?_⟩;obtain ⟨H1,e0,s1,g1⟩:=lay hll (.lst []);rw [e0];clear e0;refine ⟨_,rfl,t,rfl,⟨_,aT.of (s1 _ _ ht)⟩,bB0 (K:=K) (a:=t) (xs:=us) (fun i σ G=>∃ (hs:List Hn) (v4 v5 v6:Option V),σ=[some (.ref x),some (.str y),some (.ref t),some (.ref ll),v4,v5,v6]/\aU H G/\G ll=some (.lst (cN hs))/\fA cL NM G hs ((tb.take i).map (aN8 rn y))/\Frs H hs/\∀ h∈hs,h.2.2.2=kC ks y/\h.2.2.1≠ll)
  ⟨[],_,_,_,rfl,s1,g1,trivial,⟨.nil,.nil,.nil,fun _ z=>absurd z cz⟩,fun _ z=>absurd z cz⟩ (by rintro i σ G _ ⟨_,_,_,_,_,s,_⟩;exact aT.of (s _ _ ht)) ?_ ?_⟩
 ·rintro D' i v σ G hv ⟨hs',v4,v5,v6,rfl,s2,gl,twk,fr,hk⟩;obtain ⟨z,hz,p,q,rfl,hp,hq⟩:=tw.at hv;refine ⟨p,_,rfl,aT.of (s2 _ _ hp),rfl,_,_,rfl,_,_,rfl,rfl,?_⟩;have h2:=h.same s2;have hX2:=s2 _ _ hX;refine ⟨_,rfl,x,cL,dx0,_,_,rfl,hX2,T.cl,T.n2,at4.2.1,kd,_,rfl,h2.kn,fun d2 hd2=>?_⟩;refine ⟨_,rfl,_,rfl,_,rfl,d2,_,rfl,nA.k (k:=Sum.inr y) aD (bC7 h.nd h.sb hN),?_⟩;rw [qH,xT];have s3:=aC hd2 (.dK (gZ (kC ks y) (iN rn.e y z.1)));have gd:aM G d2 (.dK (gZ (kC ks y) (iN rn.e y z.1))) d2=_:=aD;have f2:=s2.free hd2;generalize aM G d2 (.dK (gZ (kC ks y) (iN rn.e y z.1)))=G3 at s3 gd ⊢;have hX3:=s3 _ _ hX2;have s23:=s2.trans s3;refine ⟨_,rfl,.inl ⟨rfl,_,bM.of (s3 _ _ gl)⟩,_,rfl,x,cL,dx0,_,_,rfl,hX3,T.cl,T.n1,at4.1,_,rfl,_,rfl,x,cL,dx0,_,_,rfl,hX3,T.cl,T.n3,at4.2.2.1,tl,_,rfl,.inl (bM.of (s23 _ _ h.tl)),fun l3 hl3=>?_⟩;have s4:=aC hl3 (.lst (rn.td.map V.int));have gt:aM G3 l3 (.lst (rn.td.map V.int)) l3=_:=aD
  have f3:=s23.free hl3;generalize aM G3 l3 (.lst (rn.td.map V.int))=G4 at s4 gt ⊢;have s24:=s23.trans s4;refine ⟨_,rfl,x,cL,dx0,_,_,rfl,s24 _ _ hX,T.cl,T.n4,at4.2.2.2,_,rfl,sp,q,rn.sh,z.2,rfl,s24 _ _ hs,s24 _ _ hq,fs,fz z (br hz),fun sp' hsp=>?_⟩;have s5:=aC hsp (.tup (iS (rn.sh.1 * z.2.1) (rn.sh.2 * z.2.2)));have gs:aY (aM G4 sp' (.tup (iS (rn.sh.1 * z.2.1) (rn.sh.2 * z.2.2)))) sp' (yK rn.sh z.2).1 (yK rn.sh z.2).2:=aD;generalize aM G4 sp' (.tup (iS (rn.sh.1 * z.2.1) (rn.sh.2 * z.2.2)))=G5 at s5 gs ⊢;have s25:=s24.trans s5;refine fun X dX nX ndX neX=>⟨X,dX,d2,l3,sp',cv,rfl,aD,fun G6 o6 hX6=>⟨rfl,?_⟩⟩
  have s6:aU G5 G6:=fun b o hb=>by
   have n1:b≠X:=fun z=>by rw [z,nX] at hb;cases hb
   have n2:b≠dX:=fun z=>by rw [z,ndX] at hb;cases hb
   rw [o6 b n1,aG n1,aG n2];exact hb
  have s26:=s25.trans s6;have s36:aU G G6:=s3.trans (s4.trans (s5.trans s6));have fX:H X=none:=s25.free nX;have gl6:=s36 _ _ gl;have hl:hs'.length<=10:=by rw [twk.length,ac,dk];omega
  refine ⟨ll,_,_,rfl,rfl,gl6,by unfold cN;rw [ac];exact aK (by omega),?_⟩;have nl3:l3≠ll:=(aN (s3 _ _ gl) hl3).symm;have h6:kB cL NM G6 X d2 l3 (kC ks y) (aN8 rn y z):=⟨⟨dX,cv,sp',hX6,hc.ts (.of s26),s6 _ _ gs⟩,(s4.trans (s5.trans s6)) _ _ gd,aK6 h.nd,fun w hw=>(av.mp (qC w hw)).elim (fun e=>by rw [e];exact hy) (h.sb w),(s5.trans s6) _ _ gt,bY.ts (.of s26) _ h.rw⟩
  have nin:∀ a,G a=none->a∉hs'.map (·.1)/\a∉hs'.map (·.2.1)/\a∉hs'.map (·.2.2.1):=twk.not_in;have dX1:=nin X (s3.free ((s4.trans s5).free nX));have dk1:=nin d2 hd2;have dl1:=nin l3 (s3.free hl3);have s7:aU H (aM G6 ll (.lst (cN hs'++[.ref X]))):=dF s26 hll;have n7:∀ a,a≠ll->aM G6 ll (.lst (cN hs'++[.ref X])) a=G6 a:=fun a n=>aG n
  refine ⟨hs'++[(X,d2,l3,kC ks y)],_,_,_,rfl,s7,by rw [aD];unfold cN;rw [aq];rfl,?_,?_,?_⟩
  ·rw [cH hz,aq];have tu:TS G6 (aM G6 ll (.lst (cN hs'++[.ref X]))):=TS.lst gl6;refine fA.app ((twk.same s36).mono fun g hg r hr=>?_) ⟨?_,trivial⟩
   ·obtain ⟨dx',cv',sp'',q1,_⟩:=hr.ex;exact kB.ts hr tu (n7 _ (fW q1 gl6 (by intro z;cases z))) (n7 _ (fW hr.kn gl6 (by intro z;cases z))) (n7 _ (hk g hg).2)
   ·exact kB.ts h6 tu (n7 _ (fW hX6 gl6 (by intro z;cases z))) (n7 _ (fW h6.kn gl6 (by intro z;cases z))) (n7 _ nl3)
  ·have app:∀ {f:Hn->Addr}{g:Hn},(hs'.map f).Nodup->f g∉hs'.map f->((hs'++[g]).map f).Nodup:=fun n h=>by
    rw [aq];refine gy.mpr ⟨n,by simp,fun a ha b hb e=>h ?_⟩;rw [zo] at hb;rw [<- au.mp hb, <- e];exact ha
   refine ⟨app fr.x dX1.1,app fr.k dk1.2.1,app fr.t dl1.2.2,fun g hg=>?_⟩;rcases bf.mp hg with e | e
   ·exact fr.n g e
   ·rw [au.mp e];exact ⟨fX,f2,f3⟩
  ·intro g hg;rcases bf.mp hg with e | e
   ·exact hk g e
   ·rw [au.mp e];exact ⟨rfl,nl3⟩
 ·rintro σ G ⟨hs',v4,v5,v6,rfl,s2,gl,twk,fr,hk⟩;rw [tw.length,dy] at twk;exact ⟨_,rfl,k G ll hs' s2 hll gl twk fr fun h hh=>(hk h hh).1⟩
theorem bV5 {cL:Addr}(T:RnT K cL) (MK:MkL P w K mg base 1 (aN6 K cL) cL "Run")  (C_Nxt:Cl P w K mg base 4 (bE5 cL) "next_throw") (C_Put:Cl P w K mg base 1 spPut "put_ahead") (C_Thr:Cl P w K mg base 8 spThrU "thrown") (C_Prt2:Cl P w K mg base 4 (bQ9 cL) "parted") (m_len:mg "len"=none) (m_tuple:mg "tuple"=none):fC P w K mg base "all_runs" "all_runs" cJ5 9 ["program","crowd","most"] (aV6 cL):=by
 refine fV ["program","crowd","most","tables","ended","waiting","run","row"] fun H Q nd hr h=>?_
 obtain ⟨pg,pr,c,kv,most,NM,KS,cs,M,rs,rfl,m30,mb,hpg,hpr,hrs,hcs,hN,hK,gk,M1,M2,w30,k⟩:=h;refine ⟨_,(dB 3 nd (bQ2 P w)
  (dB 4 nd (cS eI)
  (dB 5 nd (cS (aP (pml MK hr (aA (bQ C_Put hr (aA (bX aJ (pv 0) aB) (aP aU0))) (aA (bQ2 P w) (aA (cS eI) (aP (aS (aA aB (aP aB))))))))))
  (aF (fY ib (zP (pv 5) (fun _=>rfl))
  (aF (bK (eL iH (aI bE (sY bW m_len gm (aP (pv 4))) (sY bW m_len gm (aP (pv 5)))) (pv 2)) oN aV)
  (dB 6 nd (wQ bg jk jl wP (pv 5))
  (dB 7 nd (bQ C_Nxt hr (aP (pv 6)))
  (aE (bK (aD6 (bZ6 (pv 7))) (aE (cP (fB bg cp cq cE (pv 4) (aP (aS (aA (pct bR m_tuple eg (aP (eO (pv 6) rfl))) (aP (eO (pv 6) rfl)))))))) (aF (kQ (bK (aD6 (cR7 P w hr (pv 7) (pv 3))) (aE (cP0 P w hr (pv 3) (pv 7) (bQ C_Thr hr (aA (pv 7) (aP (pv 1)))))) aV))
  (aE (cP (fB bg nk nq nY (pv 5) (aP (bQ C_Prt2 hr (aA (pv 6) (aA (bX aJ (pv 7) aB) (aP (cO5 P w hr (pv 3) (pv 7)))))))))))))))))
  (aE (aL (pv 4))))))),?_⟩
 refine .inl fun tb htb=>?_
 have dn0:DN3 P w (aM H tb (dN3 P w tb [])) tb []:=⟨[],aD,rfl,fun _ z=>absurd z cz⟩
 have s1:=aC htb (dN3 P w tb []);generalize aM H tb (dN3 P w tb [])=H1 at dn0 s1 ⊢;refine ⟨bj _,fun el hel=>?_⟩;have eln:=s1.free hel;have s2:=s1.trans (aC hel (.lst []));have g2:aM H1 el (.lst []) el=some (.lst []):=aD;have dn2:DN3 P w (aM H1 el (.lst [])) tb []:=dn0.keep (TS.of (aC hel _)) (fun o e=>aC hel _ _ _ e);generalize aM H1 el (.lst [])=H2 at s2 g2 dn2 ⊢;refine ⟨_,rfl,pg,_,_,.ref pr,rfl,rfl,aT.of (s2 _ _ hpg),rfl,pr,.non,rs,[],rfl,s2 _ _ hpr,rfl,fun H3 cv s3 hc=>?_⟩;refine .inr fun kd hkd=>?_
 have s4:=aC hkd (.dK []);have gk4:aM H3 kd (.dK []) kd=some (.dK []):=aD;have f4:=(s2.trans s3).free hkd;generalize aM H3 kd (.dK [])=H4 at s4 gk4 ⊢;refine ⟨bj _,fun tl htl=>?_⟩;have s5:=aC htl (.lst []);have gt5:aM H4 tl (.lst []) tl=some (.lst []):=aD;have f5:=(s2.trans (s3.trans s4)).free htl;have nte:tl≠el:=(aN ((s3.trans s4) _ _ g2) htl).symm;generalize aM H4 tl (.lst [])=H5 at s5 gt5 ⊢;refine ⟨dH,fun sp hsp=>?_⟩;have s6:=aC hsp (.tup [.int 1,.int 1]);have gs6:aY (aM H5 sp (.tup [.int 1,.int 1])) sp 1 1:=aD;generalize aM H5 sp (.tup [.int 1,.int 1])=H6 at s6 gs6 ⊢;refine fun X dX nX ndX neX=>⟨X,dX,kd,tl,sp,cv,rfl,aD,fun H7 o7 hX7=>⟨rfl,?_⟩⟩
 have s7:aU H6 H7:=fun b o hb=>by
  have n1:b≠X:=fun z=>by rw [z,nX] at hb;cases hb
  have n2:b≠dX:=fun z=>by rw [z,ndX] at hb;cases hb
  rw [o7 b n1,aG n1,aG n2];exact hb
 have fX:=(s2.trans (s3.trans (s4.trans (s5.trans s6)))).free nX;refine ⟨sV,fun wl hwl=>?_⟩;have s8:=aC hwl (.lst [.ref X]);have gw8:aM H7 wl (.lst [.ref X]) wl=some (.lst [.ref X]):=aD;have wln:=(s2.trans (s3.trans (s4.trans (s5.trans (s6.trans s7))))).free hwl;have new:el≠wl:=aN ((s3.trans (s4.trans (s5.trans (s6.trans s7)))) _ _ g2) hwl;have ntw:tl≠wl:=aN ((s6.trans s7) _ _ gt5) hwl;generalize aM H7 wl (.lst [.ref X])=H8 at s8 gw8 ⊢;have t38:aU H3 H8:=s4.trans (s5.trans (s6.trans (s7.trans s8)));have t28:aU H2 H8:=s3.trans t38;have w0:Wt P w cL NM KS cs M (LV cs rs e0 [] (1,1)) H H8 tb el wl [] [] 0 [] [(X,kd,tl,[])] [⟨rs,e0,[],(1,1)⟩] []:=by
  refine ⟨s2.trans t28,dn2.keep (TS.of t28) (fun o e=>t28 _ _ e),htb,⟨.nil,fun _ z=>absurd z cz,fun _ z=>absurd z cz⟩,t28 _ _ g2,eln,trivial,gw8,wln,new,⟨⟨⟨dX,cv,sp,s8 _ _ hX7,?_,(s7.trans s8) _ _ gs6⟩,(s5.trans (s6.trans (s7.trans s8))) _ _ gk4,.nil,fun _ z=>absurd z cz,(s6.trans (s7.trans s8)) _ _ gt5,bY.ts (.of (s2.trans t28)) _ hrs⟩,trivial⟩,
   ⟨by simp,by simp,by simp,fun x hx=>by rw [List.mem_singleton.mp hx];exact ⟨fX,f4,f5⟩⟩,fun x hx=>by rw [au.mp hx];exact ⟨nte,ntw⟩,⟨gk,trivial⟩,by simp [lvS,Rn.lv],by rw [aH5];simpa using w30,fun _ z=>absurd z cz⟩
  have hc':=hc.ts (.of t38);rw [gz] at hc';exact hc'
 have SB:aU H H8:=s2.trans t28;clear s7 s6 s5 s4 s3 t38 t28 hX7 gs6 gt5 gk4 gw8 s8 new ntw nte fX f4 f5 o7 nX ndX neX hc g2 dn2 hsp htl hkd hwl hel;refine ⟨fun m σ G=>∃ (E:List Lf) (us:List V) (hs:List Hn) (rns:List Rn) (l:List (List RKey×V)) (v6 v7:Option V),σ=[some (.ref pg),some (.ref c),some (.int most),some (.ref tb),some (.ref el),some (.ref wl),v6,v7]/\Wt P w cL NM KS cs M (LV cs rs e0 [] (1,1)) H G tb el wl E [] 0 us hs rns l/\m=mS rns,
  ⟨_,[],[],_,_,[],_,_,rfl,w0,rfl⟩,?_⟩
 rintro m σ G ⟨E,us,hs,rns,l,v6,v7,rfl,W,rfl⟩;refine ⟨_,rfl,_,.inl ⟨_,bM.of W.w,rfl⟩,?_⟩;rcases List.eq_nil_or_concat rns with rfl | ⟨rs0,r,er⟩
 ·obtain rfl:hs=[]:=qu W.q.length;refine bF (by simp [cN]) ?_;have eE:LV cs rs e0 [] (1,1)=E:=by rw [W.t];simp [lvS]
  have nn:=W.n;exact ⟨_,rfl,k _ el us W.s W.e (by rw [eE];exact W.et) (by rw [eE];omega) (by rw [eE];exact W.ov)⟩
 ·rw [List.concat_eq_append] at er;subst er;obtain ⟨gs,g,rfl,_,_⟩:=fA.split W.q;refine bV (by simp [cN]) ?_;refine ⟨fun σ' G'=>∃ (E:List Lf) (us:List V) (hs:List Hn) (rns:List Rn) (l:List (List RKey×V)) (v6 v7:Option V),σ'=[some (.ref pg),some (.ref c),some (.int most),some (.ref tb),some (.ref el),some (.ref wl),v6,v7]/\Wt P w cL NM KS cs M (LV cs rs e0 [] (1,1)) H G' tb el wl E [] 0 us hs rns l/\mS rns < mS (rs0++[r]),
   (by rintro σ' G' ⟨E2,us2,hs2,rns2,l2,v62,v72,e1,e2,e3⟩;exact ⟨_,e3,E2,us2,hs2,rns2,l2,v62,v72,e1,e2,rfl⟩),?_⟩
  have lu:us.length=E.length:=W.et.length;have nn:=W.n;have wg:=bC1 W.g;have lg:(cN (gs++[g])).length=(rs0++[r]).length:=by unfold cN;rw [ac];exact W.q.length
  refine ⟨_,rfl,el,us,rfl,.inl (bM.of W.e),_,rfl,wl,_,rfl,.inl (bM.of W.w),_,_,rfl,rfl,_,rfl,_,_,rfl,rfl,_,rfl,bF ?_ ?_⟩
  ·rw [lu,lg];simp only [decide_eq_true_eq];omega
  have ew:cN (gs++[g])=cN gs++[.ref g.1]:=by unfold cN;rw [aq];rfl
  have gw:=W.w;rw [ew] at gw;refine ⟨_,rfl,.inl ⟨rfl,_,bM.of gw⟩,wl,_,V.ref g.1,rfl,rfl,gw,by simp,?_⟩;rw [mf];obtain ⟨W1,q1,c1,k1⟩:=W.pop;have mr:mS (rs0++[r])=mS rs0+mS [r]:=aH7 _ _;clear W gw lu nn wg lg ew;generalize aM G wl (.lst (cN gs))=G1 at W1 q1 ⊢;refine ⟨_,rfl,g.1,g.2.1,g.2.2.1,NM,KS,cs,M,g.2.2.2,r,rfl,q1,hN,k1,fun G2 ks2 rn2 h2 e2 g2 n2 o2=>?_,fun G2 ks2 rn2 p y T' a3 wss h2 hw2 g2 n2 o2=>?_⟩
  ·have W2:=W1.off c1 q1 o2;obtain ⟨rs2,e3,td,sh⟩:=rn2;obtain rfl:rs2=[]:=e2;obtain ⟨dx,cv2,sp2,hX,_,hs2⟩:=h2.ex;have at4:=nJ cv2 g.2.1 g.2.2.1 sp2;refine ⟨_,rfl,_,rfl,bV rfl ?_⟩;refine ⟨_,rfl,.inl ⟨rfl,_,bM.of W2.e⟩,_,rfl,g.1,cL,dx,_,_,rfl,hX,T.cl,T.n3,at4.2.2.1,g.2.2.1,_,rfl,.inl ⟨bM.of h2.tl,fun t1 ht1=>?_⟩⟩;have s3:=aC ht1 (.tup (td.map V.int));have gt1:aM G2 t1 (.tup (td.map V.int)) t1=_:=aD;generalize aM G2 t1 (.tup (td.map V.int))=G3 at s3 gt1 ⊢;refine ⟨_,rfl,g.1,cL,dx,_,_,rfl,s3 _ _ hX,T.cl,T.n4,at4.2.2.2,dH,fun t2 ht2=>?_⟩;have s4:=s3.trans (aC ht2 (.tup [.ref t1,.ref sp2]));have gt2:aM G3 t2 (.tup [.ref t1,.ref sp2]) t2=_:=aD;have gt3:=aC ht2 (.tup [.ref t1,.ref sp2]) _ _ gt1;generalize aM G3 t2 (.tup [.ref t1,.ref sp2])=G4 at s4 gt2 gt3 ⊢;have lvr:r.lv cs=[(td,sh)]:=n2.lv.trans cB3;have W4:=W2.same s4;rw [lvr] at W4;have nn:=W4.n;have lu:us.length=E.length:=W4.et.length;refine ⟨el,_,_,rfl,rfl,W4.e,aK (by omega),?_⟩
   have ov:OvM M sh:=by
    obtain ⟨N,hs,hd⟩:=g2.g.sh;have hd:N * 1 ∣ M:=hd;rw [rl] at hd;obtain ⟨_,c,c1,c2,e⟩:=hs.dv M1 hd;exact ⟨c,by omega,c2,e⟩
   have W5:=W4.fin (v:= .ref t2) (lgL r.rs k1.g.ok).w1 ⟨t2,_,sp2,rfl,gt2,⟨t1,rfl,gt3⟩,s4 _ _ hs2⟩ ov;refine ⟨_,_,gs,rs0,l,_,_,rfl,W5,?_⟩;rw [mr,aD5];have:0 < 11 ^ bD r.rs:=sg (by decide);omega
  ·have W2:=W1.off c1 q1 o2;obtain ⟨us3,hp⟩:=hw2.1.at;refine ⟨_,rfl,_,rfl,bF (by simp) ?_⟩;have okt:=g2.g.ok.1;have kin:eZ y T' wss∈KS:=g2.k _ (dj _ ah);have o1:=okt.1.2.o;refine ⟨fun σ' G'=>σ'=[some (.ref pg),some (.ref c),some (.int most),some (.ref tb),some (.ref el),some (.ref wl),some (.ref g.1),some (.ref p)]/\∃ l' t us4,Wt P w cL NM KS cs M (LV cs rs e0 [] (1,1)) H G' tb el wl E (r.lv cs) (wL r.rs) us gs rs0 l'/\kB cL NM G' g.1 g.2.1 g.2.2.1 ks2 rn2/\pL G' (.thr p y T' a3 wss)/\dA l' (eZ y T' wss)=some (.ref t)/\G' t=some (.tup us4)/\dO (nO G') us4 (tI cs T' wss),?_,?_⟩
   ·refine ⟨_,rfl,_,rfl,tb,_,rfl,.inr ⟨l,eZ y T' wss,p,W2.d.r,rfl,xN hw2,rfl⟩,_,rfl,?_⟩
    cases ev:dA l (eZ y T' wss) with
    |none =>
     refine bV rfl ?_;refine ⟨_,rfl,_,rfl,p,c,T',a3,wss,cs,rfl,⟨hw2.1.t,hw2.2,W2.s _ _ hcs⟩,okt.1.1,okt.1.2,fun G3 t us4 s3 ht tw=>?_⟩;have W3:=W2.same s3;have hw3:=pL.ts (.of s3) _ hw2;obtain ⟨d5,v5⟩:=W3.dt.put o1 kin ev ht tw;refine ⟨_,rfl,_,rfl,tb,rfl,.inr ⟨l,eZ y T' wss,p,W3.d,rfl,xN hw3,aK (by have:=W3.dt.len;omega),fun G4 dn4 o4=>?_⟩⟩;obtain ⟨W4,t4⟩:=W3.put dn4 o4 d5;have h3:=h2.same s3;obtain ⟨φ,ed⟩:=W3.d.ext;obtain ⟨_,_,_,p1,_⟩:=h3.ex;exact ⟨rfl,_,t,us4,W4,kB.ts h3 t4 (o4 _ (bC p1 ed (by intro z;cases z))) (o4 _ (bC h3.kn ed (by intro z;cases z))) (o4 _ (bC h3.tl ed (by intro z;cases z))),pL.ts t4 _ hw3,v5,t4 _ _ ht,eW t4 tw⟩
    |some v =>
     refine bF (by simp) ?_;obtain ⟨t,us4,rfl,ht,tw⟩:=W2.dt.get o1 ev;exact ⟨rfl,l,t,us4,W2,h2,hw2,ev,ht,tw⟩
   ·rintro σ' G5 ⟨rfl,l5,t,us4,W5,h5,hw5,ev,ht,tw⟩;obtain ⟨us5,hp5⟩:=hw5.1.at;have tok:=aG6 okt.1.1 okt.1.2;obtain ⟨kg,kl,kw,kv⟩:=aU9 g2.g;obtain ⟨N,hsN,hdN⟩:=g2.g.sh;have dvN:N ∣ M:=yf ⟨_,rfl⟩ hdN;have P9:(2:Int) ^ 680 < 2 ^ 900:=by decide +kernel
    have Q9:(2:Int) ^ 170 < 2 ^ 900:=by decide +kernel
    have fs:sL 900 rn2.sh:=by
     obtain ⟨_,c',c1',c2',e⟩:=hsN.dv M1 dvN;rw [e];exact aD4 (by omega) M1 (by generalize (2:Int) ^ 680=x at *;generalize (2:Int) ^ 900=y at *;omega) (by generalize (2:Int) ^ 680=x at *;generalize (2:Int) ^ 900=y at *;omega)
    have fz:∀ z∈tI cs T' wss,sL 900 z.2:=fun z hz=>by
     obtain ⟨_,c',c1',c2',e⟩:=tok.sh z hz;have mb:mT cs T' wss < 2 ^ 900:=by
      rcases tok.m2 with ⟨_,z⟩ | ⟨_,z⟩
      ·rw [z];decide +kernel
      ·exact jy z Q9
     rw [e];exact aD4 (by omega) tok.m1 (ik c2' mb) mb
    have td4:rn2.td.length<=4:=by have:rn2.td.length+eG (Rw.thr p y T' a3 wss :: rn2.rs)<=4:=g2.g.tl;omega
    refine ⟨_,rfl,.inl ⟨rfl,_,bM.of W5.w⟩,_,rfl,_,rfl,p,_,_,.str y,rfl,rfl,aT.of hp5,at1,_,rfl,_,rfl,tb,_,rfl,.inr ⟨l5,eZ y T' wss,p,W5.d.r,rfl,xN hw5,ev.symm⟩,g.1,g.2.1,g.2.2.1,NM,ks2,rn2,y,t,us4,tI cs T' wss,rfl,h5,okt.2,hN,ht,tw,bv tok.le tok.l10,td4,fs,fz,fun G6 l6 hs6 s6 nl6 gl6 q6 fr6 ek6=>?_⟩;have W6:=W5.same s6;have nn:=W6.n;have wg:=bC1 W6.g;have l1:(cN gs).length=rs0.length:=by unfold cN;rw [ac];exact W6.q.length
    have l2:(cN hs6).length<=10:=by unfold cN;rw [ac,q6.length];exact kl
    refine ⟨wl,l6,_,_,rfl,rfl,W6.w,gl6,by have:=aK (n:=100) (by decide);omega,?_⟩;have gd6:jQ NM KS cs M hs6 ((tI cs T' wss).map (aN8 rn2 y)):=jQ.all q6.length ek6 fun r' hr'=>by
     obtain ⟨a,b⟩:=kg r' hr';exact ⟨a.sbs aM3 qC,fun q hq=>g2.k q (bh _ (by rw [b] at hq;exact hq))⟩
    have there:∀ x∈gs,(∃ o,G5 x.1=some o)/\(∃ o,G5 x.2.1=some o)/\∃ o,G5 x.2.2.1=some o:=fun x hx=>by
     obtain ⟨⟨_,_,q1⟩,⟨_,q2⟩,_,q3⟩:=W5.q.there x hx;exact ⟨⟨_,q1⟩,⟨_,q2⟩,_,q3⟩
    have W7:=W6.push W5.s ⟨_,W5.e⟩ ⟨_,W5.w⟩ there q6 fr6 gd6 (n2.lv.trans kv) (bv kw n2.w);refine ⟨E,us,gs++hs6,rs0++(tI cs T' wss).map (aN8 rn2 y),l5,_,_,rfl,W7,?_⟩;have co:=n2.co;simp only [bD,Rw.cost] at co;have mk:=bK5 (rn:=r) (r':=r) (kids:=(tI cs T' wss).map (aN8 rn2 y)) (n:=bD rn2.rs) (by omega) (fun r' hr'=>by rw [(kg r' hr').2]) kl;rw [mr,aH7];omega
theorem cC7  : fC P w K mg base "has_one_sum" "has_one_sum" cG8 1 ["sort"] spOneU:=by
 refine fV ["sort"] fun H Q nd hr h=>?_
 obtain ⟨wd,rfl,k⟩:=h;refine ⟨_,(aE (aL (pec fN (pv 0) (aS (aA aH (aP aH)))))),?_⟩;refine ⟨_,rfl,dH,fun t ht=>⟨t,[.str "ladder",.str "flat"],rfl,.inr (aT.of aD),rfl,rfl,?_⟩⟩;exact k _ (aC ht _)
theorem aS3  : fC P w K mg base "place_of_sums" "place_of_sums" bE0 1 ["sort"] spPlaceU:=by
 refine fV ["sort"] fun H Q nd hr h=>?_
 obtain ⟨wd,rfl,k⟩:=h;refine ⟨_,(aE (aL (gS (eL cY (pv 0) aH) aB aB))),?_⟩;refine ⟨_,rfl,rfl,_,rfl,?_⟩
 by_cases c:wd="first"
 ·rw [ao c] at k;exact qQ (by rw [c];exact aY5 _) k
 ·rw [aj c] at k;exact iP (aB5 c) k
theorem bK7 (C_Place:Cl P w K mg base 1 spPlaceU "place_of_sums") (C_One:Cl P w K mg base 1 spOneU "has_one_sum"):fC P w K mg base "sums_of" "sums_of" bQ3 2 ["row"] spSumsU:=by
 refine fV ["row","asked"] fun H Q nd hr h=>?_
 obtain ⟨r,wd,a3,lo,hb,wss,rfl,hw,so,k⟩:=h;refine ⟨_,(dB 1 nd (bX aJ (pv 0) (bQ C_Place hr (aP (bX aJ (pv 0) aB))))
  (aE (aL (gS (rG (bQ C_One hr (aP (bX aJ (pv 0) aB)))) (aS (aP (pv 1))) (pv 1))))),?_⟩
 obtain ⟨xs,hx,x0,x2,_,_⟩:=hw;refine ⟨_,rfl,_,rfl,r,_,_,_,rfl,rfl,aT.of hx,x0,wd,rfl,r,_,_,_,rfl,rfl,aT.of hx,x2,?_⟩;refine ⟨_,rfl,r,_,_,_,rfl,rfl,aT.of hx,x0,wd,rfl,fun H1 s1=>⟨_,rfl,?_⟩⟩;rcases so with ⟨e,w,ws,rfl,hws,rfl⟩ | ⟨e,sm,rfl,vs,hsm,tw⟩
 ·refine qQ e ?_;exact ⟨_,rfl,sV,fun t ht=>k _ t _ (s1.trans (aC ht _)) aD ⟨⟨w,rfl,aC ht _ _ _ (s1 _ _ hws)⟩,trivial⟩⟩
 ·refine iP e ?_;exact ⟨_,rfl,k _ sm vs s1 (s1 _ _ hsm) (tw.mono fun _ _ z=>z.ts (.of s1))⟩
theorem bY2  : fC P w K mg base "range_of_sums" "range_of_sums" cL9 1 ["row"] spRngU:=by
 refine fV ["row"] fun H Q nd hr h=>?_
 obtain ⟨r,wd,a3,lo,hb,rfl,hw,k⟩:=h;refine ⟨_,(aE (aL (aS (aA (bX aJ (pv 0) (aX7 aE2 aB)) (aP (gS (eL cY (bX aJ (pv 0) aB) aH) (aI cQ (bX aJ (pv 0) bQ5) aB) (bX aJ (pv 0) bQ5))))))),?_⟩;obtain ⟨xs,hx,x0,_,xl,xh⟩:=hw;refine ⟨_,rfl,_,rfl,r,_,_,_,rfl,rfl,aT.of hx,xl,?_⟩;refine ⟨_,rfl,r,_,_,_,rfl,rfl,aT.of hx,x0,rfl,_,rfl,?_⟩
 by_cases c:wd="first"
 ·rw [ao c] at xh;refine qQ (by rw [c];exact aY5 _) ?_;refine ⟨_,rfl,r,_,_,_,rfl,rfl,aT.of hx,xh,_,_,rfl,rfl,dH,fun t ht=>k _ t (aC ht _) ?_⟩;show aM H t _ t=some (.tup [.int lo,.int hb]);rw [aD];show some (HO.tup [V.int lo,V.int (hb+1 - 1)])=_;rw [show hb+1 - 1=hb by omega]
 ·rw [aj c] at xh;exact iP (aB5 c) ⟨_,rfl,r,_,_,_,rfl,rfl,aT.of hx,xh,dH,fun t ht=>k _ t (aC ht _) aD⟩
theorem bY7 (m_min:mg "min"=none) (m_max:mg "max"=none):fC P w K mg base "cut" "cut" cH3 1 ["number","low","high"] spCut:=by
 refine fV ["number","low","high"] fun H Q nd hr h=>?_
 obtain ⟨n,lo,hi,rfl,k⟩:=h;refine ⟨_,(aE (aL (sY (jF rfl) m_min jm (aA (sY (uK rfl) m_max qc (aA (pv 0) (aP (pv 1)))) (aP (pv 2)))))),?_⟩;exact ⟨_,rfl,_,rfl,_,_,rfl,_,rfl,_,_,rfl,k⟩
theorem cF8 (m_sum:mg "sum"=none) (m_zip:mg "zip"=none):fC P w K mg base "added_up" "added_up" sUp 1 ["weights","crowd"] spUp:=by
 refine fV ["weights","crowd"] fun H Q nd hr h=>?_
 obtain ⟨a,b,ws,cs,rfl,ha,hb,W,k⟩:=h;refine ⟨_,(aE (aL (sY bA5 m_sum PyProof.Rows.boot_sum (aP (eV ["weight","count"] [none,none] (bT2 (by rfl) m_zip (aA (pv 0) (aP (pv 1)))) (fun _ _ _ _=>(cG5 K (n:=2) rfl (cO (iF 0) (cO (iF 1) iB)))) (fun _ _ _ _=>fM) (fun _ _ _ _=>(aI mB (pv 0) (pv 1)))))))),?_⟩;obtain ⟨hl,h3,hw⟩:=W;refine ⟨_,rfl,_,rfl,?_⟩;refine ⟨a,b,rfl,⟨_,aT.of ha⟩,⟨_,aT.of hb⟩,bA1 (xs:=ws.map V.int) (ys:=cs.map V.int) (fun i zs σ H2=>aU H H2/\(∃ v1 v2,σ=[v1,v2])/\zs=((List.zipWith (· * ·) ws cs).take i).map V.int)
  (by rw [ac];exact aK (by omega)) (by rw [ac,ac];omega) ⟨aU.refl _,⟨_,_,rfl⟩,rfl⟩ (by rintro i zs σ H2 ⟨_,_,e⟩;rw [e,ac,dk];omega) (by rintro i zs σ H2 _ ⟨e,_⟩;exact ⟨aT.of (e _ _ ha),aT.of (e _ _ hb)⟩) ?_ ?_⟩
 ·rintro i x y zs σ H2 t hx hy ⟨s2,⟨v1,v2,rfl⟩,rfl⟩ ht;obtain ⟨x',rfl,hx'⟩:=kY hx;obtain ⟨y',rfl,hy'⟩:=kY hy;have hb:=hw x' (br hx');refine ⟨t,_,rfl,aT.of aD,rfl,_,_,rfl,_,_,rfl,rfl,?_⟩;refine ⟨_,rfl,_,rfl,_,_,rfl,rfl,.inl ⟨by omega,by omega⟩,s2.trans (aC ht _),⟨_,_,rfl⟩,?_⟩;have hz:(List.zipWith (· * ·) ws cs)[i]?=some (x' * y'):=by rw [List.getElem?_zipWith,hx',hy']
  rw [cH hz,aq];rfl
 ·rintro zs σ H2 ⟨s2,_,rfl⟩ l2 hl2;have e:(List.zipWith (· * ·) ws cs).take (ws.map V.int).length=List.zipWith (· * ·) ws cs:=by
   rw [jc];rw [List.length_zipWith,ac];omega
  rw [e];exact ⟨l2,List.zipWith (· * ·) ws cs,rfl,bM.of aD,k _ (s2.trans (aC hl2 _))⟩
theorem bW1 (C_Rng:Cl P w K mg base 1 spRngU "range_of_sums") (C_Cut:Cl P w K mg base 1 spCut "cut") (C_Up:Cl P w K mg base 1 spUp "added_up") (C_Sums:Cl P w K mg base 2 spSumsU "sums_of") (m_tuple:mg "tuple"=none):fC P w K mg base "number_of" "number_of" cE5 3 ["row","crowd"] spNumU:=by
 refine fV ["row","crowd","bounds"] fun H Q nd hr h=>?_
 obtain ⟨r,wd,a3,lo,hi,wss,c,cs,rfl,hw,so,hcs,few,k⟩:=h;refine ⟨_,(dB 2 nd (bQ C_Rng hr (aP (pv 0)))
  (aE (aL (pct bR m_tuple eg (aP (eV ["weights","crowd","bounds"] [none,some 1,some 2] (lQ (bQ C_Sums hr (aP (pv 0)))) (fun _ _ _ _=>(iF 0)) (fun _ _ _ _=>fM) (fun _ _ _ _=>(bQ C_Cut hr (aA (bQ C_Up hr (aA (pv 0) (aP (pv 1)))) (aA (bX (aQ4 K) (pv 2) aB) (aP (bX (aQ4 K) (pv 2) aB)))))))))))),?_⟩
 refine ⟨_,rfl,r,wd,a3,lo,hi,rfl,hw,fun H0 b s0 hb=>?_⟩;refine ⟨_,rfl,r,wd,a3,lo,hi,wss,rfl,hw.ts (.of s0),so.ts (.of s0),fun H1 t us s1' ht tw=>?_⟩;have hb1:=s1' _ _ hb;have s1:=s0.trans s1';have ul:=tw.length;have fa:=few.a;have fb:=few.b;have nl:(cF wss cs lo hi).length=wss.length:=by unfold cF;rw [ac]
 refine ⟨t,rfl,⟨_,aT.of ht⟩,nK (xs:=us) (fun i zs σ H2=>aU H1 H2/\(∃ v,σ=[v,some (.ref c),some (.ref b)])/\zs=((cF wss cs lo hi).take i).map V.int)
  (aK (by omega)) ⟨aU.refl _,⟨_,rfl⟩,rfl⟩ (by rintro i zs σ H2 ⟨_,_,e⟩;rw [e,ac,dk];omega) (by rintro i zs σ H2 _ ⟨e,_⟩;exact aT.of (e _ _ ht)) ?_ ?_⟩
 ·rintro i y zs σ H2 hy ⟨s2,⟨v,rfl⟩,rfl⟩;obtain ⟨ws,hws,a,rfl,hia⟩:=tw.at hy;refine ⟨_,rfl,_,rfl,a,c,ws,cs,rfl,s2 _ _ hia,(s1.trans s2) _ _ hcs,few.w ws (br hws),fun H3 s3=>?_⟩;have hb3:=s3 _ _ (s2 _ _ hb1);refine ⟨_,rfl,b,_,_,_,rfl,rfl,aT.of hb3,rfl,_,rfl,b,_,_,_,rfl,rfl,aT.of hb3,rfl,_,_,_,rfl,s2.trans s3,⟨_,rfl⟩,?_⟩;rw [cH (bN7 hws),aq];rfl
 ·rintro zs σ H2 ⟨s2,_,rfl⟩ l2 hl2;have e:(cF wss cs lo hi).take us.length=cF wss cs lo hi:=by rw [ul, <- nl,dy]
  rw [e];exact ⟨l2,_,rfl,.inl ⟨bM.of aD,fun u hu'=>k _ u (s1.trans (s2.trans ((aC hl2 _).trans (aC hu' _)))) aD⟩⟩
theorem bD7 (C_Low:Cl P w K mg base 2 aT0 "lowest"):fC P w K mg base "minus" "minus" aZ4 3 ["one","other"] spMinus:=by
 refine fV ["one","other"] fun H Q nd hr h=>?_
 obtain ⟨p,q,a,b,c,d,rfl,hp,hq,ha,hb,hc,hd,b1,d1,hle,k⟩:=h;refine ⟨_,(aE (aL (bQ C_Low hr (aA (aI cQ (aI hZ (bX aJ (pv 0) aB) (bX aJ (pv 1) aB)) (aI hZ (bX aJ (pv 1) aB) (bX aJ (pv 0) aB))) (aP (aI hZ (bX aJ (pv 0) aB) (bX aJ (pv 1) aB))))))),?_⟩;have m2:=eY hb.1 hb.2 hd.1 hd.2;have m3:1<=b * d:=by have:=df (show 0 < b by omega) (show 0 < d by omega);omega
 refine ⟨_,rfl,p,_,_,_,rfl,rfl,aT.of hp,ix0 a b,_,rfl,q,_,_,_,rfl,rfl,aT.of hq,zF c d,_,_,rfl,rfl,⟨ha.below,hd.below⟩,?_⟩;refine ⟨_,rfl,q,_,_,_,rfl,rfl,aT.of hq,ix0 c d,_,rfl,p,_,_,_,rfl,rfl,aT.of hp,zF a b,_,_,rfl,rfl,⟨hc.below,hb.below⟩,_,_,rfl,rfl,?_⟩;refine ⟨_,rfl,p,_,_,_,rfl,rfl,aT.of hp,zF a b,_,rfl,q,_,_,_,rfl,rfl,aT.of hq,zF c d,_,_,rfl,rfl,⟨hb.below,hd.below⟩,?_⟩;exact ⟨_,_,rfl,by omega,m3,jy m2.2 (by decide),k⟩
theorem bO4 (C_Low:Cl P w K mg base 2 aT0 "lowest"):fC P w K mg base "divided" "divided" bP8 3 ["one","other"] spDiv:=by
 refine fV ["one","other"] fun H Q nd hr h=>?_
 obtain ⟨p,q,⟨a,b⟩,⟨c,d⟩,rfl,hp,hq,⟨ha,hb,b1⟩,⟨hc,hd,d1⟩,c1,k⟩:=h;refine ⟨_,(aE (aL (bQ C_Low hr (aA (aI hZ (bX aJ (pv 0) aB) (bX aJ (pv 1) aB)) (aP (aI hZ (bX aJ (pv 0) aB) (bX aJ (pv 1) aB))))))),?_⟩;replace ha:pW a:=ha;replace hb:pW b:=hb;replace hc:pW c:=hc;replace hd:pW d:=hd;replace b1:1<=b:=b1;replace d1:1<=d:=d1;replace c1:1<=c:=c1;have m1:=eY ha.1 ha.2 hd.1 hd.2;have m2:=eY hb.1 hb.2 hc.1 hc.2;have m3:1<=b * c:=by have:=df (show 0 < b by omega) (show 0 < c by omega);omega
 refine ⟨_,rfl,p,_,_,_,rfl,rfl,aT.of hp,ix0 a b,_,rfl,q,_,_,_,rfl,rfl,aT.of hq,zF c d,_,_,rfl,rfl,⟨ha.below,hd.below⟩,?_⟩;refine ⟨_,rfl,p,_,_,_,rfl,rfl,aT.of hp,zF a b,_,rfl,q,_,_,_,rfl,rfl,aT.of hq,ix0 c d,_,_,rfl,rfl,⟨hb.below,hc.below⟩,?_⟩;exact ⟨_,_,rfl,m1.1,m3,jy m2.2 (by decide),k⟩
theorem bZ0 (m_range:mg "range"=none):fC P w K mg base "power" "power" cF7 1 ["one","k"] spPow:=by
 refine fV ["one","k","top","bottom","step"] fun H Q nd hr h=>?_
 obtain ⟨p,a,b,n,rfl,hp,a0,a9,b0,b9,n0,n1,k⟩:=h;refine ⟨_,(dB 2 nd aB
  (dB 3 nd aB
  (aF (xP (dL (by rfl) m_range (aP (pv 1))) (iF 4 nd)
  (dB 2 nd (aI hZ (pv 2) (bX aJ (pv 0) aB))
  (aE (zO 3 nd (aI hZ (pv 3) (bX aJ (pv 0) aB))))))
  (aE (aL (aS (aA (pv 2) (aP (pv 3))))))))),?_⟩
 refine ⟨_,rfl,_,rfl,by omega,by omega,uB (n:=n.toNat) (fun i σ H1=>H1=H/\∃ v,σ=[some (.ref p),some (.int n),some (.int (a ^ i)),some (.int (b ^ i)),v])
  ⟨rfl,none,by rw [vc,vc];rfl⟩ ?_ ?_⟩
 ·rintro i σ H1 hi ⟨rfl,v,rfl⟩;have e1:=pN (n:=i) a0 a9 (by omega);have e2:=pN (n:=i) b0 b9 (by omega);refine ⟨_,rfl,_,rfl,p,_,_,_,rfl,rfl,aT.of hp,ix0 a b,_,_,rfl,rfl,⟨⟨by omega,by omega⟩,⟨by omega,by omega⟩⟩,?_⟩;refine ⟨_,rfl,_,rfl,p,_,_,_,rfl,rfl,aT.of hp,zF a b,_,_,rfl,rfl,⟨⟨by omega,by omega⟩,⟨by omega,by omega⟩⟩,?_⟩;refine ⟨rfl,some (.int (0+(i:Int))),?_⟩;rw [fm,fm];rfl
 ·rintro σ H1 ⟨rfl,v,rfl⟩;exact ⟨_,rfl,_,rfl,dH,fun r hr'=>k r hr'⟩
theorem bM4 (C_Add:Cl P w K mg base 3 bR9 "added"):fC P w K mg base "come_to" "come_to" bQ6 4 ["shares"] spCome:=by
 refine fV ["shares","total","share"] fun H Q nd hr h=>?_
 obtain ⟨l,us,fs,rfl,hl,tw,sf,k⟩:=h;refine ⟨_,(dB 1 nd (aS (aA aB (aP aB)))
  (aF (xP (lA (pv 0)) (iF 2 nd)
  (aE (zO 1 nd (bQ C_Add hr (aA (pv 1) (aP (pv 2)))))))
  (aE (aL (pv 1))))),?_⟩
 refine ⟨dH,fun t0 ht0=>?_⟩;refine ⟨_,rfl,l,rfl,⟨_,bM.of (aC ht0 _ _ _ hl)⟩,sK (K:=K) (a:=l) (xs:=us) (fun i σ H1=>∃ q v2,σ=[some (.ref l),some (.ref q),v2]/\aU H H1/\aY H1 q ((fs.take i).foldl eF (0,1)).1 ((fs.take i).foldl eF (0,1)).2)
  ⟨t0,_,rfl,aC ht0 _,aD⟩ (by rintro i σ H1 _ ⟨_,_,_,e,_⟩;exact bM.of (e _ _ hl)) ?_ ?_⟩
 ·rintro i v σ H1 hv ⟨q,v2,rfl,s1,hq⟩;obtain ⟨f,hf,qq,rfl,hqq⟩:=tw.at hv;have sa:=aA0 sf hf;refine ⟨_,rfl,_,rfl,q,qq,_,f,rfl,hq,s1 _ _ hqq,sa.1,sa.2,fun r hr'=>⟨r,_,rfl,s1.trans (aC hr' _),?_⟩⟩;rw [cH hf,List.foldl_append];exact aD
 ·rintro σ H1 ⟨q,v2,rfl,s1,hq⟩;rw [tw.length,dy] at hq;exact ⟨_,rfl,k _ q s1 hq⟩
theorem aV4 (C_Times:Cl P w K mg base 3 pS "times") (C_Pow:Cl P w K mg base 1 spPow "power") (m_abs:mg "abs"=none):fC P w K mg base "share_of" "share_of" bC3 4 ["steepness","k"] (aC3 (-21) 21 (fun p q k=>shN p q k.natAbs) (fun p q k=>gN p q k.natAbs)):=by
 refine fV ["steepness","k","top","bottom"] fun H Q nd hr h=>?_
 obtain ⟨st,p,q,n,rfl,hst,hs,n0,n1,k⟩:=h;refine ⟨_,(dB 2 nd (bX aJ (pv 0) aB)
  (dB 3 nd (bX aJ (pv 0) aB)
  (aE (aL (bQ C_Times hr (aA (aS (aA (aI cQ (pv 3) (pv 2)) (aP (aI bE (pv 3) (pv 2))))) (aP (bQ C_Pow hr (aA (pv 0) (aP (sY aU1 m_abs PyProof.Rows.boot_abs (aP (pv 1))))))))))))),?_⟩
 obtain ⟨p1,pq,q9⟩:=id hs;refine ⟨_,rfl,st,_,_,_,rfl,rfl,aT.of hst,ix0 p q,_,rfl,st,_,_,_,rfl,rfl,aT.of hst,zF p q,?_⟩;refine ⟨_,rfl,_,rfl,_,_,rfl,rfl,_,rfl,_,rfl,_,_,rfl,rfl,dH,fun t ht=>?_⟩;have g1:aU H (aM H t (.tup [.int (q - p),.int (q+p)])):=aC ht _;have ht1:aY (aM H t (.tup [.int (q - p),.int (q+p)])) t (q - p) (q+p):=aD;generalize aM H t (.tup [.int (q - p),.int (q+p)])=H1 at g1 ht1 ⊢;have ea:(if n < 0 then -n else n)=(n.natAbs:Int):=by split <;> omega
 refine ⟨_,rfl,_,rfl,_,rfl,st,p,q,_,rfl,g1 _ _ hst,by omega,by omega,by omega,by omega,by rw [ea];omega,by rw [ea];omega,fun r hr'=>?_⟩;rw [ea,dz];have g2:aU H1 (aM H1 r (.tup [.int (p ^ n.natAbs),.int (q ^ n.natAbs)])):=aC hr' _;have hr2:aY (aM H1 r (.tup [.int (p ^ n.natAbs),.int (q ^ n.natAbs)])) r (p ^ n.natAbs) (q ^ n.natAbs):=aD;generalize aM H1 r (.tup [.int (p ^ n.natAbs),.int (q ^ n.natAbs)])=H2 at g2 hr2 ⊢;have e1:=pN (a:=p) (n:=n.natAbs) (by omega) (by omega) (by omega);have e2:=pN (a:=q) (n:=n.natAbs) (by omega) (by omega) (by omega);have e3:1<=q ^ n.natAbs:=by have:(0:Int) < q ^ n.natAbs:=ft (by omega);omega
 refine ⟨t,r,_,_,_,_,rfl,g2 _ _ ht1,hr2,⟨by omega,by omega⟩,⟨by omega,by omega⟩,⟨e1.1,by omega⟩,⟨e2.1,by omega⟩,by omega,e3,fun u hu'=>?_⟩;exact k _ u (g1.trans (g2.trans (aC hu' _))) aD
theorem bT7 (C_Times:Cl P w K mg base 3 pS "times") (C_Pow:Cl P w K mg base 1 spPow "power"):fC P w K mg base "far_tail" "far_tail" cJ8 4 ["steepness","k"] (aC3 0 21 (fun p q k=>mI p q k.toNat) (fun p q k=>gN p q k.toNat)):=by
 refine fV ["steepness","k"] fun H Q nd hr h=>?_
 obtain ⟨st,p,q,n,rfl,hst,hs,n0,n1,k⟩:=h;refine ⟨_,(aE (aL (bQ C_Times hr (aA (aS (aA (bX aJ (pv 0) aB) (aP (aI bE (bX aJ (pv 0) aB) (bX aJ (pv 0) aB))))) (aP (bQ C_Pow hr (aA (pv 0) (aP (pv 1))))))))),?_⟩;obtain ⟨p1,pq,q9⟩:=id hs;refine ⟨_,rfl,st,_,_,_,rfl,rfl,aT.of hst,zF p q,_,rfl,st,_,_,_,rfl,rfl,aT.of hst,zF p q,_,rfl,st,_,_,_,rfl,rfl,aT.of hst,ix0 p q,_,_,rfl,rfl,dH,fun t ht=>?_⟩;have g1:aU H (aM H t (.tup [.int q,.int (q+p)])):=aC ht _;have ht1:aY (aM H t (.tup [.int q,.int (q+p)])) t q (q+p):=aD;generalize aM H t (.tup [.int q,.int (q+p)])=H1 at g1 ht1 ⊢;refine ⟨_,rfl,_,rfl,st,p,q,n,rfl,g1 _ _ hst,by omega,by omega,by omega,by omega,n0,n1,fun r hr'=>?_⟩;have g2:aU H1 (aM H1 r (.tup [.int (p ^ n.toNat),.int (q ^ n.toNat)])):=aC hr' _;have hr2:aY (aM H1 r (.tup [.int (p ^ n.toNat),.int (q ^ n.toNat)])) r (p ^ n.toNat) (q ^ n.toNat):=aD;generalize aM H1 r (.tup [.int (p ^ n.toNat),.int (q ^ n.toNat)])=H2 at g2 hr2 ⊢
 have e1:=pN (a:=p) (n:=n.toNat) (by omega) (by omega) (by omega);have e2:=pN (a:=q) (n:=n.toNat) (by omega) (by omega) (by omega);have e3:1<=q ^ n.toNat:=by have:(0:Int) < q ^ n.toNat:=ft (by omega);omega
 refine ⟨t,r,_,_,_,_,rfl,g2 _ _ ht1,hr2,⟨by omega,by omega⟩,⟨by omega,by omega⟩,⟨e1.1,by omega⟩,⟨e2.1,by omega⟩,by omega,e3,fun u hu'=>?_⟩;exact k _ u (g1.trans (g2.trans (aC hu' _))) aD
theorem bJ9 (C_Minus:Cl P w K mg base 3 spMinus "minus") (C_Far:Cl P w K mg base 4 (aC3 0 21 (fun p q k=>mI p q k.toNat) (fun p q k=>gN p q k.toNat)) "far_tail"):fC P w K mg base "tail_of" "tail_of" bS3 5 ["steepness","k"] (aC3 (-20) 21 tN tD):=by
 refine fV ["steepness","k"] fun H Q nd hr h=>?_
 obtain ⟨st,p,q,n,rfl,hst,hs,n0,n1,k⟩:=h;refine ⟨_,(aF (bK (eL bR3 (pv 1) aB) (aE (aL (bQ C_Far hr (aA (pv 0) (aP (pv 1)))))) aV)
  (aE (aL (bQ C_Minus hr (aA (aS (aA aB (aP aB))) (aP (bQ C_Far hr (aA (pv 0) (aP (aI cQ aB (pv 1))))))))))),?_⟩
 obtain ⟨p1,pq,q9⟩:=id hs;refine ⟨_,rfl,_,_,rfl,rfl,_,rfl,?_⟩;refine aF3 (fun c=>?_) (fun c=>?_)
 ·have c0:0<=n:=ba c;refine ⟨_,rfl,_,rfl,st,p,q,n,rfl,hst,hs,c0,n1,fun H' r s t=>k H' r s ?_⟩;unfold tN tD;simp only [if_pos c0];exact t
 ·have c0:¬ 0<=n:=fun z=>c (ap z)
  refine ⟨dH,fun t ht=>?_⟩;have g1:aU H (aM H t (.tup [.int 1,.int 1])):=aC ht _;have ht1:aY (aM H t (.tup [.int 1,.int 1])) t 1 1:=aD;generalize aM H t (.tup [.int 1,.int 1])=H1 at g1 ht1 ⊢;refine ⟨_,rfl,_,rfl,_,_,rfl,rfl,st,p,q,1 - n,rfl,g1 _ _ hst,hs,by omega,by omega,fun H2 r g2 hr2'=>?_⟩;have hr2:aY H2 r (bJ (mI p q (1 - n).toNat) (gN p q (1 - n).toNat)) (bA (mI p q (1 - n).toNat) (gN p q (1 - n).toNat)):=hr2';have bd:=cK5 hs (n:=(1 - n).toNat) (by omega);have sp:=jS p1 pq (1 - n).toNat;have lb:=bB9 bd.2.2 bd.2.1 sp;have l1:=cB (a:=mI p q (1 - n).toNat) sp;have l2:=aI0 (bC9 p1 pq (1 - n).toNat) sp;refine ⟨t,r,1,1,_,_,rfl,g2 _ _ ht1,hr2,⟨by decide,by decide⟩,⟨by decide,by decide⟩,lb.1,lb.2,by decide,l1,by omega,fun u hu'=>?_⟩;refine k _ u (g1.trans (g2.trans (aC hu' _))) ?_;have rt:=dM (a:=mI p q (1 - n).toNat) (b:=gN p q (1 - n).toNat) bd.2.2.1 sp;have e:=oF (a:=1 * bA (mI p q (1 - n).toNat) (gN p q (1 - n).toNat) - bJ (mI p q (1 - n).toNat) (gN p q (1 - n).toNat) * 1) (b:=1 * bA (mI p q (1 - n).toNat) (gN p q (1 - n).toNat))
   (c:=gN p q (1 - n).toNat - mI p q (1 - n).toNat) (d:=gN p q (1 - n).toNat) (by omega) (by omega) (by have:=bC9 p1 pq (1 - n).toNat;omega) sp (by
    generalize bA (mI p q (1 - n).toNat) (gN p q (1 - n).toNat)=y at rt ⊢;generalize bJ (mI p q (1 - n).toNat) (gN p q (1 - n).toNat)=x at rt ⊢
    grind)
  unfold tN tD;simp only [if_neg c0];rw [<- e.1, <- e.2];exact aD
theorem bO0 (C_Tail:Cl P w K mg base 5 (aC3 (-20) 21 tN tD) "tail_of"):fC P w K mg base "share_from" "share_from" bR4 6 ["mark","number","steepness","low","high"] spFrom:=by
 refine fV ["mark","number","steepness","low","high"] fun H Q nd hr h=>?_
 obtain ⟨st,p,q,m,n,lo,h,rfl,hst,hs,b0,b1,k⟩:=h;refine ⟨_,(aF (bK (eL aV8 (pv 0) (pv 3)) (aE (aL (aS (aA aB (aP aB))))) aV)
  (aF (bK (eL iH (pv 0) (pv 4)) (aE (aL (aS (aA aB (aP aB))))) aV)
  (aE (aL (bQ C_Tail hr (aA (pv 2) (aP (aI cQ (pv 0) (pv 1))))))))),?_⟩
 refine ⟨_,rfl,_,rfl,_,_,rfl,rfl,_,rfl,?_⟩
 by_cases c1:m<=lo
 ·refine bV (by simp [c1]) ?_;refine ⟨dH,fun t ht=>k _ t (aC ht _) ?_⟩;unfold aH0;rw [ao c1];exact aD
 refine bF (by simp;omega) ?_;refine ⟨_,rfl,_,rfl,_,_,rfl,rfl,_,rfl,?_⟩
 by_cases c2:h < m
 ·refine bV (by simp [c2]) ?_;refine ⟨dH,fun t ht=>k _ t (aC ht _) ?_⟩;unfold aH0;rw [aj c1,ao c2];exact aD
 refine bF (by simp;omega) ?_;refine ⟨_,rfl,_,rfl,_,rfl,_,_,rfl,rfl,st,p,q,m - n,rfl,hst,hs,by omega,by omega,fun H' r s1 h1=>k H' r s1 ?_⟩;unfold aH0;rw [aj c1,aj c2];exact h1
theorem bW8 (C_Tail:Cl P w K mg base 5 (aC3 (-20) 21 tN tD) "tail_of") (C_Share:Cl P w K mg base 4 (aC3 (-21) 21 (fun p q k=>shN p q k.natAbs) (fun p q k=>gN p q k.natAbs)) "share_of") (m_tuple:mg "tuple"=none) (m_range:mg "range"=none):fC P w K mg base "ladder_table" "ladder_table" cM3 6 ["number","steepness","low","high"] spLad:=by
 refine fV ["number","steepness","low","high","between","lowest_rung","highest_rung"] fun H Q nd hr h=>?_
 obtain ⟨st,p,q,n,lo,hi,rfl,hst,hs,en,n0,n1,k⟩:=h;refine ⟨_,(aF (bK (eL cY (pv 2) (pv 3)) (aE (aL (aS (aP (aS (aA (pv 2) (aP (aS (aA aB (aP aB)))))))))) aV)
  (aF (xC ["rung","steepness","number"] [none,some 1,some 0] (i:=4) nd rfl (mz rfl) (oR (by rfl) m_range (aA (aI bE (pv 2) aB) (aP (pv 3)))) (fun _ _ _ _=>(iF 0)) (fun _ _ _ _=>fM) (fun _ _ _ _=>(aS (aA (pv 0) (aP (bQ C_Share hr (aA (pv 1) (aP (aI cQ (pv 0) (pv 2))))))))))
  (dB 5 nd (aS (aA (pv 2) (aP (bQ C_Tail hr (aA (pv 1) (aP (aI cQ (pv 0) (pv 2))))))))
  (dB 6 nd (aS (aA (pv 3) (aP (bQ C_Tail hr (aA (pv 1) (aP (aI cQ (pv 3) (pv 0))))))))
  (aE (aL (pct bR m_tuple eg (aP (aI wZ (aI wZ (cS (aP (pv 5))) (pv 4)) (cS (aP (pv 6)))))))))))),?_⟩
 obtain ⟨a1,a2,a3⟩:=id en;refine ⟨_,rfl,_,rfl,rfl,_,rfl,?_⟩
 by_cases c:lo=hi
 ·refine bV (by simp [c]) ?_;refine ⟨_,rfl,dH,fun t1 ht1=>⟨dH,fun t2 ht2=>⟨sV,fun t3 ht3=>?_⟩⟩⟩;refine k _ t3 _ ((aC ht1 _).trans ((aC ht2 _).trans (aC ht3 _))) aD ?_;unfold lY;rw [ao c];exact ⟨⟨t2,t1,rfl,aC ht3 _ _ _ aD,aC ht3 _ _ _ (aC ht2 _ _ _ aD)⟩,trivial⟩
 refine bF (by simp [c]) ?_;have lt:lo < hi:=by omega
 refine ⟨_,rfl,_,_,rfl,rfl,_,rfl,_,_,rfl,⟨by omega,by omega,by omega,by omega⟩,fL (n:=(hi - (lo+1)).toNat) (fun i zs σ H2=>aU H H2/\(∃ v,σ=[v,some (.ref st),some (.int n)])/\dO (nO H2) zs ((aQ (lo+1) i).map (ent p q lo hi n)))
  (aK (by omega)) ⟨aU.refl _,⟨_,rfl⟩,trivial⟩ (by rintro i zs σ H2 ⟨_,_,e⟩;rw [e.length,ac,bO];exact ai _) ?_ ?_⟩
 ·rintro i zs σ H2 hi' ⟨s2,⟨v,rfl⟩,tw⟩;refine ⟨_,rfl,_,rfl,_,rfl,_,rfl,_,_,rfl,rfl,st,p,q,lo+1+i - n,rfl,s2 _ _ hst,hs,by omega,by omega,fun H3 r s3 hr'=>⟨dH,fun t ht=>?_⟩⟩;refine ⟨s2.trans (s3.trans (aC ht _)),⟨_,rfl⟩,?_⟩;rw [bZ,aq];refine dO.append (eW (.of (s3.trans (aC ht _))) tw) ⟨⟨t,r,rfl,aD,?_⟩,trivial⟩;have hne:¬ (lo+1+(i:Int)=lo\/lo+1+(i:Int)=hi):=by omega
  have hr2:=aC ht (.tup [.int (lo+1+i),.ref r]) _ _ hr';unfold ent eN eD;rw [aj hne];exact hr2
 rintro bs σ H2 ⟨s2,_,tw⟩ lb hlb;have g2:aU H (aM H2 lb (.lst bs)):=s2.trans (aC hlb _);have hb2:aM H2 lb (.lst bs) lb=some (.lst bs):=aD;have tw2:=eW (.of (aC hlb (.lst bs))) tw;have hbl:bs.length<=1000:=by rw [tw.length,ac,bO];omega
 generalize aM H2 lb (.lst bs)=H3 at g2 hb2 tw2 ⊢;refine ⟨_,rfl,_,rfl,_,rfl,_,rfl,_,_,rfl,rfl,st,p,q,n - lo,rfl,g2 _ _ hst,hs,by omega,by omega,fun H4 r4 s4 h4=>⟨dH,fun t4 ht4=>?_⟩⟩;have g4:=s4.trans (aC ht4 (.tup [.int lo,.ref r4]));have e4:nO (aM H4 t4 (.tup [.int lo,.ref r4])) (.ref t4) (ent p q lo hi n lo):=by
  refine ⟨t4,r4,rfl,aD,aC ht4 _ _ _ ?_⟩;have ek:(lo - n).natAbs=(n - lo).toNat:=by omega
  have c0:0<=n - lo:=by omega
  unfold tN tD at h4;simp only [if_pos c0] at h4;unfold ent eN eD;rw [ao (mz rfl),ek];exact h4
 generalize aM H4 t4 (.tup [.int lo,.ref r4])=H5 at g4 e4 ⊢;refine ⟨_,rfl,_,rfl,_,rfl,_,rfl,_,_,rfl,rfl,st,p,q,hi - n,rfl,g4 _ _ (g2 _ _ hst),hs,by omega,by omega,fun H6 r6 s6 h6=>⟨dH,fun t6 ht6=>?_⟩⟩;have g6:=s6.trans (aC ht6 (.tup [.int hi,.ref r6]));have e6:nO (aM H6 t6 (.tup [.int hi,.ref r6])) (.ref t6) (ent p q lo hi n hi):=by
  refine ⟨t6,r6,rfl,aD,aC ht6 _ _ _ ?_⟩;have ek:(hi - n).natAbs=(hi - n).toNat:=by omega
  have c0:0<=hi - n:=by omega
  unfold tN tD at h6;simp only [if_pos c0] at h6;unfold ent eN eD;rw [ao (ux rfl),ek];exact h6
 generalize aM H6 t6 (.tup [.int hi,.ref r6])=H7 at g6 e6 ⊢;refine ⟨_,rfl,sV,fun l1 hl1=>?_⟩;have hb7:H7 lb=some (.lst bs):=g6 _ _ (g4 _ _ hb2);refine ⟨_,rfl,l1,lb,_,_,rfl,rfl,aD,aC hl1 _ _ _ hb7,fk (aK (by show 1+bs.length<=1000;rw [tw.length,ac,bO];omega)),fun l2 hl2=>?_⟩;refine ⟨_,rfl,sV,fun l3 hl3=>?_⟩;refine ⟨l2,l3,_,_,rfl,rfl,aC hl3 _ _ _ aD,aD,fk (aK (by rw [be];show 1+bs.length+1<=1000;rw [tw.length,ac,bO];omega)),fun l4 hl4=>?_⟩;refine ⟨l4,_,rfl,.inl ⟨bM.of aD,fun u hu'=>?_⟩⟩;have gg:=(aC hl1 (.lst [.ref t4])).trans ((aC hl2 _).trans ((aC hl3 _).trans ((aC hl4 _).trans (aC hu' (.tup ([V.ref t4]++bs++[V.ref t6]))))));refine k _ u _ (g2.trans (g4.trans (g6.trans gg))) aD ?_;unfold lY;rw [aj c,xY lt,aq,aq];refine dO.append (dO.append ⟨e4.ts ((TS.of g6).trans (TS.of gg)),trivial⟩ (eW ((TS.of (g4.trans g6)).trans (TS.of gg)) tw2)) ⟨e6.ts (TS.of gg),trivial⟩
theorem aZ1 (C_Merg:Cl P w K mg base 4 qR "merged") (C_Cut:Cl P w K mg base 1 spCut "cut") (m_range:mg "range"=none):fC P w K mg base "flat_table" "flat_table" aU7 5 ["number","spread","low","high"] spFlatT:=by
 refine fV ["number","spread","low","high","share"] fun H Q nd hr h=>?_
 obtain ⟨n,r,lo,hi,rfl,r0,r4,en,k⟩:=h;refine ⟨_,(dB 4 nd (aS (aA aB (aP (aI bE (aI hZ aB (pv 1)) aB))))
  (aE (aL (bQ C_Merg hr (aP (eV ["move","share","low","high","number"] [none,some 4,some 2,some 3,some 0] (oR (by rfl) m_range (aA (aX7 aE2 (pv 1)) (aP (aI bE (pv 1) aB)))) (fun _ _ _ _=>(iF 0)) (fun _ _ _ _=>fM) (fun _ _ _ _=>(aS (aA (bQ C_Cut hr (aA (aI bE (pv 4) (pv 0)) (aA (pv 2) (aP (pv 3))))) (aP (pv 1))))))))))),?_⟩
 have ea:=en.a;have eb:=en.b;have ec:=en.c;refine ⟨_,rfl,_,_,rfl,rfl,⟨⟨by omega,by omega⟩,⟨by omega,by omega⟩⟩,_,_,rfl,rfl,dH,fun t0 ht0=>?_⟩;have s0:=aC ht0 (.tup [.int 1,.int (2 * r+1)]);have h0:aY (aM H t0 (.tup [.int 1,.int (2 * r+1)])) t0 1 (2 * r+1):=aD;generalize aM H t0 (.tup [.int 1,.int (2 * r+1)])=H0 at s0 h0 ⊢;refine ⟨_,rfl,_,rfl,_,rfl,_,_,rfl,rfl,_,_,rfl,⟨by omega,by omega,by omega,by omega⟩,fL (n:=(r+1 - -r).toNat) (fun i zs σ H2=>aU H0 H2/\(∃ v,σ=[v,some (.ref t0),some (.int lo),some (.int hi),some (.int n)])/\dO (nO H2) zs (((aQ (-r) i).map fun u=>mQ (n+u) lo hi).map fun k=>(k,1,2 * r+1)))
  (aK (by omega)) ⟨aU.refl _,⟨_,rfl⟩,trivial⟩ (by rintro i zs σ H2 ⟨_,_,e⟩;rw [e.length,ac,ac,bO];exact ai _) ?_ ?_⟩
 ·rintro i zs σ H2 hi' ⟨s2,⟨v,rfl⟩,tw⟩;refine ⟨_,rfl,_,rfl,_,_,rfl,rfl,_,rfl,_,rfl,_,_,_,rfl,_,rfl,dH,fun t ht=>?_⟩;refine ⟨s2.trans (aC ht _),⟨_,rfl⟩,?_⟩;rw [bZ,aq,aq];exact dO.append (eW (.of (aC ht _)) tw) ⟨⟨t,t0,rfl,aD,aC ht _ _ _ (s2 _ _ h0)⟩,trivial⟩
 ·rintro zs σ H2 ⟨s2,_,tw⟩ l2 hl2;have fl:(iE n r lo hi).length<=9:=by unfold iE;rw [ac,bO];omega
  refine ⟨l2,zs,(iE n r lo hi).map fun k=>(k,1,2 * r+1),rfl,aD,eW (.of (aC hl2 _)) tw,by rw [ac];omega,uS (m:=2 * r+1) (by omega) (by omega) (iE n r lo hi) (fun _=>none) (fun _=>0) 0 (fun _=>⟨cu _,cu _⟩) (by omega) (fun _=>rfl),fun H3 t ws ks s3 ht hk hm two=>?_⟩;rw [aF8 eb r0 hk hm] at two;exact k H3 t ws (s0.trans (s2.trans ((aC hl2 _).trans s3))) ht two
theorem cB0 (C_Come:Cl P w K mg base 4 spCome "come_to") (C_Pow:Cl P w K mg base 1 spPow "power") (C_Divd:Cl P w K mg base 3 spDiv "divided") (m_tuple:mg "tuple"=none) (m_enumerate:mg "enumerate"=none):fC P w K mg base "choose_table" "choose_table" cM2 5 ["numbers","steepness"] spChT:=by
 refine fV ["numbers","steepness","weights","total"] fun H Q nd hr h=>?_
 obtain ⟨nt,st,p,q,ns,rfl,hnt,h9,l1,l4,hst,hs,k⟩:=h;refine ⟨_,(aF (xC ["number","steepness"] [none,some 1] (i:=2) nd rfl (mz rfl) (lQ (pv 0)) (fun _ _ _ _=>(iF 0)) (fun _ _ _ _=>fM) (fun _ _ _ _=>(bQ C_Pow hr (aA (aS (aA (bX (aQ4 K) (pv 1) aB) (aP (bX (aQ4 K) (pv 1) aB)))) (aP (pv 0))))))
  (dB 3 nd (bQ C_Come hr (aP (pv 2)))
  (aE (aL (pct bR m_tuple eg (aP (eV ["place","weight","total"] [none,none,some 3] (bH2 (by rfl) m_enumerate (aP (pv 2))) (fun _ _ _ _=>(cG5 K (n:=2) rfl (cO (iF 0) (cO (iF 1) iB)))) (fun _ _ _ _=>fM) (fun _ _ _ _=>(aS (aA (pv 0) (aP (bQ C_Divd hr (aA (pv 1) (aP (pv 2))))))))))))))),?_⟩
 obtain ⟨p1,pq,q9⟩:=id hs;refine ⟨_,rfl,nt,rfl,⟨_,aT.of hnt⟩,nK (xs:=ns.map V.int) (fun i zs σ H2=>aU H H2/\(∃ v,σ=[v,some (.ref st)])/\dO (FrR H2) zs ((ns.take i).map (wC p q)))
  (aK (by rw [ac];omega)) ⟨aU.refl _,⟨_,rfl⟩,trivial⟩ (by rintro i zs σ H2 ⟨_,_,e⟩;rw [e.length,ac,dk];omega) (by rintro i zs σ H2 _ ⟨e,_⟩;exact aT.of (e _ _ hnt)) ?_ ?_⟩
 ·rintro i y zs σ H2 hy ⟨s2,⟨v,rfl⟩,tw⟩;obtain ⟨n,rfl,hn⟩:=kY hy;have n9:=h9 n (br hn);refine ⟨_,rfl,st,_,_,_,rfl,rfl,aT.of (s2 _ _ hst),zF p q,_,rfl,st,_,_,_,rfl,rfl,aT.of (s2 _ _ hst),ix0 p q,dH,fun t ht=>?_⟩;refine ⟨_,rfl,t,q,p,n,rfl,aD,by omega,by omega,by omega,by omega,by omega,by omega,fun r hr'=>?_⟩;have s4:=(aC ht (.tup [.int q,.int p])).trans (aC hr' (.tup [.int (q ^ n.toNat),.int (p ^ n.toNat)]));refine ⟨s2.trans s4,⟨_,rfl⟩,?_⟩;rw [cH hn,aq];exact dO.append (tw.mono fun _ _ z=>z.ts (.of s4)) ⟨⟨r,rfl,aD⟩,trivial⟩
 rintro zs σ H2 ⟨s2,_,tw⟩ lb hlb;rw [ac,dy] at tw;have zl:zs.length=ns.length:=by rw [tw.length,ac]
 have g2:=s2.trans (aC hlb (.lst zs));have hb2:aM H2 lb (.lst zs) lb=some (.lst zs):=aD;have tw2:dO (FrR (aM H2 lb (.lst zs))) zs (ns.map (wC p q)):=tw.mono fun _ _ z=>z.ts (.of (aC hlb _))
 generalize aM H2 lb (.lst zs)=H3 at g2 hb2 tw2 ⊢;have sf:aA4 (0,1) (ns.map (wC p q)):=by
  rw [vO p1];exact pE hs ns 0 (cu _) (by omega) h9
 have et:(ns.map (wC p q)).foldl eF (0,1)=(bJ (eQ p q ns) (p ^ 9),bA (eQ p q ns) (p ^ 9)):=by
  rw [vO p1,xZ hs ns 0 (cu _) h9,nj]
 refine ⟨_,rfl,lb,zs,ns.map (wC p q),rfl,hb2,tw2,sf,fun H4 qt s4 hqt=>?_⟩;rw [et] at hqt;have S1:=aS9 hs h9 l1;have Sb:=wH hs ns h9;have p9:=pN (a:=p) (n:=9) (by omega) (by omega) (by decide);have hP:1<=p ^ 9:=by have:(0:Int) < p ^ 9:=ft (by omega);omega
 generalize hS:eQ p q ns=T at hqt S1 Sb;have fr:=lW (S:=T) (P:=p ^ 9) (by omega) (by omega) hP (by omega);have hb4:=s4 _ _ hb2;refine ⟨_,rfl,lb,rfl,⟨_,bM.of hb4⟩,aQ9 (K:=K) (a:=lb) (xs:=zs) (fun i ys σ H5=>aU H4 H5/\(∃ v1 v2,σ=[v1,v2,some (.ref qt)])/\dO (nO H5) ys (kF T 0 ((ns.take i).map (gC p q))))
  (aK (by omega)) ⟨aU.refl _,⟨_,_,rfl⟩,trivial⟩ (fun i ys σ H5 ⟨_,_,e⟩=>by
   rw [e.length];have e2:∀ (l:List Int) (f:Int),(kF T f l).length=l.length:=by
    intro l
    induction l with
    |nil=>intro f;rfl
    |cons a r ih=>intro f;simp [kF,ih]
   rw [e2,ac,dk];omega) (by rintro i ys σ H5 _ ⟨e,_⟩;exact bM.of (e _ _ hb4)) ?_ ?_⟩
 ·rintro i x ys σ H5 t hx ⟨s5,⟨v1,v2,rfl⟩,tw5⟩ ht;obtain ⟨f,hf,qq,rfl,hqq⟩:=tw2.at hx;rw [cy] at hf;obtain ⟨n,hn,rfl⟩:=gh.mp hf;have n9:=h9 n (br hn);have hi:i < ns.length:=(bu.mp hn).1;have s6:=s5.trans (aC ht (.tup [.int i,.ref qq]));have tw6:=eW (.of (aC ht (.tup [.int i,.ref qq]))) tw5;have ht6:aM H5 t (.tup [.int i,.ref qq]) t=some (.tup [.int i,.ref qq]):=aD;generalize aM H5 t (.tup [.int i,.ref qq])=H6 at s6 tw6 ht6 ⊢;refine ⟨t,_,rfl,aT.of ht6,rfl,_,_,rfl,_,_,rfl,rfl,?_⟩;refine ⟨_,rfl,_,rfl,_,rfl,qq,qt,wC p q n,(bJ T (p ^ 9),bA T (p ^ 9)),rfl,s6 _ _ (s4 _ _ hqq),s6 _ _ hqt,aL3 hs n9.1 n9.2,fr,yI S1 hP,fun r hr'=>⟨dH,fun u hu'=>?_⟩⟩;have cs:=wT hs S1 n9.1 n9.2;have hr7:aY (aM H6 r (.tup (iS ((wC p q n).1 * bA T (p ^ 9)) ((wC p q n).2 * bJ T (p ^ 9))))) r (bJ (gC p q n) T) (bA (gC p q n) T):=by
   rw [<- cs.1, <- cs.2];exact aD
  have s7:=aC hr' (.tup (iS ((wC p q n).1 * bA T (p ^ 9)) ((wC p q n).2 * bJ T (p ^ 9))));generalize aM H6 r (.tup (iS ((wC p q n).1 * bA T (p ^ 9)) ((wC p q n).2 * bJ T (p ^ 9))))=H7 at hr7 s7 hu' ⊢;refine ⟨s6.trans (s7.trans (aC hu' _)),⟨_,_,rfl⟩,?_⟩;rw [cH hn,aq];show dO _ _ (kF T 0 ((ns.take i).map (gC p q)++[gC p q n]));rw [oG];have el:((ns.take i).map (gC p q)).length=i:=by rw [ac,dk];omega
  rw [el,nj];exact dO.append (eW (.of (s7.trans (aC hu' _))) tw6) ⟨⟨u,r,rfl,aD,aC hu' _ _ _ hr7⟩,trivial⟩
 ·rintro ys σ H5 ⟨s5,_,tw5⟩ l6 hl6;rw [zl,dy] at tw5;refine ⟨l6,_,rfl,.inl ⟨bM.of aD,fun u hu'=>?_⟩⟩;have s6:=(aC hl6 (.lst ys)).trans (aC hu' (.tup ys));refine k _ u ys (g2.trans (s4.trans (s5.trans s6))) aD ?_;rw [hS];exact eW (.of s6) tw5
theorem aR8 (C_Num:Cl P w K mg base 3 spNumU "number_of") (C_Lad:Cl P w K mg base 6 spLad "ladder_table") (C_Merg:Cl P w K mg base 4 qR "merged") (C_From:Cl P w K mg base 6 spFrom "share_from") (C_Times:Cl P w K mg base 3 pS "times") (C_Minus:Cl P w K mg base 3 spMinus "minus") (m_enumerate:mg "enumerate"=none) (m_len:mg "len"=none):fC P w K mg base "first_table" "first_table" aL4 7 ["row","crowd"] spFirstT:=by
 refine fV ["row","crowd","low","high","numbers","pairs","mark","share","left","place","number","yes"] fun H Q nd hr h=>?_
 obtain ⟨r,c,x,mk,sa,sb,sm,lo,hi,wss,cs,pa,qa,pb,qb,rfl,FA,k⟩:=h;have hr6:dE 6 _:=hr.mono (by decide);refine ⟨_,(dB 2 nd (bX aJ (pv 0) aB)
  (dB 3 nd (bX aJ (pv 0) aB)
  (dB 4 nd (bQ C_Num hr (aA (pv 0) (aP (pv 1))))
  (dB 5 nd (cS eI)
  (aF (xP (lQ (bQ C_Lad hr (aA (bX aJ (pv 0) aB) (aA (bX aJ (pv 0) aB) (aA (pv 2) (aP (pv 3))))))) (mG rfl (cO (iF 6 nd) (cO (iF 7 nd) iB)))
  (dB 8 nd (pv 7)
  (aF (xP (aT7 (by rfl) m_enumerate (aP (pv 4))) (mG rfl (cO (iF 9 nd) (cO (iF 10 nd) iB)))
  (dB 11 nd (bQ C_From hr (aA (pv 6) (aA (pv 10) (aA (bX aJ (pv 0) aB) (aA (pv 2) (aP (aI cQ (pv 3) aB)))))))
  (aF (cP (fB bg cp cq cE (pv 5) (aP (aS (aA (pv 9) (aP (bQ C_Times hr (aA (pv 8) (aP (pv 11))))))))))
  (aE (zO 8 nd (bQ C_Times hr (aA (pv 8) (aP (bQ C_Minus hr (aA (aS (aA aB (aP aB))) (aP (pv 11))))))))))))
  (aE (cP (fB bg cp cq cE (pv 5) (aP (aS (aA (sY bW m_len gm (aP (pv 4))) (aP (pv 8)))))))))))
  (aE (aL (bQ C_Merg hr (aP (pv 5)))))))))),?_⟩
 obtain ⟨hw,so,hcs,few,hsa,hsb,F⟩:=id FA;have ea:=F.en.a;have eb:=F.en.b;have ec:=F.en.c;refine ⟨_,rfl,r,_,_,_,rfl,rfl,aT.of hw,rfl,?_⟩;refine ⟨_,rfl,r,_,_,_,rfl,rfl,aT.of hw,rfl,?_⟩;refine ⟨_,rfl,_,rfl,r,"first",.ref sm,lo,hi - 1,wss,c,cs,rfl,aB3.v (T:= .fst pa qa pb qb mk lo hi) ⟨x,sa,sb,sm,rfl,hw,hsa,hsb⟩,.inr ⟨vR (.fst pa qa pb qb mk lo hi),sm,rfl,so⟩,hcs,few,fun H1 nt s1 hnt=>?_⟩;generalize hns:cF wss cs lo (hi - 1)=ns at hnt F k;refine ⟨bj _,fun lp hlp=>?_⟩;have hlp0:H lp=none:=by
  cases q:H lp with
  |none=>rfl
  |some o=>rw [s1 _ _ q] at hlp;cases hlp
 have s1':=s1.trans (aC hlp (.lst []));have hnt1:=aC hlp (.lst []) _ _ hnt;have hlp1:aM H1 lp (.lst []) lp=some (.lst []):=aD;generalize aM H1 lp (.lst [])=H1' at s1' hnt1 hlp1 ⊢;refine ⟨_,rfl,r,_,_,_,rfl,rfl,aT.of (s1' _ _ hw),rfl,_,rfl,r,_,_,_,rfl,rfl,aT.of (s1' _ _ hw),rfl,_,rfl,_,rfl,?_⟩;refine ⟨sa,pa,qa,mk,lo,hi,rfl,s1' _ _ hsa,F.sa,⟨ea,by omega,ec⟩,F.m0,F.m1,fun H2 lt us s2 hlt tw=>?_⟩;rw [yB F.sa F.m0 F.m1 (by omega)] at tw;have g2:=s1'.trans s2;have hlp2:=s2 _ _ hlp1;have hnt2:cR H2 nt ns:=s2 _ _ hnt1;have wb:=aM7 F.sa F.sb F.en F.l4;have ul:us.length=(hi+1 - lo).toNat:=by rw [tw.length,ac,bO]
 have l4:=F.l4;have b34:=qX F.sa ea (show lo<=hi by omega) ec;have u34:=qX (lo:=lo) (hi:=hi - 1) F.sb ea (by omega) (by omega);refine ⟨lt,rfl,⟨_,aT.of hlt⟩,xA (K:=K) (a:=lt) (xs:=us) (fun j σ Hj=>∃ ps v6 v7 v8 v9 v10 v11,σ=[some (.ref r),some (.ref c),some (.int lo),some (.int hi),some (.ref nt),some (.ref lp),v6,v7,v8,v9,v10,v11]/\aU H Hj/\TS H2 Hj/\Hj lp=some (.lst ps)/\dO (nO Hj) ps ((dQ pa qa pb qb mk ns lo hi j).map (aO1 (wF pa qa pb qb lo hi ns.length))))
  ⟨[],_,_,_,_,_,_,rfl,g2,fun _ _ e=>e,hlp2,trivial⟩ (by rintro j σ Hj _ ⟨_,_,_,_,_,_,_,_,_,t,_⟩;exact aT.of (t _ _ hlt)) ?_ ?_⟩
 ·rintro j v σ Hj hv ⟨ps,v6,v7,v8,v9,v10,v11,rfl,sj,tj,hlpj,twj⟩;have hj:j < (hi+1 - lo).toNat:=by rw [<- ul];exact (bu.mp hv).1
  obtain ⟨e,he,t,q0,rfl,ht,hq0⟩:=tw.at hv;rw [cy,aH1 hj] at he;have ee:e=(lo+(j:Int),aX (cZ pa qa lo hi mk (lo+(j:Int))) (dS pa qa lo hi)):=(cx he).symm;subst ee;refine ⟨t,_,rfl,aT.of (tj _ _ ht),rfl,_,_,rfl,_,_,rfl,rfl,?_⟩;refine ⟨_,rfl,?_⟩;have l0:=xJ (lo:=lo) (hi:=hi) (n:=mk) (y:=lo+(j:Int)) F.sa;have lb:=vK F.sa F.m0 F.m1 (show lo < hi by omega) (show lo<=lo+(j:Int) by omega) (show lo+(j:Int)<=hi by omega);have tris:=F.tris (m:=lo+(j:Int));have pe:dS pa qa lo hi * dC (ns.map (uF pb qb lo (hi - 1) (lo+(j:Int))))=(wF pa qa pb qb lo hi ns.length):=by rw [kU];rfl
  have psl:=twj.length;rw [ac,iY] at psl;have jb:j * (ns.length+1)<=10 * 5:=gj (show j<=10 by omega) (show ns.length+1<=5 by omega);refine ⟨_,rfl,nt,rfl,⟨_,aT.of (tj _ _ hnt2)⟩,aP5 (K:=K) (a:=nt) (xs:=ns.map V.int) (fun i σ Hi=>∃ ps2 l D dc q v9 v10 v11,σ=[some (.ref r),some (.ref c),some (.int lo),some (.int hi),some (.ref nt),some (.ref lp),some (.int (lo+(j:Int))),some (.ref q0),some (.ref q),v9,v10,v11]/\aU H Hi/\TS H2 Hi/\Hi lp=some (.lst ps2) /\
    dO (nO Hi) ps2 ((dQ pa qa pb qb mk ns lo hi j++gB 0 dc).map (aO1 (wF pa qa pb qb lo hi ns.length)))/\cX (cZ pa qa lo hi mk (lo+(j:Int))) (ns.map (uF pb qb lo (hi - 1) (lo+(j:Int))))=dc++cX l ((ns.map (uF pb qb lo (hi - 1) (lo+(j:Int)))).drop i)/\dc.length=i /\
    aY Hi q (aX l D).1 (aX l D).2/\0<=l/\l<=D/\1<=D/\D * dC ((ns.map (uF pb qb lo (hi - 1) (lo+(j:Int)))).drop i)=(wF pa qa pb qb lo hi ns.length))
   ⟨ps,cZ pa qa lo hi mk (lo+(j:Int)),dS pa qa lo hi,[],q0,_,_,_,rfl,sj,tj,hlpj,by rw [show gB 0 []=[] from rfl,gz];exact twj,rfl,rfl,tj _ _ hq0,by omega,lb,b34.1,pe⟩ (by rintro i σ Hi _ ⟨_,_,_,_,_,_,_,_,_,_,t,_⟩;exact aT.of (t _ _ hnt2)) ?_ ?_⟩
  ·rintro i y σ Hi t2 hy ⟨ps2,l,D,dc,q,v9,v10,v11,rfl,si,ti,hlpi,twi,ecc,dl,hq,l0',lD,D1,pD⟩ ht2;obtain ⟨n,rfl,hn⟩:=kY hy;have hin:i < ns.length:=(bu.mp hn).1;have nn:=F.nn n (br hn);have hdrop:(ns.map (uF pb qb lo (hi - 1) (lo+(j:Int)))).drop i=uF pb qb lo (hi - 1) (lo+(j:Int)) n :: (ns.map (uF pb qb lo (hi - 1) (lo+(j:Int)))).drop (i+1):=aZ3 (by rw [cy,hn];rfl);have tt:Tri (uF pb qb lo (hi - 1) (lo+(j:Int)) n):=tris _ (cm.mpr ⟨n,br hn,rfl⟩);rw [hdrop] at ecc pD;have prp:1<=dC ((ns.map (uF pb qb lo (hi - 1) (lo+(j:Int)))).drop (i+1)):=nS fun t ht=>tris t (xp ht)
   generalize (ns.map (uF pb qb lo (hi - 1) (lo+(j:Int)))).drop (i+1)=rest at ecc pD prp ⊢;have ta:0<=aft pb qb lo (hi - 1) n (lo+(j:Int)):=tt.a;have tc:0<=bef pb qb lo (hi - 1) n (lo+(j:Int)):=tt.c;have tS:aft pb qb lo (hi - 1) n (lo+(j:Int))+bef pb qb lo (hi - 1) n (lo+(j:Int))=dS pb qb lo (hi - 1):=tt.s;have pD':D * (dS pb qb lo (hi - 1) * dC rest)=(wF pa qa pb qb lo hi ns.length):=pD;have ecc':cX (cZ pa qa lo hi mk (lo+(j:Int))) (ns.map (uF pb qb lo (hi - 1) (lo+(j:Int))))=dc++(l * aft pb qb lo (hi - 1) n (lo+(j:Int)) * dC rest :: cX (l * bef pb qb lo (hi - 1) n (lo+(j:Int))) rest):=ecc;have up:1<=dS pb qb lo (hi - 1) * dC rest:=by
    have:=df (show 0 < dS pb qb lo (hi - 1) by omega) (show 0 < dC rest by omega);omega
   have dW:=ir up (show 0<=D by omega);rw [pD',rl] at dW;have si2:=si.trans (aC ht2 (.tup [.int i,.int n]));have ti2:=ti.trans (TS.of (aC ht2 (.tup [.int i,.int n])));have hlpi2:=aC ht2 (.tup [.int i,.int n]) _ _ hlpi;have twi2:=eW (.of (aC ht2 (.tup [.int i,.int n]))) twi;have hq2:=aC ht2 (.tup [.int i,.int n]) _ _ hq;have htt:aM Hi t2 (.tup [.int i,.int n]) t2=some (.tup [.int i,.int n]):=aD;generalize aM Hi t2 (.tup [.int i,.int n])=Ha at si2 ti2 hlpi2 twi2 hq2 htt ⊢;refine ⟨t2,_,rfl,aT.of htt,rfl,_,_,rfl,_,_,rfl,rfl,?_⟩;refine ⟨_,rfl,_,rfl,_,rfl,r,_,_,_,rfl,rfl,aT.of (si2 _ _ hw),rfl,_,rfl,_,rfl,_,_,rfl,rfl,?_⟩;refine ⟨sb,pb,qb,lo+(j:Int),n,lo,hi - 1,rfl,si2 _ _ hsb,F.sb,by omega,by omega,fun Hb qy sB hqy=>?_⟩;rw [bN1 F.sb nn.1 nn.2 (by omega) (by omega) u34.1] at hqy;have si3:=si2.trans sB;have ti3:=ti2.trans (TS.of sB);have hlp3:=sB _ _ hlpi2;have tw3:=eW (.of sB) twi2
   have hq3:aY Hb q (aX l D).1 (aX l D).2:=sB _ _ hq2;generalize aft pb qb lo (hi - 1) n (lo+(j:Int))=A at ta tS ecc' hqy ⊢;generalize bef pb qb lo (hi - 1) n (lo+(j:Int))=C at tc tS ecc' ⊢;generalize hU:dS pb qb lo (hi - 1)=U at tS pD' up hqy u34;have fl:iW (aX l D):=lW l0' (by omega) D1 (by omega);have fy:iW (aX A U):=lW ta (by omega) u34.1 (by omega);have fc:iW (aX C U):=lW tc (by omega) u34.1 (by omega);have x1:=bz l0' ta;have x2:=bz l0' tc;have x3:=df (show 0 < D by omega) (show 0 < U by omega);have x4:=bz x1 (show 0<=dC rest by omega);refine ⟨_,rfl,.inl ⟨rfl,_,bM.of hlp3⟩,?_⟩;refine ⟨_,rfl,_,rfl,_,rfl,q,qy,_,_,_,_,rfl,hq3,hqy,fl.1,fl.2.1,fy.1,fy.2.1,fl.2.2,fy.2.2,fun r6 hr6=>⟨dH,fun t6 ht6=>?_⟩⟩;have e6:aX ((aX l D).1 * (aX A U).1) ((aX l D).2 * (aX A U).2)=aX (l * A * dC rest) (wF pa qa pb qb lo hi ns.length):=by
    rw [wJ l0' D1 ta u34.1];refine iD x1 (by omega) x4 wb.1 ?_;rw [<- pD'];generalize dC rest=pr
    grind
   have hr6':aY (aM Hb r6 (.tup (iS ((aX l D).1 * (aX A U).1) ((aX l D).2 * (aX A U).2)))) r6 (aX (l * A * dC rest) (wF pa qa pb qb lo hi ns.length)).1 (aX (l * A * dC rest) (wF pa qa pb qb lo hi ns.length)).2:=by
    rw [<- e6];exact aD
   have s6:=aC hr6 (.tup (iS ((aX l D).1 * (aX A U).1) ((aX l D).2 * (aX A U).2)));generalize aM Hb r6 (.tup (iS ((aX l D).1 * (aX A U).1) ((aX l D).2 * (aX A U).2)))=Hc at hr6' s6 ht6 ⊢;have s7:=s6.trans (aC ht6 (.tup [.int i,.ref r6]));have ht7:aM Hc t6 (.tup [.int i,.ref r6]) t6=some (.tup [.int i,.ref r6]):=aD;have hr7:=aC ht6 (.tup [.int i,.ref r6]) _ _ hr6';generalize aM Hc t6 (.tup [.int i,.ref r6])=Hd at s7 ht7 hr7 ⊢;have hlp7:=s7 _ _ hlp3;have psl2:=tw3.length;rw [ac,be,iY,kR,dl] at psl2;refine ⟨lp,ps2,_,rfl,rfl,hlp7,aK (by omega),?_⟩;have tl:TS Hd (aM Hd lp (.lst (ps2++[.ref t6]))):=TS.lst hlp7;have si8:aU H (aM Hd lp (.lst (ps2++[.ref t6]))):=dF (si3.trans s7) hlp0;have tb8:=(TS.of s7).trans tl;have hlp8:aM Hd lp (.lst (ps2++[.ref t6])) lp=some (.lst (ps2++[.ref t6])):=aD;have tw8:dO (nO (aM Hd lp (.lst (ps2++[.ref t6])))) (ps2++[.ref t6]) ((dQ pa qa pb qb mk ns lo hi j++gB 0 (dc++[l * A * dC rest])).map (aO1 (wF pa qa pb qb lo hi ns.length))):=by
    rw [mD, <- jr,aq];refine dO.append (eW tb8 tw3) ⟨⟨t6,r6,rfl,?_,tl _ _ hr7⟩,trivial⟩;rw [dl];show _=some (HO.tup [.int (0+(i:Int)),.ref r6]);rw [nj];exact tl _ _ ht7
   have hq8:aY (aM Hd lp (.lst (ps2++[.ref t6]))) q (aX l D).1 (aX l D).2:=tb8 _ _ hq3;have hqy8:aY (aM Hd lp (.lst (ps2++[.ref t6]))) qy (aX A U).1 (aX A U).2:=tb8 _ _ hqy;have ti8:=ti3.trans tb8;generalize aM Hd lp (.lst (ps2++[.ref t6]))=He at si8 hlp8 tw8 hq8 hqy8 ti8 ⊢;have le:=aI0 (a:=A) (b:=U) (by omega) u34.1;refine ⟨_,rfl,dH,fun t9 ht9=>⟨_,rfl,t9,qy,1,1,_,_,rfl,aD,aC ht9 _ _ _ hqy8,⟨by decide,by decide⟩,⟨by decide,by decide⟩,fy.1,fy.2.1,by decide,fy.2.2,by show bJ A U * 1<=1 * bA A U;omega,fun r9 hr9=>?_⟩⟩;have e9:=bM6 ta tc u34.1 tS;have hr9':aY (aM (aM He t9 (.tup [.int 1,.int 1])) r9 (.tup (iS (1 * (aX A U).2 - (aX A U).1 * 1) (1 * (aX A U).2)))) r9 (aX C U).1 (aX C U).2:=by
    rw [<- e9];exact aD
   have s9:=(aC ht9 (.tup [.int 1,.int 1])).trans (aC hr9 (.tup (iS (1 * (aX A U).2 - (aX A U).1 * 1) (1 * (aX A U).2))));generalize aM (aM He t9 (.tup [.int 1,.int 1])) r9 (.tup (iS (1 * (aX A U).2 - (aX A U).1 * 1) (1 * (aX A U).2)))=Hf at hr9' s9 ⊢;refine ⟨q,r9,_,_,_,_,rfl,s9 _ _ hq8,hr9',fl.1,fl.2.1,fc.1,fc.2.1,fl.2.2,fc.2.2,fun ra hra=>?_⟩;have e10:=wJ l0' D1 tc u34.1;have sA:=s9.trans (aC hra (.tup (iS ((aX l D).1 * (aX C U).1) ((aX l D).2 * (aX C U).2))));have hra':aY (aM Hf ra (.tup (iS ((aX l D).1 * (aX C U).1) ((aX l D).2 * (aX C U).2)))) ra (aX (l * C) (D * U)).1 (aX (l * C) (D * U)).2:=by
    rw [<- e10];exact aD
   have lC:l * C<=D * U:=bn (ir (show C<=U by omega) l0') (di lD (by omega));refine ⟨ps2++[.ref t6],l * C,D * U,dc++[l * A * dC rest],ra,_,_,_,rfl,si8.trans sA,ti8.trans (TS.of sA),sA _ _ hlp8,eW (.of sA) tw8,?_,by rw [be,dl];rfl,hra',x2,lC,by omega,?_⟩
   ·rw [ecc',jr];rfl
   ·rw [ud];exact pD'
  ·rintro σ Hi ⟨ps2,l,D,dc,q,v9,v10,v11,rfl,si,ti,hlpi,twi,ecc,dl,hq,l0',lD,D1,pD⟩;rw [ac] at ecc dl pD;have hdr:(ns.map (uF pb qb lo (hi - 1) (lo+(j:Int)))).drop ns.length=[]:=by rw [wj];rw [ac];exact ai _
   rw [hdr] at ecc pD;have pD1:D * 1=(wF pa qa pb qb lo hi ns.length):=pD;rw [rl] at pD1;subst pD1;refine ⟨_,rfl,.inl ⟨rfl,_,bM.of hlpi⟩,?_⟩;refine ⟨_,rfl,nt,_,rfl,.inr (aT.of (ti _ _ hnt2)),_,rfl,dH,fun t6 ht6=>?_⟩;obtain ⟨Hd,e0,s7,ht7⟩:=lay ht6 (.tup [.int ((ns.map V.int).length:Int),.ref q]);rw [e0];clear e0;have hlp7:=s7 _ _ hlpi;have psl2:=twi.length;rw [ac,be,iY,kR,dl] at psl2;refine ⟨lp,ps2,_,rfl,rfl,hlp7,aK (by omega),?_⟩;have tl:TS Hd (aM Hd lp (.lst (ps2++[.ref t6]))):=TS.lst hlp7;have tb8:=(TS.of s7).trans tl;refine ⟨ps2++[.ref t6],_,_,_,_,_,_,rfl,dF (si.trans s7) hlp0,ti.trans tb8,aD,?_⟩;rw [kI];unfold sF;rw [ecc];show dO _ _ ((dQ pa qa pb qb mk ns lo hi j++gB 0 (dc++[l])).map _);rw [mD, <- jr,aq];refine dO.append (eW tb8 twi) ⟨⟨t6,q,rfl,?_,tb8 _ _ hq⟩,trivial⟩;rw [dl];show _=some (HO.tup [.int (0+(ns.length:Int)),.ref q])
   rw [nj];rw [ac] at ht7;exact tl _ _ ht7
 ·rintro σ Hj ⟨ps,v6,v7,v8,v9,v10,v11,rfl,sj,tj,hlpj,twj⟩;rw [ul] at twj;refine ⟨_,rfl,lp,ps,_,rfl,hlpj,twj,by rw [ac];have:=F.len;omega,F.safe,fun H3 t ws ks s3 ht hk hm two=>?_⟩;rw [F.table hk hm] at two;exact k H3 t ws (sj.trans s3) ht two
theorem cA4 (C_Num:Cl P w K mg base 3 spNumU "number_of") (C_Lad:Cl P w K mg base 6 spLad "ladder_table") (C_FirstT:Cl P w K mg base 7 spFirstT "first_table") (C_ChT:Cl P w K mg base 5 spChT "choose_table") (C_FlatT:Cl P w K mg base 5 spFlatT "flat_table"):fC P w K mg base "thrown" "thrown" cL2 8 ["row","crowd"] spThrU:=by
 refine fV ["row","crowd","numbers"] fun H Q nd hr h=>?_
 obtain ⟨r,c,T,a3,wss,cs,rfl,⟨hrow,so,hcs⟩,hok,ak,k⟩:=h;refine ⟨_,(aF (bK (eL cY (bX aJ (pv 0) aB) aH) (aE (aL (bQ C_FirstT hr (aA (pv 0) (aP (pv 1)))))) aV)
  (dB 2 nd (bQ C_Num hr (aA (pv 0) (aP (pv 1))))
  (aF (bK (eL cY (bX aJ (pv 0) aB) aH) (aE (aL (bQ C_ChT hr (aA (pv 2) (aP (bX aJ (pv 0) aB)))))) aV)
  (aF (bK (eL cY (bX aJ (pv 0) aB) aH) (aE (aL (bQ C_FlatT hr (aA (bX aJ (pv 2) aB) (aA (bX aJ (pv 0) aB) (aA (bX aJ (pv 0) aB) (aP (bX aJ (pv 0) aB)))))))) aV)
  (aE (aL (bQ C_Lad hr (aA (bX aJ (pv 2) aB) (aA (bX aJ (pv 0) aB) (aA (bX aJ (pv 0) aB) (aP (bX aJ (pv 0) aB)))))))))))),?_⟩
 have nm:=ak.num hok
 cases T with
 |fst pa qa pb qb mk lo hi =>
  obtain ⟨x,sa,sb,sm,rfl,hw,hsa,hsb⟩:=hrow;rcases so with ⟨z,_⟩ | ⟨_,sm',e,so⟩
  ·cases z
  cases e
  refine ⟨_,rfl,r,_,_,_,rfl,rfl,aT.of hw,rfl,rfl,_,rfl,qQ (aY5 _) ?_⟩;refine ⟨_,rfl,_,rfl,r,c,x,mk,sa,sb,sm,lo,hi,wss,cs,pa,qa,pb,qb,rfl,⟨hw,so,hcs,ak.few,hsa,hsb,dP.inF hok nm⟩,fun H1 t us s1 ht tw=>k H1 t us s1 ht ?_⟩;rw [dP.tab_fst];exact tw
 |cho p q lo hi =>
  have hv:=aB3.v hrow;obtain ⟨x,st,hw,hst⟩:=hrow;refine ⟨_,rfl,r,_,_,_,rfl,rfl,aT.of hw,rfl,rfl,_,rfl,iP (aB5 bA8) ?_⟩;refine ⟨_,rfl,_,rfl,r,_,a3,lo,hi,wss,c,cs,rfl,hv,by rw [vR];exact so,hcs,ak.few,fun H1 t s1 ht=>?_⟩;have hw1:=s1 _ _ hw;refine ⟨_,rfl,r,_,_,_,rfl,rfl,aT.of hw1,rfl,rfl,_,rfl,qQ (aY5 _) ?_⟩;have e:=hok.l.2;have ea:=e.a;have ec:=e.c;refine ⟨_,rfl,_,rfl,r,_,_,_,rfl,rfl,aT.of hw1,rfl,t,st,p,q,_,rfl,ht,fun n hn=>?_,nm.l1,nm.l4,s1 _ _ hst,hok.l.1,fun H2 u us s2 hu' tw=>k H2 u us (s1.trans s2) hu' ?_⟩
  ·have i:lo<=n/\n<=hi:=nm.i n hn;exact ⟨by omega,by omega⟩
  ·rw [dP.tab_cho hok nm.i];exact tw
 |fla rr lo hi =>
  have hv:=aB3.v hrow;obtain ⟨x,hw⟩:=hrow;refine ⟨_,rfl,r,_,_,_,rfl,rfl,aT.of hw,rfl,rfl,_,rfl,iP (aB5 aS4) ?_⟩;refine ⟨_,rfl,_,rfl,r,_,a3,lo,hi,wss,c,cs,rfl,hv,by rw [vR];exact so,hcs,ak.few,fun H1 t s1 ht=>?_⟩;have hw1:=s1 _ _ hw;refine ⟨_,rfl,r,_,_,_,rfl,rfl,aT.of hw1,rfl,rfl,_,rfl,iP (aB5 cE1) ?_⟩;refine ⟨_,rfl,r,_,_,_,rfl,rfl,aT.of hw1,rfl,rfl,_,rfl,qQ (aY5 _) ?_⟩;obtain ⟨n,en⟩:=dP.one_num (nm.o rfl);have en:cF wss cs lo hi=[n]:=en;rw [en] at ht;have kk:∀ H' t us,aU H H'->H' t=some (.tup us)->dO (nO H') us ((dP.fla rr lo hi).tab (cF wss cs lo hi))->Q (.ref t) H':=k;rw [en] at kk;refine ⟨_,rfl,t,_,_,_,rfl,rfl,aT.of ht,rfl,_,rfl,r,_,_,_,rfl,rfl,aT.of hw1,rfl,_,rfl,r,_,_,_,rfl,rfl,aT.of hw1,rfl,_,rfl,r,_,_,_,rfl,rfl,aT.of hw1,rfl,?_⟩;exact ⟨n,rr,lo,hi,rfl,hok.l.1,hok.l.2.1,hok.l.2.2,fun H2 u us s2 hu' tw=>kk H2 u us (s1.trans s2) hu' tw⟩
 |lad p q lo hi =>
  have hv:=aB3.v hrow;obtain ⟨x,st,hw,hst⟩:=hrow;refine ⟨_,rfl,r,_,_,_,rfl,rfl,aT.of hw,rfl,rfl,_,rfl,iP (aB5 aV2) ?_⟩;refine ⟨_,rfl,_,rfl,r,_,a3,lo,hi,wss,c,cs,rfl,hv,by rw [vR];exact so,hcs,ak.few,fun H1 t s1 ht=>?_⟩;have hw1:=s1 _ _ hw;refine ⟨_,rfl,r,_,_,_,rfl,rfl,aT.of hw1,rfl,rfl,_,rfl,iP (aB5 cF5) ?_⟩;refine ⟨_,rfl,r,_,_,_,rfl,rfl,aT.of hw1,rfl,rfl,_,rfl,iP (aB5 cJ7) ?_⟩;obtain ⟨n,en⟩:=dP.one_num (nm.o rfl);have en:cF wss cs lo hi=[n]:=en;have i:lo<=n/\n<=hi:=nm.i n (by show n∈cF wss cs lo hi;rw [en];exact au.mpr rfl);rw [en] at ht;have kk:∀ H' t us,aU H H'->H' t=some (.tup us)->dO (nO H') us ((dP.lad p q lo hi).tab (cF wss cs lo hi))->Q (.ref t) H':=k;rw [en,dP.tab_lad hok i.1 i.2] at kk;refine ⟨_,rfl,t,_,_,_,rfl,rfl,aT.of ht,rfl,_,rfl,r,_,_,_,rfl,rfl,aT.of hw1,rfl,_,rfl,r,_,_,_,rfl,rfl,aT.of hw1,rfl,_,rfl,r,_,_,_,rfl,rfl,aT.of hw1,rfl,?_⟩;exact ⟨st,p,q,n,lo,hi,rfl,s1 _ _ hst,hok.l.1,hok.l.2,i.1,i.2,fun H2 u us s2 hu' tw=>kk H2 u us (s1.trans s2) hu' tw⟩
theorem bU3 {cL:Addr}  (C_All:Cl P w K mg base 9 (aV6 cL) "all_runs") (m_len:mg "len"=none):bO1 P w K mg base "runs_of" "runs_of" cF9 10 ["program","crowd","most"] spRunsOf:=by
 refine cK9 ["program","crowd","most"] fun H Q nd hr h=>?_
 obtain ⟨pg,c,most,NM,KS,cs,M,rs,rfl,m30,mb,pk,k⟩:=h;refine ⟨_,(aE (aL (sY bW m_len gm (aP (bQ C_All hr (aA (pv 0) (aA (pv 1) (aP (pv 2))))))))),?_⟩;obtain ⟨kv,pr,h1,h2⟩:=pk.at';refine ⟨_,rfl,_,rfl,_,rfl,pg,pr,c,kv,most,NM,KS,cs,M,rs,rfl,m30,mb,h1,h2,pk.rw,pk.c,pk.nm,pk.ks,pk.g,pk.m1,pk.m2,pk.w,fun H' l us s hl tw l30 ov=>?_⟩;refine ⟨l,us,rfl,.inl (bM.of hl),?_⟩;rw [tw.length];exact k _ s
theorem bO6 {cL:Addr}  (C_Merg:Cl P w K mg base 4 spMrg "merged") (C_All:Cl P w K mg base 9 (aV6 cL) "all_runs"):bO1 P w K mg base "told_table" "told_table" bP5 10 ["program","crowd","most"] spTold:=by
 refine cK9 ["program","crowd","most"] fun H Q nd hr h=>?_
 obtain ⟨pg,c,most,NM,KS,cs,M,rs,rfl,m30,mb,pk,k⟩:=h;refine ⟨_,(aE (aL (bQ C_Merg hr (aP (bQ C_All hr (aA (pv 0) (aA (pv 1) (aP (pv 2))))))))),?_⟩;obtain ⟨kv,pr,h1,h2⟩:=pk.at';refine ⟨_,rfl,_,rfl,_,rfl,pg,pr,c,kv,most,NM,KS,cs,M,rs,rfl,m30,mb,h1,h2,pk.rw,pk.c,pk.nm,pk.ks,pk.g,pk.m1,pk.m2,pk.w,fun H' l us s hl tw l30 ov=>?_⟩;exact ⟨true,l,us,_,rfl,hl,tw,by omega,bY8 pk.m1 pk.m2 (by omega) ov,fun H2 t ks s2=>k H2 t ks (s.trans s2)⟩
theorem bJ5 (m_len:mg "len"=none):fC P w K mg base "_law_draw" "_law_draw" bP4 1 ["_law_pot_here","_law_many"] spDrawP:=by
 refine fV ["_law_pot_here","_law_many","_law_digit","_law_one"] fun H Q nd hr h=>?_
 obtain ⟨p,l,m,rfl,D,m0,m1,k⟩:=h;refine ⟨_,(aF (fY ib (PW.pt (iO (eL cY (bX cW (pv 0) aB) aB) (fO (eL iH (sY bW m_len gm (aP (bX cW (pv 0) aB))) aB))))
  (aE (nR (fB bg jk jl bF5 (bX cW (pv 0) aB) (aP aB)) (aH2 (pv 0) aB sD))))
  (aF (bK (eL iH (bX cW (pv 0) aB) aB) (dB 2 nd (aI fF (bX cW (pv 0) aB) (pv 1))
  (aF (nR (aI gQ (bX cW (pv 0) aB) (pv 1)) (aH2 (pv 0) aB sD))
  (aE (aL (pv 2))))) aV)
  (dB 3 nd (aI fF (aI bE (aI fP (bX cW (pv 0) aB) aB) aB) aB)
  (aF (nR (aI bE (aI fF (aI bE (aI fP (pv 3) aB) aB) aB) aB) (aH2 (pv 0) aB sD))
  (aE (aL (aI fF (aI gQ (aI bE (aI fP (aI fF (aI fP (pv 3) (pv 3)) aB) aB) (bX cW (pv 0) aB)) aB) (pv 1)))))))),?_⟩
 obtain ⟨sd0,n0,ls0,D0⟩:=D;refine ⟨fun j σ G=>∃ (sd n:Int) (ls:List Int),σ=[some (.ref p),some (.int m),none,none]/\gM G p l sd n ls/\Out p l H G/\j=ls.length,⟨_,sd0,n0,ls0,rfl,D0,.refl _,rfl⟩,?_⟩;rintro j σ G ⟨sd,n,ls,rfl,D,o,rfl⟩;refine ⟨_,rfl,p,_,_,.int n,rfl,rfl,bM.of D.pc,rfl,rfl,_,rfl,?_⟩
 by_cases c:n=0
 ·refine bV (by rw [c];exact ap rfl) ?_;refine ⟨_,rfl,p,_,_,.ref l,rfl,rfl,bM.of D.pc,rfl,l,_,rfl,.inl (bM.of D.lc),_,_,rfl,rfl,_,rfl,?_⟩
  cases ls with
  |cons x ls =>
   refine bV (by simp) ?_;refine ⟨fun σ' G'=>∃ (sd n:Int) (ls':List Int),σ'=[some (.ref p),some (.int m),none,none]/\gM G' p l sd n ls'/\Out p l H G'/\ls'.length < (x :: ls).length,(by rintro σ' G' ⟨a,b,d,e1,e2,e3,e4⟩;exact ⟨_,e4,a,b,d,e1,e2,e3,rfl⟩),?_⟩;have x0:=D.l0 x ah;refine ⟨_,rfl,p,_,_,.ref l,rfl,rfl,bM.of D.pc,rfl,.inl ⟨rfl,_,bM.of D.lc⟩,l,_,0,0,.int x,rfl,rfl,D.lc,by decide,by decide,wc (by decide) (by simp),rfl,?_⟩;have D1:=D.left (ls':=ls) fun y hy=>D.l0 y (ae _ hy)
   refine ⟨_,rfl,p,_,1,1,rfl,rfl,D1.pc,rfl,?_⟩;exact ⟨sd,x,ls,rfl,D1.number x0,(o.trans .upd_l).trans .upd_d,by simp⟩
  |nil =>
   refine bF (by simp) ?_;refine ⟨_,rfl,p,_,_,.int n,rfl,rfl,bM.of D.pc,rfl,_,_,rfl,rfl,_,rfl,bF (by rw [c];simp) ?_⟩;have s0:=D.s0;have s1:=D.s1;have bs:cK 64 sd:=cK.of s0 (by omega);refine ⟨_,rfl,p,_,_,.int sd,rfl,rfl,bM.of D.pc,rfl,_,_,rfl,rfl,⟨64,64,bs,by unfold cK;decide,by decide,by decide⟩,_,_,rfl,rfl,_,_,rfl,rfl,(show (0:Int) < 2147483647 by decide),?_⟩;have a0:=ia (sd * 48271+7919) (show (2147483647:Int)≠0 by decide);have a1:=gr (sd * 48271+7919) (show (0:Int) < 2147483647 by decide);obtain ⟨x,ex⟩:∃ x,x=(sd * 48271+7919) % 2147483647:=⟨_,rfl⟩
   rw [<- ex] at a0 a1;have bx:cK 64 x:=cK.of a0 (by omega);rw [ex] at bx;refine ⟨_,rfl,_,_,rfl,rfl,⟨64,64,bx,by unfold cK;decide,by decide,by decide⟩,_,_,rfl,rfl,_,_,rfl,rfl,(show (0:Int) < 2147483399 by decide),_,_,rfl,rfl,?_⟩;have b0:=ia ((sd * 48271+7919) % 2147483647 * 40692+12345) (show (2147483399:Int)≠0 by decide);have b1:=gr ((sd * 48271+7919) % 2147483647 * 40692+12345) (show (0:Int) < 2147483399 by decide);refine ⟨_,rfl,p,_,0,0,rfl,rfl,D.pc,rfl,?_⟩;have D2:=D.seed (v:=((sd * 48271+7919) % 2147483647 * 40692+12345) % 2147483399+1) (by omega) (by omega);have c0:=ia ((sd * 48271+7919) % 2147483647 * ((sd * 48271+7919) % 2147483647)) (show (2147483629:Int)≠0 by decide);have c1:=gr ((sd * 48271+7919) % 2147483647 * ((sd * 48271+7919) % 2147483647)) (show (0:Int) < 2147483629 by decide);refine ⟨_,rfl,_,rfl,_,_,rfl,rfl,⟨64,64,bx,bx,by decide,by decide⟩,_,_,rfl,rfl,(show (0:Int) < 2147483629 by decide),_,_,rfl,rfl,⟨64,64,cK.of c0 (by omega),by unfold cK;decide,by decide,by decide⟩,_,rfl,p,_,_,.int _,rfl,rfl,bM.of D2.pc,rfl,_,_,rfl,rfl,_,_,rfl,rfl,⟨(show (0:Int) < 64 by decide),64,by unfold cK;decide,by decide⟩,_,rfl,_,_,rfl,rfl,m0,?_⟩
   exact k _ _ (ia _ (by omega)) (gr _ m0) ⟨_,_,_,D2⟩ (o.trans .upd_d)
 ·have np:0 < n:=by have:=D.n0;omega
  refine bF (fun z=>c (by have z:=ba z;injection z)) ?_;refine ⟨_,rfl,p,_,_,.int n,rfl,rfl,bM.of D.pc,rfl,_,_,rfl,rfl,_,rfl,bV (ap np) ?_⟩;refine ⟨_,rfl,p,_,_,.int n,rfl,rfl,bM.of D.pc,rfl,_,rfl,_,_,rfl,rfl,m0,?_⟩;refine ⟨_,rfl,p,_,_,.int n,rfl,rfl,bM.of D.pc,rfl,_,rfl,_,_,rfl,rfl,⟨m0,64,cK.of (by omega) m1,by decide⟩,_,rfl,p,_,1,1,rfl,rfl,D.pc,rfl,?_⟩;exact ⟨_,rfl,k _ _ (ia _ (by omega)) (gr _ m0) ⟨_,_,_,D.number (Int.ediv_nonneg D.n0 (by omega))⟩ (o.trans .upd_d)⟩
theorem cC9 (C_Draw:Cl P w K mg base 1 spDrawP "_law_draw") (m_tuple:mg "tuple"=none) (m_range:mg "range"=none):fC P w K mg base "_law_sum" "_law_sum" cI3 2 ["_law_pot_here","_law_many"] spSumP:=by
 refine fV ["_law_pot_here","_law_many"] fun H Q nd hr h=>?_
 obtain ⟨p,l,n,rfl,D,n0,n1,k⟩:=h;refine ⟨_,(aE (aL (pct bR m_tuple eg (aP (eV ["_law_k","_law_pot_here"] [none,some 0] (dL (by rfl) m_range (aP (pv 1))) (fun _ _ _ _=>(iF 0)) (fun _ _ _ _=>fM) (fun _ _ _ _=>(bQ C_Draw hr (aA (pv 1) (aP (bX (cQ4 K) (cS (aA aB (aA aB (aP aB)))) (bQ C_Draw hr (aA (pv 1) (aP aB))))))))))))),?_⟩;refine ⟨_,rfl,n,rfl,by omega,by omega,fL (fun i ys σ H2=>iM H2 p l/\Out p l H H2/\(∃ v,σ=[v,some (.ref p)])/\∃ ws:List Int,ys=ws.map V.int/\ws.length=i/\∀ x∈ws,0<=x/\x<=3) (aK (by omega)) ⟨D,Out.refl H,⟨_,rfl⟩,[],rfl,rfl,fun _ z=>nomatch z⟩
  (by rintro i ys σ H2 ⟨_,_,_,zs,e,e2,_⟩;rw [e,ac];omega) ?_ ?_⟩
 ·rintro i ys σ H2 hi ⟨D2,o2,⟨v,rfl⟩,ws,rfl,hl,h1⟩;refine ⟨_,rfl,by show 3<=sizeLine;decide,fun ll hll=>?_⟩;have n2:=eM D2 hll;have s3:=aC hll (.lst [.int 2,.int 2,.int 4]);have g3:aM H2 ll (.lst [.int 2,.int 2,.int 4]) ll=_:=aD;have D3:=D2.same s3;generalize aM H2 ll (.lst [.int 2,.int 2,.int 4])=H3 at s3 g3 D3 ⊢;refine ⟨_,rfl,p,l,3,rfl,D3,by decide,by decide,fun r H4 r0 r1 D4 o4=>?_⟩;obtain ⟨v4,hv,v2,v3⟩:=cI4 r0 r1;refine ⟨ll,_,r,.int v4,rfl,rfl,bM.of (o4 _ _ g3 n2.1 n2.2),hv,p,l,v4,rfl,D4,by omega,by omega,fun x H5 x0 x1 D5 o5=>?_⟩;refine ⟨D5,o2.trans ((Out.of s3).trans (o4.trans o5)),⟨_,rfl⟩,ws++[x],by rw [aq];rfl,by rw [be,hl];rfl,fun z hz=>?_⟩;rcases bf.mp hz with q | q
  ·exact h1 z q
  ·rw [au.mp q];omega
 ·rintro ys σ H2 ⟨D2,o2,_,ws,rfl,hl,h1⟩ q hq;exact ⟨q,_,rfl,.inl ⟨bM.of aD,fun u hu'=>k u ws _ aD hl h1 (D2.same ((aC hq _).trans (aC hu' _))) (o2.trans (Out.of ((aC hq _).trans (aC hu' _))))⟩⟩
theorem bZ3 (m_range:mg "range"=none):fC P w K mg base "_law_again" "_law_again" cG3 1 ["_law_number","_law_many"] spAgain:=by
 refine fV ["_law_number","_law_many","_law_found","_law_k"] fun H Q nd hr h=>?_
 obtain ⟨a,n,rfl,ha,hn,k⟩:=h;refine ⟨_,(dB 2 nd aB
  (aF (xP (dL (by rfl) m_range (aP (pv 1))) (iF 3 nd)
  (aE (zO 2 nd (aI fP (pv 2) (pv 0)))))
  (aE (aL (pv 2))))),?_⟩
 refine ⟨_,rfl,n,rfl,by omega,by omega,gW (n:=n) (fun i σ G=>G=H/\i<=n/\∃ v3,σ=[some (.int a),some (.int n),some (.int ((a ^ i:Nat):Int)),v3]) ⟨rfl,bj _,_,rfl⟩ ?_ ?_⟩
 ·rintro D' i σ G hi ⟨rfl,_,v3,rfl⟩;have b1:cK 400 ((a ^ i:Nat):Int):=by
   unfold cK;rw [Int.natAbs_natCast];exact cg (yt ha i) (cg (ip (by decide) (show i<=40 by omega)) (by decide +kernel))
  refine ⟨_,rfl,_,rfl,_,_,rfl,rfl,⟨400,400,b1,cK.of (sw _) (by have:(64:Int) < 2 ^ 400:=(by decide +kernel);generalize (2:Int) ^ 400=x at *;omega),by decide,by decide⟩,rfl,hi,some (.int (0+i)),?_⟩;rw [ni,ko];rfl
 ·rintro σ G ⟨rfl,_,v3,rfl⟩;exact ⟨_,rfl,k _ (.refl _)⟩
theorem cD4 (C_Draw:Cl P w K mg base 1 spDrawP "_law_draw") (m_range:mg "range"=none) (m_max:mg "max"=none):fC P w K mg base "_law_steep" "_law_steep" cM0 2 ["_law_pot_here","_law_least"] spSteepP:=by
 refine fV ["_law_pot_here","_law_least","_law_q","_law_p","_law_by"] fun H Q nd hr h=>?_
 obtain ⟨p,l,t,rfl,D,k⟩:=h;refine ⟨_,(dB 2 nd (aI bE aB (bQ C_Draw hr (aA (pv 0) (aP aB))))
  (dB 3 nd (pX (gS (eL cY (pv 1) aB) (aI bE aB (bQ C_Draw hr (aA (pv 0) (aP (sY (uK rfl) m_max qc (aA aB (aP (aI gQ (pv 2) aB)))))))) (aI bE aB (bQ C_Draw hr (aA (pv 0) (aP (aI cQ (pv 2) aB)))))))
  (aF (xP (oR (by rfl) m_range (aA aB (aP aB))) (iF 4 nd)
  (aE (fY ib (PW.pt (iO (eL cY (aI fF (pv 3) (pv 4)) aB) (fO (eL cY (aI fF (pv 2) (pv 4)) aB))))
  (aE (bV2 (i:=3) (j:=2) rfl nd rfl rfl (by decide) rfl rfl (aA (aI gQ (pv 3) (pv 4)) (aP (aI gQ (pv 2) (pv 4)))) rfl)))))
  (aE (aL (aS (aA (pv 3) (aP (pv 2))))))))),?_⟩
 refine ⟨_,rfl,p,l,8,rfl,D,by decide,by decide,fun r H1 r0 r1 D1 o1=>⟨_,_,rfl,rfl,?_⟩⟩;refine ⟨fun v G=>∃ x:Int,v= .int x/\1<=x/\x < 2+r/\(t=2->2 * x<=2+r)/\iM G p l/\Out p l H G,?_,?_⟩
 ·refine ⟨_,rfl,rfl,_,rfl,?_⟩
  by_cases c:t=2
  ·refine bV (by rw [c];exact ap rfl) ?_;refine ⟨_,rfl,_,rfl,_,_,rfl,rfl,⟨(show (0:Int) < 2 by decide),64,by unfold cK;decide,by decide⟩,1,_,rfl,p,l,_,rfl,D1,?_,?_,fun s H2 s0 s1 D2 o2=>⟨_,_,rfl,rfl,1+s,rfl,by omega,?_,fun _=>?_,D2,o1.trans o2⟩⟩
   all_goals
    have q1:1<=(2+r) / 2:=by omega
    have q2:(if (2+r) / 2 > 1 then (2+r) / 2 else 1)=(2+r) / 2:=by split <;> omega
   ·show 0 < (if (2+r) / 2 > 1 then (2+r) / 2 else 1);rw [q2];omega
   ·show (if (2+r) / 2 > 1 then (2+r) / 2 else 1) < _;rw [q2];omega
   ·have s1:s < (if (2+r) / 2 > 1 then (2+r) / 2 else 1):=s1;rw [q2] at s1;omega
   ·have s1:s < (if (2+r) / 2 > 1 then (2+r) / 2 else 1):=s1;rw [q2] at s1;omega
  ·refine bF (fun z=>c (by have z:=ba z;injection z)) ?_;refine ⟨_,rfl,_,rfl,_,_,rfl,rfl,p,l,_,rfl,D1,by show 0 < 2+r - 1;omega,by show 2+r - 1 < _;omega,fun s H2 s0 s1 D2 o2=>⟨_,_,rfl,rfl,1+s,rfl,by omega,?_,fun z=>absurd z c,D2,o1.trans o2⟩⟩;have s1:s < 2+r - 1:=s1;omega
 ·rintro v G ⟨x,rfl,x1,x2,x3,D2,o2⟩;refine ⟨2,9,rfl,⟨by decide,by decide,by decide,by decide⟩,gW (n:=7) (fun i σ G'=>∃ (a b:Int) (v4:Option V),σ=[some (.ref p),some (.int t),some (.int b),some (.int a),v4]/\G'=G/\bP a b/\(t=2->2 * a<=b)) ⟨x,2+r,_,rfl,rfl,⟨x1,x2,by omega⟩,x3⟩ ?_ ?_⟩
  ·rintro D' i σ G' hi ⟨a,b,v4,rfl,rfl,st,ha⟩;refine ⟨fun j σ G2=>∃ (a b:Int),σ=[some (.ref p),some (.int t),some (.int b),some (.int a),some (.int (2+i))]/\G2=G'/\bP a b/\(t=2->2 * a<=b)/\j=a.toNat,⟨_,a,b,rfl,rfl,st,ha,rfl⟩,?_⟩;rintro j σ G2 ⟨a,b,rfl,rfl,st,ha,rfl⟩;have kp:(0:Int) < 2+i:=by omega
   have kb:cK 64 (2+(i:Int)):=cK.of (by omega) (by omega);refine ⟨_,rfl,_,rfl,_,_,rfl,rfl,kp,rfl,_,rfl,?_⟩
   by_cases c1:a % (2+i)=0
   ·refine bV (ap (gv V.int c1)) ?_;refine ⟨_,rfl,_,rfl,_,_,rfl,rfl,kp,rfl,_,rfl,?_⟩
    by_cases c2:b % (2+i)=0
    ·refine bV (ap (gv V.int c2)) ?_;obtain ⟨d1,d2,d3⟩:=aR5 (by omega) c1 c2 st;have p1:=st.p1;refine ⟨fun σ' G3=>∃ (a' b':Int),σ'=[some (.ref p),some (.int t),some (.int b'),some (.int a'),some (.int (2+i))]/\G3=G2/\bP a' b'/\(t=2->2 * a'<=b')/\a'.toNat < a.toNat,(by rintro σ' G3 ⟨a',b',e1,e2,e3,e4,e5⟩;exact ⟨_,e5,a',b',e1,e2,e3,e4,rfl⟩),?_⟩;have p2:=d1.p1;refine ⟨_,rfl,_,rfl,_,_,rfl,rfl,⟨kp,64,kb,by decide⟩,_,rfl,_,rfl,_,_,rfl,rfl,⟨kp,64,kb,by decide⟩,?_⟩;exact ⟨_,_,rfl,a / (2+i),b / (2+i),rfl,rfl,d1,fun z=>d3 (ha z),by omega⟩
    ·refine bF (fun z=>c2 (by have z:=ba z;injection z)) ?_;exact ⟨a,b,_,rfl,rfl,st,ha⟩
   ·refine bF (fun z=>c1 (by have z:=ba z;injection z)) ?_;exact ⟨a,b,_,rfl,rfl,st,ha⟩
  ·rintro σ G' ⟨a,b,v4,rfl,rfl,st,ha⟩;exact ⟨_,rfl,_,rfl,dH,fun u hu'=>k u a b _ aD st ha (D2.same (aC hu' _)) (o2.trans (.of (aC hu' _)))⟩
theorem bS9 (C_Agn:Cl P w K mg base 1 spAgain "_law_again"):fC P w K mg base "_law_few" "_law_few" cL6 2 ["_law_scene"] spFew:=by
 refine fV ["_law_scene","_law_many"] fun H Q nd hr h=>?_
 obtain ⟨sc,nl,kn,rw,rn,hg,n,rfl,hs,n27,r1,r30,k⟩:=h;have hu:=jE hr;refine ⟨_,(dB 1 nd aB
  (aF (fY ib (PW.pt (iO (eL nL (pv 1) aB) (fO (eL aV8 (bQ C_Agn hr (aA (aI bE (pv 1) aB) (aP (sZ hu (pv 0) aH)))) (sZ hu (pv 0) aH)))))
  (aE (zO 1 nd (aI bE (pv 1) aB))))
  (aE (aL (pv 1))))),?_⟩
 refine ⟨fun j σ G=>∃ m:Nat,σ=[some (.ref sc),some (.int m)]/\aU H G/\1<=m/\m<=6/\((m ^ n:Nat):Int)<=rn/\j=6 - m,⟨_,1,rfl,.refl _,ai _,by decide,by rw [Nat.one_pow];exact r1,rfl⟩,?_⟩;rintro j σ G ⟨m,rfl,s,m1,m6,hm,rfl⟩;refine ⟨_,rfl,_,_,rfl,rfl,_,rfl,?_⟩
 by_cases c:(m:Int) < 6
 ·refine bV (ap c) ?_;have gA:fD G sc (.str "again") (some (.int n)):=by rw [<- rR (kn:=kn) (rw:=rw) (ag:=n) (rn:=rn) (hg:=hg) (nl:=nl)];exact fD.k (k:=Sum.inr "again") (s _ _ hs)
  refine ⟨_,rfl,_,_,rfl,rfl,_,rfl,sc,_,rfl,gA,m+1,n,by rw [pf];rfl,by omega,by omega,fun G1 s1=>?_⟩;have gR:fD G1 sc (.str "runs") (some (.int rn)):=by rw [<- wA (kn:=kn) (rw:=rw) (ag:=n) (rn:=rn) (hg:=hg) (nl:=nl)];exact fD.k (k:=Sum.inr "runs") (s1 _ _ (s _ _ hs))
  refine ⟨_,rfl,sc,_,rfl,gR,_,_,rfl,rfl,_,rfl,?_⟩
  by_cases c2:(((m+1) ^ n:Nat):Int)<=rn
  ·refine bV (ap c2) ?_;refine ⟨fun σ' G'=>∃ m':Nat,σ'=[some (.ref sc),some (.int m')]/\aU H G'/\1<=m'/\m'<=6/\((m' ^ n:Nat):Int)<=rn/\6 - m' < 6 - m,(by rintro σ' G' ⟨m',e1,e2,e3,e4,e5,e6⟩;exact ⟨_,e6,m',e1,e2,e3,e4,e5,rfl⟩),?_⟩;exact ⟨_,rfl,_,_,rfl,rfl,m+1,by rw [pf];rfl,s.trans s1,by omega,by omega,c2,by omega⟩
  ·refine bF (by simpa using c2) ?_;exact ⟨_,rfl,k m _ (s.trans s1) m1 m6 hm⟩
 ·refine bF (by simpa using c) ?_;exact ⟨_,rfl,k m _ s m1 m6 hm⟩
theorem bW7 (C_Draw:Cl P w K mg base 1 spDrawP "_law_draw") (m_min:mg "min"=none):fC P w K mg base "_law_bounds" "_law_bounds" cG0 2 ["_law_pot_here","_law_scene","_law_many"] spBnd:=by
 refine fV ["_law_pot_here","_law_scene","_law_many","_law_low"] fun H Q nd hr h=>?_
 obtain ⟨p,l,sc,nl,kn,rw,ag,rn,m,rfl,D,hs,m1,m2,k⟩:=h;have hu:=jE hr;refine ⟨_,(dB 2 nd (sY (jF rfl) m_min jm (aA (pv 2) (aP (aI bE (sZ hu (pv 1) aH) aB))))
  (dB 3 nd (bQ C_Draw hr (aA (pv 0) (aP (aI cQ (aI bE (sZ hu (pv 1) aH) aB) (pv 2)))))
  (aE (aL (aS (aA (pv 3) (aP (aI cQ (aI bE (pv 3) (pv 2)) aB)))))))),?_⟩
 have gH:fD H sc (.str "high") (some (.int 9)):=by rw [<- aM4 (kn:=kn) (rw:=rw) (ag:=ag) (rn:=rn) (hg:=9) (nl:=nl)];exact fD.k (k:=Sum.inr "high") hs
 refine ⟨_,rfl,_,rfl,sc,_,rfl,gH,_,_,rfl,rfl,m,10,rfl,?_⟩;have u1:1<=(if (10:Int) < m then (10:Int) else m):=by split <;> omega
 have u2:(if (10:Int) < m then (10:Int) else m)<=10:=by split <;> omega
 refine ⟨_,rfl,_,rfl,sc,_,rfl,gH,_,_,rfl,rfl,_,rfl,_,_,rfl,rfl,p,l,_,rfl,D,?_,?_,fun x H1 x0 x1 D1 o1=>?_⟩
 ·show 0 < 9+2 - (if (10:Int) < m then (10:Int) else m);omega
 ·show 9+2 - (if (10:Int) < m then (10:Int) else m) < _;omega
 have x1:x < 9+2 - (if (10:Int) < m then (10:Int) else m):=x1;refine ⟨_,rfl,_,rfl,_,rfl,_,_,rfl,rfl,_,_,rfl,rfl,dH,fun r hr'=>?_⟩;exact k r x (x+(if (10:Int) < m then (10:Int) else m) - 1) _ aD x0 (by omega) rfl (D1.same (aC hr' _)) (o1.trans (.of (aC hr' _)))
theorem cA9 (C_Draw:Cl P w K mg base 1 spDrawP "_law_draw") (m_range:mg "range"=none) (m_tuple:mg "tuple"=none):fC P w K mg base "_law_crowd" "_law_crowd" cM8 2 ["_law_pot_here","_law_many"] spCrowdP:=by
 refine fV ["_law_pot_here","_law_many","_law_found","_law_k"] fun H Q nd hr h=>?_
 obtain ⟨p,l,n,rfl,D,n0,n1,k⟩:=h;refine ⟨_,(dB 2 nd (cS eI)
  (aF (xP (dL (by rfl) m_range (aP (pv 1))) (iF 3 nd)
  (aE (cP (fB bg cp cq cE (pv 2) (aP (bQ C_Draw hr (aA (pv 0) (aP (bX cW (cS (aA aB (aA aB (aP aB)))) (bQ C_Draw hr (aA (pv 0) (aP aB))))))))))))
  (aE (aL (pct bR m_tuple eg (aP (pv 2))))))),?_⟩
 refine ⟨bj _,fun fl hfl=>?_⟩;have nf:=eM D hfl;have s1:=aC hfl (.lst []);have g1:aM H fl (.lst []) fl=some (.lst []):=aD;have D1:=D.same s1;generalize aM H fl (.lst [])=H1 at s1 g1 D1 ⊢;refine ⟨_,rfl,n,rfl,by omega,by omega,gW (n:=n.toNat) (fun i σ G=>∃ (cs:List Int) (v3:Option V),σ=[some (.ref p),some (.int n),some (.ref fl),v3]/\iM G p l/\Out p l H G/\G fl=some (.lst (cs.map V.int))/\cs.length=i/\∀ x∈cs,0<=x/\x<=1000000) ⟨[],_,rfl,D1,.of s1,g1,rfl,fun _ z=>nomatch z⟩ ?_ ?_⟩
 ·rintro D' i σ G hi ⟨cs,v3,rfl,D2,o2,g2,hl,h1⟩;refine ⟨_,rfl,.inl ⟨rfl,_,bM.of g2⟩,_,rfl,by show 3<=sizeLine;decide,fun ll hll=>?_⟩;have n2:=eM D2 hll;have s3:=aC hll (.lst [.int 3,.int 12,.int 1000001]);have g3:aM G ll (.lst [.int 3,.int 12,.int 1000001]) ll=_:=aD;have D3:=D2.same s3;generalize aM G ll (.lst [.int 3,.int 12,.int 1000001])=H3 at s3 g3 D3 ⊢;refine ⟨_,rfl,p,l,3,rfl,D3,by decide,by decide,fun r H4 r0 r1 D4 o4=>?_⟩;obtain ⟨v4,hv,v2,v5⟩:=cP4 r0 r1;refine ⟨ll,_,r,.int v4,rfl,rfl,bM.of (o4 _ _ g3 n2.1 n2.2),hv,p,l,v4,rfl,D4,by omega,by omega,fun x H5 x0 x1 D5 o5=>?_⟩;have g5:=o5 _ _ (o4 _ _ (s3 _ _ g2) nf.1 nf.2) nf.1 nf.2;refine ⟨fl,_,_,rfl,rfl,g5,by rw [ac];exact aK (by omega),?_⟩;refine ⟨cs++[x],_,rfl,pQ D5 nf.1 nf.2,Mine.Out.new (o2.trans ((Out.of s3).trans (o4.trans o5))) hfl,by rw [aD,aq];rfl,by rw [be,hl];rfl,fun z hz=>?_⟩;rcases bf.mp hz with q | q
  ·exact h1 z q
  ·rw [au.mp q];omega
 ·rintro σ G ⟨cs,v3,rfl,D2,o2,g2,hl,h1⟩;exact ⟨_,rfl,fl,_,rfl,.inl ⟨bM.of g2,fun u hu'=>k u cs _ aD hl h1 (D2.same (aC hu' _)) (o2.trans (.of (aC hu' _)))⟩⟩
theorem bX0 (n:Nat) (C_Draw:Cl P w K mg base 1 spDrawP "_law_draw") (C_Trm:Cl P w K mg base (n+1) (aY9 n) "_law_term") (m_len:mg "len"=none):fC P w K mg base "_law_term" "_law_term" cD8 (n+1+1) ["_law_pot_here","_law_names_here","_law_room"] (aY9 (n+1)):=by
 refine fV ["_law_pot_here","_law_names_here","_law_room","_law_form","_law_wide","_law_one"] fun H Q nd hr h=>?_
 obtain ⟨p,l,nh,ns,room,rfl,D,hk,n1,n2,l3,r1,r2,r12,k⟩:=h;refine ⟨_,(dB 3 nd (bQ C_Draw hr (aA (pv 0) (aP aB)))
  (aF (bK (jU (PW.pt (zJ (eL nL (pv 2) aB) (rB (eL nL (pv 3) aB))))) (aF (bK (jU (PW.pt (iO (eL iH (sY bW m_len gm (aP (pv 1))) aB) (fO (eL iH (bQ C_Draw hr (aA (pv 0) (aP aB))) aB))))) (aE (aL (aS (aA aH (aP (bX cW (pv 1) (bQ C_Draw hr (aA (pv 0) (aP (sY bW m_len gm (aP (pv 1)))))))))))) aV)
  (aE (aL (aS (aA aH (aP (bQ C_Draw hr (aA (pv 0) (aP (bX cW (cS (aA aB (aA aB (aP aB)))) (bQ C_Draw hr (aA (pv 0) (aP aB))))))))))))) aV)
  (dB 4 nd (aI bE aB (bQ C_Draw hr (aA (pv 0) (aP (aI cQ (pv 2) aB)))))
  (dB 5 nd (bQ C_Trm hr (aA (pv 0) (aA (pv 1) (aP (pv 4)))))
  (aE (aL (aS (aA aH (aA (bX aD3 aH (bQ C_Draw hr (aA (pv 0) (aP aB)))) (aA (pv 5) (aP (bQ C_Trm hr (aA (pv 0) (aA (pv 1) (aP (aI cQ (aI cQ (pv 2) aB) (pv 4))))))))))))))))),?_⟩
 refine ⟨_,rfl,p,l,4,rfl,D,by decide,by decide,fun fo H1 f0 f1 D1 o1=>?_⟩;have hk1:=dR hk n1 n2 o1;refine ⟨fun b G=>G=H1/\(b=false->3<=room),?_,?_⟩
 ·refine ⟨_,rfl,_,_,rfl,rfl,_,rfl,?_⟩
  by_cases c1:room < 3
  ·exact bV (ap c1) ⟨rfl,(fun z=>nomatch z)⟩
  ·exact bF (by simpa using c1) ⟨_,rfl,_,_,rfl,rfl,_,rfl,rfl,fun _=>by omega⟩
 rintro b G ⟨rfl,hb⟩
 cases b with
 |false =>
  refine bF (by simp) ?_;have c1:=hb rfl
  cases n with
  |zero=>exact absurd c1 (by omega)
  |succ n =>
  refine ⟨_,rfl,_,rfl,_,_,rfl,rfl,p,l,room - 2,rfl,D1,by omega,by omega,fun x H2 x0 x1 D2 o2=>⟨_,_,rfl,rfl,?_⟩⟩;have hk2:=dR hk1 n1 n2 o2;refine ⟨_,rfl,_,rfl,_,rfl,p,l,nh,ns,1+x,rfl,D2,hk2,n1,n2,l3,by omega,by omega,by omega,fun t1 H3 D3 o3 h3 nm3 sz3 ok3=>?_⟩;have hk3:=dR hk2 n1 n2 o3;refine ⟨_,rfl,p,l,5,rfl,D3,by decide,by decide,fun y H4 y0 y1 D4 o4=>?_⟩;obtain ⟨c,hc,hs⟩:=bZ2 y0 y1;have hk4:=dR hk3 n1 n2 o4;refine ⟨_,y,c,rfl,rfl,by decide,hc,_,rfl,_,rfl,_,rfl,_,rfl,_,_,rfl,rfl,_,rfl,_,_,rfl,rfl,p,l,nh,ns,room - 1 - (1+x),rfl,D4,hk4,n1,n2,l3,by omega,by omega,by omega,fun t2 H5 D5 o5 h5 nm5 sz5 ok5=>⟨by show 4<=sizeLine;decide,fun q hq=>?_⟩⟩;have s6:=aC hq (.tup [.str "op",.str ⟨#[c]⟩,.ref t1.p,.ref t2.p]);have t15:=(D3.ts o4).trans ((D4.ts o5).trans (.of s6));refine k (.op q ⟨#[c]⟩ t1 t2) _ (D5.same s6) (o1.trans (o2.trans (o3.trans (o4.trans (o5.trans (.of s6)))))) ⟨aD,h3.ts t15,h5.ts (.of s6)⟩ (fun z hz=>?_) ?_ ⟨hs,ok3,ok5⟩
  ·rcases bf.mp hz with q | q
   ·exact nm3 z q
   ·exact nm5 z q
  ·simp only [Tm.size];omega
 |true =>
  refine bV rfl ?_;refine ⟨fun b G'=>iM G' p l/\Out p l H G'/\(b=true->0 < ns.length),?_,?_⟩
  ·refine ⟨_,rfl,nh,_,rfl,.inl (bM.of hk1),_,_,rfl,rfl,_,rfl,?_⟩
   by_cases c:(0:Int) < ((ns.map V.str).length:Int)
   ·refine bV (ap c) ⟨_,rfl,p,l,4,rfl,D1,by decide,by decide,fun x H2 x0 x1 D2 o2=>⟨_,_,rfl,rfl,_,rfl,D2,o1.trans o2,fun _=>by rw [ac] at c;omega⟩⟩
   ·exact bF (by simpa using c) ⟨D1,o1,(fun z=>nomatch z)⟩
  rintro b G2 ⟨D2,o2,hb2⟩;have hk2:=dR hk n1 n2 o2
  cases b with
  |true =>
   have kp:=hb2 rfl;refine bV rfl ?_;refine ⟨_,rfl,_,rfl,_,rfl,nh,_,rfl,.inl (bM.of hk2),p,l,_,rfl,D2,by rw [ac];omega,by rw [ac];omega,fun x H3 x0 x1 D3 o3=>?_⟩;obtain ⟨v,hv,ha⟩:=aI6 x0 x1;obtain ⟨y,rfl,hy⟩:=qB hv;refine ⟨nh,_,_,.str y,rfl,rfl,bM.of (dR hk2 n1 n2 o3),ha,dH,fun q hq=>?_⟩;have s4:=aC hq (.tup [.str "name",.str y]);refine k (.nam q y) _ (D3.same s4) (o2.trans (o3.trans (.of s4))) aD (fun z hz=>?_) (by simp only [Tm.size];omega) trivial;rw [au.mp hz];exact br hy
  |false =>
   refine bF (by simp) ?_;refine ⟨_,rfl,by show 3<=sizeLine;decide,fun l0 hl0=>?_⟩;obtain ⟨m1,m2⟩:=eM D2 hl0;obtain ⟨H3,e0,s3,h3⟩:=lay hl0 (.lst [.int 2,.int 4,.int 1000]);rw [e0];clear e0;refine ⟨_,rfl,p,l,3,rfl,D2.same s3,by decide,by decide,fun x H4 x0 x1 D4 o4=>?_⟩;obtain ⟨w,hw,hc⟩:=oS (x:=2) (y:=4) (z:=1000) x0 x1;refine ⟨l0,_,_,.int w,rfl,rfl,bM.of (dR h3 m1 m2 o4),hw,p,l,w,rfl,D4,by omega,by omega,fun y H5 y0 y1 D5 o5=>⟨dH,fun q hq=>?_⟩⟩;have s6:=aC hq (.tup [.str "num",.int y]);exact k (.num q y) _ (D5.same s6) (o2.trans ((Out.of s3).trans (o4.trans (o5.trans (.of s6))))) aD (fun z hz=>absurd hz cz) (by simp only [Tm.size];omega) ⟨y0,by omega⟩
theorem bY5  : fC P w K mg base "_law_pot" "_law_pot" cF4 1 ["_law_script","_law_base"] (bA3 K):=by
 refine fV ["_law_script","_law_base","_law_seed","_law_left","_law_cell"] fun H Q nd hr h=>?_
 obtain ⟨a,ns,rfl,hS,hl,k⟩:=h;refine ⟨_,(dB 2 nd (aI bE (aI mB aB (pv 1)) aB)
  (dB 3 nd (cS eI)
  (aF (xP (lA (nQ aL1 (pv 0) (nF (pv 1)) (nF aB))) (iF 4 nd)
  (dB 2 nd (aI fF (aI bE (aI bE (aI mB (pv 2) aB) (aI fF (pv 4) aB)) aB) aB)
  (aE (bK (eL bR3 (pv 4) (aI cD2 aB aB)) (aE (cP (fB bg cp cq cE (pv 3) (aP (pv 4))))) aV))))
  (aE (aL (cS (aA (pv 2) (aA aB (aP (pv 3)))))))))),?_⟩
 refine ⟨_,rfl,_,_,rfl,rfl,.inl ⟨by decide,by decide⟩,_,_,rfl,rfl,?_⟩;refine ⟨bj _,fun fl hfl=>?_⟩;obtain ⟨H1,e0,s1,g1⟩:=lay hfl (.lst []);rw [e0];clear e0;obtain ⟨ms,em,hms⟩:=aU5 ns (some 0) (some 63);refine ⟨_,rfl,_,rfl,_,rfl,_,rfl,a,_,rfl,s1.seq hS,fun p1 np1=>?_⟩;have n1:p1≠fl:=(aN g1 np1).symm;have s2:=aC np1 (.lst (iT (ns.map V.int) (some 0) (some 63)));have hp1:aM H1 p1 (.lst (iT (ns.map V.int) (some 0) (some 63))) p1=some (.lst (ms.map V.int)):=by rw [em];exact aD
 generalize aM H1 p1 (.lst (iT (ns.map V.int) (some 0) (some 63)))=H2 at s2 hp1 ⊢;refine ⟨p1,rfl,⟨_,bM.of hp1⟩,vM (K:=K) (a:=p1) (xs:=ms.map V.int) (fun i σ G=>∃ (x:Int) (ls:List Int) (v:Option V),σ=[some (.ref a),some (.int 0),some (.int x),some (.ref fl),v]/\0<=x/\x < 2147483647/\G p1=some (.lst (ms.map V.int))/\G fl=some (.lst (ls.map V.int))/\ls.length<=i/\(∀ x∈ls,0<=x)/\aU H G)
  ⟨_,[],none,rfl,by decide,by decide,hp1,s2 _ _ g1,ai _,(fun _ z=>nomatch z),s1.trans s2⟩ (by rintro i σ G _ ⟨_,_,_,_,_,_,g,_⟩;exact bM.of g) ?_ ?_⟩
 ·rintro D' N i hN y σ G hi ⟨x,ls,v,rfl,x0,x1,g2,g3,hls,l0,sG⟩;obtain ⟨z,rfl,hz⟩:=kY hi;have i63:i < 63:=by have:=(bu.mp hz).1;omega
  have q1:(0:Int) < 2147483629:=by decide
  have q2:(0:Int) < 2147483647:=by decide
  have e1:=ia (x * 48271+z % 2147483629+1) (show (2147483647:Int)≠0 by decide);have e2:=gr (x * 48271+z % 2147483629+1) q2;refine ⟨_,rfl,_,_,rfl,rfl,.inr ⟨by decide,by decide⟩,_,rfl,_,_,rfl,rfl,q1,_,_,rfl,rfl,_,_,rfl,rfl,_,_,rfl,rfl,q2,?_⟩;refine ⟨_,rfl,_,_,rfl,rfl,⟨by decide,by decide,by decide⟩,_,_,rfl,rfl,_,rfl,?_⟩
  by_cases c:((10:Int) ^ (18:Int).toNat)<=z
  ·refine bV (ap c) ?_;refine ⟨_,rfl,.inl ⟨rfl,_,bM.of g3⟩,_,rfl,fl,_,_,rfl,rfl,g3,by rw [ac];exact aK (by omega),?_⟩;have z0:0<=z:=bn (by decide) c;refine hN _ _ ⟨_,ls++[z],_,rfl,e1,e2,(aG n1).trans g2,by rw [aD,aq];rfl,by rw [be];show ls.length+1<=_;omega,fun w hw=>?_,fun b o hb=>?_⟩
   ·rcases bf.mp hw with q | q
    ·exact l0 w q
    ·rw [au.mp q];exact z0
   ·rw [aG (aN hb hfl)];exact sG b o hb
  ·refine bF (by simpa using c) ?_;exact hN _ _ ⟨_,ls,_,rfl,e1,e2,g2,g3,by omega,l0,sG⟩
 ·rintro σ G ⟨x,ls,v,rfl,x0,x1,g2,g3,hls,l0,sG⟩;refine ⟨_,rfl,_,rfl,by show 3<=sizeLine;decide,fun r hr'=>?_⟩;have s3:=aC hr' (.lst [.int x,.int 0,.ref fl]);exact k r fl _ ⟨x,0,ls,aD,s3 _ _ g3,(aN g3 hr').symm,x0,x1,cu _,l0⟩ (sG.trans s3)
theorem bW5 (C_Draw:Cl P w K mg base 1 spDrawP "_law_draw") (m_range:mg "range"=none):fC P w K mg base "_law_name" "_law_name" cD9 2 ["_law_pot_here"] spNameP:=by
 refine fV ["_law_pot_here","_law_letters","_law_name_here","_law_near"] fun H Q nd hr h=>?_
 obtain ⟨p,l,rfl,D,k⟩:=h;refine ⟨_,(@aF _ _ _ _ _ (zO 1 nd aH)
  (@aF _ _ _ _ _ (zO 2 nd (fB PySem.F.plainAttrs_str PySem.F.slot_str_join PySem.F.type_str_join bH9 aH (aP (eV ["_law_k","_law_letters","_law_pot_here"] [none,some 1,some 0] (dL (by rfl) m_range (aP (aI bE aB (bQ C_Draw hr (aA (pv 0) (aP aB)))))) (fun _ _ _ _=>(iF 0)) (fun _ _ _ _=>fM) (fun _ _ _ _=>(bX aD3 (pv 1) (bQ C_Draw hr (aA (pv 2) (aP aB)))))))))
  (@aF _ _ _ _ _ (kQ (bK (eL cY (bQ C_Draw hr (aA (pv 0) (aP aB))) aB) (@aF _ _ _ _ _ (@aB9 _ _ 3 _ _ _ _ nd rfl (mz rfl) (@cS _ _ _ _ (@aA _ _ _ _ _ aH (@aA _ _ _ _ _ aH (@aA _ _ _ _ _ aH (@aA _ _ _ _ _ aH (@aA _ _ _ _ _ aH (@aA _ _ _ _ _ aH (@aA _ _ _ _ _ aH (@aA _ _ _ _ _ aH (@aA _ _ _ _ _ aH (@aA _ _ _ _ _ aH (@aA _ _ _ _ _ aH (@aA _ _ _ _ _ aH eI rfl) rfl) rfl) rfl) rfl) rfl) rfl) rfl) rfl) rfl) rfl) rfl)) rfl (mz rfl))
  (@aE _ _ _ (zO 2 nd (bX cW (pv 3) (bQ C_Draw hr (aA (pv 0) (aP aB))))))) aV))
  (@aF _ _ _ _ _ (kQ (bK (eL fN (pv 2) (@aS _ _ _ _ _ (@aA _ _ _ _ _ aH (@aA _ _ _ _ _ aH (@aA _ _ _ _ _ aH (@aA _ _ _ _ _ aH (@aA _ _ _ _ _ aH (@aA _ _ _ _ _ aH (@aA _ _ _ _ _ aH eI rfl) rfl) rfl) rfl) rfl) rfl) rfl))) (aE (zO 2 nd (aI rP (pv 2) aH))) aV))
  (@aF _ _ _ _ _ (kQ (bK (eL fN (pv 2) (@aS _ _ _ _ _ (@aA _ _ _ _ _ aH (@aA _ _ _ _ _ aH (@aA _ _ _ _ _ aH (@aA _ _ _ _ _ aH (@aA _ _ _ _ _ aH eI rfl) rfl) rfl) rfl) rfl))) (aE (zO 2 nd (aI rP (pv 2) aH))) aV))
  (@aE _ _ _ (aL (pv 2)))))))),?_⟩
 refine ⟨rfl,_,rfl,p,l,8,rfl,D,by decide,by decide,fun n0 H1 n1 n2 D1 o1=>⟨_,_,rfl,rfl,1+n0,rfl,by omega,by omega,?_⟩⟩;refine fL (n:=(1+n0).toNat) (fun i ys σ G=>iM G p l/\Out p l H G/\(∃ v,σ=[v,some (.str "abcdefghijklmnopqrstuvwxyz"),some (.ref p)])/\∃ zs:List Str,ys=zs.map V.str/\zs.length=i/\∀ z∈zs,z.length=1) (aK (by omega)) ⟨D1,o1,⟨_,rfl⟩,[],rfl,rfl,fun _ z=>nomatch z⟩
  (by rintro i ys σ G ⟨_,_,_,zs,e,e2,_⟩;rw [e,ac];omega) ?_ ?_
 ·rintro i ys σ G hi ⟨D2,o2,⟨v,rfl⟩,zs,rfl,hl,h1⟩;refine ⟨_,rfl,_,rfl,p,l,26,rfl,D2,by decide,by decide,fun r H3 r0 r1 D3 o3=>?_⟩;obtain ⟨c,hc⟩:=cC6 (z:="abcdefghijklmnopqrstuvwxyz") r0 r1;refine ⟨_,r,c,rfl,rfl,by decide,hc,D3,o2.trans o3,⟨_,rfl⟩,zs++[⟨#[c]⟩],by rw [aq];rfl,by rw [be,hl];rfl,fun z hz=>?_⟩;rcases bf.mp hz with q | q
  ·exact h1 z q
  ·have e:z=⟨#[c]⟩:=by simpa using q
   rw [e];rfl
 rintro ys σ H2 ⟨D2,o2,_,zs,rfl,hl,h1⟩ q hq;have hsm:=zW h1;refine ⟨_,q,zs,rfl,rfl,bM.of aD,by rw [hsm];show zs.length+zs.length * 0<=_;omega,?_⟩;have hj:=aS5 "" zs;rw [hsm] at hj;have e0:("": Str).length=0:=rfl;rw [e0] at hj;have D3:=D2.same (aC hq (.lst (zs.map V.str)));have o3:=o2.trans (Out.of (d:=p) (l:=l) (aC hq (.lst (zs.map V.str))));generalize aM H2 q (.lst (zs.map V.str))=H3 at D3 o3 ⊢;generalize Txt.join "" zs=cr at hj ⊢;have c8:cr.length<=8:=by omega
 refine ⟨fun σ G=>∃ (w:Str) (v3:Option V),σ=[some (.ref p),some (.str "abcdefghijklmnopqrstuvwxyz"),some (.str w),v3]/\w.length<=8/\iM G p l/\Out p l H G,?_,?_⟩
 ·refine ⟨_,rfl,p,l,6,rfl,D3,by decide,by decide,fun x H4 x0 x1 D4 o4=>⟨rfl,_,rfl,aF3 (fun _=>?_) (fun _=>⟨cr,_,rfl,c8,D4,o3.trans o4⟩)⟩⟩;refine ⟨by show 12<=sizeLine;decide,fun ll hll=>?_⟩;obtain ⟨m1,m2⟩:=eM D4 hll;have s5:=aC hll (.lst (vJ.map V.str));have h5:aM H4 ll (.lst (vJ.map V.str)) ll=some (.lst (vJ.map V.str)):=aD;have D5:=D4.same s5;refine ⟨_,rfl,_,rfl,p,l,12,rfl,D5,by decide,by decide,fun y H6 y0 y1 D6 o6=>?_⟩;obtain ⟨w,hw,hw8⟩:=bH6 y0 y1;exact ⟨ll,_,_,.str w,rfl,rfl,bM.of (dR h5 m1 m2 o6),hw,w,_,rfl,hw8,D6,o3.trans (o4.trans ((Out.of s5).trans o6))⟩
 rintro σ G ⟨w,v3,rfl,w8,D4,o4⟩;refine ⟨fun σ G=>∃ (w:Str) (v3:Option V),σ=[some (.ref p),some (.str "abcdefghijklmnopqrstuvwxyz"),some (.str w),v3]/\w.length<=9/\iM G p l/\Out p l H G,?_,?_⟩
 ·refine ⟨_,rfl,by show 7<=sizeLine;decide,fun t ht=>⟨t,_,rfl,.inr (aT.of aD),rfl,rfl,_,rfl,aF3 (fun _=>⟨_,rfl,_,_,rfl,rfl,?_,_,_,rfl,?_,D4.same (aC ht _),o4.trans (.of (aC ht _))⟩) (fun _=>⟨w,_,rfl,by omega,D4.same (aC ht _),o4.trans (.of (aC ht _))⟩)⟩⟩
  ·exact fk (aK (by show w.length+1<=_;omega))
  ·rw [pC];show w.length+1<=9;omega
 rintro σ G ⟨w,v3,rfl,w8,D4,o4⟩;refine ⟨fun σ G=>∃ (w:Str) (v3:Option V),σ=[some (.ref p),some (.str "abcdefghijklmnopqrstuvwxyz"),some (.str w),v3]/\w.length<=10/\iM G p l/\Out p l H G,?_,?_⟩
 ·refine ⟨_,rfl,by show 5<=sizeLine;decide,fun t ht=>⟨t,_,rfl,.inr (aT.of aD),rfl,rfl,_,rfl,aF3 (fun _=>⟨_,rfl,_,_,rfl,rfl,?_,_,_,rfl,?_,D4.same (aC ht _),o4.trans (.of (aC ht _))⟩) (fun _=>⟨w,_,rfl,by omega,D4.same (aC ht _),o4.trans (.of (aC ht _))⟩)⟩⟩
  ·exact fk (aK (by show w.length+1<=_;omega))
  ·rw [pC];show w.length+1<=10;omega
 rintro σ G ⟨w,v3,rfl,w8,D4,o4⟩;exact ⟨_,rfl,k w _ (by omega) D4 o4⟩
theorem bV1 (C_LNm:Cl P w K mg base 2 spNameP "_law_name") (m_range:mg "range"=none):fC P w K mg base "_law_names" "_law_names" cG9 3 ["_law_pot_here","_law_many"] spNamesP:=by
 refine fV ["_law_pot_here","_law_many","_law_letters","_law_found","_law_k","_law_name_here","_law_spare"] fun H Q nd hr h=>?_
 obtain ⟨p,l,n,rfl,D,n1,n3,k⟩:=h;refine ⟨_,(dB 2 nd aH
  (dB 3 nd (cS eI)
  (aF (xP (dL (by rfl) m_range (aP (pv 1))) (iF 4 nd)
  (dB 5 nd (bQ C_LNm hr (aP (pv 0)))
  (dB 6 nd aB
  (aF (fY ib (eL fN (pv 5) (pv 3))
  (dB 5 nd (aI aG5 (bX aD3 (pv 2) (aI fF (pv 6) aB)) (aI bE aB (aI mP (pv 6) aB)))
  (aE (zO 6 nd (aI bE (pv 6) aB)))))
  (aE (cP (fB bg cp cq cE (pv 3) (aP (pv 5)))))))))
  (aE (aL (pv 3)))))),?_⟩
 refine ⟨bj _,fun fl hfl=>?_⟩;obtain ⟨nf1,nf2⟩:=eM D hfl;have s1:=aC hfl (.lst []);have g1:aM H fl (.lst []) fl=some (.lst (([]:List Str).map V.str)):=aD;have D1:=D.same s1;generalize aM H fl (.lst [])=H1 at s1 g1 D1 ⊢;refine ⟨_,rfl,n,rfl,by omega,by omega,lP (n:=n.toNat) (fun i σ G=>∃ (ws:List Str) (v4 v5 v6:Option V),σ=[some (.ref p),some (.int n),some (.str "zyxwvutsrqponmlkjihgfedcba"),some (.ref fl),v4,v5,v6]/\iM G p l/\Out p l H G/\G fl=some (.lst (ws.map V.str))/\ws.length=i)
  ⟨[],_,_,_,rfl,D1,.of s1,g1,rfl⟩ ?_ ?_⟩
 ·rintro D' N i hN σ G hi ⟨ws,v4,v5,v6,rfl,D2,o2,g2,hl⟩;refine ⟨_,rfl,p,l,rfl,D2,fun w H3 w20 D3 o3=>?_⟩;have g3:=dR g2 nf1 nf2 o3;refine ⟨fun j σ G=>∃ (w:Str) (s:Nat),σ=[some (.ref p),some (.int n),some (.str "zyxwvutsrqponmlkjihgfedcba"),some (.ref fl),some (.int (0+i)),some (.str w),some (.int s)]/\G=H3/\s<=3/\jZ (lzs.take (s - 1)) ws/\(0 < s->w=lzs.getD (s - 1) "")/\j=3 - s,⟨_,w,0,rfl,rfl,by decide,(fun _ z=>nomatch z),(fun z=>absurd z (by decide)),rfl⟩,?_⟩;rintro j σ G' ⟨w,s,rfl,rfl,s3,hs,hw,rfl⟩;refine ⟨_,rfl,_,rfl,fl,_,rfl,.inl (bM.of g3),rfl,dG _,_,rfl,?_⟩;have ei:inV (V.str w) (ws.map V.str)=decide (w∈ws):=mZ _ _
  by_cases c:w∈ws
  ·refine bV (ei.trans (ap c)) ?_;obtain ⟨s2,ht⟩:=bO3 s3 hs hw c (by omega);obtain ⟨ch,hc,ech⟩:=cJ6 s2;refine ⟨fun σ' G2=>∃ (w':Str) (s':Nat),σ'=[some (.ref p),some (.int n),some (.str "zyxwvutsrqponmlkjihgfedcba"),some (.ref fl),some (.int (0+i)),some (.str w'),some (.int s')]/\G2=G'/\s'<=3/\jZ (lzs.take (s' - 1)) ws/\(0 < s'->w'=lzs.getD (s' - 1) "")/\3 - s' < 3 - s,(by rintro σ' G2 ⟨w',s',e1,e2,e3,e4,e5,e6⟩;exact ⟨_,e6,w',s',e1,e2,e3,e4,e5,rfl⟩),?_⟩;refine ⟨_,rfl,_,rfl,_,_,rfl,rfl,(show (0:Int) < 26 by decide),_,_,ch,rfl,rfl,by decide,hc,_,rfl,_,_,rfl,rfl,⟨by decide,by decide +kernel⟩,_,_,rfl,rfl,_,_,rfl,rfl,rfl,.inr (by show 1+(s:Int) / 26=1;omega),?_⟩;refine ⟨_,rfl,_,_,rfl,rfl,_,s+1,by rw [pf];rfl,rfl,by omega,ht,fun _=>?_,by omega⟩;show (if 1+(s:Int) / 26=0 then Str.empty else (⟨#[ch]⟩:Str))=_;rw [aj (by omega),ech];rfl
  ·refine bF (fun z=>c (ba (ei.symm.trans z))) ?_;refine ⟨_,rfl,.inl ⟨rfl,_,bM.of g3⟩,_,rfl,fl,_,_,rfl,rfl,g3,by rw [ac];exact aK (by omega),?_⟩;exact hN _ _ ⟨ws++[w],_,_,_,rfl,pQ D3 nf1 nf2,Mine.Out.new (o2.trans o3) hfl,by rw [aD,aq];rfl,by rw [be,hl];rfl⟩
 ·rintro σ G ⟨ws,v4,v5,v6,rfl,D2,o2,g2,hl⟩;exact ⟨_,rfl,k fl ws _ hfl g2 hl D2 o2 nf1 nf2⟩
theorem bU8 (C_Few:Cl P w K mg base 2 spFew "_law_few") (C_Draw:Cl P w K mg base 1 spDrawP "_law_draw") (C_Bnd:Cl P w K mg base 2 spBnd "_law_bounds") (C_Agn:Cl P w K mg base 1 spAgain "_law_again") (C_Stp:Cl P w K mg base 2 spSteepP "_law_steep") (C_Sum:Cl P w K mg base 2 spSumP "_law_sum") (m_int:mg "int"=none) (m_tuple:mg "tuple"=none) (m_min:mg "min"=none) (m_range:mg "range"=none):fC P w K mg base "_law_throw" "_law_throw" cE8 3 ["_law_pot_here","_law_scene","_law_x"] spThrP:=by
 refine fV ["_law_pot_here","_law_scene","_law_x","_law_few_here","_law_kinds","_law_sort","_law_many","_law_low","_law_high","_law_asks","_law_sums_here","_law_mark"] fun H Q nd hr h=>?_
 obtain ⟨p,l,sc,nl,nh,kn,rw,ag,rn,xs,ns,x,rfl,S0,k⟩:=h;have hu:=jE hr;refine ⟨_,(dB 3 nd (bQ C_Few hr (aP (pv 1)))
  (dB 4 nd (sZ hu (pv 1) aH)
  (dB 5 nd (bQ C_Draw hr (aA (pv 0) (aP aB)))
  (dB 6 nd (aI bE aB (bQ C_Draw hr (aA (pv 0) (aP (pv 3)))))
  (aF (bK (eL nL (pv 5) aB) (aF (nR (bQ C_Bnd hr (aA (pv 0) (aA (pv 1) (aP (pv 6))))) (mG rfl (cO (iF 7 nd) (cO (iF 8 nd) iB))))
  (aF (pdp hu (pv 1) aH (aI mP (sZ hu (pv 1) aH) (bQ C_Agn hr (aA (aI bE (aI cQ (pv 8) (pv 7)) aB) (aP (sZ hu (pv 1) aH))))))
  (aF (bK (eL cY (pv 5) aB) (aE (aL (aS (aA aH (aA (pv 2) (aA (bQ C_Sum hr (aA (pv 0) (aP (pv 4)))) (aA (bQ C_Stp hr (aA (pv 0) (aP aB))) (aA (pv 7) (aP (pv 8)))))))))) aV)
  (aE (aL (aS (aA aH (aA (pv 2) (aA (bQ C_Sum hr (aA (pv 0) (aP (pv 4)))) (aA (bQ C_Draw hr (aA (pv 0) (aP aB))) (aA (pv 7) (aP (pv 8))))))))))))) aV)
  (dB 9 nd (pX (pct uJ m_int xa (aP (bT4 (pec cY (pv 5) aB) (bS6 (pec iH (pv 3) aB))))))
  (dB 6 nd (aI bE aB (bQ C_Draw hr (aA (pv 0) (aP (sY (jF rfl) m_min jm (aA (aI cQ aB (pv 9)) (aP (aI cQ (pv 3) (pv 9)))))))))
  (dB 10 nd (pct bR m_tuple eg (aP (eV ["_law_k","_law_pot_here","_law_kinds"] [none,some 0,some 4] (dL (by rfl) m_range (aP (pv 6))) (fun _ _ _ _=>(iF 0)) (fun _ _ _ _=>fM) (fun _ _ _ _=>(bQ C_Sum hr (aA (pv 1) (aP (pv 2))))))))
  (aF (pdp hu (pv 1) aH (aI mP (sZ hu (pv 1) aH) (bQ C_Agn hr (aA (aI bE (pv 6) (pv 9)) (aP (sZ hu (pv 1) aH))))))
  (aF (nR (bQ C_Bnd hr (aA (pv 0) (aA (pv 1) (aP (aI bE (aI bE aB (pv 9)) (bQ C_Draw hr (aA (pv 0) (aP (aI cQ (aI bE (sZ hu (pv 1) aH) aB) (pv 9)))))))))) (mG rfl (cO (iF 7 nd) (cO (iF 8 nd) iB))))
  (aF (bK (eL cY (pv 9) aB) (aE (aL (aS (aA aH (aA (pv 2) (aA (pv 10) (aA (bQ C_Stp hr (aA (pv 0) (aP aB))) (aA (pv 7) (aP (pv 8)))))))))) aV)
  (dB 11 nd (aI bE (pv 7) (bQ C_Draw hr (aA (pv 0) (aP (aI bE (aI cQ (pv 8) (pv 7)) aB)))))
  (aE (aL (aS (aA aH (aA (pv 2) (aA (pv 11) (aA (bQ C_Stp hr (aA (pv 0) (aP aB))) (aA (bQ C_Stp hr (aA (pv 0) (aP aB))) (aA (pv 10) (aA (pv 7) (aP (pv 8)))))))))))))))))))))))),?_⟩
 have r1:=S0.r1;have r2:=S0.r2;have a2:=S0.a2;have k1:=S0.k1;have k3:=S0.k3;refine ⟨_,rfl,sc,nl,kn,rw,rn,9,ag,rfl,S0.sc,a2,by omega,by omega,fun few H1 s1 f1 f6 hf=>?_⟩;have S1:=S0.same s1;refine ⟨_,rfl,sc,_,rfl,S1.g_kinds,?_⟩;refine ⟨_,rfl,p,l,4,rfl,S1.pot,by decide,by decide,fun so H2 so0 so1 D2 o2=>?_⟩;have S2:=S1.out D2 o2;refine ⟨_,rfl,_,rfl,p,l,few,rfl,D2,by omega,by omega,fun mm H3 mm0 mm1 D3 o3=>⟨_,_,rfl,rfl,?_⟩⟩;have S3:=S2.out D3 o3;have oA:cU [p,l,sc,nh] H H3:=(cU.of s1).trans ((cU.out o2).trans (cU.out o3));clear s1 o2 o3 D2 D3 S1 S2;refine ⟨_,rfl,_,_,rfl,rfl,_,rfl,?_⟩
 by_cases c:so < 2
 ·refine bV (ap c) ?_;refine ⟨_,rfl,_,rfl,_,rfl,p,l,sc,nl,kn,rw,ag,rn,1+mm,rfl,S3.pot,S3.sc,by omega,by omega,fun r lo hi H4 t4 lo0 hi9 ehi D4 o4=>?_⟩;rw [aj (by omega)] at ehi;have S4:=S3.out D4 o4;have oB:=oA.trans (cU.out (sc:=sc) (nh:=nh) o4);refine ⟨r,_,rfl,aT.of t4,rfl,_,_,rfl,_,_,rfl,rfl,?_⟩;obtain ⟨q1,q2,q3,q4,q5⟩:=bE7 (many:=(1+mm).toNat) hf (by omega) (by omega) r2;refine ⟨_,rfl,sc,_,rfl,S4.g_runs,_,rfl,_,rfl,_,_,rfl,rfl,_,_,rfl,rfl,_,rfl,sc,_,rfl,S4.g_again,(1+mm).toNat,ag,by show [V.int (hi - lo+1),V.int ag]=_;rw [show hi - lo+1=((1+mm).toNat:Int) by omega],by omega,by omega,fun H5 s5=>?_⟩;have S5:=S4.same s5;refine ⟨_,_,rfl,rfl,⟨by omega,ik (b:=30) (by omega) (by decide +kernel)⟩,_,rfl,sc,_,rfl,S5.p_runs,?_⟩;obtain ⟨S6,o6⟩:=S5.put (rw':=rw) (ag':=ag) (rn':=rn / (1+mm).toNat ^ ag) q1 q2 S0.a1 a2 S0.w1;have oC:=oB.trans ((cU.of s5).trans o6);clear S5 S4 S3 oB oA t4 o4
  rw [show (rn:Int) / (((1+mm).toNat ^ ag:Nat):Int)=((rn / (1+mm).toNat ^ ag:Nat):Int) from (vg _ _).symm];generalize aM H5 sc (.dK (gX kn rw ag ((rn / (1+mm).toNat ^ ag:Nat):Int) 9 nl))=H6 at S6 oC ⊢;have esz:(hi+1 - lo).toNat=(1+mm).toNat:=by omega
  refine ⟨_,rfl,rfl,_,rfl,?_⟩
  by_cases c0:so=0
  ·refine bV (by rw [c0];exact ap rfl) ?_;refine ⟨_,rfl,_,rfl,_,rfl,p,l,kn,rfl,S6.pot,k1,k3,fun w ws H7 h7 l7 b7 D7 o7=>?_⟩;refine ⟨_,rfl,p,l,1,rfl,D7,fun st a b H8 h8 st8 _ D8 o8=>⟨_,rfl,_,rfl,by show 6<=sizeLine;decide,fun q hq=>?_⟩⟩;have s9:=aC hq (.tup [.str "ladder",.str x,.ref w,.ref st,.int lo,.int hi]);have S9:=((S6.out D7 o7).out D8 o8).same s9;refine k q (.lad a b lo hi) (.ref w) [ws] _ _ ⟨⟨st,aD,s9 _ _ h8⟩,.inl ⟨rfl,w,ws,rfl,s9 _ _ (D7.ts o8 _ _ h7),rfl⟩⟩ ⟨⟨st8,⟨lo0,by omega,hi9⟩⟩⟩ (qF (ai _) (by show 1<=4;decide) k3 (fun u hu=>by rw [au.mp hu];exact ⟨l7,b7⟩) fun _=>rfl) ?_ S9 (oC.trans ((cU.out o7).trans ((cU.out o8).trans (.of s9))));show (hi+1 - lo).toNat ^ ag * _<=rn;rw [esz];exact q3
  ·refine bF (fun z=>c0 (by have z:=ba z;injection z)) ?_;refine ⟨_,rfl,_,rfl,_,rfl,p,l,kn,rfl,S6.pot,k1,k3,fun w ws H7 h7 l7 b7 D7 o7=>?_⟩;refine ⟨_,rfl,p,l,5,rfl,D7,by decide,by decide,fun rr H8 rr0 rr1 D8 o8=>⟨_,rfl,_,rfl,by show 6<=sizeLine;decide,fun q hq=>?_⟩⟩;have s9:=aC hq (.tup [.str "flat",.str x,.ref w,.int rr,.int lo,.int hi]);have S9:=((S6.out D7 o7).out D8 o8).same s9;refine k q (.fla rr lo hi) (.ref w) [ws] _ _ ⟨aD,.inl ⟨rfl,w,ws,rfl,s9 _ _ (D7.ts o8 _ _ h7),rfl⟩⟩ ⟨⟨rr0,by omega,⟨lo0,by omega,hi9⟩⟩⟩ (qF (ai _) (by show 1<=4;decide) k3 (fun u hu=>by rw [au.mp hu];exact ⟨l7,b7⟩) fun _=>rfl) ?_ S9 (oC.trans ((cU.out o7).trans ((cU.out o8).trans (.of s9))));show (hi+1 - lo).toNat ^ ag * _<=rn;rw [esz];exact q3
 ·refine bF (by simpa using c) ?_;refine ⟨fun v G=>G=H3/\∃ z:Nat,v= .int z/\z<=1/\z < few,?_,?_⟩
  ·refine ⟨_,rfl,rfl,_,rfl,?_⟩
   by_cases c3:so=3
   ·refine bV (by rw [c3];exact ap rfl) ⟨_,rfl,_,_,rfl,rfl,.inr ⟨_,rfl,rfl,?_⟩⟩
    by_cases cf:(1:Int) < few
    ·exact ⟨1,by rw [ap cf];rfl,by decide,by omega⟩
    ·exact ⟨0,by rw [dm cf];rfl,by decide,by omega⟩
   ·refine bF (fun z=>c3 (by have z:=ba z;injection z)) (.inr ⟨_,rfl,rfl,0,rfl,by decide,by omega⟩)
  rintro v G ⟨rfl,asks,rfl,as1,asf⟩;have mn:1<=(if (few:Int) - asks < 4 - asks then (few:Int) - asks else 4 - asks)/\(if (few:Int) - asks < 4 - asks then (few:Int) - asks else 4 - asks)<=4 - asks/\(if (few:Int) - asks < 4 - asks then (few:Int) - asks else 4 - asks)<=few - asks:=by split <;> omega
  refine ⟨_,rfl,_,rfl,_,_,rfl,rfl,_,rfl,_,rfl,_,_,rfl,rfl,_,_,rfl,p,l,_,rfl,S3.pot,by show 0 < (if (few:Int) - asks < 4 - asks then (few:Int) - asks else 4 - asks);omega,by show (if (few:Int) - asks < 4 - asks then (few:Int) - asks else 4 - asks) < _;omega,fun my H4 my0 my1 D4 o4=>⟨_,_,rfl,rfl,?_⟩⟩;have my1:my < (if (few:Int) - asks < 4 - asks then (few:Int) - asks else 4 - asks):=my1;obtain ⟨my4,myf⟩:my < 4 - asks/\my < few - asks:=by omega
  clear mn my1;have S4:=S3.out D4 o4;have oB:=oA.trans (cU.out (sc:=sc) (nh:=nh) o4);clear oA o4;refine ⟨_,rfl,1+my,rfl,by omega,by omega,fL (n:=(1+my).toNat) (fun i ys σ G=>Sc G p l sc nl nh kn rw ag rn xs ns/\cU [p,l,sc,nh] H G/\(∃ v,σ=[v,some (.ref p),some (.int kn)])/\∃ wss:List (List Int),dO (aD2 G) ys wss/\ys.length=i/\wss.length=i/\∀ ws∈wss,ws.length=kn.toNat/\∀ x∈ws,0<=x/\x<=3) (aK (by omega)) ⟨S4,oB,⟨_,rfl⟩,[],trivial,rfl,rfl,(fun _ z=>nomatch z)⟩
   (by rintro i ys σ G ⟨_,_,_,_,_,e,_⟩;omega) ?_ ?_⟩
  ·rintro i ys σ G' hi ⟨S5,o5,⟨v,rfl⟩,wss,tw,ly,lw,hw⟩;refine ⟨_,rfl,_,rfl,p,l,kn,rfl,S5.pot,k1,k3,fun w ws H6 h6 l6 b6 D6 o6=>⟨S5.out D6 o6,o5.trans (cU.out o6),⟨_,rfl⟩,wss++[ws],dO.append (tw.mono fun _ _ z=>z.ts (S5.pot.ts o6)) ⟨⟨w,rfl,h6⟩,trivial⟩,by rw [be,ly];rfl,by rw [be,lw];rfl,fun u hu=>?_⟩⟩;rcases bf.mp hu with q | q
   ·exact hw u q
   ·rw [au.mp q];exact ⟨l6,b6⟩
  rintro ys σ G' ⟨S5,o5,_,wss,tw,ly,lw,hw⟩ q hq;refine ⟨q,_,rfl,.inl ⟨bM.of aD,fun sm hsm=>?_⟩⟩;have s6:=(aC hq (.lst ys)).trans (aC hsm (.tup ys));have h6:kE (aM (aM G' q (.lst ys)) sm (.tup ys)) sm wss:=⟨ys,aD,tw.mono fun _ _ z=>z.ts (.of s6)⟩
  have S6:=S5.same s6;have oC:=o5.trans (.of s6);generalize aM (aM G' q (.lst ys)) sm (.tup ys)=H6 at h6 S6 oC ⊢;clear S5 S4 S3 s6 tw oB o5;obtain ⟨q1,q2,q3,q4,q5⟩:=bE7 (many:=(1+my).toNat+asks) hf (by omega) (by omega) r2;refine ⟨_,rfl,sc,_,rfl,S6.g_runs,_,rfl,_,rfl,_,_,rfl,rfl,_,rfl,sc,_,rfl,S6.g_again,(1+my).toNat+asks,ag,by show [V.int (1+my+(asks:Int)),V.int ag]=_;rw [show 1+my+(asks:Int)=(((1+my).toNat+asks:Nat):Int) by omega],by omega,by omega,fun H7 s7=>?_⟩;have S7:=S6.same s7;refine ⟨_,_,rfl,rfl,⟨by omega,ik (b:=30) (by omega) (by decide +kernel)⟩,_,rfl,sc,_,rfl,S7.p_runs,?_⟩;obtain ⟨S8,o8⟩:=S7.put (rw':=rw) (ag':=ag) (rn':=rn / ((1+my).toNat+asks) ^ ag) q1 q2 S0.a1 a2 S0.w1;have oD:=oC.trans ((cU.of s7).trans o8);have h8:=h6.ts ((TS.of s7).trans (S7.ts o8));clear S7 S6 oC h6;rw [show (rn:Int) / ((((1+my).toNat+asks) ^ ag:Nat):Int)=((rn / ((1+my).toNat+asks) ^ ag:Nat):Int) from (vg _ _).symm]
  generalize aM H7 sc (.dK (gX kn rw ag ((rn / ((1+my).toNat+asks) ^ ag:Nat):Int) 9 nl))=H8 at S8 oD h8 ⊢;refine ⟨_,rfl,_,rfl,_,rfl,_,_,rfl,rfl,_,rfl,_,rfl,sc,_,rfl,S8.g_high,_,_,rfl,rfl,_,rfl,_,_,rfl,rfl,p,l,9+1 - (asks:Int),rfl,S8.pot,by omega,by omega,fun z H9 z0 z1 D9 o9=>⟨_,_,rfl,rfl,?_⟩⟩;have S9:=S8.out D9 o9;refine ⟨p,l,sc,nl,kn,rw,ag,_,1+asks+z,rfl,S9.pot,S9.sc,by omega,by omega,fun r lo hi H10 t10 lo0 hi9 ehi D10 o10=>?_⟩;rw [aj (by omega)] at ehi;refine ⟨r,_,rfl,aT.of t10,rfl,_,_,rfl,_,_,rfl,rfl,?_⟩;have S10:=S9.out D10 o10;have oE:=oD.trans ((cU.out o9).trans (cU.out o10));have h10:=h8.ts ((S8.pot.ts o9).trans (S9.pot.ts o10));clear S9 S8 oD h8 t10;refine ⟨_,rfl,rfl,_,rfl,?_⟩
  by_cases ca:asks=0
  ·refine bV (by rw [ca];exact ap rfl) ?_;refine ⟨_,rfl,_,rfl,_,rfl,p,l,1,rfl,S10.pot,fun st a b H11 h11 st11 _ D11 o11=>⟨_,rfl,_,rfl,by show 6<=sizeLine;decide,fun q hq=>?_⟩⟩;have s12:=aC hq (.tup [.str "choose",.str x,.ref sm,.ref st,.int lo,.int hi]);have S12:=(S10.out D11 o11).same s12;refine k q (.cho a b lo hi) (.ref sm) wss _ _ ⟨⟨st,aD,s12 _ _ h11⟩,.inr ⟨rfl,sm,rfl,h10.ts ((S10.pot.ts o11).trans (.of s12))⟩⟩ ⟨⟨st11,⟨lo0,by omega,hi9⟩⟩⟩ (qF (by omega) (by omega) k3 hw fun z=>nomatch z) ?_ S12 (oE.trans ((cU.out o11).trans (.of s12)));show wss.length ^ ag * _<=rn;rw [show wss.length=(1+my).toNat+asks by omega];exact q3
  ·refine bF (fun z=>ca (by have z:=ba z;injection z with z;omega)) ?_;refine ⟨_,rfl,_,rfl,_,rfl,_,rfl,_,_,rfl,rfl,_,_,rfl,rfl,p,l,hi - lo+1,rfl,S10.pot,by omega,by omega,fun mk H11 mk0 mk1 D11 o11=>⟨_,_,rfl,rfl,?_⟩⟩;refine ⟨_,rfl,_,rfl,_,rfl,p,l,1,rfl,D11,fun sa pa qa H12 h12 st12 _ D12 o12=>⟨_,rfl,p,l,2,rfl,D12,fun sb pb qb H13 h13 st13 hb13 D13 o13=>⟨_,rfl,_,rfl,_,rfl,by show 8<=sizeLine;decide,fun q hq=>?_⟩⟩⟩;have s14:=aC hq (.tup [.str "first",.str x,.int (lo+mk),.ref sa,.ref sb,.ref sm,.int lo,.int hi]);have S14:=(((S10.out D11 o11).out D12 o12).out D13 o13).same s14;have t4:=(S10.pot.ts o11).trans ((D11.ts o12).trans ((D12.ts o13).trans (.of s14)));refine k q (.fst pa qa pb qb (lo+mk) lo hi) (.ref sm) wss _ _ ⟨⟨sa,sb,sm,rfl,aD,s14 _ _ (D12.ts o13 _ _ h12),s14 _ _ h13⟩,.inr ⟨rfl,sm,rfl,h10.ts t4⟩⟩ ⟨⟨st12,st13,hb13 rfl,⟨lo0,by omega,hi9⟩,by omega,by omega⟩⟩ (qF (by omega) (by omega) k3 hw fun z=>nomatch z) ?_ S14 (oE.trans ((cU.out o11).trans ((cU.out o12).trans ((cU.out o13).trans (.of s14)))))
   show (wss.length+1) ^ ag * _<=rn;rw [show wss.length+1=(1+my).toNat+asks by omega];exact q3
theorem bY6 (m:Nat) (C_LRs:Cl P w K mg base (3 * m+13) (xE m) "_law_rows") (C_Draw:Cl P w K mg base 1 spDrawP "_law_draw") (C_Trm:Cl P w K mg base 13 (aY9 12) "_law_term") (m_min:mg "min"=none) (m_list:mg "list"=none) (m_int:mg "int"=none):fC P w K mg base "_law_inner" "_law_inner" cG2 (3 * m+13+1) ["_law_pot_here","_law_scene","_law_names_here","_law_left","_law_deep"] (wI true m):=by
 refine fV ["_law_pot_here","_law_scene","_law_names_here","_law_left","_law_deep","_law_told","_law_term_here","_law_mine","_law_one","_law_yours","_law_other","_law_k"] fun H Q nd hr h=>?_
 obtain ⟨p,l,sc,nl,nh,kn,rw,ag,rn,left,deep,xs,ns,rfl,S0,l3,hd,ha,hc,k⟩:=h;have hu:=jE hr;refine ⟨_,(aF (pdp hu (pv 1) aH (aI cQ (sZ hu (pv 1) aH) aB))
  (dB 5 nd (pX (sY (jF rfl) m_min jm (aA (pv 3) (aP (bQ C_Draw hr (aA (pv 0) (aP aB)))))))
  (aF (bK (eL iH (bQ C_Draw hr (aA (pv 0) (aP aB))) aB) (dB 6 nd (bQ C_Trm hr (aA (pv 0) (aA (pv 2) (aP aB))))
  (dB 7 nd (pct jL m_list oy (aP (pv 2)))
  (dB 8 nd (bQ C_LRs hr (aA (pv 0) (aA (pv 1) (aA (pv 7) (aA (pv 5) (aP (aI bE (pv 4) aB)))))))
  (dB 9 nd (pct jL m_list oy (aP (pv 2)))
  (dB 10 nd (bQ C_LRs hr (aA (pv 0) (aA (pv 1) (aA (pv 9) (aA (pv 5) (aP (aI bE (pv 4) aB)))))))
  (aF (cP (fB bg nk nq nY (pv 2) (aP (eV ["_law_x","_law_yours","_law_names_here"] [none,some 9,some 2] (lA (pv 7)) (fun _ _ _ _=>(iF 0)) (fun _ _ _ _=>(bD0 (PW.pt (iO (eL (inK K) (pv 0) (pv 1)) (fO (eL (cO4 K) (pv 0) (pv 2))))))) (fun _ _ _ _=>(pv 0))))))
  (aE (aL (aS (aA (aS (aA aH (aA (pv 6) (aA (pv 8) (aP (pv 10)))))) (aP (pv 5)))))))))))) aV)
  (dB 11 nd (aI bE aB (bQ C_Draw hr (aA (pv 0) (aP aB))))
  (dB 5 nd (pX (aI mB (pv 5) (pct uJ m_int xa (aP (pec aV8 (pv 11) (pv 3))))))
  (aF (pdp hu (pv 1) aH (aI mB (sZ hu (pv 1) aH) (pv 11)))
  (dB 8 nd (bQ C_LRs hr (aA (pv 0) (aA (pv 1) (aA (pv 2) (aA (pv 5) (aP (aI bE (pv 4) aB)))))))
  (aF (pdp hu (pv 1) aH (aI mP (sZ hu (pv 1) aH) (pv 11)))
  (aE (aL (aS (aA (aS (aA aH (aA (pv 11) (aP (pv 8))))) (aP (aI mB (pv 11) (pv 5))))))))))))))),?_⟩
 obtain ⟨hc1,hc2⟩:1<=rw/\1<=m:=hc;obtain ⟨rw,rfl⟩:∃ r,rw=r+1:=⟨rw - 1,by omega⟩
 obtain ⟨m,rfl⟩:∃ r,m=r+1:=⟨m - 1,by omega⟩
 have w1:=S0.w1;refine ⟨_,rfl,sc,_,rfl,S0.g_rows,_,_,rfl,rfl,_,rfl,sc,_,rfl,S0.p_rows,?_⟩;obtain ⟨S1,o1⟩:=S0.put (rw':=rw) S0.r1 S0.r2 S0.a1 S0.a2 (by omega);rw [show ((rw+1:Nat):Int) - 1=(rw:Int) by omega];generalize aM H sc (.dK (gX kn rw ag rn 9 nl))=H1 at S1 o1 ⊢;refine ⟨fun v G=>∃ told:Nat,v= .int told/\told<=left/\told<=1/\Sc G p l sc nl nh kn rw ag rn xs ns/\cU [p,l,sc,nh] H G,?_,?_⟩
 ·refine ⟨_,rfl,_,rfl,p,l,2,rfl,S1.pot,by decide,by decide,fun z H2 z0 z1 D2 o2=>⟨_,_,rfl,(if z < (left:Int) then z else (left:Int)).toNat,?_,?_,?_,S1.out D2 o2,o1.trans (cU.out o2)⟩⟩
  ·show V.int (if z < (left:Int) then z else (left:Int))=_
   congr 1
   split <;> omega
  ·split <;> omega
  ·split <;> omega
 rintro v G ⟨told,rfl,t1,t2,S2,o2⟩;refine ⟨_,rfl,p,l,3,rfl,S2.pot,by decide,by decide,fun z H3 z0 z1 D3 o3=>⟨_,_,rfl,rfl,_,rfl,?_⟩⟩;have S3:=S2.out D3 o3;have oA:=o2.trans (cU.out (sc:=sc) (nh:=nh) o3);clear o2 o3 S2 D3 S1 o1
 by_cases c:0 < z
 ·refine bV (ap c) ?_;refine ⟨_,rfl,_,rfl,p,l,nh,ns,5,rfl,S3.pot,S3.hn,S3.n3,S3.n4,S3.ns3,by decide,by decide,by decide,fun t H4 D4 o4 h4 nm4 sz4 ok4=>?_⟩;have S4:=S3.out D4 o4;have oB:=oA.trans (cU.out (sc:=sc) (nh:=nh) o4);refine ⟨_,rfl,nh,_,rfl,.inl (bM.of S4.hn),fun lm hlm=>?_⟩;obtain ⟨m1,m2,m3,m4⟩:=S4.new hlm;have f5:H lm=none:=S4.fresh oB hlm;obtain ⟨H5,e0,s5,g5⟩:=lay hlm (.lst (ns.map V.str));rw [e0];clear e0;have S5:=S4.same s5;have S5m:=S5.at g5 m1 m2 m3 S5.nd S5.sb;have pw:ag * 3 ^ m<=27:=bv (gj (ai _) (ip (by decide) (rm m))) ha;refine ⟨_,rfl,_,rfl,_,rfl,_,rfl,_,rfl,_,_,rfl,rfl,p,l,sc,nl,lm,kn,rw,ag,rn,told,deep+1,xs,ns,rfl,S5m,by omega,by omega,pw,fun pa ra rw1 rn1 na H6 h6 _ hr6 S6m d6 o6=>?_⟩;have S6:Sc H6 p l sc nl nh kn rw1 ag rn1 xs ns:=S6m.at (S5m.keep o6 S5.hn S5.n3 S5.n4 m4.symm) S5.n3 S5.n4 S5.n5 S5.nd S5.sb
  have oC:cU [p,l,sc,nh] H H6:=cU.in f5 (oB.trans (.of s5)) o6;have ts6:=S5m.ts o6;refine ⟨_,rfl,nh,_,rfl,.inl (bM.of S6.hn),fun ly hly=>?_⟩;obtain ⟨y1,y2,y3,y4⟩:=S6.new hly;have ym:lm≠ly:=aN S6m.hn hly;have f7:H ly=none:=S6.fresh oC hly;obtain ⟨H7,e0,s7,g7⟩:=lay hly (.lst (ns.map V.str));rw [e0];clear e0;have S7:=S6.same s7;have S7y:=S7.at g7 y1 y2 y3 S7.nd S7.sb;refine ⟨_,rfl,_,rfl,_,rfl,_,rfl,_,rfl,_,_,rfl,rfl,p,l,sc,nl,ly,kn,rw1,ag,rn1,told,deep+1,xs,ns,rfl,S7y,by omega,by omega,pw,fun pb rb rw2 rn2 nb H8 h8 _ hr8 S8y d8 o8=>?_⟩;have S8:Sc H8 p l sc nl nh kn rw2 ag rn2 xs ns:=S8y.at (S7y.keep o8 S7.hn S7.n3 S7.n4 y4.symm) S7.n3 S7.n4 S7.n5 S7.nd S7.sb;have gm8:=S7y.keep o8 (s7 _ _ S6m.hn) m1 m2 ym;have oD:cU [p,l,sc,nh] H H8:=cU.in f7 (oC.trans (.of s7)) o8;have ts8:=(TS.of s7).trans (S7y.ts o8);have tm8:=h4.ts (((TS.of s5).trans ts6).trans ts8);have ha8:=ts8 _ _ h6;have hra8:=bY.ts ts8 _ hr6
  have gy8:=S8y.hn;have nda:=S6m.nd;have sba:=S6m.sb;clear S7y S7 S6 S6m S5 S5m S4 S3 o6 o8 oB oC h6 hr6 h4 ts6 ts8 s5 s7 g5 g7 D4 o4 S8y;refine ⟨_,rfl,.inl ⟨rfl,_,bM.of S8.hn⟩,_,rfl,lm,rfl,⟨_,bM.of gm8⟩,uH (K:=K) (a:=lm) (xs:=na.map V.str) (fun i ys σ G=>G=H8/\(∃ v,σ=[v,some (.ref ly),some (.ref nh)])/\ys=((na.take i).filter fun x=>decide (x∈nb) && decide (¬ x∈ns)).map V.str)
   (by rw [ac];have:=gU nda sba;exact aK (by have:=S8.x3;omega)) ⟨rfl,⟨_,rfl⟩,rfl⟩ (by
    rintro i ys σ G ⟨_,_,e⟩;rw [e,ac];exact bv (pz _ _) (by rw [dk];omega)) (by rintro i ys σ G _ ⟨e,_⟩;rw [e];exact bM.of gm8) ?_ ?_⟩
  ·rintro i v ys σ G hv ⟨rfl,⟨v',rfl⟩,rfl⟩;obtain ⟨x,rfl,hx⟩:=qB hv;have ei:inV (V.str x) (nb.map V.str)=decide (x∈nb):=mZ _ _;have ej:inV (V.str x) (ns.map V.str)=decide (x∈ns):=mZ _ _;rw [cH hx,sv,aq];refine ⟨_,rfl,_,rfl,ly,_,rfl,.inl (bM.of gy8),rfl,dG _,_,rfl,?_⟩
   by_cases c:x∈nb
   ·refine bV (ei.trans (ap c)) ⟨_,rfl,_,rfl,nh,_,rfl,.inl (bM.of S8.hn),rfl,dG _,_,rfl,?_⟩
    by_cases c2:x∈ns
    ·refine bF (by rw [ej,ap c2];decide) ⟨rfl,⟨_,rfl⟩,?_⟩;rw [vm (by rw [dm (fun z=>z c2:¬ ¬ x∈ns)];simp)];simp
    ·refine bV (by rw [ej,dm c2];rfl) ⟨_,rfl,rfl,⟨_,rfl⟩,?_⟩;rw [List.filter_cons_of_pos (by rw [ap c,ap c2];rfl)];rfl
   ·refine bF (fun z=>c (ba (ei.symm.trans z))) ⟨rfl,⟨_,rfl⟩,?_⟩;rw [vm (by rw [dm c];simp)];simp
  rintro ys σ G ⟨rfl,_,rfl⟩ lx hlx;rw [ac,dy];have nd9:=bK2 (ns:=ns) (nb:=nb) S8.nd nda;have in9:∀ y∈ns++na.filter (fun x=>decide (x∈nb) && decide (¬ x∈ns)),y∈na/\y∈nb:=fun y hy=>by
   rcases bK0 hy with q | q
   ·exact ⟨d6.up y q,d8.up y q⟩
   ·exact q
  have sb9:jZ (ns++na.filter (fun x=>decide (x∈nb) && decide (¬ x∈ns))) xs:=fun y hy=>sba y (in9 y hy).1
  have l9:=gU nd9 sb9;have up9:jZ ns (ns++na.filter (fun x=>decide (x∈nb) && decide (¬ x∈ns))):=fun y hy=>dj _ hy
  generalize na.filter (fun x=>decide (x∈nb) && decide (¬ x∈ns))=nz at nd9 in9 sb9 l9 up9 ⊢;obtain ⟨H9,e0,s9,g9⟩:=lay hlx (.lst (nz.map V.str));rw [e0];clear e0;have S9:=S8.same s9;refine ⟨nh,lx,_,_,rfl,rfl,S9.hn,g9,?_,?_⟩
  ·rw [be] at l9;rw [ac,ac];exact fk (aK (by have:=S9.x3;omega))
  rw [<- aq];obtain ⟨S10,o10⟩:=S9.names nd9 sb9;have t10:=(TS.of s9).trans (S9.ts o10);have oE:=oD.trans ((cU.of s9).trans o10);generalize aM H9 nh (.lst ((ns++nz).map V.str))=H10 at S10 t10 oE ⊢;refine ⟨_,rfl,_,rfl,_,rfl,by show 4<=sizeLine;decide,fun q hq=>⟨_,rfl,dH,fun u hu=>?_⟩⟩;have s11:=aC hq (.tup [.str "when",.ref t.p,.ref pa,.ref pb]);have s12:=s11.trans (aC hu (.tup [.ref q,.int told]));have t12:=t10.trans (.of s12);refine k u (.when q pa pb t ra rb) told rw2 rn2 (ns++nz) _ aD ⟨(aC hu _) _ _ aD,tm8.ts t12,t12 _ _ ha8,t12 _ _ h8,bY.ts t12 _ hra8,bY.ts t12 _ hr8⟩ (S10.same s12) (jI.when ok4 (by omega) nm4 d6 d8 in9 up9) t1 ?_ (oE.trans (.of s12));have:=d6.key;have:=d8.key;omega
 ·refine bF (by simpa using c) ?_;refine ⟨_,rfl,p,l,3,rfl,S3.pot,by decide,by decide,fun kz H4 kz0 kz1 D4 o4=>⟨_,_,rfl,rfl,?_⟩⟩;have S4:=S3.out D4 o4;have oB:=oA.trans (cU.out (sc:=sc) (nh:=nh) o4);obtain ⟨kk,ek,kk1,kk3⟩:∃ kk:Nat,1+kz=(kk:Int)/\1<=kk/\kk<=3:=⟨(1+kz).toNat,by omega,by omega,by omega⟩
  clear S3 oA o4 D4;refine ⟨fun v G=>G=H4/\∃ t':Nat,v= .int t'/\t'<=3/\kk * t'<=left,?_,?_⟩
  ·refine ⟨_,rfl,_,rfl,_,rfl,_,_,rfl,rfl,.inr ⟨_,rfl,_,_,rfl,rfl,.inl ⟨by omega,by omega⟩,rfl,?_⟩⟩
   by_cases cl:1+kz<=(left:Int)
   ·refine ⟨told,by rw [ap cl];show V.int ((told:Int) * 1)=_;rw [rl],by omega,?_⟩;have:told=0\/told=1:=by omega
    rcases this with rfl | rfl <;> omega
   ·exact ⟨0,by rw [dm cl];show V.int ((told:Int) * 0)=_;rw [Int.mul_zero];rfl,by decide,by omega⟩
  rintro v G ⟨rfl,told',rfl,t3,t4⟩;refine ⟨_,rfl,sc,_,rfl,S4.g_again,_,rfl,_,_,rfl,rfl,.inr ⟨by omega,by omega⟩,_,rfl,sc,_,rfl,S4.p_again,?_⟩;have pw:ag * kk * 3 ^ m<=27:=by
   have e:ag * 3 ^ (m+1)=ag * 3 * 3 ^ m:=by rw [ni,uw (3 ^ m),yi]
   exact bv (gj (gj (ai _) kk3) (ai _)) (by rw [<- e];exact ha)
  have p1:1<=3 ^ m:=sg (by decide);have ak:ag * kk<=27:=bv (oa _ p1) pw;have ak1:1<=ag * kk:=Nat.mul_pos S4.a1 kk1;obtain ⟨S5,o5⟩:=S4.put (rw':=rw) (ag':=ag * kk) S4.r1 S4.r2 ak1 ak S4.w1;rw [show (ag:Int) * (1+kz)=((ag * kk:Nat):Int) by rw [ek,ko]];have oC:=oB.trans o5;generalize aM G sc (.dK (gX kn rw ((ag * kk:Nat):Int) rn 9 nl))=H5 at S5 oC ⊢;refine ⟨_,rfl,_,rfl,_,rfl,_,rfl,_,rfl,_,_,rfl,rfl,p,l,sc,nl,nh,kn,rw,ag * kk,rn,told',deep+1,xs,ns,rfl,S5,t3,by omega,pw,fun pa ra rw1 rn1 na H6 h6 _ hr6 S6 d6 o6=>?_⟩;refine ⟨_,rfl,sc,_,rfl,S6.g_again,_,rfl,_,_,rfl,rfl,⟨by omega,ik (b:=30) (by omega) (by decide +kernel)⟩,_,rfl,sc,_,rfl,S6.p_again,?_⟩;obtain ⟨S7,o7⟩:=S6.put (rw':=rw1) (ag':=ag) S6.r1 S6.r2 S4.a1 S4.a2 S6.w1;rw [show ((ag * kk:Nat):Int) / (1+kz)=(ag:Int) by rw [ek, <- vg,Nat.mul_div_cancel _ kk1]];have t7:=S6.ts o7
  have oD:=oC.trans (o6.trans o7);generalize aM H6 sc (.dK (gX kn rw1 ag rn1 9 nl))=H7 at S7 t7 oD ⊢;refine ⟨_,rfl,_,rfl,by show 3<=sizeLine;decide,fun q hq=>⟨_,rfl,_,rfl,_,_,rfl,rfl,.inl ⟨by omega,by omega⟩,dH,fun u hu=>?_⟩⟩;show Q (.ref u) (aM (aM H7 q (.tup [.str "times",.int (1+kz),.ref pa])) u (.tup [.ref q,.int ((1+kz) * (told':Int))]));rw [show (1+kz) * (told':Int)=((kk * told':Nat):Int) by rw [ek,ko],ek];have hu:aM H7 q (.tup [.str "times",.int (1+kz),.ref pa]) u=none:=hu;rw [ek] at hu;have s8:=(aC hq (.tup [.str "times",.int (kk:Int),.ref pa])).trans (aC hu (.tup [.ref q,.int ((kk * told':Nat):Int)]));have t8:=t7.trans (.of s8);refine k u (.times q pa kk ra) (kk * told') rw1 rn1 na _ aD ⟨(aC hu _) _ _ aD,t8 _ _ h6,bY.ts t8 _ hr6⟩ (S7.same s8) (jI.times kk1 kk3 d6) t4 ?_ (oD.trans (.of s8));have:=d6.key;omega
theorem bU5 (m:Nat) (C_Draw:Cl P w K mg base 1 spDrawP "_law_draw") (C_LIn:Cl P w K mg base (3 * m+14) (wI true m) "_law_inner") (C_LTh:Cl P w K mg base 3 spThrP "_law_throw") (C_Trm:Cl P w K mg base 13 (aY9 12) "_law_term") (m_len:mg "len"=none):fC P w K mg base "_law_row" "_law_row" cE7 (3 * m+14+1) ["_law_pot_here","_law_scene","_law_names_here","_law_left","_law_deep"] (wI false m):=by
 refine fV ["_law_pot_here","_law_scene","_law_names_here","_law_left","_law_deep","_law_form","_law_x","_law_found"] fun H Q nd hr h=>?_
 obtain ⟨p,l,sc,nl,nh,kn,rw,ag,rn,left,deep,xs,ns,rfl,S0,l3,hd,ha,hc,k⟩:=h;have hu:=jE hr;refine ⟨_,(dB 5 nd (bQ C_Draw hr (aA (pv 0) (aP aB)))
  (aF (bK (jU (PW.pt (zJ (eL nL (sZ hu (pv 1) aH) aB) (rB (jU (PW.pt (iO (eL iH (pv 3) aB) (fO (eL nL (pv 5) aB))))))))) (aE (aL (aS (aA (aS (aA aH (aP (bQ C_Trm hr (aA (pv 0) (aA (pv 2) (aP (bX cW (cS (aA aB (aA aB (aP aB)))) (bQ C_Draw hr (aA (pv 0) (aP aB))))))))))) (aP aB))))) aV)
  (aF (bK (jU (PW.pt (iO (eL cY (pv 5) aB) (fO (eL nL (pv 4) aB))))) (aE (aL (bQ C_LIn hr (aA (pv 0) (aA (pv 1) (aA (pv 2) (aA (pv 3) (aP (pv 4))))))))) aV)
  (aF (pdp hu (pv 1) aH (aI cQ (sZ hu (pv 1) aH) aB))
  (dB 6 nd (bX cW (sZ hu (pv 1) aH) (bQ C_Draw hr (aA (pv 0) (aP (sY bW m_len gm (aP (sZ hu (pv 1) aH)))))))
  (aF (kQ (bK (eL nL (pv 5) aB) (aE (zO 7 nd (aS (aA aH (aA (pv 6) (aP (bQ C_Trm hr (aA (pv 0) (aA (pv 2) (aP (bX cW (cS (aA aB (aA aB (aP aB)))) (bQ C_Draw hr (aA (pv 0) (aP aB)))))))))))))) (aE (zO 7 nd (bQ C_LTh hr (aA (pv 0) (aA (pv 1) (aP (pv 6)))))))))
  (aF (bK (eL mV (pv 6) (pv 2)) (aE (cP (fB bg cp cq cE (pv 2) (aP (pv 6))))) aV)
  (aE (aL (aS (aA (pv 7) (aP aB)))))))))))),?_⟩
 have hc:0 < left\/0 < rw:=hc;refine ⟨_,rfl,p,l,8,rfl,S0.pot,by decide,by decide,fun fo H1 fo0 fo1 D1 o1=>?_⟩;have S1:=S0.out D1 o1;have oA:cU [p,l,sc,nh] H H1:=cU.out o1;clear D1 o1;refine ⟨fun b G=>G=H1/\(b=true->0 < left)/\(b=false->1<=rw),?_,?_⟩
 ·refine ⟨_,rfl,sc,_,rfl,S1.g_rows,_,_,rfl,rfl,_,rfl,?_⟩
  by_cases c1:(rw:Int) < 1
  ·exact bV (ap c1) ⟨rfl,(fun _=>by omega),(fun z=>nomatch z)⟩
  ·refine bF (by simpa using c1) ⟨fun b G=>G=H1/\(b=true->0 < left),?_,by rintro b G ⟨rfl,h⟩;exact ⟨rfl,h,fun _=>by omega⟩⟩;refine ⟨_,rfl,_,_,rfl,rfl,_,rfl,?_⟩
   by_cases c2:(0:Int) < left
   ·exact bV (ap c2) ⟨_,rfl,_,_,rfl,rfl,_,rfl,rfl,(fun _=>by omega)⟩
   ·exact bF (by simpa using c2) ⟨rfl,(fun z=>nomatch z)⟩
 rintro b G ⟨rfl,hb1,hb2⟩
 cases b with
 |true =>
  have lp:=hb1 rfl;refine bV rfl ?_;refine ⟨_,rfl,_,rfl,by show 3<=sizeLine;decide,fun l0 hl0=>?_⟩;obtain ⟨n1,n2⟩:=eM S1.pot hl0;obtain ⟨H2,e0,s2,h2⟩:=lay hl0 (.lst [.int 3,.int 7,.int 12]);rw [e0];clear e0;have S2:=S1.same s2;refine ⟨_,rfl,p,l,3,rfl,S2.pot,by decide,by decide,fun z H3 z0 z1 D3 o3=>?_⟩;have S3:=S2.out D3 o3;obtain ⟨w,hw,hwc⟩:=oS (x:=3) (y:=7) (z:=12) z0 z1;refine ⟨l0,_,_,.int w,rfl,rfl,bM.of (dR h2 n1 n2 o3),hw,p,l,nh,ns,w,rfl,S3.pot,S3.hn,S3.n3,S3.n4,S3.ns3,by omega,by rcases hwc with rfl | rfl | rfl <;> decide,by omega,fun t H4 D4 o4 h4 nm4 sz4 ok4=>⟨dH,fun q hq=>⟨dH,fun u hu=>?_⟩⟩⟩;have s5:=(aC hq (.tup [.str "tell",.ref t.p])).trans (aC hu (.tup [.ref q,.int 1]));exact k u (.tell q t) 1 rw rn ns _ aD ⟨(aC hu _) _ _ aD,h4.ts (.of s5)⟩ ((S3.out D4 o4).same s5) (jI.tell ok4 (by omega) nm4) lp (by omega) (oA.trans ((cU.of s2).trans ((cU.out o3).trans ((cU.out o4).trans (.of s5)))))
 |false =>
 refine bF (by simp) ?_;have rp:=hb2 rfl;refine ⟨fun b G'=>G'=G/\(b=true->1<=m),?_,?_⟩
 ·refine ⟨_,rfl,rfl,_,rfl,aF3 (fun _=>⟨_,rfl,_,_,rfl,rfl,_,rfl,rfl,fun z=>?_⟩) (fun _=>⟨rfl,(fun z=>nomatch z)⟩)⟩;have z:decide (deep < 3)=true:=z;have:=ba z;omega
 rintro b G' ⟨rfl,hb⟩
 cases b with
 |true =>
  refine bV rfl ?_;exact ⟨_,rfl,_,rfl,_,rfl,_,rfl,_,rfl,p,l,sc,nl,nh,kn,rw,ag,rn,left,deep,xs,ns,rfl,S1,l3,hd,ha,⟨rp,hb rfl⟩,fun u r told rw' rn' ns' H2 h2 hr2 S2 d2 t2 w2 o2=>k u r told rw' rn' ns' H2 h2 hr2 S2 d2 t2 w2 (oA.trans o2)⟩
 |false =>
 refine bF (by simp) ?_;obtain ⟨rw,rfl⟩:∃ r,rw=r+1:=⟨rw - 1,by omega⟩
 have w1:=S1.w1;refine ⟨_,rfl,sc,_,rfl,S1.g_rows,_,_,rfl,rfl,_,rfl,sc,_,rfl,S1.p_rows,?_⟩;obtain ⟨S2,o2⟩:=S1.put (rw':=rw) S1.r1 S1.r2 S1.a1 S1.a2 (by omega);rw [show ((rw+1:Nat):Int) - 1=(rw:Int) by omega];have oB:=oA.trans o2;generalize aM G' sc (.dK (gX kn rw ag rn 9 nl))=H2 at S2 oB ⊢;clear S1 oA o2;have x3:=S2.x3;refine ⟨_,rfl,sc,_,rfl,S2.g_names,_,rfl,_,rfl,sc,_,rfl,S2.g_names,nl,_,rfl,.inl (bM.of S2.nm),p,l,_,rfl,S2.pot,by rw [ac];omega,by rw [ac];omega,fun y H3 y0 y1 D3 o3=>?_⟩;obtain ⟨v,hv,ha'⟩:=aI6 y0 y1;obtain ⟨x,rfl,hx⟩:=qB hv;have mx:x∈xs:=br hx;have S3:=S2.out D3 o3;have oC:=oB.trans (cU.out (sc:=sc) (nh:=nh) o3);refine ⟨nl,_,_,.str x,rfl,rfl,bM.of S3.nm,ha',?_⟩;clear hv ha' hx y0 y1 S2 oB D3 o3;refine ⟨fun σ G=>∃ (r:Rw) (rn1:Nat),σ=[some (.ref p),some (.ref sc),some (.ref nh),some (.int left),some (.int deep),some (.int fo),some (.str x),some (.ref r.p)]/\pL G r/\Sc G p l sc nl nh kn rw ag rn1 xs ns/\cU [p,l,sc,nh] H G/\∀ ns',jZ ns' (x :: ns)->jZ ns ns'->jI xs ns ns' kn (rw+1) rw ag rn rn1 [r] 0 m,?_,?_⟩
 ·refine ⟨_,rfl,_,_,rfl,rfl,_,rfl,aF3 (fun _=>?_) (fun _=>?_)⟩
  ·refine ⟨_,rfl,_,rfl,_,rfl,by show 3<=sizeLine;decide,fun l0 hl0=>?_⟩;obtain ⟨n1,n2⟩:=eM S3.pot hl0;obtain ⟨H4,e0,s4,h4⟩:=lay hl0 (.lst [.int 3,.int 7,.int 12]);rw [e0];clear e0;have S4:=S3.same s4;refine ⟨_,rfl,p,l,3,rfl,S4.pot,by decide,by decide,fun z H5 z0 z1 D5 o5=>?_⟩;have S5:=S4.out D5 o5;obtain ⟨w,hw,hwc⟩:=oS (x:=3) (y:=7) (z:=12) z0 z1;refine ⟨l0,_,_,.int w,rfl,rfl,bM.of (dR h4 n1 n2 o5),hw,p,l,nh,ns,w,rfl,S5.pot,S5.hn,S5.n3,S5.n4,S5.ns3,by omega,by rcases hwc with rfl | rfl | rfl <;> decide,by omega,fun t H6 D6 o6 h6 nm6 sz6 ok6=>⟨by show 3<=sizeLine;decide,fun q hq=>?_⟩⟩;have s7:=aC hq (.tup [.str "let",.str x,.ref t.p]);exact ⟨.lt q x t,rn,rfl,⟨aD,h6.ts (.of s7)⟩,(S5.out D6 o6).same s7,oC.trans ((cU.of s4).trans ((cU.out o5).trans ((cU.out o6).trans (.of s7)))),fun ns' h' up=>jI.lt ok6 (by omega) nm6 mx h' up (ai _)⟩
  ·exact ⟨_,rfl,_,rfl,_,rfl,p,l,sc,nl,nh,kn,rw,ag,rn,xs,ns,x,rfl,S3,fun pt T a3 wss rn1 H4 h4 ok4 ak4 w4 S4 o4=>⟨.thr pt x T a3 wss,rn1,rfl,h4,S4,oC.trans o4,fun ns' h' up=>jI.thr ok4 ak4 mx h' up (ai _) w4⟩⟩
 rintro σ G ⟨r,rn1,rfl,hr4,S4,o4,d4⟩;have ei:inV (V.str x) (ns.map V.str)=decide (x∈ns):=mZ _ _;refine ⟨_,rfl,_,rfl,nh,_,rfl,.inl (bM.of S4.hn),rfl,dG _,_,rfl,?_⟩
 by_cases c:x∈ns
 ·refine bF (by rw [ei,ap c];decide) ?_;refine ⟨_,rfl,dH,fun u hu=>?_⟩;have s5:=aC hu (.tup [.ref r.p,.int 0]);exact k u r 0 rw rn1 ns _ aD (pL.ts (.of s5) _ hr4) (S4.same s5) (d4 ns (fun y hy=>ae _ hy) fun y hy=>hy) (bj _) (by omega) (o4.trans (.of s5))
 ·refine bV (by rw [ei,dm c];rfl) ?_;refine ⟨_,rfl,.inl ⟨rfl,_,bM.of S4.hn⟩,_,rfl,nh,_,_,rfl,rfl,S4.hn,by rw [ac];have:=S4.ns3;exact aK (by omega),?_⟩;have sb:jZ (ns++[x]) xs:=fun y hy=>by
   rcases bf.mp hy with q | q
   ·exact S4.sb y q
   ·rw [au.mp q];exact mx
  have nd:(ns++[x]).Nodup:=gy.mpr ⟨S4.nd,by simp,fun a ha b hb e=>c (by rw [<- List.mem_singleton.mp hb, <- e];exact ha)⟩;obtain ⟨S5,o5⟩:=S4.names nd sb;have t5:=S4.ts o5;have e5:(ns.map V.str++[V.str x])=(ns++[x]).map V.str:=by rw [aq];rfl
  rw [e5];have oD:=o4.trans o5;generalize aM G nh (.lst ((ns++[x]).map V.str))=H5 at S5 t5 oD ⊢;refine ⟨_,rfl,dH,fun u hu=>?_⟩;have s6:=aC hu (.tup [.ref r.p,.int 0]);refine k u r 0 rw rn1 (ns++[x]) _ aD (pL.ts (t5.trans (.of s6)) _ hr4) (S5.same s6) (d4 _ (fun y hy=>?_) fun y hy=>dj _ hy) (bj _) (by omega) (oD.trans (.of s6));rcases bf.mp hy with q | q
  ·exact ae _ q
  ·rw [au.mp q];exact ah
theorem cA0 (m:Nat) (C_LRw:Cl P w K mg base (3 * m+15) (wI false m) "_law_row") (C_Draw:Cl P w K mg base 1 spDrawP "_law_draw") (m_range:mg "range"=none) (m_tuple:mg "tuple"=none):fC P w K mg base "_law_rows" "_law_rows" cE6 (3 * m+15+1) ["_law_pot_here","_law_scene","_law_names_here","_law_left","_law_deep"] (xE (m+1)):=by
 refine fV ["_law_pot_here","_law_scene","_law_names_here","_law_left","_law_deep","_law_rows_here","_law_turn","_law_row_here","_law_told"] fun H Q nd hr h=>?_
 obtain ⟨p,l,sc,nl,nh,kn,rw,ag,rn,left,deep,xs,ns,rfl,S0,l3,hd,ha,k⟩:=h;have hu:=jE hr;refine ⟨_,(dB 5 nd (cS eI)
  (aF (xP (dL (by rfl) m_range (aP aB)) (iF 6 nd)
  (aE (bK (jU (PW.pt (zJ (eL iH (pv 3) aB) (rB (jU (PW.pt (iO (eL iH (sZ hu (pv 1) aH) aB) (fO (eL iH (bQ C_Draw hr (aA (pv 0) (aP aB))) aB))))))))) (aF (nR (bQ C_LRw hr (aA (pv 0) (aA (pv 1) (aA (pv 2) (aA (pv 3) (aP (pv 4))))))) (mG rfl (cO (iF 7 nd) (cO (iF 8 nd) iB))))
  (aF (cP (fB bg cp cq cE (pv 5) (aP (pv 7))))
  (aE (zO 3 nd (aI cQ (pv 3) (pv 8)))))) aV)))
  (aE (aL (pct bR m_tuple eg (aP (aI wZ (pv 5) (aI bV0 (cS (aP (aS (aA aH (aP (aS (aA aH (aP aB)))))))) (pv 3))))))))),?_⟩
 refine ⟨bj _,fun lr hlr=>?_⟩;obtain ⟨n1,n2,n3,n4⟩:=S0.new hlr;have s1:=aC hlr (.lst []);have g1:aM H lr (.lst []) lr=some (.lst (bT [])):=aD;generalize aM H lr (.lst [])=H1 at s1 g1 ⊢;have S1:=S0.same s1;have w1:=S0.w1;refine ⟨9,rfl,by decide,by decide,lP (n:=9) (fun i σ G=>∃ (rs:List Rw) (left' rw' rn':Nat) (ns':List Str) (v6 v7 v8:Option V),σ=[some (.ref p),some (.ref sc),some (.ref nh),some (.int left'),some (.int deep),some (.ref lr),v6,v7,v8]/\Sc G p l sc nl nh kn rw' ag rn' xs ns'/\cU [p,l,sc,nh] H G/\G lr=some (.lst (bT rs))/\bY G rs/\rs.length<=i/\jI xs ns ns' kn rw rw' ag rn rn' rs (left - left') m/\left'<=left/\(left'=0\/i+left' + rw'<=left+rw))
  ⟨[],left,rw,rn,ns,_,_,_,rfl,S1,.of s1,g1,trivial,ai _,by rw [Nat.sub_self];exact jI.nil,ai _,.inr (by omega)⟩ ?_ ?_⟩
 ·rintro D' N i hN σ G hi ⟨rs,left',rw',rn',ns',v6,v7,v8,rfl,S2,o2,g2,hr2,hl2,d2,ll,hp⟩;refine ⟨fun b G'=>Sc G' p l sc nl nh kn rw' ag rn' xs ns'/\cU [p,l,sc,nh] G G'/\(b=true->0 < left'\/0 < rw')/\(b=false->left'=0),?_,?_⟩
  ·refine ⟨_,rfl,_,_,rfl,rfl,_,rfl,?_⟩
   by_cases c:(0:Int) < left'
   ·exact bV (ap c) ⟨S2,.refl _,(fun _=> .inl (by omega)),(fun z=>nomatch z)⟩
   ·refine bF (by simpa using c) ⟨fun b G'=>Sc G' p l sc nl nh kn rw' ag rn' xs ns'/\cU [p,l,sc,nh] G G'/\(b=true->0 < rw'),?_,by rintro b G' ⟨h1,h2,h3⟩;exact ⟨h1,h2,(fun z=> .inr (h3 z)),(fun _=>by omega)⟩⟩;refine ⟨_,rfl,sc,_,rfl,S2.g_rows,_,_,rfl,rfl,_,rfl,?_⟩
    by_cases c2:(0:Int) < rw'
    ·exact bV (ap c2) ⟨_,rfl,p,l,3,rfl,S2.pot,by decide,by decide,fun z H3 z0 z1 D3 o3=>⟨_,_,rfl,rfl,_,rfl,S2.out D3 o3,cU.out o3,(fun _=>by omega)⟩⟩
    ·exact bF (by simpa using c2) ⟨S2,.refl _,(fun z=>nomatch z)⟩
  rintro b G' ⟨S3,o3,hb1,hb2⟩;have g3:=S2.keep o3 g2 n1 n2 n4;have hr3:=bY.ts (S2.ts o3) rs hr2
  cases b with
  |false =>
   refine bF (by simp) ?_;exact hN _ _ ⟨rs,left',rw',rn',ns',_,_,_,rfl,S3,o2.trans o3,g3,hr3,by omega,d2,ll,.inl (hb2 rfl)⟩
  |true =>
   refine bV rfl ?_;have hc:=hb1 rfl;refine ⟨_,rfl,_,rfl,_,rfl,_,rfl,_,rfl,p,l,sc,nl,nh,kn,rw',ag,rn',left',deep,xs,ns',rfl,S3,by omega,hd,ha,hc,fun u r told rw2 rn2 ns2 H4 h4 hr4 S4 d4 t4 w4 o4=>?_⟩;refine ⟨u,_,rfl,aT.of h4,rfl,_,_,rfl,_,_,rfl,rfl,?_⟩;have g4:=S3.keep o4 g3 n1 n2 n4;have hrs4:=bY.ts (S3.ts o4) rs hr3;refine ⟨_,rfl,.inl ⟨rfl,_,bM.of g4⟩,_,rfl,lr,_,_,rfl,rfl,g4,by unfold bT;rw [ac];exact aK (by omega),?_⟩;have e5:bT rs++[V.ref r.p]=bT (rs++[r]):=by unfold bT;rw [aq];rfl
   rw [e5];have S5:Sc (aM H4 lr (.lst (bT (rs++[r])))) p l sc nl nh kn rw2 ag rn2 xs ns2:=⟨pQ S4.pot n1 n2,(aG (fW S4.sc g4 (by intro z;cases z))).trans S4.sc,(aG n3.symm).trans S4.nm,(aG n4.symm).trans S4.hn,S4.n1,S4.n2,S4.n3,S4.n4,S4.n5,S4.k1,S4.k3,S4.x3,S4.r1,S4.r2,S4.a1,S4.a2,S4.w1,S4.nd,S4.sb⟩
   have t5:TS H4 (aM H4 lr (.lst (bT (rs++[r])))):=TS.lst g4;have o5:cU [p,l,sc,nh] H (aM H4 lr (.lst (bT (rs++[r])))):=fun b v e n=>by rw [aG (aN e hlr)];exact (o2.trans (o3.trans o4)) b v e n
   refine ⟨_,rfl,_,rfl,_,_,rfl,rfl,?_⟩;refine hN _ _ ⟨rs++[r],left' - told,rw2,rn2,ns2,some (.int (0+i)),some (.ref r.p),some (.int told),by rw [show ((left' - told:Nat):Int)=(left':Int) - told by omega];rfl,S5,o5,aD,bY.app (bY.ts t5 rs hrs4) ⟨pL.ts t5 r hr4,trivial⟩,by rw [be];show rs.length+1<=_;omega,(d2.app d4).less (by omega),by omega,?_⟩;rcases hp with q | q
   ·exact .inl (by omega)
   ·exact .inr (by omega)
 ·rintro σ G ⟨rs,left',rw',rn',ns',v6,v7,v8,rfl,S2,o2,g2,hr2,hl2,d2,ll,hp⟩;have l0:left'=0:=by rcases hp with q | q <;> omega
  subst l0;refine ⟨_,rfl,dH,fun t1 h1=>⟨dH,fun t2 h2=>⟨sV,fun t3 h3=>?_⟩⟩⟩;have s3:=(aC h1 (.tup [.str "num",.int 1])).trans ((aC h2 (.tup [.str "tell",.ref t1])).trans (aC h3 (.lst [.ref t2])));have g3:=s3 _ _ g2;refine ⟨_,rfl,t3,0,_,rfl,rfl,aD,by decide,by decide,by show 1 * 0<=sizeLine;decide,fun t4 h4=>?_⟩;have s4:=s3.trans (aC h4 (.lst (List.replicate (0:Int).toNat [V.ref t2]).flatten));refine ⟨lr,t4,_,_,rfl,rfl,s4 _ _ g2,aD,by unfold bT;rw [ac];show rs.length+0<=_;exact fk (aK (by omega)),fun t5 h5=>?_⟩;have e5:bT rs++(List.replicate (0:Int).toNat [V.ref t2]).flatten=bT rs:=gz _;rw [e5];refine ⟨t5,_,rfl,.inl ⟨bM.of aD,fun t6 h6=>?_⟩⟩;have s6:=s4.trans ((aC h5 (.lst (bT rs))).trans (aC h6 (.tup (bT rs))));exact k t6 rs rw' rn' ns' _ aD hl2 (bY.ts (.of s6) rs hr2) (S2.same s6) d2 (o2.trans (.of s6))
theorem bW0 (C_LNs:Cl P w K mg base 3 spNamesP "_law_names") (C_Draw:Cl P w K mg base 1 spDrawP "_law_draw") (C_LTh:Cl P w K mg base 3 spThrP "_law_throw") (C_LRs:Cl P w K mg base 25 (xE 4) "_law_rows") (m_len:mg "len"=none) (m_tuple:mg "tuple"=none):fC P w K mg base "_law_program" "_law_program" cL3 26 ["_law_pot_here","_law_most","_law_runs","_law_high"] spPrgP:=by
 refine fV ["_law_pot_here","_law_most","_law_runs","_law_high","_law_kinds","_law_scene","_law_names_here","_law_x","_law_ahead"] fun H Q nd hr h=>?_
 obtain ⟨p,l,rfl,D,k⟩:=h;have hu:=jE hr;refine ⟨_,(dB 4 nd (bQ C_LNs hr (aA (pv 0) (aP (aI bE aB (bQ C_Draw hr (aA (pv 0) (aP (pv 1))))))))
  (dB 5 nd (bL4 (iZ aH (sY bW m_len gm (aP (pv 4))) (iZ aH aB (iZ aH aB (iZ aH (pv 2) (iZ aH (pv 3) (iZ aH (bQ C_LNs hr (aA (pv 0) (aP aB))) bP1)))))) rfl rfl (by decide) (by decide))
  (dB 6 nd (cS eI)
  (dB 7 nd (bX cW (sZ hu (pv 5) aH) aB)
  (dB 8 nd (aS eI)
  (aF (kQ (bK (eL iH (bQ C_Draw hr (aA (pv 0) (aP aB))) aB) (dB 8 nd (aS (aP (bQ C_LTh hr (aA (pv 0) (aA (pv 5) (aP (pv 7)))))))
  (aE (cP (fB bg cp cq cE (pv 6) (aP (pv 7)))))) aV))
  (aE (aL (aS (aA (pct bR m_tuple eg (aP (pv 4))) (aP (aI xD (pv 8) (bQ C_LRs hr (aA (pv 0) (aA (pv 5) (aA (pv 6) (aA (aI bE aB (bQ C_Draw hr (aA (pv 0) (aP aB)))) (aP aB)))))))))))))))))),?_⟩
 refine ⟨_,rfl,_,rfl,_,rfl,p,l,3,rfl,D,by decide,by decide,fun z H1 z0 z1 D1 o1=>⟨_,_,rfl,rfl,?_⟩⟩;refine ⟨p,l,1+z,rfl,D1,by omega,by omega,fun lk ks H2 f2 h2 l2 D2 o2 n1 n2=>?_⟩;intro d hd;have fd:H d=none:=oH D1 o1 (oH D2 o2 hd);have s3:=aC hd (.dK []);have g3:aM H2 d (.dK []) d=some (.dK []):=aD;have h3:=s3 _ _ h2;have D3:=D2.same s3;obtain ⟨e1,e2⟩:=eM D2 hd;generalize aM H2 d (.dK [])=H3 at s3 g3 h3 D3 ⊢;refine ⟨_,rfl,lk,_,rfl,.inl (bM.of h3),_,rfl,_,rfl,_,rfl,p,l,3,rfl,D3,by decide,by decide,fun nl xs H4 f4 h4 l4 D4 o4 m1 m2=>?_⟩;refine ⟨o4 _ _ g3 e1 e2,gX ks.length 4 1 30 9 nl,by rw [ac];rfl,by show 6<=15;decide,?_⟩;rw [aS6];have ed:d≠nl:=aN g3 f4;have oA:Out p l H (aM H4 d (.dK (gX ks.length 4 1 30 9 nl))):=Mine.Out.new (o1.trans (o2.trans ((Out.of s3).trans o4))) fd;have D5:iM (aM H4 d (.dK (gX ks.length 4 1 30 9 nl))) p l:=by
  obtain ⟨a,b,c,q⟩:=D4;exact ⟨a,b,c,(aG e1.symm).trans q.pc,(aG e2.symm).trans q.lc,q.ne,q.s0,q.s1,q.n0,q.l0⟩
 have lkd:lk≠d:=aN h2 hd;have h5:aM H4 d (.dK (gX ks.length 4 1 30 9 nl)) lk=some (.lst (ks.map V.str)):=(aG lkd).trans (o4 _ _ h3 n1 n2);have g5:aM H4 d (.dK (gX ks.length 4 1 30 9 nl)) d=some (.dK (gX ks.length 4 1 30 9 nl)):=aD;have h5n:=(aG (o:= .dK (gX ks.length 4 1 30 9 nl)) ed.symm).trans h4;have nlk:lk≠nl:=aN h3 f4;generalize aM H4 d (.dK (gX ks.length 4 1 30 9 nl))=H5 at oA D5 h5 g5 h5n ⊢;clear h2 h3 g3 s3 o1 o2 o4 D1 D2 D3 D4 h4 f4 f2 hd;refine ⟨bj _,fun nh hnh=>?_⟩;obtain ⟨q1,q2⟩:=eM D5 hnh;have fh:H nh=none:=oH D5 oA hnh;have s6:=aC hnh (.lst []);have h6:aM H5 nh (.lst []) nh=some (.lst (([]:List Str).map V.str)):=aD;have lkh:lk≠nh:=aN h5 hnh;have nhl:nh≠nl:=(aN h5n hnh).symm;generalize aM H5 nh (.lst [])=H6 at s6 h6 ⊢;have S6:Sc H6 p l d nl nh ks.length 4 1 30 xs []:=⟨D5.same s6,s6 _ _ g5,s6 _ _ h5n,h6,m1,m2,q1,q2,nhl,by omega,by omega,l4,by decide,by decide,by decide,by decide,by decide,qz,fun _ z=>nomatch z⟩
 have hk6:=s6 _ _ h5;have oB:=oA.trans (Out.of s6);clear oA D5 h5 g5 h5n s6 h6;obtain ⟨x,xr,rfl⟩:∃ x xr,xs=x :: xr:=by
  cases xs with
  |nil=>cases l4
  |cons x xr=>exact ⟨x,xr,rfl⟩
 refine ⟨_,rfl,d,_,rfl,S6.g_names,nl,_,_,.str x,rfl,rfl,bM.of S6.nm,at0 _ _,?_⟩;refine ⟨bj _,fun t0 ht0=>?_⟩;have s7:=aC ht0 (.tup []);have h7:aM H6 t0 (.tup []) t0=some (.tup (bT [])):=aD;generalize aM H6 t0 (.tup [])=H7 at s7 h7 ⊢;have S7:=S6.same s7;refine ⟨fun σ G=>∃ (ta:Addr) (ars:List Rw) (ns1:List Str) (rn1:Nat),σ=[some (.ref p),some (.int 3),some (.int 30),some (.int 9),some (.ref lk),some (.ref d),some (.ref nh),some (.str x),some (.ref ta)]/\G ta=some (.tup (bT ars))/\bY G ars/\Sc G p l d nl nh ks.length 4 1 rn1 (x :: xr) ns1/\cU [p,l,d,nh] H6 G/\jI (x :: xr) [] ns1 ks.length 5 4 1 30 rn1 ars 0 3/\ars.length<=1,?_,?_⟩
 ·refine ⟨_,rfl,p,l,8,rfl,S7.pot,by decide,by decide,fun y H8 y0 y1 D8 o8=>⟨_,_,rfl,rfl,_,rfl,aF3 (fun _=>?_) (fun _=>?_)⟩⟩
  ·have S8:=S7.out D8 o8;refine ⟨_,rfl,_,rfl,_,rfl,p,l,d,nl,nh,ks.length,4,1,30,x :: xr,[],x,rfl,S8,fun pt T a3 wss rn1 H9 h9 ok9 ak9 w9 S9 o9=>⟨sV,fun ta hta=>?_⟩⟩;have s10:=aC hta (.tup [.ref pt]);have h10:aM H9 ta (.tup [.ref pt]) ta=some (.tup (bT [.thr pt x T a3 wss])):=aD;generalize aM H9 ta (.tup [.ref pt])=H10 at s10 h10 ⊢;have S10:=S9.same s10;refine ⟨_,rfl,.inl ⟨rfl,_,bM.of S10.hn⟩,_,rfl,nh,_,_,rfl,rfl,S10.hn,by show 0 < sizeLine;decide,?_⟩;obtain ⟨S11,o11⟩:=S10.names (ns':=[x]) (by simp) (fun y hy=>by rw [List.mem_singleton.mp hy];exact ah);have t11:=S10.ts o11;exact ⟨ta,[.thr pt x T a3 wss],[x],rn1,rfl,t11 _ _ h10,⟨pL.ts ((TS.of s10).trans t11) _ h9,trivial⟩,S11,(cU.of s7).trans ((cU.out o8).trans (o9.trans ((cU.of s10).trans o11))),jI.thr ok9 ak9 ah (fun y hy=>hy) (fun _ z=>nomatch z) (by decide) w9,ai _⟩
  ·exact ⟨t0,[],[],30,rfl,S7.pot.ts o8 _ _ h7,trivial,S7.out D8 o8,(cU.of s7).trans (cU.out o8),jI.nil.more (by decide),bj _⟩
 rintro σ G ⟨ta,ars,ns1,rn1,rfl,h8,hr8,S8,o8,d8,la⟩;have hk8:=S6.keep o8 hk6 n1 n2 lkh;refine ⟨_,rfl,lk,_,rfl,.inl ⟨bM.of hk8,fun kt hkt=>?_⟩⟩;obtain ⟨H9,e0,s9,h9⟩:=lay hkt (.tup (ks.map V.str));rw [e0];clear e0;have S9:=S8.same s9;refine ⟨_,rfl,_,rfl,_,rfl,_,rfl,_,rfl,p,l,3,rfl,S9.pot,by decide,by decide,fun y H10 y0 y1 D10 o10=>⟨_,_,rfl,rfl,?_⟩⟩;have S10:=S9.out D10 o10;obtain ⟨lf,el,lf3⟩:∃ lf:Nat,1+y=(lf:Int)/\lf<=3:=⟨(1+y).toNat,by omega,by omega⟩
 refine ⟨p,l,d,nl,nh,ks.length,4,1,rn1,lf,0,x :: xr,ns1,by rw [<- el];rfl,S10,lf3,by decide,by decide,fun tr rs rw2 rn2 ns2 H11 h11 l11 hr11 S11 d11 o11=>?_⟩;have t11:=(TS.of s9).trans ((S9.pot.ts o10).trans (S10.ts o11));have oC:=o8.trans ((cU.of s9).trans ((cU.out o10).trans o11));have k11:=((S9.pot.ts o10).trans (S10.ts o11)) _ _ h9;refine ⟨ta,tr,_,_,rfl,rfl,t11 _ _ h8,h11,?_,fun pr H12 s12 h12=>⟨dH,fun pg hpg=>?_⟩⟩
 ·unfold bT;rw [ac,ac];exact fk (aK (by omega))
 have e12:bT ars++bT rs=bT (ars++rs):=by unfold bT;rw [aq]
 rw [e12] at h12;have s13:=aC hpg (.tup [.ref kt,.ref pr]);have s12:=s12.trans s13;exact k pg kt pr ks (x :: xr) (ars++rs) _ aD (s12 _ _ k11) (by omega) (by omega) (s13 _ _ h12) (bY.app (bY.ts (t11.trans (.of s12)) _ hr8) (bY.ts (.of s12) _ hr11)) ((d8.app d11).pg (by omega) S11.r1 l4) ((S11.same s12).pot) ((Mine.Out.in oB fd fh oC).trans (.of s12))
theorem bU2  : fC P w K mg base "_law_sums" "_law_sums" cL8 1 ["_law_row_here"] spLSm:=by
 refine fV ["_law_row_here"] fun H Q nd hr h=>?_
 obtain ⟨p,x,T,a3,wss,rfl,h,k⟩:=h;refine ⟨_,(aF (bK (eL cY (bX aJ (pv 0) aB) aH) (aE (aL (bX aJ (pv 0) aB))) aV)
  (aF (bK (eL cY (bX aJ (pv 0) aB) aH) (aE (aL (bX aJ (pv 0) aB))) aV)
  (aE (aL (aS (aP (bX aJ (pv 0) aB))))))),?_⟩
 obtain ⟨hx,hs⟩:=h
 cases T with
 |lad a b lo hi =>
  obtain ⟨st,hr',_⟩:=hx;rcases hs with ⟨_,w,ws,rfl,hw,rfl⟩ | ⟨e,_⟩
  ·refine ⟨_,rfl,p,_,_,.str "ladder",rfl,rfl,aT.of hr',rfl,rfl,_,rfl,bF (by decide +kernel) ?_⟩;refine ⟨_,rfl,p,_,_,.str "ladder",rfl,rfl,aT.of hr',rfl,rfl,_,rfl,bF (by decide +kernel) ?_⟩;refine ⟨_,rfl,p,_,_,.ref w,rfl,rfl,aT.of hr',rfl,sV,fun q hq=>?_⟩;exact k q _ (aC hq _) ⟨_,aD,⟨w,rfl,(aC hq _) _ _ hw⟩,trivial⟩
  ·cases e
 |fla r lo hi =>
  have hr':=hx;rcases hs with ⟨_,w,ws,rfl,hw,rfl⟩ | ⟨e,_⟩
  ·refine ⟨_,rfl,p,_,_,.str "flat",rfl,rfl,aT.of hr',rfl,rfl,_,rfl,bF (by decide +kernel) ?_⟩;refine ⟨_,rfl,p,_,_,.str "flat",rfl,rfl,aT.of hr',rfl,rfl,_,rfl,bF (by decide +kernel) ?_⟩;refine ⟨_,rfl,p,_,_,.ref w,rfl,rfl,aT.of hr',rfl,sV,fun q hq=>?_⟩;exact k q _ (aC hq _) ⟨_,aD,⟨w,rfl,(aC hq _) _ _ hw⟩,trivial⟩
  ·cases e
 |cho a b lo hi =>
  obtain ⟨st,hr',_⟩:=hx;rcases hs with ⟨e,_⟩ | ⟨_,sm,rfl,hs⟩
  ·cases e
  ·refine ⟨_,rfl,p,_,_,.str "choose",rfl,rfl,aT.of hr',rfl,rfl,_,rfl,bF (by decide +kernel) ?_⟩;refine ⟨_,rfl,p,_,_,.str "choose",rfl,rfl,aT.of hr',rfl,rfl,_,rfl,bV (by decide +kernel) ?_⟩;exact ⟨_,rfl,p,_,_,.ref sm,rfl,rfl,aT.of hr',rfl,k sm _ (.refl _) hs⟩
 |fst pa qa pb qb mk lo hi =>
  obtain ⟨sa,sb,sm',e',hr',_⟩:=hx;rcases hs with ⟨e,_⟩ | ⟨_,sm,rfl,hs⟩
  ·cases e
  ·have e':=V.ref.inj e';subst e';refine ⟨_,rfl,p,_,_,.str "first",rfl,rfl,aT.of hr',rfl,rfl,_,rfl,bV (by decide +kernel) ?_⟩;exact ⟨_,rfl,p,_,_,.ref sm,rfl,rfl,aT.of hr',rfl,k sm _ (.refl _) hs⟩
theorem cD3 (n:Nat) (C_LAs:Cl P w K mg base (n+1) (aN3 n) "_law_asked_for") (C_LSm:Cl P w K mg base 1 spLSm "_law_sums") (m_max:mg "max"=none):fC P w K mg base "_law_asked_for" "_law_asked_for" cG6 (n+1+1) ["_law_rows_here","_law_kind"] (aN3 (n+1)):=by
 refine fV ["_law_rows_here","_law_kind","_law_row_here"] fun H Q nd hr h=>?_
 obtain ⟨pr,rs,kd,xs,cs,rfl,hp,hR,hdp,ok,kl,k⟩:=h;have hu:=jE hr;refine ⟨_,(@aF _ _ _ _ _ (xP (lQ (pv 0)) (iF 2 nd)
  (@aF _ _ _ _ _ (bK (eL fN (bX aJ (pv 2) aB) (@aS _ _ _ _ _ (@aA _ _ _ _ _ aH (@aA _ _ _ _ _ aH (@aA _ _ _ _ _ aH (@aA _ _ _ _ _ aH eI rfl) rfl) rfl) rfl))) (aE (bK (eL iH (sY aG8 m_max qc (aP (eV ["_law_weights","_law_kind"] [none,some 1] (lQ (bQ C_LSm hr (aP (pv 2)))) (fun _ _ _ _=>(iF 0)) (fun _ _ _ _=>fM) (fun _ _ _ _=>(bX (aQ4 K) (pv 0) (pv 1)))))) aB) (aE (aL yX)) aV)) aV)
  (@aF _ _ _ _ _ (bK (PW.pt (iO (eL cY (bX aJ (pv 2) aB) aH) (fO (PW.pt (zJ (rG (bQ C_LAs hr (aA (bX aJ (pv 2) aB) (aP (pv 1))))) (rB (rG (bQ C_LAs hr (aA (bX aJ (pv 2) aB) (aP (pv 1))))))))))) (aE (aL yX)) aV)
  (@aE _ _ _ (bK (PW.pt (iO (eL cY (bX aJ (pv 2) aB) aH) (fO (rG (bQ C_LAs hr (aA (bX aJ (pv 2) aB) (aP (pv 1)))))))) (aE (aL yX)) aV)))))
  (@aE _ _ _ (aL yX))),?_⟩
 refine ⟨_,rfl,pr,rfl,⟨_,aT.of hp⟩,xA (K:=K) (a:=pr) (xs:=bT rs) (fun i σ G=>∃ v2:Option V,σ=[some (.ref pr),some (.int kd),v2]/\aU H G/\pU kd (rs.take i)) ⟨_,rfl,.refl _,pU.nil⟩ (by rintro i σ G _ ⟨_,_,s,_⟩;exact aT.of (s _ _ hp)) ?_ ?_⟩
 ·rintro i v σ G hv ⟨v2,rfl,s,hz⟩;unfold bT at hv;rw [cy] at hv;obtain ⟨r,hr',rfl⟩:=gh.mp hv;have mr:=br hr';have hw:=pL.ts (.of s) r (aL5 hR mr);have okr:=aU3 ok mr;have dr:=aL7 mr;have ez:∀ q:pU kd [r],pU kd (rs.take (i+1)):=fun q=>by rw [cH hr'];exact hz.app q
  clear hv hr' mr
  cases r with
  |thr p x T a3 wss =>
   obtain ⟨us,hu⟩:=wM.at hw.1;refine ⟨_,rfl,p,_,_,.str T.wd,rfl,rfl,aT.of hu,at0 _ _,by show 4<=sizeLine;decide,fun t ht=>⟨t,_,rfl,.inr (aT.of aD),rfl,rfl,_,rfl,bV (aX4 T) ?_⟩⟩;have s1:=aC ht (.tup [.str "ladder",.str "flat",.str "choose",.str "first"]);have hw1:=pL.ts (.of s1) _ hw;have hu1:=s1 _ _ hu;have sA:=s.trans s1;generalize aM G t (.tup [.str "ladder",.str "flat",.str "choose",.str "first"])=G1 at s1 hw1 hu1 sA ⊢;refine ⟨_,rfl,p,x,T,a3,wss,rfl,hw1,fun sm G2 s2 hs2=>?_⟩;obtain ⟨vs,hvs,tw⟩:=hs2;have ak:=okr.1.2;have lw:=tw.length;refine ⟨sm,rfl,⟨_,aT.of hvs⟩,nK (K:=K) (a:=sm) (xs:=vs) (fun i ys σ G=>G=G2/\(∃ v,σ=[v,some (.int kd)])/\ys=((wss.take i).map fun ws=>ws.getD kd 0).map V.int)
    (aK (by rw [lw];have:=ak.few.b;omega)) ⟨rfl,⟨_,rfl⟩,rfl⟩ (by rintro i ys σ G ⟨_,_,rfl⟩;rw [ac,ac,dk];omega) (by rintro i ys σ G _ ⟨e,_⟩;rw [e];exact aT.of hvs) ?_ ?_⟩
   ·rintro i v ys σ G hv ⟨rfl,⟨v',rfl⟩,rfl⟩;obtain ⟨ws,hws,q,rfl,hq⟩:=tw.at hv;have wt:=ak.few.w ws (br hws);have gk:ws[kd]?=some (ws.getD kd 0):=by rw [ig,bw (by rw [wt.len];exact kl)];rfl
    refine ⟨_,rfl,_,rfl,q,_,_,.int (ws.getD kd 0),rfl,rfl,aT.of hq,wB (by rw [cy,gk];rfl),rfl,⟨_,rfl⟩,?_⟩;rw [cH hws,aq,aq];rfl
   rintro ys σ G' ⟨rfl,_,rfl⟩ q hq;rw [lw,dy];have s3:=aC hq (.lst ((wss.map fun ws=>ws.getD kd 0).map V.int));refine ⟨q,_,rfl,bM.of aD,?_,fun m hm hmx=>⟨_,_,rfl,rfl,_,rfl,?_⟩⟩
   ·intro z;have:=ak.few.a;have z:=gv List.length z;rw [ac] at z;have z:wss.length=0:=z;omega
   by_cases c:0 < m
   ·refine bV (ap c) ?_;exact k true _ (sA.trans (s2.trans s3)) (fun z=>nomatch z)
   ·refine bF (by simpa using c) ?_;have hu3:=s3 _ _ (s2 _ _ hu1);have zz:∀ ws∈wss,ws.getD kd 0=0:=fun ws hws=>by
     have b:=hmx _ (cm.mpr ⟨ws,hws,rfl⟩);have wt:=ak.few.w ws hws;have gk:ws.getD kd 0∈ws:=by
      rw [ig,bw (by rw [wt.len];exact kl)];exact pd _
     have:=(wt.wt _ gk).1;have b:ws.getD kd 0<=m:=b;omega
    refine ⟨_,rfl,p,_,_,.str T.wd,rfl,rfl,aT.of hu3,at0 _ _,rfl,_,rfl,bF (fun z=>(aJ2 T).1 (ba z)) ?_⟩;refine ⟨_,rfl,p,_,_,.str T.wd,rfl,rfl,aT.of hu3,at0 _ _,rfl,_,rfl,bF (fun z=>(aJ2 T).2 (ba z)) ?_⟩;exact ⟨_,rfl,sA.trans (s2.trans s3),ez (pU.thr zz)⟩
  |lt p x t =>
   refine ⟨_,rfl,p,_,_,.str "let",rfl,rfl,aT.of hw.1,rfl,by show 4<=sizeLine;decide,fun u hu=>⟨u,_,rfl,.inr (aT.of aD),rfl,rfl,_,rfl,bF (by decide +kernel) ?_⟩⟩;have s1:=aC hu (.tup [.str "ladder",.str "flat",.str "choose",.str "first"]);refine ⟨_,rfl,p,_,_,.str "let",rfl,rfl,aT.of (s1 _ _ hw.1),rfl,rfl,_,rfl,bF (by decide +kernel) ?_⟩;refine ⟨_,rfl,p,_,_,.str "let",rfl,rfl,aT.of (s1 _ _ hw.1),rfl,rfl,_,rfl,bF (by decide +kernel) ?_⟩;exact ⟨_,rfl,s.trans s1,ez (fun _ z=>nomatch z)⟩
  |tell p t =>
   refine ⟨_,rfl,p,_,_,.str "tell",rfl,rfl,aT.of hw.1,rfl,by show 4<=sizeLine;decide,fun u hu=>⟨u,_,rfl,.inr (aT.of aD),rfl,rfl,_,rfl,bF (by decide +kernel) ?_⟩⟩;have s1:=aC hu (.tup [.str "ladder",.str "flat",.str "choose",.str "first"]);refine ⟨_,rfl,p,_,_,.str "tell",rfl,rfl,aT.of (s1 _ _ hw.1),rfl,rfl,_,rfl,bF (by decide +kernel) ?_⟩;refine ⟨_,rfl,p,_,_,.str "tell",rfl,rfl,aT.of (s1 _ _ hw.1),rfl,rfl,_,rfl,bF (by decide +kernel) ?_⟩;exact ⟨_,rfl,s.trans s1,ez (fun _ z=>nomatch z)⟩
  |when p pa pb t a b =>
   cases n with
   |zero=>exact absurd dr (by simp only [rD];omega)
   |succ n =>
   have da:gY a<=n/\gY b<=n:=by simp only [rD] at dr;omega
   refine ⟨_,rfl,p,_,_,.str "when",rfl,rfl,aT.of hw.1,rfl,by show 4<=sizeLine;decide,fun u hu=>⟨u,_,rfl,.inr (aT.of aD),rfl,rfl,_,rfl,bF (by decide +kernel) ?_⟩⟩;have s1:=aC hu (.tup [.str "ladder",.str "flat",.str "choose",.str "first"]);have hw1:=pL.ts (.of s1) _ hw;have sA:=s.trans s1;generalize aM G u (.tup [.str "ladder",.str "flat",.str "choose",.str "first"])=G1 at hw1 sA ⊢;obtain ⟨h1,_,h3,h4,h5,h6⟩:=id hw1;refine ⟨_,rfl,p,_,_,.str "when",rfl,rfl,aT.of h1,rfl,rfl,_,rfl,bV (ap rfl) ?_⟩;refine ⟨_,rfl,p,_,_,.ref pa,rfl,rfl,aT.of h1,rfl,_,rfl,pa,a,kd,xs,cs,rfl,h3,h5,da.1,okr.2.1,kl,fun b1 G2 s2 hb1=>⟨_,rfl,?_⟩⟩
   cases b1 with
   |true=>exact bV rfl (k true _ (sA.trans s2) (fun z=>nomatch z))
   |false =>
    refine bF (by simp) ?_;refine ⟨_,rfl,p,_,_,.ref pb,rfl,rfl,aT.of (s2 _ _ h1),rfl,_,rfl,pb,b,kd,xs,cs,rfl,s2 _ _ h4,bY.ts (.of s2) _ h6,da.2,okr.2.2,kl,fun b2 G3 s3 hb2=>⟨_,rfl,?_⟩⟩
    cases b2 with
    |true=>exact bV rfl (k true _ (sA.trans (s2.trans s3)) (fun z=>nomatch z))
    |false =>
     refine bF (by simp) ?_;refine ⟨_,rfl,p,_,_,.str "when",rfl,rfl,aT.of (s3 _ _ (s2 _ _ h1)),rfl,rfl,_,rfl,bF (by decide +kernel) ?_⟩;exact ⟨_,rfl,sA.trans (s2.trans s3),ez (pU.when (hb1 rfl) (hb2 rfl))⟩
  |times p pb m b =>
   cases n with
   |zero=>exact absurd dr (by simp only [rD];omega)
   |succ n =>
   have da:gY b<=n:=by simp only [rD] at dr;omega
   refine ⟨_,rfl,p,_,_,.str "times",rfl,rfl,aT.of hw.1,rfl,by show 4<=sizeLine;decide,fun u hu=>⟨u,_,rfl,.inr (aT.of aD),rfl,rfl,_,rfl,bF (by decide +kernel) ?_⟩⟩;have s1:=aC hu (.tup [.str "ladder",.str "flat",.str "choose",.str "first"]);have hw1:=pL.ts (.of s1) _ hw;have sA:=s.trans s1;generalize aM G u (.tup [.str "ladder",.str "flat",.str "choose",.str "first"])=G1 at hw1 sA ⊢;obtain ⟨h1,h3,h5⟩:=id hw1;refine ⟨_,rfl,p,_,_,.str "times",rfl,rfl,aT.of h1,rfl,rfl,_,rfl,bF (by decide +kernel) ?_⟩;refine ⟨_,rfl,p,_,_,.str "times",rfl,rfl,aT.of h1,rfl,rfl,_,rfl,bV (ap rfl) ?_⟩;refine ⟨_,rfl,p,_,_,.ref pb,rfl,rfl,aT.of h1,rfl,_,rfl,pb,b,kd,xs,cs,rfl,h3,h5,da,okr,kl,fun b1 G2 s2 hb1=>⟨_,rfl,?_⟩⟩
   cases b1 with
   |true=>exact bV rfl (k true _ (sA.trans s2) (fun z=>nomatch z))
   |false=>exact bF (by simp) ⟨_,rfl,sA.trans s2,ez (pU.times (hb1 rfl))⟩
 ·rintro σ G ⟨v2,rfl,s,hz⟩;have e:(bT rs).length=rs.length:=by unfold bT;rw [ac]
  rw [e,dy] at hz;exact k false _ s fun _=>hz
theorem bU4 (C_LPt:Cl P w K mg base 1 (bA3 K) "_law_pot") (C_LPg:Cl P w K mg base 26 spPrgP "_law_program") (C_Crd:Cl P w K mg base 2 spCrowdP "_law_crowd") (C_Told:ClD P w K mg base 10 spTold "told_table" [.int 400]) (C_RnO:ClD P w K mg base 10 spRunsOf "runs_of" [.int 400]) (C_LAs:Cl P w K mg base 5 (aN3 4) "_law_asked_for") (C_Draw:Cl P w K mg base 1 spDrawP "_law_draw") (m_tuple:mg "tuple"=none) (m_range:mg "range"=none) (m_len:mg "len"=none) (m_min:mg "min"=none):fC P w K mg base "law" "law" bE9 27 ["_law_script"] (aK4 K):=by
 refine fV ["_law_script","_law_pot_here","_law_program_here","_law_crowds","_law_crowd_here","_law_found","_law_small","_law_kind"] fun H Q nd hr h=>?_
 obtain ⟨a,ns,rfl,hS,hlen,k⟩:=h;have hr1:dE 1 _:=hr.mono (by decide);have hr2:dE 2 _:=hr.mono (by decide);refine ⟨_,(dB 1 nd (bQ C_LPt hr (aA (pv 0) (aP aB)))
  (dB 2 nd (bQ C_LPg hr (aA (pv 1) (aA aB (aA aB (aP aB)))))
  (aF (xC ["_law_k","_law_pot_here","_law_program_here"] [none,some 1,some 2] (i:=3) nd rfl (mz rfl) (dL (by rfl) m_range (aP aB)) (fun _ _ _ _=>(iF 0)) (fun _ _ _ _=>fM) (fun _ _ _ _=>(bQ C_Crd hr (aA (pv 1) (aP (sY (cO0 K) m_len gm (aP (bX (aQ4 K) (pv 2) aB))))))))
  (aF (xP (lA (aI wZ (pv 3) (nQ aL1 (pv 3) vV (nF aB)))) (iF 4 nd)
  (dB 5 nd (bB7 C_Told hr (aA (pv 2) (aP (pv 4))))
  (dB 6 nd (pct bR m_tuple eg (aP (eV ["_law_count"] [none] (lQ (pv 4)) (fun _ _ _ _=>(iF 0)) (fun _ _ _ _=>fM) (fun _ _ _ _=>(sY (jF rfl) m_min jm (aA (pv 0) (aP aB)))))))
  (aF (bK (PW.pt (zJ (eL (aC9 hr1) (bB7 C_Told hr (aA (pv 2) (aP (pv 6)))) (pv 5)) (rB (eL aS1 (bB7 C_RnO hr (aA (pv 2) (aP (pv 6)))) (bB7 C_RnO hr (aA (pv 2) (aP (pv 4)))))))) oN aV)
  (aF (xP (dL (by rfl) m_range (aP (sY bW m_len gm (aP (pv 4))))) (iF 7 nd)
  (aE (bK (cB2 (rG (bQ C_LAs hr (aA (bX aJ (pv 2) aB) (aP (pv 7)))))) (aE (zO 6 nd (aI xD (aI xD (nQ aL8 (pv 6) vV (nF (pv 7))) (aS (aP (bQ C_Draw hr (aA (pv 1) (aP aB)))))) (nQ aL8 (pv 6) (nF (aI bE (pv 7) aB)) vV)))) aV)))
  (aE (bK (eL (aC9 hr1) (bB7 C_Told hr (aA (pv 2) (aP (pv 6)))) (pv 5)) oN aV)))))))
  (aE (aL yX)))))),?_⟩
 refine ⟨_,rfl,a,ns,rfl,hS,hlen,fun p l H1 D1 s1=>?_⟩;refine ⟨_,rfl,p,l,rfl,D1,fun pg kt pr ks xs rs H2 h1 h2 l1 l3 h3 hr' P D2 o2=>?_⟩;clear o2 D1 s1;refine ⟨3,rfl,by decide,by decide,fL (n:=3) (fun i ys σ G=>iM G p l/\Out p l H2 G/\(∃ v,σ=[v,some (.ref p),some (.ref pg)])/\ys.length=i/\∀ v∈ys,Crd ks.length G v) (aK (by decide)) ⟨D2,.refl _,⟨_,rfl⟩,rfl,(fun _ z=>nomatch z)⟩
  (by rintro i ys σ G ⟨_,_,_,e,_⟩;omega) ?_ ?_⟩
 ·rintro i ys σ G hi ⟨D3,o3,⟨v,rfl⟩,hl,hy⟩;have t3:=D2.ts o3;refine ⟨_,rfl,_,rfl,pg,_,_,.ref kt,rfl,rfl,aT.of (t3 _ _ h1),rfl,kt,_,rfl,.inr (aT.of (t3 _ _ h2)),p,l,_,rfl,D3,by rw [ac];omega,by rw [ac];omega,fun c cs H4 hc lc bc D4 o4=>⟨D4,o3.trans o4,⟨_,rfl⟩,by rw [be,hl];rfl,fun v hv=>?_⟩⟩;rcases bf.mp hv with q | q
  ·exact (hy v q).ts (D3.ts o4)
  ·rw [au.mp q];exact ⟨c,cs,rfl,hc,by rw [lc,ac];rfl,bc⟩
 rintro ys σ G ⟨D3,o3,_,hl,hy⟩ lc hlc;obtain ⟨H4,e0,s4,h4⟩:=lay hlc (.lst ys);rw [e0];clear e0;refine ⟨_,rfl,_,rfl,_,rfl,lc,_,rfl,bM.of h4,fun l1' hl1=>?_⟩;have s5:=s4.trans (aC hl1 (.lst (iT ys none (some 1))));have e5:iT ys none (some 1)=ys.take 1:=aC4 (by decide) (by rw [hl];decide);refine ⟨lc,l1',_,_,rfl,rfl,(aC hl1 _) _ _ h4,aD,by rw [e5,dk,hl];decide,fun lz hlz=>?_⟩;rw [e5] at hlz ⊢;rw [e5] at s5;have s6:=s5.trans (aC hlz (.lst (ys++ys.take 1)));have h6:aM (aM H4 l1' (.lst (ys.take 1))) lz (.lst (ys++ys.take 1)) lz=some (.lst (ys++ys.take 1)):=aD;have D6:=D3.same s6;obtain ⟨n1,n2⟩:=eM (D3.same s5) hlz;have t6:=(D2.ts o3).trans (.of s6);have hz:∀ v∈ys++ys.take 1,Crd ks.length (aM (aM H4 l1' (.lst (ys.take 1))) lz (.lst (ys++ys.take 1))) v:=fun v hv=>by
  have m:v∈ys:=by
   rcases bf.mp hv with q | q
   ·exact q
   ·exact xq q
  exact (hy v m).ts (.of s6)
 generalize aM (aM H4 l1' (.lst (ys.take 1))) lz (.lst (ys++ys.take 1))=H6 at h6 D6 t6 hz ⊢;replace h1:=t6 _ _ h1;replace h3:=t6 _ _ h3;replace hr':=bY.ts t6 _ hr';clear s4 h4 s5 s6 e5 hlz hl1 D3 D2 o3 hy t6 h2;generalize ys++ys.take 1=zs at h6 hz ⊢;refine ⟨lz,rfl,⟨_,bM.of h6⟩,vM (K:=K) (a:=lz) (xs:=zs) (fun i σ G=>∃ v4 v5 v6 v7:Option V,σ=[some (.ref a),some (.ref p),some (.ref pg),some (.ref lc),v4,v5,v6,v7]/\iM G p l/\Out p l H6 G) ⟨_,_,_,_,rfl,D6,.refl _⟩ (by rintro i σ G _ ⟨_,_,_,_,_,_,o⟩;exact bM.of (dR h6 n1 n2 o)) ?_ ?_⟩
 ·rintro D' N i hN v σ G hv ⟨v4,v5,v6,v7,rfl,D7,o7⟩;have t7:=D6.ts o7;obtain ⟨c,cs,rfl,hc,lcs,bcs⟩:=(hz v (br hv)).ts t7;replace h1:=t7 _ _ h1;replace h3:=t7 _ _ h3;replace hr':=bY.ts t7 _ hr';have ok:=P.ok cs lcs;have pkg:∀ {G':Hp}{c':Addr}{cs':List Int},TS G G'->cR G' c' cs'->(cs'.length:Int)=ks.length->zZ xs (cC rs) G' pg c' cs' (mL cs' rs) rs:=fun t hi le=>P.prg (t _ _ h1) (t _ _ h3) (bY.ts t _ hr') hi le
  refine ⟨_,rfl,_,rfl,pg,c,400,xs,cC rs,cs,mL cs rs,rs,rfl,by decide,by decide,pkg (fun _ _ z=>z) hc lcs,fun H8 tf k1 s8 tab1 up1 mem1=>?_⟩;have hc8:=s8 _ _ hc;refine ⟨_,rfl,c,rfl,⟨_,aT.of hc8⟩,nK (K:=K) (a:=c) (xs:=cs.map V.int) (fun i ys σ G=>G=H8/\(∃ v,σ=[v])/\ys=((cs.take i).map fR).map V.int) (aK (by rw [ac];omega)) ⟨rfl,⟨_,rfl⟩,rfl⟩
   (by rintro i ys σ G ⟨_,_,rfl⟩;rw [ac,ac,dk];omega) (by rintro i ys σ G _ ⟨e,_⟩;rw [e];exact aT.of hc8) ?_ ?_⟩
  ·rintro i v ys σ G' hv ⟨rfl,⟨v',rfl⟩,rfl⟩;obtain ⟨x,rfl,hx⟩:=kY hv;refine ⟨_,rfl,_,_,rfl,rfl,⟨_,rfl⟩,?_⟩;rw [cH hx,aq,aq];rfl
  rintro ys σ G' ⟨rfl,_,rfl⟩ q hq;rw [ac,dy];refine ⟨q,_,rfl,.inl ⟨bM.of aD,fun sm hsm=>?_⟩⟩;have s9:=(aC hq (.lst ((cs.map fR).map V.int))).trans (aC hsm (.tup ((cs.map fR).map V.int)));have h9:cR (aM (aM G' q (.lst ((cs.map fR).map V.int))) sm (.tup ((cs.map fR).map V.int))) sm (cs.map fR):=aD;generalize aM (aM G' q (.lst ((cs.map fR).map V.int))) sm (.tup ((cs.map fR).map V.int))=H9 at s9 h9 ⊢;have s79:=s8.trans s9;have eq9:EqN cs (cs.map fR) rs:=bJ2 ok fun x hx=>(bcs x hx).1
  have l9:((cs.map fR).length:Int)=ks.length:=by rw [ac];exact lcs
  refine ⟨_,rfl,_,rfl,pg,sm,400,xs,cC rs,cs.map fR,mL (cs.map fR) rs,rs,rfl,by decide,by decide,pkg (.of s79) h9 l9,fun H10 t2 k2 s10 tab2 up2 mem2=>?_⟩;rw [<- aV3 eq9] at tab2 mem2;have ek:k2=k1:=aA7 up2 up1 fun y=>(mem2 y).trans (mem1 y).symm
  subst ek;have tab1:=tab1.ts (.of (s9.trans s10));refine ⟨_,rfl,_,_,pY tab2,pY tab1,gG _ _,gG _ _,lZ _ _,_,rfl,bF (by show ¬ ((!Spec.same _ _)=true);rw [uP];decide) ?_⟩;have s710:=s79.trans s10;refine ⟨_,rfl,_,rfl,pg,sm,400,xs,cC rs,cs.map fR,mL (cs.map fR) rs,rs,rfl,by decide,by decide,pkg (.of s710) (s10 _ _ h9) l9,fun H11 s11=>?_⟩;have s711:=s710.trans s11;refine ⟨_,rfl,_,rfl,pg,c,400,xs,cC rs,cs,mL cs rs,rs,rfl,by decide,by decide,pkg (.of s711) (s711 _ _ hc) lcs,fun H12 s12=>?_⟩;have s712:=s711.trans s12;refine ⟨rfl,_,rfl,bF (by rw [aV3 eq9];simp) ?_⟩;have tab1:=tab1.ts (.of (s11.trans s12));have h12:cR H12 sm (cs.map fR):=(s10.trans (s11.trans s12)) _ _ h9;have D12:=D7.same s712;have hc12:=s712 _ _ hc;have o12:=o7.trans (Out.of s712);have pkg12:∀ {G':Hp}{c':Addr}{cs':List Int},TS H12 G'->cR G' c' cs'->(cs'.length:Int)=ks.length->zZ xs (cC rs) G' pg c' cs' (mL cs' rs) rs:=fun t=>pkg ((TS.of s712).trans t)
  replace h1:=s712 _ _ h1;replace h3:=s712 _ _ h3;replace hr':=bY.ts (.of s712) _ hr';clear s8 s9 s79 s10 s710 s11 s711 s12 s712 tab2 mem2 up2 hc8 hc h9 pkg hv t7 o7 D7;refine ⟨_,rfl,c,_,rfl,.inr (aT.of hc12),_,rfl,by omega,by rw [ac];omega,lP (n:=((cs.map V.int).length:Int).toNat) (fun i σ G=>∃ (sm:Addr) (cs':List Int) (v7:Option V),σ=[some (.ref a),some (.ref p),some (.ref pg),some (.ref lc),some (.ref c),some (.ref tf),some (.ref sm),v7]/\iM G p l/\Out p l H12 G/\cR G sm cs'/\(cs'.length:Int)=ks.length/\EqN cs cs' rs) ⟨sm,_,_,rfl,D12,.refl _,h12,l9,eq9⟩ ?_ ?_⟩
  ·rintro D2' N2 kd hN2 σ G hkd ⟨sm,cs',v7,rfl,D13,o13,h13,l13,eq13⟩;have t13:=D12.ts o13;have hkd:kd < cs.length:=by rw [ac] at hkd;omega
   have hk':kd < cs'.length:=by omega
   refine ⟨_,rfl,pg,_,_,.ref pr,rfl,rfl,aT.of (t13 _ _ h1),rfl,_,rfl,pr,rs,kd,xs,cs',by rw [nj];rfl,t13 _ _ h3,bY.ts t13 _ hr',P.dep,P.ok cs' l13,hk',fun b H14 s14 hb=>⟨_,rfl,?_⟩⟩
   cases b with
   |true =>
    refine bF (by decide) ?_;exact hN2 _ _ ⟨sm,cs',_,rfl,D13.same s14,o13.trans (.of s14),s14 _ _ h13,l13,eq13⟩
   |false =>
    refine bV rfl ?_;have h14:=s14 _ _ h13;refine ⟨_,rfl,_,rfl,_,rfl,sm,_,rfl,h14,fun r1 G1 g1 h11=>?_⟩;refine ⟨_,rfl,p,l,1000001,rfl,(D13.same s14).same g1,by decide,by decide,fun y G2 y0 y1 D15 o15=>⟨sV,fun r2 hr2=>?_⟩⟩;have t15:=((D13.same s14).same g1).ts o15;obtain ⟨G3,e0,g2,h22⟩:=lay hr2 (.tup [V.int y]);rw [e0];clear e0;have cl:(cs'.map V.int).length=cs'.length:=ac _;refine ⟨r1,r2,_,_,rfl,rfl,g2 _ _ (t15 _ _ h11),h22,fk (aK (by rw [aC4 (by omega) (by rw [cl];omega),dk,cl];show _+1<=1000;omega)),fun r3 G4 g3 h33=>?_⟩;have hsm4:=g3 _ _ (g2 _ _ (t15 _ _ (g1 _ _ h14)));refine ⟨_,rfl,_,rfl,_,_,rfl,rfl,_,rfl,sm,_,rfl,hsm4,fun r4 G5 g4 h44=>?_⟩;have ek:(0+(kd:Int)).toNat=kd:=by omega
    have ek1:(0+(kd:Int)+1).toNat=kd+1:=by omega
    rw [aC4 (by omega) (by rw [cl];omega),ek] at h33;have h44:G5 r4=some (.tup (iT (cs'.map V.int) (some (0+(kd:Int)+1)) none)):=h44;rw [bA2 (by omega) (by rw [cl];omega),ek1] at h44;refine ⟨r3,r4,_,_,rfl,rfl,g4 _ _ h33,h44,fk (aK (by rw [be,dk,jx,cl];show _+1+_<=1000;omega)),fun r5 G6 g5 hm=>?_⟩;have hm6:cR G6 r5 (cs'.take kd++[y]++cs'.drop (kd+1)):=by
     unfold cR;rw [hm,aq,aq,yh,ye];rfl
    have g35:=g2.trans (g3.trans (g4.trans g5));refine hN2 _ _ ⟨r5,_,_,rfl,D15.same g35,o13.trans ((Out.of s14).trans ((Out.of g1).trans (o15.trans (.of g35)))),hm6,?_,eq13.trans (aV1 (P.ok cs' l13) hk' (hb rfl))⟩;rw [be,be,dk,jx,ku];omega
  ·rintro σ G ⟨sm,cs',v7,rfl,D13,o13,h13,l13,eq13⟩;have t13:=D12.ts o13;refine ⟨_,rfl,_,rfl,pg,sm,400,xs,cC rs,cs',mL cs' rs,rs,rfl,by decide,by decide,pkg12 t13 h13 l13,fun H14 t2 k3 s14 tab2 up2 mem2=>?_⟩;rw [<- aV3 eq13] at tab2 mem2;have ek:k3=k2:=aA7 up2 up1 fun y=>(mem2 y).trans (mem1 y).symm
   subst ek;refine ⟨_,rfl,_,_,pY tab2,pY (tab1.ts (t13.trans (.of s14))),gG _ _,gG _ _,lZ _ _,_,rfl,bF (by show ¬ ((!Spec.same _ _)=true);rw [uP];decide) ?_⟩;exact hN _ _ ⟨_,_,_,_,rfl,D13.same s14,o12.trans (o13.trans (.of s14))⟩
 ·rintro σ G ⟨v4,v5,v6,v7,rfl,D7,o7⟩;exact k _
end
theorem all_mk {l:PySem.W.OpenLaw}{w:World}{K:PySem.W.Frag}{h:Heap}{mg:Str->Option Value}{fa:Addr}(X:K.In h) (G:h.Ns mainGlobals mg) (hfa:mg "law"=some (.ref fa))
  {cL iI xcT:Addr}{odT:Option Addr}{itsT:Array Value}{nT:Nat}{slT:Array (Option Value)}{tW:Tok}
  (t1:TopAt K "has_one_sum" cG8)
  (t2:TopAt K "place_of_sums" bE0)
  (t3:TopAt K "sums_of" bQ3)
  (t4:TopAt K "parts_of" cJ1)
  (t5:TopAt K "range_of_sums" cL9)
  (t6:TopAt K "common_divisor" cE9)
  (t7:TopAt K "lowest" cK6)
  (t8:TopAt K "added" cE2)
  (t9:TopAt K "times" aT6)
  (t10:TopAt K "minus" aZ4)
  (t11:TopAt K "divided" bP8)
  (t12:TopAt K "power" cF7)
  (t13:TopAt K "worked_out" sWo)
  (t14:TopAt K "value_of" cH2)
  (t15:TopAt K "come_to" bQ6)
  (t16:TopAt K "merged" bP3)
  (t17:TopAt K "cut" cH3)
  (t18:TopAt K "added_up" sUp)
  (t19:TopAt K "number_of" cE5)
  (t20:TopAt K "share_of" bC3)
  (t21:TopAt K "far_tail" cJ8)
  (t22:TopAt K "tail_of" bS3)
  (t23:TopAt K "ladder_table" cM3)
  (t24:TopAt K "flat_table" aU7)
  (t25:TopAt K "choose_table" cM2)
  (t26:TopAt K "share_from" bR4)
  (t27:TopAt K "first_table" aL4)
  (t28:TopAt K "thrown" cL2)
  (t30:TopAt K "put_ahead" cK2)
  (t31:TopAt K "take_row" bR5)
  (t32:TopAt K "next_throw" cM1)
  (t33:TopAt K "parted" bP7)
  (t34:TopAt K "all_runs" cJ5)
  (t35:TopAtD K "runs_of" cF9 400)
  (t36:TopAtD K "told_table" bP5 400)
  (t37:TopAt K "_law_pot" cF4)
  (t38:TopAt K "_law_draw" bP4)
  (t39:TopAt K "_law_name" cD9)
  (t40:TopAt K "_law_names" cG9)
  (t41:TopAt K "_law_term" cD8)
  (t42:TopAt K "_law_sum" cI3)
  (t43:TopAt K "_law_steep" cM0)
  (t44:TopAt K "_law_again" cG3)
  (t45:TopAt K "_law_few" cL6)
  (t46:TopAt K "_law_bounds" cG0)
  (t47:TopAt K "_law_throw" cE8)
  (t48:TopAt K "_law_inner" cG2)
  (t49:TopAt K "_law_row" cE7)
  (t50:TopAt K "_law_rows" cE6)
  (t51:TopAt K "_law_program" cL3)
  (t52:TopAt K "_law_crowd" cM8)
  (t53:TopAt K "_law_sums" cL8)
  (t54:TopAt K "_law_asked_for" cG6)
  (t55:TopAt K "law" bE9)
  (z_range:PySem.W.nsIn K mainGlobals "range"=some none)
  (z_reversed:PySem.W.nsIn K mainGlobals "reversed"=some none)
  (z_sorted:PySem.W.nsIn K mainGlobals "sorted"=some none)
  (z_tuple:PySem.W.nsIn K mainGlobals "tuple"=some none)
  (z_min:PySem.W.nsIn K mainGlobals "min"=some none)
  (z_max:PySem.W.nsIn K mainGlobals "max"=some none)
  (z_sum:PySem.W.nsIn K mainGlobals "sum"=some none)
  (z_zip:PySem.W.nsIn K mainGlobals "zip"=some none)
  (z_abs:PySem.W.nsIn K mainGlobals "abs"=some none)
  (z_enumerate:PySem.W.nsIn K mainGlobals "enumerate"=some none)
  (z_len:PySem.W.nsIn K mainGlobals "len"=some none)
  (z_dict:PySem.W.nsIn K mainGlobals "dict"=some none)
  (z_list:PySem.W.nsIn K mainGlobals "list"=some none)
  (z_int:PySem.W.nsIn K mainGlobals "int"=some none)
  (qT:PySem.W.nsIn K mainGlobals "THROWS"=some (some (.ref xcT)))
  (uT:K.lookup xcT=some ⟨.type "tuple",odT,.seq itsT nT,slT⟩)
  (vT:bB (aX1.map V.str) itsT.toList)
  (qW:PySem.W.nsIn K mainGlobals "WRAP"=some (some (.int 1000000 tW)))
  (qS:PySem.W.nsIn K mainGlobals "Run"=some (some (.ref cL)))
  (S1:PySem.W.plainGet K cL Str.empty=true)
  (S2:PySem.W.hasDictIn K cL=true)
  (S3:PySem.W.plainOver K cL=true)
  (S4:PySem.W.findIn K (.ref cL) "__setattr__"=some (some (.builtin "object.__setattr__")))
  (S5:PySem.W.findIn K (.ref cL) "coming"=some none)
  (S6:PySem.W.findIn K (.ref cL) "known"=some none)
  (S7:PySem.W.findIn K (.ref cL) "told"=some none)
  (S8:PySem.W.findIn K (.ref cL) "share"=some none)
  (M1:PySem.W.makesIn K cL=true)
  (M2:PySem.W.findIn K (.ref cL) "__init__"=some (some (.ref iI)))
  (M3:PySem.W.isFn K (.ref iI)=true)
  (M4:PySem.W.keepIn K (.ref cL)=true)
  (dI:DefAt K "__init__" "Run.__init__" cL4 iI) :
  ∃ fd:FuncData,(∀ (s:Shared) (v:Value),BindsTo s fd ⟨[v],[]⟩ [("_law_script",v)])/\∀ base:Heap,K.In base->base.Ns mainGlobals mg->jY l.prog w K mg base CX0 27 fa fd ["_law_script"] (aK4 K):=by
 obtain ⟨_,la,oc,od,kV,dc,pm,an,cd,ct,sl,lk,lc,lp⟩:=t55
 cases hfa.symm.trans (PySem.W.mg_of X G la)
 refine ⟨PySem.W.fnOf "law" "law" (cA bE9) (bS bE9) (aZ bE9) .none kV dc pm an cd ct,fun s v=> .of_eq rfl,fun base _ _=>?_⟩;have Z:Zx l.prog w K mg base:= .of X G;have y_range:=Z.no _ z_range;have y_reversed:=Z.no _ z_reversed;have y_sorted:=Z.no _ z_sorted;have y_tuple:=Z.no _ z_tuple;have y_min:=Z.no _ z_min;have y_max:=Z.no _ z_max;have y_sum:=Z.no _ z_sum;have y_zip:=Z.no _ z_zip;have y_abs:=Z.no _ z_abs;have y_enumerate:=Z.no _ z_enumerate;have y_len:=Z.no _ z_len;have y_dict:=Z.no _ z_dict;have y_list:=Z.no _ z_list;have y_int:=Z.no _ z_int;have mT:=Z.ns _ _ qT;have mW:=Z.ns _ _ qW;have zT:itsT.size<=sizeLine:=by
  have e:=vT.length;have e2:itsT.size=4:=by rw [<- fw];simpa [aX1] using e.symm
  rw [e2]
  decide
 have hT:∀ H,aT K H xcT (aX1.map V.str):=fun H=> .inr ⟨_,itsT,nT,uT,rfl,rfl,zT,vT⟩
 have mL:=Z.ns _ _ qS;have T:RnT K cL:=⟨⟨S1,S2,S3,S4⟩,S5,S6,S7,S8⟩
 have M:Mk K cL iI:=⟨M1,M2,M3,M4⟩
 obtain ⟨_,FI⟩:=dI.fn;have GI:=cA1 (P:=l.prog) (w:=w) (mg:=mg) (base:=base) T FI;have bI:=FI.b5 (p1:="self") (p2:="coming") (p3:="known") (p4:="told") (p5:="share") fun _ _ _ _ _ _ _ _ _ _ _=>rfl
 have MK:MkL l.prog w K mg base 1 (aN6 K cL) cL "Run":=⟨_,_,_,M,GI,bI,mL⟩
 have C1:=Z.c1 t1 (cC7);have C2:=Z.c1 t2 (aS3);have C3:=Z.c1 t3 (bK7 C2 C1);have C4:=Z.c1 t4 (cA3);have C5:=Z.c1 t5 (bY2);have C6:=Z.c2 t6 (bX5);have C7:=Z.c2 t7 (bV6 C6);have C8:=Z.c2 t8 (bW2 C7);have C9:=Z.c2 t9 (aW3 C7);have C10:=Z.c2 t10 (bD7 (Cl.imp C7 aS8));have C11:=Z.c2 t11 (bO4 (Cl.imp C7 aS8));have C12:=Z.c2 t12 (bZ0 y_range);have C13:=Z.c3 t13 (cK7 mW);have C14:=Z.c2 t14 (bZ5 C4 C13 y_reversed);have C15:=Z.c1 t15 (bM4 (Cl.imp C8 bV7));have C16:=Z.c1 t16 (bI1 C8 y_sorted y_tuple);have C17:=Z.c3 t17 (bY7 y_min y_max);have C18:=Z.c2 t18 (cF8 y_sum y_zip);have C19:=Z.c2 t19 (bW1 C5 C17 C18 C3 y_tuple);have C20:=Z.c2 t20 (aV4 (Cl.imp C9 sE) C12 y_abs);have C21:=Z.c2 t21 (bT7 (Cl.imp C9 sE) C12);have C22:=Z.c2 t22 (bJ9 C10 C21);have C23:=Z.c4 t23 (bW8 C22 C20 y_tuple y_range);have C24:=Z.c4 t24 (aZ1 (Cl.imp C16 aJ3) C17 y_range);have C25:=Z.c2 t25 (cB0 C15 C12 C11 y_tuple y_enumerate)
 have C26:=Z.c5 t26 (bO0 C22);have C27:=Z.c2 t27 (aR8 C19 C23 (Cl.imp C16 aJ3) C26 (Cl.imp C9 sE) C10 y_enumerate y_len);have C28:=Z.c2 t28 (cA4 C19 C23 C27 C25 C24);have C30:=Z.c2 t30 (bY4 y_reversed);have C31:=Z.c2 t31 (bM2 T C14 C30 y_range);have C32:=Z.c1 t32 (cB8 T mT hT C31);have C33:=Z.c3 t33 (bJ6 T MK C9 y_dict y_list);have C34:=Z.c3 t34 (bV5 T MK C32 C30 C28 C33 y_len y_tuple);have C35:=Z.cd t35 (bU3 C34 y_len);have C36:=Z.cd t36 (bO6 C16 C34);have C37:=Z.c2 t37 (bY5);have C38:=Z.c2 t38 (bJ5 y_len);have C39:=Z.c1 t39 (bW5 C38 y_range);have C40:=Z.c2 t40 (bV1 C39 y_range);have R41:∀ n,Cl l.prog w K mg base (n+1) (aY9 n) "_law_term":=fun n=>by
  induction n with
  |zero=>exact Z.c3 (p1:="_law_pot_here") (p2:="_law_names_here") (p3:="_law_room") t41 okn
  |succ n ih=>exact Z.c3 t41 (bX0 n C38 ih y_len)
 have C41:=R41 12;have C42:=Z.c2 t42 (cC9 C38 y_tuple y_range);have C43:=Z.c2 t43 (cD4 C38 y_range y_max);have C44:=Z.c2 t44 (bZ3 y_range);have C45:=Z.c1 t45 (bS9 C44);have C46:=Z.c3 t46 (bW7 C38 y_min);have C47:=Z.c3 t47 (bU8 C45 C38 C46 C44 C43 C42 y_int y_tuple y_min y_range);have R50:∀ m,Cl l.prog w K mg base (3 * m+13) (xE m) "_law_rows":=fun m=>by
  induction m with
  |zero=>exact Z.c5 (p1:="_law_pot_here") (p2:="_law_scene") (p3:="_law_names_here") (p4:="_law_left") (p5:="_law_deep") t50 okn
  |succ m ih =>
   have I:=Z.c5 t48 (bY6 m ih C38 C41 y_min y_list y_int);have W:=Z.c5 t49 (bU5 m C38 I C47 C41 y_len);exact Z.c5 t50 (cA0 m W C38 y_range y_tuple)
 have C50:=R50 4;have C51:=Z.c4 t51 (bW0 C40 C38 C47 C50 y_len y_tuple);have C52:=Z.c2 t52 (cA9 C38 y_range y_tuple);have C53:=Z.c1 t53 (bU2);have R54:∀ n,Cl l.prog w K mg base (n+1) (aN3 n) "_law_asked_for":=fun n=>by
  induction n with
  |zero=>exact Z.c2 (p1:="_law_rows_here") (p2:="_law_kind") t54 okn
  |succ n ih=>exact Z.c2 t54 (cD3 n ih C53 y_max)
 have C54:=R54 4;exact bU4 C37 C51 C52 C36 C35 C54 C38 y_tuple y_range y_len y_min (aV0 lk lc lp)
theorem walk {l:W.OpenLaw}{q:Program}{loose:List Str}{XP:(Str->Option Value)->Heap->Prop}{YP:World->Heap->Prop}{d:DefRec}{K:Params->W.Frag}(hn:l.most=some 63) (hdf:d.params.defaults=[])
  (hY:∀ (w:World) (h:Heap),YP w h->(K w.params).In h)
  (F:∀ (w:World) (mg:Str->Option Value) (fa:Addr) (h:Heap),(K w.params).In h->h.Ns mainGlobals mg->mg d.name=some (.ref fa) ->
   ∃ fd:FuncData,(∀ (s:Shared) (u:Value),BindsTo s fd ⟨[u],[]⟩ [("_law_script",u)])/\∀ base:Heap,(K w.params).In base->base.Ns mainGlobals mg->jY l.prog w (K w.params) mg base CX0 27 fa fd ["_law_script"] (aK4 (K w.params))) :
  W.WalkO q loose XP YP l.row.toRowW d [] (fun f vs=>PySem.call f vs) :=
 L2.walk_of (n:=63) (k:=27) (x:="_law_script") (CX:=fun _=>CX0) (sp:=fun w=>aK4 (K w.params)) hn (by decide) hdf ⟨rfl,by decide,by decide,rfl⟩ hY F (fun _ _ a ns hl _ hS=>⟨a,ns,rfl,hS,hl,fun _=>rfl⟩) fun _ _ _ _ _ z=>z
end Mine
open PySem PySem.W PyProof.Rows
namespace PySem.W.Fast
def tw10047868508437978457:=0
def tw10100172748309617518:=0
def tw10119935897151866766:=0
def tw10160563210752332591:=0
def tw10235430904587561030:=0
def tw10248250396464904142:=0
def tw10288133328650296501:=0
def tw10388225900639536246:=0
def tw10450002109128531803:=0
def tw1046708804265070988:=0
def tw10535800821325965310:=0
def tw10543437845459329374:=0
def tw10576580496329512188:=0
def tw10662269926151710653:=0
def tw10679638573742929364:=0
def tw10706107891577476409:=0
def tw10736482833330157916:=0
def tw10798588820563156471:=0
def tw10893705927401631958:=0
def tw10984548536917328111:=0
def tw11074466989001008368:=0
def tw11146471833946173497:=0
def tw11317084548024198450:=0
def tw11381557404502178987:=0
def tw11417872302718839959:=0
def tw11460671611589089004:=0
def tw11468186248504571872:=0
def tw11481422480816407670:=0
def tw11498576724082945471:=0
def tw11603570902659636437:=0
def tw11657302707858019418:=0
def tw11694550335692076595:=0
def tw11702416564503810822:=0
def tw11767088362659155230:=0
def tw11783868628224549066:=0
def tw11804353516707177958:=0
def tw11810758580990972023:=0
def tw1181806083517310572:=0
def tw11866004438357923591:=0
def tw11879596371661045854:=0
def tw11888263204199919772:=0
def tw12069264385684307806:=0
def tw12114895165799115816:=0
def tw12175922403830941519:=0
def tw12181908617374156400:=0
def tw12191081311683275200:=0
def tw12291299630363605376:=0
def tw12451724211373227101:=0
def tw12564199763374850890:=0
def tw12727183854471223671:=0
def tw12795137795270233486:=0
def tw12847416412265563603:=0
def tw12851173170366580282:=0
def tw1285483204750398717:=0
def tw12890275520961501935:=0
def tw12903237812263176169:=0
def tw12927012379223483974:=0
def tw12927510846910165694:=0
def tw12981910320641456356:=0
def tw13009189887036744816:=0
def tw13009476019127386070:=0
def tw13124681255969770020:=0
def tw13173369383363693176:=0
def tw13239876294680569637:=0
def tw13274885394068024717:=0
def tw13295246269467281150:=0
def tw13510957055608914113:=0
def tw13523562591883858183:=0
def tw13530412924154019645:=0
def tw13630627705683867934:=0
def tw13637008678835157081:=0
def tw1363898260393072858:=0
def tw13674423557751066667:=0
def tw13679054206935427160:=0
def tw13715299860943595033:=0
def tw1373144259674393236:=0
def tw13764537676767498550:=0
def tw13785982795385774133:=0
def tw13804994608767304465:=0
def tw13810101126262219659:=0
def tw13855386449190173536:=0
def tw13944154755990015965:=0
def tw1396988348914955806:=0
def tw13983955324344871244:=0
def tw14002109622529920866:=0
def tw14030458934275195600:=0
def tw14080050020477400823:=0
def tw14290125464499722667:=0
def tw14326825312956139824:=0
def tw14333699720215819584:=0
def tw14339036033260874133:=0
def tw14525857591419444824:=0
def tw14572976395964718044:=0
def tw14645332254610573299:=0
def tw14695540538429293987:=0
def tw1470544384959682070:=0
def tw14717367939010889497:=0
def tw14733858536212440149:=0
def tw14750847440726384942:=0
def tw14781052172134780534:=0
def tw14801988334471342869:=0
def tw14802161917945341684:=0
def tw1487594343222616608:=0
def tw14971412394266756128:=0
def tw14977347910103580894:=0
def tw14994483129252267009:=0
def tw15072308144153295446:=0
def tw15094602578530299163:=0
def tw15105235461480770198:=0
def tw15171924135858170759:=0
def tw15174666591193830724:=0
def tw1519558483875531671:=0
def tw15206688709305952389:=0
def tw15320819380324180702:=0
def tw15358452167341922733:=0
def tw15453451739969250379:=0
def tw15493470293934356276:=0
def tw1563534294150268425:=0
def tw15644542792746613881:=0
def tw15701327916455688178:=0
def tw15776647440144484024:=0
def tw15778986505083665949:=0
def tw15815162404915242670:=0
def tw15826810674684205247:=0
def tw15877049365283321895:=0
def tw15953670311082060961:=0
def tw15964551290022804846:=0
def tw15977394526520987617:=0
def tw16069332966609288745:=0
def tw16073847241793804707:=0
def tw1611853129970809871:=0
def tw16142334253425506980:=0
def tw16189700169512087411:=0
def tw16191038005001554990:=0
def tw16256845673381311800:=0
def tw16293939963081793660:=0
def tw16306594716292789804:=0
def tw16395991399311279704:=0
def tw16461246303423668627:=0
def tw16553041977485251264:=0
def tw16583901167845774762:=0
def tw16612755320088541665:=0
def tw16625260396327412639:=0
def tw16702643113335335310:=0
def tw16714624238922517123:=0
def tw16818642140809505372:=0
def tw1687189867259355087:=0
def tw16917838555566755182:=0
def tw16963298643988681420:=0
def tw16970255938449081204:=0
def tw16970886152164921788:=0
def tw17000978148003932072:=0
def tw17055464008962163989:=0
def tw17059273690028806499:=0
def tw17142085525068956607:=0
def tw17370878110268943039:=0
def tw173961250083365926:=0
def tw17443133572036479448:=0
def tw17467145046677101464:=0
def tw17498592360952368170:=0
def tw17533599615745262995:=0
def tw1757365524375144797:=0
def tw17634922549187964444:=0
def tw17645093354434925476:=0
def tw17663504536890437093:=0
def tw17673023225237376490:=0
def tw17683805030112096232:=0
def tw17687221361083598246:=0
def tw17699698739951767882:=0
def tw17726824671303375955:=0
def tw1774029527010476723:=0
def tw17756310746264849918:=0
def tw17779239202883311047:=0
def tw17793622642757206705:=0
def tw17836826892660925950:=0
def tw17851944617644829322:=0
def tw17865124070893158868:=0
def tw17932621364050732234:=0
def tw18017253343665518133:=0
def tw18062472872800731819:=0
def tw18131237461242135674:=0
def tw18228317514103415761:=0
def tw18264564336550851828:=0
def tw18281250136472576371:=0
def tw18291219882919879436:=0
def tw1865265007641427589:=0
def tw1911930219694408880:=0
def tw1961163693475617661:=0
def tw1981643244294367519:=0
def tw2012801306228622814:=0
def tw2014833582504540347:=0
def tw2055839387621103882:=0
def tw2120943320361261575:=0
def tw2124591138675352725:=0
def tw213826532195375922:=0
def tw2272980217131152121:=0
def tw2299111683831797686:=0
def tw2362928119460218897:=0
def tw2518282069789267573:=0
def tw252623370827501455:=0
def tw2537242532464665857:=0
def tw2554586475922743806:=0
def tw2587553509732905234:=0
def tw2618179486637452199:=0
def tw2670317600780282257:=0
def tw2691618303420759154:=0
def tw2700026162178356239:=0
def tw2725980395327939591:=0
def tw2738269670753334384:=0
def tw2756424794074560206:=0
def tw2789378948754391292:=0
def tw2790907101076649759:=0
def tw2806124436709545337:=0
def tw2851938023884419290:=0
def tw2953949085626368747:=0
def tw3013060150697398934:=0
def tw3024170620216098024:=0
def tw3047909001357104748:=0
def tw3102523791797929836:=0
def tw3151113870620031166:=0
def tw3206250007617178342:=0
def tw3253344298844049585:=0
def tw331597235430470405:=0
def tw3331319825996569662:=0
def tw3348635314295173378:=0
def tw3428910141869085491:=0
def tw3440520472686878143:=0
def tw3472613022974098586:=0
def tw3480622064798191782:=0
def tw3572617343644996168:=0
def tw358866128629173083:=0
def tw3594641501416141270:=0
def tw3636730030052576268:=0
def tw3671129019336387744:=0
def tw3730765658949570950:=0
def tw3753630363919497845:=0
def tw3771536820612936170:=0
def tw3806325632247533551:=0
def tw384319611566888259:=0
def tw3870299301401401207:=0
def tw3990962382119261677:=0
def tw399501867127023949:=0
def tw4038353001227536803:=0
def tw4103530870934712755:=0
def tw4114981573193356791:=0
def tw4115249992826769263:=0
def tw413600693721025932:=0
def tw4147815332011233941:=0
def tw417546738479462715:=0
def tw4191571363146169608:=0
def tw4209943643100950290:=0
def tw4254407902662152979:=0
def tw4312356689435346608:=0
def tw4351775179442180001:=0
def tw4378506965317909401:=0
def tw4419943168286001683:=0
def tw4428022278344777776:=0
def tw4429159815928953436:=0
def tw4429749984003354013:=0
def tw4458225643121879938:=0
def tw44815451650197049:=0
def tw4559056073678577113:=0
def tw4573891909458987226:=0
def tw4596026612610893274:=0
def tw4741524326199162206:=0
def tw4783666291901197392:=0
def tw4788319735319655239:=0
def tw4876907316623941183:=0
def tw4939839555455121759:=0
def tw4989546090758254821:=0
def tw5032909406351676297:=0
def tw5057125445456084881:=0
def tw5106200189618996428:=0
def tw5139036190234906304:=0
def tw5187671350780434520:=0
def tw5301826707115495747:=0
def tw536599192855642019:=0
def tw5426543858016165638:=0
def tw5440852463238420272:=0
def tw5544737233885975541:=0
def tw5586781455844039554:=0
def tw5604483172186664111:=0
def tw5628862250947258346:=0
def tw5645407559733440483:=0
def tw5734473488591739960:=0
def tw5742560315722085829:=0
def tw575569805752216344:=0
def tw5819278856513209703:=0
def tw5943169327510596788:=0
def tw5950593159580972543:=0
def tw6097516471090251677:=0
def tw6136124202172982500:=0
def tw6136132826377626422:=0
def tw6160310608296944560:=0
def tw6238872842246615463:=0
def tw6254092151722457566:=0
def tw6359891475526384001:=0
def tw6417202038203485799:=0
def tw6418303406497227237:=0
def tw6430279359515797575:=0
def tw6453258564227142390:=0
def tw6505808039321297149:=0
def tw6506584290241150897:=0
def tw6513979442421473574:=0
def tw6522959830893505849:=0
def tw6560521638157442544:=0
def tw6581319291149288363:=0
def tw6693768731346290353:=0
def tw681713569923469523:=0
def tw6835070593633419374:=0
def tw6849618700808906047:=0
def tw6863795525050212690:=0
def tw6882728726512816880:=0
def tw6945520977591728342:=0
def tw6975627281459945052:=0
def tw699891686376934691:=0
def tw7002451960062716258:=0
def tw7005721153806293151:=0
def tw7040496704737185246:=0
def tw7071959158096175103:=0
def tw7087871299496617802:=0
def tw7113771226230445709:=0
def tw7124913628695426427:=0
def tw7174043434864968642:=0
def tw7249094195250654148:=0
def tw7325401692913668339:=0
def tw7402002059773200152:=0
def tw7604956059414799377:=0
def tw7613878822159816933:=0
def tw7615655937756272343:=0
def tw7620117641788916467:=0
def tw7644471484879304984:=0
def tw765021532186319816:=0
def tw7690949408486922059:=0
def tw7703490842237241290:=0
def tw7764070184158847824:=0
def tw7808365284226272181:=0
def tw7824023011633377930:=0
def tw7843672388825344158:=0
def tw7896961469443050655:=0
def tw7899398134212622909:=0
def tw7922091866264727882:=0
def tw8098062760582861002:=0
def tw8187480826204976821:=0
def tw8192246375488670794:=0
def tw821032521002642199:=0
def tw8263950331011742078:=0
def tw828925266447749442:=0
def tw8293393437023357603:=0
def tw8310348966089481354:=0
def tw8320165926099219806:=0
def tw8576106575530923387:=0
def tw8632916259777855299:=0
def tw867261897412667946:=0
def tw8688269900290948661:=0
def tw8708990598171203631:=0
def tw8722389887240846692:=0
def tw8744287196187378878:=0
def tw8752232067960271253:=0
def tw8792282080134903947:=0
def tw8897777029711067058:=0
def tw8968276456935470049:=0
def tw8983843736627998105:=0
def tw9010065197599874039:=0
def tw9053232794242561990:=0
def tw9060273807492617513:=0
def tw9095930783132986654:=0
def tw9160578600093859361:=0
def tw9161774476663875939:=0
def tw921083473120107921:=0
def tw9394240781209317182:=0
def tw9412023168207342729:=0
def tw946268959138805751:=0
def tw9536118122571686787:=0
def tw9572937027265091183:=0
def tw9586791069380023291:=0
def tw9602844523930827012:=0
def tw9625532004681649644:=0
def tw962934552473583573:=0
def tw9673547043308180280:=0
def tw9766019063518979404:=0
def tw9805743402676176649:=0
def tw9834977190867732981:=0
def tw9965261486161816275:=0
end PySem.W.Fast
set_option maxRecDepth 100000 in
set_option maxHeartbeats 0 in
theorem PySem.Challenge.cw_pairedthrows_k27_whole_great_crowds_like_holds : PySem.Challenge.rw_pairedthrows_k27_whole_great_crowds_like.Holds := by
  w_on;o_law;k_head;(case hw=>w_witness2)
  k_fill
  refine Mine.walk (l:=PySem.Challenge.rw_pairedthrows_k27_whole_great_crowds_like) rfl rfl (fun w h Y=>PySem.W.kIn_of Y) ?F
  case F =>
    intro w mg fa h KX G hmg
    refine' Mine.all_mk KX G hmg ?a0 ?a1 ?a2 ?a3 ?a4 ?a5 ?a6 ?a7 ?a8 ?a9 ?a10 ?a11 ?a12 ?a13 ?a14 ?a15 ?a16 ?a17 ?a18 ?a19 ?a20 ?a21 ?a22 ?a23 ?a24 ?a25 ?a26 ?a27 ?a28 ?a29 ?a30 ?a31 ?a32 ?a33 ?a34 ?a35 ?a36 ?a37 ?a38 ?a39 ?a40 ?a41 ?a42 ?a43 ?a44 ?a45 ?a46 ?a47 ?a48 ?a49 ?a50 ?a51 ?a52 ?a53 ?a54 ?a55 ?a56 ?a57 ?a58 ?a59 ?a60 ?a61 ?a62 ?a63 ?a64 ?a65 ?a66 ?a67 ?a68 ?a69 ?a70 ?a71 ?a72 ?a73 ?a74 ?a75 ?a76 ?a77 ?a78 ?a79 ?a80 ?a81 ?a82 ?a83 ?a84 ?a85
    case a54|a55|a56|a57|a58|a59|a60|a61|a62|a63|a64|a65|a66|a67|a68|a69=>k_is
    case a70=>exact .cons ⟨_,rfl⟩ (.cons ⟨_,rfl⟩ (.cons ⟨_,rfl⟩ (.cons ⟨_,rfl⟩ .nil)))
    case a71|a72|a73|a74|a75|a76|a77|a78|a79|a80|a81|a82|a83|a84=>k_is
    case a85=>apply L2.DefAt.of<;>k_is
    case a0|a1|a2|a3|a4|a5|a6|a7|a8|a9|a10|a11|a12|a13|a14|a15|a16|a17|a18|a19|a20|a21|a22|a23|a24|a25|a26|a27|a28|a29|a30|a31|a32=>apply L2.TopAt.of<;>k_is
    case a33|a34=>apply L2.TopAtD.of<;>k_is
    case a35|a36|a37|a38|a39|a40|a41|a42|a43|a44|a45|a46|a47|a48|a49|a50|a51|a52|a53=>apply L2.TopAt.of<;>k_is
