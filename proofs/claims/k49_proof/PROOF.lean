import PyProof.Rows.All
import Wide.All
import OpenK.AllK
import Wide.FinOn
import Lean
import PyProof.EqAt
import PyProof.EqKinds
import PyProof.TupleCall
import KE.KDictOf
import PyProof.AttrMissHeap
import KE.KSortTup
import PyProof.Rows.InDataRows
import PyProof.AutoListH
import KE.KRevSl
import PyProof.Rows.SetFrom
import PyProof.Rows.SortStr
import KE.KDictLaws
import KE.KItemsList
import PyProof.DictWalks
import PyProof.DictItems
import KE.KDictList
import KE.KPairComp
import KE.KLam
import KE.KNestM
import PyProof.ExcClass3
import PyProof.StationsW
import PyProof.RulesTry
import PyProof.Rows.CatchOwn
import OpenK.KCall
import OpenK.KRaise
import PyProof.InstSpecial
import PySem.Challenge.RW_pairedthrows_k49_trimmed
set_option Elab.async false
set_option linter.all false
set_option maxRecDepth 100000
local macro_rules|`(tactic|decide)=>`(tactic|decide +kernel)
local macro_rules|`(def $i:declId $s:optDeclSig $v:declVal)=>`(noncomputable def $i:declId $s:optDeclSig $v:declVal)
set_option compiler.extract_closed false
noncomputable section
open List renaming length_map->aa,getElem?_eq_getElem->aj,mem_cons_of_mem->ak,mem_cons_self->ao,length_append->ap,getElem?_eq_some_iff->aq,mem_singleton->au,not_mem_nil->bc,mem_append_right->be,mem_of_getElem?->bj,map_append->bo,size_toArray->bq,mem_append->bu,mem_cons->bw,length_cons->bx,mem_append_left->cg,take_length->cq,getElem?_map->di,length_take->dj,filter_cons_of_pos->dk,filter_cons_of_neg->dm,reverse_cons->dr,nodup_cons->du,append_nil->dw,map_cons->ef,length_singleton->ej,length_reverse->fh,mem_map->fi,mem_filter->fj,getD_eq_getElem?_getD->ge,append_assoc->gj,filterMap_append->gv,dropLast_concat->gy,flatMap_append->ig,filter_append->im,mem_flatMap->io,foldl_cons->iy,length_filter_le->ja,length_eq_zero_iff->je,nodup_append->jf,mem_map_of_mem->jh,length_nil->jn,take_append_drop->ke,flatMap_cons->kh,mem_of_mem_take->km,filterMap_cons_none->kx,sum_cons->lm,map_map->mq,getElem_mem->mx,any_eq_true->my,getElem?_append_right->mz,any_cons->na,of_mem_zip->nj,getElem?_append_left->nq,length_filterMap_le->om,mem_range->oq,nodup_nil->ot,foldl_append->oy,find?_isSome->oz,all_eq_true->pz,countP_cons->qd,getElem?_eq_none->qg,eq_nil_of_length_eq_zero->rc,filterMap_cons->re,getElem_of_mem->rg,reverse_append->rj,mem_filterMap->sh,length_range->su,drop_eq_getElem_cons->sw,cons_append->sy,map_nil->tj,length_drop->ub,append_cancel_right->ui,map_reverse->uj,append_cancel_left->uw,range_succ->uy,getElem?_set_self->va,filter_eq_nil_iff->vi,getElem?_reverse->vo,take_succ->vp,eq_nil_or_concat->vq,concat_eq_append->vt,getElem?_set_ne->vv,length_dropLast->wc,mem_iff_getElem->wg,replicate_succ'->wo,map_take->wv,pairwise_cons->xq,zip_cons_cons->xx,append_inj'->yu,flatMap_nil->yv
open PySem.Heap renaming get?_push_of_some->ac,lt_size->ax,get?_push_size->bz,get?_update_other->ip,get?_update_self->iz,size_push->ju
open Nat renaming le_refl->af,zero_le->az,le_trans->cj,ne_of_lt->cp,le_of_lt->cu,lt_of_le_of_lt->cx,lt_of_lt_of_le->cy,ne_of_gt->dv,lt_irrefl->gx,lt_succ_self->ia,le_succ->iq,sub_lt_sub_left->iw,le_add_right->jb,mul_le_mul_right->jd,not_lt->ki,lt_succ_of_lt->md,succ_mul->oo,le_succ_of_le->pc,zero_add->qy,gcd_pos_of_pos_right->ug,min_eq_left->ux,pow_le_pow_right->wj,le_of_eq->xk,gcd_comm->xt,gcd_dvd_right->yj,log2_lt->ym
open PySem renaming wpAny_bind->ag,wpAny_pure->bv,wpAny_mono->fg,boot_len->fk,wpAny_truthy_bool->gh,wpAny_Call_Name_kw->gm,mem_of_lookup->ib,wpAny_newObj_type->iu,wpAny_field->jc,wpAny_holding->jr,wpAny_callSpecial?_slot->js,wpAny_passesOwn->jx,codeAny_builtin->jz,wpAny_pyIter_list->kg,codeAny_mono->kq,wpAny_call_entry->ku,wpAny_getItem_str_slice->lh,tupleKind_room_in1->lq,builtinLookup_eq_fast->mh,wpAny_seqItems->mi,strLen_append->ni,wpAny_specialOf->nr,wpAny_updateSeq->nt,slot_listiter_next->oi,sizeLine_eq->pf,plainId_quiet->pi,noFill_tuple_add->pw,wpAny_execs_nil->ql,typeLookup_type->qt,post_val_or_str->qv,wpAny_newFunctionEnv_cells->sj,seq_tuple_add->sk,concat_meets->ua,wpAny_comprehension_free->uc,wpAny_getItem_list_neg->vf,wpAny_isTrue_Compare1->vk,codeAny_call_function->vm,isSubtype_type->vn,wpAny_loadName_local->vw,wpAny_call->vy,wpAny_newFunctionEnv->we,wpAny_pyIter_revIter->wm,wpAny_standAt->wp,wpAny_loadName_cell->ww,entry_listiter_next->wx,wpAny_pyIter_tuple->xc,call_meetsIn->xf,wpAny_typeOf->xg,seqIndex_neg->xh,call_reversed_list->xj,args_listiter_next->xn,wpAny_assign_Name->ya,wpAny_Call_method->ye,wpAny_pyIter_enum->yi,seqIndex_of->yk,wpAny_execs_cons->yn,wpAny_Dict_empty->yo,wpAny_isInstance->yq,wpAny_Name->yw,wpAny_rule->yy,typeIs_str->za,call_meets->zb
open PySem.F renaming plainAttrs_list->av,slot_list_append->de,type_list_append->dh,slot_list_extend->eu,type_list_extend->fc,slot_list_pop->fq,type_list_pop->fw,plain_extend_loop->kj,args_tuple_add_2->kr,entry_tuple_add->lg,slot_tuple_add->ly,slot_zip_next->mn,slot_dict_get->qf,slot_dict_setdefault->se,entry_extend_loop->sv,args_dict_get_3->uk,plainAttrs_dict->um,plain_list_iadd->uq,args_zip_next_1->uv,entry_dict_get->vd,entry_zip_next->vh,args_list_init_2->xi,typeCall_list_1->yg,entry_list_init->yh
open Bool renaming false_ne_true->bt,eq_iff_iff->jy,and_eq_true->mw,true_and->pj,false_or->wq
open Option.some renaming inj->dt
open Int renaming eq_ofNat_of_zero_le->dy,toNat_natCast->dz,mul_nonneg->ff,toNat_of_nonneg->ie,pow_nonneg->ir,mul_one->jj,emod_nonneg->jp,mul_pos->jv,emod_lt_of_pos->jw,le_refl->ko,pow_succ->mj,fdiv_eq_ediv_of_nonneg->nh,zero_add->oj,pow_zero->qw,natCast_mul->qx,mul_le_mul_of_nonneg_left->qz,ediv_mul_cancel->rh,le_of_lt->ud,lt_trans->uh,mul_ediv_mul_of_pos->ut,natCast_dvd_natCast->uu,natCast_add->uz,pow_pos->vg,one_mul->vj,natAbs_of_nonneg->wf,mul_comm->xr,le_trans->xy,zero_mul->xz,ediv_le_self->yt
open PyProof.Rows renaming boot_tuple->eh,callWith_type1->fm,intBits_le->ou,boot_list->ph,boot_max->qh,boot_int->qj,slot_tuple_getitem->qk,assignInOrder_cons->sf,boot_reversed->sq,subscriptTail_builtinR->ve,floordiv_int->xm,assignInOrder_nil->yb,Subscript_->yz
open PySem.Paired renaming length->ii
open PySem.W renaming kia_one->ij,cellsFrom_some->vb,kitx_list->yc,kitx_dict->yd
open PySem.Calls renaming spliced_cons->ik,spliced_nil->jq,callWith_builtin->lv,evalArgs_plain->qo,Name_function_global->si
open PySem.PassesOwn renaming never->jg
open Or renaming inl->ji,inr->ng
open True renaming intro->jm
open PySem.Around renaming under_plainId->jo,frames_deeper->vz
open Array renaming length_toList->jt,getElem?_toList->mf,getElem?_eq_getElem->nu,toArray_toList->qu,toList_inj->ue,append_empty->xw
open Option renaming isSome_map->ma,isSome_iff_exists->ny,bind_some->qc,map_some->qm,map_eq_some_iff->vc
open Classical renaming byContradiction->nv
open PyProof renaming noPylong_of_log2->oe
open PySem.Txt renaming slice_le->oh
open PyProof.Rows.F renaming plain_set_update_loop->ow,entry_set_update_loop->uo
open Sum.inr renaming inj->pd
open PySem.SeqAt.EqAt renaming same->qp,int_str->xa,str_int->xb,of_refs->xu
open PySem.SeqAt.RcAt renaming tuples->sr
open Prod renaming ext->wb
open PySem.Walks renaming listRev->wu,list->zc
open PySem.Heap.SameBut renaming update->wy
open PySem.Obj renaming data_mapFields->xo
open List.Pairwise renaming nil->yf
open PySem.IntMulOk renaming of_bits->yr
namespace L2
theorem Rq0(_:True:=by rfl):True:=trivial
theorem Rq1(_:True:=by decide):True:=trivial
theorem Rq2(_:True:=by first|exact .inl rfl|exact .inr rfl|assumption):True:=trivial
theorem Rq3(_:True:=by intros;rfl):True:=trivial
theorem Rq4(_:True:=by intro _;rfl):True:=trivial
theorem Rq5(_:True:=by first|exact ji rfl|exact ng rfl):True:=trivial
theorem Rq6(_:True:=by first|exact ji rfl|exact ng (ji rfl)|exact ng (ng rfl)):True:=trivial
theorem Rq7(_:True:=by refine⟨rfl,rfl,rfl,?_,rfl,?_,?_⟩<;>decide):True:=trivial
theorem Rq8(_:True:=by first|decide|lia):True:=trivial
theorem Rq9(_:True:=by first|exact pF _|rfl):True:=trivial
theorem Rq10(_:True:=by first|exact yQ _ (by decide) (by decide)|rfl):True:=trivial
theorem Rq11(_:True:=by exact fun _ _=>rfl):True:=trivial
theorem Rq12(_:True:=by with_unfolding_all rfl):True:=trivial
end L2
namespace L2
open PySem PySem.Spec PyProof.Rows
def ae:=@of_decide_eq_true
def ai:=@decide_eq_true
def ay:=@if_neg
def br:=@if_pos
def db:=@decide_eq_false
def eo:=@congrArg
def gi:=@decide_eq_true_eq
def kz:=@beq_eq_false_iff_ne
def xp:=@of_decide_eq_false
end L2
namespace L2
open PySem PySem.Spec PyProof.Rows
abbrev Key:=Sum Int Str
def jX:Key->Value->Bool
 |.inl k,v=>Value.isInt k v
 |.inr x,v=>Value.isStrOf x v
def cR9(w:World):Key->Int
 |.inl k=>hashInt k
 |.inr x=>hashStr w x
theorem cM:∀{k:Key}{v:Value},jX k v=true->(∃i t,k=Sum.inl i/\v=Value.int i t)\/(∃x t,k=Sum.inr x/\v=Value.str x t)
 |.inl i,v,h=>by
  obtain⟨t,e⟩:=Value.isInt_shape (k:=i) (v:=v) h
  exact .inl ⟨i,t,rfl,e⟩
 |.inr x,v,h=>by
  obtain⟨t,e⟩:=Value.isStrOf_shape (x:=x) (v:=v) h
  exact .inr ⟨x,t,rfl,e⟩
theorem lJ(i:Int)(t:Tok):jX (.inl i) (.int i t)=true:=by simp[jX,Value.isInt]
theorem lG(x:Str)(t:Tok):jX (.inr x) (.str x t)=true:=by simp[jX,Value.isStrOf]
theorem bY2(a b:Int):decide ((Sum.inl a:Key)=Sum.inl b)=(a==b):=by
 by_cases e:a=b
 ·subst e;simp
 ·have h:¬(Sum.inl a:Key)=Sum.inl b:=fun q=>e (Sum.inl.inj q)
  rw[db h]
  exact(kz.mpr e).symm
theorem cB5(a b:Str):decide ((Sum.inr a:Key)=Sum.inr b)=decide (a=b):=by
 by_cases e:a=b
 ·subst e;simp
 ·have h:¬(Sum.inr a:Key)=Sum.inr b:=fun q=>e (pd q)
  rw[db h,db e]
theorem cE9(a:Int)(b:Str):decide ((Sum.inl a:Key)=Sum.inr b)=false:=db (fun q=>nomatch q)
theorem bV7(a:Str)(b:Int):decide ((Sum.inr a:Key)=Sum.inl b)=false:=db (fun q=>nomatch q)
def bK(prog:Program)(w:World):PySem.KeyKind prog w Key where
 is:=jX
 hash:=cR9 w
 inj:=fun v a b ha hb=>by
  rcases cM ha with⟨i,t,rfl,rfl⟩|⟨x,t,rfl,rfl⟩
  ·rcases cM hb with⟨j,u,rfl,e⟩|⟨y,u,rfl,e⟩
   ·injection e with e1 _;rw[e1]
   ·exact nomatch e
  ·rcases cM hb with⟨j,u,rfl,e⟩|⟨y,u,rfl,e⟩
   ·exact nomatch e
   ·injection e with e1 _;rw[e1]
 byValue:=fun k v h=>by
  rcases cM h with⟨i,t,rfl,rfl⟩|⟨x,t,rfl,rfl⟩<;>rfl
 pyHash:=fun hv h=>by
  rcases cM hv with⟨i,t,rfl,rfl⟩|⟨x,t,rfl,rfl⟩
  ·exact wpAny_pyHash_int h
  ·exact wpAny_pyHash_str h
 eqBool:=fun hu hv h=>by
  rcases cM hu with⟨i,t,rfl,rfl⟩|⟨x,t,rfl,rfl⟩
  ·rcases cM hv with⟨j,u,rfl,rfl⟩|⟨y,u,rfl,rfl⟩
   ·rw[bY2] at h;exact wpAny_eqBool_int h
   ·rw[cE9] at h;exact xa i t y u _ _ _ _ h
  ·rcases cM hv with⟨j,u,rfl,rfl⟩|⟨y,u,rfl,rfl⟩
   ·rw[bV7] at h;exact xb x t j u _ _ _ _ h
   ·rw[cB5] at h;exact wpAny_eqBool_str h
 «strs» :=fun k x t v h=>by
  rcases cM h with⟨i,u,rfl,e⟩|⟨y,u,rfl,e⟩
  ·exact nomatch e
  ·injection e with e1 _
   subst e1
   cases v<;>rfl
theorem xL(prog:Program)(w:World)(i:Int)(t:Tok):(bK prog w).is (.inl i) (.int i t)=true:=lJ i t
theorem xJ(prog:Program)(w:World)(x:Str)(t:Tok):(bK prog w).is (.inr x) (.str x t)=true:=lG x t
inductive V where
 |non|bl (b:Bool)|int (i:Int)|str (x:Str)|byt (b:Array UInt8)|flt (b:UInt64)|ref (a:Addr)|ty (n:String)
 deriving DecidableEq
def bF:V->Value->Prop
 |.non,u=>u=Value.none
 |.bl b,u=>u=Value.bool b
 |.int i,u=>∃t,u=Value.int i t
 |.str x,u=>∃t,u=Value.str x t
 |.byt b,u=>∃t,u=Value.bytes b t
 |.flt b,u=>∃t,u=Value.float b t
 |.ref a,u=>u=Value.ref a
 |.ty n,u=>u=Value.type n
abbrev bH:List V->List Value->Prop:=Paired bF
theorem bH.length{xs:List V}{us:List Value}(r:bH xs us):xs.length=us.length:=ii r
theorem bH.get:∀{xs:List V}{us:List Value}{i:Nat}{x:V},bH xs us->xs[i]?=some x->∃u,us[i]?=some u/\bF x u
 |_,_,_,_,.nil,e=>by simp at e
 |_,_,0,_,.cons r _,e=>by simp at e;subst e;exact⟨_,rfl,r⟩
 |_,_,i+1,x,.cons _ t,e=>by
  obtain⟨u,h1,h2⟩:=bH.get (i:=i) (x:=x) t (by simpa using e)
  exact⟨u,by simpa using h1,h2⟩
theorem bH.set{x:V}{u:Value}(r:bF x u):∀{xs:List V}{us:List Value}(i:Nat),bH xs us->bH (xs.set i x) (us.set i u)
 |_,_,_,.nil=> .nil
 |_,_,0,.cons _ t=> .cons r t
 |_,_,i+1,.cons q t=> .cons q (bH.set r i t)
theorem bH.append:∀{xs ys:List V}{us ws:List Value},bH xs us->bH ys ws->bH (xs++ys) (us++ws)
 |_,_,_,_,.nil,s=>s
 |_,_,_,_,.cons r t,s=> .cons r (bH.append t s)
theorem bH.take:∀{xs:List V}{us:List Value}(n:Nat),bH xs us->bH (xs.take n) (us.take n)
 |_,_,0,_=> .nil
 |_,_,_+1,.nil=> .nil
 |_,_,n+1,.cons r t=> .cons r (bH.take n t)
theorem bH.drop:∀{xs:List V}{us:List Value}(n:Nat),bH xs us->bH (xs.drop n) (us.drop n)
 |_,_,0,r=>r
 |_,_,_+1,.nil=> .nil
 |_,_,n+1,.cons _ t=>bH.drop n t
def kD:Option V->Option Value->Prop
 |some v,some u=>bF v u
 |none,none=>True
 |_,_=>False
def KV{κ:Type}:List (κ×V)->List (κ×Value)->Prop:=Paired fun(p:κ×V) (q:κ×Value)=>p.1=q.1/\bF p.2 q.2
def kV:Key->V
 |.inl i=> .int i
 |.inr x=> .str x
inductive HO where
 |lst (xs:List V)
 |tup (xs:List V)
 |dK (kvs:List (Key×V))|dT (kvs:List (List Key×V))
 |set (S:Int->Bool) (n:Nat)
 |ins (C dx:Addr) (fs:List (Str×V))
 |own (x:Addr)
 |xd (fs:List (Str×V))
 |met (f x:Addr)
 |rng (lo hi:Int)
 |frz (o:Obj) (u:HO)
 |tbl (ps:Array Value)
 |ext (φ:Heap->Prop)
abbrev Hp:=Addr->Option HO
def aL(H:Hp)(a:Addr)(o:HO):Hp:=fun b=>if b=a then some o else H b
theorem aB{H:Hp}{a:Addr}{o:HO}:aL H a o a=some o:=by unfold aL;rw[br rfl]
theorem aG{H:Hp}{a b:Addr}{o:HO}(h:b≠a):aL H a o b=H b:=by unfold aL;rw[ay h]
theorem bH6{H:Hp}{a:Addr}{o u:HO}:aL (aL H a o) a u=aL H a u:=by
 funext b;unfold aL;split<;>rfl
theorem fQ{H:Hp}{a b:Addr}{o u:HO}(h:H a=some o)(h':H b=some u)(d:o≠u):a≠b:=by
 intro e;subst e;rw[h] at h';exact d (dt h')
theorem aJ{H:Hp}{a b:Addr}{o:HO}(h:H a=some o)(h':H b=none):a≠b:=by
 intro e;subst e;rw[h] at h';cases h'
def kL(h:Heap)(a:Addr)(its:Array Value):Prop:=∃o,h.get? a=some o/\o.cls= .type "tuple"/\∃n,o.data= .seq its n/\o.dict=none
theorem kL.is{h:Heap}{a:Addr}{its:Array Value}(x:kL h a its):IsTup h a its:=by obtain⟨o,e,c,n,d,_⟩:=x;exact⟨o,e,c,n,d⟩
theorem kL.new(h:Heap)(its:Array Value):kL (h.push { cls:= .type "tuple",data:= .seq its }) h.objs.size its:=⟨_,bz _ rfl,rfl,_,rfl,rfl⟩
section
variable (P:Program) (w:World)
def cR(H:Hp)(h:Heap)(a:Addr):HO->Prop
 |.lst xs=>xs.length<=sizeLine/\∃(its:List Value) (n:Nat),bH xs its/\h.get? a=some { cls:= .type "list",data:= .seq its.toArray n }
 |.tup xs=>xs.length<=sizeLine/\∃its:List Value,bH xs its/\kL h a its.toArray
 |.dK kvs=>kvs.length<=sizeLine/\(a==sysModules)=false/\∃vs,KV kvs vs/\h.DictOf (bK P w) a vs
 |.dT kvs=>kvs.length<=sizeLine/\(a==sysModules)=false/\∃xs:List (List Key×Addr×Value),
   Paired (fun(p:List Key×V) (q:List Key×Addr×Value)=>p.1=q.1/\H q.2.1=some (.tup (p.1.map kV))/\bF p.2 q.2.2) kvs xs /\
   ∃o es ep,h.get? a=some o/\o.ExactDict/\o.data= .dict es ep/\es.toList=xs.map (entryOfKey (tupleKind (bK P w)))/\(xs.map (·.1)).Nodup
 |.set S n=>h.SetOf (intKind P w) a S n
 |.ins C dx fs=>H dx=some (.own a)/\fs.length<=1000/\dx≠a/\h.get? a=some (PySem.W.instObj C dx) /\
   ∃mA,h.Ns1 dx mA/\(∀f,kD (fs.lookup f) (mA f))/\PySem.Within mA (fs.map (·.1))
 |.own _=>∃o,h.get? a=some o
 |.xd fs=>∃mA,h.Ns1 a mA/\∀f,kD (fs.lookup f) (mA f)
 |.rng lo hi=>∃t u v,h.get? a=some { cls:= .type "range",data:= .fields #[.int lo t,.int hi u,.int 1 v] }
 |.frz o u=>h.get? a=some o/\cR H h a u
 |.tbl ps=>h.get? a=some { cls:= .none,data:= .fields ps }
 |.met f x=>h.get? a=some (PySem.W.methodObj (.ref f) (.ref x))
 |.ext φ=>φ h/\(∃o,h.get? a=some o)/\∀h1 h2:Heap,φ h1->(∀o,h1.get? a=some o->h2.get? a=some o)->φ h2
def mI(H:Hp)(h:Heap):Prop:=∀a o,H a=some o->cR P w H h a o
end
section
variable {P:Program}{w:World}{H H':Hp}{h h':Heap}{a:Addr}{o:HO}
theorem cR.lt(x:cR P w H h a o):a<h.objs.size:=by
 cases o with
 |lst xs=>obtain⟨_,_,_,_,e⟩:=x;exact ax e
 |tup xs=>obtain⟨_,_,_,p⟩:=x;exact p.is.lt
 |dK kvs=>obtain⟨_,_,_,_,o,_,_,e,_⟩:=x;exact ax e
 |dT kvs=>obtain⟨_,_,_,_,o,_,_,e,_⟩:=x;exact ax e
 |set S n=>obtain⟨o,_,_,_,e,_⟩:=x;exact ax e
 |ins C dx fs=>obtain⟨_,_,_,e,_⟩:=x;exact ax e
 |own y=>obtain⟨_,e⟩:=x;exact ax e
 |xd fs=>obtain⟨_,⟨_,_,_,e,_⟩,_⟩:=x;exact ax e
 |rng lo hi=>obtain⟨_,_,_,e⟩:=x;exact ax e
 |frz ob u=>obtain⟨e,_⟩:=x;exact ax e
 |tbl ps=>exact ax (show h.get? a=some _ from x)
 |met f y=>exact ax (show h.get? a=some _ from x)
 |ext φ=>obtain⟨_,⟨_,e⟩,_⟩:=x;exact ax e
theorem Paired.mapP{α β:Type}{F G:α->β->Prop}:∀{l₁:List α}{l₂:List β},Paired F l₁ l₂->(∀a b,F a b->G a b)->Paired G l₁ l₂
 |_,_,.nil,_=> .nil
 |_,_,.cons r t,f=> .cons (f _ _ r) (Paired.mapP t f)
theorem cR.stay(x:cR P w H h a o)(k:∀b u,(b=a\/H b=some (.own a))->h.get? b=some u->h'.get? b=some u)
  (ho:∀b,H b=some (.own a)->H' b=some (.own a)) (ht:∀b xs,H b=some (.tup xs)->H' b=some (.tup xs)):cR P w H' h' a o:=by
 induction o with
 |lst xs=>obtain⟨z,its,n,r,e⟩:=x;exact⟨z,its,n,r,k _ _ (.inl rfl) e⟩
 |tup xs=>obtain⟨z,its,r,ob,e,c⟩:=x;exact⟨z,its,r,ob,k _ _ (.inl rfl) e,c⟩
 |dK kvs=>obtain⟨z,y,vs,r,ob,es,ep,e,c⟩:=x;exact⟨z,y,vs,r,ob,es,ep,k _ _ (.inl rfl) e,c⟩
 |dT kvs =>
  obtain⟨z,y,xs,r,ob,es,ep,e,c⟩:=x
  exact⟨z,y,xs,Paired.mapP r fun p q z=>⟨z.1,ht _ _ z.2.1,z.2.2⟩,ob,es,ep,k _ _ (.inl rfl) e,c⟩
 |set S n=>obtain⟨ob,es,ep,t,e,c⟩:=x;exact⟨ob,es,ep,t,k _ _ (.inl rfl) e,c⟩
 |ins C dx fs =>
  obtain⟨d,z,ne,e,mA,⟨od,es,ep,e2,c⟩,r⟩:=x
  exact⟨ho _ d,z,ne,k _ _ (.inl rfl) e,mA,⟨od,es,ep,k _ _ (.inr d) e2,c⟩,r⟩
 |own y=>obtain⟨ob,e⟩:=x;exact⟨ob,k _ _ (.inl rfl) e⟩
 |xd fs=>obtain⟨mA,⟨od,es,ep,e,c⟩,r⟩:=x;exact⟨mA,⟨od,es,ep,k _ _ (.inl rfl) e,c⟩,r⟩
 |rng lo hi=>obtain⟨t,u,v,e⟩:=x;exact⟨t,u,v,k _ _ (.inl rfl) e⟩
 |frz ob u ih=>obtain⟨e,q⟩:=x;exact⟨k _ _ (.inl rfl) e,ih q⟩
 |tbl ps =>
  have e:h.get? a=some { cls:= .none,data:= .fields ps }:=x
  show h'.get? a=some { cls:= .none,data:= .fields ps }
  exact k a _ (.inl rfl) e
 |met f y =>
  have e:h.get? a=some (PySem.W.methodObj (.ref f) (.ref y)):=x
  show h'.get? a=some (PySem.W.methodObj (.ref f) (.ref y))
  exact k a _ (.inl rfl) e
 |ext φ=>obtain⟨p,⟨o,e⟩,st⟩:=x;exact⟨st _ _ p fun o q=>k _ _ (.inl rfl) q,⟨o,k _ _ (.inl rfl) e⟩,st⟩
theorem mI.lt(x:mI P w H h)(e:H a=some o):a<h.objs.size:=(x a o e).lt
theorem mI.fresh(x:mI P w H h)(e:h.objs.size<=a):H a=none:=by
 cases q:H a with
 |none=>rfl
 |some u=>exact absurd (cy (x.lt q) e) (gx _)
theorem mI.kept(x:mI P w H h)(k:∀b u,h.get? b=some u->h'.get? b=some u):mI P w H h':=fun a o e =>
 (x a o e).stay (fun b u _ q=>k b u q) (fun _ q=>q) fun _ _ q=>q
theorem mI.laid(x:mI P w H h)(k:∀b u,h.get? b=some u->h'.get? b=some u)(hp:h.objs.size<=a)(new:cR P w (aL H a o) h' a o):mI P w (aL H a o) h':=fun b u e=>by
 have hn:=x.fresh hp
 by_cases hb:b=a
 ·subst hb;rw[aB] at e;cases e;exact new
 ·rw[aG hb] at e
  exact(x b u e).stay (fun c v _ q=>k c v q) (fun c q=>by rw[aG (aJ q hn)];exact q) fun c xs q=>by rw[aG (aJ q hn)];exact q
end
def Rd(H:Hp)(a:Addr)(u:HO):Prop:=H a=some u\/∃o,H a=some (.frz o u)
theorem Rd.ok{P:Program}{w:World}{H:Hp}{h:Heap}{a:Addr}{u:HO}(r:Rd H a u)(x:mI P w H h):cR P w H h a u:=by
 rcases r with r|⟨o,r⟩
 ·exact x a u r
 ·obtain⟨_,q⟩:=x a _ r
  exact q
def Mut:Option HO->Prop
 |some (.lst _)=>True
 |some (.dK _)=>True
 |some (.dT _)=>True
 |some (.set _ _)=>True
 |some (.ins _ _ _)=>True
 |some (.ext _)=>True
 |_=>False
section
variable {P:Program}{w:World}{H:Hp}{h h':Heap}{x e:Addr}{o':HO}
theorem mI.write(ok:mI P w H h)(mu:Mut (H x))(he:e=x\/H e=some (.own x))(k:∀b u,b≠e->h.get? b=some u->h'.get? b=some u)(heo:∃u,h'.get? e=some u)
  (new:cR P w (aL H x o') h' x o'):mI P w (aL H x o') h':=fun b u q=>by
 have nown:∀c y,H c=some (.own y)->c≠x:=fun c y r z=>by subst z;rw[r] at mu;exact mu
 have ntup:∀c xs,H c=some (.tup xs)->c≠x:=fun c xs r z=>by subst z;rw[r] at mu;exact mu
 by_cases hb:b=x
 ·subst hb;rw[aB] at q;cases q;exact new
 ·rw[aG hb] at q
  by_cases hbe:b=e
  ·have q':H b=some (.own x):=by
    rcases he with z|z
    ·exact absurd (hbe.trans z) hb
    ·rw[hbe];exact z
   rw[q] at q';cases q'
   obtain⟨v,hv⟩:=heo
   exact⟨v,by rw[hbe];exact hv⟩
  ·refine(ok b u q).stay (fun c v hc r=>k c v ?_ r) (fun c r=>by rw[aG (nown c b r)];exact r) fun c xs r=>by rw[aG (ntup c xs r)];exact r
   rcases hc with rfl|hc
   ·exact hbe
   ·rintro rfl
    rcases he with z|z
    ·exact nown c b hc z
    ·rw[hc] at z;cases z;exact hb rfl
end
structure Un(fs ex:List Addr)(H H':Hp)(h h':Heap):Prop where
 keep:∀b o,h.get? b=some o->H b=none->b∉fs->b∉ex->h'.get? b=some o
 slot:∀b o,h.get? b=some o->H b=none->b∈fs->b∉ex->∃sl,h'.get? b=some { o with slots:=sl }
 free:∀b o,h.get? b=some o->H b=none->b∉ex->H' b=none
 there:∀b o,h.get? b=some o->b∉ex->∃o',h'.get? b=some o'
 tups:∀b xs,H b=some (.tup xs)->H' b=some (.tup xs)
 frzs:∀b o u,H b=some (.frz o u)->H' b=some (.frz o u)
 tbls:∀b ps,H b=some (.tbl ps)->∃more,H' b=some (.tbl (ps++more))
section
variable {fs fs' ex ex':List Addr}{H H1 H2:Hp}{h h1 h2 h':Heap}{a x e:Addr}{o:HO}
theorem Un.any(u:Un fs ex H H1 h h1){b:Addr}{ob:Obj}(q:h.get? b=some ob)(n:H b=none)(hx:b∉ex):∃sl,h1.get? b=some { ob with slots:=sl }:=by
 by_cases hb:b∈fs
 ·exact u.slot b ob q n hb hx
 ·exact⟨ob.slots,u.keep b ob q n hb hx⟩
theorem Un.kept(k:∀b u,h.get? b=some u->h'.get? b=some u):Un fs ex H H h h':=
 ⟨fun b ob q _ _ _=>k b ob q,fun b ob q _ _ _=>⟨ob.slots,k b ob q⟩,fun _ _ _ n _=>n,fun b ob q _=>⟨ob,k b ob q⟩,fun _ _ q=>q,fun _ _ _ q=>q,fun _ ps q=>⟨#[],by rw[q];simp⟩⟩
theorem Un.refl:Un fs ex H H h h:=Un.kept fun _ _ q=>q
theorem Un.laid(k:∀b u,h.get? b=some u->h'.get? b=some u)(hp:h.objs.size<=a)(hn:H a=none):Un fs ex H (aL H a o) h h' where
 keep:=fun b u q _ _ _=>k b u q
 slot:=fun b u q _ _ _=>⟨u.slots,k b u q⟩
 free:=fun b u q n _=>by rw[aG (cp (cy (ax q) hp))];exact n
 there:=fun b u q _=>⟨u,k b u q⟩
 tups:=fun b xs q=>by rw[aG (aJ q hn)];exact q
 frzs:=fun b u xs q=>by rw[aG (aJ q hn)];exact q
 tbls:=fun b ps q=>⟨#[],by rw[aG (aJ q hn),q];simp⟩
theorem Un.write(mu:Mut (H x))(he:e=x\/H e=some (.own x))(k:∀b u,b≠e->h.get? b=some u->h'.get? b=some u)(heo:∃u,h'.get? e=some u):Un fs ex H (aL H x o) h h':=by
 have hx:∀b,H b=none->b≠x:=fun b n z=>by subst z;rw[n] at mu;exact mu
 have hb:∀b,H b=none->b≠e:=fun b n z=>by
  subst z
  rcases he with r|r
  ·exact hx b n r
  ·rw[n] at r;cases r
 have hm:∀b u,H b=some u->¬Mut (some u)->b≠x:=fun b u q nm z=>by subst z;rw[q] at mu;exact nm mu
 refine⟨fun b u q n _ _=>k b u (hb b n) q,fun b u q n _ _=>⟨u.slots,k b u (hb b n) q⟩,fun b u q n _=>by rw[aG (hx b n)];exact n,fun b u q _=>?_,
  fun b xs q=>by rw[aG (hm b _ q fun z=>z)];exact q,fun b u xs q=>by rw[aG (hm b _ q fun z=>z)];exact q,fun b ps q=>⟨#[],by rw[aG (hm b _ q fun z=>z),q];simp⟩⟩
 by_cases hbe:b=e
 ·subst hbe;exact heo
 ·exact⟨u,k b u hbe q⟩
end
def trk(h:Heap)(H:Hp):List Addr:=(List.range h.objs.size).filter fun a=>(H a).isSome
def sY(h:Heap)(H:Hp):Heap:=PySem.W.hideAll h (trk h H)
theorem aP2(h:Heap)(H:Hp):(sY h H).objs.size=h.objs.size:=PySem.W.hideAll_size _ _
theorem bF7{h:Heap}{H:Hp}{b:Addr}{o:Obj}(e:h.get? b=some o)(n:H b=none):(sY h H).get? b=some o:=
 PySem.W.hideAll_get _ e fun hm=>by
  have q:(H b).isSome=true:=(fj.mp hm).2
  rw[n] at q;simp at q
theorem bQ3{h:Heap}{H:Hp}{b:Addr}{o:Obj}(e:(sY h H).get? b=some o):h.get? b=some o/\H b=none:=by
 have e':h.get? b=some o:=PySem.W.of_hideAll (trk h H) e
 refine⟨e',?_⟩
 cases q:H b with
 |none=>rfl
 |some x =>
  have hm:b∈trk h H:=fj.mpr ⟨oq.mpr (ax e'),by simp[q]⟩
  have z:(sY h H).get? b=none:=PySem.W.hideAll_none (trk h H) hm
  rw[z] at e;cases e
def bO8(g h:Heap)(L:Addr):List (Addr×Obj):=(List.range h.objs.size).filterMap fun a=>if a=L\/(g.get? a).isSome=true then none else (h.get? a).map fun o=>(a,o)
def bN(g h:Heap)(L d:Addr):List (Addr×Obj):=(bO8 g h L).filter fun p=>decide (p.1≠d)
structure Mod(K:PySem.W.Frag)(mg:Str->Option Value)(base:Heap):Prop where
 kin:K.In base
 glob:base.Ns mainGlobals mg
 blt:∃mb,base.Ns builtinsNs mb/\∀x:Str,x≠"__name__"->mb x=bootBuiltins x
 nolimit:base.NoLimit
structure Cx where
 prog:Program
 w:World
 K:PySem.W.Frag
 mg:Str->Option Value
 base:Heap
 A:Around
 N:List Str
 s₀:Shared
 H₀:Hp
 env:Env
 outer:List Env
 stack:List Env
 ex:List Addr
 fn:Str->Bool
 calm:Bool
 pn:List (Addr×Obj)
 xe:Value->Shared->Prop
def uW(l:List Env):List Addr:=l.filterMap (·.frame)
abbrev Cx.fs(X:Cx):List Addr:=uW X.outer
def Vis(sc:Scope)(x:Str):Prop:=sc.names.lookup x=some .local\/sc.names.lookup x=some .cell\/sc.names.lookup x=some .free
def Loc(sc:Scope)(x:Str):Prop:=sc.names.lookup x=some .local\/sc.names.lookup x=some .cell
def cS3(env:Env)(h:Heap)(m:Str->Option Value)(x:Str)(u:Value):Prop:=
 (env.kindOf x=some .local/\m x=some u)\/((env.kindOf x=some .cell\/env.kindOf x=some .free)/\∃c,env.cells.lookup x=some c/\h.IsCell c (some u))
structure Cx.Ok(X:Cx):Prop where
 mod:Mod X.K X.mg X.base
 kind:X.env.scope.kind= .function
 glob:X.env.globals=mainGlobals
 blt:X.env.builtins=builtinsNs
 above:X.s₀.heap.objs.size<=X.env.locals
 inj:∀x y c,X.env.cells.lookup x=some c->X.env.cells.lookup y=some c->x=y
 has:∀x,(X.env.kindOf x=some .cell\/X.env.kindOf x=some .free)->∃c,X.env.cells.lookup x=some c
 cab:∀x c,X.fn x=true->X.env.cells.lookup x=some c->X.s₀.heap.objs.size<=c
 hd:X.calm=true->X.A.handled=none
 frames:X.A.frames=some X.stack
 stk:X.stack=X.outer\/(X.stack=X.env::X.outer/\X.env.frame=some X.env.locals)
 exf:∀b∈X.ex,b≠X.env.locals/\∀x c,X.env.cells.lookup x=some c->c≠b
 bs:∀b o,X.base.get? b=some o->X.s₀.heap.get? b=some o/\X.H₀ b=none
 bsz:X.base.objs.size<=X.s₀.heap.objs.size
 noex:∀b o,X.base.get? b=some o->b∉X.ex
 exfs:∀b∈X.ex,b∉X.fs
 funs:X.s₀.heap.FunFrames X.base X.outer
 frf:∀b∈X.fs,X.H₀ b=none
structure aX(X:Cx)(pins:List (Addr×Obj))(σ:List (Option V))(H:Hp)(s:Shared):Prop where
 ok:X.Ok
 os:s.os=X.s₀.os
 bare:AllBare s.gens
 base:Un X.fs X.ex X.H₀ H X.s₀.heap s.heap
 loc:∃m,s.heap.Ns X.env.locals m/\∀(i:Nat) (x:Str) (v:V),X.N[i]?=some x->σ[i]?=some (some v)->Vis X.env.scope x->∃u,bF v u/\cS3 X.env s.heap m x u
 cell:∀x c,X.env.cells.lookup x=some c->∃v,s.heap.IsCell c v
 free:H X.env.locals=none
 freeC:∀x c,X.env.cells.lookup x=some c->H c=none
 pin:∀p∈X.pn++pins,s.heap.get? p.1=some p.2/\H p.1=none/\p.1≠X.env.locals/\p.1∉X.fs/\∀v,p.2.data≠ .cell v
 hok:mI X.prog X.w H s.heap
 len:σ.length=X.N.length
section
variable {X:Cx}{pins:List (Addr×Obj)}{σ:List (Option V)}{H H':Hp}{s:Shared}{h':Heap}
theorem Cx.Ok.nofr(ok:X.Ok){b:Addr}{o:Obj}(e:X.base.get? b=some o):b∉X.fs:=fun hb=>by
 have:=(ok.funs.mem hb).1
 rw[e] at this;cases this
theorem aX.bs(I:aX X pins σ H s):∀b o,X.base.get? b=some o->s.heap.get? b=some o/\H b=none:=fun b o e =>
 ⟨I.base.keep b o (I.ok.bs b o e).1 (I.ok.bs b o e).2 (I.ok.nofr e) (I.ok.noex b o e),I.base.free b o (I.ok.bs b o e).1 (I.ok.bs b o e).2 (I.ok.noex b o e)⟩
theorem aX.bk(I:aX X pins σ H s):∀b o,X.base.get? b=some o->s.heap.get? b=some o:=fun b o e=>(I.bs b o e).1
theorem aX.mod(I:aX X pins σ H s):Mod X.K X.mg X.base:=I.ok.mod
theorem aX.kIn(I:aX X pins σ H s):X.K.In s.heap:=I.ok.mod.kin.keeps I.bk
theorem aX.lt(I:aX X pins σ H s):X.env.locals<s.heap.objs.size:=by obtain⟨_,hn,_⟩:=I.loc;exact hn.lt
theorem aX.sz(I:aX X pins σ H s):X.s₀.heap.objs.size<=s.heap.objs.size:=cj I.ok.above (cu I.lt)
theorem aX.nofs(I:aX X pins σ H s){a:Addr}(h:s.heap.objs.size<=a):a∉X.fs:=fun hb=>by
 obtain⟨_,o,ho,_⟩:=I.ok.funs.mem hb
 exact absurd (cy (ax ho) (cj I.sz h)) (gx _)
theorem aX.cne(I:aX X pins σ H s):∀x c,X.env.cells.lookup x=some c->c≠X.env.locals:=fun x c e z=>by
 obtain⟨v,o,ho,hd⟩:=I.cell x c e
 obtain⟨m,⟨o',es,ep,ho',hd',_⟩,_⟩:=I.loc
 rw[z,ho'] at ho;cases ho;rw[hd'] at hd;cases hd
theorem aX.funs(I:aX X pins σ H s):s.heap.FunFrames X.base X.outer:=by
 have all:∀(l:List Env),(∀b∈uW l,b∈X.fs)->X.s₀.heap.FunFrames X.base l->s.heap.FunFrames X.base l:=by
  intro l
  induction l with
  |nil=>intro _ _;trivial
  |cons env r ih =>
   intro hs hl
   obtain⟨hk,⟨L,o,hf,hn,ho,hd⟩,hr⟩:=hl
   have hL:L∈X.fs:=hs L (by unfold uW;rw[re,hf];exact ao)
   obtain⟨sl,e⟩:=I.base.slot L o ho (I.ok.frf L hL) hL fun z=>I.ok.exfs L z hL
   exact⟨hk,⟨L,_,hf,hn,e,hd⟩,ih (fun b hb=>hs b (by unfold uW;rw[re,hf];exact ak _ hb)) hr⟩
 exact all X.outer (fun _ hb=>hb) I.ok.funs
theorem aX.stack(I:aX X pins σ H s):s.heap.FunFrames X.base X.stack:=by
 rcases I.ok.stk with e|⟨e,hf⟩
 ·rw[e];exact I.funs
 ·rw[e]
  obtain⟨m,hn,_⟩:=I.loc
  refine .cons (by rw[I.ok.kind];decide) hf hn ?_ I.funs
  exact Heap.get?_none_of_le (cj I.ok.bsz I.ok.above)
theorem aX.stkSub(I:aX X pins σ H s):∀b∈uW X.stack,b∈X.env.locals::X.fs:=fun b hb=>by
 rcases I.ok.stk with e|⟨e,hf⟩
 ·rw[e] at hb;exact ak _ hb
 ·rw[e] at hb
  unfold uW at hb
  rw[re,hf] at hb
  exact hb
theorem aX.stkFree(I:aX X pins σ H s):∀b∈uW X.stack,H b=none:=fun b hb=>by
 rcases bw.mp (I.stkSub b hb) with e|hb
 ·rw[e];exact I.free
 ·obtain⟨_,o,ho,_⟩:=I.ok.funs.mem hb
  exact I.base.free b o ho (I.ok.frf b hb) fun z=>I.ok.exfs b z hb
theorem aX.step{g':Array GenState}{t':Nat}{d':Drawn}{ch:List Addr}(I:aX X pins σ H s)
  (hch:∀b∈ch,(b∈X.ex\/X.s₀.heap.objs.size<=b)/\b≠X.env.locals/\(∀x c,X.env.cells.lookup x=some c->c≠b)/\∀p∈X.pn++pins,p.1≠b)
  (keep:∀b o,b≠X.env.locals->b∉X.fs->b∉ch->s.heap.get? b=some o->H b=none->h'.get? b=some o)
  (slot:∀b o,b≠X.env.locals->b∈X.fs->b∉ch->s.heap.get? b=some o->H b=none->∃sl,h'.get? b=some { o with slots:=sl }) (free:∀b o,b∉ch->s.heap.get? b=some o->H b=none->H' b=none)
  (there:∀b o,b∉ch->s.heap.get? b=some o->∃o',h'.get? b=some o')
  (tups:∀b xs,H b=some (.tup xs)->H' b=some (.tup xs)) (frzs:∀b o u,H b=some (.frz o u)->H' b=some (.frz o u)) (tbls:∀b ps,H b=some (.tbl ps)->∃more,H' b=some (.tbl (ps++more)))
  (ns:∀m,s.heap.Ns X.env.locals m->h'.Ns X.env.locals m) (hok:mI X.prog X.w H' h') (hg:AllBare g') :
  aX X pins σ H' { s with heap:=h',gens:=g',drawn:=d',toks:=t' }:=by
 have neL:∀b o,X.s₀.heap.get? b=some o->b≠X.env.locals:=fun b o e=>cp (cy (ax e) I.ok.above)
 have neC:∀b o,X.s₀.heap.get? b=some o->b∉X.ex->b∉ch:=fun b o e hx hb=>by
  rcases(hch b hb).1 with z|z
  ·exact hx z
  ·exact absurd (cy (ax e) z) (gx _)
 have cellK:∀x c,X.env.cells.lookup x=some c->∀v,s.heap.IsCell c v->h'.IsCell c v:=fun x c e v ⟨o,ho,hd⟩=>by
  have nch:c∉ch:=fun z=>(hch c z).2.2.1 x c e rfl
  by_cases hc:c∈X.fs
  ·obtain⟨sl,q⟩:=slot c o (I.cne x c e) hc nch ho (I.freeC x c e)
   exact⟨_,q,hd⟩
  ·exact⟨o,keep c o (I.cne x c e) hc nch ho (I.freeC x c e),hd⟩
 refine⟨I.ok,I.os,hg,⟨fun b o e n hb hx=>?_,fun b o e n hb hx=>?_,fun b o e n hx=>?_,fun b o e hx=>?_,fun b xs e=>tups b xs (I.base.tups b xs e),fun b o xs e=>frzs b o xs (I.base.frzs b o xs e),fun b ps e=>?_⟩,?_,fun x c e=>?_,?_,fun x c e=>?_,fun p hp=>?_,hok,I.len⟩
 ·exact keep b o (neL b o e) hb (neC b o e hx) (I.base.keep b o e n hb hx) (I.base.free b o e n hx)
 ·obtain⟨sl,e1⟩:=I.base.slot b o e n hb hx
  obtain⟨sl',e2⟩:=slot b _ (neL b o e) hb (neC b o e hx) e1 (I.base.free b o e n hx)
  exact⟨sl',e2⟩
 ·obtain⟨o',e1⟩:=I.base.there b o e hx
  exact free b o' (neC b o e hx) e1 (I.base.free b o e n hx)
 ·obtain⟨o',e1⟩:=I.base.there b o e hx
  exact there b o' (neC b o e hx) e1
 ·obtain⟨m1,e1⟩:=I.base.tbls b ps e
  obtain⟨m2,e2⟩:=tbls b _ e1
  exact⟨m1++m2,by rw[e2,Array.append_assoc]⟩
 ·obtain⟨m,hn,hl⟩:=I.loc
  refine⟨m,ns m hn,fun i x v e1 e2 e3=>?_⟩
  obtain⟨u,r,l⟩:=hl i x v e1 e2 e3
  refine⟨u,r,?_⟩
  rcases l with l|⟨k,c,e,z⟩
  ·exact .inl l
  ·exact .inr ⟨k,c,e,cellK x c e _ z⟩
 ·obtain⟨v,z⟩:=I.cell x c e
  exact⟨v,cellK x c e v z⟩
 ·obtain⟨m,⟨o,_,_,ho,_⟩,_⟩:=I.loc
  exact free _ o (fun z=>(hch _ z).2.1 rfl) ho I.free
 ·obtain⟨v,o,ho,hd⟩:=I.cell x c e
  exact free c o (fun z=>(hch c z).2.2.1 x c e rfl) ho (I.freeC x c e)
 ·obtain⟨e,n,ne,nf,d⟩:=I.pin p hp
  have nch:p.1∉ch:=fun z=>(hch p.1 z).2.2.2 p hp rfl
  exact⟨keep p.1 p.2 ne nf nch e n,free p.1 p.2 nch e n,ne,nf,d⟩
theorem aX.un{t':Nat}(I:aX X pins σ H s)(u:Un X.fs [] H H' s.heap h')(hok:mI X.prog X.w H' h'):aX X pins σ H' { s with heap:=h',toks:=t' }:=by
 obtain⟨m,⟨o,es,ep,ho,r⟩,_⟩:=id I.loc
 obtain⟨sl,hL⟩:=u.any ho I.free (by simp)
 exact I.step (g':=s.gens) (d':=s.drawn) (ch:=[]) (fun _ z=>nomatch z) (fun b o _ hb _ e n=>u.keep b o e n hb (by simp)) (fun b o _ hb _ e n=>u.slot b o e n hb (by simp)) (fun b o _ e n=>u.free b o e n (by simp)) (fun b o _ e=>u.there b o e (by simp)) u.tups u.frzs u.tbls (fun m' hm=>by
  obtain⟨o',es',ep',ho',r'⟩:=hm
  rw[ho] at ho';cases ho'
  exact⟨_,es',ep',hL,r'⟩) hok I.bare
theorem aX.call{g':Array GenState}{t':Nat}{d':Drawn}{ch:List Addr}(I:aX X pins σ H s)(u:Un (uW X.stack) ch H H' s.heap h')(hok:mI X.prog X.w H' h')(hg:AllBare g')
  (hch:∀b∈ch,(b∈X.ex\/X.s₀.heap.objs.size<=b)/\b≠X.env.locals/\(∀x c,X.env.cells.lookup x=some c->c≠b)/\∀p∈X.pn++pins,p.1≠b) :
  aX X pins σ H' { s with heap:=h',gens:=g',drawn:=d',toks:=t' }:=by
 obtain⟨m,⟨o,es,ep,ho,r⟩,_⟩:=id I.loc
 obtain⟨sl,hL⟩:=u.any ho I.free fun z=>(hch _ z).2.1 rfl
 exact I.step (ch:=ch) hch (fun b o hL hb hc e n=>u.keep b o e n (fun z=>(bw.mp (I.stkSub b z)).elim hL hb) hc) (fun b o _ _ hc e n=>u.any e n hc) (fun b o hc e n=>u.free b o e n hc) (fun b o hc e=>u.there b o e hc) u.tups u.frzs u.tbls (fun m' hm=>by
  obtain⟨o',es',ep',ho',r'⟩:=hm
  rw[ho] at ho';cases ho'
  exact⟨_,es',ep',hL,r'⟩) hok hg
theorem aX.turned{t':Nat}{it:Addr}(I:aX X pins σ H s)(k:∀b o,b≠it->s.heap.get? b=some o->h'.get? b=some o)(hn:H it=none)(hL:it≠X.env.locals)
  (h1:it∈X.ex\/X.s₀.heap.objs.size<=it) (h2:∀x c,X.env.cells.lookup x=some c->c≠it) (h3:∀p∈X.pn++pins,p.1≠it):aX X pins σ H { s with heap:=h',toks:=t' }:=by
 have nit:∀b u,H b=some u->b≠it:=fun b u e z=>by rw[z,hn] at e;cases e
 refine I.step (g':=s.gens) (d':=s.drawn) (ch:=[it]) (fun b hb=>?_) (fun b o _ _ hc e _=>k b o (fun z=>hc (by simp[z])) e) (fun b o _ _ hc e _=>⟨o.slots,k b o (fun z=>hc (by simp[z])) e⟩) (fun _ _ _ _ n=>n)
  (fun b o hc e=>⟨o,k b o (fun z=>hc (by simp[z])) e⟩) (fun _ _ e=>e) (fun _ _ _ e=>e) (fun b ps e=>⟨#[],by rw[e];simp⟩) (fun m hm=>?_) (fun b u e=>?_) I.bare
 ·have e:b=it:=by simpa using hb
  subst e
  exact⟨h1,hL,h2,h3⟩
 ·obtain⟨o,es,ep,ho,r⟩:=hm
  exact⟨o,es,ep,k _ o (Ne.symm hL) ho,r⟩
 ·refine(I.hok b u e).stay (fun c v hc q=>k c v ?_ q) (fun _ q=>q) fun _ _ q=>q
  rcases hc with z|z
  ·rw[z];exact nit b u e
  ·exact nit c _ z
theorem aX.tok(I:aX X pins σ H s)(t:Nat):aX X pins σ H { s with toks:=t }:=I.un (h':=s.heap) (t':=t) Un.refl I.hok
theorem aX.kept{t':Nat}(I:aX X pins σ H s)(k:∀b u,s.heap.get? b=some u->h'.get? b=some u):aX X pins σ H { s with heap:=h',toks:=t' }:=I.un (Un.kept k) (I.hok.kept k)
theorem aX.laid{a:Addr}{o:HO}{t':Nat}(I:aX X pins σ H s)(k:∀b u,s.heap.get? b=some u->h'.get? b=some u)(hp:s.heap.objs.size<=a)(new:cR X.prog X.w (aL H a o) h' a o) :
  aX X pins σ (aL H a o) { s with heap:=h',toks:=t' }:=I.un (Un.laid k hp (I.hok.fresh hp)) (I.hok.laid k hp new)
theorem aX.write{x e:Addr}{o:HO}{t':Nat}(I:aX X pins σ H s)(mu:Mut (H x))(he:e=x\/H e=some (.own x))(k:∀b u,b≠e->s.heap.get? b=some u->h'.get? b=some u)(heo:∃u,h'.get? e=some u)
  (new:cR X.prog X.w (aL H x o) h' x o):aX X pins σ (aL H x o) { s with heap:=h',toks:=t' }:=I.un (Un.write mu he k heo) (I.hok.write mu he k heo new)
theorem aX.pins_of{pins':List (Addr×Obj)}(I:aX X pins σ H s)(h:∀p∈pins',s.heap.get? p.1=some p.2/\H p.1=none/\p.1≠X.env.locals/\p.1∉X.fs/\∀v,p.2.data≠ .cell v):aX X pins' σ H s:=
 ⟨I.ok,I.os,I.bare,I.base,I.loc,I.cell,I.free,I.freeC,fun p hp=>(bu.mp hp).elim (fun z=>I.pin p (cg _ z)) (h p),I.hok,I.len⟩
theorem yT{N:List Str}(hN:N.Nodup){i j:Nat}{x:Str}(a:N[i]?=some x)(b:N[j]?=some x):i=j:=by
 obtain⟨h1,e1⟩:=aq.mp a
 obtain⟨h2,e2⟩:=aq.mp b
 exact(List.getElem_inj hN).mp (e1.trans e2.symm)
theorem uI{M:Model}{A:Around}{E:Value->Shared->Prop}{i:Nat}{x:Str}{v:V}{u:Value}{Q:Unit->Shared->Prop}(I:aX X pins σ H s)(hN:X.N.Nodup)(hi:X.N[i]?=some x)(hx:Loc X.env.scope x)(r:bF v u)
  (h:∀s',aX X pins (σ.set i (some v)) H s'->(∃a,Heap.SameBut a s.heap s'.heap/\(a=X.env.locals\/X.env.cells.lookup x=some a))->Q () s') (hf:autoParam (X.fn x=true\/X.env.scope.names.lookup x=some .local) Rq2._auto_1):wpAny M A (storeName X.env x u) Q E s:=by
 obtain⟨m,hn,hl⟩:=id I.loc
 have hcls:(X.env.scope.kind == .class || (X.env.scope.kind == .module&&X.env.locals != X.env.globals))=false:=by rw[I.ok.kind];rfl
 have hiσ:i<σ.length:=by rw[I.len];exact(aq.mp hi).1
 have cne:=I.cne
 have tracked:∀{a:Addr}{h':Heap},(∃o,s.heap.get? a=some o/\H a=none)->Heap.SameBut a s.heap h'->mI X.prog X.w H h':=fun {a h'} ha hs b ob e=>by
  obtain⟨_,_,hfree⟩:=ha
  refine(I.hok b ob e).stay (fun c w' hc q=>(hs.2 c ?_).trans q) (fun _ q=>q) fun _ _ q=>q
  rintro rfl
  rcases hc with rfl|hc
  ·rw[hfree] at e;cases e
  ·rw[hfree] at hc;cases hc
 rcases hx with hk|hk
 ·refine wpAny_storeName_local hk hn (fun h' hn' hs=>?_) hcls
  obtain⟨oL,_,_,hoL,_⟩:=id hn
  refine h _ ⟨I.ok,I.os,I.bare,⟨fun b o e n hb hx=>?_,fun b o e n hb hx=>?_,I.base.free,fun b o e hx=>?_,I.base.tups,I.base.frzs,I.base.tbls⟩,⟨_,hn',fun j y v' e1 e2 e3=>?_⟩,fun y c e=>?_,I.free,I.freeC,fun p hp=>?_,tracked ⟨oL,hoL,I.free⟩ hs,by simpa using I.len⟩ ⟨_,hs,.inl rfl⟩
  ·exact(hs.2 b (cp (cy (ax e) I.ok.above))).trans (I.base.keep b o e n hb hx)
  ·obtain⟨sl,e1⟩:=I.base.slot b o e n hb hx
   exact⟨sl,(hs.2 b (cp (cy (ax e) I.ok.above))).trans e1⟩
  ·obtain⟨o',e1⟩:=I.base.there b o e hx
   exact⟨o',(hs.2 b (cp (cy (ax e) I.ok.above))).trans e1⟩
  ·by_cases hj:j=i
   ·subst hj
    rw[hi] at e1;cases e1
    rw[va hiσ] at e2
    cases e2
    exact⟨u,r,.inl ⟨hk,by simp⟩⟩
   ·rw[vv (Ne.symm hj)] at e2
    obtain⟨u',r',q⟩:=hl j y v' e1 e2 e3
    refine⟨u',r',?_⟩
    rcases q with⟨k,e⟩|⟨k,c,e,z⟩
    ·refine .inl ⟨k,?_⟩
     have:y≠x:=fun e=>hj (yT hN e1 (e ▸ hi))
     simp[this,e]
    ·exact .inr ⟨k,c,e,z.sameBut hs (cne y c e)⟩
  ·obtain⟨w',z⟩:=I.cell y c e
   exact⟨w',z.sameBut hs (cne y c e)⟩
  ·obtain⟨e,n,ne,nf,d⟩:=I.pin p hp
   exact⟨(hs.2 p.1 ne).trans e,n,ne,nf,d⟩
 ·have hfn:X.fn x=true:=by
   rcases hf with z|z
   ·exact z
   ·rw[z] at hk;cases hk
  obtain⟨c,hc⟩:=I.ok.has x (.inl hk)
  obtain⟨w',z⟩:=I.cell x c hc
  refine wpAny_storeName_cell I.ok.kind hk hc z (fun h' hc' hs=>?_)
  obtain⟨oc,hoc,hocd⟩:=id z
  refine h { s with heap:=h' } ⟨I.ok,I.os,I.bare,⟨fun b o e n hb hx=>?_,fun b o e n hb hx=>?_,I.base.free,fun b o e hx=>?_,I.base.tups,I.base.frzs,I.base.tbls⟩,⟨m,hn.sameBut hs (Ne.symm (cne x c hc)),fun j y v' e1 e2 e3=>?_⟩,fun y c' e=>?_,I.free,I.freeC,fun p hp=>?_,tracked ⟨oc,hoc,I.freeC x c hc⟩ hs,by simpa using I.len⟩ ⟨c,hs,.inr hc⟩
  ·exact(hs.2 b (cp (cy (ax e) (I.ok.cab x c hfn hc)))).trans (I.base.keep b o e n hb hx)
  ·obtain⟨sl,e1⟩:=I.base.slot b o e n hb hx
   exact⟨sl,(hs.2 b (cp (cy (ax e) (I.ok.cab x c hfn hc)))).trans e1⟩
  ·obtain⟨o',e1⟩:=I.base.there b o e hx
   exact⟨o',(hs.2 b (cp (cy (ax e) (I.ok.cab x c hfn hc)))).trans e1⟩
  ·by_cases hj:j=i
   ·subst hj
    rw[hi] at e1;cases e1
    rw[va hiσ] at e2
    cases e2
    exact⟨u,r,.inr ⟨.inl hk,c,hc,hc'⟩⟩
   ·rw[vv (Ne.symm hj)] at e2
    obtain⟨u',r',q⟩:=hl j y v' e1 e2 e3
    refine⟨u',r',?_⟩
    rcases q with q|⟨k,c',e,z'⟩
    ·exact .inl q
    ·refine .inr ⟨k,c',e,z'.sameBut hs ?_⟩
     rintro rfl
     exact hj (yT hN e1 (I.ok.inj _ _ _ e hc ▸ hi))
  ·by_cases hcc:c'=c
   ·subst hcc;exact⟨_,hc'⟩
   ·obtain⟨w2,z2⟩:=I.cell y c' e
    exact⟨w2,z2.sameBut hs hcc⟩
  ·obtain⟨e,n,ne,nf,d⟩:=I.pin p hp
   refine⟨(hs.2 p.1 ?_).trans e,n,ne,nf,d⟩
   intro q
   rw[q,hoc] at e
   have q':oc=p.2:=dt e
   exact d w' (by rw[<-q'];exact hocd)
theorem kE{M:Model}{A:Around}{E:Value->Shared->Prop}{i:Nat}{x:Str}{v:V}{u:Value}{Q:Unit->Shared->Prop}(I:aX X pins σ H s)(hN:X.N.Nodup)(hi:X.N[i]?=some x)(hx:Loc X.env.scope x)(r:bF v u)
  (h:∀s',aX X pins (σ.set i (some v)) H s'->Q () s') (hf:autoParam (X.fn x=true\/X.env.scope.names.lookup x=some .local) Rq2._auto_1):wpAny M A (storeName X.env x u) Q E s:=
 uI I hN hi hx r (fun s' I' _=>h s' I') hf
theorem aX.call'{s':Shared}{ch:List Addr}(I:aX X pins σ H s)(ho:s'.os=s.os)(u:Un (uW X.stack) ch H H' s.heap s'.heap)(hok:mI X.prog X.w H' s'.heap)(hg:AllBare s'.gens)
  (hch:∀b∈ch,(b∈X.ex\/X.s₀.heap.objs.size<=b)/\b≠X.env.locals/\(∀x c,X.env.cells.lookup x=some c->c≠b)/\∀p∈X.pn++pins,p.1≠b):aX X pins σ H' s':=by
 obtain⟨h',g',d',t',o'⟩:=s'
 have e:o'=s.os:=ho
 subst e
 exact I.call (g':=g') (t':=t') (d':=d') u hok hg hch
end
abbrev XK:=Value->Option Addr->Hp->Prop
abbrev St:=List (Option V)
abbrev VK:=V->Hp->Prop
abbrev TE:=St->Hp->VK->Prop
abbrev TT:=St->Hp->(Bool->Hp->Prop)->Prop
abbrev TA:=St->Hp->(List V->Hp->Prop)->Prop
structure gH where
 nx:St->Hp->Prop
 rt:VK
 bk:St->Hp->Prop:=fun _ _=>False
 ct:St->Hp->Prop:=fun _ _=>False
abbrev TS:=gH->St->Hp->Prop
def EP(X:Cx)(pins:List (Addr×Obj))(σ:St)(Q:VK)(u:Value)(s':Shared):Prop:=∃v H',aX X pins σ H' s'/\bF v u/\Q v H'
def TP(X:Cx)(pins:List (Addr×Obj))(σ:St)(Q:Bool->Hp->Prop)(b:Bool)(s':Shared):Prop:=∃H',aX X pins σ H' s'/\Q b H'
def AP(X:Cx)(pins:List (Addr×Obj))(σ:St)(Q:List V->Hp->Prop)(us:List Value)(s':Shared):Prop:=∃vs H',aX X pins σ H' s'/\bH vs us/\Q vs H'
def SP(X:Cx)(pins:List (Addr×Obj))(D:gH)(f:Flow)(s':Shared):Prop:=
 match f with
 |.next=>∃σ' H',aX X pins σ' H' s'/\D.nx σ' H'
 |.brk=>∃σ' H',aX X pins σ' H' s'/\D.bk σ' H'
 |.cont=>∃σ' H',aX X pins σ' H' s'/\D.ct σ' H'
 |.ret u=>∃v σ' H',aX X pins σ' H' s'/\bF v u/\D.rt v H'
def PE(X:Cx)(e:Expr)(t:TE):Prop:=
 ∀(pins:List (Addr×Obj)) (s:Shared) (σ:St) (H:Hp) (Q:VK),aX X pins σ H s->t σ H Q->wpAny (model X.prog X.w) X.A (eval e X.env) (EP X pins σ Q) X.xe s
def PT(X:Cx)(e:Expr)(t:TT):Prop:=
 ∀(pins:List (Addr×Obj)) (s:Shared) (σ:St) (H:Hp) (Q:Bool->Hp->Prop),aX X pins σ H s->t σ H Q->wpAny (model X.prog X.w) X.A (isTrue e X.env (eval e X.env)) (TP X pins σ Q) X.xe s
def PW(X:Cx)(e:Expr)(t:TT):Prop:=
 ∀(whole:Sem Value) (pins:List (Addr×Obj)) (s:Shared) (σ:St) (H:Hp) (Q:Bool->Hp->Prop),aX X pins σ H s->t σ H Q->wpAny (model X.prog X.w) X.A (isTrue e X.env whole) (TP X pins σ Q) X.xe s
theorem PW.pt{X:Cx}{e:Expr}{t:TT}(h:PW X e t):PT X e t:=h _
def PA(X:Cx)(es:List Expr)(t:TA):Prop:=
 ∀(pos:Pos) (pins:List (Addr×Obj)) (s:Shared) (σ:St) (H:Hp) (Q:List V->Hp->Prop),aX X pins σ H s->t σ H Q->wpAny (model X.prog X.w) X.A (spliced (backTo pos (starEach es X.env))) (AP X pins σ Q) X.xe s
def PS(X:Cx)(st:Stmt)(t:TS):Prop:=
 ∀(pins:List (Addr×Obj)) (s:Shared) (σ:St) (H:Hp) (D:gH),aX X pins σ H s->t D σ H->wpAny (model X.prog X.w) X.A (exec st X.env) (SP X pins D) X.xe s
def uR(X:Cx)(st:List Stmt)(t:TS):Prop:=
 ∀(pins:List (Addr×Obj)) (s:Shared) (σ:St) (H:Hp) (D:gH),aX X pins σ H s->t D σ H->wpAny (model X.prog X.w) X.A (execs st X.env) (SP X pins D) X.xe s
theorem cO{α:Type}{t:Sem α}{Q Q':α->Shared->Prop}{M:Model}{A:Around}{E:Value->Shared->Prop}{s:Shared}(h:wpAny M A t Q E s)(hQ:∀a s,Q a s->Q' a s):wpAny M A t Q' E s:=fg h hQ fun _ _ x=>x
section
variable {X:Cx}
inductive jE(i:Nat)(σ:St)(H:Hp)(Q:VK):Prop
 |mk:∀v,(σ[i]?=some (some v))->(Q v H)->jE i σ H Q
def tC(v:V):TE:=fun _ H Q=>Q v H
theorem aX5{i:Nat}{x:Str}{pos:Pos}(hN:X.N[i]?=some x)(hv:Vis X.env.scope x)(hd:autoParam ((x==("__debug__": Str))=false) Rq1._auto_1)(hcd:autoParam ((x==("__classdict__": Str))=false) Rq1._auto_1):PE X (.Name x pos) (jE i):=by
 intro pins s σ H Q I h
 obtain⟨v,e,h⟩:=h
 obtain⟨m,hn,hl⟩:=I.loc
 obtain⟨u,r,l⟩:=hl i x v hN e hv
 have fin:EP X pins σ Q u s:=⟨v,H,I,r,h⟩
 rcases l with⟨hk,hm⟩|⟨hk,c,hc,hcell⟩
 ·exact yw (vw I.ok.kind hk hn hm fin) hd
 ·rcases hk with hk|hk
  ·exact yw (ww I.ok.kind hk hc hcell fin) hd
  ·exact yw (wpAny_loadName_free I.ok.kind hk hc hcell fin hcd) hd
theorem aD{i j pos}:PE X (.Constant (.int i) j pos) (tC (.int i)):=fun _ _ _ H _ I h=>wpAny_Constant_int ⟨.int i,H,I.tok _,⟨_,rfl⟩,h⟩
theorem yU{b j pos}:PE X (.Constant (.bool b) j pos) (tC (.bl b)):=fun _ _ _ H _ I h=>Constant_bool ⟨.bl b,H,I,rfl,h⟩
theorem aI{x j pos}:PE X (.Constant (.str x) j pos) (tC (.str x)):=fun _ _ _ H _ I h=>Calls.Constant_str ⟨.str x,H,I.tok _,⟨_,rfl⟩,h⟩
def Gl(X:Cx)(x:Str):Prop:=X.env.kindOf x=some .globalImplicit
theorem vL{E:Value->Shared->Prop}{pins:List (Addr×Obj)}{s:Shared}{σ:St}{H:Hp}{x:Str}{u:Value}{pos:Pos}{Q:Value->Shared->Prop}(I:aX X pins σ H s)(hg:Gl X x)(hm:X.mg x=some u)(h:Q u s)
  (hd:autoParam ((x==("__debug__": Str))=false) Rq1._auto_1):wpAny (model X.prog X.w) X.A (eval (.Name x pos) X.env) Q E s:=
 si I.ok.kind hg (Calls.loadGlobal_global (by rw[I.ok.glob];exact I.mod.glob.keeps I.bk) hm h) hd
theorem iS{E:Value->Shared->Prop}{pins:List (Addr×Obj)}{s:Shared}{σ:St}{H:Hp}{x:Str}{u:Value}{pos:Pos}{Q:Value->Shared->Prop}(I:aX X pins σ H s)(hg:Gl X x)(hm:X.mg x=none)(hv:bootBuiltins x=some u)(h:Q u s)
  (hn:autoParam (x≠"__name__") Rq1._auto_1) (hd:autoParam ((x==("__debug__": Str))=false) Rq1._auto_1):wpAny (model X.prog X.w) X.A (eval (.Name x pos) X.env) Q E s:=by
 obtain⟨mb,h1,h2⟩:=I.mod.blt
 exact si I.ok.kind hg (Calls.loadGlobal_builtin (by rw[I.ok.glob];exact I.mod.glob.keeps I.bk) hm (by rw[I.ok.blt];exact h1.keeps I.bk) ((h2 x hn).trans hv) h) hd
theorem aI4{x:Str}{v:V}{u:Value}{pos:Pos}(hg:Gl X x)(hm:X.mg x=some u)(r:bF v u)(hd:autoParam ((x==("__debug__": Str))=false) Rq1._auto_1):PE X (.Name x pos) (tC v):=
 fun _ _ _ H _ I h=>vL I hg hm ⟨v,H,I,r,h⟩ hd
theorem bM3{x:Str}{v:V}{u:Value}{pos:Pos}(hg:Gl X x)(hm:X.mg x=none)(hv:bootBuiltins x=some u)(r:bF v u)(hn:autoParam (x≠"__name__") Rq1._auto_1)(hd:autoParam ((x==("__debug__": Str))=false) Rq1._auto_1):PE X (.Name x pos) (tC v):=
 fun _ _ _ H _ I h=>iS I hg hm hv ⟨v,H,I,r,h⟩ hn hd
variable {a b:Expr}{ta tb:TE}{pos:Pos}
def PC(X:Cx)(op:CmpOp)(a b:Expr)(t:TE):Prop:=
 ∀(pins:List (Addr×Obj)) (s:Shared) (σ:St) (H:Hp) (Q:VK),aX X pins σ H s->t σ H Q ->
  wpAny (model X.prog X.w) X.A (eval a X.env) (fun v s₁=>wpAny (model X.prog X.w) X.A (eval b X.env) (fun u s₂=>wpAny (model X.prog X.w) X.A (compareOp op v u) (EP X pins σ Q) X.xe s₂) X.xe s₁) X.xe s
theorem yQ(b:Expr){op:CmpOp}(h:op≠ .In)(h2:op≠ .NotIn):behindInMarks op b=false:=by
 have e1:(op==CmpOp.In)=false:=by cases op<;>first|rfl|exact absurd rfl h
 have e2:(op==CmpOp.NotIn)=false:=by cases op<;>first|rfl|exact absurd rfl h2
 cases b<;>simp[behindInMarks,e1,e2]
inductive BlK(x:V)(k:Bool->Prop):Prop
 |mk:∀c,(x= .bl c)->(k c)->BlK x k
def tB(t:TE):TT:=fun σ H Q=>t σ H fun x H1=>BlK x fun c=>Q c H1
theorem cA6{op:CmpOp}{t:TE}(h:PC X op a b t)(h1:autoParam (behindInMarks op b=false) Rq10._auto_1):PE X (.Compare a [op] [b] pos) t:=fun pins s σ H Q I hw=>wpAny_Compare1 (h pins s σ H Q I hw) h1
theorem aY0{op:CmpOp}{t:TE}(h:PC X op a b t)(h1:autoParam (behindInMarks op b=false) Rq10._auto_1):PT X (.Compare a [op] [b] pos) (tB t):=by
 intro pins s σ H Q I hw
 refine vk (cO (h pins s σ H _ I hw) fun v s1 h1=>cO h1 fun u s2 h2=>cO h2 fun c s3 ⟨x,H1,I1,r1,q1⟩=>?_) h1
 obtain⟨d,rfl,q⟩:=q1
 cases r1
 exact gh ⟨H1,I1,q⟩
theorem fE{e:Expr}{t:TE}(h:PE X e t)(he:autoParam (∀whole,isTrue e X.env whole=(do let v <-whole;standAt e.pos;holding [v] (truthy v))) Rq4._auto_1):PT X e (tB t):=by
 intro pins s σ H Q I hw
 refine isTrue_plain (cO (h pins s σ H _ I hw) ?_) (he _);rintro v s1 ⟨x,H1,I1,r1,q1⟩
 obtain⟨d,rfl,q⟩:=q1
 cases r1
 exact gh ⟨H1,I1,q⟩
variable {tA tB':TT}{bN:List Expr}
def cR2(t u:TT):TT:=fun σ H Q=>t σ H fun c H1=>if c=true then u σ H1 Q else Q false H1
def tOr(t u:TT):TT:=fun σ H Q=>t σ H fun c H1=>if c=true then Q true H1 else u σ H1 Q
def cR8(t:TT):TT:=fun σ H Q=>t σ H fun c H1=>Q (!c) H1
theorem fY(ha:PT X a tA):PW X (.BoolOp .And [a] pos) tA:=by
 intro wh pins s σ H Q I h
 refine isTrue_and (cO (ha pins s σ H Q I h) fun c s1 e=>?_)
 cases c with
 |true=>exact isTrue_and_nil e
 |false=>exact e
theorem vR(ha:PT X a tA):PW X (.BoolOp .Or [a] pos) tA:=by
 intro wh pins s σ H Q I h
 refine isTrue_or (cO (ha pins s σ H Q I h) fun c s1 e=>?_)
 cases c with
 |false=>exact isTrue_or_nil e
 |true=>exact e
theorem gM(ha:PT X a tA)(hb:PW X (.BoolOp .And (b::bN) pos) tB'):PW X (.BoolOp .And (a::b::bN) pos) (cR2 tA tB'):=by
 intro wh pins s σ H Q I h
 refine isTrue_and (cO (ha pins s σ H _ I h) ?_);rintro c s1 ⟨H1,I1,q1⟩
 cases c with
 |true=>exact hb wh pins s1 σ H1 Q I1 q1
 |false=>exact⟨H1,I1,q1⟩
theorem aF4(ha:PT X a tA)(hb:PW X (.BoolOp .Or (b::bN) pos) tB'):PW X (.BoolOp .Or (a::b::bN) pos) (tOr tA tB'):=by
 intro wh pins s σ H Q I h
 refine isTrue_or (cO (ha pins s σ H _ I h) ?_);rintro c s1 ⟨H1,I1,q1⟩
 cases c with
 |true=>exact⟨H1,I1,q1⟩
 |false=>exact hb wh pins s1 σ H1 Q I1 q1
theorem pC(ha:PT X a tA):PT X (.UnaryOp .Not a pos) (cR8 tA):=by
 intro pins s σ H Q I h
 exact isTrue_not (ha pins s σ H (fun c H1=>Q (!c) H1) I h)
def bR0(ta tb:TE):TE:=fun σ H Q=>ta σ H fun x H1=>BlK x fun c=>if c=true then tb σ H1 Q else Q (.bl false) H1
def cS6(ta tb:TE):TE:=fun σ H Q=>ta σ H fun x H1=>BlK x fun c=>if c=true then Q (.bl true) H1 else tb σ H1 Q
def cO3(ta:TE):TE:=fun σ H Q=>ta σ H fun x H1=>BlK x fun c=>Q (.bl (!c)) H1
theorem kN{op}{t:TE}(h:PE X a t):PE X (.BoolOp op [a] pos) t:=fun pins s σ H Q I hw=>BoolOp_one (h pins s σ H Q I hw)
theorem sK(ha:PE X a ta)(hb:PE X (.BoolOp .And (b::bN) pos) tb):PE X (.BoolOp .And (a::b::bN) pos) (bR0 ta tb):=by
 intro pins s σ H Q I h
 refine BoolOp_and (cO (ha pins s σ H _ I h) ?_);rintro v s1 ⟨x,H1,I1,r1,q1⟩
 obtain⟨c,rfl,q1⟩:=q1
 cases r1
 refine gh ?_
 cases c with
 |true=>exact hb pins s1 σ H1 Q I1 q1
 |false=>exact⟨.bl false,H1,I1,rfl,q1⟩
theorem aJ1(ha:PE X a ta)(hb:PE X (.BoolOp .Or (b::bN) pos) tb):PE X (.BoolOp .Or (a::b::bN) pos) (cS6 ta tb):=by
 intro pins s σ H Q I h
 refine BoolOp_or (cO (ha pins s σ H _ I h) ?_);rintro v s1 ⟨x,H1,I1,r1,q1⟩
 obtain⟨c,rfl,q1⟩:=q1
 cases r1
 refine gh ?_
 cases c with
 |false=>exact hb pins s1 σ H1 Q I1 q1
 |true=>exact⟨.bl true,H1,I1,rfl,q1⟩
theorem bX1(ha:PE X a ta):PE X (.UnaryOp .Not a pos) (cO3 ta):=by
 intro pins s σ H Q I h
 refine UnaryOp_ (cO (ha pins s σ H _ I h) ?_);rintro v s1 ⟨x,H1,I1,r1,q1⟩
 obtain⟨c,rfl,q1⟩:=q1
 cases r1
 exact not_of (gh ⟨.bl (!c),H1,I1,rfl,q1⟩)
def tIf(t:TT)(ta tb:TE):TE:=fun σ H Q=>t σ H fun c H1=>if c=true then ta σ H1 Q else tb σ H1 Q
theorem mU{c:Expr}(hc:PT X c tA)(ha:PE X a ta)(hb:PE X b tb):PE X (.IfExp c a b pos) (tIf tA ta tb):=by
 intro pins s σ H Q I h
 refine wpAny_IfExp (cO (hc pins s σ H _ I h) ?_);rintro d s1 ⟨H1,I1,q1⟩
 cases d with
 |true=>exact ha pins s1 σ H1 Q I1 q1
 |false=>exact hb pins s1 σ H1 Q I1 q1
end
def bA(K:PySem.W.Frag)(H:Hp)(a:Addr)(xs:List V):Prop:=
 Rd H a (.lst xs) \/
  ∃(o:Obj) (its:Array Value) (n:Nat),K.lookup a=some o/\o.cls= .type "list"/\o.dict=none/\o.data= .seq its n/\its.size<=sizeLine/\bH xs its.toList
def aQ(K:PySem.W.Frag)(H:Hp)(a:Addr)(xs:List V):Prop:=
 Rd H a (.tup xs) \/
  ∃(o:Obj) (its:Array Value) (n:Nat),K.lookup a=some o/\o.cls= .type "tuple"/\o.data= .seq its n/\its.size<=sizeLine/\bH xs its.toList
def cR7:Value->Option V
 |.none=>some .non
 |.bool b=>some (.bl b)
 |.int i _=>some (.int i)
 |.str x _=>some (.str x)
 |.bytes b _=>some (.byt b)
 |.float b _=>some (.flt b)
 |.ref a=>some (.ref a)
 |.type n=>some (.ty n)
 |_=>none
theorem bF.abs{x:V}{u:Value}(r:bF x u):cR7 u=some x:=by
 cases x with
 |non=>cases r;rfl
 |bl _=>cases r;rfl
 |int _=>obtain⟨t,rfl⟩:=r;rfl
 |str _=>obtain⟨t,rfl⟩:=r;rfl
 |byt _=>obtain⟨t,rfl⟩:=r;rfl
 |flt _=>obtain⟨t,rfl⟩:=r;rfl
 |ref _=>cases r;rfl
 |ty _=>cases r;rfl
theorem bF.inj{x y:V}{u:Value}(r:bF x u)(q:bF y u):x=y:=dt (r.abs.symm.trans q.abs)
theorem bH.inj:∀{xs ys:List V}{us:List Value},bH xs us->bH ys us->xs=ys
 |_,_,_,.nil,.nil=>rfl
 |_,_,_,.cons r t,.cons r' t'=>by rw[r.inj r',bH.inj t t']
section
variable {X:Cx}{pins:List (Addr×Obj)}{σ:St}{H:Hp}{s:Shared}{a:Addr}{xs ys:List V}
theorem bA.of{K:PySem.W.Frag}(h:H a=some (.lst xs)):bA K H a xs:= .inl (.inl h)
theorem aQ.of{K:PySem.W.Frag}(h:H a=some (.tup xs)):aQ K H a xs:= .inl (.inl h)
theorem aX.list(I:aX X pins σ H s)(h:bA X.K H a xs):∃its:List Value,bH xs its/\PlainL s.heap a its.toArray/\xs.length<=sizeLine:=by
 rcases h with h|⟨o,its,n,hk,hc,hd,hs,hz,r⟩
 ·obtain⟨z,its,n,r,e⟩:=h.ok I.hok
  exact⟨its,r,⟨_,n,e,rfl,rfl,rfl⟩,z⟩
 ·refine⟨its.toList,r,⟨o,n,I.kIn a o hk,hc,hd,by simpa using hs⟩,?_⟩
  have e:=r.length
  simp only[Array.length_toList] at e
  lia
theorem aX.tuple(I:aX X pins σ H s)(h:aQ X.K H a xs):∃its:List Value,bH xs its/\IsTup s.heap a its.toArray/\xs.length<=sizeLine:=by
 rcases h with h|⟨o,its,n,hk,hc,hs,hz,r⟩
 ·obtain⟨z,its,r,p⟩:=h.ok I.hok
  exact⟨its,r,p.is,z⟩
 ·refine⟨its.toList,r,⟨o,I.kIn a o hk,hc,n,by simpa using hs⟩,?_⟩
  have e:=r.length
  simp only[Array.length_toList] at e
  lia
theorem aX.list_inj(I:aX X pins σ H s)(h:bA X.K H a xs)(h':bA X.K H a ys):xs=ys:=by
 obtain⟨its,r,⟨o,n,e,_,_,d⟩,_⟩:=I.list h
 obtain⟨its',r',⟨o',n',e',_,_,d'⟩,_⟩:=I.list h'
 rw[e] at e';cases e'
 rw[d] at d'
 injection d' with d1 _
 have:its=its':=by simpa using eo Array.toList d1
 subst this
 exact r.inj r'
theorem aX.tuple_inj(I:aX X pins σ H s)(h:aQ X.K H a xs)(h':aQ X.K H a ys):xs=ys:=by
 obtain⟨its,r,⟨o,e,_,n,d⟩,_⟩:=I.tuple h
 obtain⟨its',r',⟨o',e',_,n',d'⟩,_⟩:=I.tuple h'
 rw[e] at e';cases e'
 rw[d] at d'
 injection d' with d1 _
 have:its=its':=by simpa using eo Array.toList d1
 subst this
 exact r.inj r'
end
abbrev Cx.wish(X:Cx)(E:Value->Shared->Prop):Cx:={ X with xe:=E }
abbrev Cx.nox(X:Cx):Cx:=X.wish fun _ _=>False
theorem Cx.Ok.wish{X:Cx}(ok:X.Ok)(E:Value->Shared->Prop):(X.wish E).Ok:=
 ⟨ok.mod,ok.kind,ok.glob,ok.blt,ok.above,ok.inj,ok.has,ok.cab,ok.hd,ok.frames,ok.stk,ok.exf,ok.bs,ok.bsz,ok.noex,ok.exfs,ok.funs,ok.frf⟩
theorem Cx.Ok.unwish{X:Cx}{E:Value->Shared->Prop}(ok:(X.wish E).Ok):X.Ok:=
 ⟨ok.mod,ok.kind,ok.glob,ok.blt,ok.above,ok.inj,ok.has,ok.cab,ok.hd,ok.frames,ok.stk,ok.exf,ok.bs,ok.bsz,ok.noex,ok.exfs,ok.funs,ok.frf⟩
section
variable {X:Cx}{pins:List (Addr×Obj)}{σ:St}{H:Hp}{s:Shared}{E:Value->Shared->Prop}
theorem aX.wish(I:aX X pins σ H s)(E:Value->Shared->Prop):aX (X.wish E) pins σ H s:=⟨I.ok.wish E,I.os,I.bare,I.base,I.loc,I.cell,I.free,I.freeC,I.pin,I.hok,I.len⟩
theorem aX.unwish(I:aX (X.wish E) pins σ H s):aX X pins σ H s:=⟨I.ok.unwish,I.os,I.bare,I.base,I.loc,I.cell,I.free,I.freeC,I.pin,I.hok,I.len⟩
theorem SP.unwish{D:gH}{f:Flow}{s':Shared}(h:SP (X.wish E) pins D f s'):SP X pins D f s':=by
 cases f with
 |next=>obtain⟨σ',H',I,q⟩:=h;exact⟨σ',H',I.unwish,q⟩
 |brk=>obtain⟨σ',H',I,q⟩:=h;exact⟨σ',H',I.unwish,q⟩
 |cont=>obtain⟨σ',H',I,q⟩:=h;exact⟨σ',H',I.unwish,q⟩
 |ret u=>obtain⟨v,σ',H',I,r,q⟩:=h;exact⟨v,σ',H',I.unwish,r,q⟩
theorem uR.nox{st:List Stmt}{t:TS}(h:uR X.nox st t):uR X st t:=fun pins s σ H D I hw =>
 fg (h pins s σ H D (I.wish _) hw) (fun _ _ q=>q.unwish) fun _ _ z=>False.elim z
end
section
variable {X:Cx}{st:Stmt}{bN:List Stmt}{t u:TS}{e:Expr}{te:TE}{pos:Pos}
def tNext:TS:=fun D σ H=>D.nx σ H
def bJ1(t u:TS):TS:=fun D σ H=>t { D with nx:=u D } σ H
theorem aS:uR X [] tNext:=fun _ _ σ H _ I h=>ql ⟨σ,H,I,h⟩
theorem aF(h1:PS X st t)(h2:uR X bN u):uR X (st::bN) (bJ1 t u):=by
 intro pins s σ H D I h
 refine yn (cO (h1 pins s σ H { D with nx:=u D } I h) fun f s1 q=>?_)
 cases f with
 |next =>
  obtain⟨σ',H',I',q⟩:=q
  exact h2 pins s1 σ' H' D I' q
 |ret v=>exact q
 |brk=>exact q
 |cont=>exact q
theorem aE(h1:PS X st t):uR X [st] t:=by
 intro pins s σ H D I h
 refine yn (cO (h1 pins s σ H D I h) fun f s1 q=>?_)
 cases f with
 |next=>exact ql q
 |ret v=>exact q
 |brk=>exact q
 |cont=>exact q
theorem aX.quiet{pins:List (Addr×Obj)}{σ:St}{H:Hp}{s:Shared}(I:aX X pins σ H s):interactive X.env=false:=by simp[interactive,I.ok.kind]
def cL2(te:TE):TS:=fun D σ H=>te σ H fun _ H1=>D.nx σ H1
theorem bP(he:PE X e te)(hs:autoParam (swapsWith e none pos.line X.env=pure false) Rq0._auto_1):PS X (.Expr e pos) (cL2 te):=by
 intro pins s σ H D I h
 refine wpAny_Expr_any (cO (he pins s σ H _ I h) ?_) I.quiet hs;rintro v s1 ⟨x,H1,I1,r1,q1⟩;exact⟨σ,H1,I1,q1⟩
def bL4(te:TE):TS:=fun D σ H=>te σ H D.rt
theorem aK(he:PE X e te):PS X (.Return (some e) pos) (bL4 te):=by
 intro pins s σ H D I h
 refine wpAny_Return_some (cO (he pins s σ H _ I h) ?_);rintro v s1 ⟨x,H1,I1,r1,q1⟩;exact⟨x,σ,H1,I1,r1,q1⟩
def cD4(c:TT)(t u:TS):TS:=fun D σ H=>c σ H fun b H1=>if b=true then t D σ H1 else u D σ H1
theorem bC{c:Expr}{a b:List Stmt}{tc:TT}(hc:PT X c tc)(ha:uR X a t)(hb:uR X b u):PS X (.If c a b pos) (cD4 tc t u):=by
 intro pins s σ H D I h
 refine wpAny_If (cO (hc pins s σ H _ I h) ?_);rintro d s1 ⟨H1,I1,q1⟩
 cases d with
 |true=>exact ha pins s1 σ H1 D I1 q1
 |false=>exact hb pins s1 σ H1 D I1 q1
def tNever:TS:=fun _ _ _=>False
theorem fS{sts:List Stmt}:uR X sts tNever:=fun _ _ _ _ _ _ h=>h.elim
end
abbrev TG:=V->St->Hp->(St->Hp->Prop)->Prop
abbrev TGs:=List V->St->Hp->(St->Hp->Prop)->Prop
def PG(X:Cx)(target:Expr)(t:TG):Prop:=
 ∀(pins:List (Addr×Obj)) (s:Shared) (σ:St) (H:Hp) (v:V) (u:Value) (Q:St->Hp->Prop),aX X pins σ H s->bF v u->t v σ H Q ->
  wpAny (model X.prog X.w) X.A (assign target X.env u) (fun _ s'=>∃σ' H',aX X pins σ' H' s'/\Q σ' H') X.xe s
def PGs(X:Cx)(ts:List Expr)(t:TGs):Prop:=
 ∀(pins:List (Addr×Obj)) (s:Shared) (σ:St) (H:Hp) (vs:List V) (us:List Value) (Q:St->Hp->Prop),aX X pins σ H s->bH vs us->t vs σ H Q ->
  wpAny (model X.prog X.w) X.A (assignInOrder ((assignEach ts X.env).map (·.2)) us) (fun _ s'=>∃σ' H',aX X pins σ' H' s'/\Q σ' H') X.xe s
abbrev TSet:=V->V->V->Hp->(Hp->Prop)->Prop
def cB4(X:Cx)(t:TSet):Prop:=
 ∀(pins:List (Addr×Obj)) (s:Shared) (σ:St) (H:Hp) (o i v:V) (ov iv u:Value) (Q:Hp->Prop),aX X pins σ H s->bF o ov->bF i iv->bF v u->t o i v H Q ->
  wpAny (model X.prog X.w) X.A (setItem ov iv u) (fun _ s'=>∃H',aX X pins σ H' s'/\Q H') X.xe s
abbrev TIp:=V->V->Hp->VK->Prop
def PIp(X:Cx)(op:Operator)(t:TIp):Prop:=
 ∀(pins:List (Addr×Obj)) (s:Shared) (σ:St) (H:Hp) (x y:V) (v u:Value) (Q:VK),aX X pins σ H s->bF x v->bF y u->t x y H Q ->
  wpAny (model X.prog X.w) X.A (inplaceOp op v u) (EP X pins σ Q) X.xe s
section
variable {X:Cx}{pos:Pos}
def rQ(i:Nat):TG:=fun v σ H Q=>Q (σ.set i (some v)) H
theorem pY{i:Nat}{x:Str}(hN:X.N.Nodup)(hi:X.N[i]?=some x)(hx:Loc X.env.scope x)(hf:autoParam (X.fn x=true\/X.env.scope.names.lookup x=some .local) Rq2._auto_1):PG X (.Name x pos) (rQ i):=by
 intro pins s σ H v u Q I r h
 exact ya (kE I hN hi hx r (fun s' I'=>⟨_,H,I',h⟩) hf)
def gNil:TGs:=fun vs σ H Q=>vs=[]/\Q σ H
inductive bQ8(t:TG)(u:TGs)(vs:List V)(σ:St)(H:Hp)(Q:(St->Hp->Prop)):Prop
 |mk:∀v r,(vs=v::r)->(t v σ H fun σ' H'=>u r σ' H' Q)->bQ8 t u vs σ H Q
theorem eY:PGs X [] gNil:=by
 intro pins s σ H vs us Q I r h
 obtain⟨e,h⟩:=h
 subst e
 cases r
 exact yb ⟨σ,H,I,h⟩
theorem aZ{e:Expr}{es:List Expr}{t:TG}{u:TGs}(h1:PG X e t)(h2:PGs X es u)
  (hs:autoParam ((assignEach (e::es) X.env).map (·.2)=assign e X.env::(assignEach es X.env).map (·.2)) Rq0._auto_1):PGs X (e::es) (bQ8 t u):=by
 intro pins s σ H vs us Q I r h
 obtain⟨v,vr,e1,h⟩:=h
 subst e1
 cases r with
 |cons r rr =>
  rw[hs]
  refine sf (cO (h1 pins s σ H _ _ _ I r h) ?_);rintro _ s1 ⟨σ1,H1,I1,q1⟩
  exact h2 pins s1 σ1 H1 _ _ Q I1 rr q1
inductive cE5(K:PySem.W.Frag)(n:Nat)(t:TGs)(v:V)(σ:St)(H:Hp)(Q:(St->Hp->Prop)):Prop
 |mk:∀a xs,(v= .ref a)->(aQ K H a xs)->(xs.length=n)->(t xs σ H Q)->cE5 K n t v σ H Q
theorem iP{es:List Expr}{k:Nat}{t:TGs}{n:Nat}(hc:X.calm=true)(h:PGs X es t)
  (hn:autoParam ((assignEach es X.env).length=n) Rq0._auto_1) (hst:autoParam ((assignEach es X.env).findIdx? (·.1)=none) Rq0._auto_1):PG X (.Tuple es k pos) (cE5 X.K n t):=by
 intro pins s σ H v u Q I r hw
 obtain⟨a,xs,e1,hq,hl,hw⟩:=hw
 subst e1
 cases r
 obtain⟨its,rv,ht,hz⟩:=I.tuple hq
 refine assign_Tuple_tuple (I.ok.hd hc) ht (by simp[hn, <-hl,rv.length]) hst fun h' hx=>?_
 have I1:aX X pins σ H { s with heap:=h' }:=I.kept (t':=s.toks) fun b o e=>hx b o (cp (ax e)) e
 exact h pins _ σ H xs _ Q I1 (by simpa using rv) hw
def bA3(te:TE)(g:TG):TS:=fun D σ H=>te σ H fun x H1=>g x σ H1 D.nx
theorem rC{tg e:Expr}{te:TE}{g:TG}(he:PE X e te)(hg:PG X tg g)(hs:autoParam (swapsWithSole [tg] e pos.line X.env=pure false) Rq0._auto_1)(hw:autoParam (swappedStores [tg] e X.env=pure none) Rq0._auto_1)
  (h1:autoParam ((assignEach [tg] X.env).map (·.2)=[assign tg X.env]) Rq0._auto_1):PS X (.Assign [tg] e pos) (bA3 te g):=by
 intro pins s σ H D I h
 refine wpAny_Assign_stores (cO (he pins s σ H _ I h) ?_) hs hw;rintro v s1 ⟨x,H1,I1,r1,q1⟩
 rw[h1]
 exact cO (hg pins s1 σ H1 x v _ I1 r1 q1) fun _ s2 q=>q
theorem kQ{i:Nat}{x:Str}{e:Expr}{te:TE}{pos':Pos}(hN:X.N.Nodup)(hi:X.N[i]?=some x)(hx:Loc X.env.scope x)(he:PE X e te)(hs:autoParam (swapsWith e (some (.Name x pos')) pos.line X.env=pure false) Rq0._auto_1)(hf:autoParam (X.fn x=true\/X.env.scope.names.lookup x=some .local) Rq2._auto_1) :
  PS X (.Assign [.Name x pos'] e pos) (bA3 te (rQ i)):=by
 intro pins s σ H D I h
 refine wpAny_Assign_Name (cO (he pins s σ H _ I h) ?_) hs;rintro v s1 ⟨y,H1,I1,r1,q1⟩
 exact kE I1 hN hi hx r1 (fun s2 I2=>⟨_,H1,I2,q1⟩) hf
def cT7(i j:Nat)(ta:TA):TS:=fun D σ H=>ta σ H fun vs H1=>∃v w,vs=[v,w]/\D.nx ((σ.set i (some v)).set j (some w)) H1
theorem aS4{i j:Nat}{x y:Str}{a b:Expr}{ta:TA}{px py pt:Pos}{kt k2 pt2}(hc:X.calm=true)(hN:X.N.Nodup)(hi:X.N[i]?=some x)(hj:X.N[j]?=some y)(hij:i≠j)
  (hx:X.env.scope.names.lookup x=some .local) (hy:X.env.scope.names.lookup y=some .local) (ha:PA X [a,b] ta)
  (hw:swappedStores [.Tuple [.Name x px,.Name y py] kt pt] (.Tuple [a,b] k2 pt2) X.env=pure (some [x,y]))
  (hs:autoParam (swapsWithSole [.Tuple [.Name x px,.Name y py] kt pt] (.Tuple [a,b] k2 pt2) pos.line X.env=pure false) Rq0._auto_1) :
  PS X (.Assign [.Tuple [.Name x px,.Name y py] kt pt] (.Tuple [a,b] k2 pt2) pos) (cT7 i j ta):=by
 intro pins s σ H D I h
 rw[exec_Assign_arm]
 refine ag (wp ?_)
 rw[hs]
 refine ag (bv ?_)
 rw[ay (by decide)]
 refine ag (Tuple_ (cO (ha _ pins s σ H _ I h) ?_));rintro us s1 ⟨vs,H1,I1,r1,q1⟩
 obtain⟨v,w,e1,q1⟩:=q1
 subst e1
 obtain⟨u1,u2,rfl,rv,rw'⟩:∃u1 u2,us=[u1,u2]/\bF v u1/\bF w u2:=by
  cases r1 with
  |cons p q =>
   cases q with
   |cons p' q' =>
    cases q'
    exact⟨_,_,rfl,p,p'⟩
 refine iu ?_ (by show 2<=sizeLine;decide)
 have I2:aX X pins σ H1 { s1 with heap:=s1.heap.push { cls:= .type "tuple",data:= .seq [u1,u2].toArray } }:=I1.kept (t':=s1.toks) fun b o e=>ac _ e
 rw[hw]
 refine ag (bv ?_)
 show wpAny (model X.prog X.w) X.A (do rule "assign.swapped-stores";let items <-unpackItems (.ref s1.heap.objs.size) 2 none;assignInOrder [fun v=>bindName X.env y v,fun v=>bindName X.env x v] items.reverse;pure Flow.next) _ _ _
 refine ag (yy (ag (unpackItems_tuple (items:= #[u1,u2]) (I.ok.hd hc) (IsTup.new s1.heap _) fun h' hx'=>?_)))
 have I3:=I2.kept (h':=h') (t':=s1.toks) fun b o e=>hx' b o (cp (ax e)) e
 show wpAny _ _ (assignInOrder [fun v=>bindName X.env y v,fun v=>bindName X.env x v] [u2,u1]>>=fun _=>pure Flow.next) _ _ _
 refine ag (sf (wpAny_bindName (kE I3 hN hj (.inl hy) rw' (fun s2 I4=>?_) (.inr hy))))
 refine sf (wpAny_bindName (kE I4 hN hi (.inl hx) rv (fun s3 I5=>yb (bv ?_)) (.inr hx)))
 rw[List.set_comm _ _ (Ne.symm hij)] at I5
 exact⟨_,H1,I5,q1⟩
inductive cQ1(i:Nat)(te:TE)(ti:TIp)(D:gH)(σ:St)(H:Hp):Prop
 |mk:∀x,(σ[i]?=some (some x))->(te σ H fun y H1=>ti x y H1 fun z H2=>D.nx (σ.set i (some z)) H2)->cQ1 i te ti D σ H
theorem bV6{i:Nat}{x:Str}{e:Expr}{te:TE}{op:Operator}{ti:TIp}{pos':Pos}(hN:X.N.Nodup)(hi:X.N[i]?=some x)(hx:Loc X.env.scope x)(he:PE X e te)(ho:PIp X op ti)(hf:autoParam (X.fn x=true\/X.env.scope.names.lookup x=some .local) Rq2._auto_1) :
  PS X (.AugAssign (.Name x pos') op e pos) (cQ1 i te ti):=by
 intro pins s σ H D I h
 obtain⟨v,e1,h⟩:=h
 obtain⟨m,hn,hl⟩:=I.loc
 have vis:Vis X.env.scope x:=by rcases hx with k|k;exact .inl k;exact .inr (.inl k)
 obtain⟨u,r,l⟩:=hl i x v hi e1 vis
 refine wpAny_AugAssign_Name ?_
 have go:wpAny (model X.prog X.w) X.A (eval e X.env) (fun w s₂=>wpAny (model X.prog X.w) X.A (inplaceOp op u w) (fun r s₃=>wpAny (model X.prog X.w) X.A (storeName X.env x r) (fun _=>SP X pins D .next) X.xe s₃) X.xe s₂) X.xe s:=by
  refine cO (he pins s σ H _ I h) ?_;rintro w s1 ⟨y,H1,I1,r1,q1⟩
  refine cO (ho pins s1 σ H1 v y u w _ I1 r r1 q1) ?_;rintro z s2 ⟨zv,H2,I2,r2,q2⟩
  exact kE I2 hN hi hx r2 (fun s3 I3=>⟨_,H2,I3,q2⟩) hf
 rcases l with⟨hk,hm⟩|⟨hk,c,hc,hcell⟩
 ·exact vw I.ok.kind hk hn hm go
 ·rcases hk with hk|hk
  ·exact ww I.ok.kind hk hc hcell go
  ·rcases hx with k|k
   ·have:X.env.scope.names.lookup x=some .free:=hk
    rw[k] at this;cases this
   ·have:X.env.scope.names.lookup x=some .free:=hk
    rw[k] at this;cases this
def cH2(to ti te:TE)(tget:V->V->Hp->VK->Prop)(tip:TIp)(tset:TSet):TS:=fun D σ H=>to σ H fun o H1=>ti σ H1 fun i H2=>tget o i H2 fun x H3=>te σ H3 fun y H4=>tip x y H4 fun z H5=>tset o i z H5 fun H6=>D.nx σ H6
def cH5(X:Cx)(t:V->V->Hp->VK->Prop):Prop:=
 ∀(pins:List (Addr×Obj)) (s:Shared) (σ:St) (H:Hp) (o i:V) (ov iv:Value) (Q:VK),aX X pins σ H s->bF o ov->bF i iv->t o i H Q ->
  wpAny (model X.prog X.w) X.A (getItem ov iv) (EP X pins σ Q) X.xe s
theorem vE{o i e:Expr}{to ti te:TE}{tget:V->V->Hp->VK->Prop}{tip:TIp}{tset:TSet}{op:Operator}{tpos:Pos}(ho:PE X o to)(hi:PE X i ti)(hg:cH5 X tget)(he:PE X e te)(hp:PIp X op tip)(hs:cB4 X tset)
  (ha:autoParam (∀ov iv new,augStore i ov iv new=(do holding [new,ov,iv] (setItem ov iv new);release [new,ov,iv] [];pure .next)) Rq3._auto_1):PS X (.AugAssign (.Subscript o i tpos) op e pos) (cH2 to ti te tget tip tset):=by
 intro pins s σ H D I h
 refine wpAny_AugAssign_SubscriptAny (cO (ho pins s σ H _ I h) ?_) ha;rintro ov s1 ⟨x1,H1,I1,r1,q1⟩
 refine cO (hi pins s1 σ H1 _ I1 q1) ?_;rintro iv s2 ⟨x2,H2,I2,r2,q2⟩
 refine cO (hg pins s2 σ H2 x1 x2 ov iv _ I2 r1 r2 q2) ?_;rintro old s3 ⟨x3,H3,I3,r3,q3⟩
 refine cO (he pins s3 σ H3 _ I3 q3) ?_;rintro v s4 ⟨x4,H4,I4,r4,q4⟩
 refine cO (hp pins s4 σ H4 x3 x4 old v _ I4 r3 r4 q4) ?_;rintro new s5 ⟨x5,H5,I5,r5,q5⟩
 refine cO (hs pins s5 σ H5 x1 x2 x5 ov iv new _ I5 r1 r2 r5 q5) ?_;rintro _ s6 ⟨H6,I6,q6⟩;exact⟨σ,H6,I6,q6⟩
inductive ipI(f:Int->Int->Int)(x:V)(y:V)(H:Hp)(Q:VK):Prop
 |mk:∀i j,(x= .int i)->(y= .int j)->(Q (.int (f i j)) H)->ipI f x y H Q
theorem uV:PIp X .Add (ipI fun i j=>i+j):=by
 intro pins s σ H x y v u Q I r1 r2 h
 obtain⟨i,j,e1,e2,q⟩:=h
 subst e1;subst e2
 obtain⟨t,rfl⟩:=r1
 obtain⟨t',rfl⟩:=r2
 exact iadd_int ⟨.int _,H,I.tok _,⟨_,rfl⟩,q⟩
inductive bD0(c:TT)(tb:TS)(D:gH)(σ:St)(H:Hp):Prop
 |mk:∀W:Nat->St->Hp->Prop,((∃m,W m σ H))->(∀m σ H,W m σ H->c σ H fun b H1=>if b=true then ∃N:St->Hp->Prop,(∀σ' H',N σ' H'->∃m',m'<m/\W m' σ' H')/\tb { D with nx:=N,ct:=N,bk:=D.nx } σ H1 else D.nx σ H1)->bD0 c tb D σ H
theorem hJ{c:Expr}{body:List Stmt}{tc:TT}{tb:TS}(hp:PassesOwn (model X.prog X.w) X.A X.env X.xe)(hc:PT X c tc)(hb:uR X body tb):PS X (.While c body [] pos) (bD0 tc tb):=by
 intro pins s σ H D I h
 obtain⟨W,⟨m0,w0⟩,turn⟩:=h
 refine wpAny_While (codeAny_whileLoop (fun n s'=>∃σ' H',aX X pins σ' H' s'/\W n σ' H') ?_ m0 ⟨σ,H,I,w0⟩)
 rintro n s1 ⟨σ1,H1,I1,w1⟩
 refine jx hp (cO (hc pins s1 σ1 H1 _ I1 (turn n σ1 H1 w1)) ?_);rintro b s2 ⟨H2,I2,q2⟩
 cases b with
 |true =>
  obtain⟨N,hN,q2⟩:=q2
  rw[br rfl]
  refine jx hp (cO (hb pins s2 σ1 H2 _ I2 q2) fun f s3 q3=>?_)
  cases f with
  |next =>
   obtain⟨σ3,H3,I3,n3⟩:=q3
   obtain⟨m',hm,w3⟩:=hN σ3 H3 n3
   exact⟨m',hm,σ3,H3,I3,w3⟩
  |cont =>
   obtain⟨σ3,H3,I3,n3⟩:=q3
   obtain⟨m',hm,w3⟩:=hN σ3 H3 n3
   exact⟨m',hm,σ3,H3,I3,w3⟩
  |brk=>exact q3
  |ret v=>exact q3
 |false =>
  rw[ay bt]
  exact ql ⟨σ1,H2,I2,q2⟩
end
structure It where
 go:Nat->Hp->Prop
 yld:Nat->Hp->V->Hp->Prop
 stop:Nat->Hp->Prop
def lO(X:Cx)(pins:List (Addr×Obj))(H:Hp)(b:Addr):Prop:=
 H b=none/\b≠X.env.locals/\b∉X.fs/\(b∈X.ex\/X.s₀.heap.objs.size<=b)/\(∀x c,X.env.cells.lookup x=some c->c≠b)/\∀p∈X.pn++pins,p.1≠b
theorem aX.fpOk{X:Cx}{pins:List (Addr×Obj)}{σ:St}{H H':Hp}{s:Shared}{b:Addr}(I:aX X pins σ H s)(hb:s.heap.objs.size<=b)(hn:H' b=none):lO X pins H' b:=by
 refine⟨hn,dv (cy I.lt hb),I.nofs hb,.inr (cj I.sz hb),fun x c e z=>?_,fun p hp z=>?_⟩
 ·obtain⟨v,q⟩:=I.cell x c e
  exact absurd (cy q.lt (by rw[z];exact hb)) (gx _)
 ·exact absurd (cy (ax (I.pin p hp).1) (by rw[z];exact hb)) (gx _)
structure yO(P:Program)(w:World)(K:PySem.W.Frag)(tg:Expr)(J:It)(fp:List Addr)(it:Addr)(tn:Nat->Heap->Prop):Prop where
 mem:it∈fp
 obj:∀i h,tn i h->∀b∈fp,∃o,h.get? b=some o/\∀v,o.data≠ .cell v
 keep:∀i h h',tn i h->(∀b∈fp,∀o,h.get? b=some o->h'.get? b=some o)->tn i h'
 item:∀(X:Cx),X.prog=P->X.w=w->X.K=K->X.calm=true->∀(i:Nat) (pins:List (Addr×Obj)) (s:Shared) (σ:St) (H:Hp) (E:Value->Shared->Prop),aX X pins σ H s->(∀b∈fp,lO X pins H b)->tn i s.heap->J.go i H ->
  wpAny (model P w) X.A (pyNext (.ref it)) (fun r s1=>∃u,r=some u /\
   wpAny (model P w) X.A (letOwnedTupleGo tg (.ref it) u) (fun _ s2=>∃x H',aX X pins σ H' s2/\bF x u/\J.yld i H x H'/\tn (i+1) s2.heap/\∀b∈fp,H' b=none) E s1) E s
 done:∀(X:Cx),X.prog=P->X.w=w->X.K=K->X.calm=true->∀(i:Nat) (pins:List (Addr×Obj)) (s:Shared) (σ:St) (H:Hp) (E:Value->Shared->Prop),aX X pins σ H s->(∀b∈fp,lO X pins H b)->tn i s.heap->J.stop i H ->
  wpAny (model P w) X.A (pyNext (.ref it)) (fun r s1=>r=none/\aX X pins σ H s1) E s
 self:∀(A:Around) (i:Nat) (s:Shared) (Q:Value->Shared->Prop) (E:Value->Shared->Prop),tn i s.heap->Q (.ref it) s->wpAny (model P w) A (pyIter (.ref it)) Q E s
abbrev TI:=St->Hp->(It->Hp->Prop)->Prop
def PIE(X:Cx)(pins:List (Addr×Obj))(σ:St)(tg:Expr)(R:It->Hp->Prop)(itv:Value)(s2:Shared):Prop:=
 ∃(it:Addr) (fp:List Addr) (tn:Nat->Heap->Prop) (J:It) (H':Hp),itv= .ref it/\aX X pins σ H' s2/\yO X.prog X.w X.K tg J fp it tn/\tn 0 s2.heap/\(∀b∈fp,lO X pins H' b)/\R J H'
def PI(X:Cx)(tg iter:Expr)(wi:TI):Prop:=
 ∀(pins:List (Addr×Obj)) (s:Shared) (σ:St) (H:Hp) (R:It->Hp->Prop),aX X pins σ H s->wi σ H R ->
  wpAny (model X.prog X.w) X.A (eval iter X.env) (fun v s1=>wpAny (model X.prog X.w) X.A (pyIter v) (PIE X pins σ tg R) X.xe s1) X.xe s
theorem go_of{M : Model}{A : Around}{E : Value -> Shared -> Prop}{s : Shared}{tg : Expr}{it : Addr}{u : Value}{o : Obj}{n : String}{vs : Array Value}{Q : Unit -> Shared -> Prop}(ho : s.heap.get? it = some o)(hc : o.cls = .type n)(hd : o.data = .fields vs)
    (hn : ["enumerate", "zip", "dict_itemiterator", "dict_reverseitemiterator", "odict_iterator", "itertools.zip_longest", "itertools.pairwise"].contains n = false) (hQ : Q () s) : wpAny M A (letOwnedTupleGo tg (.ref it) u) Q E s:= by
  unfold letOwnedTupleGo
  cases tg<;>first
    | exact bv hQ
    | (cases u<;>first
        | exact bv hQ
        | (refine ag (wpAny_load ho ?_)
           rw[hc,hd]
           show wpAny M A (if (["enumerate", "zip", "dict_itemiterator", "dict_reverseitemiterator", "odict_iterator", "itertools.zip_longest", "itertools.pairwise"].contains n&&vs[0]? == some (rawInt _)) = true then _ else _) Q E s
           rw[ay (by intro h; rw[hn,Bool.false_and] at h; cases h)]
           exact bv hQ))
def Itl(K:PySem.W.Frag)(a:Addr):It:=
 ⟨fun i H=>∃xs x,bA K H a xs/\xs[i]?=some x,fun i H x H'=>H'=H/\∀xs,bA K H a xs->xs[i]?=some x,fun i H=>∃xs,bA K H a xs/\xs.length<=i⟩
def Itt(K:PySem.W.Frag)(a:Addr):It:=
 ⟨fun i H=>∃xs x,aQ K H a xs/\xs[i]?=some x,fun i H x H'=>H'=H/\∀xs,aQ K H a xs->xs[i]?=some x,fun i H=>∃xs,aQ K H a xs/\xs.length<=i⟩
def Itr(lo:Int)(n:Nat):It:=⟨fun i _=>i<n,fun i H x H'=>H'=H/\x= .int (lo+i),fun i _=>n<=i⟩
theorem aN2{P:Program}{w:World}{K:PySem.W.Frag}{tg:Expr}(a it:Addr):yO P w K tg (Itl K a) [it] it (fun i h=>h.IsListIter it a i) where
 mem:=by simp
 obj:=fun i h st b hb=>by
  have e:b=it:=by simpa using hb
  subst e
  obtain⟨o,e,c,d⟩:=st
  exact⟨o,e,fun v z=>by rw[d] at z;cases z⟩
 keep:=fun i h h' st k=>st.at fun o e=>k it (by simp) o e
 item:=by
  intro X hP hw hK hc i pins s σ H E I hf st hg
  subst hP hw hK
  obtain⟨xs,x,hq,hx⟩:=hg
  obtain⟨its,rv,p,hz⟩:=I.list hq
  obtain⟨u,hu,ru⟩:=rv.get hx
  obtain⟨f0,f1,f2,f3,f4,f5⟩:=hf it (by simp)
  refine wpAny_pyNext_list_item st p.isList (x:=u) (by simpa using hu) fun h' st' sb=>?_
  have I1:aX X pins σ H { s with heap:=h' }:=I.turned (t':=s.toks) (fun b o hb e=>(sb.2 b hb).trans e) f0 f1 f3 f4 f5
  obtain⟨o,e,c,d⟩:=id st'
  exact⟨u,rfl,go_of (s:={ s with heap:=h' }) e c d (by decide) ⟨x,H,I1,ru,⟨rfl,fun ys hy=>by rw[I.list_inj hy hq];exact hx⟩,st',fun b hb=>(hf b hb).1⟩⟩
 done:=by
  intro X hP hw hK hc i pins s σ H E I hf st hg
  subst hP hw hK
  obtain⟨xs,hq,hx⟩:=hg
  obtain⟨its,rv,p,hz⟩:=I.list hq
  obtain⟨f0,f1,f2,f3,f4,f5⟩:=hf it (by simp)
  have hl:=rv.length
  exact wpAny_pyNext_list_end (I.ok.hd hc) st p.isList (by simp;lia) fun h' eb=>⟨rfl,I.turned (t':=s.toks) (fun b o hb e=>eb b o hb e) f0 f1 f3 f4 f5⟩
 self:=fun _ _ _ _ _ st h=>wpAny_pyIter_listiter st h
theorem aA8{P:Program}{w:World}{K:PySem.W.Frag}{tg:Expr}(a it:Addr):yO P w K tg (Itt K a) [it] it (fun i h=>h.IsTupleIter it a i) where
 mem:=by simp
 obj:=fun i h st b hb=>by
  have e:b=it:=by simpa using hb
  subst e
  obtain⟨o,e,c,d⟩:=st
  exact⟨o,e,fun v z=>by rw[d] at z;cases z⟩
 keep:=fun i h h' st k=>st.at fun o e=>k it (by simp) o e
 item:=by
  intro X hP hw hK hc i pins s σ H E I hf st hg
  subst hP hw hK
  obtain⟨xs,x,hq,hx⟩:=hg
  obtain⟨its,rv,p,hz⟩:=I.tuple hq
  obtain⟨u,hu,ru⟩:=rv.get hx
  obtain⟨f0,f1,f2,f3,f4,f5⟩:=hf it (by simp)
  refine wpAny_pyNext_tuple_item st (show s.heap.IsTuple a its.toArray from p) (x:=u) (by simpa using hu) fun h' st' sb=>?_
  have I1:aX X pins σ H { s with heap:=h' }:=I.turned (t':=s.toks) (fun b o hb e=>(sb.2 b hb).trans e) f0 f1 f3 f4 f5
  obtain⟨o,e,c,d⟩:=id st'
  exact⟨u,rfl,go_of (s:={ s with heap:=h' }) e c d (by decide) ⟨x,H,I1,ru,⟨rfl,fun ys hy=>by rw[I.tuple_inj hy hq];exact hx⟩,st',fun b hb=>(hf b hb).1⟩⟩
 done:=by
  intro X hP hw hK hc i pins s σ H E I hf st hg
  subst hP hw hK
  obtain⟨xs,hq,hx⟩:=hg
  obtain⟨its,rv,p,hz⟩:=I.tuple hq
  obtain⟨f0,f1,f2,f3,f4,f5⟩:=hf it (by simp)
  have hl:=rv.length
  exact wpAny_pyNext_tuple_end (I.ok.hd hc) st (show s.heap.IsTuple a its.toArray from p) (by simp;lia) fun h' eb=>⟨rfl,I.turned (t':=s.toks) (fun b o hb e=>eb b o hb e) f0 f1 f3 f4 f5⟩
 self:=fun _ _ _ _ _ st h=>wpAny_pyIter_tupleiter st h
theorem zY{P:Program}{w:World}{K:PySem.W.Frag}{tg:Expr}(it:Addr)(lo:Int)(n:Nat):yO P w K tg (Itr lo n) [it] it (fun i h=>IsRangeIter h it (lo+(i:Nat)*1) ((n:Int)-(i:Nat)) 1) where
 mem:=by simp
 obj:=fun i h st b hb=>by
  have e:b=it:=by simpa using hb
  subst e
  exact⟨_,st,fun v z=>by
   have z':Data.fields _=Data.cell v:=z
   cases z'⟩
 keep:=fun i h h' st k=>k it (by simp) _ st
 item:=by
  intro X hP hw hK hc i pins s σ H E I hf st hg
  subst hP hw hK
  obtain⟨f0,f1,f2,f3,f4,f5⟩:=hf it (by simp)
  have W:=Walks.range (prog:=X.prog) (w:=X.w) (I.ok.hd hc) it lo 1 n
  refine W.item i s _ _ hg st fun v h' tk hv st' kk=>?_
  obtain⟨t,rfl⟩:=hv
  have I1:aX X pins σ H { s with heap:=h',toks:=tk }:=I.turned (fun b o hb e=>kk b o (by simpa using hb) e) f0 f1 f3 f4 f5
  refine⟨_,rfl,go_of (s:={ s with heap:=h',toks:=tk }) (n:="range_iterator") st' rfl rfl (by decide) ⟨.int (lo+i),H,I1,⟨t,?_⟩,⟨rfl,rfl⟩,st',fun b hb=>(hf b hb).1⟩⟩
  rw[jj]
 done:=by
  intro X hP hw hK hc i pins s σ H E I hf st hg
  subst hP hw hK
  obtain⟨f0,f1,f2,f3,f4,f5⟩:=hf it (by simp)
  exact wpAny_pyNext_range_end (I.ok.hd hc) st (by have:n<=i:=hg;lia) fun h' eb=>⟨rfl,I.turned (t':=s.toks) (fun b o hb e=>eb b o hb e) f0 f1 f3 f4 f5⟩
 self:=fun _ _ _ _ _ st h=>wpAny_pyIter_rangeiter st h
section
variable {X:Cx}{tg:Expr}
def bQ4(K:PySem.W.Frag)(tl:TE):TI:=fun σ H R=>tl σ H fun x H1=>∃a,x= .ref a/\(∃xs,bA K H1 a xs)/\R (Itl K a) H1
def cR6(K:PySem.W.Frag)(tl:TE):TI:=fun σ H R=>tl σ H fun x H1=>∃a,x= .ref a/\(∃xs,aQ K H1 a xs)/\R (Itt K a) H1
theorem bW{l:Expr}{tl:TE}(hl:PE X l tl):PI X tg l (bQ4 X.K tl):=by
 intro pins s σ H R I h
 refine cO (hl pins s σ H _ I h) ?_;rintro v s1 ⟨x,H1,I1,r1,q1⟩
 obtain⟨a,e,⟨xs,hq⟩,q⟩:=q1
 subst e
 cases r1
 obtain⟨its,rv,p,hz⟩:=I1.list hq
 refine kg p.isList ?_
 refine⟨s1.heap.objs.size,[s1.heap.objs.size],_,_,H1,rfl,I1.kept (t':=s1.toks) fun b o e=>ac _ e,aN2 a _,⟨_,bz _ rfl,rfl,rfl⟩,fun b hb=>?_,q⟩
 have e:b=s1.heap.objs.size:=by simpa using hb
 subst e
 exact I1.fpOk (af _) (I1.hok.fresh (af _))
theorem vC{l:Expr}{tl:TE}(hl:PE X l tl):PI X tg l (cR6 X.K tl):=by
 intro pins s σ H R I h
 refine cO (hl pins s σ H _ I h) ?_;rintro v s1 ⟨x,H1,I1,r1,q1⟩
 obtain⟨a,e,⟨xs,hq⟩,q⟩:=q1
 subst e
 cases r1
 obtain⟨its,rv,p,hz⟩:=I1.tuple hq
 refine xc (show s1.heap.IsTuple a its.toArray from p) ?_
 refine⟨s1.heap.objs.size,[s1.heap.objs.size],_,_,H1,rfl,I1.kept (t':=s1.toks) fun b o e=>ac _ e,aA8 a _,⟨_,bz _ rfl,rfl,rfl⟩,fun b hb=>?_,q⟩
 have e:b=s1.heap.objs.size:=by simpa using hb
 subst e
 exact I1.fpOk (af _) (I1.hok.fresh (af _))
theorem bD9{pins:List (Addr×Obj)}{σ:St}{H:Hp}{s:Shared}{R:It->Hp->Prop}{E:Value->Shared->Prop}{lo hi:Int}{t u v:Tok}{tk:Nat}(I:aX X pins σ H s)(h1: -(2^62)<=lo)(h2:lo<2^62)(h3: -(2^62)<=hi)(h4:hi<2^62)
  (q:R (Itr lo (hi-lo).toNat) H):wpAny (model X.prog X.w) X.A (pyIter (.ref s.heap.objs.size)) (PIE X pins σ tg R) E { s with heap:=s.heap.push { cls:= .type "range",data:= .fields #[.int lo t,.int hi u,.int 1 v] },toks:=tk }:=by
 refine wpAny_pyIter_range (IsRange.new ..) (small_one h1 h2 h3 h4) ?_
 have I1:aX X pins σ H { s with heap:=s.heap.push { cls:= .type "range",data:= .fields #[.int lo t,.int hi u,.int 1 v] },toks:=tk }:=I.kept fun b o e=>ac _ e
 refine⟨(s.heap.push { cls:= .type "range",data:= .fields #[.int lo t,.int hi u,.int 1 v] }).objs.size,[(s.heap.push { cls:= .type "range",data:= .fields #[.int lo t,.int hi u,.int 1 v] }).objs.size],_,_,H,rfl,
  I1.kept (t':=tk) fun b o e=>ac _ e,zY _ lo (hi-lo).toNat,?_,fun b hb=>?_,q⟩
 ·have e1:lo+((0:Nat):Int)*1=lo:=by simp
  have e2:(((hi-lo).toNat:Nat):Int)-((0:Nat):Int)=Builtin.Range.rangeSize lo hi 1:=by rw[rangeSize_one];split<;>lia
  show IsRangeIter _ _ (lo+((0:Nat):Int)*1) ((((hi-lo).toNat:Nat):Int)-((0:Nat):Int)) 1
  rw[e1,e2]
  exact bz _ rfl
 ·have e:b=(s.heap.push { cls:= .type "range",data:= .fields #[.int lo t,.int hi u,.int 1 v] }).objs.size:=by simpa using hb
  subst e
  exact I1.fpOk (af _) (I1.hok.fresh (af _))
def cM6(ta:TA):TI:=fun σ H R=>ta σ H fun vs H1=>∃j:Int,vs=[.int j]/\ -(2^62)<=j/\j<2^62/\R (Itr 0 j.toNat) H1
theorem dL{a:Expr}{ta:TA}{p pos:Pos}(hg:Gl X "range")(hm:X.mg "range"=none)(ha:PA X [a] ta)(hs:autoParam (starEach [a] X.env=[(false,eval a X.env)]) Rq0._auto_1):PI X tg (.Call (.Name "range" p) [a] [] pos) (cM6 ta):=by
 intro pins s σ H R I h
 refine Call_ (iS I hg hm boot_range (fm (cO (ha pos pins s σ H _ I h) ?_) hs rfl));rintro us s1 ⟨vs,H1,I1,r1,q1⟩
 obtain⟨j,e,q1,q2,q⟩:=q1
 subst e
 cases r1 with
 |cons r rr =>
  cases rr
  obtain⟨t,rfl⟩:=r
  exact call_range_1 (bD9 I1 (by lia) (by lia) q1 q2 (by simpa using q))
def cH6(wi:TI)(g:TG)(tb:TS):TS:=fun D σ H=>wi σ H fun J H1=>∃W:Nat->Nat->St->Hp->Prop,(∃m,W 0 m σ H1)/\∀i m σ H,W i m σ H ->
 (J.stop i H/\D.nx σ H)\/(J.go i H/\∃N:St->Hp->Prop,(∀σ' H',N σ' H'->∃m',m'<m/\W (i+1) m' σ' H')/\∀x H',J.yld i H x H'->g x σ H' fun σ2 H2=>tb { D with nx:=N,ct:=N,bk:=D.nx } σ2 H2)
def gY(fp:List Addr)(h:Heap):List (Addr×Obj):=fp.filterMap fun b=>(h.get? b).map fun o=>(b,o)
theorem hZ{fp:List Addr}{h:Heap}{b:Addr}{o:Obj}(hb:b∈fp)(e:h.get? b=some o):(b,o)∈gY fp h:=sh.mpr ⟨b,hb,by rw[e];rfl⟩
theorem tL{fp:List Addr}{h:Heap}{p:Addr×Obj}(hp:p∈gY fp h):p.1∈fp/\h.get? p.1=some p.2:=by
 obtain⟨b,hb,e⟩:=sh.mp hp
 cases q:h.get? b with
 |none=>rw[q] at e;cases e
 |some o =>
  rw[q] at e
  have e':(b,o)=p:=dt e
  subst e'
  exact⟨hb,q⟩
theorem aX.pinned{pins:List (Addr×Obj)}{σ:St}{H:Hp}{s:Shared}{fp:List Addr}(I:aX X pins σ H s)(hf:∀b∈fp,lO X pins H b)(ho:∀b∈fp,∃o,s.heap.get? b=some o/\∀v,o.data≠ .cell v):aX X (pins++gY fp s.heap) σ H s:=
 I.pins_of fun p hp=>(bu.mp hp).elim (fun z=>I.pin p (be _ z)) fun z=>by
  obtain⟨hb,e⟩:=tL z
  obtain⟨f0,f1,f2,_⟩:=hf p.1 hb
  obtain⟨o,e',d⟩:=ho p.1 hb
  rw[e] at e';cases e'
  exact⟨e,f0,f1,f2,d⟩
theorem aX.unpinned{pins pl:List (Addr×Obj)}{σ:St}{H:Hp}{s:Shared}(I:aX X (pins++pl) σ H s):aX X pins σ H s:=I.pins_of fun p hp=>I.pin p (be _ (cg _ hp))
theorem bD3{iter:Expr}{body:List Stmt}{wi:TI}{g:TG}{tb:TS}{pos:Pos}(hp:PassesOwn (model X.prog X.w) X.A X.env X.xe)(hc:X.calm=true)(hi:PI X tg iter wi)(hg:PG X tg g)(hb:uR X body tb)
  (hs:autoParam (∀x,foldedSetIterable iter X.env x=pure x) Rq4._auto_1):PS X (.For tg iter body [] pos) (cH6 wi g tb):=by
 intro pins s σ H D I h
 refine wpAny_For (cO (hi pins s σ H _ I h) fun v s1 h1=>cO h1 fun itv s2 h2=>?_) hs
 obtain⟨it,fp,tn,J,H2,e,I2,T,st2,f2,W,⟨m0,w0⟩,turn⟩:=h2
 subst e
 have stat:∀{H':Hp},(∀b∈fp,H' b=none)->∀b∈fp,lO X pins H' b:=fun hn b hb=>⟨hn b hb,(f2 b hb).2⟩
 refine codeAny_forLoop_any (fun n s'=>∃i σ' H',aX X pins σ' H' s'/\tn i s'.heap/\(∀b∈fp,H' b=none)/\W i n σ' H') ?_ m0 ⟨0,σ,H2,I2,st2,fun b hb=>(f2 b hb).1,w0⟩
 rintro n s3 ⟨i,σ3,H3,I3,st3,fr3,w3⟩
 rcases turn i n σ3 H3 w3 with⟨stop,qn⟩|⟨go,N,hN,step⟩
 ·refine jx hp (cO (T.done X rfl rfl rfl hc i pins s3 σ3 H3 X.xe I3 (stat fr3) st3 stop) ?_);rintro r s4 ⟨hr,I4⟩
  subst hr
  exact ql ⟨σ3,H3,I4,qn⟩
 ·refine jx hp (cO (T.item X rfl rfl rfl hc i pins s3 σ3 H3 X.xe I3 (stat fr3) st3 go) ?_);rintro r s4 ⟨u,hr,h4⟩
  subst hr
  refine jx hp (cO h4 ?_);rintro _ s5 ⟨x,H5,I5,r5,y5,st5,fr5⟩
  have I5':=I5.pinned (stat fr5) (T.obj _ _ st5)
  refine jx hp (cO (hg _ s5 σ3 H5 x u _ I5' r5 (step x H5 y5)) ?_);rintro _ s6 ⟨σ6,H6,I6,q6⟩
  refine jx hp (cO (hb _ s6 σ6 H6 _ I6 q6) fun f s7 q7=>?_)
  have again:∀{σ7:St}{H7:Hp},aX X (pins++gY fp s5.heap) σ7 H7 s7->N σ7 H7->∃m,m<n/\∃i σ' H',aX X pins σ' H' s7/\tn i s7.heap/\(∀b∈fp,H' b=none)/\W i m σ' H':=fun {σ7 H7} I7 n7=>by
   obtain⟨m',hm,w7⟩:=hN σ7 H7 n7
   refine⟨m',hm,i+1,σ7,H7,I7.unpinned,T.keep _ _ _ st5 fun b hb o e=>(I7.pin (b,o) (be _ (be _ (hZ hb e)))).1,fun b hb=>?_,w7⟩
   obtain⟨o,e,d⟩:=T.obj _ _ st5 b hb
   exact(I7.pin (b,o) (be _ (be _ (hZ hb e)))).2.1
  cases f with
  |next=>obtain⟨σ7,H7,I7,n7⟩:=q7;exact again I7 n7
  |cont=>obtain⟨σ7,H7,I7,n7⟩:=q7;exact again I7 n7
  |brk=>obtain⟨σ7,H7,I7,q7⟩:=q7;exact⟨σ7,H7,I7.unpinned,q7⟩
  |ret v=>obtain⟨x7,σ7,H7,I7,r7,q7⟩:=q7;exact⟨x7,σ7,H7,I7.unpinned,r7,q7⟩
end
theorem xC{K:PySem.W.Frag}{a:Addr}{xs:List V}{g:TG}{tb:TS}{D:gH}{σ:St}{H:Hp}(Pv:Nat->St->Hp->Prop)(h0:Pv 0 σ H)(hl:∀i σ H,i<=xs.length->Pv i σ H->bA K H a xs)
  (hs:∀i x σ H,xs[i]?=some x->Pv i σ H->g x σ H fun σ2 H2=>tb { D with nx:=Pv (i+1),ct:=Pv (i+1),bk:=D.nx } σ2 H2) (hd:∀σ H,Pv xs.length σ H->D.nx σ H) :
  ∃W:Nat->Nat->St->Hp->Prop,(∃m,W 0 m σ H)/\∀i m σ H,W i m σ H ->
   ((Itl K a).stop i H/\D.nx σ H)\/((Itl K a).go i H/\∃N:St->Hp->Prop,(∀σ' H',N σ' H'->∃m',m'<m/\W (i+1) m' σ' H')/\∀x H',(Itl K a).yld i H x H'->g x σ H' fun σ2 H2=>tb { D with nx:=N,ct:=N,bk:=D.nx } σ2 H2):=by
 refine⟨fun i m σ H=>m=xs.length-i/\i<=xs.length/\Pv i σ H,⟨xs.length,by simp,az _,h0⟩,?_⟩
 rintro i m σ H ⟨rfl,hi,p⟩
 have q:=hl i σ H hi p
 by_cases hlt:i<xs.length
 ·refine .inr ⟨⟨xs,xs[i],q,by simp[hlt]⟩,Pv (i+1),fun σ' H' p'=>⟨xs.length-(i+1),iw hlt (ia i),rfl,hlt,p'⟩,fun x H' y=>?_⟩
  obtain⟨e,y⟩:=y
  subst e
  exact hs i x σ _ (y xs q) p
 ·have e:i=xs.length:=by lia
  subst e
  exact .inl ⟨⟨xs,q,af _⟩,hd σ H p⟩
theorem bP0{K:PySem.W.Frag}{a:Addr}{xs:List V}{g:TG}{tb:TS}{D:gH}{σ:St}{H:Hp}(Pv:Nat->St->Hp->Prop)(h0:Pv 0 σ H)(hl:∀i σ H,i<=xs.length->Pv i σ H->aQ K H a xs)
  (hs:∀i x σ H,xs[i]?=some x->Pv i σ H->g x σ H fun σ2 H2=>tb { D with nx:=Pv (i+1),ct:=Pv (i+1),bk:=D.nx } σ2 H2) (hd:∀σ H,Pv xs.length σ H->D.nx σ H) :
  ∃W:Nat->Nat->St->Hp->Prop,(∃m,W 0 m σ H)/\∀i m σ H,W i m σ H ->
   ((Itt K a).stop i H/\D.nx σ H)\/((Itt K a).go i H/\∃N:St->Hp->Prop,(∀σ' H',N σ' H'->∃m',m'<m/\W (i+1) m' σ' H')/\∀x H',(Itt K a).yld i H x H'->g x σ H' fun σ2 H2=>tb { D with nx:=N,ct:=N,bk:=D.nx } σ2 H2):=by
 refine⟨fun i m σ H=>m=xs.length-i/\i<=xs.length/\Pv i σ H,⟨xs.length,by simp,az _,h0⟩,?_⟩
 rintro i m σ H ⟨rfl,hi,p⟩
 have q:=hl i σ H hi p
 by_cases hlt:i<xs.length
 ·refine .inr ⟨⟨xs,xs[i],q,by simp[hlt]⟩,Pv (i+1),fun σ' H' p'=>⟨xs.length-(i+1),iw hlt (ia i),rfl,hlt,p'⟩,fun x H' y=>?_⟩
  obtain⟨e,y⟩:=y
  subst e
  exact hs i x σ _ (y xs q) p
 ·have e:i=xs.length:=by lia
  subst e
  exact .inl ⟨⟨xs,q,af _⟩,hd σ H p⟩
theorem tW{lo:Int}{n:Nat}{g:TG}{tb:TS}{D:gH}{σ:St}{H:Hp}(Pv:Nat->St->Hp->Prop)(h0:Pv 0 σ H)
  (hs:∀i σ H,i<n->Pv i σ H->g (.int (lo+i)) σ H fun σ2 H2=>tb { D with nx:=Pv (i+1),ct:=Pv (i+1),bk:=D.nx } σ2 H2) (hd:∀σ H,Pv n σ H->D.nx σ H) :
  ∃W:Nat->Nat->St->Hp->Prop,(∃m,W 0 m σ H)/\∀i m σ H,W i m σ H ->
   ((Itr lo n).stop i H/\D.nx σ H)\/((Itr lo n).go i H/\∃N:St->Hp->Prop,(∀σ' H',N σ' H'->∃m',m'<m/\W (i+1) m' σ' H')/\∀x H',(Itr lo n).yld i H x H'->g x σ H' fun σ2 H2=>tb { D with nx:=N,ct:=N,bk:=D.nx } σ2 H2):=by
 refine⟨fun i m σ H=>m=n-i/\i<=n/\Pv i σ H,⟨n,by simp,az _,h0⟩,?_⟩
 rintro i m σ H ⟨rfl,hi,p⟩
 by_cases hlt:i<n
 ·refine .inr ⟨hlt,Pv (i+1),fun σ' H' p'=>⟨n-(i+1),iw hlt (ia i),rfl,hlt,p'⟩,fun x H' y=>?_⟩
  obtain⟨e,y⟩:=y
  subst e y
  exact hs i σ _ hlt p
 ·have e:i=n:=by lia
  subst e
  exact .inl ⟨af _,hd σ H p⟩
abbrev R2:=V->V->Hp->VK->Prop
def iQ(X:Cx)(f:Value->Value->Sem Value)(r:R2):Prop:=
 ∀(pins:List (Addr×Obj)) (s:Shared) (σ:St) (H:Hp) (x y:V) (v u:Value) (Q:VK),aX X pins σ H s->bF x v->bF y u->r x y H Q ->
  wpAny (model X.prog X.w) X.A (f v u) (EP X pins σ Q) X.xe s
def UnR(X:Cx)(f:Value->Sem Value)(r:V->Hp->VK->Prop):Prop:=
 ∀(pins:List (Addr×Obj)) (s:Shared) (σ:St) (H:Hp) (x:V) (v:Value) (Q:VK),aX X pins σ H s->bF x v->r x H Q ->
  wpAny (model X.prog X.w) X.A (f v) (EP X pins σ Q) X.xe s
def fG(X:Cx)(f:Value)(r:List V->Hp->VK->Prop):Prop:=
 ∀(pins:List (Addr×Obj)) (s:Shared) (σ:St) (H:Hp) (xs:List V) (us:List Value) (Q:VK),aX X pins σ H s->bH xs us->r xs H Q ->
  wpAny (model X.prog X.w) X.A (call f us) (EP X pins σ Q) X.xe s
def cS8(X:Cx)(r:V->Hp->(Bool->Hp->Prop)->Prop):Prop:=
 ∀(pins:List (Addr×Obj)) (s:Shared) (σ:St) (H:Hp) (x:V) (v:Value) (Q:Bool->Hp->Prop),aX X pins σ H s->bF x v->r x H Q ->
  wpAny (model X.prog X.w) X.A (truthy v) (TP X pins σ Q) X.xe s
def zR(r:R2)(ta tb:TE):TE:=fun σ H Q=>ta σ H fun x H1=>tb σ H1 fun y H2=>r x y H2 Q
def tUn(r:V->Hp->VK->Prop)(ta:TE):TE:=fun σ H Q=>ta σ H fun x H1=>r x H1 Q
inductive rI(C:Int->Int->Prop)(g:Int->Int->V)(x:V)(y:V)(H:Hp)(Q:VK):Prop
 |mk:∀i j,(x= .int i)->(y= .int j)->(C i j)->(Q (g i j) H)->rI C g x y H Q
inductive rI0(g:Int->Int->V)(x:V)(y:V)(H:Hp)(Q:VK):Prop
 |mk:∀i j,(x= .int i)->(y= .int j)->(Q (g i j) H)->rI0 g x y H Q
inductive rU(g:Int->V)(x:V)(H:Hp)(Q:VK):Prop
 |mk:∀i,(x= .int i)->(Q (g i) H)->rU g x H Q
section
variable {X:Cx}{a b c:Expr}{ta tb tc:TE}{pos:Pos}
theorem bT5(ha:PE X a ta)(hb:PE X b tb){pins:List (Addr×Obj)}{s:Shared}{σ:St}{H:Hp}{R:V->V->Hp->Prop}(I:aX X pins σ H s)
  (h:ta σ H fun x H1=>tb σ H1 fun y H2=>R x y H2) {Q:Value->Shared->Prop}{f:Value->Value->Sem Value}
  (hf:∀v u s2 x y H2,aX X pins σ H2 s2->bF x v->bF y u->R x y H2->wpAny (model X.prog X.w) X.A (f v u) Q X.xe s2) :
  wpAny (model X.prog X.w) X.A (eval a X.env) (fun v s₁=>wpAny (model X.prog X.w) X.A (eval b X.env) (fun u s₂=>wpAny (model X.prog X.w) X.A (f v u) Q X.xe s₂) X.xe s₁) X.xe s:=by
 refine cO (ha pins s σ H _ I h) ?_;rintro v s1 ⟨x,H1,I1,r1,q1⟩
 refine cO (hb pins s1 σ H1 _ I1 q1) ?_;rintro u s2 ⟨y,H2,I2,r2,q2⟩
 exact hf v u s2 x y H2 I2 r1 r2 q2
theorem aN{op:Operator}{r:R2}(ho:iQ X (binaryOp op) r)(ha:PE X a ta)(hb:PE X b tb):PE X (.BinOp a op b pos) (zR r ta tb):=by
 intro pins s σ H Q I h
 exact wpAny_BinOp (bT5 ha hb I h fun v u s2 x y H2 I2 rx ry q=>ho pins s2 σ H2 x y v u Q I2 rx ry q)
theorem bD6{op:UnaryOp}{r:V->Hp->VK->Prop}(ho:UnR X (unaryOp op) r)(ha:PE X a ta):PE X (.UnaryOp op a pos) (tUn r ta):=by
 intro pins s σ H Q I h
 refine UnaryOp_ (cO (ha pins s σ H _ I h) ?_);rintro v s1 ⟨x,H1,I1,r1,q1⟩;exact ho pins s1 σ H1 x v Q I1 r1 q1
theorem opI{f:Value->Value->Sem Value}{C:Int->Int->Prop}{g:Int->Int->Int}
  (rule:∀(i j:Int) (t u:Tok) (s:Shared) (Q:Value->Shared->Prop) (E:Value->Shared->Prop),C i j->Q (.int (g i j) s.toks) { s with toks:=s.toks+1 }->wpAny (model X.prog X.w) X.A (f (.int i t) (.int j u)) Q E s) :
  iQ X f (rI C fun i j=> .int (g i j)):=by
 intro pins s σ H x y v u Q I rx ry h
 obtain⟨i,j,rfl,rfl,hc,q⟩:=h
 obtain⟨t,rfl⟩:=rx
 obtain⟨t',rfl⟩:=ry
 exact rule i j t t' s _ _ hc ⟨.int (g i j),H,I.tok _,⟨_,rfl⟩,q⟩
theorem cM9{f:Value->Value->Sem Value}{g:Int->Int->Int}
  (rule:∀(i j:Int) (t u:Tok) (s:Shared) (Q:Value->Shared->Prop) (E:Value->Shared->Prop),Q (.int (g i j) s.toks) { s with toks:=s.toks+1 }->wpAny (model X.prog X.w) X.A (f (.int i t) (.int j u)) Q E s) :
  iQ X f (rI0 fun i j=> .int (g i j)):=by
 intro pins s σ H x y v u Q I rx ry h
 obtain⟨i,j,rfl,rfl,q⟩:=h
 obtain⟨t,rfl⟩:=rx
 obtain⟨t',rfl⟩:=ry
 exact rule i j t t' s _ _ ⟨.int (g i j),H,I.tok _,⟨_,rfl⟩,q⟩
theorem bN4{f:Value->Value->Sem Value}{g:Int->Int->Bool}
  (rule:∀(i j:Int) (t u:Tok) (s:Shared) (Q:Value->Shared->Prop) (E:Value->Shared->Prop),Q (.bool (g i j)) s->wpAny (model X.prog X.w) X.A (f (.int i t) (.int j u)) Q E s) :
  iQ X f (rI0 fun i j=> .bl (g i j)):=by
 intro pins s σ H x y v u Q I rx ry h
 obtain⟨i,j,rfl,rfl,q⟩:=h
 obtain⟨t,rfl⟩:=rx
 obtain⟨t',rfl⟩:=ry
 exact rule i j t t' s _ _ ⟨.bl (g i j),H,I,rfl,q⟩
def cR4(i j:Int):Prop:=0<=j/\j<=1000000/\i.natAbs<2^64
def cD2(i j:Int):Prop:=(-(2^64)<i/\i<2^64)\/(-(2^64)<j/\j<2^64)
theorem cD2.ok{i j:Int}(h:cD2 i j):IntMulOk i j:=by
 rcases h with⟨h1,h2⟩|⟨h1,h2⟩
 ·exact .of_left (intBits_le_64 h1 h2)
 ·exact .of_right (intBits_le_64 h1 h2)
theorem cL:iQ X (binaryOp .Add) (rI0 fun i j=> .int (i+j)):=cM9 fun _ _ _ _ _ _ _ q=>add_int q
theorem gL:iQ X (binaryOp .Sub) (rI0 fun i j=> .int (i-j)):=cM9 fun _ _ _ _ _ _ _ q=>sub_int q
theorem fW:iQ X (binaryOp .Mult) (rI cD2 fun i j=> .int (i*j)):=opI fun _ _ _ _ _ _ _ hc q=>mul_int q hc.ok
theorem iE:iQ X (binaryOp .Mod) (rI (fun _ j=>0<j) fun i j=> .int (i % j)):=opI fun i j _ _ _ _ _ hc q=>by
 have h1:(0:Int)<j:=hc
 exact mod_int' (by lia) (by rw[Int.fmod_eq_emod_of_nonneg i (by lia)];exact q)
theorem cB8:iQ X (binaryOp .Pow) (rI cR4 fun i j=> .int (i^j.toNat)):=opI fun _ _ _ _ _ _ _ hc q=>pow_int_small hc.1 hc.2.1 hc.2.2 q
theorem unI{f:Value->Sem Value}{g:Int->Int}
  (rule:∀(i:Int) (t:Tok) (s:Shared) (Q:Value->Shared->Prop) (E:Value->Shared->Prop),Q (.int (g i) s.toks) { s with toks:=s.toks+1 }->wpAny (model X.prog X.w) X.A (f (.int i t)) Q E s) :
  UnR X f (rU fun i=> .int (g i)):=by
 intro pins s σ H x v Q I rx h
 obtain⟨i,rfl,q⟩:=h
 obtain⟨t,rfl⟩:=rx
 exact rule i t s _ _ ⟨.int (g i),H,I.tok _,⟨_,rfl⟩,q⟩
theorem aA3:UnR X (unaryOp .USub) (rU fun i=> .int (-i)):=unI fun _ _ _ _ _ q=>neg_int q
end
def cK7:V->V->Bool
 |.non,.non=>true | .non,.int _=>true | .int _,.non=>true | .non,.bl _=>true | .bl _,.non=>true | .non,.str _=>true | .str _,.non=>true
 |.int _,.int _=>true | .bl _,.bl _=>true | .str _,.str _=>true | .byt _,.byt _=>true
 |.int _,.str _=>true | .str _,.int _=>true | .bl _,.str _=>true | .str _,.bl _=>true
 |_,_=>false
def rEq:R2:=fun x y H Q=>cK7 x y=true/\Q (.bl (decide (x=y))) H
def rNe:R2:=fun x y H Q=>cK7 x y=true/\Q (.bl (!decide (x=y))) H
theorem aH4{i j:Int}:decide (V.int i=V.int j)=(i==j):=by
 rw[jy]
 simp
theorem aU3{i j:Bool}:decide (V.bl i=V.bl j)=(i==j):=by
 rw[jy]
 simp
theorem aJ3{i j:Str}:decide (V.str i=V.str j)=(i==j):=by
 rw[jy]
 simp
theorem aF7{i j:Array UInt8}:decide (V.byt i=V.byt j)=(i.toList==j.toList):=by
 rw[jy]
 cases i
 cases j
 simp
section
variable {X:Cx}{a b c:Expr}{ta tb tc:TE}{pos:Pos}
theorem bZ{pins:List (Addr×Obj)}{σ:St}{H:Hp}{s:Shared}{Q:VK}{k k':Bool}(I:aX X pins σ H s)(q:Q (.bl k) H)(e:k=k'):EP X pins σ Q (.bool k') s:=by
 subst e
 exact⟨.bl k,H,I,rfl,q⟩
theorem bR:iQ X (compareOp .Eq) rEq:=by
 intro pins s σ H x y v u Q I rx ry h
 obtain⟨hs,q⟩:=h
 cases x with
 |non =>
  cases rx
  cases y with
  |non=>cases ry;exact PySem.EqNone.eq_none_none (bZ I q (by simp))
  |bl j=>cases ry;exact PySem.EqNone.eq_none_bool (bZ I q (by simp))
  |int j=>obtain⟨t',rfl⟩:=ry;exact PySem.EqNone.eq_none_int (bZ I q (by simp))
  |str j=>obtain⟨t',rfl⟩:=ry;exact PySem.EqNone.eq_none_str (bZ I q (by simp))
  |_=>exact absurd (show false=true from hs) bt
 |bl i =>
  cases rx
  cases y with
  |non=>cases ry;exact PySem.EqNone.eq_bool_none (bZ I q (by simp))
  |bl j=>cases ry;exact eq_bool (bZ I q aU3)
  |str j=>obtain⟨t',rfl⟩:=ry;exact PySem.EqMixed.eq_bool_str (bZ I q (by simp))
  |_=>exact absurd (show false=true from hs) bt
 |int i =>
  obtain⟨t,rfl⟩:=rx
  cases y with
  |non=>cases ry;exact PySem.EqNone.eq_int_none (bZ I q (by simp))
  |int j=>obtain⟨t',rfl⟩:=ry;exact eq_int (bZ I q aH4)
  |str j=>obtain⟨t',rfl⟩:=ry;exact PySem.EqMixed.eq_int_str (bZ I q (by simp))
  |_=>exact absurd (show false=true from hs) bt
 |str i =>
  obtain⟨t,rfl⟩:=rx
  cases y with
  |non=>cases ry;exact PySem.EqNone.eq_str_none (bZ I q (by simp))
  |bl j=>cases ry;exact PySem.EqMixed.eq_str_bool (bZ I q (by simp))
  |int j=>obtain⟨t',rfl⟩:=ry;exact PySem.EqMixed.eq_str_int (bZ I q (by simp))
  |str j=>obtain⟨t',rfl⟩:=ry;exact eq_str (bZ I q aJ3)
  |_=>exact absurd (show false=true from hs) bt
 |byt i =>
  obtain⟨t,rfl⟩:=rx
  cases y with
  |byt j=>obtain⟨t',rfl⟩:=ry;exact PySem.W.eq_bytes (bZ I q aF7)
  |_=>exact absurd (show false=true from hs) bt
 |_=>cases y<;>exact absurd (show false=true from hs) bt
theorem bR8:iQ X (compareOp .NotEq) rNe:=by
 intro pins s σ H x y v u Q I rx ry h
 obtain⟨hs,q⟩:=h
 cases x with
 |non =>
  cases rx
  cases y with
  |non=>cases ry;exact PySem.EqNone.ne_none_none (bZ I q (by simp))
  |bl j=>cases ry;exact PySem.EqNone.ne_none_bool (bZ I q (by simp))
  |int j=>obtain⟨t',rfl⟩:=ry;exact PySem.EqNone.ne_none_int (bZ I q (by simp))
  |str j=>obtain⟨t',rfl⟩:=ry;exact PySem.EqNone.ne_none_str (bZ I q (by simp))
  |_=>exact absurd (show false=true from hs) bt
 |bl i =>
  cases rx
  cases y with
  |non=>cases ry;exact PySem.EqNone.ne_bool_none (bZ I q (by simp))
  |bl j=>cases ry;exact ne_bool (bZ I q (eo not aU3))
  |str j=>obtain⟨t',rfl⟩:=ry;exact PySem.EqMixed.ne_bool_str (bZ I q (by simp))
  |_=>exact absurd (show false=true from hs) bt
 |int i =>
  obtain⟨t,rfl⟩:=rx
  cases y with
  |non=>cases ry;exact PySem.EqNone.ne_int_none (bZ I q (by simp))
  |int j=>obtain⟨t',rfl⟩:=ry;exact ne_int (bZ I q (eo not aH4))
  |str j=>obtain⟨t',rfl⟩:=ry;exact PySem.EqMixed.ne_int_str (bZ I q (by simp))
  |_=>exact absurd (show false=true from hs) bt
 |str i =>
  obtain⟨t,rfl⟩:=rx
  cases y with
  |non=>cases ry;exact PySem.EqNone.ne_str_none (bZ I q (by simp))
  |bl j=>cases ry;exact PySem.EqMixed.ne_str_bool (bZ I q (by simp))
  |int j=>obtain⟨t',rfl⟩:=ry;exact PySem.EqMixed.ne_str_int (bZ I q (by simp))
  |str j=>obtain⟨t',rfl⟩:=ry;exact ne_str (bZ I q (eo not aJ3))
  |_=>exact absurd (show false=true from hs) bt
 |byt i =>
  obtain⟨t,rfl⟩:=rx
  cases y with
  |byt j=>obtain⟨t',rfl⟩:=ry;exact PySem.W.ne_bytes (bZ I q (eo not aF7))
  |_=>exact absurd (show false=true from hs) bt
 |_=>cases y<;>exact absurd (show false=true from hs) bt
theorem rE:iQ X (compareOp .Lt) (rI0 fun i j=> .bl (decide (i<j))):=bN4 fun _ _ _ _ _ _ _ q=>lt_int q
theorem xQ:iQ X (compareOp .LtE) (rI0 fun i j=> .bl (decide (i<=j))):=bN4 fun _ _ _ _ _ _ _ q=>le_int q
theorem jJ:iQ X (compareOp .Gt) (rI0 fun i j=> .bl (decide (j<i))):=bN4 fun _ _ _ _ _ _ _ q=>gt_int q
theorem aU1:iQ X (compareOp .GtE) (rI0 fun i j=> .bl (decide (j<=i))):=bN4 fun _ _ _ _ _ _ _ q=>ge_int q
theorem pF(b:Expr){op:CmpOp}(h:autoParam (op≠ .In) Rq1._auto_1)(h2:autoParam (op≠ .NotIn) Rq1._auto_1):behindInMarks op b=false:=by
 have e1:(op==CmpOp.In)=false:=by cases op<;>first|rfl|exact absurd rfl h
 have e2:(op==CmpOp.NotIn)=false:=by cases op<;>first|rfl|exact absurd rfl h2
 cases b<;>simp[behindInMarks,e1,e2]
theorem bN2{op:CmpOp}{r:R2}(ho:iQ X (compareOp op) r)(ha:PE X a ta)(hb:PE X b tb)(hm:behindInMarks op b=false):PE X (.Compare a [op] [b] pos) (zR r ta tb):=by
 intro pins s σ H Q I h
 exact wpAny_Compare1 (bT5 ha hb I h fun v u s2 x y H2 I2 rx ry q=>ho pins s2 σ H2 x y v u Q I2 rx ry q) hm
def xX(t:TE):TT:=fun σ H Q=>t σ H fun x H'=>BlK x fun k=>Q k H'
theorem nN{op:CmpOp}{r:R2}(ho:iQ X (compareOp op) r)(ha:PE X a ta)(hb:PE X b tb)(hm:behindInMarks op b=false):PT X (.Compare a [op] [b] pos) (xX (zR r ta tb)):=by
 intro pins s σ H Q I h
 refine vk (cO (ha pins s σ H _ I h) fun v s1 ⟨x,H1,I1,r1,q1⟩=>cO (hb pins s1 σ H1 _ I1 q1) fun u s2 ⟨y,H2,I2,r2,q2⟩ =>
  cO (ho pins s2 σ H2 x y v u _ I2 r1 r2 q2) fun c s3 ⟨z,H3,I3,r3,k,e,q3⟩=>?_) hm
 subst e
 cases r3
 exact gh ⟨H3,I3,q3⟩
def aR5(r r':R2)(ta tb tc:TE):TE:=fun σ H Q=>ta σ H fun x H1=>tb σ H1 fun y H2=>r x y H2 fun z H3=>∃k,z= .bl k /\
 (if k=true then tc σ H3 fun w' H4=>r' y w' H4 Q else Q (.bl false) H3)
theorem aQ4{op op':CmpOp}{r r':R2}(ho:iQ X (compareOp op) r)(ho':iQ X (compareOp op') r')(ha:PE X a ta)(hb:PE X b tb)(hc:PE X c tc)
  (hm:autoParam (lastMarks [op,op'] [b,c]=false) Rq12._auto_1):PE X (.Compare a [op,op'] [b,c] pos) (aR5 r r' ta tb tc):=by
 intro pins s σ H Q I h
 refine Compare_chain (cO (ha pins s σ H _ I h) fun v s1 ⟨x,H1,I1,r1,q1⟩=>chain_link (cO (hb pins s1 σ H1 _ I1 q1) fun u s2 ⟨y,H2,I2,r2,q2⟩ =>
  cO (ho pins s2 σ H2 x y v u _ I2 r1 r2 q2) fun d s3 ⟨z,H3,I3,r3,k,e,q3⟩=>?_)) hm
 subst e
 cases r3
 refine gh ?_
 cases k with
 |false=>exact ite_ff ⟨.bl false,H3,I3,rfl,q3⟩
 |true=>refine ite_tt (chain_last (cO (hc pins s3 σ H3 _ I3 q3) ?_));rintro w' s4 ⟨z',H4,I4,r4,q4⟩;exact ho' pins s4 σ H4 y z' u w' Q I4 r2 r4 q4
theorem aV4{op op':CmpOp}{r r':R2}(ho:iQ X (compareOp op) r)(ho':iQ X (compareOp op') r')(ha:PE X a ta)(hb:PE X b tb)(hc:PE X c tc)
  (hm:autoParam (lastMarks [op,op'] [b,c]=false) Rq12._auto_1):PT X (.Compare a [op,op'] [b,c] pos) (xX (aR5 r r' ta tb tc)):=by
 intro pins s σ H Q I h
 refine isTrue_chain (cO (ha pins s σ H _ I h) fun v s1 ⟨x,H1,I1,r1,q1⟩=>test_link (cO (hb pins s1 σ H1 _ I1 q1) fun u s2 ⟨y,H2,I2,r2,q2⟩ =>
  cO (ho pins s2 σ H2 x y v u _ I2 r1 r2 q2) fun d s3 ⟨z,H3,I3,r3,k,e,q3⟩=>?_)) hm
 subst e
 cases r3
 refine gh ?_
 cases k with
 |false =>
  obtain⟨k',e',q'⟩:=q3
  cases e'
  exact ite_ff ⟨H3,I3,q'⟩
 |true =>
  refine ite_tt (test_last (cO (hc pins s3 σ H3 _ I3 q3) ?_));rintro w' s4 ⟨z',H4,I4,r4,q4⟩;refine cO (ho' pins s4 σ H4 y z' u w' _ I4 r2 r4 q4) ?_;rintro d' s5 ⟨z2,H5,I5,r5,k2,e2,q5⟩
  subst e2
  cases r5
  exact gh ⟨H5,I5,q5⟩
def cK9(K:PySem.W.Frag)(x:V)(H:Hp)(k:Bool):Prop:=
 match x with
 |.non=>k=false
 |.bl b=>k=b
 |.int i=>k=(i != 0)
 |.str y=>y.length<=sizeLine/\k=((y.length:Int) != 0)
 |.byt y=>y.size<=sizeLine/\k=((y.size:Int) != 0)
 |.ref p=>(∃xs,bA K H p xs/\k= !xs.isEmpty)\/(∃xs,aQ K H p xs/\k= !xs.isEmpty)\/∃kvs,H p=some (.dK kvs)/\k= !kvs.isEmpty
 |_=>False
theorem aC2{κ:Type}{kvs:List (κ×V)}{vs:List (κ×Value)}(r:KV kvs vs):(!vs.isEmpty)= !kvs.isEmpty:=by
 cases r<;>rfl
theorem qQ{xs:List V}{its:List Value}(r:bH xs its):(!its.toArray.isEmpty)= !xs.isEmpty:=by
 cases r<;>simp
theorem lA:(sizeLine:Nat)<2^63:=by rw[pf];decide
theorem bU1:cS8 X (fun x H Q=>∃k,cK9 X.K x H k/\Q k H):=by
 intro pins s σ H x v Q I rx h
 obtain⟨k,e,q⟩:=h
 have hl:=lA
 have hs:sizeLine=16777216:=pf
 cases x with
 |non =>
  cases rx
  have e':k=false:=e
  subst e'
  exact truthy_none ⟨H,I,q⟩
 |bl b =>
  cases rx
  have e':k=b:=e
  subst e'
  exact gh ⟨H,I,q⟩
 |int i =>
  obtain⟨t,rfl⟩:=rx
  have e':k=(i != 0):=e
  subst e'
  exact PySem.P.truthy_int ⟨H,I,q⟩
 |str y =>
  obtain⟨t,rfl⟩:=rx
  obtain⟨hy,e'⟩:y.length<=sizeLine/\k=((y.length:Int) != 0):=e
  subst e'
  exact PySem.P.truthy_str (by lia) ⟨H,I.tok _,q⟩
 |byt y =>
  obtain⟨t,rfl⟩:=rx
  obtain⟨hy,e'⟩:y.size<=sizeLine/\k=((y.size:Int) != 0):=e
  subst e'
  exact PySem.W.truthy_bytes (by lia) ⟨H,I.tok _,q⟩
 |ref p =>
  cases rx
  have e':(∃xs,bA X.K H p xs/\k= !xs.isEmpty)\/(∃xs,aQ X.K H p xs/\k= !xs.isEmpty)\/∃kvs,H p=some (.dK kvs)/\k= !kvs.isEmpty:=e
  rcases e' with⟨xs,hx,e'⟩|⟨xs,hx,e'⟩|⟨kvs,hx,e'⟩
  ·subst e'
   obtain⟨its,r,pl,hz⟩:=I.list hx
   have hlen:=r.length
   exact wpAny_truthy_list pl.isList (by simp only[List.size_toArray];lia) ⟨H,I.tok _,by rw[qQ r];exact q⟩
  ·subst e'
   obtain⟨its,r,pl,hz⟩:=I.tuple hx
   have hlen:=r.length
   exact truthy_tuple pl (by simp only[List.size_toArray];lia) ⟨H,I.tok _,by rw[qQ r];exact q⟩
  ·subst e'
   obtain⟨hz,hS,vs,r,m⟩:kvs.length<=sizeLine/\(p==sysModules)=false/\∃vs,KV kvs vs/\s.heap.DictOf (bK X.prog X.w) p vs:=I.hok p _ hx
   have hlen:kvs.length=vs.length:=ii r
   exact wpAny_truthy_dict hS m (by lia) ⟨H,I.tok _,by rw[aC2 r];exact q⟩
 |_=>exact(show False from e).elim
theorem iW(ha:PE X a ta)(he:∀whole,isTrue a X.env whole=(do let v <-whole;standAt a.pos;holding [v] (truthy v))) :
  PT X a (fun σ H Q=>ta σ H fun x H'=>∃k,cK9 X.K x H' k/\Q k H'):=by
 intro pins s σ H Q I h
 refine isTrue_plain (cO (ha pins s σ H _ I h) ?_) (he _);rintro v s1 ⟨x,H1,I1,r1,q1⟩;exact bU1 pins s1 σ H1 x v Q I1 r1 q1
theorem lX:iQ X (binaryOp .Add) (fun x y H Q=>∃i j,x= .str i/\y= .str j/\i.length+j.length<=sizeLine/\Q (.str (i++j)) H):=by
 intro pins s σ H x y v u Q I rx ry h
 obtain⟨i,j,rfl,rfl,hz,q⟩:=h
 obtain⟨t,rfl⟩:=rx
 obtain⟨t',rfl⟩:=ry
 exact add_str (fun t' tk=>⟨.str (i++j),H,I.tok _,⟨_,rfl⟩,q⟩) hz
theorem iO{x:V}{us:List Value}(r:bH [x] us):∃u,us=[u]/\bF x u:=by
 cases r with
 |cons r1 r2=>cases r2;exact⟨_,rfl,r1⟩
theorem yR{x y:V}{us:List Value}(r:bH [x,y] us):∃u w',us=[u,w']/\bF x u/\bF y w':=by
 cases r with
 |cons r1 r2 =>
  cases r2 with
  |cons r3 r4=>cases r4;exact⟨_,_,rfl,r1,r3⟩
theorem uQ(hc:X.calm=true):fG X (.builtin "max") (fun xs H Q=>∃i j,xs=[.int i,.int j]/\Q (.int (if j > i then j else i)) H):=by
 intro pins s σ H xs us Q I r h
 obtain⟨i,j,rfl,q⟩:=h
 obtain⟨u,w',rfl,⟨t,rfl⟩,⟨t',rfl⟩⟩:=yR r
 refine max_two_ints (I.ok.hd hc) fun h' tk k=>⟨_,H,I.kept k,?_,q⟩
 by_cases hj:j > i
 ·rw[br hj,br hj];exact⟨_,rfl⟩
 ·rw[ay hj,ay hj];exact⟨_,rfl⟩
theorem aP1(hc:X.calm=true):fG X (.builtin "min") (fun xs H Q=>∃i j,xs=[.int i,.int j]/\Q (.int (if j<i then j else i)) H):=by
 intro pins s σ H xs us Q I r h
 obtain⟨i,j,rfl,q⟩:=h
 obtain⟨u,w',rfl,⟨t,rfl⟩,⟨t',rfl⟩⟩:=yR r
 refine min_two_ints (I.ok.hd hc) fun h' tk k=>⟨_,H,I.kept k,?_,q⟩
 by_cases hj:j<i
 ·rw[br hj,br hj];exact⟨_,rfl⟩
 ·rw[ay hj,ay hj];exact⟨_,rfl⟩
theorem pG:fG X (.type "int") (fun xs H Q=>(∃i,xs=[.int i]/\Q (.int i) H)\/∃k,xs=[.bl k]/\Q (.int (if k then 1 else 0)) H):=by
 intro pins s σ H xs us Q I r h
 rcases h with⟨i,rfl,q⟩|⟨k,rfl,q⟩
 ·obtain⟨u,rfl,t,rfl⟩:=iO r
  exact call_int_int ⟨.int i,H,I,⟨_,rfl⟩,q⟩
 ·obtain⟨u,rfl,r1⟩:=iO r
  cases r1
  exact call_int_bool ⟨.int (if k then 1 else 0),H,I.tok _,⟨_,rfl⟩,q⟩
end
structure cE1(h:Heap)(x dx C:Addr)(mA:Str->Option Value):Prop where
 obj:h.get? x=some (PySem.W.instObj C dx)
 ns:h.Ns1 dx mA
 ne:dx≠x
theorem aK2{h:Heap}{dx:Addr}{mA:Str->Option Value}(n:h.Ns1 dx mA):∃od,h.get? dx=some od/\∀name,PySem.W.lookIn name od=some (mA name):=by
 obtain⟨o,es,ep,ho,hd,hk,_,hm⟩:=n
 refine⟨o,ho,fun name=>?_⟩
 have e:=hm name
 unfold nsFind findBy at e
 rw[<-Array.find?_toList] at e
 unfold PySem.W.lookIn
 rw[hd]
 dsimp only
 split
 ·rename_i y q
  rw[q] at e
  exact eo some e
 ·rename_i q
  rw[q] at e
  have a:es.toList.any (·.refKey)=false:=by
   rw[List.any_eq_false]
   intro y hy
   obtain⟨z,t,hkey⟩:=hk y (Array.mem_toList_iff.mp hy)
   simp[DictEntry.refKey,hkey]
  have a':¬es.toList.any (·.refKey)=true:=by rw[a];exact bt
  rw[ay a']
  exact eo some e
theorem cE1.look{h:Heap}{x dx C:Addr}{mA:Str->Option Value}(I:cE1 h x dx C mA):∃od,PySem.W.InstAt h x (PySem.W.instObj C dx) C (some od)/\∀name,PySem.W.lookIn name od=some (mA name):=by
 obtain⟨od,ho,hl⟩:=aK2 I.ns
 exact⟨od,⟨I.obj,rfl,rfl,ho⟩,hl⟩
section
variable {prog:Program}{w:World}{A:Around}{E:Value->Shared->Prop}{s:Shared}{K:PySem.W.Frag}{x dx C f:Addr}{mA:Str->Option Value}{name:Str}{v:Value}
end
theorem kD.some_of{v:V}{o:Option Value}(r:kD (some v) o):∃u,o=some u/\bF v u:=by
 cases o with
 |none=>exact(show False from r).elim
 |some u=>exact⟨u,rfl,r⟩
theorem kD.none_of{o:Option Value}(r:kD none o):o=none:=by
 cases o with
 |none=>rfl
 |some u=>exact(show False from r).elim
section
variable {P:Program}{w:World}{H H':Hp}{h h':Heap}{a C dx:Addr}{fs fs':List (Str×V)}
theorem bP1(hok:mI P w H h)(e:H a=some (.ins C dx fs)):∃mA,cE1 h a dx C mA/\(∀f,kD (fs.lookup f) (mA f))/\PySem.Within mA (fs.map (·.1))/\fs.length<=1000/\H dx=some (.own a):=by
 obtain⟨d,z,ne,ob,mA,n,r,q⟩:=(show cR P w H h a (.ins C dx fs) from hok a _ e)
 exact⟨mA,⟨ob,n,ne⟩,r,q,z,d⟩
end
structure Cls(K:PySem.W.Frag)(C:Addr):Prop where
 pg:PySem.W.plainGet K C Str.empty=true
 hd:PySem.W.hasDictIn K C=true
 po:PySem.W.plainOver K C=true
 sa:PySem.W.findIn K (.ref C) "__setattr__"=some (some (.builtin "object.__setattr__"))
theorem Cls.get{K:PySem.W.Frag}{C:Addr}(c:Cls K C)(f:Str):PySem.W.plainGet K C f=true:=c.pg
section
variable {X:Cx}{pins:List (Addr×Obj)}{σ:St}{H:Hp}{s:Shared}{a C dx:Addr}{fs:List (Str×V)}{f:Str}{v:V}{A:Around}{E:Value->Shared->Prop}
end
section
variable {X:Cx}{o e value:Expr}{f:Str}{pos pos' tpos:Pos}{ta tv:TE}
end
section
variable {X:Cx}{pins:List (Addr×Obj)}{σ:St}{H:Hp}{s:Shared}{A:Around}{E:Value->Shared->Prop}{Q:Value->Shared->Prop}{c:Value}{b:Bool}
inductive oQ(K:PySem.W.Frag)(H:Hp):V->Value->Prop where
 |non:oQ K H .non (.type "NoneType")
 |bl (x:Bool):oQ K H (.bl x) (.type "bool")
 |int (i:Int):oQ K H (.int i) (.type "int")
 |str (x:Str):oQ K H (.str x) (.type "str")
 |flt (x:UInt64):oQ K H (.flt x) (.type "float")
 |lst {a:Addr}{xs:List V}(e:H a=some (.lst xs)):oQ K H (.ref a) (.type "list")
 |frz {a:Addr}{o:Obj}{xs:List V}(e:H a=some (.frz o (.lst xs))):oQ K H (.ref a) (.type "list")
 |tup {a:Addr}{xs:List V}(e:H a=some (.tup xs)):oQ K H (.ref a) (.type "tuple")
 |dK {a:Addr}{kvs:List (Key×V)}(e:H a=some (.dK kvs)):oQ K H (.ref a) (.type "dict")
 |dT {a:Addr}{kvs:List (List Key×V)}(e:H a=some (.dT kvs)):oQ K H (.ref a) (.type "dict")
 |ins {a C dx:Addr}{fs:List (Str×V)}(e:H a=some (.ins C dx fs)) (cl:Cls K C) (ha:PySem.W.findIn K (.ref C) "__class__"=some (some (.builtin "object.__class__")))
   (hn:PySem.W.specialIn K (.builtin "object.__class__") "__get__"=some (some (.builtin "getset_descriptor.__get__"))) (htk:PySem.W.takesIn K (.builtin "object.__class__")=some true)
   (hm:PySem.W.mroIn K C (.type "object")=some true):oQ K H (.ref a) (.ref C)
theorem aN7{x:V}{u t:Value}(I:aX X pins σ H s)(rx:bF x u)(ty:oQ X.K H x t)(e:PySem.W.kitOne X.K t c=some b)(h:∀tk,Q (.bool b) { s with toks:=tk }) :
  wpAny (model X.prog X.w) A (call (.builtin "isinstance") [u,c]) Q E s:=by
 cases ty with
 |non=>cases(show u=Value.none from rx);exact ij PySem.W.kitx_none I.kIn jm e (fun z=>nomatch z) h
 |bl y=>cases(show u=Value.bool y from rx);exact ij PySem.W.kitx_bool I.kIn jm e (fun z=>nomatch z) h
 |int i=>obtain⟨t,q⟩:=(show ∃t,u=Value.int i t from rx);cases q;exact ij PySem.W.kitx_int I.kIn jm e (fun z=>nomatch z) h
 |str y=>obtain⟨t,q⟩:=(show ∃t,u=Value.str y t from rx);cases q;exact ij PySem.W.kitx_str I.kIn jm e (fun z=>nomatch z) h
 |flt y=>obtain⟨t,q⟩:=(show ∃t,u=Value.float y t from rx);cases q;exact ij PySem.W.kitx_float I.kIn jm e (fun z=>nomatch z) h
 |@lst a xs ea =>
  cases(show u=Value.ref a from rx)
  obtain⟨_,_,n,_,h1⟩:=(show cR X.prog X.w H s.heap a (.lst xs) from I.hok a _ ea)
  exact ij yc I.kIn ⟨_,h1,rfl⟩ e (fun z=>nomatch z) h
 |@frz a ob xs ea =>
  cases(show u=Value.ref a from rx)
  obtain⟨_,_,_,n,_,h1⟩:=(show cR X.prog X.w H s.heap a (.frz ob (.lst xs)) from I.hok a _ ea)
  exact ij yc I.kIn ⟨_,h1,rfl⟩ e (fun z=>nomatch z) h
 |@tup a xs ea =>
  cases(show u=Value.ref a from rx)
  obtain⟨_,_,_,p⟩:=(show cR X.prog X.w H s.heap a (.tup xs) from I.hok a _ ea)
  obtain⟨o,h1,h2,_⟩:=p
  exact ij PySem.W.kitx_tuple I.kIn ⟨o,h1,h2⟩ e (fun z=>nomatch z) h
 |@dK a kvs ea =>
  cases(show u=Value.ref a from rx)
  obtain⟨_,_,vs,_,p⟩:=(show cR X.prog X.w H s.heap a (.dK kvs) from I.hok a _ ea)
  obtain⟨o,es,ep,h1,h2,_⟩:=p
  exact ij yd I.kIn ⟨o,h1,h2.1⟩ e (fun z=>nomatch z) h
 |@dT a kvs ea =>
  cases(show u=Value.ref a from rx)
  obtain⟨_,_,xs,_,o,es,ep,h1,h2,_⟩:=(show cR X.prog X.w H s.heap a (.dT kvs) from I.hok a _ ea)
  exact ij yd I.kIn ⟨o,h1,h2.1⟩ e (fun z=>nomatch z) h
 |@ins a C dx fs ea cl ha hn htk hm =>
  cases(show u=Value.ref a from rx)
  obtain⟨mA,O,_⟩:=bP1 I.hok ea
  obtain⟨od,J,_⟩:=O.look
  exact ij (PySem.W.kitx_own (cl.get _) cl.hd ha hn htk hm) I.kIn J e (fun z=>nomatch z) h
end
structure dI(k:Nat)(A:Around):Prop where
 hd:A.handled=none
 dp:A.depth+3*k+5<recursionLimit
 un:A.units+16*k+200<cLine
 gd:A.guards=some []
theorem dI.mono{j k:Nat}{A:Around}(r:dI k A)(h:j<=k):dI j A:=⟨r.hd,by have:=r.dp;lia,by have:=r.un;lia,r.gd⟩
theorem dI.deeper{k:Nat}{A:Around}(r:dI (k+1) A)(env:Env):dI k (A.deeper env):=
 ⟨r.hd,by have:=r.dp;show A.depth+1+3*k+5<_;lia,by have:=r.un;show A.units+3+16*k+200<_;lia,r.gd⟩
theorem dI.depth{k:Nat}{A:Around}(r:dI k A):A.depth<recursionLimit:=by have:=r.dp;lia
theorem dI.units{k:Nat}{A:Around}(r:dI k A):A.units+64<cLine:=by have:=r.un;lia
def tNil:TA:=fun _ H Q=>Q [] H
def iK(ta:TE)(tr:TA):TA:=fun σ H Q=>ta σ H fun x H1=>tr σ H1 fun xs H2=>Q (x::xs) H2
section
variable {X:Cx}{e:Expr}{es:List Expr}{te:TE}{t:TA}{pos:Pos}
theorem bX:PA X [] tNil:=fun _ _ _ _ H Q I h=>jq ⟨[],H,I,.nil,h⟩
theorem aC(ha:PE X e te)(hr:PA X es t)(hs:autoParam (starEach (e::es) X.env=(false,eval e X.env)::starEach es X.env) Rq0._auto_1):PA X (e::es) (iK te t):=by
 intro pos pins s σ H Q I h
 rw[hs]
 show wpAny _ _ (spliced ((false,eval e X.env)::backTo pos (starEach es X.env))) _ _ s
 refine ik (cO (ha pins s σ H _ I h) ?_);rintro u s1 ⟨x,H1,I1,r1,q1⟩
 refine cO (hr pos pins s1 σ H1 _ I1 q1) ?_;rintro us s2 ⟨xs,H2,I2,r2,q2⟩;exact⟨x::xs,H2,I2,.cons r1 r2,q2⟩
def cS9(t:TA):TE:=fun σ H Q=>t σ H fun xs H1=>xs.length<=sizeLine/\∀p,H1 p=none->Q (.ref p) (aL H1 p (.tup xs))
def aN9(t:TA):TE:=fun σ H Q=>t σ H fun xs H1=>xs.length<=sizeLine/\∀p,H1 p=none->Q (.ref p) (aL H1 p (.lst xs))
theorem aW{x1}(h:PA X es t):PE X (.Tuple es x1 pos) (cS9 t):=by
 intro pins s σ H Q I hq
 refine wpAny_Tuple_spliced (cO (h pos pins s σ H _ I hq) ?_);rintro us s1 ⟨xs,H1,I1,r,z,q⟩;refine⟨by rw[<-r.length];exact z,?_⟩
 have hf:H1 s1.heap.objs.size=none:=I1.hok.fresh (af _)
 refine⟨.ref s1.heap.objs.size,aL H1 s1.heap.objs.size (.tup xs),I1.laid (t':=s1.toks) (fun b u e=>ac _ e) (af _) ?_,rfl,q _ hf⟩
 exact⟨z,us,r,⟨_,bz _ rfl,rfl,_,rfl,rfl⟩⟩
theorem bJ(h:PA X es t):PE X (.List es pos) (aN9 t):=by
 intro pins s σ H Q I hq
 refine wpAny_List_spliced (cO (h pos pins s σ H _ I hq) ?_);rintro us s1 ⟨xs,H1,I1,r,z,q⟩;refine⟨by rw[<-r.length];exact z,?_⟩
 have hf:H1 s1.heap.objs.size=none:=I1.hok.fresh (af _)
 refine⟨.ref s1.heap.objs.size,aL H1 s1.heap.objs.size (.lst xs),I1.laid (t':=s1.toks) (fun b u e=>ac _ e) (af _) ?_,rfl,q _ hf⟩
 exact⟨z,us,0,r,bz _ rfl⟩
end
abbrev Sp:=List V->Hp->VK->XK->Prop
abbrev CXT:=List Env->Hp->Shared->XK->Value->Shared->Prop
structure aO8(P:Program)(w:World)(K:PySem.W.Frag)(mg:Str->Option Value)(base:Heap)(A:Around)(outer:List Env)(s:Shared)(H:Hp):Prop where
 frames:A.frames=some outer
 mod:Mod K mg base
 bs:∀b o,base.get? b=some o->s.heap.get? b=some o/\H b=none
 bsz:base.objs.size<=s.heap.objs.size
 funs:s.heap.FunFrames base outer
 frf:∀b∈uW outer,H b=none
 hok:mI P w H s.heap
 bare:AllBare s.gens
def CE(outer:List Env)(P:Program)(w:World)(H:Hp)(s:Shared)(Q:VK)(u:Value)(s':Shared):Prop:=
 ∃v H',s'.os=s.os/\AllBare s'.gens/\Un (uW outer) [] H H' s.heap s'.heap/\mI P w H' s'.heap/\bF v u/\Q v H'
def CR(CX:CXT)(outer:List Env)(P:Program)(w:World)(H:Hp)(s:Shared)(Q:VK)(E:XK)(r:Result)(s':Shared):Prop:=
 match r with
 |.ok (.ret u)=>CE outer P w H s Q u s'
 |.ok _=>False
 |.error e=>CX outer H s E e s'
structure nX(P:Program)(w:World)(K:PySem.W.Frag)(mg:Str->Option Value)(base:Heap)(CX:CXT)(k:Nat)(f:Addr)(fd:FuncData)(ps:List Str)(sp:Sp):Prop where
 len:∀vs H Q E,sp vs H Q E->vs.length=ps.length
 run:∀(A:Around) (outer:List Env) (s:Shared) (H:Hp) (args:Args) (us:List Value) (vs:List V) (Q:VK) (E:XK),dI k A->aO8 P w K mg base A outer s H->BindsTo s fd args (ps.zip us)->bH vs us->sp vs H Q E ->
  codeAny (model P w) A (.call (.ref f) args) (CR CX outer P w H s Q E) s
section
variable {X:Cx}{pins:List (Addr×Obj)}{σ:St}{H:Hp}{s s':Shared}
theorem aX.env0(I:aX X pins σ H s):aO8 X.prog X.w X.K X.mg X.base X.A X.stack s H:=
 ⟨I.ok.frames,I.ok.mod,I.bs,cj I.ok.bsz I.sz,I.stack,I.stkFree,I.hok,I.bare⟩
theorem aX.after{Q:VK}{u:Value}(I:aX X pins σ H s)(h:CE X.stack X.prog X.w H s Q u s'):EP X pins σ Q u s':=by
 obtain⟨v,H',os,bare,un,hok,r,q⟩:=h
 obtain⟨hh,g,d,t,os'⟩:=s'
 obtain rfl:os'=s.os:=os
 exact⟨v,H',I.call (h':=hh) (g':=g) (d':=d) (t':=t) (ch:=[]) un hok bare (fun b z=>absurd z (by simp)),r,q⟩
end
def tX(sp:Sp)(dvs:List V)(E:XK)(t:TA):TE:=fun σ H Q=>t σ H fun vs H1=>sp (vs++dvs) H1 Q E
def jA(K:PySem.W.Frag)(fd:FuncData)(ps:List Str)(ds:List Value):Prop:=
 ∀(s:Shared) (us:List Value),K.In s.heap->(us++ds).length=ps.length->BindsTo s fd ⟨us,[]⟩ (ps.zip (us++ds))
theorem jA.all{K:PySem.W.Frag}{fd:FuncData}{ps:List Str}(h:∀us:List Value,us.length=ps.length->bindArgs fd ⟨us,[]⟩=pure (ps.zip us)):jA K fd ps []:=fun s us _ hl=>by
 rw[dw] at hl ⊢
 exact .of_eq (h us hl)
def aA5(CX:CXT)(X:Cx)(E:XK):Prop:=∀(pins:List (Addr×Obj)) (σ:St) (H:Hp) (s:Shared) (e:Value) (s':Shared),aX X pins σ H s->CX X.stack H s E e s'->X.xe e s'
section
variable {X:Cx}{CX:CXT}{k:Nat}{f C:Addr}{fd:FuncData}{ps:List Str}{sp:Sp}{dvs:List V}{ds:List Value}{E:XK}{x m:Str}{p pos apos:Pos}{e o:Expr}{es:List Expr}{ta:TE}{t:TA}
theorem cC0{pins:List (Addr×Obj)}{σ:St}{H:Hp}{s:Shared}{Q:VK}{us:List Value}{vs:List V}(F:nX X.prog X.w X.K X.mg X.base CX k f fd ps sp)(hr:dI k X.A)(hb:jA X.K fd ps ds)(hd:bH dvs ds)(hx:aA5 CX X E)
  (I:aX X pins σ H s) (r:bH vs us) (h:sp (vs++dvs) H Q E):wpAny (model X.prog X.w) X.A (call (.ref f) us) (EP X pins σ Q) X.xe s:=by
 have r2:bH (vs++dvs) (us++ds):=r.append hd
 have hl:(us++ds).length=ps.length:=by rw[<-r2.length];exact F.len _ _ _ _ h
 refine vy (kq (F.run X.A X.stack s H ⟨us,[]⟩ (us++ds) (vs++dvs) Q E hr I.env0 (hb s us I.kIn hl) r2 h) fun r s' hq=>?_)
 cases r with
 |error e=>exact hx pins σ H s e s' I hq
 |ok fl =>
  cases fl with
  |ret u=>exact I.after hq
  |next=>exact False.elim hq
  |brk=>exact False.elim hq
  |cont=>exact False.elim hq
theorem bM0(F:nX X.prog X.w X.K X.mg X.base CX k f fd ps sp)(hr:dI k X.A)(hg:Gl X x)(hm:X.mg x=some (.ref f))(hk:PySem.W.keepIn X.K (.ref f)=true)(hb:jA X.K fd ps ds)(hd:bH dvs ds)(hx:aA5 CX X E)
  (ha:PA X (e::es) t) (hdb:autoParam ((x==("__debug__": Str))=false) Rq1._auto_1) (he:autoParam (starEach (e::es) X.env=(false,eval e X.env)::starEach es X.env) Rq0._auto_1) (hpl:autoParam ((backTo pos (starEach es X.env)).any (·.1)=false) Rq0._auto_1) :
  PE X (.Call (.Name x p) (e::es) [] pos) (tX sp dvs E t):=by
 intro pins s σ H Q I h
 refine gm (vL I hg hm ?_ hdb)
 refine PySem.W.callWith_K (h₀:=X.base) I.ok.mod.kin hk (cO (ha pos pins s σ H _ I h) ?_) he hpl;rintro us s1 ⟨vs,H1,I1,r,q⟩;refine⟨I1.kIn,?_⟩
 exact cC0 F hr hb hd hx I1 r q
end
section
variable {X:Cx}{CX:CXT}{k:Nat}{f C:Addr}{fd:FuncData}{ps ks:List Str}{sp:Sp}{E:XK}{x m:Str}{p pos apos kpos:Pos}{e o:Expr}{es:List Expr}{kws:List Keyword}{te ta:TE}{t tk:TA}{nm:Option Str}
variable {g:List Value->List Value->List Value}{gV:List V->List V->List V}
end
structure iM(N P:List Str)(sc:Scope):Prop where
 kind:sc.kind= .function
 co:sc.isCoroutine=false
 gen:sc.isGenerator=false
 nd:N.Nodup
 pre:N.take P.length=P
 par:∀x∈P,sc.names.lookup x=some .local\/sc.names.lookup x=some .cell
 nofree:∀y∈sc.names,y.2≠ .free
theorem tP{kindOf:Str->Option NameKind}{x:Str}:∀{binds:List (Str×Value)}{m:Str->Option Value},(∀v,(x,v)∉binds)->bindL kindOf binds m x=m x
 |[],_,_=>rfl
 |(n,v)::r,m,h=>by
  unfold bindL
  rw[tP fun w hw=>h w (ak _ hw)]
  split
  ·have:x≠n:=by rintro rfl;exact h v ao
   simp[this]
  ·rfl
theorem tV{kindOf:Str->Option NameKind}{x:Str}:∀{binds:List (Str×Value)}{m:Str->Option Value},(∀v,(x,v)∉binds)->bindC kindOf binds m x=m x
 |[],_,_=>rfl
 |(n,v)::r,m,h=>by
  unfold bindC
  rw[tV fun w hw=>h w (ak _ hw)]
  split
  ·rfl
  ·have:x≠n:=by rintro rfl;exact h v ao
   simp[this]
theorem uN{kindOf:Str->Option NameKind}{x:Str}{v:Value}:∀{P:List Str}{vs:List Value}{i:Nat}{m:Str->Option Value},P.Nodup->P[i]?=some x->vs[i]?=some v->kindOf x=some .local ->
  bindL kindOf (P.zip vs) m x=some v
 |[],_,_,_,_,h,_,_=>by simp at h
 |_::_,[],_,_,_,_,h,_=>by simp at h
 |p::P,w::vs,0,m,nd,h1,h2,hk=>by
  simp at h1 h2;subst h1;subst h2
  show bindL kindOf ((p,w)::P.zip vs) m p=_
  unfold bindL
  rw[tP fun v hv=>(du.mp nd).1 (nj hv).1,br hk]
  simp
 |p::P,w::vs,i+1,m,nd,h1,h2,hk=>by
  show bindL kindOf ((p,w)::P.zip vs) m x=_
  unfold bindL
  exact uN (i:=i) (du.mp nd).2 (by simpa using h1) (by simpa using h2) hk
theorem uE{kindOf:Str->Option NameKind}{x:Str}{v:Value}:∀{P:List Str}{vs:List Value}{i:Nat}{m:Str->Option Value},P.Nodup->P[i]?=some x->vs[i]?=some v->kindOf x≠some .local ->
  bindC kindOf (P.zip vs) m x=some v
 |[],_,_,_,_,h,_,_=>by simp at h
 |_::_,[],_,_,_,_,h,_=>by simp at h
 |p::P,w::vs,0,m,nd,h1,h2,hk=>by
  simp at h1 h2;subst h1;subst h2
  show bindC kindOf ((p,w)::P.zip vs) m p=_
  unfold bindC
  rw[tV fun v hv=>(du.mp nd).1 (nj hv).1,ay hk]
  simp
 |p::P,w::vs,i+1,m,nd,h1,h2,hk=>by
  show bindC kindOf ((p,w)::P.zip vs) m x=_
  unfold bindC
  exact uE (i:=i) (du.mp nd).2 (by simpa using h1) (by simpa using h2) hk
def iX(N:List Str)(vs:List V):St:=vs.map some++List.replicate (N.length-vs.length) none
def rY(CX:CXT)(P:Program)(w:World)(K:PySem.W.Frag)(mg:Str->Option Value)(base:Heap)(N:List Str)(qual:Str)(scope:Scope)(f:Addr)(cd:Value)(A:Around)(outer:List Env)(s:Shared)(H:Hp)(E:XK):Cx where
 prog:=P
 w:=w
 K:=K
 mg:=mg
 base:=base
 A:=A.deeper (envOfC qual scope s.heap.objs.size f cd)
 N:=N
 s₀:=s
 H₀:=H
 env:=envOfC qual scope s.heap.objs.size f cd
 outer:=outer
 stack:=envOfC qual scope s.heap.objs.size f cd::outer
 ex:=[]
 calm:=true
 fn:=fun _=>true
 pn:=[]
 xe:=fun e s'=>wpAny (model P w) (A.deeper (envOfC qual scope s.heap.objs.size f cd)) (leaving (envOfC qual scope s.heap.objs.size f cd) e) (fun _ s''=>CX outer H s E e s'') (fun e' s''=>CX outer H s E e' s'') s'
theorem zA{sc:Scope}{n:Nat}{x:Str}(h:sc.names.lookup x=some .cell):∃c,(cellsFrom n sc.names []).lookup x=some c:=by
 have q:=vb sc.names n [] (.inl h)
 exact ny.mp q
theorem tZ{CX:CXT}{P:Program}{w:World}{K:PySem.W.Frag}{mg:Str->Option Value}{base:Heap}{N ps:List Str}{qual:Str}{scope:Scope}{f:Addr}{cd:Value}{A:Around}{outer:List Env}{s s1:Shared}{H:Hp}{E:XK}{us:List Value}{vs:List V}
  (S:iM N ps scope) (hd:A.handled=none) (e0:aO8 P w K mg base A outer s H) (hl:vs.length=ps.length) (r:bH vs us)
  (x:InCallC s s.heap.objs.size (bindL (envOfC qual scope s.heap.objs.size f cd).kindOf (ps.zip us) fun _=>none) (cellsFrom (s.heap.objs.size+1) scope.names []) (bindC (envOfC qual scope s.heap.objs.size f cd).kindOf (ps.zip us) fun _=>none) s1) :
  aX (rY CX P w K mg base N qual scope f cd A outer s H E) [] (iX N vs) H s1:=by
 have hpl:ps.length<=N.length:=by have:=eo List.length S.pre;rw[dj] at this;lia
 obtain⟨h1,tk,rfl,hk⟩:=x.done
 have noA:∀b:Addr,b∉(rY CX P w K mg base N qual scope f cd A outer s H E).ex:=fun b z=>absurd (show b∈([]:List Addr) from z) (by simp)
 refine⟨⟨e0.mod,S.kind,rfl,rfl,af _,fun y z c h1 h2=>?_,fun y hy=>?_,fun y c _ h=>?_,fun _=>hd,vz e0.frames,.inr ⟨rfl,rfl⟩,fun b z=>absurd z (noA b),e0.bs,e0.bsz,fun b _ _=>noA b,fun b z=>absurd z (noA b),e0.funs,e0.frf⟩,
  rfl,e0.bare,Un.kept hk,⟨_,x.toInCall.ns,fun i y v h1 h2 h3=>?_⟩,fun y c h=>⟨_,x.cell y c h⟩,e0.hok.fresh (af _),fun y c h=>?_,fun p hp=>absurd (show p∈([]:List (Addr×Obj)) from hp) (by simp),e0.hok.kept hk,?_⟩
 ·exact name_of_addr x.apart (ib h1) (ib h2)
 ·have hy:scope.names.lookup y=some .cell\/scope.names.lookup y=some .free:=hy
  rcases hy with hy|hy
  ·exact zA hy
  ·exact absurd rfl (S.nofree _ (ib hy))
 ·exact cu (x.above y c (ib h))
 ·have hi:i<vs.length:=by
   unfold iX at h2
   by_cases hi:i<vs.length
   ·exact hi
   ·rw[mz (by simpa using hi)] at h2
    rw[List.getElem?_replicate] at h2
    split at h2<;>cases h2
  have ha:vs[i]?=some v:=by
   unfold iX at h2
   rw[nq (by simpa using hi),di] at h2
   cases e:vs[i]? with
   |none=>rw[e] at h2;cases h2
   |some a=>rw[e] at h2;cases h2;rfl
  obtain⟨u,hu,rv⟩:=r.get ha
  have hp:ps[i]?=some y:=by
   rw[<-S.pre,List.getElem?_take_of_lt (by lia)];exact h1
  have ndP:ps.Nodup:=by rw[<-S.pre];exact S.nd.sublist (List.take_sublist _ _)
  refine⟨u,rv,?_⟩
  rcases S.par y (bj hp) with k|k
  ·exact .inl ⟨k,uN ndP hp hu k⟩
  ·obtain⟨c,e⟩:=zA (n:=s.heap.objs.size+1) k
   refine .inr ⟨.inl k,c,e,?_⟩
   have q:=x.cell y c e
   rw[uE ndP hp hu (by show scope.names.lookup y≠_;rw[k];decide)] at q
   exact q
 ·exact e0.hok.fresh (cu (x.above y c (ib h)))
 ·unfold iX
  show _=N.length
  rw[ap,aa,List.length_replicate]
  lia
theorem bQ9{CX:CXT}{P:Program}{w:World}{K:PySem.W.Frag}{mg:Str->Option Value}{base:Heap}{k:Nat}{f:Addr}{name qual:Str}{params:Arguments}{body:List Stmt}{scope:Scope}{dV kV doc pm cdv ct oc:Value}{an od:Option Addr}
  {osl:Array (Option Value)}{N ps:List Str}{sp:Sp}(lk:K.lookup f=some ⟨oc,od,.func (PySem.W.fnOf name qual params body scope dV kV doc pm an cdv ct),osl⟩) (hcd:PySem.W.codeIn K cdv qual=true) (S:iM N ps scope)
  (len:∀vs H Q E,sp vs H Q E->vs.length=ps.length)
  (hbody:∀(A:Around) (outer:List Env) (s:Shared) (H:Hp) (vs:List V) (Q:VK) (E:XK),dI k (A.deeper (envOfC qual scope s.heap.objs.size f cdv))->sp vs H Q E ->
   ∃t,uR (rY CX P w K mg base N qual scope f cdv A outer s H E) body t/\t { nx:=fun _ H'=>Q .non H',rt:=Q } (iX N vs) H) :
  nX P w K mg base CX (k+1) f (PySem.W.fnOf name qual params body scope dV kV doc pm an cdv ct) ps sp:=by
 refine⟨len,fun A outer s H args us vs Q E hr e0 hb r hsp=>?_⟩
 have hl:=len _ _ _ _ hsp
 have KX:K.In s.heap:=e0.mod.kin.keeps fun b o e=>(e0.bs b o e).1
 have lim:s.heap.NoLimit:=e0.mod.nolimit.keeps fun b o e=>(e0.bs b o e).1
 have hkind:∀y∈ps.zip us,scope.names.lookup y.1=some .local\/(scope.names.lookup y.1=some .cell/\((cellsFrom (s.heap.objs.size+1) scope.names []).lookup y.1).isSome=true):=fun⟨n,v⟩ hy=>by
  rcases S.par n (nj hy).1 with q|q
  ·exact .inl q
  ·exact .inr ⟨q,vb _ _ _ (.inl q)⟩
 refine vm hr.depth (KX _ _ lk) rfl S.co S.gen rfl (PySem.W.codeRec_of KX hcd) (hb _ _ _ _ ?_)
 refine sj S.kind hkind fun env he s1 x=>?_
 subst he
 refine⟨lim.keeps x.toInCall.keep,codeAny_func ?_⟩
 obtain⟨t,ht,hq⟩:=hbody A outer s H vs Q E (hr.deeper _) hsp
 have I:aX (rY CX P w K mg base N qual scope f cdv A outer s H E) [] (iX N vs) H s1:=tZ S hr.hd e0 hl r x
 refine fg (ht [] s1 (iX N vs) H _ I hq) (fun fl s' hs=>?_) fun e s' hs=>hs
 have fin:∀{σ':St}{H':Hp}{v:V}{u:Value},aX (rY CX P w K mg base N qual scope f cdv A outer s H E) [] σ' H' s'->bF v u->Q v H'->CE outer P w H s Q u s':=
  fun {σ' H' v u} J rv q=>⟨v,H',J.os,J.bare,J.base,J.hok,rv,q⟩
 cases fl with
 |ret u =>
  obtain⟨v,σ',H',J,rv,q⟩:=hs
  exact fin J rv q
 |next =>
  obtain⟨σ',H',J,q⟩:=hs
  exact fin (v:=V.non) (u:=Value.none) J rfl q
 |brk =>
  obtain⟨_,_,_,q⟩:=hs
  exact False.elim q
 |cont =>
  obtain⟨_,_,_,q⟩:=hs
  exact False.elim q
section
variable {X:Cx}{x:Str}{p pos:Pos}{e:Expr}{es:List Expr}{t:TA}{id T:String}{r:List V->Hp->VK->Prop}
def tCB(r:List V->Hp->VK->Prop)(t:TA):TE:=fun σ H Q=>t σ H fun vs H1=>r vs H1 Q
theorem sJ(hc:fG X (.builtin id) r)(hg:Gl X x)(hm:X.mg x=none)(hv:bootBuiltins x=some (.builtin id))(ha:PA X (e::es) t)(hn:autoParam (x≠"__name__") Rq1._auto_1)(hdb:autoParam ((x==("__debug__": Str))=false) Rq1._auto_1)
  (he:autoParam (starEach (e::es) X.env=(false,eval e X.env)::starEach es X.env) Rq0._auto_1) (hpl:autoParam ((backTo pos (starEach es X.env)).any (·.1)=false) Rq0._auto_1):PE X (.Call (.Name x p) (e::es) [] pos) (tCB r t):=by
 intro pins s σ H Q I h
 refine gm (iS I hg hm hv ?_ hn hdb)
 refine PyProof.Rows.callWith_builtin1 (cO (ha pos pins s σ H _ I h) ?_) he hpl;rintro us s1 ⟨vs,H1,I1,r1,q1⟩;exact hc pins s1 σ H1 vs us Q I1 r1 q1
theorem aL9(hc:fG X (.type T) r)(hg:Gl X x)(hm:X.mg x=none)(hv:bootBuiltins x=some (.type T))(ha:PA X (e::es) t)(hn:autoParam (x≠"__name__") Rq1._auto_1)(hdb:autoParam ((x==("__debug__": Str))=false) Rq1._auto_1)
  (he:autoParam (starEach (e::es) X.env=(false,eval e X.env)::starEach es X.env) Rq0._auto_1) (hpl:autoParam ((backTo pos (starEach es X.env)).any (·.1)=false) Rq0._auto_1):PE X (.Call (.Name x p) (e::es) [] pos) (tCB r t):=by
 intro pins s σ H Q I h
 refine gm (iS I hg hm hv ?_ hn hdb)
 refine fm (cO (ha pos pins s σ H _ I h) ?_) he hpl;rintro us s1 ⟨vs,H1,I1,r1,q1⟩;exact hc pins s1 σ H1 vs us Q I1 r1 q1
end
section
variable {κ:Type} [DecidableEq κ]
def cJ(kvs:List (κ×V))(k:κ):Option V:=(kvs.find? fun kv=>decide (kv.1=k)).map (·.2)
def cZ(kvs:List (κ×V))(k:κ)(v:V):List (κ×V):=
 if (kvs.any fun kv=>decide (kv.1=k))=true then kvs.map (fun kv=>if kv.1=k then (kv.1,v) else kv) else kvs++[(k,v)]
theorem qN{k:κ}:cJ ([]:List (κ×V)) k=none:=rfl
theorem cQ{p:κ×V}{r:List (κ×V)}{k:κ}(e:p.1=k):cJ (p::r) k=some p.2:=by simp[cJ,List.find?_cons,e]
theorem cA{p:κ×V}{r:List (κ×V)}{k:κ}(e:¬p.1=k):cJ (p::r) k=cJ r k:=by simp[cJ,List.find?_cons,e]
theorem iC(k:κ):∀kvs:List (κ×V),(kvs.any fun kv=>decide (kv.1=k))=(cJ kvs k).isSome
 |[]=>rfl
 |p::r=>by
  rw[na]
  by_cases e:p.1=k
  ·simp only[cQ e,decide_eq_true e,Bool.true_or,Option.isSome_some]
  ·rw[cA e,db e,wq];exact iC k r
theorem yS(k j:κ)(y:V):∀kvs:List (κ×V),cJ (kvs.map fun kv=>if kv.1=k then (kv.1,y) else kv) j=(cJ kvs j).map fun x=>if j=k then y else x
 |[]=>rfl
 |p::r=>by
  have ih:=yS k j y r
  rw[ef]
  by_cases h:p.1=k
  ·rw[br h]
   by_cases e:p.1=j
   ·rw[cQ (p:=(p.1,y)) e,cQ e,qm,br (e.symm.trans h)]
   ·rw[cA (p:=(p.1,y)) e,cA e,ih]
  ·rw[ay h]
   by_cases e:p.1=j
   ·rw[cQ (p:=p) e,cQ e,qm,ay (fun z=>h (e.trans z))]
   ·rw[cA (p:=p) e,cA e,ih]
theorem tU(k j:κ)(y:V):∀kvs:List (κ×V),cJ kvs k=none->cJ (kvs++[(k,y)]) j=if j=k then some y else cJ kvs j
 |[],_=>by
  by_cases e:k=j
  ·rw[br e.symm];exact cQ (p:=(k,y)) e
  ·rw[ay (fun z=>e z.symm)];exact cA (p:=(k,y)) e
 |p::r,hn=>by
  rw[sy]
  have hk:¬p.1=k:=fun z=>by rw[cQ z] at hn;cases hn
  rw[cA hk] at hn
  have ih:=tU k j y r hn
  by_cases e:p.1=j
  ·rw[cQ e,cQ e,ay (fun z=>hk (e.trans z))]
  ·rw[cA e,cA e,ih]
theorem jI(kvs:List (κ×V))(k j:κ)(y:V):cJ (cZ kvs k y) j=if j=k then some y else cJ kvs j:=by
 unfold cZ
 by_cases a:(kvs.any fun kv=>decide (kv.1=k))=true
 ·rw[br a,yS]
  rw[iC] at a
  by_cases e:j=k
  ·obtain⟨x,hx⟩:=ny.mp a
   rw[br e,e,hx,qm,br rfl]
  ·rw[ay e]
   cases cJ kvs j with
   |none=>rfl
   |some x=>rw[qm,ay e]
 ·rw[ay a]
  refine tU k j y kvs ?_
  rw[iC] at a
  cases q:cJ kvs k with
  |none=>rfl
  |some x=>rw[q] at a;exact(a rfl).elim
theorem dY(kvs:List (κ×V))(k:κ)(v:V):(cZ kvs k v).length<=kvs.length+1:=by
 unfold cZ
 split
 ·rw[aa];lia
 ·rw[ap,bx,jn];lia
theorem nS{kvs:List (κ×V)}{k:κ}(v:V)(h:cJ kvs k=none):cZ kvs k v=kvs++[(k,v)]:=by
 unfold cZ
 rw[iC,h]
 exact ay (by decide)
theorem kD.isSome_eq{o:Option V}{u:Option Value}(r:kD o u):o.isSome=u.isSome:=by
 cases o with
 |none=>cases u with
  |none=>rfl
  |some _=>exact(show False from r).elim
 |some _=>cases u with
  |none=>exact(show False from r).elim
  |some _=>rfl
theorem kD.getD{o:Option V}{u:Option Value}{d:V}{d':Value}(r:kD o u)(rd:bF d d'):bF (o.getD d) (u.getD d'):=by
 cases o with
 |none=>cases u with
  |none=>exact rd
  |some _=>exact(show False from r).elim
 |some _=>cases u with
  |none=>exact(show False from r).elim
  |some _=>exact r
theorem KV.val{kvs:List (κ×V)}{vs:List (κ×Value)}(r:KV kvs vs)(k:κ):kD (cJ kvs k) (valueAt vs k):=by
 unfold KV at r
 induction r with
 |nil=>exact jm
 |@cons p q ps qs h t ih =>
  obtain⟨h1,h2⟩:=h
  by_cases e:p.1=k
  ·have e':q.1=k:=h1.symm.trans e
   have b:valueAt (q::qs) k=some q.2:=by simp[valueAt,List.find?_cons,e']
   rw[cQ e,b];exact h2
  ·have e':¬q.1=k:=fun z=>e (h1.trans z)
   have b:valueAt (q::qs) k=valueAt qs k:=by simp[valueAt,List.find?_cons,e']
   rw[cA e,b];exact ih
theorem KV.any{kvs:List (κ×V)}{vs:List (κ×Value)}(r:KV kvs vs)(k:κ):(kvs.any fun kv=>decide (kv.1=k))=vs.any fun kv=>decide (kv.1=k):=by
 unfold KV at r
 induction r with
 |nil=>rfl
 |cons h t ih=>rw[na,na,ih,h.1]
theorem KV.repl{kvs:List (κ×V)}{vs:List (κ×Value)}(r:KV kvs vs)(k:κ){y:V}{u:Value}(ry:bF y u) :
  KV (kvs.map fun kv=>if kv.1=k then (kv.1,y) else kv) (vs.map fun kv=>if kv.1=k then (kv.1,u) else kv):=by
 unfold KV at r ⊢
 induction r with
 |nil=>exact .nil
 |@cons p q ps qs h t ih =>
  rw[ef,ef]
  refine .cons ?_ ih
  obtain⟨h1,h2⟩:=h
  by_cases e:p.1=k
  ·rw[br e,br (h1.symm.trans e)];exact⟨h1,ry⟩
  ·rw[ay e,ay (fun z=>e (h1.trans z))];exact⟨h1,h2⟩
theorem KV.put{kvs:List (κ×V)}{vs:List (κ×Value)}(r:KV kvs vs)(k:κ){y:V}{u:Value}(ry:bF y u):KV (cZ kvs k y) (stored vs k u):=by
 unfold cZ stored
 rw[r.any k]
 by_cases e:(vs.any fun kv=>decide (kv.1=k))=true
 ·rw[br e,br e];exact r.repl k ry
 ·rw[ay e,ay e];exact Paired.snoc r ⟨rfl,ry⟩
theorem KV.length{kvs:List (κ×V)}{vs:List (κ×Value)}(r:KV kvs vs):kvs.length=vs.length:=ii r
end
theorem pN{P:Program}{w:World}{k:Key}{u:Value}(r:bF (kV k) u):(bK P w).is k u=true:=by
 cases k with
 |inl i=>obtain⟨t,e⟩:=(show ∃t,u=Value.int i t from r);subst e;exact xL P w i t
 |inr x=>obtain⟨t,e⟩:=(show ∃t,u=Value.str x t from r);subst e;exact xJ P w x t
theorem uP{P:Program}{w:World}:∀{ks:List Key}{us:List Value},bH (ks.map kV) us->ItemsAre (bK P w) ks us
 |[],_,r=>by rw[tj] at r;cases r;exact .nil
 |k::ks,_,r=>by
  rw[ef] at r
  cases r with
  |cons h t=>exact .cons (pN h) (uP t)
abbrev KT(H:Hp):List (List Key×V)->List (List Key×Addr×Value)->Prop:=Paired fun p q=>p.1=q.1/\H q.2.1=some (.tup (p.1.map kV))/\bF p.2 q.2.2
theorem KT.val{H:Hp}{kvs:List (List Key×V)}{xs:List (List Key×Addr×Value)}(r:KT H kvs xs)(k:List Key):kD (cJ kvs k) ((atKey xs k).map (·.2)):=by
 induction r with
 |nil=>exact jm
 |@cons p q ps qs h t ih =>
  obtain⟨h1,_,h2⟩:=h
  by_cases e:p.1=k
  ·have e':q.1=k:=h1.symm.trans e
   have b:atKey (q::qs) k=some q.2:=by simp[atKey,List.find?_cons,e']
   rw[cQ e,b];exact h2
  ·have e':¬q.1=k:=fun z=>e (h1.trans z)
   have b:atKey (q::qs) k=atKey qs k:=by simp[atKey,List.find?_cons,e']
   rw[cA e,b];exact ih
theorem KT.repl{H:Hp}{kvs:List (List Key×V)}{xs:List (List Key×Addr×Value)}(r:KT H kvs xs)(k:List Key){y:V}{u:Value}(ry:bF y u) :
  KT H (kvs.map fun kv=>if kv.1=k then (kv.1,y) else kv) (xs.map (putAt k u)):=by
 induction r with
 |nil=>exact .nil
 |@cons p q ps qs h t ih =>
  rw[ef,ef]
  refine .cons ?_ ih
  obtain⟨h1,h2,h3⟩:=h
  unfold putAt
  by_cases e:p.1=k
  ·rw[br e,br (h1.symm.trans e)];exact⟨h1,h2,ry⟩
  ·rw[ay e,ay (fun z=>e (h1.trans z))];exact⟨h1,h2,h3⟩
theorem KT.put{H:Hp}{kvs:List (List Key×V)}{xs:List (List Key×Addr×Value)}(r:KT H kvs xs)(k:List Key){b:Addr}{y:V}{u:Value}(hb:H b=some (.tup (k.map kV)))(ry:bF y u) :
  KT H (cZ kvs k y) (storedH xs k b u):=by
 have e:(kvs.any fun kv=>decide (kv.1=k))=(atKey xs k).isSome:=by
  rw[iC,(r.val k).isSome_eq,ma]
 unfold cZ storedH
 rw[e]
 by_cases q:(atKey xs k).isSome=true
 ·rw[br q,br q];exact r.repl k ry
 ·rw[ay q,ay q];exact Paired.snoc r ⟨rfl,hb,ry⟩
theorem KT.keeps{H H':Hp}{kvs:List (List Key×V)}{xs:List (List Key×Addr×Value)}(r:KT H kvs xs)(ht:∀b ys,H b=some (.tup ys)->H' b=some (.tup ys)):KT H' kvs xs:=
 Paired.mapP r fun _ _ z=>⟨z.1,ht _ _ z.2.1,z.2.2⟩
section
variable {P:Program}{w:World}{H:Hp}{h:Heap}{a:Addr}
theorem bR2{u:HO}(ok:mI P w H h)(e:Rd H a u):cR P w H h a u:=e.ok ok
theorem qP{kvs:List (Key×V)}(ok:mI P w H h)(e:Rd H a (.dK kvs)):kvs.length<=sizeLine/\(a==sysModules)=false/\∃vs,KV kvs vs/\h.DictOf (bK P w) a vs:=
 show cR P w H h a (.dK kvs) from bR2 ok e
theorem uB{kvs:List (Key×V)}(ok:mI P w H h)(e:H a=some (.dK kvs)):kvs.length<=sizeLine/\(a==sysModules)=false/\∃vs,KV kvs vs/\h.DictOf (bK P w) a vs:=qP ok (.inl e)
theorem oU{ks:List Key}(ok:mI P w H h)(e:H a=some (.tup (ks.map kV))):(tupleKind (bK P w)).is h ks a:=by
 obtain⟨_,its,r,o,h1,h2,n,h3,_⟩:=(show cR P w H h a (.tup (ks.map kV)) from ok a _ e)
 exact⟨o,its.toArray,n,h1,h2,h3,by simpa using uP r⟩
theorem qV{kvs:List (List Key×V)}(ok:mI P w H h)(e:Rd H a (.dT kvs)):kvs.length<=sizeLine/\(a==sysModules)=false /\
  ∃xs,KT H kvs xs/\h.DictOfH (tupleKind (bK P w)) a xs:=by
 obtain⟨z,y,xs,r,o,es,ep,h1,h2,h3,h4,h5⟩:=(show cR P w H h a (.dT kvs) from bR2 ok e)
 refine⟨z,y,xs,r,o,es,ep,h1,h2,h3,h4,fun x hx=>?_,h5⟩
 have all:∀{l:List (List Key×V)}{m:List (List Key×Addr×Value)},KT H l m->∀x∈m,(tupleKind (bK P w)).is h x.1 x.2.1:=by
  intro l m q
  induction q with
  |nil=>intro x hx;exact nomatch hx
  |@cons p q ps qs hq t ih =>
   intro x hx
   rcases bw.mp hx with e|hx
   ·subst e
    exact oU ok (by rw[<-hq.1];exact hq.2.1)
   ·exact ih x hx
 exact all r x hx
theorem cO4{kvs:List (List Key×V)}(ok:mI P w H h)(e:H a=some (.dT kvs)):kvs.length<=sizeLine/\(a==sysModules)=false /\
  ∃xs,KT H kvs xs/\h.DictOfH (tupleKind (bK P w)) a xs:=qV ok (.inl e)
end
def eR(H:Hp)(a:Addr)(y:V)(r:Option V):Prop:=
 (∃kvs k,Rd H a (.dK kvs)/\y=kV k/\r=cJ kvs k)\/∃kvs k b,Rd H a (.dT kvs)/\y= .ref b/\H b=some (.tup (k.map kV))/\r=cJ kvs k
def jM(H:Hp)(a:Addr)(y v:V)(H':Hp):Prop:=
 (∃kvs k,H a=some (.dK kvs)/\y=kV k/\kvs.length<sizeLine/\H'=aL H a (.dK (cZ kvs k v))) \/
 ∃kvs k b,H a=some (.dT kvs)/\y= .ref b/\H b=some (.tup (k.map kV))/\kvs.length<sizeLine/\H'=aL H a (.dT (cZ kvs k v))
theorem eR.k{H:Hp}{a:Addr}{kvs:List (Key×V)}{k:Key}(e:H a=some (.dK kvs)):eR H a (kV k) (cJ kvs k):= .inl ⟨kvs,k,.inl e,rfl,rfl⟩
theorem eR.t{H:Hp}{a b:Addr}{kvs:List (List Key×V)}{k:List Key}(e:H a=some (.dT kvs))(eb:H b=some (.tup (k.map kV))):eR H a (.ref b) (cJ kvs k):= .inr ⟨kvs,k,b,.inl e,rfl,eb,rfl⟩
theorem jM.k{H:Hp}{a:Addr}{kvs:List (Key×V)}{k:Key}{v:V}(e:H a=some (.dK kvs))(hl:kvs.length<sizeLine):jM H a (kV k) v (aL H a (.dK (cZ kvs k v))):= .inl ⟨kvs,k,e,rfl,hl,rfl⟩
theorem jM.t{H:Hp}{a b:Addr}{kvs:List (List Key×V)}{k:List Key}{v:V}(e:H a=some (.dT kvs))(eb:H b=some (.tup (k.map kV)))(hl:kvs.length<sizeLine) :
  jM H a (.ref b) v (aL H a (.dT (cZ kvs k v))):= .inr ⟨kvs,k,b,e,rfl,eb,hl,rfl⟩
section
variable {X:Cx}{pins:List (Addr×Obj)}{σ:St}{H:Hp}{s:Shared}{a:Addr}{y v:V}{u r:Value}{o:Option V}{A:Around}{E:Value->Shared->Prop}
theorem aX.big(I:aX X pins σ H s):sysModules<s.heap.objs.size:=by
 have h:mainGlobals<s.heap.objs.size:=(I.mod.glob.keeps I.bk).lt
 exact Nat.lt_trans (by decide) h
theorem aP7{Q:Value->Shared->Prop}(hu:A.units+1<cLine)(I:aX X pins σ H s)(g:eR H a y (some v))(ry:bF y u)(h:∀w' s',aX X pins σ H s'->bF v w'->Q w' s') :
  wpAny (model X.prog X.w) A (getItem (.ref a) u) Q E s:=by
 rcases g with⟨kvs,k,e,ey,l⟩|⟨kvs,k,b,e,ey,eb,l⟩
 ·subst ey
  obtain⟨z,hd,vs,rel,dd⟩:=qP I.hok e
  obtain⟨w',hw,rw'⟩:=kD.some_of (v:=v) (o:=valueAt vs k) (by rw[l];exact rel.val k)
  exact wpAny_getItem_of (pN ry) dd.mapOf hw (h w' _ (I.tok _) rw')
 ·subst ey
  cases(show u=Value.ref b from ry)
  obtain⟨z,hd,xs,rel,dd⟩:=qV I.hok e
  obtain⟨w',hw,rw'⟩:=kD.some_of (v:=v) (o:=(atKey xs k).map (·.2)) (by rw[l];exact rel.val k)
  obtain⟨p,hp,hp2⟩:=vc.mp hw
  refine wpAny_getItem_heap (lq hu) (oU I.hok eb) dd hp ?_
  rw[hp2]
  exact h w' _ (I.tok _) rw'
theorem cU1{Q:Value->Shared->Prop}(hu:A.units+1<cLine)(I:aX X pins σ H s)(g:eR H a y o)(ry:bF y u)(h:∀s',aX X pins σ H s'->Q (.bool o.isSome) s') :
  wpAny (model X.prog X.w) A (compareOp .In u (.ref a)) Q E s:=by
 rcases g with⟨kvs,k,e,ey,l⟩|⟨kvs,k,b,e,ey,eb,l⟩
 ·subst ey
  obtain⟨z,hd,vs,rel,dd⟩:=qP I.hok e
  refine wpAny_in_of (pN ry) hd dd.mapOf ?_
  rw[<-(rel.val k).isSome_eq, <-l]
  exact h _ (I.tok _)
 ·subst ey
  cases(show u=Value.ref b from ry)
  obtain⟨z,hd,xs,rel,dd⟩:=qV I.hok e
  refine wpAny_in_heap (lq hu) (oU I.hok eb) hd dd ?_
  have q:=(rel.val k).isSome_eq
  rw[ma] at q
  rw[<-q, <-l]
  exact h _ (I.tok _)
theorem bM8{Q:Value->Shared->Prop}(hu:A.units+1<cLine)(I:aX X pins σ H s)(g:eR H a y o)(ry:bF y u)(h:∀s',aX X pins σ H s'->Q (.bool (!o.isSome)) s') :
  wpAny (model X.prog X.w) A (compareOp .NotIn u (.ref a)) Q E s:=by
 rcases g with⟨kvs,k,e,ey,l⟩|⟨kvs,k,b,e,ey,eb,l⟩
 ·subst ey
  obtain⟨z,hd,vs,rel,dd⟩:=qP I.hok e
  refine wpAny_notIn_of (pN ry) hd dd.mapOf ?_
  rw[<-(rel.val k).isSome_eq, <-l]
  exact h _ (I.tok _)
 ·subst ey
  cases(show u=Value.ref b from ry)
  obtain⟨z,hd,xs,rel,dd⟩:=qV I.hok e
  refine wpAny_notIn_heap (lq hu) (oU I.hok eb) hd dd ?_
  have q:=(rel.val k).isSome_eq
  rw[ma] at q
  rw[<-q, <-l]
  exact h _ (I.tok _)
theorem qH{h':Heap}{t':Nat}{ob:HO}(I:aX X pins σ H s)(mu:Mut (H a))(hs:Heap.SameBut a s.heap h')(he:∃q,h'.get? a=some q)(new:cR X.prog X.w (aL H a ob) h' a ob) :
  aX X pins σ (aL H a ob) { s with heap:=h',toks:=t' }:=
 I.write (x:=a) (e:=a) mu (.inl rfl) (fun b q hb z=>(hs.2 b hb).trans z) he new
theorem wE{P:Program}{w:World}{H':Hp}{h':Heap}{kvs:List (Key×V)}{vs:List (Key×Value)}(z:kvs.length<=sizeLine)(hd:(a==sysModules)=false)(rel:KV kvs vs)(dd:h'.DictOf (bK P w) a vs) :
  cR P w H' h' a (.dK kvs):=⟨z,hd,vs,rel,dd⟩
theorem aL2{H':Hp}{Q:Unit->Shared->Prop}(hu:A.units+1<cLine)(I:aX X pins σ H s)(g:jM H a y v H')(ry:bF y u)(rv:bF v r)(h:∀s',aX X pins σ H' s'->Q () s') :
  wpAny (model X.prog X.w) A (setItem (.ref a) u r) Q E s:=by
 rcases g with⟨kvs,k,e,ey,l,eH⟩|⟨kvs,k,b,e,ey,eb,l,eH⟩
 ·subst ey eH
  obtain⟨z,hd,vs,rel,dd⟩:=uB I.hok e
  have hz:vs.length<=sizeLine:=by rw[<-rel.length];exact z
  have hl:(cZ kvs k v).length<=sizeLine:=by have:=dY kvs k v;lia
  refine wpAny_setItem_pairs (hsz:=hz) (pN ry) dd fun h' dd' hs=>h _ ?_
  have he:∃q,h'.get? a=some q:=by obtain⟨q,_,_,hq,_⟩:=dd';exact⟨q,hq⟩
  exact qH I (by rw[e];exact jm) hs he (wE hl hd (rel.put k rv) dd')
 ·subst ey eH
  cases(show u=Value.ref b from ry)
  obtain⟨z,hd,xs,rel,dd⟩:=cO4 I.hok e
  have hz:xs.length<=sizeLine:=by rw[<-ii rel];exact z
  have hl:(cZ kvs k v).length<=sizeLine:=by have:=dY kvs k v;lia
  refine wpAny_setItem_heap (hsz:=hz) (lq hu) (oU I.hok eb) dd fun h' dd' hs=>h _ ?_
  obtain⟨q,es,ep,hq,h2,h3,h4,_,h5⟩:=dd'
  refine qH I (by rw[e];exact jm) hs ⟨q,hq⟩ ⟨hl,hd,_,(rel.put k eb rv).keeps fun c ys ec=>?_,q,es,ep,hq,h2,h3,h4,h5⟩
  rw[aG (fQ ec e (fun z=>nomatch z))]
  exact ec
end
section
variable {X:Cx}{pins:List (Addr×Obj)}{σ:St}{H:Hp}{s:Shared}{a:Addr}{kvs:List (Key×V)}{k:Key}{u:Value}{A:Around}{E:Value->Shared->Prop}
end
def cF3(i:Expr):Prop:=∀ov iv,subscripted i false ov iv=operate [ov,iv] (getItem ov iv)
theorem bH5{prog:Program}{w:World}{A:Around}{E:Value->Shared->Prop}{s:Shared}{env:Env}{value slice:Expr}{pos:Pos}{T id:String}{Q:Value->Shared->Prop}
  (hl:typeLookup (.type T) "__getitem__"=pure (some (.builtin id))) (hs:cF3 slice)
  (h:wpAny (model prog w) A (eval value env) (fun o s₁=>wpAny (model prog w) A (eval slice env) (fun i s₂=>s₂.TypeIs o T/\wpAny (model prog w) A (getItem o i) Q E s₂) E s₁) E s) :
  wpAny (model prog w) A (eval (.Subscript value slice pos) env) Q E s:=by
 refine yz (fg h (fun o s₁ h₁=>fg h₁ (fun i s₂ h₂=>?_) fun _ _ x=>x) fun _ _ x=>x)
 obtain⟨hT,h₂⟩:=h₂
 unfold subscriptTail
 refine ag ?_
 rw[getitemInPython_of_ne hT.not_modules]
 refine ag (nr hT hl ?_)
 have fin:wpAny (model prog w) A (subscripted slice false o i) (fun r s₃=>wpAny (model prog w) A (letTemporaryGo value o r>>=fun _=>pure r) Q E s₃) E s₂:=by
  rw[hs o i]
  exact wpAny_operating (fg h₂ (fun r s₃ h₃=>ag (wpAny_letTemporaryGo (bv h₃))) fun _ _ x=>x)
 first
  |exact bv (ag fin)
  |exact ag (bv (ag fin))
  |exact ag fin
theorem xF{X:Cx}{pins:List (Addr×Obj)}{σ:St}{H:Hp}{s:Shared}{a:Addr}{y:V}{o:Option V}(I:aX X pins σ H s)(g:eR H a y o):s.TypeIs (.ref a) "dict":=by
 rcases g with⟨kvs,k,e,_,_⟩|⟨kvs,k,b,e,_,_,_⟩
 ·obtain⟨_,_,vs,_,dd⟩:=qP I.hok e
  exact dd.typeIs
 ·obtain⟨_,_,xs,_,dd⟩:=qV I.hok e
  exact dd.typeIs
def bB9(td ty:TE):TE:=fun σ H Q=>td σ H fun x H1=>ty σ H1 fun y H2=>∃a v,x= .ref a/\eR H2 a y (some v)/\Q v H2
def cT6(ty td:TE):TE:=fun σ H Q=>ty σ H fun y H1=>td σ H1 fun x H2=>∃a o,x= .ref a/\eR H2 a y o/\Q (.bl o.isSome) H2
def bP6(ty td:TE):TE:=fun σ H Q=>ty σ H fun y H1=>td σ H1 fun x H2=>∃a o,x= .ref a/\eR H2 a y o/\Q (.bl (!o.isSome)) H2
def aX8(td ty tv:TE):TS:=fun D σ H=>tv σ H fun v H1=>td σ H1 fun x H2=>ty σ H2 fun y H3=>∃a H4,x= .ref a/\jM H3 a y v H4/\D.nx σ H4
section
variable {X:Cx}{o i e value:Expr}{pos pos' tpos:Pos}{td ty tv:TE}
theorem iJ(hu:X.A.units+1<cLine)(ho:PE X o td)(hi:PE X i ty)(hs:cF3 i):PE X (.Subscript o i pos) (bB9 td ty):=by
 intro pins s σ H Q I h
 refine bH5 PySem.F.slot_dict_getitem.lookup hs (cO (ho pins s σ H _ I h) ?_);rintro u s1 ⟨x,H1,I1,rx,q1⟩;refine cO (hi pins s1 σ H1 _ I1 q1) ?_;rintro iv s2 ⟨y,H2,I2,ry,a,v,ex,g,q2⟩
 subst ex
 obtain rfl:u=Value.ref a:=rx
 exact⟨xF I2 g,aP7 hu I2 g ry fun w' s3 I3 rw'=>⟨v,H2,I3,rw',q2⟩⟩
theorem aX3(hu:X.A.units+1<cLine)(hi:PE X i ty)(ho:PE X o td):PC X .In i o (cT6 ty td):=by
 intro pins s σ H Q I h
 refine cO (hi pins s σ H _ I h) ?_;rintro iv s1 ⟨y,H1,I1,ry,q1⟩;refine cO (ho pins s1 σ H1 _ I1 q1) ?_;rintro u s2 ⟨x,H2,I2,rx,a,ov,ex,g,q2⟩
 subst ex
 obtain rfl:u=Value.ref a:=rx
 exact cU1 hu I2 g ry fun s3 I3=>⟨.bl ov.isSome,H2,I3,rfl,q2⟩
theorem aP5(hu:X.A.units+1<cLine)(hi:PE X i ty)(ho:PE X o td):PC X .NotIn i o (bP6 ty td):=by
 intro pins s σ H Q I h
 refine cO (hi pins s σ H _ I h) ?_;rintro iv s1 ⟨y,H1,I1,ry,q1⟩;refine cO (ho pins s1 σ H1 _ I1 q1) ?_;rintro u s2 ⟨x,H2,I2,rx,a,ov,ex,g,q2⟩
 subst ex
 obtain rfl:u=Value.ref a:=rx
 exact bM8 hu I2 g ry fun s3 I3=>⟨.bl (!ov.isSome),H2,I3,rfl,q2⟩
theorem qE(hu:X.A.units+1<cLine)(ho:PE X o td)(hi:PE X i ty)(hv:PE X value tv)(hs:swapsWith value (some (.Subscript o i pos')) pos.line X.env=pure false) :
  PS X (.Assign [.Subscript o i pos'] value pos) (aX8 td ty tv):=by
 intro pins s σ H D I h
 refine wpAny_Assign_Subscript (cO (hv pins s σ H _ I h) ?_) hs;rintro r s1 ⟨v,H1,I1,rv,q1⟩;refine cO (ho pins s1 σ H1 _ I1 q1) ?_;rintro u s2 ⟨x,H2,I2,rx,q2⟩;refine cO (hi pins s2 σ H2 _ I2 q2) ?_;rintro iv s3 ⟨y,H3,I3,ry,a,H4,ex,g,q3⟩
 subst ex
 obtain rfl:u=Value.ref a:=rx
 exact aL2 hu I3 g ry rv fun s4 I4=>⟨σ,H4,I4,q3⟩
end
theorem zC{P:Program}{w:World}{H:Hp}(h:Heap)(hb:sysModules<h.objs.size):cR P w H (h.push { cls:= .type "dict",data:= .dict #[] }) h.objs.size (.dK []):=
 ⟨az _,kz.mpr (Ne.symm (cp hb)),[],.nil,Heap.DictOf.new h⟩
theorem aZ6{P:Program}{w:World}{H:Hp}(h:Heap)(hb:sysModules<h.objs.size):cR P w H (h.push { cls:= .type "dict",data:= .dict #[] }) h.objs.size (.dT []):=
 ⟨az _,kz.mpr (Ne.symm (cp hb)),[],.nil,_, #[],0,bz _ rfl,⟨rfl,rfl,rfl⟩,rfl,rfl,ot⟩
def tDNewK:TE:=fun _ H Q=>∀p,H p=none->Q (.ref p) (aL H p (.dK []))
def tDNewT:TE:=fun _ H Q=>∀p,H p=none->Q (.ref p) (aL H p (.dT []))
section
variable {X:Cx}{pos:Pos}
theorem mO:PE X (.Dict [] [] pos) tDNewK:=fun pins s σ H Q I h =>
 yo ⟨.ref s.heap.objs.size,_,I.laid (a:=s.heap.objs.size) (o:= .dK []) (t':=s.toks) (fun _ _ q=>ac _ q) (af _) (zC s.heap I.big),rfl,h _ (I.hok.fresh (af _))⟩
theorem aZ5:PE X (.Dict [] [] pos) tDNewT:=fun pins s σ H Q I h =>
 yo ⟨.ref s.heap.objs.size,_,I.laid (a:=s.heap.objs.size) (o:= .dT []) (t':=s.toks) (fun _ _ q=>ac _ q) (af _) (aZ6 s.heap I.big),rfl,h _ (I.hok.fresh (af _))⟩
end
def aD1:List (TE×TE)->St->Hp->(List (V×V)->Hp->Prop)->Prop
 |[],_,H,Q=>Q [] H
 |(tk,tv)::r,σ,H,Q=>tk σ H fun x H1=>tv σ H1 fun y H2=>aD1 r σ H2 fun ps H3=>Q ((x,y)::ps) H3
abbrev VV:List (V×V)->List (Value×Value)->Prop:=Paired fun p q=>bF p.1 q.1/\bF p.2 q.2
def PPs(X:Cx)(pos:Pos)(gG:List (Option Expr))(values:List Expr)(trs:List (TE×TE)):Prop:=
 ∀(pins:List (Addr×Obj)) (s:Shared) (σ:St) (H:Hp) (Q:List (V×V)->Hp->Prop),aX X pins σ H s->aD1 trs σ H Q ->
  wpAny (model X.prog X.w) X.A (evalPairs (pairTrees gG values X.env pos)) (fun vs s'=>∃ps H',aX X pins σ H' s'/\VV ps vs/\Q ps H') X.xe s
theorem aG0{X:Cx}{pos:Pos}:PPs X pos [] [] []:=fun pins s σ H Q I h=>pairTrees_nil_walk ⟨[],H,I,.nil,h⟩
theorem fN{X:Cx}{pos:Pos}{k v:Expr}{ks:List (Option Expr)}{vs:List Expr}{tk tv:TE}{trs:List (TE×TE)}(hk:PE X k tk)(hv:PE X v tv)(hr:PPs X pos ks vs trs) :
  PPs X pos (some k::ks) (v::vs) ((tk,tv)::trs):=fun pins s σ H Q I h =>
 pairTrees_cons_walk (cO (hk pins s σ H _ I h) fun u s1 ⟨x,H1,I1,rx,q1⟩=>cO (hv pins s1 σ H1 _ I1 q1) fun w2 s2 ⟨y,H2,I2,ry,q2⟩ =>
  cO (hr pins s2 σ H2 _ I2 q2) (by rintro ws s3 ⟨ps,H3,I3,rel,q3⟩;exact⟨(x,y)::ps,H3,I3,.cons ⟨rx,ry⟩ rel,q3⟩))
def iD(kvs more:List (Key×V)):List (Key×V):=more.foldl (fun acc kv=>cZ acc kv.1 kv.2) kvs
theorem KV.merge:∀{more:List (Key×V)}{rs:List (Key×Value)}{kvs:List (Key×V)}{vs:List (Key×Value)},KV more rs->KV kvs vs->KV (iD kvs more) (merged vs rs):=by
 intro more rs kvs vs r
 unfold KV at r
 induction r generalizing kvs vs with
 |nil=>intro q;exact q
 |@cons p q ps qs h t ih =>
  intro r0
  have e:KV (cZ kvs p.1 p.2) (stored vs q.1 q.2):=by
   have:=r0.put p.1 h.2
   rw[<-h.1];exact this
  exact ih e
theorem lQ:∀(more kvs:List (Key×V)),(iD kvs more).length<=kvs.length+more.length
 |[],kvs=>by show kvs.length<=kvs.length+0;lia
 |p::r,kvs=>by
  have h1:=lQ r (cZ kvs p.1 p.2)
  have h2:=dY kvs p.1 p.2
  show(iD (cZ kvs p.1 p.2) r).length<=_
  rw[bx];lia
theorem qU{P:Program}{w:World}:∀{kvs:List (Key×V)}{ws:List (Value×Value)},VV (kvs.map fun kv=>(kV kv.1,kv.2)) ws->∃rs,Carries (bK P w) ws rs/\KV kvs rs
 |[],_,r=>by rw[tj] at r;cases r;exact⟨[],jm,.nil⟩
 |p::kvs,_,r=>by
  rw[ef] at r
  cases r with
  |@cons a b as bs h t =>
   obtain⟨rs,c,q⟩:=qU (P:=P) (w:=w) t
   obtain⟨b1,b2⟩:=b
   exact⟨(p.1,b2)::rs,⟨pN h.1,rfl,c⟩,.cons ⟨rfl,h.2⟩ q⟩
def cL7(trs:List (TE×TE)):TE:=fun σ H Q=>∀p,H p=none->aD1 trs σ (aL H p (.dK [])) fun ps H2=>H2 p=some (.dK [])/\∃kvs:List (Key×V),ps=kvs.map (fun kv=>(kV kv.1,kv.2))/\kvs.length<=15/\Q (.ref p) (aL H2 p (.dK (iD [] kvs)))
theorem aG9{X:Cx}{pos:Pos}{gG:List (Option Expr)}{values:List Expr}{trs:List (TE×TE)}(h:PPs X pos gG values trs)(hall:gG.all (·.isSome)=true)(hl:gG.length=values.length)(h0:gG≠[])
  (h15:gG.length<=15):PE X (.Dict gG values pos) (cL7 trs):=by
 intro pins s σ H Q I q
 have hn:=I.hok.fresh (af s.heap.objs.size)
 have I1:=I.laid (a:=s.heap.objs.size) (o:= .dK []) (h':=s.heap.push { cls:= .type "dict",data:= .dict #[] }) (t':=s.toks) (fun _ _ q=>ac _ q) (af _) (zC s.heap I.big)
 refine wpAny_Dict_walk (knd:=bK X.prog X.w) hall hl h0 h15 (cO (h pins _ σ _ _ I1 (q _ hn)) ?_);rintro ws s2 ⟨ps,H2,I2,rel,e,kvs,ep,lk,q2⟩
 subst ep
 obtain⟨rs,c,rk⟩:=qU (P:=X.prog) (w:=X.w) rel
 obtain⟨z,hd,vs0,r0,dd⟩:=uB I2.hok e
 cases r0
 refine⟨rs,c,dd,fun h' dd' hs=>⟨.ref s.heap.objs.size,_,?_,rfl,q2⟩⟩
 have hz:(iD [] kvs).length<=sizeLine:=by
  have h1:=lQ kvs []
  rw[jn] at h1
  rw[pf];lia
 have he:∃q,h'.get? s.heap.objs.size=some q:=by obtain⟨q,_,_,hq,_⟩:=dd';exact⟨q,hq⟩
 exact qH I2 (by rw[e];exact jm) hs he (wE hz hd (rk.merge .nil) dd')
structure M2(X:Cx)(o:Expr)(m:Str)(apos:Pos)(e f:Expr)(cpos:Pos):Prop where
 base:attributeBase o m X.env (eval o X.env)=eval o X.env
 few:((backTo cpos (starEach [e,f] X.env)).all (fun x=> !x.1)&&(backToKw cpos (keywordEach [] X.env)).all (fun x=>x.1.isSome)
  && decide (([e,f]:List Expr).length+([]:List Keyword).length+(if ([]:List Keyword).isEmpty then 0 else 1)<30))=true
 line:(apos.endLine==cpos.line)=true
 trees:backTo cpos (starEach [e,f] X.env)=[(false,eval e X.env),(false,eval f X.env)]
def IsD(H:Hp)(a:Addr):Prop:=(∃kvs,Rd H a (.dK kvs))\/∃kvs,Rd H a (.dT kvs)
theorem aQ6{X:Cx}{pins:List (Addr×Obj)}{σ:St}{H:Hp}{s:Shared}{a:Addr}(I:aX X pins σ H s)(d:IsD H a) :
  s.TypeIs (.ref a) "dict"/\(∀b,Value.ref a= .ref b->∃ob,s.heap.get? b=some ob/\ob.dict=none)/\(a==sysModules)=false:=by
 rcases d with⟨kvs,e⟩|⟨kvs,e⟩
 ·obtain⟨_,hd,vs,_,dd⟩:=qP I.hok e
  refine⟨dd.typeIs,fun b q=>?_,hd⟩
  cases q
  obtain⟨ob,_,_,h1,h2,_⟩:=dd
  exact⟨ob,h1,h2.2.1⟩
 ·obtain⟨_,hd,xs,_,dd⟩:=qV I.hok e
  refine⟨dd.typeIs,fun b q=>?_,hd⟩
  cases q
  obtain⟨ob,_,_,h1,h2,_⟩:=dd
  exact⟨ob,h1,h2.2.1⟩
section
variable {X:Cx}{pins:List (Addr×Obj)}{σ:St}{H:Hp}{s:Shared}{a:Addr}{y d:V}{u r:Value}{o:Option V}{A:Around}{E:Value->Shared->Prop}
theorem bU5{Q:Value->Shared->Prop}(hu:A.units+1<cLine)(I:aX X pins σ H s)(g:eR H a y o)(ry:bF y u)(rd:bF d r)(h:∀w' s',aX X pins σ H s'->bF (o.getD d) w'->Q w' s') :
  wpAny (model X.prog X.w) A (call (.builtin "dict.get") [.ref a,u,r]) Q E s:=by
 rcases g with⟨kvs,k,e,ey,l⟩|⟨kvs,k,b,e,ey,eb,l⟩
 ·subst ey
  obtain⟨z,hd,vs,rel,dd⟩:=qP I.hok e
  refine xf qf dd.typeIs vd (uk _ _ _) (meets_dict_get_default (bK X.prog X.w) a (pN ry) hd r) ⟨_,dd.mapOf,h _ _ (I.tok _) ?_⟩
  rw[l]
  exact(rel.val k).getD rd
 ·subst ey
  cases(show u=Value.ref b from ry)
  obtain⟨z,hd,xs,rel,dd⟩:=qV I.hok e
  refine xf qf dd.typeIs vd (uk _ _ _) (meetsH_dict_get_default (tupleKind (bK X.prog X.w)) a b hd r) ⟨lq hu,k,xs,oU I.hok eb,dd,h _ _ (I.tok _) ?_⟩
  rw[l]
  exact(rel.val k).getD rd
end
def cB3(td ty tx:TE):TE:=fun σ H Q=>td σ H fun x H1=>∃a,x= .ref a/\IsD H1 a/\ty σ H1 fun y H2=>tx σ H2 fun z H3=>∃o,eR H3 a y o/\Q (o.getD z) H3
section
variable {X:Cx}{o e f:Expr}{apos cpos:Pos}{td ty tx:TE}
theorem bD2(hu:X.A.units+1<cLine)(ho:PE X o td)(he:PE X e ty)(hf:PE X f tx)(m:M2 X o "get" apos e f cpos):PE X (.Call (.Attribute o "get" apos) [e,f] [] cpos) (cB3 td ty tx):=by
 intro pins s σ H Q I h
 refine ye m.base m.few m.line um qf PySem.F.type_dict_get (cO (ho pins s σ H _ I h) ?_);rintro u s1 ⟨x,H1,I1,rx,a,ex,d,q1⟩
 subst ex
 obtain rfl:u=Value.ref a:=rx
 obtain⟨t1,t2,_⟩:=aQ6 I1 d
 refine⟨t1,t2,?_⟩
 rw[m.trees]
 refine lv rfl (qo (ik (cO (he pins s1 σ H1 _ I1 q1) fun iv s2 ⟨y,H2,I2,ry,q2⟩ =>
  ik (cO (hf pins s2 σ H2 _ I2 q2) fun fv s3 ⟨z,H3,I3,rz,ov,g,q3⟩=>jq ?_))))
 exact bU5 hu I3 g ry rz fun w' s4 I4 rw'=>⟨_,H3,I4,rw',q3⟩
end
section
variable {X:Cx}{pins:List (Addr×Obj)}{σ:St}{H:Hp}{s:Shared}{a:Addr}{kvs:List (Key×V)}{A:Around}{E:Value->Shared->Prop}
end
section
variable {X:Cx}{pins:List (Addr×Obj)}{σ:St}{H:Hp}{s:Shared}{a:Addr}{y:V}{u:Value}{A:Around}{E:Value->Shared->Prop}
end
end L2
namespace HT
open PySem PyProof.Rows
section
open PySem.SeqAt
open PySem.AutoSeq1 (wpAny_loadPart')
open PySem.MeetsSeq PySem.MeetsSeq2 PySem.MeetsSeq3
end
section
variable {prog:Program}{w:World}{A:Around}{E:Value->Shared->Prop}{s:Shared}
theorem cat_tup{t b:Addr}{vs ws:List Value}{Q:Value->Shared->Prop}(ht:IsTup s.heap t vs.toArray)(hb:IsTup s.heap b ws.toArray)(hv:vs≠[])
  (h1:ws=[]->Q (.ref t) s) (h2:ws≠[]->Q (.ref s.heap.objs.size) { s with heap:=s.heap.push { cls:= .type "tuple",data:= .seq (vs++ws).toArray } })
  (hsz:vs.length+ws.length<=sizeLine):wpAny (model prog w) A (binaryOp .Add (.ref t) (.ref b)) Q E s:=by
 obtain⟨⟨cls,dd,data,sl⟩,ho,hc,n,hd⟩:=id ht
 obtain⟨⟨cls2,dd2,data2,sl2⟩,ho2,hc2,n2,hd2⟩:=id hb
 simp only at hc hd hc2 hd2
 subst hc hd hc2 hd2
 have e:vs.toArray++ws.toArray=(vs++ws).toArray:=by simp
 by_cases hw:ws=[]
 ·exact concat_meets ⟨_,ho,rfl⟩ ⟨_,ho2,rfl⟩ noFill_tuple_add seq_tuple_add PySem.F.slot_tuple_add PySem.F.entry_tuple_add (PySem.F.args_tuple_add_2 _ _)
   (tuple_addW1 t b vs.toArray ws.toArray n n2 dd dd2 sl sl2 (by simpa using hv) (by simp[hw])) ⟨ho,ho2,h1 hw⟩
 ·refine concat_meets ⟨_,ho,rfl⟩ ⟨_,ho2,rfl⟩ noFill_tuple_add seq_tuple_add PySem.F.slot_tuple_add PySem.F.entry_tuple_add (PySem.F.args_tuple_add_2 _ _)
   (tuple_addW2 t b vs.toArray ws.toArray n n2 dd dd2 sl sl2 (by simpa using hv) (by simpa using hw) (by rw[List.size_toArray,List.size_toArray];exact hsz)) ⟨ho,ho2,?_⟩
  rw[e]
  exact h2 hw
def sIx(n d:Nat):Option Int->Nat
 |none=>d
 |some v=>if v<0 then (v+(n:Int)).toNat else min v.toNat n
theorem bY4(n d:Nat)(hd:d<=n)(o:Option Int):sIx n d o<=n:=by
 cases o with
 |none=>exact hd
 |some v =>
  show(if v<0 then (v+(n:Int)).toNat else min v.toNat n)<=n
  by_cases hv:v<0
  ·rw[if_pos hv];lia
  ·rw[if_neg hv];exact Nat.min_le_right _ _
theorem aF5(v:Int)(n d:Nat):(if v<0 then max (v+(n:Int)) 0 else min v (n:Int))=((sIx n d (some v):Nat):Int):=by
 show(if v<0 then max (v+(n:Int)) 0 else min v (n:Int))=(((if v<0 then (v+(n:Int)).toNat else min v.toNat n):Nat):Int)
 by_cases hv:v<0
 ·simp only[if_pos hv];lia
 ·simp only[if_neg hv];lia
theorem aD0(lo hi:Option Int)(n:Nat):Builtin.Slice.sliceAdjust lo hi 1 (n:Int)=(((sIx n 0 lo:Nat):Int),((sIx n n hi:Nat):Int)):=by
 have h1:¬((1:Int)<0):=by lia
 unfold Builtin.Slice.sliceAdjust
 simp only[h1,if_false]
 refine Prod.ext ?_ ?_
 ·cases lo with
  |none=>rfl
  |some v=>exact aF5 v n 0
 ·cases hi with
  |none=>rfl
  |some v=>exact aF5 v n n
theorem aC8(i j:Nat):Builtin.Slice.slicePlaces (i:Int) (j:Int) 1=j-i:=by
 unfold Builtin.Slice.slicePlaces
 have h1:(1:Int) > 0:=by lia
 simp only[h1,if_true,Int.ediv_one]
 split<;>lia
theorem rA{v:Value}{o:Option Int}{Q:Option Int->Shared->Prop}(p:IsPart v o)(h:Q o s):wpAny (model prog w) A (Builtin.Slice.slicePartIndex v) Q E s:=by
 cases p with
 |none=>exact slicePart_none h
 |int i t=>exact slicePart_int h
theorem oY{sl:Addr}{vl vu:Value}{lo hi:Option Int}{n:Nat}{Q:Int×Int×Nat->Shared->Prop}(hs:s.heap.IsSliceOf sl vl vu .none)(pl:IsPart vl lo)(pu:IsPart vu hi)
  (h:Q (((sIx n 0 lo:Nat):Int),1,sIx n n hi-sIx n 0 lo) s):wpAny (model prog w) A (Builtin.Slice.sliceApplied (.ref sl) (pure (n:Int))) Q E s:=by
 obtain⟨os,hos,hcs,hds⟩:=id hs
 unfold Builtin.Slice.sliceApplied Builtin.Slice.sliceFields
 refine wpAny_bind (wpAny_bind (wpAny_field hos hds (x:=vl) rfl (wpAny_bind (wpAny_field hos hds (x:=vu) rfl (wpAny_bind (wpAny_field hos hds (x:= .none) rfl (wpAny_pure ?_)))))))
 refine wpAny_bind (slicePart_none ?_)
 show wpAny _ _ (if ((1:Int)==0)=true then _ else _) _ _ s
 rw[if_neg (by decide)]
 refine wpAny_bind (rA pl (wpAny_bind (rA pu (wpAny_bind (wpAny_pure ?_)))))
 show wpAny _ _ (match Builtin.Slice.sliceAdjust lo hi 1 (n:Int) with|(lo,hi)=>pure (lo,(1:Int),Builtin.Slice.slicePlaces lo hi 1)) _ _ s
 rw[aD0 lo hi n]
 show wpAny _ _ (pure (((sIx n 0 lo:Nat):Int),(1:Int),Builtin.Slice.slicePlaces ((sIx n 0 lo:Nat):Int) ((sIx n n hi:Nat):Int) 1)) _ _ s
 rw[aC8]
 exact wpAny_pure h
theorem aW2(xs:Array Value)(i k:Nat):((List.range k).filterMap fun(m:Nat)=>xs[((i:Int)+(m:Int)*1).toNat]?).toArray=((xs.toList.drop i).take k).toArray:=by
 have e:(fun(m:Nat)=>xs[((i:Int)+(m:Int)*1).toNat]?)=fun m=>xs[i+m]?:=by
  funext m
  have:((i:Int)+(m:Int)*1).toNat=i+m:=by lia
  rw[this]
 rw[e]
 have:=pick_run xs i k
 rw[List.filterMap_map] at this
 have e2:((fun x=>xs[x]?) ∘ fun x=>i+x)=fun m=>xs[i+m]?:=rfl
 rw[e2] at this
 rw[this]
theorem getItem_tuple_cut{t sl:Addr}{items:Array Value}{vl vu:Value}{lo hi:Option Int}{Q:Value->Shared->Prop}(ht:IsTup s.heap t items)(hs:s.heap.IsSliceOf sl vl vu .none)(pl:IsPart vl lo)(pu:IsPart vu hi)
  (hw:¬(sIx items.size 0 lo=0/\sIx items.size items.size hi=items.size))
  (h:Q (.ref s.heap.objs.size) { s with heap:=s.heap.push { cls:= .type "tuple",data:= .seq ((items.toList.drop (sIx items.size 0 lo)).take (sIx items.size items.size hi-sIx items.size 0 lo)).toArray } })
  (hsz:items.size<=sizeLine):wpAny (model prog w) A (getItem (.ref t) (.ref sl)) Q E s:=by
 have htake:sizeOk (.seq ((items.toList.drop (sIx items.size 0 lo)).take (sIx items.size items.size hi-sIx items.size 0 lo)).toArray):=by
  show((items.toList.drop (sIx items.size 0 lo)).take (sIx items.size items.size hi-sIx items.size 0 lo)).toArray.size<=sizeLine
  rw[List.size_toArray,List.length_take,List.length_drop,Array.length_toList]
  lia
 have hj:sIx items.size items.size hi<=items.size:=bY4 _ _ (Nat.le_refl _) hi
 obtain⟨os,hos,hcs,hds⟩:=id hs
 have hTs:s.TypeIs (.ref sl) "slice":=⟨os,hos,hcs⟩
 unfold getItem
 try with_reducible refine wpAny_holding ?_
 first|refine wpAny_bind (wpAny_pure ?_)|skip
 refine wpAny_bind (wpAny_sequenceKey ht.typeIs (by decide) ?_)
 refine wpAny_bind (wpAny_callSpecial?_slot (name:=Str.ofString "__getitem__") ht.typeIs PyProof.Rows.slot_tuple_getitem
  (wpAny_call_entry PyProof.Rows.slot_tuple_getitem ht.typeIs entry_tuple_getitem ?_ (args_tuple_getitem _ _)))
 show wpAny _ _ (Builtin.Tuple.tupleItemsOf (.ref t)>>=_) _ _ s
 refine wpAny_bind (tupleItemsOf_ ht ?_)
 refine wpAny_bind (wpAny_typeOf hTs ?_)
 rw[if_pos (by decide)]
 refine wpAny_bind (oY hs pl pu ?_)
 have hno:¬((((sIx items.size 0 lo:Nat):Int)==0&&(1:Int)==1&&(sIx items.size items.size hi-sIx items.size 0 lo)==items.size)=true):=by
  intro q
  rw[Bool.and_eq_true,Bool.and_eq_true] at q
  have q1:((sIx items.size 0 lo:Nat):Int)=0:=eq_of_beq q.1.1
  have q2:sIx items.size items.size hi-sIx items.size 0 lo=items.size:=eq_of_beq q.2
  exact hw ⟨by lia,by lia⟩
 show wpAny _ _ (if (((sIx items.size 0 lo:Nat):Int)==0&&(1:Int)==1&&(sIx items.size items.size hi-sIx items.size 0 lo)==items.size)=true then _ else _) _ _ s
 rw[if_neg hno,aW2]
 first
  |exact wpAny_bind (m:=Builtin.Tuple.tupleExact _) (wpAny_newObj_type (wpAny_pure ⟨_,rfl,wpAny_pure h⟩) htake)
  |exact wpAny_bind (m:=Builtin.Tuple.tupleExact _) (wpAny_newObj_type (wpAny_bind (wpAny_pure (wpAny_pure ⟨_,rfl,wpAny_pure h⟩))) htake)
  |exact wpAny_bind (wpAny_bind (m:=Builtin.Tuple.tupleExact _) (wpAny_newObj_type (wpAny_pure (wpAny_pure ⟨_,rfl,wpAny_pure h⟩)) htake))
  |exact wpAny_bind (wpAny_bind (m:=Builtin.Tuple.tupleExact _) (wpAny_newObj_type (wpAny_pure ⟨_,rfl,wpAny_pure h⟩) htake))
end
end HT
namespace L2
open PySem PySem.Spec PyProof.Rows
abbrev TO:=St->Hp->(Option Int->Hp->Prop)->Prop
def PO(X:Cx)(e:Option Expr)(t:TO):Prop:=
 ∀(pins:List (Addr×Obj)) (s:Shared) (σ:St) (H:Hp) (Q:Option Int->Hp->Prop),aX X pins σ H s->t σ H Q ->
  wpAny (model X.prog X.w) X.A (evalPart e X.env) (fun u s'=>∃o H',aX X pins σ H' s'/\IsPart u o/\Q o H') X.xe s
def tNoPart:TO:=fun _ H Q=>Q none H
def cJ9(t:TE):TO:=fun σ H Q=>t σ H fun x H1=>∃i,x= .int i/\Q (some i) H1
section
variable {X:Cx}{e:Expr}{te:TE}{lo hi:Option Expr}{tl th:TO}{pos p2:Pos}
theorem iN:PO X none tNoPart:=by
 intro pins s σ H Q I h
 rw[evalPart_none]
 exact bv ⟨none,H,I,.none,h⟩
theorem fX(h:PE X e te):PO X (some e) (cJ9 te):=by
 intro pins s σ H Q I hw
 rw[evalPart_some]
 refine cO (h pins s σ H _ I hw) ?_;rintro u s1 ⟨x,H1,I1,r1,q1⟩
 obtain⟨i,rfl,q⟩:=q1
 obtain⟨t,rfl⟩:=r1
 exact⟨some i,H1,I1,.int i t,q⟩
def SlR(X:Cx)(r:V->Option Int->Option Int->Hp->VK->Prop):Prop:=
 ∀(pins:List (Addr×Obj)) (s:Shared) (σ:St) (H:Hp) (x:V) (v vl vu:Value) (lo hi:Option Int) (sl:Addr) (Q:VK),aX X pins σ H s->bF x v->s.heap.IsSliceOf sl vl vu .none->IsPart vl lo->IsPart vu hi->r x lo hi H Q ->
  ∃T id,typeLookup (.type T) "__getitem__"=pure (some (.builtin id))/\s.TypeIs v T/\wpAny (model X.prog X.w) X.A (getItem v (.ref sl)) (EP X pins σ Q) X.xe s
def tSl(r:V->Option Int->Option Int->Hp->VK->Prop)(te:TE)(tl th:TO):TE:=fun σ H Q=>te σ H fun x H1=>tl σ H1 fun l H2=>th σ H2 fun u H3=>r x l u H3 Q
theorem fK{r:V->Option Int->Option Int->Hp->VK->Prop}(hr:SlR X r)(he:PE X e te)(hl:PO X lo tl)(hu:PO X hi th):PE X (.Subscript e (.Slice lo hi none p2) pos) (tSl r te tl th):=by
 intro pins s σ H Q I h
 refine yz (cO (he pins s σ H _ I h) ?_);rintro v s1 ⟨x,H1,I1,r1,q1⟩
 refine wpAny_Slice (cO (hl pins s1 σ H1 _ I1 q1) ?_);rintro vl s2 ⟨l,H2,I2,pl,q2⟩;refine cO (hu pins s2 σ H2 _ I2 q2) ?_;rintro vu s3 ⟨u,H3,I3,pu,q3⟩
 rw[evalPart_none]
 refine bv ?_
 have I4:aX X pins σ H3 { s3 with heap:=s3.heap.push { cls:= .type "slice",data:= .fields #[vl,vu,.none] } }:=I3.kept (t':=s3.toks) fun b ob q=>ac _ q
 obtain⟨T,id,hT,ht,hg⟩:=hr pins { s3 with heap:=s3.heap.push { cls:= .type "slice",data:= .fields #[vl,vu,.none] } } σ H3 x v vl vu l u s3.heap.objs.size Q I4 r1 (Heap.IsSliceOf.new ..) pl pu q3
 show wpAny (model X.prog X.w) X.A (subscriptTail e (.Slice lo hi none p2) v (.ref s3.heap.objs.size)) (EP X pins σ Q) X.xe { s3 with heap:=s3.heap.push { cls:= .type "slice",data:= .fields #[vl,vu,.none] } }
 exact tail_any (ops:=[.ref s3.heap.objs.size,v]) ht hT hg (by with_unfolding_all rfl)
def kR(xs:List V)(lo hi:Option Int):List V:=(xs.drop (HT.sIx xs.length 0 lo)).take (HT.sIx xs.length xs.length hi-HT.sIx xs.length 0 lo)
theorem pL(xs:List V)(lo hi:Option Int):(kR xs lo hi).length<=xs.length:=by
 unfold kR
 rw[dj,ub]
 lia
inductive cL0(K:PySem.W.Frag)(x:V)(lo:Option Int)(hi:Option Int)(H:Hp)(Q:VK):Prop
 |mk:∀a xs,(x= .ref a)->(aQ K H a xs)->(¬(HT.sIx xs.length 0 lo=0/\HT.sIx xs.length xs.length hi=xs.length))->(∀p,H p=none->Q (.ref p) (aL H p (.tup (kR xs lo hi))))->cL0 K x lo hi H Q
theorem vO:SlR X (cL0 X.K):=by
 intro pins s σ H x v vl vu lo hi sl Q I rx hs pl pu h
 obtain⟨a,xs,rfl,hx,hw,q⟩:=h
 cases rx
 obtain⟨its,r,ht,hz⟩:=I.tuple hx
 have hlen:its.toArray.size=xs.length:=by rw[bq];exact r.length.symm
 refine⟨"tuple",_,PyProof.Rows.slot_tuple_getitem.lookup,ht.typeIs,?_⟩
 refine HT.getItem_tuple_cut ht hs pl pu (by rw[hlen];exact hw) ?_ (by rw[hlen];exact hz)
 rw[hlen]
 refine⟨.ref s.heap.objs.size,_,I.laid (t':=s.toks) (o:= .tup (kR xs lo hi)) (fun b ob q=>ac _ q) (af _) ?_,rfl,q _ (I.hok.fresh (af _))⟩
 exact⟨cj (pL xs lo hi) hz,_,(r.drop (HT.sIx xs.length 0 lo)).take (HT.sIx xs.length xs.length hi-HT.sIx xs.length 0 lo),kL.new _ _⟩
inductive bR1(K:PySem.W.Frag)(x:V)(y:V)(H:Hp)(Q:VK):Prop
 |mk:∀a b xs ys,(x= .ref a)->(y= .ref b)->(aQ K H a xs)->(aQ K H b ys)->(xs≠[])->(xs.length+ys.length<=sizeLine)->((ys=[]->Q (.ref a) H))->((ys≠[]->∀p,H p=none->Q (.ref p) (aL H p (.tup (xs++ys)))))->bR1 K x y H Q
theorem bH.nil_iff{xs:List V}{us:List Value}(r:bH xs us):us=[]↔xs=[]:=by
 cases r with
 |nil=>simp
 |cons _ _=>simp
theorem aI1:iQ X (binaryOp .Add) (bR1 X.K):=by
 intro pins s σ H x y v u Q I rx ry h
 obtain⟨a,b,xs,ys,rfl,rfl,ha,hb,hx,hz,q1,q2⟩:=h
 cases rx
 cases ry
 obtain⟨its,r1,p1,_⟩:=I.tuple ha
 obtain⟨its2,r2,p2,_⟩:=I.tuple hb
 refine HT.cat_tup p1 p2 (fun z=>hx (r1.nil_iff.mp z)) (fun z=>⟨.ref a,H,I,rfl,q1 (r2.nil_iff.mp z)⟩) (fun z=>?_) (by rw[<-r1.length, <-r2.length];exact hz)
 refine⟨.ref s.heap.objs.size,_,I.laid (t':=s.toks) (o:= .tup (xs++ys)) (fun b ob q=>ac _ q) (af _) ?_,rfl,q2 (fun w=>z (r2.nil_iff.mpr w)) _ (I.hok.fresh (af _))⟩
 exact⟨by rw[ap];exact hz,_,r1.append r2,kL.new _ _⟩
end
def ixN(n:Nat)(i:Int):Option Nat:=if 0<=i then (if i<n then some i.toNat else none) else if -(n:Int)<=i then some (i+n).toNat else none
def mE{α:Type}(xs:List α)(i:Int):Option α:=(ixN xs.length i).bind fun j=>xs[j]?
theorem aF3{n:Nat}{i:Int}{j:Nat}(h:ixN n i=some j):seqIndex? i n=some j/\j<n/\ -(n:Int)<=i/\i<n:=by
 unfold ixN at h
 by_cases h0:0<=i
 ·rw[br h0] at h
  by_cases h1:i<n
  ·rw[br h1] at h
   have e:i.toNat=j:=dt h
   exact⟨by rw[yk h0 h1,e],by lia,by lia,h1⟩
  ·rw[ay h1] at h;cases h
 ·rw[ay h0] at h
  by_cases h1: -(n:Int)<=i
  ·rw[br h1] at h
   have e:(i+n).toNat=j:=dt h
   exact⟨by rw[xh (by lia) h1,e],by lia,h1,by lia⟩
  ·rw[ay h1] at h;cases h
theorem vB{α:Type}{xs:List α}{i:Int}{v:α}(h:mE xs i=some v):∃j,seqIndex? i xs.length=some j/\xs[j]?=some v/\j<xs.length/\ -(xs.length:Int)<=i/\i<xs.length:=by
 unfold mE at h
 cases e:ixN xs.length i with
 |none=>rw[e] at h;cases h
 |some j =>
  rw[e] at h
  obtain⟨h1,h2,h3,h4⟩:=aF3 e
  exact⟨j,h1,h,h2,h3,h4⟩
theorem wR{α:Type}{xs:List α}{j:Nat}{v:α}(h:xs[j]?=some v):mE xs (j:Int)=some v:=by
 have hj:j<xs.length:=(aq.mp h).1
 have e:ixN xs.length (j:Int)=some j:=by
  unfold ixN
  rw[br (by lia),br (by lia)];simp
 unfold mE;rw[e];exact h
def aG7(b:Expr):Prop:=∀o i,subscripted b false o i=operate [o,i] (getItem o i)
def IxR(X:Cx)(r:R2):Prop:=
 ∀(value slice:Expr) (pins:List (Addr×Obj)) (s:Shared) (σ:St) (H:Hp) (x y:V) (v u:Value) (Q:VK),aX X pins σ H s->bF x v->bF y u->r x y H Q ->
  subscripted slice false v u=operate [v,u] (getItem v u)->wpAny (model X.prog X.w) X.A (subscriptTail value slice v u) (EP X pins σ Q) X.xe s
def MtR(X:Cx)(id:String)(r:V->List V->Hp->VK->Prop):Prop:=
 ∀(pins:List (Addr×Obj)) (s:Shared) (σ:St) (H:Hp) (x:V) (xs:List V) (v:Value) (us:List Value) (Q:VK),aX X pins σ H s->bF x v->bH xs us->r x xs H Q ->
  wpAny (model X.prog X.w) X.A (call (.builtin id) (v::us)) (EP X pins σ Q) X.xe s
section
variable {X:Cx}{a b:Expr}{ta tb:TE}{pos:Pos}
theorem cM3{r:R2}(hr:IxR X r)(ha:PE X a ta)(hb:PE X b tb)(hs:aG7 b):PE X (.Subscript a b pos) (zR r ta tb):=by
 intro pins s σ H Q I h
 exact yz (bT5 ha hb I h fun v u s2 x y H2 I2 rx ry q=>hr a b pins s2 σ H2 x y v u Q I2 rx ry q (hs _ _))
inductive cJ4(K:PySem.W.Frag)(x:V)(y:V)(H:Hp)(Q:VK):Prop
 |mk:∀p xs i v,(x= .ref p)->(y= .int i)->(bA K H p xs)->(mE xs i=some v)->(Q v H)->cJ4 K x y H Q
inductive zK(K:PySem.W.Frag)(x:V)(y:V)(H:Hp)(Q:VK):Prop
 |mk:∀p xs i v,(x= .ref p)->(y= .int i)->(aQ K H p xs)->(mE xs i=some v)->(Q v H)->zK K x y H Q
inductive rIxS(x:V)(y:V)(H:Hp)(Q:VK):Prop
 |mk:∀z i c,(x= .str z)->(y= .int i)->(z.length<=sizeLine)->(mE z.cps.toList i=some c)->(Q (.str ⟨#[c]⟩) H)->rIxS x y H Q
theorem eJ:IxR X (cJ4 X.K):=by
 intro value slice pins s σ H x y v u Q I rx ry h hs
 obtain⟨p,xs,i,z,rfl,rfl,hq,he,q⟩:=h
 cases rx
 obtain⟨t,rfl⟩:=ry
 obtain⟨its,r,pl,hz⟩:=I.list hq
 obtain⟨j,h1,h2,h3,h4,h5⟩:=vB he
 obtain⟨w,ew,rw'⟩:=r.get h2
 have hl:=r.length
 have hn:=lA
 have fin:EP X pins σ Q w s:=⟨z,H,I,rw',q⟩
 by_cases h0:0<=i
 ·have hj:i.toNat=j:=by
   rw[yk h0 h5] at h1
   exact dt h1
  exact item_listR pl.isList h0 (by lia) (by rw[hj];simpa using ew) fin hs
 ·have hj:(i+(its.toArray.size:Int)).toNat=j:=by
   rw[xh (by lia) h4] at h1
   rw[bq, <-hl]
   exact dt h1
  exact ve (x:=w) pl.isList.typeIs slot_list_getitem.lookup
   (vf (Q:=fun r s'=>r=w/\EP X pins σ Q r s') pl.isList (by lia) (by rw[bq]<;>lia) (by lia) (by rw[hj];simpa using ew) ⟨rfl,fin⟩) hs
theorem aH:IxR X (zK X.K):=by
 intro value slice pins s σ H x y v u Q I rx ry h hs
 obtain⟨p,xs,i,z,rfl,rfl,hq,he,q⟩:=h
 cases rx
 obtain⟨t,rfl⟩:=ry
 obtain⟨its,r,pl,hz⟩:=I.tuple hq
 obtain⟨j,h1,h2,h3,h4,h5⟩:=vB he
 obtain⟨w,ew,rw'⟩:=r.get h2
 have hl:=r.length
 have hn:=lA
 have fin:EP X pins σ Q w s:=⟨z,H,I,rw',q⟩
 exact ve (x:=w) pl.typeIs slot_tuple_getitem.lookup
  (getItem_tuple (j:=j) (Q:=fun r s'=>r=w/\EP X pins σ Q r s') pl (by lia) (by lia) (by rw[bq, <-hl];exact h1) (by simpa using ew) ⟨rfl,fin⟩) hs
theorem aB2:IxR X rIxS:=by
 intro value slice pins s σ H x y v u Q I rx ry h hs
 obtain⟨z,i,c,rfl,rfl,hz,he,q⟩:=h
 obtain⟨t,rfl⟩:=rx
 obtain⟨t',rfl⟩:=ry
 obtain⟨j,h1,h2,h3,h4,h5⟩:=vB he
 have hl:z.cps.toList.length=z.length:=by simp[Str.length]
 rw[hl] at h1 h4 h5
 have hn:=lA
 exact tail_any (za s z t) slot_str_getitem.lookup (getItem_str (c:=c) (by
  have e1:decide (i < -(2^63:Int))=false:=db (by lia)
  have e2:decide (i ≥ 2^63)=false:=db (by lia)
  rw[e1,e2,Bool.or_false]) (by rw[h1];simpa using h2) ⟨.str ⟨#[c]⟩,H,I.tok _,⟨_,rfl⟩,q⟩) hs
theorem aA1(its:List Value)(n j:Nat)(u:Value):Obj.mapSeq (·.setIfInBounds j u) { cls:= .type "list",data:= .seq its.toArray n }={ cls:= .type "list",data:= .seq (its.set j u).toArray n }:=by
 simp[Obj.mapSeq]
theorem aX.lst{pins:List (Addr×Obj)}{σ:St}{H:Hp}{s:Shared}{p:Addr}{xs:List V}(I:aX X pins σ H s)(h:H p=some (.lst xs)) :
  ∃(its:List Value) (n:Nat),bH xs its/\s.heap.get? p=some { cls:= .type "list",data:= .seq its.toArray n }/\xs.length<=sizeLine:=by
 obtain⟨z,its,n,r,e⟩:=I.hok p _ h
 exact⟨its,n,r,e,z⟩
theorem aX.lstUpd{pins:List (Addr×Obj)}{σ:St}{H:Hp}{s:Shared}{p:Addr}{xs ys:List V}{its its':List Value}{n n':Nat}{f:Obj->Obj}(I:aX X pins σ H s)(h:H p=some (.lst xs))
  (ho:s.heap.get? p=some { cls:= .type "list",data:= .seq its.toArray n }) (hf:f { cls:= .type "list",data:= .seq its.toArray n }={ cls:= .type "list",data:= .seq its'.toArray n' }) (r:bH ys its') (hz:ys.length<=sizeLine) (t:Nat) :
  aX X pins σ (aL H p (.lst ys)) { s with heap:=s.heap.update p f,toks:=t }:=by
 have e:(s.heap.update p f).get? p=some { cls:= .type "list",data:= .seq its'.toArray n' }:=by
  rw[iz f ho (by rw[hf]<;>rfl),hf]
 refine I.write (x:=p) (e:=p) (by rw[h];trivial) (.inl rfl) (fun b u hb q=>(ip _ _ (Ne.symm hb)).trans q) ⟨_,e⟩ ?_
 exact⟨hz,its',n',r,e⟩
inductive rSetL(o:V)(i:V)(v:V)(H:Hp)(Q:(Hp->Prop)):Prop
 |mk:∀p xs k j,(o= .ref p)->(i= .int k)->(H p=some (.lst xs))->(ixN xs.length k=some j)->(Q (aL H p (.lst (xs.set j v))))->rSetL o i v H Q
theorem aT7:cB4 X rSetL:=by
 intro pins s σ H o i v ov iv u Q I ro ri rv h
 obtain⟨p,xs,k,j,rfl,rfl,hp,hj,q⟩:=h
 cases ro
 obtain⟨t,rfl⟩:=ri
 obtain⟨its,n,r,ho,hz⟩:=I.lst hp
 obtain⟨h1,h2,h3,h4⟩:=aF3 hj
 have hl:=r.length
 have hn:=lA
 have I':aX X pins σ (aL H p (.lst (xs.set j v))) { s with heap:=s.heap.update p (Obj.mapSeq (·.setIfInBounds j u)) }:=
  I.lstUpd hp ho (aA1 its n j u) (r.set rv j) (by rw[List.length_set];exact hz) s.toks
 by_cases h0:0<=k
 ·have hk:k.toNat=j:=by
   rw[yk h0 h4] at h1
   exact dt h1
  exact PySem.W.ki_setAt ho h0 (by lia) (by rw[bq, <-hl];exact h4) (by rw[hk];exact⟨_,I',q⟩)
 ·have hk:(k+(its.toArray.size:Int)).toNat=j:=by
   rw[xh (by lia) h3] at h1
   rw[bq, <-hl]
   exact dt h1
  exact PySem.W.ki_setBack ho (by lia) (by rw[bq, <-hl];exact h3) (by lia) (by rw[hk];exact⟨_,I',q⟩)
theorem wA(lo hi:Option Int)(n:Nat):(sliceBounds lo hi none n).1=((HT.sIx n 0 lo:Nat):Int)/\(sliceBounds lo hi none n).2.1=((HT.sIx n n hi:Nat):Int)/\(sliceBounds lo hi none n).2.2=1:=by
 refine⟨?_,?_,rfl⟩
 ·cases lo with
  |none=>simp[sliceBounds,HT.sIx]
  |some i =>
   simp only[sliceBounds,HT.sIx,Option.getD_none,show(1:Int) > 0 by decide,if_true]
   by_cases h:i<0
   ·simp only[h,if_true]<;>lia
   ·simp only[h,if_false]<;>lia
 ·cases hi with
  |none=>simp[sliceBounds,HT.sIx]
  |some i =>
   simp only[sliceBounds,HT.sIx,Option.getD_none,show(1:Int) > 0 by decide,if_true]
   by_cases h:i<0
   ·simp only[h,if_true]<;>lia
   ·simp only[h,if_false]<;>lia
theorem tH(its:List Value)(lo hi:Option Int):slicePick its.toArray lo hi none=((its.drop (HT.sIx its.length 0 lo)).take (HT.sIx its.length its.length hi-HT.sIx its.length 0 lo)).toArray:=by
 obtain⟨h1,h2,h3⟩:=wA lo hi its.toArray.size
 unfold slicePick
 rw[h1,h2,h3]
 simp only[sliceRange_one,pick_run,List.size_toArray]<;>rfl
inductive cM7(K:PySem.W.Frag)(x:V)(lo:Option Int)(hi:Option Int)(H:Hp)(Q:VK):Prop
 |mk:∀a xs,(x= .ref a)->(bA K H a xs)->(∀p,H p=none->Q (.ref p) (aL H p (.lst (kR xs lo hi))))->cM7 K x lo hi H Q
theorem wL:SlR X (cM7 X.K):=by
 intro pins s σ H x v vl vu lo hi sl Q I rx hs pl pu h
 obtain⟨a,xs,rfl,hx,q⟩:=h
 cases rx
 obtain⟨its,r,ht,hz⟩:=I.list hx
 have hlen:=r.length
 refine⟨"list",_,slot_list_getitem.lookup,ht.isList.typeIs,?_⟩
 refine wpAny_getItem_list_slice ht.isList hs pl pu .none (by simp) ?_ (by rw[List.size_toArray]<;>lia)
 rw[tH, <-hlen]
 refine⟨.ref s.heap.objs.size,_,I.laid (t':=s.toks) (o:= .lst (kR xs lo hi)) (fun b ob q=>ac _ q) (af _) ?_,rfl,q _ (I.hok.fresh (af _))⟩
 exact⟨cj (pL xs lo hi) hz,_,0,(r.drop (HT.sIx xs.length 0 lo)).take (HT.sIx xs.length xs.length hi-HT.sIx xs.length 0 lo),bz _ rfl⟩
def lP:V->Bool
 |.non=>true
 |.bl _=>true
 |.int _=>true
 |.str _=>true
 |_=>false
def eqV:V->V->Bool
 |.non,.non=>true
 |.bl a,.bl b=>a==b
 |.bl a,.int b=>(if a then 1 else 0)==b
 |.int a,.bl b=>a==(if b then 1 else 0)
 |.int a,.int b=>a==b
 |.str a,.str b=>a==b
 |_,_=>false
theorem bV3{A:Around}{s:Shared}{y x:V}{u v:Value}(ry:bF y u)(rx:bF x v)(fy:lP y=true)(fx:lP x=true):SeqAt.EqAt A s u v (eqV y x):=by
 cases y with
 |non =>
  cases ry
  cases x with
  |non=>cases rx;exact qp _
  |bl b=>cases rx;exact SeqAt.EqAt.none_bool b
  |int b=>obtain⟨t,rfl⟩:=rx;exact SeqAt.EqAt.none_int b t
  |str b=>obtain⟨t,rfl⟩:=rx;exact SeqAt.EqAt.none_str b t
  |_=>exact absurd (show false=true from fx) bt
 |bl a =>
  cases ry
  cases x with
  |non=>cases rx;exact SeqAt.EqAt.bool_none a
  |bl b=>cases rx;exact SeqAt.EqAt.bool_bool a b
  |int b=>obtain⟨t,rfl⟩:=rx;exact SeqAt.EqAt.bool_int a b t
  |str b=>obtain⟨t,rfl⟩:=rx;exact SeqAt.EqAt.bool_str a b t
  |_=>exact absurd (show false=true from fx) bt
 |int a =>
  obtain⟨t',rfl⟩:=ry
  cases x with
  |non=>cases rx;exact SeqAt.EqAt.int_none a t'
  |bl b=>cases rx;exact SeqAt.EqAt.int_bool a t' b
  |int b=>obtain⟨t,rfl⟩:=rx;exact SeqAt.EqAt.int_int a t' b t
  |str b=>obtain⟨t,rfl⟩:=rx;exact xa a t' b t
  |_=>exact absurd (show false=true from fx) bt
 |str a =>
  obtain⟨t',rfl⟩:=ry
  cases x with
  |non=>cases rx;exact SeqAt.EqAt.str_none a t'
  |bl b=>cases rx;exact SeqAt.EqAt.str_bool a t' b
  |int b=>obtain⟨t,rfl⟩:=rx;exact xb a t' b t
  |str b=>obtain⟨t,rfl⟩:=rx;exact SeqAt.EqAt.str_str a t' b t
  |_=>exact absurd (show false=true from fx) bt
 |_=>exact absurd (show false=true from fy) bt
def eqU(x:V)(u:Value):Bool:=match u with
 |.none=>eqV .non x
 |.bool b=>eqV (.bl b) x
 |.int i _=>eqV (.int i) x
 |.str z _=>eqV (.str z) x
 |_=>false
theorem aU4{x y:V}{u:Value}(r:bF y u)(f:lP y=true):eqU x u=eqV y x:=by
 cases y with
 |non=>cases r;rfl
 |bl b=>cases r;rfl
 |int i=>obtain⟨t,rfl⟩:=r;rfl
 |str z=>obtain⟨t,rfl⟩:=r;rfl
 |_=>exact absurd (show false=true from f) bt
theorem nO{x:V}:∀{xs:List V}{us:List Value},bH xs us->xs.all lP=true->us.any (eqU x)=xs.any fun y=>eqV y x
 |_,_,.nil,_=>rfl
 |y::xs,u::us,.cons r t,f=>by
  rw[List.all_cons,mw] at f
  rw[na,na,aU4 r f.1,nO t f.2]
theorem kP{A:Around}{s:Shared}{x:V}{v:Value}(rx:bF x v)(fx:lP x=true):∀{xs:List V}{us:List Value},bH xs us->xs.all lP=true->∀u∈us,SeqAt.EqAt A s u v (eqU x u)
 |_,_,.nil,_=>fun u hu=>by cases hu
 |y::xs,u::us,.cons r t,f=>fun u' hu=>by
  rw[List.all_cons,mw] at f
  rcases bw.mp hu with rfl|hu
  ·rw[aU4 r f.1];exact bV3 r rx f.1 fx
  ·exact kP rx fx t f.2 u' hu
def wN(x:V)(xs:List V):Bool:=xs.any fun y=>eqV y x
inductive rIn(K:PySem.W.Frag)(neg:Bool)(x:V)(y:V)(H:Hp)(Q:VK):Prop
 |mk:∀p xs,(y= .ref p)->((bA K H p xs\/aQ K H p xs))->(lP x=true)->(xs.all lP=true)->(Q (.bl (if neg then !wN x xs else wN x xs)) H)->rIn K neg x y H Q
theorem cY:iQ X (compareOp .In) (rIn X.K false):=by
 intro pins s σ H x y v u Q I rx ry h
 obtain⟨p,xs,rfl,hq,fx,fs,q⟩:=h
 cases ry
 rcases hq with hq|hq
 ·obtain⟨its,r,pl,hz⟩:=I.list hq
  refine SeqAt.in_listAt (eqU x) pl.isList (fun w hw=>kP rx fx r fs w (by simpa using hw)) ⟨.bl _,H,I,rfl,?_⟩
  rw[show its.toArray.any (eqU x)=its.any (eqU x) by simp,nO r fs]
  exact q
 ·obtain⟨its,r,pl,hz⟩:=I.tuple hq
  refine SeqAt.in_tupleAt (eqU x) pl (fun w hw=>kP rx fx r fs w (by simpa using hw)) ⟨.bl _,H,I,rfl,?_⟩
  rw[show its.toArray.any (eqU x)=its.any (eqU x) by simp,nO r fs]
  exact q
theorem mX:iQ X (compareOp .NotIn) (rIn X.K true):=by
 intro pins s σ H x y v u Q I rx ry h
 obtain⟨p,xs,rfl,hq,fx,fs,q⟩:=h
 cases ry
 rcases hq with hq|hq
 ·obtain⟨its,r,pl,hz⟩:=I.list hq
  refine SeqAt.notIn_listAt (eqU x) pl.isList (fun w hw=>kP rx fx r fs w (by simpa using hw)) ⟨.bl _,H,I,rfl,?_⟩
  rw[show its.toArray.any (eqU x)=its.any (eqU x) by simp,nO r fs]
  exact q
 ·obtain⟨its,r,pl,hz⟩:=I.tuple hq
  refine SeqAt.notIn_tupleAt (eqU x) pl (fun w hw=>kP rx fx r fs w (by simpa using hw)) ⟨.bl _,H,I,rfl,?_⟩
  rw[show its.toArray.any (eqU x)=its.any (eqU x) by simp,nO r fs]
  exact q
theorem bO:fG X (.builtin "len") (fun xs H Q=>∃p ys,xs=[.ref p]/\(bA X.K H p ys\/aQ X.K H p ys)/\Q (.int ys.length) H):=by
 intro pins s σ H xs us Q I r h
 obtain⟨p,ys,rfl,hq,q⟩:=h
 obtain⟨u,rfl,rx⟩:=iO r
 cases rx
 have hn:=lA
 rcases hq with hq|hq
 ·obtain⟨its,r',pl,hz⟩:=I.list hq
  have hlen:=r'.length
  exact Calls.call_len_list pl.isList (by simp only[List.size_toArray]<;>lia) ⟨.int ys.length,H,I.tok _,⟨s.toks+1,by rw[bq,hlen]⟩,q⟩
 ·obtain⟨its,r',pl,hz⟩:=I.tuple hq
  have hlen:=r'.length
  exact len_tuple pl (by simp only[List.size_toArray]<;>lia) ⟨.int ys.length,H,I.tok _,⟨s.toks+1,by rw[bq,hlen]⟩,q⟩
theorem vK:fG X (.builtin "len") (fun xs H Q=>∃z,xs=[.str z]/\z.length<=sizeLine/\Q (.int z.length) H):=by
 intro pins s σ H xs us Q I r h
 obtain⟨z,rfl,hz,q⟩:=h
 obtain⟨u,rfl,t,rfl⟩:=iO r
 have hn:=lA
 exact len_str (by lia) ⟨.int z.length,H,I.tok _,⟨_,rfl⟩,q⟩
theorem wQ:fG X (.type "list") (fun xs H Q=>∃p ys,xs=[.ref p]/\(bA X.K H p ys\/aQ X.K H p ys)/\∀l,H l=none->Q (.ref l) (aL H l (.lst ys))):=by
 intro pins s σ H xs us Q I r h
 obtain⟨p,ys,rfl,hq,q⟩:=h
 obtain⟨u,rfl,rx⟩:=iO r
 cases rx
 have fin:∀(its:List Value),bH ys its->ys.length<=sizeLine->∀(h':Heap) (c':Nat),(∀b o',s.heap.get? b=some o'->h'.get? b=some o') ->
   h'.get? s.heap.objs.size=some { cls:= .type "list",dict:=none,data:= .seq its.toArray c',slots:= #[] }->EP X pins σ Q (.ref s.heap.objs.size) { s with heap:=h' }:=fun its r' hz h' c' kp e =>
  ⟨.ref s.heap.objs.size,_,I.laid (t':=s.toks) kp (af _) (show cR X.prog X.w _ h' _ (.lst ys) from⟨hz,its,c',r',e⟩),rfl,q _ (I.hok.fresh (af _))⟩
 rcases hq with hq|hq
 ·obtain⟨its,r',pl,hz⟩:=I.list hq
  have hlen:=r'.length
  obtain⟨o,ho,hc,n,hd⟩:=pl.isList
  exact call_list_seq p (.inl rfl) ho hc hd (fun h' c' kp e=>fin its r' hz h' c' kp e) (by simp only[List.size_toArray]<;>lia)
 ·obtain⟨its,r',pl,hz⟩:=I.tuple hq
  have hlen:=r'.length
  obtain⟨o,ho,hc,n,hd⟩:=pl
  exact call_list_seq p (.inr rfl) ho hc hd (fun h' c' kp e=>fin its r' hz h' c' kp e) (by simp only[List.size_toArray]<;>lia)
theorem bV:fG X (.type "tuple") (fun xs H Q=>∃p ys,xs=[.ref p]/\((bA X.K H p ys/\∀l,H l=none->Q (.ref l) (aL H l (.tup ys)))\/(aQ X.K H p ys/\Q (.ref p) H))):=by
 intro pins s σ H xs us Q I r h
 obtain⟨p,ys,rfl,h⟩:=h
 obtain⟨u,rfl,rx⟩:=iO r
 cases rx
 rcases h with⟨hq,q⟩|⟨hq,q⟩
 ·obtain⟨its,r',pl,hz⟩:=I.list hq
  have hlen:=r'.length
  refine call_tuple_list pl.isList (fun h' kp=>?_) (by simp only[List.size_toArray]<;>lia)
  have I1:aX X pins σ H { s with heap:=h' }:=I.kept (t':=s.toks) kp
  have I2:aX X pins σ (aL H h'.objs.size (.tup ys)) { s with heap:=h'.push { cls:= .type "tuple",data:= .seq its.toArray } }:=
   I1.laid (t':=s.toks) (fun b o e=>ac _ e) (af _) (show cR X.prog X.w _ _ _ (.tup ys) from⟨hz,its,r',kL.new _ _⟩)
  exact⟨.ref h'.objs.size,_,I2,rfl,q _ (I1.hok.fresh (af _))⟩
 ·obtain⟨its,r',pl,hz⟩:=I.tuple hq
  exact call_tuple_same pl ⟨.ref p,H,I,rfl,q⟩
def tyV(K:PySem.W.Frag)(T:String)(x:V)(H:Hp):Prop:=match x with
 |.str _=>T="str"
 |.int _=>T="int"
 |.ref p=>(T="list"/\∃xs,bA K H p xs)\/(T="tuple"/\∃o,K.lookup p=some o/\o.cls= .type "tuple"/\o.dict=none) \/
   (T="dict"/\((∃kvs,H p=some (.dK kvs))\/∃kvs,H p=some (.dT kvs)))\/(T="set"/\∃S n,H p=some (.set S n))
 |_=>False
theorem aZ9{pins:List (Addr×Obj)}{σ:St}{H:Hp}{s:Shared}{T:String}{x:V}{v:Value}(I:aX X pins σ H s)(r:bF x v)(ty:tyV X.K T x H) :
  s.TypeIs v T/\∀a,v= .ref a->∃ob,s.heap.get? a=some ob/\ob.dict=none:=by
 cases x with
 |str z =>
  obtain⟨t,rfl⟩:=r
  cases(show T="str" from ty)
  exact⟨za s z t,fun _ e=>nomatch e⟩
 |int i =>
  obtain⟨t,rfl⟩:=r
  cases(show T="int" from ty)
  exact⟨typeIs_int s i t,fun _ e=>nomatch e⟩
 |ref p =>
  cases r
  rcases ty with⟨rfl,xs,hq⟩|⟨rfl,o,hk,hc,hd⟩|⟨rfl,hk⟩|⟨rfl,S,n,hk⟩
  ·obtain⟨its,_,pl,_⟩:=I.list hq
   refine⟨pl.isList.typeIs,fun a e=>?_⟩
   cases e
   obtain⟨o,n,e,c,hd,_⟩:=pl
   exact⟨o,e,hd⟩
  ·refine⟨⟨o,I.kIn p o hk,hc⟩,fun a e=>?_⟩
   cases e
   exact⟨o,I.kIn _ o hk,hd⟩
  ·have z:∃o,s.heap.get? p=some o/\o.ExactDict:=by
    rcases hk with⟨kvs,hk⟩|⟨kvs,hk⟩
    ·obtain⟨_,_,_,_,o,_,_,e,ex,_⟩:=I.hok p _ hk
     exact⟨o,e,ex⟩
    ·obtain⟨_,_,_,_,o,_,_,e,ex,_⟩:=I.hok p _ hk
     exact⟨o,e,ex⟩
   obtain⟨o,e,ex⟩:=z
   refine⟨⟨o,e,ex.1⟩,fun a e2=>?_⟩
   cases e2
   exact⟨o,e,ex.2.1⟩
  ·obtain⟨o,_,_,_,e,ex,_⟩:=I.hok p _ hk
   refine⟨⟨o,e,ex.1⟩,fun a e2=>?_⟩
   cases e2
   exact⟨o,e,ex.2.1⟩
 |_=>exact False.elim ty
def cR3(K:PySem.W.Frag)(T:String)(r:V->List V->Hp->VK->Prop)(to:TE):TE:=fun σ H Q=>to σ H fun x H1=>tyV K T x H1/\r x [] H1 Q
def tBM(K:PySem.W.Frag)(T:String)(r:V->List V->Hp->VK->Prop)(to:TE)(t:TA):TE:=fun σ H Q=>to σ H fun x H1=>tyV K T x H1/\t σ H1 fun xs H2=>r x xs H2 Q
variable {o e:Expr}{es:List Expr}{to:TE}{t:TA}{name:Str}{apos cpos:Pos}{T id:String}{r:V->List V->Hp->VK->Prop}
theorem iT(pa:PlainAttrs T)(slot:Slot T name id)(hty:typeOf (.builtin id)=pure (.type "method_descriptor"))(hm:MtR X id r)(ho:PE X o to)
  (hbase:autoParam (attributeBase o name X.env (eval o X.env)=eval o X.env) Rq0._auto_1) (hline:autoParam ((apos.endLine==cpos.line)=true) Rq0._auto_1):PE X (.Call (.Attribute o name apos) [] [] cpos) (cR3 X.K T r to):=by
 intro pins s σ H Q I h
 refine wpAny_Call_method0_late hbase hline (cO (ho pins s σ H _ I h) ?_);rintro v s1 ⟨x,H1,I1,r1,ty,q1⟩
 obtain⟨h1,h2⟩:=aZ9 I1 r1 ty
 exact⟨T,id,pa,slot,hty,h1,h2,lv rfl (PySem.evalArgs_none (hm pins s1 σ H1 x [] v [] Q I1 r1 .nil q1))⟩
theorem dA(pa:PlainAttrs T)(slot:Slot T name id)(hty:typeOf (.builtin id)=pure (.type "method_descriptor"))(hm:MtR X id r)(ho:PE X o to)(ha:PA X (e::es) t)
  (hbase:autoParam (attributeBase o name X.env (eval o X.env)=eval o X.env) Rq0._auto_1)
  (hfew:autoParam (((backTo cpos (starEach (e::es) X.env)).all (fun x=> !x.1)&&(backToKw cpos (keywordEach [] X.env)).all (fun x=>x.1.isSome)
   && decide ((e::es).length+([]:List Keyword).length+(if ([]:List Keyword).isEmpty then 0 else 1)<30))=true) Rq0._auto_1)
  (hline:autoParam ((apos.endLine==cpos.line)=true) Rq0._auto_1) (hs:autoParam (starEach (e::es) X.env=(false,eval e X.env)::starEach es X.env) Rq0._auto_1) (hplain:autoParam ((backTo cpos (starEach es X.env)).any (·.1)=false) Rq0._auto_1) :
  PE X (.Call (.Attribute o name apos) (e::es) [] cpos) (tBM X.K T r to t):=by
 intro pins s σ H Q I h
 refine wpAny_Call_method_late hbase hfew hline rfl (cO (ho pins s σ H _ I h) ?_);rintro v s1 ⟨x,H1,I1,r1,ty,q1⟩
 obtain⟨h1,h2⟩:=aZ9 I1 r1 ty
 refine⟨T,id,pa,slot,hty,h1,h2,?_⟩
 have hA:=ha cpos pins s1 σ H1 _ I1 q1
 rw[hs] at hA ⊢
 refine lv (by show(false || (backTo cpos (starEach es X.env)).any (·.1))=false;rw[hplain]<;>rfl) (qo ?_)
 refine cO hA ?_;rintro us s2 ⟨vs,H2,I2,r2,q2⟩;exact hm pins s2 σ H2 x vs v us Q I2 r1 r2 q2
end
def MtM(X:Cx)(id:String)(r:V->List V->Hp->VK->Prop):Prop:=
 ∀(pins:List (Addr×Obj)) (s:Shared) (σ:St) (H:Hp) (x:V) (xs:List V) (v:Value) (us:List Value) (Q:VK),aX X pins σ H s->bF x v->bH xs us->r x xs H Q ->
  wpAny (model X.prog X.w) X.A (call (.builtin id) (v::us)) (EP X pins σ Q) X.xe s
theorem bH.one:∀{x:V}{us:List Value},bH [x] us->∃u,us=[u]/\bF x u
 |_,_,.cons r .nil=>⟨_,rfl,r⟩
theorem bH.zero:∀{us:List Value},bH [] us->us=[]
 |_,.nil=>rfl
theorem bH.dropLast{xs:List V}{us:List Value}(h:bH xs us):bH xs.dropLast us.dropLast:=by
 induction h with
 |nil=>exact .nil
 |cons r t ih =>
  cases t with
  |nil=>exact .nil
  |cons q t'=>exact .cons r ih
theorem bH.reverse{xs:List V}{us:List Value}(h:bH xs us):bH xs.reverse us.reverse:=by
 induction h with
 |nil=>exact .nil
 |cons r t ih=>rw[dr,dr];exact bH.append ih (.cons r .nil)
theorem aD2{α:Type}(l:List α):l.eraseIdx (l.length-1)=l.dropLast:=by
 induction l with
 |nil=>rfl
 |cons a r ih =>
  cases r with
  |nil=>rfl
  |cons b r =>
   have e:(a::b::r).length-1=((b::r).length-1)+1:=by
    rfl
   rw[e,List.eraseIdx_cons_succ,ih]
   all_goals rfl
section
variable {X:Cx}{pins:List (Addr×Obj)}{σ:St}{H:Hp}{s:Shared}{l b:Addr}{xs ys zs:List V}
theorem aX.lset{its its':List Value}{n:Nat}{f:Array Value->Array Value}{t':Nat}(I:aX X pins σ H s)(hH:H l=some (.lst xs))
  (e:s.heap.get? l=some { cls:= .type "list",data:= .seq its.toArray n }) (hf:f its.toArray=its'.toArray) (hv:bH ys its') (hz:ys.length<=sizeLine) :
  aX X pins σ (aL H l (.lst ys)) { s with heap:=s.heap.update l (Obj.mapSeq f),toks:=t' }:=by
 have q:=PySem.IsL.update e f
 rw[hf] at q
 refine I.write (x:=l) (e:=l) (by rw[hH];exact trivial) (.inl rfl) (fun b' u hb hu=>(ip s.heap (Obj.mapSeq f) (Ne.symm hb)).trans hu) ⟨_,q⟩ ?_
 exact⟨hz,its',_,hv,q⟩
theorem aX.lnew{its:List Value}{t':Nat}(I:aX X pins σ H s)(hv:bH ys its)(hz:ys.length<=sizeLine) :
  aX X pins σ (aL H s.heap.objs.size (.lst ys)) { s with heap:=s.heap.push { cls:= .type "list",data:= .seq its.toArray },toks:=t' }:=
 I.laid (fun _ _ q=>ac _ q) (af _) ⟨hz,its,0,hv,bz _ rfl⟩
theorem aX.fresh(I:aX X pins σ H s):H s.heap.objs.size=none:=I.hok.fresh (af _)
theorem aX.lstM(I:aX X pins σ H s)(hH:H l=some (.lst xs)):xs.length<=sizeLine/\∃(its:List Value) (n:Nat),bH xs its/\xs.length=its.length/\s.heap.get? l=some { cls:= .type "list",data:= .seq its.toArray n }:=by
 obtain⟨z,its,n,r,e⟩:=I.hok l _ hH
 exact⟨z,its,n,r,r.length,e⟩
theorem aX4{n:Nat}(h:n<=sizeLine):Builtin.List.listTooLong n=false:=by
 unfold Builtin.List.listTooLong
 exact db (by lia)
end
section
variable {X:Cx}
inductive rAppend(x:V)(vs:List V)(H:Hp)(Q:VK):Prop
 |mk:∀l xs y,(x= .ref l)->(vs=[y])->(H l=some (.lst xs))->(xs.length<sizeLine)->(Q .non (aL H l (.lst (xs++[y]))))->rAppend x vs H Q
theorem bT:MtM X "list.append" rAppend:=by
 intro pins s σ H x vs v us Q I rx rv h
 obtain⟨l,xs,y,rfl,rfl,hH,hz,q⟩:=h
 cases rx
 obtain⟨u,rfl,ru⟩:=rv.one
 obtain⟨z,its,n,r,hl,e⟩:=I.lstM hH
 refine zb F.slot_list_append ⟨_,e,rfl⟩ F.entry_list_append (F.args_list_append_2 _ _) (PySem.list_append l its.toArray n u (by rw[bq];lia)) ⟨e,?_⟩
 refine⟨.non,_,I.lset (its':=its++[u]) hH e (by simp) (r.append (.cons ru .nil)) ?_,rfl,q⟩
 rw[ap,ej]
 lia
inductive rExtend(x:V)(vs:List V)(H:Hp)(Q:VK):Prop
 |mk:∀l b xs zs,(x= .ref l)->(vs=[.ref b])->(H l=some (.lst xs))->(H b=some (.lst zs))->(xs.length+zs.length<=sizeLine)->(Q .non (aL H l (.lst (xs++zs))))->rExtend x vs H Q
theorem dP:MtM X "list.extend" rExtend:=by
 intro pins s σ H x vs v us Q I rx rv h
 obtain⟨l,b,xs,zs,rfl,rfl,hH,hB,hz,q⟩:=h
 cases rx
 obtain⟨u,rfl,ru⟩:=rv.one
 cases ru
 obtain⟨z,its,n,r,hl,e⟩:=I.lstM hH
 obtain⟨z2,its2,n2,r2,hl2,e2⟩:=I.lstM hB
 have hsz:its.toArray.size+its2.toArray.size<=sizeLine:=by rw[bq,bq];lia
 have hlong:¬(!its.toArray.isEmpty&&Builtin.List.listTooLong (its.toArray.size+its2.toArray.size))=true:=by
  rw[aX4 hsz,Bool.and_false]
  exact bt
 refine zb F.slot_list_extend ⟨_,e,rfl⟩ F.entry_list_extend (F.args_list_extend_2 _ _)
  (AutoSeq1.list_extend_list_list_0 l its.toArray n b its2.toArray n2 hlong (by rw[bq];lia) (by lia)) ⟨e,e2,?_⟩
 refine⟨.non,_,I.lset (its':=its++its2) hH e (by simp) (r.append r2) ?_,rfl,q⟩
 rw[ap]
 lia
inductive rPop(x:V)(vs:List V)(H:Hp)(Q:VK):Prop
 |mk:∀l xs y,(x= .ref l)->(vs=[])->(H l=some (.lst xs))->(xs[xs.length-1]?=some y)->(Q y (aL H l (.lst xs.dropLast)))->rPop x vs H Q
theorem iU:MtM X "list.pop" rPop:=by
 intro pins s σ H x vs v us Q I rx rv h
 obtain⟨l,xs,y,rfl,rfl,hH,hy,q⟩:=h
 cases rx
 have hus:=rv.zero
 subst hus
 obtain⟨z,its,n,r,hl,e⟩:=I.lstM hH
 obtain⟨u,hu,ru⟩:=r.get hy
 have hy':its.toArray[its.toArray.size-1]?=some u:=by
  show its.toArray[its.length-1]?=some u
  rw[<-mf, <-hl]
  exact hu
 refine zb F.slot_list_pop ⟨_,e,rfl⟩ F.entry_list_pop (F.args_list_pop_1 _) (MeetsSeq.list_pop_last l its.toArray n u hy' (by rw[bq];lia)) ⟨e,?_⟩
 refine⟨y,_,I.lset (its':=its.dropLast) hH e ?_ r.dropLast ?_,ru,q⟩
 ·show its.toArray.eraseIdxIfInBounds (its.toArray.size-1)=its.dropLast.toArray
  rw[bq,List.eraseIdxIfInBounds_toArray,aD2]
 ·rw[wc]
  lia
inductive rCat(x:V)(y:V)(H:Hp)(Q:VK):Prop
 |mk:∀l b xs zs,(x= .ref l)->(y= .ref b)->(H l=some (.lst xs))->(H b=some (.lst zs))->(xs.length+zs.length<=sizeLine)->(∀p,H p=none->Q (.ref p) (aL H p (.lst (xs++zs))))->rCat x y H Q
theorem gN:iQ X (binaryOp .Add) rCat:=by
 intro pins s σ H x y v u Q I rx ry h
 obtain⟨l,b,xs,zs,rfl,rfl,hH,hB,hz,q⟩:=h
 cases rx
 cases ry
 obtain⟨z,its,n,r,hl,e⟩:=I.lstM hH
 obtain⟨z2,its2,n2,r2,hl2,e2⟩:=I.lstM hB
 refine PySem.P.add_list e e2 ?_ (by rw[bq,bq];lia)
 have ea:its.toArray++its2.toArray=(its++its2).toArray:=by simp
 rw[ea]
 exact⟨.ref _,_,I.lnew (t':=s.toks) (r.append r2) (by rw[ap];lia),rfl,q _ I.fresh⟩
end
section
variable {prog:Program}{w:World}{A:Around}{E:Value->Shared->Prop}{s:Shared}
end
section
variable {X:Cx}
end
end L2
namespace Att
open PySem PySem.W PySem.Calls PyProof.Rows
theorem pT{P:Params}{h:Heap}:∀(ns:List Int) (vs:List Value),WellAll P h vs (ns.map WData.int)->IntsAre vs ns:=by
 intro ns
 induction ns with
 |nil =>
  intro vs w
  rw[List.map_nil] at w
  cases w
  exact .nil
 |cons n ns ih =>
  intro vs w
  rw[List.map_cons] at w
  cases w with
  |cons a b =>
   cases a
   exact .cons _ _ (ih _ b)
theorem aM6{l:OpenLaw}{n:Nat}(hn:l.most=some n){P:Params}{h:Heap}{args:List WData}{vals:List Value}
  (hpre:l.row.toRowW.claim.pre args=true) (hwl:WellAll P h vals args) :
  ∃a vs ns,vals=[Value.ref a]/\args=[WData.list (ns.map WData.int)]/\h.get? a=some { cls:= .type "list",data:= .seq vs.toArray }/\IntsAre vs ns/\ns.length<=n:=by
 have hsh:WShape.hasAll [] args [.list .int]=true:=(pre_splitW hpre).1
 have hc:l.pre.holds [] { args:=args }=true:=(pre_splitW hpre).2
 obtain⟨d,r,rfl,h1,h2⟩:=hasAllW_cons hsh
 obtain rfl:=hasAllW_nil h2
 obtain⟨xs,rfl,h3⟩:=hasW_list h1
 obtain⟨ns,rfl⟩:=items_int h3
 have hlen:ns.length<=n:=by
  unfold OpenLaw.pre at hc
  have h4:(WTm.not (.lt (.lit (.int (n:Int))) (.len (.arg 0)))).holds [] { args:=[.list (ns.map .int)] }=true:=by
   have h4:=(holds_andW hc).1
   rw[hn] at h4
   exact h4
  have h5:=condW_of h4 (w_not (w_lt w_lit (w_len_list (w_arg rfl))))
  rw[List.length_map] at h5
  refine Nat.le_of_not_lt fun q=>?_
  have q':(n:Int)<((ns.length:Nat):Int):=by lia
  first
   |(rw[decide_eq_true q'] at h5;exact absurd h5 (by decide))
   |(simp at h5;lia)
 cases hwl with
 |cons w1 w2 =>
  cases w2
  cases w1 with
  |list ho hall=>exact⟨_,_,ns,rfl,rfl,ho,pT ns _ hall,hlen⟩
theorem aK5(l:OpenLaw)(args:List WData):l.row.toRowW.claim.post args (.bool true) args=true:=
 postW_of (r:=l.row.toRowW) (X:=(true==true))
  (show WShape.has [] (.bool true) .bool=true by first|rfl|decide|simp[WShape.has,WShape.arms,WShape.armsAll])
  (show(WTm.eq .res (.lit (.bool true))).value [] { args:=args,res:=some (.bool true),after:=args }=some (.bool (true==true)) from w_eq_bool (w_res rfl) w_lit) rfl
theorem attach_call{l:OpenLaw}{n:Nat}{q:Program}{loose:List Str}{XP:(Str->Option Value)->Heap->Prop}{YP:World->Heap->Prop}{d:DefRec}
  (hn:l.most=some n) (hdf:d.params.defaults=[])
  (call:∀(w:World) (s₀ s₁:Shared) (mg mb:Str->Option Value) (fa:Addr) (o:Obj) (pm cd doc:Value) (a:Addr) (vs:List Value) (ns:List Int),
   Ground q loose [] XP w s₀ mg mb s₁.heap->YP w s₁.heap ->
   s₁.heap.get? fa=some o->o.data= .func (docDef d.name d.params d.body d.scope pm cd doc)->s₁.heap.CodeRec cd d.name->mg d.name=some (.ref fa) ->
   s₁.heap.get? a=some { cls:= .type "list",data:= .seq vs.toArray }->IntsAre vs ns->ns.length<=n->s₁.gens= #[] ->
   codeAny (model l.prog w) callerA (.call (.ref fa) ⟨[.ref a],[]⟩) (fun r s'=>r= .ok (.ret (.bool true))/\OldK s₁.heap s'.heap/\s'.os=s₁.os/\AllBare s'.gens) s₁) :
  WalkO q loose XP YP l.row.toRowW d [] (fun f vs=>PySem.call f vs):=by
 intro w s₀ s₁ mg mb G Y fa o pm cd doc dV kV ho hd hcd hD hmg hg args vals as hpre hlay hrd hwl hlo
 obtain rfl:dV= .none:=Dflts.none hD hdf
 obtain rfl:kV= .none:=Dflts.noKw hD
 obtain⟨a,vs,ns,rfl,rfl,hobj,hints,hlen⟩:=aM6 hn hpre hwl
 refine enter_call (codeAny_mono (call w s₀ s₁ mg mb fa o pm cd doc a vs ns G Y ho (fd_plain hd) hcd hmg hobj hints hlen hg) fun r s' hq=>?_)
 obtain⟨rfl,h2,h3,h4⟩:=hq
 exact⟨.inl ⟨.bool true,.bool true,[],rfl,fun _=>rfl,.bool true,aK5 l _,fun _=>⟨List.Pairwise.nil,fun _ hm=>(nomatch hm)⟩⟩,h2,h3,h4⟩
section
variable {prog:Program}{w:World}{A:Around}{E:Value->Shared->Prop}{s:Shared}{K:Frag}
def cS4(h:Heap)(L d:Addr):List (Addr×Obj):=(List.range h.objs.size).filterMap fun a=>if a=L\/a=d then none else (h.get? a).map fun o=>(a,o)
end
end Att
namespace L2
open PySem PySem.Spec PyProof.Rows
theorem tY:∀{vs:List Value}{ns:List Int},IntsAre vs ns->bH (ns.map V.int) vs
 |_,_,.nil=> .nil
 |_,_,.cons n t h=> .cons ⟨t,rfl⟩ (tY h)
def cC(s:Stmt):Arguments:=match s with
 |.FunctionDef _ a _ _ _ _ _ _ _ _=>a
 |_=>{ posonlyargs:=[],args:=[],vararg:=none,kwonlyargs:=[],kw_defaults:=[],kwarg:=none,defaults:=[] }
def bQ(s:Stmt):List Stmt:=match s with
 |.FunctionDef _ _ b _ _ _ _ _ _ _=>b
 |_=>[]
def aU(s:Stmt):Scope:=match s with
 |.FunctionDef _ _ _ _ _ _ sc _ _ _=>sc
 |_=>{ kind:= .function,names:=[],isGenerator:=false,isCoroutine:=false }
abbrev wU:CXT:=fun _ _ _ _ _ _=>False
abbrev E0:XK:=fun _ _ _=>False
theorem cN1{X:Cx}:aA5 wU X E0:=fun _ _ _ _ _ _ _ h=>h.elim
structure sV(K:PySem.W.Frag)(x qual:Str)(st:Stmt)(f:Addr)(fd:FuncData):Prop where
 ex:∃(oc:Value) (od:Option Addr) (kV doc pm:Value) (an:Option Addr) (cdv ct:Value) (osl:Array (Option Value)),
  fd=PySem.W.fnOf x qual (cC st) (bQ st) (aU st) .none kV doc pm an cdv ct/\K.lookup f=some ⟨oc,od,.func fd,osl⟩/\PySem.W.codeIn K cdv qual=true
 kp:PySem.W.keepIn K (.ref f)=true
section
variable {P:Program}{w:World}{K:PySem.W.Frag}{mg:Str->Option Value}{base:Heap}
theorem sV.ok{x qual:Str}{st:Stmt}{f:Addr}{fd:FuncData}{N ps:List Str}{k:Nat}{sp:Sp}(F:sV K x qual st f fd)(S:iM N ps (aU st))(len:∀vs H Q E,sp vs H Q E->vs.length=ps.length)
  (hbody:∀(cdv:Value) (A:Around) (outer:List Env) (s:Shared) (H:Hp) (vs:List V) (Q:VK) (E:XK),dI k (A.deeper (envOfC qual (aU st) s.heap.objs.size f cdv))->sp vs H Q E ->
   ∃t,uR (rY wU P w K mg base N qual (aU st) f cdv A outer s H E).nox (bQ st) t/\t { nx:=fun _ H'=>Q .non H',rt:=Q } (iX N vs) H):nX P w K mg base wU (k+1) f fd ps sp:=by
 obtain⟨oc,od,kV,doc,pm,an,cdv,ct,osl,rfl,lk,hcd⟩:=F.ex
 refine bQ9 lk hcd S len fun A outer s H vs Q E hr hsp=>?_
 obtain⟨t,h,q⟩:=hbody cdv A outer s H vs Q E hr hsp
 exact⟨t,h.nox,q⟩
theorem sV.binds{x qual:Str}{st:Stmt}{f:Addr}{fd:FuncData}{ps:List Str}(F:sV K x qual st f fd)
  (h:∀(kV doc pm:Value) (an:Option Addr) (cdv ct:Value) (us:List Value),us.length=ps.length->bindArgs (PySem.W.fnOf x qual (cC st) (bQ st) (aU st) .none kV doc pm an cdv ct) ⟨us,[]⟩=pure (ps.zip us)):jA K fd ps []:=by
 obtain⟨oc,od,kV,doc,pm,an,cdv,ct,osl,rfl,lk,hcd⟩:=F.ex
 exact .all (h kV doc pm an cdv ct)
theorem aD3{x qual:Str}{st:Stmt}{f:Addr}{oc:Value}{od an:Option Addr}{osl:Array (Option Value)}{kV doc pm cdv ct:Value}(l:K.lookup f=some ⟨oc,od,.func (PySem.W.fnOf x qual (cC st) (bQ st) (aU st) .none kV doc pm an cdv ct),osl⟩)
  (c:PySem.W.codeIn K cdv qual=true) (k:PySem.W.keepIn K (.ref f)=true):sV K x qual st f (PySem.W.fnOf x qual (cC st) (bQ st) (aU st) .none kV doc pm an cdv ct):=⟨⟨oc,od,kV,doc,pm,an,cdv,ct,osl,rfl,l,c⟩,k⟩
end
theorem jL{A:Around}{k:Nat}(hr:dI k A):A.units+1<cLine:=cx (Nat.add_le_add_left (by decide:1<=64) _) hr.units
theorem aR{n:Nat}(h:n<=1000):n<sizeLine:=cx h (by decide)
section
variable {X:Cx}
theorem pv(i:Nat){x:Str}{pos:Pos}(hN:autoParam (X.N[i]?=some x) Rq0._auto_1)(hv:autoParam (Vis X.env.scope x) Rq6._auto_1)(hd:autoParam ((x==("__debug__": Str))=false) Rq1._auto_1)
  (hcd:autoParam ((x==("__classdict__": Str))=false) Rq1._auto_1):PE X (.Name x pos) (jE i):=aX5 hN hv hd hcd
end
theorem cJ3{A B:Prop}(h:B):if false=true then A else B:=by
 rw[ay bt]
 exact h
theorem oE{c A B:Prop}[Decidable c](h1:c->A)(h2:¬c->B):if c then A else B:=by
 by_cases h:c
 ·rw[br h]
  exact h1 h
 ·rw[ay h]
  exact h2 h
theorem cK3{c A B:Prop}[Decidable c](hc:c)(h:B):if (!decide c)=true then A else B:=by
 rw[ai hc]
 exact cJ3 h
def aO(H H':Hp):Prop:=∀b o,H b=some o->H' b=some o
theorem aO.refl(H:Hp):aO H H:=fun _ _ h=>h
theorem aO.trans{H H1 H2:Hp}(a:aO H H1)(b:aO H1 H2):aO H H2:=fun c o h=>b c o (a c o h)
theorem aO.free{H H':Hp}(e:aO H H'){l:Addr}(h:H' l=Option.none):H l=Option.none:=by
 cases q:H l with
 |none=>rfl
 |some o =>
  rw[e l o q] at h
  cases h
theorem aO.seq{K:PySem.W.Frag}{H H':Hp}{a:Addr}{xs:List V}(e:aO H H')(h:bA K H a xs):bA K H' a xs:=by
 rcases h with(h|⟨o,h⟩)|h
 ·exact .inl (.inl (e _ _ h))
 ·exact .inl (.inr ⟨o,e _ _ h⟩)
 ·exact .inr h
section
variable {κ:Type} [DecidableEq κ]
end
end L2
set_option maxHeartbeats 4000000
namespace L2
open PySem PySem.Spec PyProof.Rows
def kB(env:Env)(names:List (Str×NameKind)):List (Str×Addr):=
 names.foldl (fun cs y=>if y.2==NameKind.free then (y.1,(env.cells.lookup y.1).getD 0)::cs else cs) []
theorem bC7{env:Env}:∀(names:List (Str×NameKind)) (cs:List (Str×Addr)),(∀y∈names,y.2= .free->∃c,env.cells.lookup y.1=some c) ->
  (forIn names cs fun(y:Str×NameKind) (r:List (Str×Addr))=>(if y.2==NameKind.free then (do let a <-cellOf env y.1;pure (ForInStep.yield ((y.1,a)::r))) else pure (ForInStep.yield r):Sem (ForInStep (List (Str×Addr))))) =
   pure (names.foldl (fun cs y=>if y.2==NameKind.free then (y.1,(env.cells.lookup y.1).getD 0)::cs else cs) cs)
 |[],cs,_=>rfl
 |(n,k)::r,cs,h=>by
  have ih:=fun cs'=>bC7 (env:=env) r cs' fun y hy=>h y (ak _ hy)
  rw[List.forIn_cons,iy]
  by_cases hk:k= .free
  ·subst hk
   obtain⟨c,hc⟩:=h (n,.free) ao rfl
   have e:cellOf env n=pure c:=by unfold cellOf;rw[hc]
   simp only[beq_self_eq_true,if_true,e,pure_bind,hc,Option.getD_some]
   exact ih _
  ·have hb:(k==NameKind.free)=false:=by simpa using hk
   simp only[hb,Bool.false_eq_true,if_false,pure_bind]
   exact ih _
theorem mB{scope:Scope}{env:Env}(h:∀y∈scope.names,y.2= .free->∃c,env.cells.lookup y.1=some c):closureFor scope env=pure (kB env scope.names):=by
 unfold closureFor
 have e:=bC7 (env:=env) scope.names [] h
 simp only[] at e ⊢
 refine Eq.trans ?_ (eo (fun m:Sem (List (Str×Addr))=>m>>=fun cs=>pure cs) e)
 rfl
theorem aB4{env:Env}{x:Str}{c:Addr}:∀(names:List (Str×NameKind)) (cs:List (Str×Addr)),(∀y∈names,y.2= .free->∃c,env.cells.lookup y.1=some c) ->
  (names.foldl (fun cs y=>if y.2==NameKind.free then (y.1,(env.cells.lookup y.1).getD 0)::cs else cs) cs).lookup x=some c->cs.lookup x=some c\/env.cells.lookup x=some c
 |[],_,_,e=> .inl e
 |(n,k)::r,cs,h,e=>by
  rw[iy] at e
  have ih:=aB4 r _ (fun y hy=>h y (ak _ hy)) e
  rcases ih with q|q
  ·by_cases hk:k= .free
   ·subst hk
    obtain⟨c',hc⟩:=h (n,.free) ao rfl
    simp only[beq_self_eq_true,if_true,hc,Option.getD_some,List.lookup_cons] at q
    cases hx:x==n with
    |true =>
     rw[hx] at q
     have:x=n:=by simpa using hx
     subst this
     simp only[Option.some.injEq] at q
     subst q
     exact .inr hc
    |false =>
     rw[hx] at q
     exact .inl q
   ·have hb:(k==NameKind.free)=false:=by simpa using hk
    simp only[hb,Bool.false_eq_true,if_false] at q
    exact .inl q
  ·exact .inr q
theorem rM{env:Env}{x:Str}:∀(names:List (Str×NameKind)) (cs:List (Str×Addr)),((x,NameKind.free)∈names\/∃c,cs.lookup x=some c) ->
  ∃c,(names.foldl (fun cs y=>if y.2==NameKind.free then (y.1,(env.cells.lookup y.1).getD 0)::cs else cs) cs).lookup x=some c
 |[],_,e=>by rcases e with e|e;exact absurd e (by simp);exact e
 |(n,k)::r,cs,e=>by
  rw[iy]
  refine rM r _ ?_
  rcases e with e|⟨c,e⟩
  ·rcases bw.mp e with z|z
   ·cases z
    right
    simp only[beq_self_eq_true,if_true,List.lookup_cons]
    exact⟨_,rfl⟩
   ·exact .inl z
  ·right
   by_cases hk:k= .free
   ·subst hk
    simp only[beq_self_eq_true,if_true,List.lookup_cons]
    cases hx:x==n with
    |true=>exact⟨_,rfl⟩
    |false=>exact⟨c,e⟩
   ·have hb:(k==NameKind.free)=false:=by simpa using hk
    simp only[hb,Bool.false_eq_true,if_false]
    exact⟨c,e⟩
theorem mN{env:Env}{x:Str}:∀{names:List (Str×NameKind)},(∀y∈names,y.2≠ .cell) ->
  ((names.map fun(n,k)=>if (k==NameKind.free&&env.scope.kind == .function&&env.kindOf n==some .cell) then (n,NameKind.cell) else (n,k)).lookup x=some .cell \/
   (names.map fun(n,k)=>if (k==NameKind.free&&env.scope.kind == .function&&env.kindOf n==some .cell) then (n,NameKind.cell) else (n,k)).lookup x=some .free)->(x,NameKind.free)∈names
 |[],_,h=>by simp at h
 |(n,k)::r,hc,h=>by
  have ih:= @mN env x r fun y hy=>hc y (ak _ hy)
  have hk:=hc (n,k) ao
  simp only[List.map_cons] at h
  by_cases cc:(k==NameKind.free&&env.scope.kind == .function&&env.kindOf n==some .cell)=true
  ·rw[br cc] at h
   have kf:k= .free:=by
    simp only[Bool.and_eq_true,beq_iff_eq] at cc
    exact cc.1.1
   subst kf
   simp only[List.lookup_cons] at h
   cases hx:x==n with
   |true =>
    have:x=n:=by simpa using hx
    subst this
    exact ao
   |false=>rw[hx] at h;exact ak _ (ih h)
  ·rw[ay cc] at h
   simp only[List.lookup_cons] at h
   cases hx:x==n with
   |true =>
    rw[hx] at h
    have:x=n:=by simpa using hx
    subst this
    rcases h with h|h
    ·simp only[Option.some.injEq] at h
     exact absurd h hk
    ·simp only[Option.some.injEq] at h
     subst h
     exact ao
   |false=>rw[hx] at h;exact ak _ (ih h)
abbrev aR0(ifs:List Expr)(env:Env):Sem Bool:=forIn ifs true fun c r =>
 if r=true then do
  let ok <-isTrue c env (eval c env)
  pure (ForInStep.yield ok)
 else pure (ForInStep.yield r)
def bH1(X:Cx)(ifs:List Expr)(t:TT):Prop:=
 ∀(pins:List (Addr×Obj)) (s:Shared) (σ:St) (H:Hp) (Q:Bool->Hp->Prop),aX X pins σ H s->t σ H Q ->
  wpAny (model X.prog X.w) X.A (aR0 ifs X.env) (TP X pins σ Q) X.xe s
def tYes:TT:=fun _ H Q=>Q true H
theorem eA{X:Cx}:bH1 X [] tYes:=fun _ _ _ H _ I h=>wpAny_tests_nil ⟨H,I,h⟩
theorem lW{X:Cx}{c:Expr}{t:TT}(h:PT X c t):bH1 X [c] t:=fun pins s σ H Q I q=>wpAny_tests_one (h pins s σ H Q I q)
abbrev aA0:Value->Shared->Prop:=fun _ _=>False
theorem aK9{prog:Program}{w:World}{A:Around}{R:Result->Shared->Prop}{s0:Shared}{elt target iter:Expr}{ifs:List Expr}{scope:Scope}{pos:Pos}{it acc:Value}{env:Env}(W:Nat->Shared->Prop)
  (one:∀k t,W k t->wpAny (model prog w) A (pyNext it) (fun r t1=>match r with
   |none=>R (.ok .next) t1
   |some v=>wpAny (model prog w) A (letOwnedTupleGo target it v) (fun _ t2=>wpAny (model prog w) A (assign target env v) (fun _ t3=>wpAny (model prog w) A (aR0 ifs env) (fun ok t4 =>
     if ok=true then wpAny (model prog w) A (eval elt env) (fun x t5=>wpAny (model prog w) A (call (.builtin "list.append") [acc,x]) (fun _ t6=>∃j,j<k/\W j t6) aA0 t5) aA0 t4
     else ∃j,j<k/\W j t4) aA0 t3) aA0 t2) aA0 t1) aA0 t)
  (k0:Nat) (h0:W k0 s0):codeAny (model prog w) A (.compLoop (.ListComp elt [⟨target,iter,ifs,0⟩] scope pos) 0 it acc env) R s0:=by
 refine codeAny_loop rfl W (fun k t hW=>?_) k0 h0
 refine wpAny_noted (m:=compTurn (.ListComp elt [⟨target,iter,ifs,0⟩] scope pos) 0 it acc env) ?_
 have no:∀{P:Prop}{e:Value}{t:Shared},aA0 e t->P:=fun z=>z.elim
 rw[compTurn_list]
 refine ag (wp (ag (fg (one k t hW) (fun r t1 q1=>?_) fun _ _=>no)))
 match r with
 |none=>exact bv q1
 |some v =>
  refine ag (fg q1 (fun _ t2 q2=>ag (fg q2 (fun _ t3 q3=>ag (fg q3 (fun ok t4 q4=>?_) fun _ _=>no)) fun _ _=>no)) fun _ _=>no)
  match ok with
  |false=>exact bv ⟨rfl,q4⟩
  |true =>
   rw[br rfl] at q4
   refine ag (ag (fg q4 (fun x t5 q5=>ag (fg q5 (fun _ t6 q6=>?_) fun _ _=>no)) fun _ _=>no))
   exact bv (bv ⟨rfl,q6⟩)
def xV(ix:List (Option Nat))(σ:St):St:=ix.map fun o=>o.bind fun j=>σ[j]?.join
theorem aQ5{ix:List (Option Nat)}{σ:St}{i:Nat}{v:V}(h:(xV ix σ)[i]?=some (some v)):∃j,ix[i]?=some (some j)/\σ[j]?=some (some v):=by
 unfold xV at h
 rw[di] at h
 cases e:ix[i]? with
 |none=>rw[e] at h;cases h
 |some o =>
  rw[e] at h
  cases o with
  |none=>cases h
  |some j =>
   have h:some (σ[j]?.join)=some (some v):=h
   refine⟨j,rfl,?_⟩
   cases q:σ[j]? with
   |none=>rw[q] at h;cases h
   |some z=>rw[q] at h;cases h;rfl
def wH(N:List Str)(sc scope:Scope)(N':List Str)(ix:List (Option Nat)):Bool:=
 ix.length==N'.length&&(ix.zip N').all (fun p=>match p.1 with|none=>true|some j=>N[j]? == some p.2&&scope.names.lookup p.2==some NameKind.free) &&
 scope.names.all (fun y=>y.2 != NameKind.cell&&(y.2 != NameKind.free || sc.names.lookup y.1==some NameKind.cell || sc.names.lookup y.1==some NameKind.free)&&(y.2 != NameKind.local || scope.names.lookup y.1==some NameKind.local)) &&
 scope.kind==ScopeKind.function
structure hX(N:List Str)(sc scope:Scope)(N':List Str)(ix:List (Option Nat)):Prop where
 len:ix.length=N'.length
 at_:∀(i j:Nat) (x:Str),ix[i]?=some (some j)->N'[i]?=some x->N[j]?=some x/\scope.names.lookup x=some .free
 nocell:∀y∈scope.names,y.2≠ .cell
 free:∀y∈scope.names,y.2= .free->sc.names.lookup y.1=some .cell\/sc.names.lookup y.1=some .free
 loc:∀y∈scope.names,y.2= .local->scope.names.lookup y.1=some .local
 kind:scope.kind= .function
theorem hX.of{N:List Str}{sc scope:Scope}{N':List Str}{ix:List (Option Nat)}(h:wH N sc scope N' ix=true):hX N sc scope N' ix:=by
 unfold wH at h
 simp only[Bool.and_eq_true,beq_iff_eq,List.all_eq_true] at h
 obtain⟨⟨⟨h1,h2⟩,h3⟩,h4⟩:=h
 refine⟨h1,fun i j x a b=>?_,fun y hy e=>?_,fun y hy e=>?_,fun y hy e=>?_,h4⟩
 ·have hm:(some j,x)∈ix.zip N':=bj (i:=i) (by rw[List.getElem?_zip_eq_some];exact⟨a,b⟩)
  have q:=h2 _ hm
  simp only[Bool.and_eq_true,beq_iff_eq] at q
  exact q
 ·have q:=h3 y hy
  simp only[Bool.and_eq_true,bne_iff_ne,ne_eq] at q
  exact q.1.1 e
 ·have q:=(h3 y hy).1.2
  rw[e] at q
  simpa using q
 ·have q:=(h3 y hy).2
  rw[e] at q
  simpa using q
def cK(X:Cx)(N':List Str)(scope:Scope)(C:Addr)(s₂:Shared)(H₂:Hp)(fp:List Addr):Cx where
 prog:=X.prog
 w:=X.w
 K:=X.K
 mg:=X.mg
 base:=X.base
 A:=X.A
 N:=N'
 s₀:=s₂
 H₀:=H₂
 env:=compEnvC scope (kB X.env scope.names) C X.env
 outer:=X.stack
 stack:=X.stack
 ex:=fp
 fn:=fun _=>false
 calm:=X.calm
 pn:=[]
 xe:=fun _ _=>False
section
variable {X:Cx}{N':List Str}{ix:List (Option Nat)}{scope:Scope}{pins:List (Addr×Obj)}{σ:St}{H₂:Hp}{s₂:Shared}{fp:List Addr}{C:Addr}
theorem hX.cells(S:hX X.N X.env.scope scope N' ix)(I:aX X pins σ H₂ s₂):∀y∈scope.names,y.2= .free->∃c,X.env.cells.lookup y.1=some c:=fun y hy e=>I.ok.has y.1 (S.free y hy e)
theorem hX.get(S:hX X.N X.env.scope scope N' ix)(I:aX X pins σ H₂ s₂){x:Str}{c:Addr}(h:(kB X.env scope.names).lookup x=some c):X.env.cells.lookup x=some c:=by
 rcases aB4 scope.names [] (S.cells I) h with q|q
 ·exact absurd q (by simp)
 ·exact q
theorem aL0(S:hX X.N X.env.scope scope N' ix)(I:aX X pins σ H₂ s₂)(hf:∀b∈fp,lO X pins H₂ b)(hC:s₂.heap.objs.size<=C)(hfC:∀b∈fp,b<s₂.heap.objs.size):(cK X N' scope C s₂ H₂ fp).Ok where
 mod:=I.ok.mod
 kind:=S.kind
 glob:=I.ok.glob
 blt:=I.ok.blt
 above:=hC
 inj:=fun x y c a b=>I.ok.inj x y c (S.get I a) (S.get I b)
 has:=fun x h=>rM scope.names [] (.inl (mN S.nocell h))
 cab:=fun x c h=>by cases h
 hd:=I.ok.hd
 frames:=I.ok.frames
 stk:= .inl rfl
 exf:=fun b hb=>⟨cp (cy (hfC b hb) hC),fun x c e=>(hf b hb).2.2.2.2.1 x c (S.get I e)⟩
 bs:=I.bs
 bsz:=cj I.ok.bsz I.sz
 noex:=fun b o e hb=>by
  rcases(hf b hb).2.2.2.1 with z|z
  ·exact I.ok.noex b o e z
  ·exact absurd (cy (ax e) (cj I.ok.bsz z)) (gx _)
 exfs:=fun b hb hm=>by
  rcases bw.mp (I.stkSub b hm) with z|z
  ·exact(hf b hb).2.1 z
  ·exact(hf b hb).2.2.1 z
 funs:=I.stack
 frf:=I.stkFree
theorem zX(S:hX X.N X.env.scope scope N' ix)(I:aX X pins σ H₂ s₂)(hf:∀b∈fp,lO X pins H₂ b)(hfC:∀b∈fp,b<s₂.heap.objs.size){D:Addr}{h₁:Heap}{tk:Nat}{m:Str->Option Value}{ob:Obj}
  (hC:s₂.heap.objs.size<=C) (hD:s₂.heap.objs.size<=D) (hDC:D≠C) (old:∀b o,s₂.heap.get? b=some o->h₁.get? b=some o) (hn:h₁.Ns C m) (hob:h₁.get? D=some ob) (hd:∀v,ob.data≠ .cell v) :
  aX (cK X N' scope C s₂ H₂ fp) [(D,ob)] (xV ix σ) H₂ { s₂ with heap:=h₁,toks:=tk }:=by
 have fr:∀a,s₂.heap.objs.size<=a->H₂ a=none:=fun a ha=>I.hok.fresh ha
 have cOf:∀x c,(kB X.env scope.names).lookup x=some c->X.env.cells.lookup x=some c:=fun x c e=>S.get I e
 refine⟨aL0 S I hf hC hfC,rfl,I.bare,Un.kept old,⟨m,hn,fun i x v e1 e2 e3=>?_⟩,fun x c e=>?_,fr C hC,fun x c e=>I.freeC x c (cOf x c e),fun p hp=>?_,I.hok.kept old,?_⟩
 ·obtain⟨j,q1,q2⟩:=aQ5 e2
  obtain⟨n1,n2⟩:=S.at_ i j x q1 e1
  have hm:(x,NameKind.free)∈scope.names:=ib n2
  have hv:Vis X.env.scope x:=by
   rcases S.free _ hm rfl with z|z
   ·exact .inr (.inl z)
   ·exact .inr (.inr z)
  obtain⟨m0,_,hl⟩:=I.loc
  obtain⟨u,r,l⟩:=hl j x v n1 q2 hv
  refine⟨u,r,?_⟩
  have hne:¬X.env.kindOf x=some .local:=fun z=>by
   have z:X.env.scope.names.lookup x=some .local:=z
   rcases S.free _ hm rfl with y|y
   ·rw[y] at z;cases z
   ·rw[y] at z;cases z
  rcases l with⟨k,_⟩|⟨k,c,e,z⟩
  ·exact absurd k hne
  ·obtain⟨c',hc'⟩:=rM (env:=X.env) (x:=x) scope.names [] (.inl hm)
   have hc'':=cOf x c' hc'
   rw[e] at hc''
   cases hc''
   have kk:(cK X N' scope C s₂ H₂ fp).env.kindOf x=some .cell\/(cK X N' scope C s₂ H₂ fp).env.kindOf x=some .free:=by
    rcases e3 with y|y|y
    ·exfalso
     have:∀{names:List (Str×NameKind)},names.lookup x=some .free ->
      (names.map fun(n,k)=>if (k==NameKind.free&&X.env.scope.kind == .function&&X.env.kindOf n==some .cell) then (n,NameKind.cell) else (n,k)).lookup x=some .local->False:=by
      intro names
      induction names with
      |nil=>intro a;simp at a
      |cons p r ih =>
       obtain⟨n,k⟩:=p
       intro a b
       simp only[List.map_cons] at b
       simp only[List.lookup_cons] at a
       cases hx:x==n with
       |true =>
        rw[hx] at a
        simp only[Option.some.injEq] at a
        subst a
        split at b
        ·simp[List.lookup_cons,hx] at b
        ·simp[List.lookup_cons,hx] at b
       |false =>
        rw[hx] at a
        split at b
        ·simp only[List.lookup_cons,hx] at b;exact ih a b
        ·simp only[List.lookup_cons,hx] at b;exact ih a b
     exact this n2 y
    ·exact .inl y
    ·exact .inr y
   obtain⟨oc,ho,hod⟩:=z
   exact .inr ⟨kk,c,hc',oc,old _ _ ho,hod⟩
 ·obtain⟨v,o,ho,hod⟩:=I.cell x c (cOf x c e)
  exact⟨v,o,old _ _ ho,hod⟩
 ·have hp:p∈[(D,ob)]:=hp
  have e:p=(D,ob):=by simpa using hp
  subst e
  refine⟨hob,fr D hD,hDC,fun hb=>?_,hd⟩
  have hb:D∈uW X.stack:=hb
  rcases bw.mp (I.stkSub D hb) with z|z
  ·exact absurd I.lt (by rw[<-z];exact ki.mpr hD)
  ·exact I.nofs hD z
 ·show(xV ix σ).length=N'.length
  unfold xV
  rw[aa,S.len]
theorem aC9(I:aX X pins σ H₂ s₂)(hf:∀b∈fp,lO X pins H₂ b){pins':List (Addr×Obj)}{σ':St}{H':Hp}{s':Shared}{D:Addr}{ys:List V}{its:List Value}(hC:s₂.heap.objs.size<=C)(hD:s₂.heap.objs.size<=D)
  (J:aX (cK X N' scope C s₂ H₂ fp) pins' σ' H' s') (hn:H' D=none) (hl:s'.heap.PlainList D its.toArray) (r:bH ys its) (hz:ys.length<=sizeLine):aX X pins σ (aL H' D (.lst ys)) s':=by
 have sb:Un (uW X.stack) fp H₂ H' s₂.heap s'.heap:=J.base
 have nD:∀b u,H' b=some u->b≠D:=fun b u e=>aJ e hn
 refine I.call' (ch:=fp) J.os ⟨sb.keep,sb.slot,fun b o e n hx=>?_,sb.there,fun b xs e=>?_,fun b o u e=>?_,fun b ps e=>?_⟩ (fun b u e=>?_) J.bare (fun b hb=>?_)
 ·rw[aG (cp (cy (ax e) hD))]
  exact sb.free b o e n hx
 ·have q:=sb.tups b xs e
  rw[aG (nD b _ q)];exact q
 ·have q:=sb.frzs b o u e
  rw[aG (nD b _ q)];exact q
 ·obtain⟨more,q⟩:=sb.tbls b ps e
  exact⟨more,by rw[aG (nD b _ q)];exact q⟩
 ·by_cases hb:b=D
  ·subst hb
   rw[aB] at e
   cases e
   obtain⟨n,hg⟩:=hl
   exact⟨hz,its,n,r,hg⟩
  ·rw[aG hb] at e
   exact(J.hok b u e).stay (fun c v _ q=>q) (fun c q=>by rw[aG (nD c _ q)];exact q) fun c xs q=>by rw[aG (nD c _ q)];exact q
 ·obtain⟨_,f1,_,f3,f4,f5⟩:=hf b hb
  exact⟨f3,f1,f4,f5⟩
end
def rG(J:It)(g:TG)(tc:TT)(te:TE)(Kf:List V->Hp->Prop)(σ0:St)(H1:Hp):Prop:=
 ∃W:Nat->Nat->List V->St->Hp->Prop,(∃m,W 0 m [] σ0 H1)/\∀i m ys σ' H',W i m ys σ' H'->ys.length<sizeLine /\
  ((J.stop i H'/\Kf ys H')\/(J.go i H'/\∃N:List V->St->Hp->Prop,(∀ys' σ2 H2,N ys' σ2 H2->∃m',m'<m/\W (i+1) m' ys' σ2 H2)/\∀x H'',J.yld i H' x H''->g x σ' H'' fun σ2 H2=>tc σ2 H2 fun b H3 =>
   if b=true then te σ2 H3 fun y H4=>N (ys++[y]) σ2 H4 else N ys σ2 H3))
def aY2(wi:TI)(ix:List (Option Nat))(g:TG)(tc:TT)(te:TE):TE:=fun σ H Q =>
 wi σ H fun J H1=>rG J g tc te (fun ys H'=>∀l,H' l=none->Q (.ref l) (aL H' l (.lst ys))) (xV ix σ) H1
section
variable {X:Cx}{tg elt iter:Expr}{ifs:List Expr}{scope:Scope}{pos:Pos}{N':List Str}{ix:List (Option Nat)}{wi:TI}{g:TG}{tc:TT}{te:TE}
def bL2(X:Cx)(pins:List (Addr×Obj))(σ:St)(Kf:List V->Hp->Prop)(acc:Value)(C:Addr)(s':Shared):Prop:=
 ∃D H' ys,acc= .ref D/\H' D=none/\aX X pins σ (aL H' D (.lst ys)) s'/\(∃m,s'.heap.Ns C m)/\H' C=none/\D≠C/\C≠X.env.locals/\X.s₀.heap.objs.size<=C/\(∀x c,X.env.cells.lookup x=some c->c≠C)/\(∀p∈X.pn++pins,p.1≠C)/\Kf ys H'
theorem uD{pins:List (Addr×Obj)}{s₂:Shared}{σ:St}{H₂:Hp}{it:Addr}{fp:List Addr}{tn:Nat->Heap->Prop}{J:It}{Kf:List V->Hp->Prop}{RR:Value->Addr->Result->Shared->Prop}{E:Value->Shared->Prop}
  (S:hX X.N X.env.scope scope N' ix) (hc:X.calm=true)
  (hg:∀C s₂ H₂ fp,PG (cK X N' scope C s₂ H₂ fp) tg g) (ht:∀C s₂ H₂ fp,bH1 (cK X N' scope C s₂ H₂ fp) ifs tc) (he:∀C s₂ H₂ fp,PE (cK X N' scope C s₂ H₂ fp) elt te)
  (I2:aX X pins σ H₂ s₂) (T:yO X.prog X.w X.K tg J fp it tn) (st2:tn 0 s₂.heap) (f2:∀b∈fp,lO X pins H₂ b) (w:rG J g tc te Kf (xV ix σ) H₂)
  (hR:∀acc C s',bL2 X pins σ Kf acc C s'->RR acc C (.ok .next) s') :
  wpAny (model X.prog X.w) X.A (newList []) (fun acc s₃=>wpAny (model X.prog X.w) X.A (newFunctionEnv scope X.env.globals (kB X.env scope.names) [] X.env.qual none .none (some X.env)) (fun cenv s₄ =>
   codeAny (model X.prog X.w) X.A (.compStart (.ListComp elt [⟨tg,iter,ifs,0⟩] scope pos) 0 (.ref it) acc { cenv with scope:=relabel scope X.env }) (RR acc cenv.locals) s₄) E s₃) E s₂:=by
 obtain⟨W,⟨m0,w0⟩,turn⟩:=w
 refine iu (we S.nocell (by intro y hy;simp at hy) (fun h₁ nsN sbN=>?_) S.kind)
 dsimp only at nsN sbN ⊢
 generalize eH:s₂.heap.push { cls:= .type "list",dict:=none,data:= .seq ([]:List Value).toArray }=G2 at nsN sbN ⊢
 have sizeC:G2.objs.size=s₂.heap.objs.size+1:=by rw[<-eH,ju]
 have neDC:s₂.heap.objs.size≠G2.objs.size:=by rw[sizeC];exact cp (ia _)
 have leC:s₂.heap.objs.size<=G2.objs.size:=by rw[sizeC];exact iq _
 have older:∀b,b<s₂.heap.objs.size->b≠G2.objs.size/\b≠s₂.heap.objs.size:=fun b hb=>⟨by rw[sizeC];exact cp (md hb),cp hb⟩
 have keepOld:∀b o,s₂.heap.get? b=some o->h₁.get? b=some o:=fun b o e=>sbN.extBut b o (older b (ax e)).1 (ac _ (eH ▸ ac _ e))
 have accNew:h₁.PlainList s₂.heap.objs.size #[]:=⟨_,sbN.extBut _ _ neDC (ac _ (eH ▸ bz _ rfl))⟩
 generalize eC:G2.objs.size=C at *
 generalize eD:s₂.heap.objs.size=D at *
 have hfC:∀b∈fp,b<s₂.heap.objs.size:=fun b hb=>by
  obtain⟨o,e,_⟩:=T.obj 0 _ st2 b hb
  exact ax e
 have hfD:∀b∈fp,b≠D:=fun b hb=>by have:=hfC b hb;rw[eD] at this;exact cp this
 have hfC':∀b∈fp,b≠C:=fun b hb=>by have:=hfC b hb;rw[eD] at this;exact cp (cy this leC)
 have geD:s₂.heap.objs.size<=D:=by rw[eD];exact af _
 have geC:s₂.heap.objs.size<=C:=by rw[eD];exact leC
 obtain⟨nn,hob⟩:=id accNew
 have J1:aX (cK X N' scope C s₂ H₂ fp) [] (xV ix σ) H₂ { s₂ with heap:=h₁,toks:=s₂.toks+([]:List (Str×Value)).length }:=
  (zX S I2 f2 hfC geC geD neDC keepOld nsN hob (fun v z=>by cases z)).pins_of (fun p hp=>absurd hp (by simp))
 have nfsD:D∉uW X.stack:=fun hb=>by
  rcases bw.mp (I2.stkSub D hb) with z|z
  ·exact absurd I2.lt (by rw[<-z];exact ki.mpr geD)
  ·exact I2.nofs geD z
 have cOf:∀x c,(kB X.env scope.names).lookup x=some c->c≠D/\c≠C:=fun x c e=>by
  obtain⟨v,z⟩:=I2.cell x c (S.get I2 e)
  have:=z.lt
  rw[eD] at this
  exact⟨cp this,cp (cy this leC)⟩
 have fpk:∀{pl:List (Addr×Obj)}{H':Hp},(∀b∈fp,H' b=none)->(∀p∈pl,p.1∉fp)->∀b∈fp,lO (cK X N' scope C s₂ H₂ fp) pl H' b:=fun {pl H'} hn hp b hb =>
  ⟨hn b hb,hfC' b hb,fun z=>by
    rcases bw.mp (I2.stkSub b z) with q|q
    ·exact(f2 b hb).2.1 q
    ·exact(f2 b hb).2.2.1 q,
   .inl hb,fun x c e=>(f2 b hb).2.2.2.2.1 x c (S.get I2 e),fun p hp' z=>hp p (by simpa [cK] using hp') (by rw[z];exact hb)⟩
 have dpk:∀{H':Hp},H' D=none->∀b∈[D],lO (cK X N' scope C s₂ H₂ fp) [] H' b:=fun {H'} hn b hb=>by
  have e:b=D:=by simpa using hb
  subst e
  exact⟨hn,neDC,nfsD,.inr geD,fun x c e=>(cOf x c e).1,fun p hp=>absurd hp (by simp[cK])⟩
 have loop:codeAny (model X.prog X.w) X.A (.compLoop (.ListComp elt [⟨tg,iter,ifs,0⟩] scope pos) 0 (.ref it) (.ref D) (compEnvC scope (kB X.env scope.names) C X.env)) (RR (.ref D) C) { s₂ with heap:=h₁,toks:=s₂.toks+([]:List (Str×Value)).length }:=by
  refine aK9 (fun n s'=>∃i ys σ' H' its,aX (cK X N' scope C s₂ H₂ fp) [] σ' H' s'/\tn i s'.heap/\(∀b∈fp,H' b=none)/\H' D=none/\s'.heap.PlainList D its.toArray/\bH ys its/\W i n ys σ' H') ?_ m0
   ⟨0,[],_,H₂,[],J1,T.keep _ _ _ st2 fun b _ o e=>keepOld b o e,fun b hb=>(f2 b hb).1,I2.hok.fresh geD,accNew,.nil,w0⟩
  rintro n s3 ⟨i,ys,σ3,H3,its,I3,st3,fr3,dn3,pl3,rv3,w3⟩
  obtain⟨nn3,hob3⟩:=id pl3
  have oD:∀b∈[D],∃o,s3.heap.get? b=some o/\∀v,o.data≠ .cell v:=fun b hb=>by
   have e:b=D:=by simpa using hb
   subst e
   exact⟨_,hob3,fun v z=>by cases z⟩
  have I3':aX (cK X N' scope C s₂ H₂ fp) (gY [D] s3.heap) σ3 H3 s3:=by
   have:=I3.pinned (dpk dn3) oD
   simpa using this
  have pD:(D,({ cls:= .type "list",data:= .seq its.toArray nn3 }:Obj))∈gY [D] s3.heap:=hZ (by simp) hob3
  have npD:∀p∈gY [D] s3.heap,p.1∉fp:=fun p hp z=>by
   have e:p.1=D:=by simpa using (tL hp).1
   exact hfD _ z e
  obtain⟨hys,tt⟩:=turn i n ys σ3 H3 w3
  rcases tt with⟨stop,qn⟩|⟨go,N,hN,step⟩
  ·refine fg (T.done (cK X N' scope C s₂ H₂ fp) rfl rfl rfl hc i (gY [D] s3.heap) s3 σ3 H3 (fun _ _=>False) I3' (fpk fr3 npD) st3 stop) (fun r s4 ⟨hr,I4⟩=>?_) fun _ _ z=>z
   subst hr
   have g4:=(I4.pin _ (be _ pD)).1
   refine hR _ _ _ ⟨D,H3,ys,rfl,dn3,aC9 I2 f2 geC geD I4 dn3 ⟨nn3,g4⟩ rv3 (cu hys),?_,?_,neDC,?_,?_,?_,?_,qn⟩
   ·obtain⟨m,hm,_⟩:=I4.loc
    exact⟨m,hm⟩
   ·exact I4.free
   ·exact dv (cy I2.lt geC)
   ·exact cj I2.sz geC
   ·intro x c e z
    obtain⟨v,q⟩:=I2.cell x c e
    exact absurd (cy q.lt geC) (by rw[z];exact gx _)
   ·intro p hp z
    exact absurd (cy (ax (I2.pin p hp).1) geC) (by rw[z];exact gx _)
  ·refine fg (T.item (cK X N' scope C s₂ H₂ fp) rfl rfl rfl hc i (gY [D] s3.heap) s3 σ3 H3 (fun _ _=>False) I3' (fpk fr3 npD) st3 go) (fun r s4 ⟨u,hr,h4⟩=>?_) fun _ _ z=>z
   subst hr
   refine fg h4 (?_) fun _ _ z=>z;rintro _ s5 ⟨x,H5,I5,r5,y5,st5,fr5⟩
   have I5':=I5.pinned (fpk fr5 npD) (T.obj _ _ st5)
   refine fg (hg C s₂ H₂ fp _ s5 σ3 H5 x u _ I5' r5 (step x H5 y5)) (?_) fun _ _ z=>z;rintro _ s6 ⟨σ6,H6,I6,q6⟩
   refine fg (ht C s₂ H₂ fp _ s6 σ6 H6 _ I6 q6) (?_) fun _ _ z=>z;rintro b s7 ⟨H7,I7,q7⟩
   have fin:∀{s8:Shared}{σ8:St}{H8:Hp},aX (cK X N' scope C s₂ H₂ fp) (gY [D] s3.heap++gY fp s5.heap) σ8 H8 s8->s8.heap.get? D=some { cls:= .type "list",data:= .seq its.toArray nn3 }/\H8 D=none /\
     tn (i+1) s8.heap/\∀b∈fp,H8 b=none:=fun {s8 σ8 H8} I8=>by
    have q:=I8.pin _ (be _ (cg _ pD))
    refine⟨q.1,q.2.1,T.keep _ _ _ st5 fun b hb o e=>(I8.pin (b,o) (be _ (be _ (hZ hb e)))).1,fun b hb=>?_⟩
    obtain⟨o,e,d⟩:=T.obj _ _ st5 b hb
    exact(I8.pin (b,o) (be _ (be _ (hZ hb e)))).2.1
   cases b with
   |false =>
    obtain⟨m',hm,w7⟩:=hN _ _ _ q7
    obtain⟨a1,a2,a3,a4⟩:=fin I7
    exact⟨m',hm,i+1,ys,σ6,H7,its,I7.pins_of fun p hp=>absurd hp (by simp),a3,a4,a2,⟨nn3,a1⟩,rv3,w7⟩
   |true =>
    refine fg (he C s₂ H₂ fp _ s7 σ6 H7 _ I7 q7) (?_) fun _ _ z=>z;rintro v s8 ⟨y,H8,I8,r8,n8⟩
    obtain⟨m',hm,w8⟩:=hN _ _ _ n8
    obtain⟨a1,a2,a3,a4⟩:=fin I8
    have hsz:its.toArray.size<=sizeLine:=by
     have:=rv3.length
     rw[bq]
     lia
    refine wpAny_list_append_plain (hsz:=hsz) ⟨nn3,a1⟩ fun h9 hl9 hs9=>?_
    have I9:aX (cK X N' scope C s₂ H₂ fp) [] σ6 H8 { s8 with heap:=h9 }:=
     (I8.pins_of (pins':=[]) fun p hp=>absurd hp (by simp)).turned (t':=s8.toks) (fun b o hb e=>(hs9.2 b hb).trans e) a2 neDC (.inr geD) (fun x c e=>(cOf x c e).1) fun p hp=>absurd hp (by simp[cK])
    refine⟨m',hm,i+1,ys++[y],σ6,H8,its++[v],I9,T.keep _ _ _ a3 fun b hb o e=>(hs9.2 b (hfD b hb)).trans e,a4,a2,?_,rv3.append (.cons r8 .nil),w8⟩
    have e:(its++[v]).toArray=its.toArray.push v:=by simp
    rw[e];exact hl9
 exact codeAny_compStart_list loop (T.self _ 0 _ _ _ (T.keep _ _ _ st2 fun b _ o e=>keepOld b o e) loop)
theorem cH(N':List Str)(ix:List (Option Nat))(hi:PI X tg iter wi)(hg:∀C s₂ H₂ fp,PG (cK X N' scope C s₂ H₂ fp) tg g)(ht:∀C s₂ H₂ fp,bH1 (cK X N' scope C s₂ H₂ fp) ifs tc)
  (he:∀C s₂ H₂ fp,PE (cK X N' scope C s₂ H₂ fp) elt te) (S:autoParam (wH X.N X.env.scope scope N' ix=true) Rq0._auto_1) (hc:autoParam (X.calm=true) Rq0._auto_1) (hs:autoParam (∀x,foldedSetIterable iter X.env x=pure x) Rq4._auto_1) :
  PE X (.ListComp elt [⟨tg,iter,ifs,0⟩] scope pos) (aY2 wi ix g tc te):=by
 intro pins s σ H Q I h
 have S:=hX.of S
 rw[eval_ListComp]
 refine uc (use:=none) (cl:=kB X.env scope.names) rfl hs (mB fun y hy e=>I.ok.has y.1 (S.free y hy e)) S.kind S.loc (cO (hi pins s σ H _ I h) fun xv s₁ h₁=>cO h₁ fun itv s₂ h₂=>?_)
 obtain⟨it,fp,tn,J,H₂,rfl,I2,T,st2,f2,w⟩:=h₂
 refine uD (RR:=fun acc C=>compPost (model X.prog X.w) X.A X.xe none (EP X pins σ Q) acc C) S hc hg ht he I2 T st2 f2 w fun acc C s' ce=>?_
 obtain⟨D,H',ys,rfl,dn,J',hm,cn,dc,c1,c2,c3,c4,kf⟩:=ce
 obtain⟨m,hm⟩:=hm
 refine⟨m,hm,fun h' hs'=>⟨.ref D,_,J'.turned (t':=s'.toks) (fun b o hb e=>(hs'.2 b hb).trans e) (by rw[aG dc.symm];exact cn) c1 (.inr c2) c3 c4,rfl,kf D dn⟩⟩
theorem aI0(N':List Str)(ix:List (Option Nat)){i:Nat}{x:Str}{pos' spos:Pos}(hN:X.N.Nodup)(hxi:X.N[i]?=some x)(hx:Loc X.env.scope x)(hi:PI X tg iter wi)(hg:∀C s₂ H₂ fp,PG (cK X N' scope C s₂ H₂ fp) tg g)(ht:∀C s₂ H₂ fp,bH1 (cK X N' scope C s₂ H₂ fp) ifs tc)
  (he:∀C s₂ H₂ fp,PE (cK X N' scope C s₂ H₂ fp) elt te) (S:autoParam (wH X.N X.env.scope scope N' ix=true) Rq0._auto_1) (hc:autoParam (X.calm=true) Rq0._auto_1) (hs:autoParam (∀x,foldedSetIterable iter X.env x=pure x) Rq4._auto_1)
  (hsw:autoParam (swapsWith (.ListComp elt [⟨tg,iter,ifs,0⟩] scope pos) (some (.Name x pos')) spos.line X.env=pure true) Rq0._auto_1) (hf:autoParam (X.fn x=true\/X.env.scope.names.lookup x=some .local) Rq2._auto_1) :
  PS X (.Assign [.Name x pos'] (.ListComp elt [⟨tg,iter,ifs,0⟩] scope pos) spos) (bA3 (aY2 wi ix g tc te) (rQ i)):=by
 intro pins s σ H D I h
 have S:=hX.of S
 rw[exec_Assign_Name_used _ _ _ _ hsw]
 refine ag (wp (ag ?_))
 show wpAny _ X.A (do let _ <-comprehension (.ListComp elt [⟨tg,iter,ifs,0⟩] scope pos) scope X.env _ (newList []) false (eval iter X.env) (some (assign (.Name x pos') X.env))) _ _ s
 refine ag (fg (uc (use:=some (assign (.Name x pos') X.env)) (cl:=kB X.env scope.names) (Q:=fun _ s'=>SP X pins D .next s') rfl hs (mB fun y hy e=>I.ok.has y.1 (S.free y hy e)) S.kind S.loc
  (cO (hi pins s σ H _ I h) fun xv s₁ h₁=>cO h₁ fun itv s₂ h₂=>?_)) (fun _ s' hq=>bv (bv hq)) fun _ _ e=>e)
 obtain⟨it,fp,tn,J,H₂,rfl,I2,T,st2,f2,w⟩:=h₂
 refine uD (RR:=fun acc C=>compPost (model X.prog X.w) X.A X.xe (some (assign (.Name x pos') X.env)) (fun _ s'=>SP X pins D .next s') acc C) S hc hg ht he I2 T st2 f2 w fun acc C s' ce=>?_
 obtain⟨D',H',ys,rfl,dn,J',hm,cn,dc,c1,c2,c3,c4,kf⟩:=ce
 obtain⟨m,hm⟩:=hm
 show wpAny _ X.A (assign (.Name x pos') X.env (.ref D')) _ _ _
 refine ya (uI (v:= .ref D') J' hN hxi hx rfl (fun s2 J2 hsb=>?_) hf)
 obtain⟨a,hsb,ha⟩:=hsb
 have hCa:C≠a:=by
  rcases ha with z|z
  ·rw[z];exact c1
  ·exact(c3 x a z).symm
 refine⟨m,hm.sameBut hsb hCa,fun h' hs'=>?_⟩
 exact⟨_,_,J2.turned (t':=s2.toks) (fun b o hb e=>(hs'.2 b hb).trans e) (by rw[aG dc.symm];exact cn) c1 (.inr c2) c3 c4,kf D' dn⟩
theorem cS{K:PySem.W.Frag}{a:Addr}{xs:List V}{Kf:List V->Hp->Prop}{σ0:St}{H1:Hp}(Pv:Nat->List V->St->Hp->Prop)(hz:xs.length<sizeLine)(h0:Pv 0 [] σ0 H1)(hb:∀i ys σ H,Pv i ys σ H->ys.length<=i)(hl:∀i ys σ H,i<=xs.length->Pv i ys σ H->bA K H a xs)
  (hs:∀i x ys σ H,xs[i]?=some x->Pv i ys σ H->g x σ H fun σ2 H2=>tc σ2 H2 fun b H3=>if b=true then te σ2 H3 fun y H4=>Pv (i+1) (ys++[y]) σ2 H4 else Pv (i+1) ys σ2 H3) (hd:∀ys σ H,Pv xs.length ys σ H->Kf ys H):rG (Itl K a) g tc te Kf σ0 H1:=by
 refine⟨fun i m ys σ H=>m=xs.length-i/\i<=xs.length/\Pv i ys σ H,⟨xs.length,by simp,az _,h0⟩,?_⟩
 rintro i m ys σ H ⟨rfl,hi,p⟩
 have q:=hl i ys σ H hi p
 refine⟨cx (hb _ _ _ _ p) (cx hi hz),?_⟩
 by_cases hlt:i<xs.length
 ·refine .inr ⟨⟨xs,xs[i],q,by simp[hlt]⟩,Pv (i+1),fun ys' σ' H' p'=>⟨xs.length-(i+1),iw hlt (ia i),rfl,hlt,p'⟩,fun x H' y=>?_⟩
  obtain⟨e,y⟩:=y
  subst e
  exact hs i x ys σ _ (y xs q) p
 ·have e:i=xs.length:=by lia
  subst e
  exact .inl ⟨⟨xs,q,af _⟩,hd ys σ H p⟩
theorem yJ{K:PySem.W.Frag}{a:Addr}{xs:List V}{Kf:List V->Hp->Prop}{σ0:St}{H1:Hp}(Pv:Nat->List V->St->Hp->Prop)(hz:xs.length<sizeLine)(h0:Pv 0 [] σ0 H1)(hb:∀i ys σ H,Pv i ys σ H->ys.length<=i)(hl:∀i ys σ H,i<=xs.length->Pv i ys σ H->aQ K H a xs)
  (hs:∀i x ys σ H,xs[i]?=some x->Pv i ys σ H->g x σ H fun σ2 H2=>tc σ2 H2 fun b H3=>if b=true then te σ2 H3 fun y H4=>Pv (i+1) (ys++[y]) σ2 H4 else Pv (i+1) ys σ2 H3) (hd:∀ys σ H,Pv xs.length ys σ H->Kf ys H):rG (Itt K a) g tc te Kf σ0 H1:=by
 refine⟨fun i m ys σ H=>m=xs.length-i/\i<=xs.length/\Pv i ys σ H,⟨xs.length,by simp,az _,h0⟩,?_⟩
 rintro i m ys σ H ⟨rfl,hi,p⟩
 have q:=hl i ys σ H hi p
 refine⟨cx (hb _ _ _ _ p) (cx hi hz),?_⟩
 by_cases hlt:i<xs.length
 ·refine .inr ⟨⟨xs,xs[i],q,by simp[hlt]⟩,Pv (i+1),fun ys' σ' H' p'=>⟨xs.length-(i+1),iw hlt (ia i),rfl,hlt,p'⟩,fun x H' y=>?_⟩
  obtain⟨e,y⟩:=y
  subst e
  exact hs i x ys σ _ (y xs q) p
 ·have e:i=xs.length:=by lia
  subst e
  exact .inl ⟨⟨xs,q,af _⟩,hd ys σ H p⟩
theorem fU{lo:Int}{n:Nat}{Kf:List V->Hp->Prop}{σ0:St}{H1:Hp}(Pv:Nat->List V->St->Hp->Prop)(hz:n<sizeLine)(h0:Pv 0 [] σ0 H1)(hb:∀i ys σ H,Pv i ys σ H->ys.length<=i)
  (hs:∀i ys σ H,i<n->Pv i ys σ H->g (.int (lo+i)) σ H fun σ2 H2=>tc σ2 H2 fun b H3=>if b=true then te σ2 H3 fun y H4=>Pv (i+1) (ys++[y]) σ2 H4 else Pv (i+1) ys σ2 H3) (hd:∀ys σ H,Pv n ys σ H->Kf ys H):rG (Itr lo n) g tc te Kf σ0 H1:=by
 refine⟨fun i m ys σ H=>m=n-i/\i<=n/\Pv i ys σ H,⟨n,by simp,az _,h0⟩,?_⟩
 rintro i m ys σ H ⟨rfl,hi,p⟩
 refine⟨cx (hb _ _ _ _ p) (cx hi hz),?_⟩
 by_cases hlt:i<n
 ·refine .inr ⟨hlt,Pv (i+1),fun ys' σ' H' p'=>⟨n-(i+1),iw hlt (ia i),rfl,hlt,p'⟩,fun x H' y=>?_⟩
  obtain⟨e,y⟩:=y
  subst e y
  exact hs i ys σ _ hlt p
 ·have e:i=n:=by lia
  subst e
  exact .inl ⟨af _,hd ys σ H p⟩
end
theorem bB1:typeLookup (.type "list_reverseiterator") "__len__"=pure none:=by rw[qt,mh];kernel_rfl
theorem bJ2:typeLookup (.type "list_reverseiterator") "__length_hint__"=pure (some (.builtin "list_reverseiterator.__length_hint__")):=by rw[qt,mh];kernel_rfl
abbrev newL:Obj:={ cls:= .type "list",data:= .seq #[] }
section
variable {prog:Program}{w:World}{A:Around}{E:Value->Shared->Prop}{Q:Value->Shared->Prop}{s:Shared}{it p:Addr}{items:Array Value}
theorem wY(hh:A.handled=none)(ne:p≠it)(hi:s.heap.IsRevIter it p ((items.size:Int)-1))(hp:s.heap.IsList p items)(hz:items.size<=sizeLine)
  (k:∀t got c,(∀b o,b≠it->s.heap.get? b=some o->t.heap.get? b=some o)->t.gens=s.gens->t.os=s.os ->
   t.heap.get? s.heap.objs.size=some { cls:= .type "list",dict:=none,data:= .seq got c,slots:= #[] }->got.toList=items.toList.reverse->Q (.ref s.heap.objs.size) t) :
  wpAny (model prog w) A (call (.type "list") [.ref it]) Q E s:=by
 let W:=(wu (prog:=prog) (w:=w) (A:=A.in1.in1) hh it p ne items).toS
 have st0:0<=items.size/\s.heap.IsRevIter it p ((items.size:Int)-1-((0:Nat):Int))/\s.heap.IsList p items:=⟨az _,by simpa using hi,hp⟩
 have itLt:it<s.heap.objs.size:=by
  obtain⟨o,e,_⟩:=hi
  exact ax e
 have pLt:p<s.heap.objs.size:=by
  obtain⟨o,e,_⟩:=hp
  exact ax e
 have fresh:s.heap.objs.size∉[it,p]:=fun m=>by
  rcases bw.mp m with z|z
  ·exact gx _ (z ▸ itLt)
  ·exact gx _ ((au.mp z) ▸ pLt)
 have neS:s.heap.objs.size≠it:=fun z=>fresh (by rw[z];exact ao)
 refine callType_codes (Q₁:=fun o t=>o= .ref s.heap.objs.size/\t={ s with heap:=s.heap.push newL }) F.called_list (yg _) yh (code_list_new _ ⟨rfl,rfl⟩) ?_
 rintro _ _ ⟨rfl,rfl⟩
 have hS:(s.heap.push newL).get? s.heap.objs.size=some newL:=bz _ rfl
 refine⟨⟨_,hS,rfl⟩,xi _ _,?_⟩
 refine ag (m:=Builtin.List.listItems (.ref s.heap.objs.size)) (ag (mi hS rfl (bv ?_)))
 refine ag (m:=updateSeq s.heap.objs.size fun _=> #[]) (nt hS rfl (ag (wpAny_letGo ?_)))
 have hS2:=iz (Obj.mapSeq fun _=>(#[]:Array Value)) hS rfl
 have older:∀b o,s.heap.get? b=some o->((s.heap.push newL).update s.heap.objs.size (Obj.mapSeq fun _=>(#[]:Array Value))).get? b=some o:=fun b o e =>
  (ip _ _ (dv (ax e))).trans (ac _ e)
 have st1:=W.frame 0 s ((s.heap.push newL).update s.heap.objs.size (Obj.mapSeq fun _=>(#[]:Array Value))) s.toks st0 (af _) fun b _ o e=>older b o e
 have ty:∀i t,(fun(i:Nat) (t:Shared)=>i<=items.size/\t.heap.IsRevIter it p ((items.size:Int)-1-(i:Int))/\t.heap.IsList p items) i t->t.TypeIs (.ref it) "list_reverseiterator":=fun i t z=>z.2.1.typeIs
 unfold Builtin.List.listExtendWith
 refine ag (xg (ty 0 _ st1) ?_)
 have same:Builtin.List.listSameRef (.ref s.heap.objs.size) (.ref it)=false:=by simp[Builtin.List.listSameRef,neS]
 rw[ay (by rw[same];decide)]
 refine ag (W.self 0 _ _ _ st1 (ag (jr ?_)))
 unfold Builtin.List.listLengthHint
 refine ag (nr (ty 0 _ st1) bB1 ?_)
 refine ag (m:=specialOf (Value.ref it) (Str.ofString "__length_hint__")) (nr (ty 0 _ st1) bJ2 ?_)
 generalize hid:("list_reverseiterator.__length_hint__": String)=id0
 wp_delta
 rw[show splitId id0=some ("list_reverseiterator","__length_hint__") from by subst hid;decide]
 subst hid
 refine ag (yq (b:=true) (ty 0 _ st1) (by rw[vn];kernel_rfl) (bv ?_))
 rw[ay (by decide)]
 refine bv ⟨pi F.plain_extend_loop _,codeAny_extend_loopS W hz _ fresh _ items.size 0 _ _ _ rfl (az _) st1 hS2 (ItemsOf.nil _) fun t got c mv at' its=>⟨rfl,?_⟩⟩
 refine k t got c (fun b o hb e=>mv.heap b o (fun m=>?_) (older b o e)) mv.gens mv.os at' ?_
 ·rcases bw.mp m with z|z
  ·exact absurd (ax e) (by rw[z];exact gx _)
  ·exact hb (au.mp z)
 ·obtain⟨len,each⟩:=its
  refine List.ext_getElem? fun j=>?_
  by_cases hj:j<items.size
  ·have g:got[j]?=some got[j]:=nu (by lia)
   rw[vo (by simpa using hj),mf,mf,g, <-each j _ g]
   simp
  ·rw[qg (by simp;lia),qg (by simp;lia)]
end
def bG4(K:PySem.W.Frag)(te:TE):TE:=fun σ H Q=>te σ H fun x H1=>∃a ys,x= .ref a/\bA K H1 a ys/\∀l,H1 l=none->Q (.ref l) (aL H1 l (.lst ys.reverse))
theorem qY{X:Cx}{e:Expr}{te:TE}{p1 p2 pos1 pos2:Pos}(he:PE X e te)(g1:Gl X "list")(m1:X.mg "list"=none)(g2:Gl X "reversed")(m2:X.mg "reversed"=none)(hc:autoParam (X.calm=true) Rq0._auto_1)
  (hs1:autoParam (starEach [.Call (.Name "reversed" p2) [e] [] pos2] X.env=[(false,eval (.Call (.Name "reversed" p2) [e] [] pos2) X.env)]) Rq0._auto_1) (hs2:autoParam (starEach [e] X.env=[(false,eval e X.env)]) Rq0._auto_1) :
  PE X (.Call (.Name "list" p1) [.Call (.Name "reversed" p2) [e] [] pos2] [] pos1) (bG4 X.K te):=by
 intro pins s σ H Q I h
 refine gm (iS I g1 m1 ph ?_)
 refine fm ?_ hs1 rfl
 rw[hs1]
 refine ik (gm (iS I g2 m2 sq ?_))
 refine fm ?_ hs2 rfl
 rw[hs2]
 refine ik (cO (he pins s σ H _ I h) ?_);rintro u s1 ⟨x,H1,I1,r1,a,ys,ex,hq,q⟩;refine jq ?_
 subst ex
 cases r1
 obtain⟨its,rv,pl,hz⟩:=I1.list hq
 have il:=pl.isList
 refine xj il (jq ?_)
 have I2:aX X pins σ H1 { s1 with heap:=s1.heap.push (revObj a ((its.toArray.size:Int)-1)) }:=I1.kept (t':=s1.toks) fun b o e=>ac _ e
 have aLt:a<s1.heap.objs.size:=by
  obtain⟨o,e,_⟩:=il
  exact ax e
 have len:=rv.length
 obtain⟨f0,f1,f2,f3,f4,f5⟩:lO X pins H1 s1.heap.objs.size:=I1.fpOk (af _) (I1.hok.fresh (af _))
 refine wY (p:=a) (items:=its.toArray) (I.ok.hd hc) (cp aLt) ⟨_,bz _ rfl,rfl,rfl⟩ (il.at fun o e=>ac _ e) (by rw[bq];lia) ?_
 intro t got c keep gens os at' eg
 obtain⟨D,eD⟩:∃D,(s1.heap.push (revObj a ((its.toArray.size:Int)-1))).objs.size=D:=⟨_,rfl⟩
 have hD:(s1.heap.push (revObj a ((its.toArray.size:Int)-1))).objs.size<=D:=xk eD
 dsimp only at at' ⊢
 rw[eD] at at' ⊢
 have fD:H1 D=none:=I2.hok.fresh hD
 have neT:∀b u,H1 b=some u->b≠s1.heap.objs.size:=fun b u e z=>by rw[z,f0] at e;cases e
 refine⟨.ref D,aL H1 D (.lst ys.reverse),I2.call' (ch:=[s1.heap.objs.size]) os ⟨fun b o e n _ hx=>keep b o (fun z=>hx (by simp[z])) e,fun b o e n _ hx=>⟨o.slots,keep b o (fun z=>hx (by simp[z])) e⟩,fun b o e n _=>?_,fun b o e hx=>⟨o,keep b o (fun z=>hx (by simp[z])) e⟩,fun b xs e=>?_,fun b o u e=>?_,fun b ps e=>⟨#[],?_⟩⟩ (fun b u e=>?_) (by rw[gens];exact I2.bare) (fun b hb=>?_),rfl,q D fD⟩
 ·rw[aG (fun z=>absurd (ax e) (by rw[z];exact ki.mpr hD))];exact n
 ·rw[aG (aJ e fD)];exact e
 ·rw[aG (aJ e fD)];exact e
 ·rw[aG (aJ e fD),e];simp
 ·by_cases hb:b=D
  ·subst hb
   rw[aB] at e
   cases e
   have at2:t.heap.get? b=some { cls:= .type "list",dict:=none,data:= .seq its.reverse.toArray c,slots:= #[] }:=by
    rw[at', <-qu (xs:=got),eg]
   exact⟨by rw[fh];exact hz,its.reverse,c,bH.reverse rv,at2⟩
  ·rw[aG hb] at e
   refine(I2.hok b u e).stay (fun c' v hc' q'=>keep c' v ?_ q') (fun c' q'=>by rw[aG (aJ q' fD)];exact q') fun c' xs q'=>by rw[aG (aJ q' fD)];exact q'
   rcases hc' with z|z
   ·rw[z];exact neT b u e
   ·exact neT c' _ z
 ·have z:b=s1.heap.objs.size:=by simpa using hb
  subst z
  exact⟨f3,f1,f4,f5⟩
def cP3(i j:Int):Prop:=0<j/\j<2^250
theorem sR{X:Cx}:iQ X (binaryOp .FloorDiv) (rI cP3 fun i j=> .int (i / j)):=opI fun i j _ _ _ _ _ hc q=>by
 obtain⟨h0,h1⟩:=hc
 refine xm (by lia) ?_ (.inl (oe ?_))
 ·rw[nh i (by lia)];exact q
 ·have h2:j.natAbs<2^250:=by
   have e:((j.natAbs:Nat):Int)=j:=wf (by lia)
   have:((j.natAbs:Nat):Int)<((2^250:Nat):Int):=by rw[e];exact_mod_cast h1
   exact Int.ofNat_lt.mp this
  have h3:j.natAbs≠0:=by lia
  have h4:j.natAbs.log2<250:=(ym h3).mpr h2
  exact cy h4 (by decide)
def eB(sd n:Int)(l:Addr):List (Key×V):=[(.inr "seed",.int sd),(.inr "number",.int n),(.inr "left",.ref l)]
theorem ksn:¬((Sum.inr ("seed": Str):Key)=Sum.inr ("number": Str)):=by decide
theorem ksl:¬((Sum.inr ("seed": Str):Key)=Sum.inr ("left": Str)):=by decide
theorem knl:¬((Sum.inr ("number": Str):Key)=Sum.inr ("left": Str)):=by decide
theorem kns:¬((Sum.inr ("number": Str):Key)=Sum.inr ("seed": Str)):=by decide
theorem kls:¬((Sum.inr ("left": Str):Key)=Sum.inr ("seed": Str)):=by decide
theorem kln:¬((Sum.inr ("left": Str):Key)=Sum.inr ("number": Str)):=by decide
theorem aO0(sd n:Int)(l:Addr):cJ (eB sd n l) (Sum.inr "seed": Key)=some (.int sd):=by unfold eB;rw[cQ rfl]
theorem xK(sd n:Int)(l:Addr):cJ (eB sd n l) (Sum.inr "number": Key)=some (.int n):=by unfold eB;rw[cA ksn,cQ rfl]
theorem aK8(sd n:Int)(l:Addr):cJ (eB sd n l) (Sum.inr "left": Key)=some (.ref l):=by unfold eB;rw[cA ksl,cA knl,cQ rfl]
theorem aV5(sd n v:Int)(l:Addr):cZ (eB sd n l) (Sum.inr "seed": Key) (.int v)=eB v n l:=by
 unfold cZ eB
 simp
 exact⟨fun z=>absurd (eo Sum.inr z) kns,fun z=>absurd (eo Sum.inr z) kls⟩
theorem aC1(sd n v:Int)(l:Addr):cZ (eB sd n l) (Sum.inr "number": Key) (.int v)=eB sd v l:=by
 unfold cZ eB
 simp
 exact⟨fun z=>absurd (eo Sum.inr z) ksn,fun z=>absurd (eo Sum.inr z) kln⟩
structure cE(H:Hp)(d l:Addr)(sd n:Int)(ls:List Int):Prop where
 dc:H d=some (.dK (eB sd n l))
 lc:H l=some (.lst (ls.map V.int))
 s0:0<=sd
 s1:sd<2147483647
 n0:0<=n
 l0:∀x∈ls,0<=x
def dR(H:Hp)(d l:Addr):Prop:=∃sd n ls,cE H d l sd n ls
theorem cE.ne{H:Hp}{d l:Addr}{sd n:Int}{ls:List Int}(D:cE H d l sd n ls):d≠l:=fQ D.dc D.lc (by intro z;cases z)
def fH(d l:Addr)(H H':Hp):Prop:=∀b o,H b=some o->b≠d->b≠l->H' b=some o
theorem fH.refl{d l:Addr}(H:Hp):fH d l H H:=fun _ _ e _ _=>e
theorem fH.trans{d l:Addr}{H H1 H2:Hp}(a:fH d l H H1)(b:fH d l H1 H2):fH d l H H2:=fun c o e h1 h2=>b c o (a c o e h1 h2) h1 h2
theorem fH.of{d l:Addr}{H H':Hp}(s:aO H H'):fH d l H H':=fun c o e _ _=>s c o e
theorem fH.upd_d{d l:Addr}{H:Hp}{o:HO}:fH d l H (aL H d o):=fun b u e h1 _=>by rw[aG h1];exact e
theorem fH.upd_l{d l:Addr}{H:Hp}{o:HO}:fH d l H (aL H l o):=fun b u e _ h1=>by rw[aG h1];exact e
theorem aA{H:Hp}{p:Addr}(h:H p=none)(o:HO):aO H (aL H p o):=fun b u q=>by rw[aG (aJ q h)];exact q
theorem cE.seed{H:Hp}{d l:Addr}{sd n:Int}{ls:List Int}(D:cE H d l sd n ls){v:Int}(h0:0<=v)(h1:v<2147483647):cE (aL H d (.dK (eB v n l))) d l v n ls:=
 ⟨aB,by rw[aG D.ne.symm];exact D.lc,h0,h1,D.n0,D.l0⟩
theorem cE.number{H:Hp}{d l:Addr}{sd n:Int}{ls:List Int}(D:cE H d l sd n ls){v:Int}(h0:0<=v):cE (aL H d (.dK (eB sd v l))) d l sd v ls:=
 ⟨aB,by rw[aG D.ne.symm];exact D.lc,D.s0,D.s1,h0,D.l0⟩
theorem cE.left{H:Hp}{d l:Addr}{sd n:Int}{ls ls':List Int}(D:cE H d l sd n ls)(h:∀x∈ls',0<=x):cE (aL H l (.lst (ls'.map V.int))) d l sd n ls':=
 ⟨by rw[aG D.ne];exact D.dc,aB,D.s0,D.s1,D.n0,h⟩
theorem cE.out{H H':Hp}{d l:Addr}{sd n:Int}{ls:List Int}(D:cE H d l sd n ls)(s:aO H H'):cE H' d l sd n ls:=⟨s _ _ D.dc,s _ _ D.lc,D.s0,D.s1,D.n0,D.l0⟩
theorem dR.same{H H':Hp}{d l:Addr}(D:dR H d l)(s:aO H H'):dR H' d l:=by obtain⟨sd,n,ls,q⟩:=D;exact⟨sd,n,ls,q.out s⟩
theorem cE.gs{H:Hp}{d l:Addr}{sd n:Int}{ls:List Int}(D:cE H d l sd n ls):eR H d (.str "seed") (some (.int sd)):=by rw[<-aO0 sd n l];exact eR.k (k:=Sum.inr "seed") D.dc
theorem cE.gn{H:Hp}{d l:Addr}{sd n:Int}{ls:List Int}(D:cE H d l sd n ls):eR H d (.str "number") (some (.int n)):=by rw[<-xK sd n l];exact eR.k (k:=Sum.inr "number") D.dc
theorem cE.gl{H:Hp}{d l:Addr}{sd n:Int}{ls:List Int}(D:cE H d l sd n ls):eR H d (.str "left") (some (.ref l)):=by rw[<-aK8 sd n l];exact eR.k (k:=Sum.inr "left") D.dc
theorem cE.ps{H:Hp}{d l:Addr}{sd n:Int}{ls:List Int}(D:cE H d l sd n ls)(v:Int):jM H d (.str "seed") (.int v) (aL H d (.dK (eB v n l))):=by
 rw[<-aV5 sd n v l];exact jM.k (k:=Sum.inr "seed") D.dc (aR (by show 3<=1000;decide))
theorem cE.pn{H:Hp}{d l:Addr}{sd n:Int}{ls:List Int}(D:cE H d l sd n ls)(v:Int):jM H d (.str "number") (.int v) (aL H d (.dK (eB sd v l))):=by
 rw[<-aC1 sd n v l];exact jM.k (k:=Sum.inr "number") D.dc (aR (by show 3<=1000;decide))
inductive spDraw(vs:List V)(H:Hp)(Q:VK)(z1:XK):Prop
 |mk:∀(d l:Addr) (m:Int),(vs=[.ref d,.int m])->(dR H d l)->(0<m)->(m<2^64)->(∀(r:Int) (H':Hp),0<=r->r<m->dR H' d l->fH d l H H'->Q (.int r) H')->spDraw vs H Q z1
inductive aE0(K:PySem.W.Frag)(vs:List V)(H:Hp)(Q:VK)(z1:XK):Prop
 |mk:∀(a:Addr) (ns:List Int) (b:Int),(vs=[.ref a,.int b])->(bA K H a (ns.map V.int))->(ns.length<=63)->(0<=b)->(b<=1000)->(∀(d l:Addr) (H':Hp),H d=none->H l=none->dR H' d l->aO H H'->Q (.ref d) H')->aE0 K vs H Q z1
theorem vJ{ns:List Int}{i:Nat}{y:V}(h:(ns.map V.int)[i]?=some y):∃z,y=V.int z/\ns[i]?=some z:=by
 rw[di] at h
 cases e:ns[i]? with
 |none=>rw[e] at h;cases h
 |some z=>rw[e] at h;exact⟨z,(dt h).symm,rfl⟩
section
variable {X:Cx}{pins:List (Addr×Obj)}{σ:St}{H:Hp}{s:Shared}
end
section
variable {X:Cx}
theorem yY:fG X (.builtin "isinstance") (fun xs H Q=>∃x n t b,xs=[x,.ty n]/\oQ X.K H x t/\PySem.W.kitOne X.K t (.type n)=some b/\Q (.bl b) H):=by
 intro pins s σ H xs us Q I r h
 obtain⟨x,n,t,b,rfl,ty,e,q⟩:=h
 obtain⟨u,w',rfl,ru,rw'⟩:=yR r
 cases rw'
 exact aN7 I ru ty e fun tk=>⟨.bl b,H,I.tok tk,rfl,q⟩
theorem aV7(hc:autoParam (X.calm=true) Rq0._auto_1):fG X (.builtin "all") (fun xs H Q=>∃(p:Addr) (bs:List Bool),xs=[.ref p]/\bA X.K H p (bs.map V.bl)/\Q (.bl (bs.all id)) H):=by
 intro pins s σ H xs us Q I r h
 obtain⟨p,bs,rfl,hq,q⟩:=h
 obtain⟨u,rfl,ru⟩:=iO r
 cases ru
 obtain⟨its,rv,pl,hz⟩:=I.list hq
 have lp:p<s.heap.objs.size:=by
  obtain⟨o,e,_⟩:=pl.isList
  exact ax e
 refine call_all_walk (kg pl.isList ⟨s.heap.objs.size,_,_,_,_,_,fun i=>bs.getD i true,rfl,zc (A:=X.A.in1) (I.ok.hd hc) s.heap.objs.size p (cp lp) its.toArray,⟨⟨_,bz _ rfl,rfl,rfl⟩,pl.isList.at fun o e=>ac _ e⟩,?_,?_⟩)
 ·intro i v s1 Q1 E1 hv hq1
  have hi:its[i]?=some v:=by simpa using hv
  have hl:=rv.length
  rw[aa] at hl
  have hb:i<bs.length:=by
   have:=(aq.mp hi).1
   lia
  obtain⟨u,hu,ru⟩:=rv.get (i:=i) (x:=V.bl bs[i]) (by rw[di,aj hb];rfl)
  rw[hi] at hu
  cases hu
  cases ru
  have e:bs.getD i true=bs[i]:=by simp[List.getD,hb]
  dsimp only at hq1
  rw[e] at hq1
  exact gh hq1
 ·intro h' tk hk
  have kept:∀b o,s.heap.get? b=some o->h'.get? b=some o:=fun b o e=>hk b o (by
   intro z
   have z:b=s.heap.objs.size:=by simpa using z
   exact absurd (ax e) (by rw[z];exact gx _)) (ac _ e)
  refine⟨.bl (bs.all id),H,I.kept kept,?_,q⟩
  show Value.bool _=Value.bool _
  have hl:=rv.length
  rw[aa] at hl
  have e:((List.range its.toArray.size).all fun i=>bs.getD i true)=bs.all id:=by
   rw[bq, <-hl]
   clear q hq rv pl hk hz hl
   rw[jy,pz,pz]
   constructor
   ·intro h b hb
    obtain⟨i,hi,e⟩:=rg hb
    have:=h i (oq.mpr hi)
    simp[List.getD,hi] at this
    rw[<-e];exact this
   ·intro h i hi
    have hi:=oq.mp hi
    simp[List.getD,hi]
    exact h _ (mx hi)
  rw[e]
end
section
variable {X:Cx}(K:PySem.W.Frag)
theorem sQ(hK:autoParam (X.K=K) Rq0._auto_1):IxR X (zK K):=by subst hK;exact aH
theorem inK(hK:autoParam (X.K=K) Rq0._auto_1):iQ X (compareOp .In) (rIn K false):=by subst hK;exact cY
theorem cT8(hK:autoParam (X.K=K) Rq0._auto_1):iQ X (compareOp .NotIn) (rIn K true):=by subst hK;exact mX
end
theorem bE{c A B:Prop}[Decidable c](hc:c)(h:A):if c then A else B:=by rw[br hc];exact h
theorem aV{c A B:Prop}[Decidable c](hc:¬c)(h:B):if c then A else B:=by rw[ay hc];exact h
section
variable {X:Cx}
theorem aW9(hc:autoParam (X.calm=true) Rq0._auto_1):fG X (.builtin "any") (fun xs H Q=>∃(p:Addr) (bs:List Bool),xs=[.ref p]/\bA X.K H p (bs.map V.bl)/\Q (.bl (bs.any id)) H):=by
 intro pins s σ H xs us Q I r h
 obtain⟨p,bs,rfl,hq,q⟩:=h
 obtain⟨u,rfl,ru⟩:=iO r
 cases ru
 obtain⟨its,rv,pl,hz⟩:=I.list hq
 have lp:p<s.heap.objs.size:=by
  obtain⟨o,e,_⟩:=pl.isList
  exact ax e
 refine call_any_walk (kg pl.isList ⟨s.heap.objs.size,_,_,_,_,_,fun i=>bs.getD i false,rfl,zc (A:=X.A.in1) (I.ok.hd hc) s.heap.objs.size p (cp lp) its.toArray,⟨⟨_,bz _ rfl,rfl,rfl⟩,pl.isList.at fun o e=>ac _ e⟩,?_,?_⟩)
 ·intro i v s1 Q1 E1 hv hq1
  have hi:its[i]?=some v:=by simpa using hv
  have hl:=rv.length
  rw[aa] at hl
  have hb:i<bs.length:=by
   have:=(aq.mp hi).1
   lia
  obtain⟨u,hu,ru⟩:=rv.get (i:=i) (x:=V.bl bs[i]) (by rw[di,aj hb];rfl)
  rw[hi] at hu
  cases hu
  cases ru
  have e:bs.getD i false=bs[i]:=by simp[List.getD,hb]
  dsimp only at hq1
  rw[e] at hq1
  exact gh hq1
 ·intro h' tk hk
  have kept:∀b o,s.heap.get? b=some o->h'.get? b=some o:=fun b o e=>hk b o (by
   intro z
   have z:b=s.heap.objs.size:=by simpa using z
   exact absurd (ax e) (by rw[z];exact gx _)) (ac _ e)
  refine⟨.bl (bs.any id),H,I.kept kept,?_,q⟩
  show Value.bool _=Value.bool _
  have hl:=rv.length
  rw[aa] at hl
  have e:((List.range its.toArray.size).any fun i=>bs.getD i false)=bs.any id:=by
   rw[bq, <-hl]
   clear q hq rv pl hk hz hl
   rw[jy,my,my]
   constructor
   ·rintro⟨i,hi,h⟩
    have hi:=oq.mp hi
    simp[List.getD,hi] at h
    exact⟨_,mx hi,h⟩
   ·rintro⟨b,hb,h⟩
    obtain⟨i,hi,e⟩:=rg hb
    refine⟨i,oq.mpr hi,?_⟩
    simp[List.getD,hi]
    rw[e];exact h
  rw[e]
theorem cD0{es:List Expr}{k:Nat}{t:TGs}{n:Nat}{pos:Pos}(K:PySem.W.Frag)(hc:X.calm=true)(h:PGs X es t)(hK:autoParam (X.K=K) Rq0._auto_1)
  (hn:autoParam ((assignEach es X.env).length=n) Rq0._auto_1) (hst:autoParam ((assignEach es X.env).findIdx? (·.1)=none) Rq0._auto_1):PG X (.Tuple es k pos) (cE5 K n t):=by subst hK;exact iP hc h hn hst
end
def zH(i:Int):Prop:= -(2^250)<i/\i<2^250
def cG8(i j:Int):Prop:=zH i/\zH j
theorem zH.bits{i:Int}(h:zH i):Builtin.Int.intBits i<=2^20:=by
 have h1:i.natAbs<2^250:=by
  have:=h.1;have:=h.2;lia
 exact cj (ou h1) (by decide)
theorem vY{X:Cx}:iQ X (binaryOp .Mult) (rI cG8 fun i j=> .int (i*j)):=opI fun _ _ _ _ _ _ _ hc q=>mul_int q (yr hc.1.bits hc.2.bits)
section
variable {X:Cx}
end
section
variable {X:Cx}{pins:List (Addr×Obj)}{σ:St}{H:Hp}{s:Shared}{h':Heap}
theorem aX.turnedNew{T:Addr}{o:HO}{rs:List Addr}{t':Nat}(I:aX X pins σ H s)(hf:∀b∈rs,lO X pins H b)(k:∀b u,b∉rs->s.heap.get? b=some u->h'.get? b=some u)
  (hp:s.heap.objs.size<=T) (new:cR X.prog X.w (aL H T o) h' T o):aX X pins σ (aL H T o) { s with heap:=h',toks:=t' }:=by
 have fT:H T=none:=I.hok.fresh hp
 have nT:∀b u,s.heap.get? b=some u->b≠T:=fun b u e z=>absurd (ax e) (by rw[z];exact ki.mpr hp)
 have nrs:∀b u,H b=some u->b∉rs:=fun b u e z=>by rw[(hf b z).1] at e;cases e
 refine I.step (g':=s.gens) (d':=s.drawn) (ch:=rs) (fun b hb=>⟨(hf b hb).2.2.2.1,(hf b hb).2.1,(hf b hb).2.2.2.2.1,(hf b hb).2.2.2.2.2⟩) (fun b u _ _ hc e _=>k b u hc e) (fun b u _ _ hc e _=>⟨u.slots,k b u hc e⟩)
  (fun b u _ e n=>by rw[aG (nT b u e)];exact n) (fun b u hc e=>⟨u,k b u hc e⟩) (fun b xs e=>by rw[aG (aJ e fT)];exact e) (fun b u v e=>by rw[aG (aJ e fT)];exact e)
  (fun b ps e=>⟨#[],by rw[aG (aJ e fT),e];simp⟩) (fun m hm=>?_) (fun b u e=>?_) I.bare
 ·obtain⟨u,es,ep,hu,r⟩:=hm
  exact⟨u,es,ep,k _ u (fun z=>(hf _ z).2.1 rfl) hu,r⟩
 ·by_cases hb:b=T
  ·subst hb
   rw[aB] at e
   cases e
   exact new
  ·rw[aG hb] at e
   refine(I.hok b u e).stay (fun c v hc q=>k c v ?_ q) (fun c q=>by rw[aG (aJ q fT)];exact q) fun c xs q=>by rw[aG (aJ q fT)];exact q
   rcases hc with z|z
   ·rw[z];exact nrs b u e
   ·exact nrs c _ z
theorem aX.turnedL{rs:List Addr}{t':Nat}(I:aX X pins σ H s)(hf:∀b∈rs,lO X pins H b)(k:∀b u,b∉rs->s.heap.get? b=some u->h'.get? b=some u):aX X pins σ H { s with heap:=h',toks:=t' }:=by
 have nrs:∀b u,H b=some u->b∉rs:=fun b u e z=>by rw[(hf b z).1] at e;cases e
 refine I.step (g':=s.gens) (d':=s.drawn) (ch:=rs) (fun b hb=>⟨(hf b hb).2.2.2.1,(hf b hb).2.1,(hf b hb).2.2.2.2.1,(hf b hb).2.2.2.2.2⟩) (fun b u _ _ hc e _=>k b u hc e) (fun b u _ _ hc e _=>⟨u.slots,k b u hc e⟩)
  (fun b u _ _ n=>n) (fun b u hc e=>⟨u,k b u hc e⟩) (fun b xs e=>e) (fun b u v e=>e) (fun b ps e=>⟨#[],by rw[e];simp⟩) (fun m hm=>?_) (fun b u e=>?_) I.bare
 ·obtain⟨u,es,ep,hu,r⟩:=hm
  exact⟨u,es,ep,k _ u (fun z=>(hf _ z).2.1 rfl) hu,r⟩
 ·refine(I.hok b u e).stay (fun c v hc q=>k c v ?_ q) (fun c q=>q) fun c xs q=>q
  rcases hc with z|z
  ·rw[z];exact nrs b u e
  ·exact nrs c _ z
end
section
variable {prog:Program}{w:World}{A:Around}{E:Value->Shared->Prop}{s:Shared}
end
section
variable {prog:Program}{w:World}{A:Around}{E:Value->Shared->Prop}{s:Shared}
end
section
variable {g:TG}{tc:TT}{te:TE}
end
section
variable {X:Cx}{tg:Expr}
inductive rSlS(x:V)(lo:Option Int)(hi:Option Int)(H:Hp)(Q:VK):Prop
 |mk:∀z,(x= .str z)->(z.length<=sizeLine)->(Q (.str (Txt.slice z lo hi)) H)->rSlS x lo hi H Q
theorem aS3:SlR X rSlS:=by
 intro pins s σ H x v vl vu lo hi sl Q I rx hs pl pu h
 obtain⟨z,rfl,hz,q⟩:=h
 obtain⟨t,rfl⟩:=rx
 refine⟨"str",_,F.slot_str_getitem.lookup,za _ _ _,?_⟩
 have fin:∀{lo hi:Option Int},Q (.str (Txt.slice z lo hi)) H->∀t' k,EP X pins σ Q (.str (Txt.slice z lo hi) t') { s with toks:=k }:=fun q t' k=>⟨.str _,H,I.tok k,⟨_,rfl⟩,q⟩
 cases pl with
 |none =>
  cases pu with
  |none=>exact lh (l:=none) (u:=none) (st:=none) hs rfl (qv ⟨cj (oh z _ _) hz,fin q⟩)
  |int j u=>exact lh (l:=none) (u:=some (j,u)) (st:=none) hs rfl (qv ⟨cj (oh z _ _) hz,fin q⟩)
 |int i u' =>
  cases pu with
  |none=>exact lh (l:=some (i,u')) (u:=none) (st:=none) hs rfl (qv ⟨cj (oh z _ _) hz,fin q⟩)
  |int j u=>exact lh (l:=some (i,u')) (u:=some (j,u)) (st:=none) hs rfl (qv ⟨cj (oh z _ _) hz,fin q⟩)
theorem sE:∀{ys:List Str}{us:List Value},bH (ys.map V.str) us->StrsAre us ys
 |[],_,r=>by
  cases r
  exact .nil
 |y::ys,_,r=>by
  cases r with
  |cons r1 r2 =>
   obtain⟨t,rfl⟩:=r1
   exact .cons y t (sE r2)
inductive bR3(K:PySem.W.Frag)(x:V)(vs:List V)(H:Hp)(Q:VK):Prop
 |mk:∀(sep:Str) (p:Addr) (ys:List Str),(x= .str sep)->(vs=[.ref p])->(bA K H p (ys.map V.str))->((ys.map (·.length)).sum+ys.length*sep.length<=16777216)->(Q (.str (Txt.join sep ys)) H)->bR3 K x vs H Q
theorem bQ0:MtR X "str.join" (bR3 X.K):=by
 intro pins s σ H x xs v us Q I rx rs h
 obtain⟨sep,p,ys,rfl,rfl,hq,hz,q⟩:=h
 obtain⟨t,rfl⟩:=rx
 obtain⟨u,rfl,ru⟩:=rs.one
 cases ru
 obtain⟨its,rv,pl,_⟩:=I.list hq
 exact join_list pl.isList (by simpa using sE rv) hz fun t' k=>⟨.str _,H,I.tok k,⟨_,rfl⟩,q⟩
end
def Ite(K : PySem.W.Frag)(a : Addr) : It:=
  ⟨fun i H => ∃xs x,bA K H a xs /\ xs[i]? = some x,
   fun i H x H' => ∃t,H t = none /\ x = .ref t /\ ∀xs,bA K H a xs -> ∃u,xs[i]? = some u /\ H' = aL H t (.tup [.int i,u]),
   fun i H => ∃xs,bA K H a xs /\ xs.length <= i⟩
theorem aL8{P:Program}{w:World}{K:PySem.W.Frag}{elts:List Expr}{x1:Nat}{pos:Pos}(a n:Addr) :
  yO P w K (.Tuple elts x1 pos) (Ite K a) [n,n+1] (n+1) (fun i h=>(∃old,IsEnum h (n+1) n i old)/\h.IsListIter n a i) where
 mem:=by simp
 obj:=fun i h Z c hc=>by
  obtain⟨⟨old,he⟩,⟨o1,e1,c1,d1⟩⟩:=Z
  simp only[List.mem_cons,List.not_mem_nil,or_false] at hc
  rcases hc with rfl|rfl
  ·exact⟨_,e1,fun v z=>by rw[d1] at z;cases z⟩
  ·exact⟨_,he,fun v z=>by cases z⟩
 keep:=fun i h h' Z k=>⟨let⟨old,he⟩:=Z.1;⟨old,k _ (by simp) _ he⟩,Z.2.at fun o e=>k _ (by simp) o e⟩
 item:=by
  intro X hP hw hK hc i pins s σ H E I hf Z hg
  subst hP hw hK
  obtain⟨xs,x,q1,hx⟩:=hg
  obtain⟨its,rv,pl,_⟩:=I.list q1
  obtain⟨u,hu,ru⟩:=rv.get hx
  obtain⟨⟨old,he⟩,hit⟩:=Z
  have d0:n+1≠n:=Nat.succ_ne_self n
  refine wpAny_pyNext_enum_item he hit pl.isList (x:=u) (by simpa using hu) d0 fun g z1 j1 T1 _ k1=>⟨_,rfl,wpAny_letOwnedTupleGo_enum z1 fun g2 z2 sb=>?_⟩
  have nT:s.heap.objs.size≠n+1:=dv (ax he)
  have lt:∀c∈[n,n+1],c<s.heap.objs.size:=fun c hc=>by
   simp only[List.mem_cons,List.not_mem_nil,or_false] at hc
   rcases hc with rfl|rfl
   ·obtain⟨o1,e1,_⟩:=hit
    exact ax e1
   ·exact ax he
  have kk:∀c o,c∉[n,n+1]->s.heap.get? c=some o->g2.get? c=some o:=fun c o hc e=>by
   simp only[List.mem_cons,List.not_mem_nil,or_false,not_or] at hc
   exact(sb.2 c hc.2).trans (k1 c o hc.2 hc.1 e)
  have TT:g2.get? s.heap.objs.size=some { cls:= .type "tuple",data:= .seq #[.int i s.toks,u] }:=(sb.2 _ nT).trans T1
  have I2:=I.turnedNew (T:=s.heap.objs.size) (o:= .tup [.int i,x]) (rs:=[n,n+1]) (t':=s.toks+1) hf kk (af _) ⟨by show 2<=sizeLine;decide,[.int i s.toks,u],.cons ⟨_,rfl⟩ (.cons ru .nil),⟨_,TT,rfl,_,rfl,rfl⟩⟩
  refine⟨.ref s.heap.objs.size,_,I2,rfl,⟨_,I.fresh,rfl,fun xs' w1=>⟨x,by rw[I.list_inj w1 q1];exact hx,rfl⟩⟩,⟨⟨_,by simpa using z2⟩,j1.at fun o e=>(sb.2 _ d0.symm).trans e⟩,fun c hc=>?_⟩
  rw[aG (cp (lt c hc))]
  exact(hf c hc).1
 done:=by
  intro X hP hw hK hc i pins s σ H E I hf Z hg
  subst hP hw hK
  obtain⟨xs,q1,hx⟩:=hg
  obtain⟨its,rv,pl,_⟩:=I.list q1
  obtain⟨⟨old,he⟩,hit⟩:=Z
  have hl:=rv.length
  refine wpAny_pyNext_enum_end (I.ok.hd hc) he hit pl.isList (by simp;lia) fun g k=>⟨rfl,I.turnedL (rs:=[n,n+1]) (t':=s.toks) hf fun c o hc e=>?_⟩
  simp only[List.mem_cons,List.not_mem_nil,or_false,not_or] at hc
  exact k c o hc.1 e
 self:=fun _ _ _ _ _ Z h=>by
  obtain⟨⟨old,he⟩,_⟩:=Z
  exact yi he h
def cO6(K:PySem.W.Frag)(ta:TA):TI:=fun σ H R=>ta σ H fun vs H1=>∃a,vs=[.ref a]/\(∃xs,bA K H1 a xs)/\R (Ite K a) H1
theorem bN8{X:Cx}{a:Expr}{ta:TA}{p pos:Pos}{elts:List Expr}{x1:Nat}{tpos:Pos}(hg:Gl X "enumerate")(hm:X.mg "enumerate"=none)(ha:PA X [a] ta)(hs:autoParam (starEach [a] X.env=[(false,eval a X.env)]) Rq0._auto_1) :
  PI X (.Tuple elts x1 tpos) (.Call (.Name "enumerate" p) [a] [] pos) (cO6 X.K ta):=by
 intro pins s σ H R I h
 refine gm (iS I hg hm PyProof.Rows.boot_enumerate (fm (cO (ha pos pins s σ H _ I h) ?_) hs rfl));rintro us s1 ⟨vs,H1,I1,r1,q1⟩
 obtain⟨a',rfl,⟨xs,q1⟩,q⟩:=q1
 obtain⟨u,rfl,ru⟩:=iO r1
 cases ru
 obtain⟨its,_,pl,_⟩:=I1.list q1
 refine call_enumerate_list pl.isList fun g he hit _ k=>yi he ?_
 have I2:aX X pins σ H1 { s1 with heap:=g }:=I1.kept (t':=s1.toks) k
 refine⟨s1.heap.objs.size+1,_,_,Ite X.K a',H1,rfl,I2,aL8 a' s1.heap.objs.size,⟨⟨_,he⟩,hit⟩,fun c hc=>?_,q⟩
 have hge:s1.heap.objs.size<=c:=by
  simp only[List.mem_cons,List.not_mem_nil,or_false] at hc
  rcases hc with rfl|rfl
  ·exact af _
  ·exact jb ..
 exact I1.fpOk hge (I1.hok.fresh hge)
section
variable {X:Cx}
theorem aE5:iQ X (binaryOp .Mult) (fun x y H Q=>∃(z:Str) (n:Int),x= .str z/\y= .int n/\z.length=1/\(n=0\/n=1)/\Q (.str (if n=0 then Str.empty else z)) H):=by
 intro pins s σ H x y v u Q I rx ry h
 obtain⟨z,n,rfl,rfl,hz,hn,q⟩:=h
 obtain⟨t,rfl⟩:=rx
 obtain⟨t',rfl⟩:=ry
 rcases hn with rfl|rfl
 ·exact PySem.P.mul_str_none (by decide) (by decide) ⟨.str _,H,I.tok _,⟨_,rfl⟩,q⟩
 ·refine PySem.P.mul_str (by decide) (fun _ c=>absurd c (by simp)) (fun _ c=>absurd c (by simp)) ?_
  rw[ay (by decide),br (by simp)]
  exact⟨.str z,H,I,⟨_,rfl⟩,q⟩
end
theorem aX.freeze{X:Cx}{pins:List (Addr×Obj)}{σ:St}{H:Hp}{s:Shared}{d:Addr}{o:Obj}{kvs:List (Key×V)}(I:aX X pins σ H s)(h:H d=some (.dK kvs))(ho:s.heap.get? d=some o) :
  aX X pins σ (aL H d (.frz o (.dK kvs))) s:=by
 have nd:∀b u,H b=some u->(∀z,u≠ .dK z)->b≠d:=fun b u e hu z=>by
  rw[z,h] at e
  exact hu _ (dt e).symm
 refine I.step (g':=s.gens) (d':=s.drawn) (t':=s.toks) (h':=s.heap) (ch:=[]) (fun _ z=>nomatch z) (fun b u _ _ _ e _=>e) (fun b u _ _ _ e _=>⟨u.slots,e⟩) (fun b u _ e n=>by rw[aG (fun z=>by rw[z,h] at n;cases n)];exact n)
  (fun b u _ e=>⟨u,e⟩) (fun b xs e=>by rw[aG (nd b _ e (by intro z c;cases c))];exact e) (fun b u v e=>by rw[aG (nd b _ e (by intro z c;cases c))];exact e)
  (fun b ps e=>⟨#[],by rw[aG (nd b _ e (by intro z c;cases c)),e];simp⟩) (fun m hm=>hm) (fun b u e=>?_) I.bare
 by_cases hb:b=d
 ·subst hb
  rw[aB] at e
  cases e
  exact⟨ho,I.hok b _ h⟩
 ·rw[aG hb] at e
  exact(I.hok b u e).stay (fun c v _ q=>q) (fun c q=>by rw[aG (nd c _ q (by intro z w;cases w))];exact q) fun c xs q=>by rw[aG (nd c _ q (by intro z w;cases w))];exact q
theorem zZ{κ:Type}:∀{kvs:List (κ×V)}{vs:List (κ×Value)}{i:Nat}{k:κ}{v:V},KV kvs vs->kvs[i]?=some (k,v)->∃u,vs[i]?=some (k,u)/\bF v u
 |_,_,_,_,_,.nil,e=>by simp at e
 |_,_,0,_,_,.cons r _,e=>by
  simp at e
  subst e
  obtain⟨r1,r2⟩:=r
  exact⟨_,by simp;exact wb r1.symm rfl,r2⟩
 |_,_,i+1,_,_,.cons _ r,e=>by
  obtain⟨u,e1,e2⟩:=zZ (i:=i) r (by simpa using e)
  exact⟨u,by simpa using e1,e2⟩
theorem aH6{k:Key}{u:Value}(h:jX k u=true):bF (kV k) u:=by
 rcases cM h with⟨i,t,rfl,rfl⟩|⟨x,t,rfl,rfl⟩
 ·exact⟨t,rfl⟩
 ·exact⟨t,rfl⟩
def Itd(d:Addr)(o:Obj)(kvs:List (Key×V)):It:=
 ⟨fun i H=>i<kvs.length/\H d=some (.frz o (.dK kvs)),fun i H x H'=>H'=H/\∃k v,kvs[i]?=some (k,v)/\x=kV k,fun i H=>kvs.length<=i/\H d=some (.frz o (.dK kvs))⟩
theorem bF0{X:Cx}{pins:List (Addr×Obj)}{σ:St}{H:Hp}{s:Shared}{d:Addr}{o:Obj}{kvs:List (Key×V)}{es:Array DictEntry}{ep:Nat}(I:aX X pins σ H s)(ho:o.data= .dict es ep)(h:H d=some (.frz o (.dK kvs))) :
  ∃vs,KV kvs vs/\s.heap.DictAt (bK X.prog X.w) d vs ep/\(d==sysModules)=false:=by
 obtain⟨e,z,ns,vs,rel,o',es',ep',h1,h2,h3,h4,h5,h6⟩:=(show cR X.prog X.w H s.heap d (.frz o (.dK kvs)) from I.hok d _ h)
 rw[e] at h1
 cases h1
 rw[ho] at h3
 cases h3
 exact⟨vs,rel,⟨o,es,e,h2,ho,h4,h5,h6⟩,ns⟩
theorem aL6{P:Program}{w:World}{K:PySem.W.Frag}{tg:Expr}(d it:Addr)(o:Obj)(kvs:List (Key×V)){es:Array DictEntry}{ep:Nat}(ho:o.data= .dict es ep) :
  yO P w K tg (Itd d o kvs) [it] it (fun i h=>i<=kvs.length/\h.IsKeyIter it d i kvs.length ep) where
 mem:=by simp
 obj:=fun i h st b hb=>by
  have e:b=it:=by simpa using hb
  subst e
  obtain⟨o,e,c,q⟩:=st.2
  exact⟨o,e,fun v z=>by rw[q] at z;cases z⟩
 keep:=fun i h h' st k=>⟨st.1,st.2.at fun o e=>k it (by simp) o e⟩
 item:=by
  intro X hP hw hK hc i pins s σ H E I hf st hg
  subst hP hw hK
  obtain⟨hi,hd⟩:=hg
  obtain⟨f0,f1,f2,f3,f4,f5⟩:=hf it (by simp)
  obtain⟨vs,rel,da,ns⟩:=bF0 I ho hd
  have hl:kvs.length=vs.length:=ii rel
  obtain⟨u,hu,_⟩:=zZ (i:=i) (k:=kvs[i].1) (v:=kvs[i].2) rel (by simp[hi])
  have st2:=st.2
  rw[hl] at st2
  refine wpAny_pyNext_dict_item st2 da hu fun key h' hk st' sb=>?_
  have I1:aX X pins σ H { s with heap:=h' }:=I.turned (t':=s.toks) (fun b o hb e=>(sb.2 b hb).trans e) f0 f1 f3 f4 f5
  obtain⟨o2,e2,c2,d2⟩:=id st'
  rw[<-hl] at st'
  exact⟨key,rfl,go_of (s:={ s with heap:=h' }) e2 c2 d2 (by decide) ⟨kV kvs[i].1,H,I1,aH6 hk,⟨rfl,kvs[i].1,kvs[i].2,by simp[hi],rfl⟩,⟨hi,st'⟩,fun b hb=>(hf b hb).1⟩⟩
 done:=by
  intro X hP hw hK hc i pins s σ H E I hf st hg
  subst hP hw hK
  obtain⟨hi,hd⟩:=hg
  obtain⟨f0,f1,f2,f3,f4,f5⟩:=hf it (by simp)
  obtain⟨vs,rel,da,ns⟩:=bF0 I ho hd
  have hl:kvs.length=vs.length:=ii rel
  have st2:=st.2
  rw[hl] at st2
  exact wpAny_pyNext_dict_end (I.ok.hd hc) st2 da (by simp;lia) fun h' eb=>⟨rfl,I.turned (t':=s.toks) (fun b o hb e=>eb b o hb e) f0 f1 f3 f4 f5⟩
 self:=fun _ _ _ _ _ st h=>wpAny_pyIter_keyiter st.2 h
def cH4(tl:TE):TI:=fun σ H R=>tl σ H fun x H1=>∃d kvs,x= .ref d/\H1 d=some (.dK kvs)/\∀o,R (Itd d o kvs) (aL H1 d (.frz o (.dK kvs)))
theorem bK1{X:Cx}{tg l:Expr}{tl:TE}(hl:PE X l tl):PI X tg l (cH4 tl):=by
 intro pins s σ H R I h
 refine cO (hl pins s σ H _ I h) ?_;rintro v s1 ⟨x,H1,I1,r1,q1⟩
 obtain⟨d,kvs,e,hd,q⟩:=q1
 subst e
 cases r1
 obtain⟨z,ns,vs,rel,o,es,ep,h1,h2,h3,h4,h5,h6⟩:=uB I1.hok hd
 have hl:kvs.length=vs.length:=ii rel
 have I2:=I1.freeze hd h1
 refine wpAny_pyIter_dict (knd:=bK X.prog X.w) ns ⟨o,es,h1,h2,h3,h4,h5,h6⟩ ?_
 have f:(aL H1 d (.frz o (.dK kvs))) s1.heap.objs.size=none:=I2.hok.fresh (af _)
 refine⟨s1.heap.objs.size,[s1.heap.objs.size],_,_,_,rfl,I2.kept (t':=s1.toks) fun b o e=>ac _ e,aL6 d _ o kvs h3,⟨az _,⟨_,bz _ rfl,rfl,by rw[hl];rfl⟩⟩,fun b hb=>?_,q o⟩
 have e:b=s1.heap.objs.size:=by simpa using hb
 subst e
 exact I2.fpOk (af _) f
section
variable {X:Cx}
variable {g:TG}{tc:TT}{te:TE}
theorem aM4{K:PySem.W.Frag}{a:Addr}{xs:List V}{Kf:List V->Hp->Prop}{σ0:St}{H1:Hp}(Pv:Nat->List V->St->Hp->Prop)(hz:xs.length<sizeLine)(h0:Pv 0 [] σ0 H1)(hb:∀i zs σ H,Pv i zs σ H->zs.length<=i)
  (hl:∀i zs σ H,i<=xs.length->Pv i zs σ H->bA K H a xs)
  (hs:∀i x zs σ H t,xs[i]?=some x->Pv i zs σ H->H t=none->g (.ref t) σ (aL H t (.tup [.int i,x])) fun σ2 H2=>tc σ2 H2 fun b H3=>if b=true then te σ2 H3 fun v H4=>Pv (i+1) (zs++[v]) σ2 H4 else Pv (i+1) zs σ2 H3)
  (hd:∀zs σ H,Pv xs.length zs σ H->Kf zs H):rG (Ite K a) g tc te Kf σ0 H1:=by
 refine⟨fun i m zs σ H=>m=xs.length-i/\i<=xs.length/\Pv i zs σ H,⟨xs.length,by simp,az _,h0⟩,?_⟩
 rintro i m zs σ H ⟨rfl,hi,p⟩
 have q1:=hl i zs σ H hi p
 refine⟨cx (hb _ _ _ _ p) (cx hi hz),?_⟩
 by_cases hlt:i<xs.length
 ·refine .inr ⟨⟨xs,xs[i],q1,by simp[hlt]⟩,Pv (i+1),fun zs' σ' H' p'=>⟨xs.length-(i+1),iw hlt (ia i),rfl,hlt,p'⟩,fun x H' y=>?_⟩
  obtain⟨t,ht,rfl,w⟩:=y
  obtain⟨u,e1,rfl⟩:=w xs q1
  exact hs i u zs σ H t e1 p ht
 ·have e:i=xs.length:=by lia
  subst e
  exact .inl ⟨⟨xs,q1,af _⟩,hd zs σ H p⟩
end
open PySem.AutoSeq1 (wpAny_loadPart')
section
variable {prog:Program}{w:World}{A:Around}{E:Value->Shared->Prop}{s:Shared}
end
def cJ1(i j:Int):Prop:=0<j/\j<2^200*2^200
theorem xP{X:Cx}:iQ X (binaryOp .FloorDiv) (rI cJ1 fun i j=> .int (i / j)):=opI fun i j _ _ _ _ _ hc q=>by
 obtain⟨h0,h1⟩:=hc
 refine xm (by lia) ?_ (.inl (oe ?_))
 ·rw[nh i (by lia)];exact q
 ·have h2:j.natAbs<2^200*2^200:=by lia
  rw[<-Nat.pow_add] at h2
  have h3:j.natAbs≠0:=by lia
  have h4:j.natAbs.log2<200+200:=(ym h3).mpr h2
  exact cy h4 (by decide)
open PySem PySem.Spec PyProof.Rows
section
variable {prog:Program}{w:World}{A:Around}{E:Value->Shared->Prop}{s:Shared}
end
section
variable {X:Cx}{pins:List (Addr×Obj)}{σ:St}{H:Hp}{s:Shared}{a:Addr}{y v:V}{u r:Value}{A:Around}{E:Value->Shared->Prop}
end
section
variable {X:Cx}{pins:List (Addr×Obj)}{σ:St}{H:Hp}{s:Shared}{A:Around}{E:Value->Shared->Prop}
end
open PySem PySem.Spec PyProof.Rows PySem.W
section
variable {n:Nat}(h0:0<n)
include h0
end
open PySem PySem.Spec PyProof.Rows PySem.W HT
section
variable {prog:Program}{w:World}{A:Around}{E:Value->Shared->Prop}{s:Shared}
end
open PySem PySem.Spec PyProof.Rows
section
variable {prog:Program}{w:World}{A:Around}{E:Value->Shared->Prop}{s:Shared}
theorem aX9{J t:Addr}{i:Nat}{its:Array Value}{v:Value}{Q:Value->Shared->Prop}(a1:s.heap.IsListIter J t i)(a2:s.heap.IsList t its)(a3:its[i]?=some v)
  (k:∀g,g.IsListIter J t (i+1)->Heap.SameBut J s.heap g->Q v { s with heap:=g }):wpAny (model prog w) A (Builtin.SmallTypes.nextOf (.ref J)) Q E s:=by
 obtain⟨oJ,e1,e2,e3⟩:=id a1
 obtain⟨oT,e4,_,m,e5⟩:=a2
 unfold Builtin.SmallTypes.nextOf
 refine ag (js (name:=Str.ofString "__next__") a1.typeIs oi (ku oi a1.typeIs wx ?_ (xn _)))
 show wpAny _ _ (field (.ref J) 0>>=_) _ _ s
 refine ag (jc e1 e3 (x:= .ref t) rfl ?_)
 refine(show wpAny _ _ (if (Value.ref t==Value.none)=true then _ else _) _ _ s from ?_)
 rw[ay (show ¬((Value.ref t==Value.none)=true) by exact bt)]
 show wpAny _ _ (field (.ref J) 1>>=_) _ _ s
 refine ag (jc e1 e3 (x:= .int i 0) rfl ?_)
 refine(show wpAny _ _ (seqItems? (.ref t)>>=_) _ _ s from ag (mi e4 e5 ?_))
 simp only[Int.toNat_natCast,a3]
 refine ag (wpAny_setField e1 e3 (by simp) (bv ⟨v,rfl,bv (k _ ?_ (wy ..))⟩))
 exact⟨_,iz _ e1 (Obj.isFreed_of_fields (xo e3 _)),(Obj.cls_mapFields ..).trans e2,by rw[xo e3];simp[rawInt]⟩
theorem aD6{J t:Addr}{i:Nat}{its:Array Value}{Q:Value->Shared->Prop}(hh:A.handled=none)(a1:s.heap.IsListIter J t i)(a2:s.heap.IsList t its)(a3:its[i]?=none)
  (k:∀g e,Heap.ExtBut J s.heap g->(∃o,g.get? e=some o/\o.cls= .type "StopIteration")->E (.ref e) { s with heap:=g }):wpAny (model prog w) A (Builtin.SmallTypes.nextOf (.ref J)) Q E s:=by
 obtain⟨oJ,e1,e2,e3⟩:=id a1
 obtain⟨oT,e4,_,m,e5⟩:=a2
 unfold Builtin.SmallTypes.nextOf
 refine ag (js (name:=Str.ofString "__next__") a1.typeIs oi (ku oi a1.typeIs wx ?_ (xn _)))
 show wpAny _ _ (field (.ref J) 0>>=_) _ _ s
 refine ag (jc e1 e3 (x:= .ref t) rfl ?_)
 refine(show wpAny _ _ (if (Value.ref t==Value.none)=true then _ else _) _ _ s from ?_)
 rw[ay (show ¬((Value.ref t==Value.none)=true) by exact bt)]
 show wpAny _ _ (field (.ref J) 1>>=_) _ _ s
 refine ag (jc e1 e3 (x:= .int i 0) rfl ?_)
 refine(show wpAny _ _ (seqItems? (.ref t)>>=_) _ _ s from ag (mi e4 e5 ?_))
 simp only[Int.toNat_natCast,a3]
 refine ag (yy (ag (wpAny_setField e1 e3 (by simp) ?_)))
 refine(show wpAny _ _ (newExc (.type "StopIteration") []>>=_) _ _ _ from ag ?_)
 simp only[newExc,newTuple]
 refine ag (iu ?_ (by size_fits))
 refine ag (m:=firstArgMember _ _) (wpAny_of_eq (a:=Value.none) (by first|exact rfl|(simp only[firstArgMember];rfl)) ?_)
 refine iu ?_ (by size_fits)
 simp only[raiseNew]
 refine ag (wpAny_handled ?_)
 first|rw[hh]|rw[show A.in1.handled=none from hh]
 refine ag (bv (wpAny_throw ?_))
 exact k _ _ (((wy ..).extBut.push _).push _) ⟨_,bz _ rfl,rfl⟩
structure cS5(g:Heap)(n l1 l2:Addr)(i:Nat):Prop where
 z:IsZip g (n+4) (n+2) (n+3) .none
 I:IsPair g (n+2) (.ref n) (.ref (n+1))
 O:∃a b,IsPair g (n+3) a b
 i1:g.IsListIter n l1 i
 i2:g.IsListIter (n+1) l2 i
end
abbrev yA(g:Heap)(l1:Addr):Heap:=g.push { cls:= .type "list_iterator",data:= .fields #[.ref l1,.int 0 0] }
abbrev yB(g:Heap)(l1 l2:Addr):Heap:=(yA g l1).push { cls:= .type "list_iterator",data:= .fields #[.ref l2,.int 0 0] }
abbrev yC(g:Heap)(l1 l2:Addr):Heap:=(yB g l1 l2).push { cls:= .type "tuple",data:= .seq #[.ref g.objs.size,.ref (yA g l1).objs.size] }
abbrev yD(g:Heap)(l1 l2:Addr):Heap:=(yC g l1 l2).push { cls:= .type "tuple",data:= .seq #[.none,.none] }
abbrev yE(g:Heap)(l1 l2:Addr):Heap:=(yD g l1 l2).push { cls:= .type "zip",data:= .fields #[.none,.bool false,.bool false,.ref (yB g l1 l2).objs.size,.ref (yC g l1 l2).objs.size] }
theorem bF3(l1 l2:Addr)(xs ys:Array Value):Meets (Builtin.«zip.__new__» ⟨[.type "zip",.ref l1,.ref l2],[]⟩) (fun _ R s=>s.heap.IsList l1 xs/\s.heap.IsList l2 ys /\
   R (.ok (.ret (.ref (yD s.heap l1 l2).objs.size))) { s with heap:=yE s.heap l1 l2 }):=
 .of_wp fun prog w A R s h=>by
  obtain⟨q,g,d,tk,os⟩:=s;obtain⟨t1,t2,h⟩:=h
  have hS:=PySem.sub_zip
  have T1:Heap.IsList (Shared.heap ⟨q,g,d,tk,os⟩) l1 xs:=t1
  have T2:Heap.IsList (Shared.heap ⟨q.push { cls:= .type "list_iterator",data:= .fields #[.ref l1,.int 0 0] },g,d,tk,os⟩) l2 ys:=t2.at fun o e=>ac _ e
  wp_walk using kg T1,kg T2
  exact⟨_,rfl,h⟩
section
variable {prog:Program}{w:World}{A:Around}{E:Value->Shared->Prop}{s:Shared}
theorem aP9{l1 l2:Addr}{xs ys:Array Value}{Q:Value->Shared->Prop}(t1:s.heap.IsList l1 xs)(t2:s.heap.IsList l2 ys)
  (k:∀g,cS5 g s.heap.objs.size l1 l2 0->(∀c o,s.heap.get? c=some o->g.get? c=some o)->Q (.ref (s.heap.objs.size+4)) { s with heap:=g }) :
  wpAny (model prog w) A (call (.type "zip") [.ref l1,.ref l2]) Q E s:=by
 refine callType_new F.called_zip (by decide) (F.typeCall_zip_2 _ _) (F.newCall_zip_2 _ _) (fun obj=>F.args_object_init_3 obj _ _) F.entry_zip_new (bF3 l1 l2 xs ys) ⟨t1,t2,?_⟩
 have n1:(yA s.heap l1).objs.size=s.heap.objs.size+1:=by rw[ju]
 have n2:(yB s.heap l1 l2).objs.size=s.heap.objs.size+2:=by rw[ju,n1]
 have n3:(yC s.heap l1 l2).objs.size=s.heap.objs.size+3:=by rw[ju,n2]
 have n4:(yD s.heap l1 l2).objs.size=s.heap.objs.size+4:=by rw[ju,n3]
 have b5:(yE s.heap l1 l2).get? (yD s.heap l1 l2).objs.size=some _:=bz _ rfl
 have b4:(yE s.heap l1 l2).get? (yC s.heap l1 l2).objs.size=some _:=ac _ (bz _ rfl)
 have b3:(yE s.heap l1 l2).get? (yB s.heap l1 l2).objs.size=some _:=ac _ (ac _ (bz _ rfl))
 have b2:(yE s.heap l1 l2).get? (yA s.heap l1).objs.size=some _:=ac _ (ac _ (ac _ (bz _ rfl)))
 have b1:(yE s.heap l1 l2).get? s.heap.objs.size=some _:=ac _ (ac _ (ac _ (ac _ (bz _ rfl))))
 show _/\_
 rw[n2,n3,n4] at b5
 rw[n1,n2] at b3
 rw[n3] at b4
 rw[n1] at b2
 rw[n4]
 exact⟨⟨_,b5,rfl⟩,k _ ⟨b5,b3,⟨_,_,b4⟩,⟨_,b1,rfl,rfl⟩,⟨_,b2,rfl,rfl⟩⟩ fun c o q=>ac _ (ac _ (ac _ (ac _ (ac _ q))))⟩
end
section
variable {g:TG}{tc:TT}{te:TE}
end
theorem xH(val:Nat->Int):∀k i,i<=k->val i<=val (argBest (fun i j=>decide (val i > val j)) k)
 |0,i,h=>by
  have:i=0:=by lia
  subst this
  exact ko _
 |k+1,i,h=>by
  have ih:=xH val k
  rw[argBest]
  split
  ·rename_i c
   have c:=ae c
   by_cases e:i=k+1
   ·rw[e];exact ko _
   ·have:=ih i (by lia)
    lia
  ·rename_i c
   have c:¬val (k+1) > val _:=fun z=>c (ai z)
   by_cases e:i=k+1
   ·rw[e];exact Int.not_lt.mp c
   ·exact ih i (by lia)
section
variable {X:Cx}
inductive bD4(K:PySem.W.Frag)(x:V)(y:V)(H:Hp)(Q:VK):Prop
 |mk:∀a b xs ys,(x= .ref a)->(y= .ref b)->(aQ K H a xs)->(aQ K H b ys)->(ys≠[])->(xs.length+ys.length<=sizeLine)->((xs=[]->Q (.ref b) H))->((xs≠[]->∀p,H p=none->Q (.ref p) (aL H p (.tup (xs++ys)))))->bD4 K x y H Q
theorem bO1:iQ X (binaryOp .Add) (bD4 X.K):=by
 intro pins s σ H x y v u Q I rx ry h
 by_cases c:∃a xs,x= .ref a/\aQ X.K H a xs/\xs≠[]
 ·obtain⟨a',xs',e,ha',hx⟩:=c
  obtain⟨a,b,xs,ys,rfl,rfl,ha,hb,hy,hz,q1,q2⟩:=h
  have e:=V.ref.inj e
  rw[<-e] at ha'
  have:=I.tuple_inj ha ha'
  subst this
  exact aI1 pins s σ H _ _ v u Q I rx ry ⟨_,b,xs,ys,rfl,rfl,ha,hb,hx,hz,fun z=>absurd z hy,fun _=>q2 hx⟩
 ·obtain⟨a,b,xs,ys,rfl,rfl,ha,hb,hy,hz,q1,q2⟩:=h
  have hx:xs=[]:=Decidable.byContradiction fun z=>c ⟨a,xs,rfl,ha,z⟩
  subst hx
  cases rx
  cases ry
  obtain⟨its,r1,p1,_⟩:=I.tuple ha
  obtain⟨its2,r2,p2,_⟩:=I.tuple hb
  cases r1
  obtain⟨⟨cls,dd,data,sl⟩,ho,hc,n,hd⟩:=id p1
  obtain⟨⟨cls2,dd2,data2,sl2⟩,ho2,hc2,n2,hd2⟩:=id p2
  simp only at hc hd hc2 hd2
  subst hc hd hc2 hd2
  exact ua ⟨_,ho,rfl⟩ ⟨_,ho2,rfl⟩ pw sk ly lg (kr _ _)
   (tuple_addW0 a b _ its2.toArray n n2 dd dd2 sl sl2 (by simp)) ⟨ho,ho2,.ref b,H,I,rfl,q1 rfl⟩
end
theorem aB8{X:Cx}(hc:autoParam (X.calm=true) Rq0._auto_1):fG X (.builtin "max") (fun xs H Q=>∃(p:Addr) (ns:List Int),xs=[.ref p]/\bA X.K H p (ns.map V.int)/\ns≠[]/\∀i∈ns,(∀n∈ns,n<=i)->Q (.int i) H):=by
 intro pins s σ H xs us Q I r h
 obtain⟨p,ns,rfl,hq,hne,q⟩:=h
 obtain⟨u,rfl,ru⟩:=iO r
 cases ru
 obtain⟨its,rv,pl,hz⟩:=I.list hq
 have it:=pl.isList
 have lp:p<s.heap.objs.size:=by
  obtain⟨o,e,_⟩:=it
  exact ax e
 have hl:=rv.length
 rw[aa] at hl
 have val:∀i v,its.toArray[i]?=some v->∃t,v=Value.int (ns.getD i 0) t:=fun i v hv=>by
  have hi:its[i]?=some v:=by simpa using hv
  have hb:i<ns.length:=by
   have:=(aq.mp hi).1
   lia
  obtain⟨u,hu,ru⟩:=rv.get (i:=i) (x:=V.int ns[i]) (by rw[di,aj hb];rfl)
  rw[hi] at hu
  cases hu
  obtain⟨t,e⟩:=ru
  exact⟨t,by rw[e];simp[List.getD,hb]⟩
 have hpos:0<its.toArray.size:=by
  rw[bq, <-hl]
  cases ns with
  |nil=>exact absurd rfl hne
  |cons _ _=>simp
 refine call_max_walk (kg it ⟨s.heap.objs.size,_,_,_,_,_,_,rfl,zc (A:=X.A.in1) (I.ok.hd hc) s.heap.objs.size p (cp lp) its.toArray,⟨⟨_,bz _ rfl,rfl,rfl⟩,it.at fun o e=>ac _ e⟩,?_,hpos,CmpOf.ints_gt (fun i=>ns.getD i 0) val,?_⟩)
 ·intro b hb
  rw[ju]
  rcases bw.mp hb with z|z
  ·rw[z];exact ia _
  ·have z:b=p:=by simpa using z
   rw[z];exact md lp
 ·intro v h' tk hv hk
  have kept:∀b o,s.heap.get? b=some o->h'.get? b=some o:=fun b o e=>hk b o (by
   intro z
   have z:b=s.heap.objs.size:=by simpa using z
   exact absurd (ax e) (by rw[z];exact gx _)) (ac _ e)
  have hv2:its.toArray[argBest (fun i j=>decide (ns.getD i 0 > ns.getD j 0)) (its.toArray.size-1)]?=some v:=hv
  have hin:argBest (fun i j=>decide (ns.getD i 0 > ns.getD j 0)) (its.toArray.size-1)<ns.length:=by
   have:its[argBest (fun i j=>decide (ns.getD i 0 > ns.getD j 0)) (its.toArray.size-1)]?=some v:=by simpa using hv2
   have:=(aq.mp this).1
   lia
  obtain⟨t,rfl⟩:=val _ _ hv
  refine⟨.int _,H,I.kept kept,⟨t,rfl⟩,q _ ?_ fun n hn=>?_⟩
  ·rw[ge,aj hin]
   exact mx hin
  obtain⟨i,hi,e⟩:=wg.mp hn
  have:=xH (fun i=>ns.getD i 0) (its.toArray.size-1) i (by rw[bq, <-hl];lia)
  rw[show ns.getD i 0=n by simp[List.getD,hi,e]] at this
  exact this
theorem aK6{K:PySem.W.Frag}{a:Addr}{xs:List V}{g:TG}{tb:TS}{D:gH}{σ:St}{H:Hp}(Pv:Nat->St->Hp->Prop)(h0:Pv 0 σ H)(hl:∀i σ H,i<=xs.length->Pv i σ H->bA K H a xs)
  (hs:∀(D':gH),∀i x σ H,xs[i]?=some x->Pv i σ H->g x σ H fun σ2 H2=>tb { D' with nx:=Pv (i+1),ct:=Pv (i+1),bk:=D'.nx } σ2 H2) (hd:∀σ H,Pv xs.length σ H->D.nx σ H) :
  ∃W:Nat->Nat->St->Hp->Prop,(∃m,W 0 m σ H)/\∀i m σ H,W i m σ H ->
   ((Itl K a).stop i H/\D.nx σ H)\/((Itl K a).go i H/\∃N:St->Hp->Prop,(∀σ' H',N σ' H'->∃m',m'<m/\W (i+1) m' σ' H')/\∀x H',(Itl K a).yld i H x H'->g x σ H' fun σ2 H2=>tb { D with nx:=N,ct:=N,bk:=D.nx } σ2 H2):=xC Pv h0 hl (hs D) hd
theorem bD8{K:PySem.W.Frag}{a:Addr}{xs:List V}{g:TG}{tb:TS}{D:gH}{σ:St}{H:Hp}(Pv:Nat->St->Hp->Prop)(h0:Pv 0 σ H)(hl:∀i σ H,i<=xs.length->Pv i σ H->aQ K H a xs)
  (hs:∀(D':gH),∀i x σ H,xs[i]?=some x->Pv i σ H->g x σ H fun σ2 H2=>tb { D' with nx:=Pv (i+1),ct:=Pv (i+1),bk:=D'.nx } σ2 H2) (hd:∀σ H,Pv xs.length σ H->D.nx σ H) :
  ∃W:Nat->Nat->St->Hp->Prop,(∃m,W 0 m σ H)/\∀i m σ H,W i m σ H ->
   ((Itt K a).stop i H/\D.nx σ H)\/((Itt K a).go i H/\∃N:St->Hp->Prop,(∀σ' H',N σ' H'->∃m',m'<m/\W (i+1) m' σ' H')/\∀x H',(Itt K a).yld i H x H'->g x σ H' fun σ2 H2=>tb { D with nx:=N,ct:=N,bk:=D.nx } σ2 H2):=bP0 Pv h0 hl (hs D) hd
theorem aB3{lo:Int}{n:Nat}{g:TG}{tb:TS}{D:gH}{σ:St}{H:Hp}(Pv:Nat->St->Hp->Prop)(h0:Pv 0 σ H)
  (hs:∀(D':gH),∀i σ H,i<n->Pv i σ H->g (.int (lo+i)) σ H fun σ2 H2=>tb { D' with nx:=Pv (i+1),ct:=Pv (i+1),bk:=D'.nx } σ2 H2) (hd:∀σ H,Pv n σ H->D.nx σ H) :
  ∃W:Nat->Nat->St->Hp->Prop,(∃m,W 0 m σ H)/\∀i m σ H,W i m σ H ->
   ((Itr lo n).stop i H/\D.nx σ H)\/((Itr lo n).go i H/\∃N:St->Hp->Prop,(∀σ' H',N σ' H'->∃m',m'<m/\W (i+1) m' σ' H')/\∀x H',(Itr lo n).yld i H x H'->g x σ H' fun σ2 H2=>tb { D with nx:=N,ct:=N,bk:=D.nx } σ2 H2):=tW Pv h0 (hs D) hd
def cG(n:Nat)(i:Int):Prop:=i.natAbs<2^n
theorem cG.mono{m n:Nat}{i:Int}(h:cG m i)(le:m<=n):cG n i:=cy h (wj (by decide) le)
theorem cG.mul{m n:Nat}{i j:Int}(h:cG m i)(k:cG n j):cG (m+n) (i*j):=by
 unfold cG at *
 rw[Int.natAbs_mul,Nat.pow_add]
 exact Nat.mul_lt_mul'' h k
theorem cG.add{n:Nat}{i j:Int}(h:cG n i)(k:cG n j):cG (n+1) (i+j):=by
 unfold cG at *
 rw[Nat.pow_succ]
 have:=Int.natAbs_add_le i j
 lia
theorem cG.pow{n:Nat}{i:Int}(h:cG n i):∀k:Nat,cG (n*k+1) (i^k)
 |0=>by unfold cG;rw[qw,Nat.mul_zero];decide
 |k+1=>by
  rw[mj]
  exact((cG.pow h k).mul h).mono (by rw[Nat.mul_succ];lia)
theorem cG.of{n:Nat}{i:Int}(h0:0<=i)(h1:i<2^n):cG n i:=by
 unfold cG
 have e:((i.natAbs:Nat):Int)=i:=wf h0
 have:((i.natAbs:Nat):Int)<((2^n:Nat):Int):=by rw[e];exact_mod_cast h1
 exact Int.ofNat_lt.mp this
def cN7(i j:Int):Prop:=∃m n,cG m i/\cG n j/\m<=100000/\n<=100000
theorem gT{X:Cx}:iQ X (binaryOp .Mult) (rI cN7 fun i j=> .int (i*j)):=opI fun _ _ _ _ _ _ _ hc q=>by
 obtain⟨m,n,a,b,hm,hn⟩:=hc
 exact mul_int q (yr (cj (ou a) (cj hm (by decide))) (cj (ou b) (cj hn (by decide))))
def cN2(i j:Int):Prop:=0<j/\∃n,cG n j/\n<=8990
theorem yF{X:Cx}:iQ X (binaryOp .FloorDiv) (rI cN2 fun i j=> .int (i / j)):=opI fun i j _ _ _ _ _ hc q=>by
 obtain⟨h0,n,h1,hn⟩:=hc
 refine xm (by lia) ?_ (.inl (oe ?_))
 ·rw[nh i (by lia)];exact q
 ·have h3:j.natAbs≠0:=by lia
  exact cy ((ym h3).mpr h1) (cj hn (by decide))
section
variable {X:Cx}
end
section
variable {prog:Program}{w:World}{A:Around}{E:Value->Shared->Prop}{s:Shared}
end
section
variable {X:Cx}{pos:Pos}
end
def ItR(K:PySem.W.Frag)(a:Addr)(n:Nat):It:=
 ⟨fun i H=>∃xs,bA K H a xs/\xs.length=n/\i<n,fun i H x H'=>H'=H/\∀ys,bA K H a ys->ys.reverse[i]?=some x,fun i H=>∃xs,bA K H a xs/\xs.length=n/\n<=i⟩
theorem aV6{P:Program}{w:World}{K:PySem.W.Frag}{tg:Expr}(a it:Addr)(n:Nat)(ne:a≠it):yO P w K tg (ItR K a n) [it] it (fun i h=>i<=n/\h.IsRevIter it a ((n:Int)-1-(i:Int))) where
 mem:=by simp
 obj:=fun i h st b hb=>by
  have e:b=it:=by simpa using hb
  subst e
  obtain⟨_,o,e,c,d⟩:=st
  exact⟨o,e,fun v z=>by rw[d] at z;cases z⟩
 keep:=fun i h h' st k=>⟨st.1,let⟨o,e,r⟩:=st.2;⟨o,k it (by simp) o e,r⟩⟩
 item:=by
  intro X hP hw hK hc i pins s σ H E I hf st hg
  subst hP hw hK
  obtain⟨xs,hq,hn,hi⟩:=hg
  obtain⟨its,rv,p,hz⟩:=I.list hq
  have hl:=rv.length
  have sz:its.toArray.size=n:=by rw[bq];lia
  obtain⟨f0,f1,f2,f3,f4,f5⟩:=hf it (by simp)
  have Wk:=wu (prog:=X.prog) (w:=X.w) (A:=X.A) (I.ok.hd hc) it a ne its.toArray
  refine Wk.item i s _ _ (by lia) ⟨by lia,by rw[sz];exact st.2,p.isList⟩ fun v h' tk pv st' kp=>?_
  have I1:aX X pins σ H { s with heap:=h',toks:=tk }:=I.turned (t':=tk) (fun b o hb e=>kp b o (by simpa using hb) e) f0 f1 f3 f4 f5
  have hx:i<xs.reverse.length:=by rw[fh];lia
  obtain⟨u,hu,ru⟩:=rv.get (show xs[xs.length-1-i]?=some (xs[xs.length-1-i]'(by lia)) from aj (by lia))
  obtain⟨o,e,c,d⟩:=id st'.2.1
  have ev:v=u:=by
   have:its.toArray[its.toArray.size-1-i]?=some v:=pv
   rw[sz, <-hn] at this
   have t2:its[xs.length-1-i]?=some v:=by simpa using this
   rw[hu] at t2
   exact(dt t2).symm
  subst ev
  refine⟨_,rfl,go_of (s:={ s with heap:=h',toks:=tk }) e c d (by decide) ⟨xs[xs.length-1-i]'(by lia),H,I1,ru,⟨rfl,fun ys hy=>?_⟩,⟨by lia,by have:=st'.2.1;rw[sz] at this;exact this⟩,fun b hb=>(hf b hb).1⟩⟩
  rw[I.list_inj hy hq,vo (by lia)]
  exact aj (by lia)
 done:=by
  intro X hP hw hK hc i pins s σ H E I hf st hg
  subst hP hw hK
  obtain⟨xs,hq,hn,hi⟩:=hg
  obtain⟨its,rv,p,hz⟩:=I.list hq
  have hl:=rv.length
  have sz:its.toArray.size=n:=by rw[bq];lia
  obtain⟨f0,f1,f2,f3,f4,f5⟩:=hf it (by simp)
  have Wk:=wu (prog:=X.prog) (w:=X.w) (A:=X.A) (I.ok.hd hc) it a ne its.toArray
  have ei:i=n:=by have:=st.1;lia
  refine Wk.done s _ _ ⟨af _,by rw[sz, <-ei];have:=st.2;rw[<-ei] at this;exact this,p.isList⟩ fun h' tk kp=>⟨rfl,I.turned (t':=tk) (fun b o hb e=>kp b o (by simpa using hb) e) f0 f1 f3 f4 f5⟩
 self:=fun _ _ _ _ _ st h=>wm st.2 h
def cT4(K:PySem.W.Frag)(te:TE):TI:=fun σ H R=>te σ H fun x H1=>∃a ys,x= .ref a/\bA K H1 a ys/\R (ItR K a ys.length) H1
theorem bC8{X:Cx}{tg:Expr}{e:Expr}{te:TE}{p2 pos2:Pos}(he:PE X e te)(g2:Gl X "reversed")(m2:X.mg "reversed"=none)(hs2:autoParam (starEach [e] X.env=[(false,eval e X.env)]) Rq0._auto_1) :
  PI X tg (.Call (.Name "reversed" p2) [e] [] pos2) (cT4 X.K te):=by
 intro pins s σ H R I h
 refine gm (iS I g2 m2 sq (fm ?_ hs2 rfl))
 rw[hs2]
 refine ik (cO (he pins s σ H _ I h) ?_);rintro u s1 ⟨x,H1,I1,r1,a,ys,ex,hq,q⟩;refine jq ?_
 subst ex
 cases r1
 obtain⟨its,rv,pl,hz⟩:=I1.list hq
 have il:=pl.isList
 have len:=rv.length
 have sz:its.toArray.size=ys.length:=by rw[bq];lia
 have aLt:a<s1.heap.objs.size:=by
  obtain⟨o,e,_⟩:=il
  exact ax e
 refine xj il ?_
 have st:(s1.heap.push (revObj a ((its.toArray.size:Int)-1))).IsRevIter s1.heap.objs.size a ((ys.length:Int)-1-((0:Nat):Int)):=by
  rw[sz,Int.natCast_zero,Int.sub_zero]
  exact⟨_,bz _ rfl,rfl,rfl⟩
 refine wm st ?_
 refine⟨s1.heap.objs.size,[s1.heap.objs.size],_,ItR X.K a ys.length,H1,rfl,I1.kept (t':=s1.toks) fun b o e=>ac _ e,aV6 a _ ys.length (cp aLt),⟨az _,st⟩,fun b hb=>?_,q⟩
 have e:b=s1.heap.objs.size:=by simpa using hb
 subst e
 exact I1.fpOk (af _) (I1.hok.fresh (af _))
theorem xM{g:TG}{tc:TT}{te:TE}{K:PySem.W.Frag}{a:Addr}{xs:List V}{Kf:List V->Hp->Prop}{σ0:St}{H1:Hp}(Pv:Nat->List V->St->Hp->Prop)(hz:xs.length<sizeLine)(h0:Pv 0 [] σ0 H1)(hb:∀i ys σ H,Pv i ys σ H->ys.length<=i)(hl:∀i ys σ H,i<=xs.length->Pv i ys σ H->bA K H a xs)
  (hs:∀i x ys σ H,xs.reverse[i]?=some x->Pv i ys σ H->g x σ H fun σ2 H2=>tc σ2 H2 fun b H3=>if b=true then te σ2 H3 fun y H4=>Pv (i+1) (ys++[y]) σ2 H4 else Pv (i+1) ys σ2 H3) (hd:∀ys σ H,Pv xs.length ys σ H->Kf ys H):rG (ItR K a xs.length) g tc te Kf σ0 H1:=by
 refine⟨fun i m ys σ H=>m=xs.length-i/\i<=xs.length/\Pv i ys σ H,⟨xs.length,rfl,az _,h0⟩,?_⟩
 rintro i m ys σ H ⟨rfl,le,p⟩
 have q:=hl i ys σ H le p
 refine⟨cx (hb _ _ _ _ p) (cx le hz),?_⟩
 by_cases c:i<xs.length
 ·exact .inr ⟨⟨xs,q,rfl,c⟩,Pv (i+1),fun ys' σ' H' p'=>⟨xs.length-(i+1),iw c (ia i),rfl,c,p'⟩,fun x H' ⟨e,y⟩=>by
   subst e
   exact hs i x ys σ _ (y xs q) p⟩
 ·obtain rfl:i=xs.length:=by lia
  exact .inl ⟨⟨xs,q,rfl,af _⟩,hd ys σ H p⟩
section
variable {X:Cx}
theorem aB0:fG X (.type "dict") (fun xs H Q=>∃(p:Addr) (kvs:List (Key×V)),xs=[.ref p]/\H p=some (.dK kvs)/\∀d,H d=none->Q (.ref d) (aL H d (.dK kvs))):=by
 intro pins s σ H xs us Q I r h
 obtain⟨p,kvs,rfl,hp,q⟩:=h
 obtain⟨u,rfl,ru⟩:=iO r
 cases ru
 obtain⟨z,hd,vs,rel,dd⟩:=uB I.hok hp
 refine kt_call_dict hd dd (by rw[<-rel.length];exact z) fun h' hm hs=>?_
 refine⟨.ref s.heap.objs.size,_,I.laid (t':=s.toks) (o:= .dK kvs) (fun b o e=>(hs.2 b (cp (ax e))).trans (ac _ e)) (af _) ?_,rfl,q _ (I.hok.fresh (af _))⟩
 exact wE z (kz.mpr (Ne.symm (cp I.big))) rel hm
inductive rCatA(x:V)(y:V)(H:Hp)(Q:VK):Prop
 |mk:∀a b xs ys,(x= .ref a)->(y= .ref b)->(H a=some (.tup xs))->(H b=some (.tup ys))->(xs.length+ys.length<=sizeLine)->(∀r H',aO H H'->H' r=some (.tup (xs++ys))->Q (.ref r) H')->rCatA x y H Q
theorem qJ:iQ X (binaryOp .Add) rCatA:=by
 intro pins s σ H x y v u Q I rx ry h
 obtain⟨a,b,xs,ys,rfl,rfl,ha,hb,hz,q⟩:=h
 by_cases hx:xs=[]
 ·subst hx
  cases rx
  cases ry
  obtain⟨its,r1,p1,_⟩:=I.tuple (aQ.of ha)
  obtain⟨its2,r2,p2,_⟩:=I.tuple (aQ.of hb)
  cases r1
  obtain⟨⟨cls,dd,data,sl⟩,ho,hc,n,hd⟩:=id p1
  obtain⟨⟨cls2,dd2,data2,sl2⟩,ho2,hc2,n2,hd2⟩:=id p2
  simp only at hc hd hc2 hd2
  subst hc hd hc2 hd2
  exact ua ⟨_,ho,rfl⟩ ⟨_,ho2,rfl⟩ pw sk ly lg (kr _ _)
   (tuple_addW0 a b _ its2.toArray n n2 dd dd2 sl sl2 (by simp)) ⟨ho,ho2,.ref b,H,I,rfl,q b H (aO.refl _) hb⟩
 ·refine aI1 pins s σ H _ _ v u Q I rx ry ⟨a,b,xs,ys,rfl,rfl,aQ.of ha,aQ.of hb,hx,hz,fun e=>?_,fun _ p hp=>q p _ (aA hp _) aB⟩
  subst e
  exact q a H (aO.refl _) (by rw[dw];exact ha)
end
section
variable {prog:Program}{w:World}{A:Around}{E:Value->Shared->Prop}{s:Shared}
end
section
variable {X:Cx}{pins:List (Addr×Obj)}{σ:St}{H:Hp}{s:Shared}{A:Around}{E:Value->Shared->Prop}
end
section
variable {prog:Program}{w:World}{K:Type} [DecidableEq K] {knd:KeyKind prog w K}{A:Around}{E:Value->Shared->Prop}{s:Shared}
end
section
variable {X:Cx}
end
theorem pJ{X:Cx}{j:Nat}{p p2:Pos}:PE X (.UnaryOp .USub (.Constant (.int 1) j p) p2) (tC (.int (-1))):=fun pins s σ H Q I h =>
 bD6 (X:=X) aA3 aD pins s σ H Q I ⟨1,rfl,h⟩
section
variable {X:Cx}
inductive bQ6(t:TT)(σ:St)(H:Hp)(Q:(Bool->Hp->Prop)):Prop
 |mk:∀P:Bool->Hp->Prop,(t σ H P)->(∀b G,P b G->Q b G)->bQ6 t σ H Q
theorem gR{e:Expr}{t:TT}(h:PT X e t):PT X e (bQ6 t):=by
 intro pins s σ H Q I ⟨P,h1,h2⟩
 refine cO (h pins s σ H P I h1) ?_;rintro b s' ⟨G,I',p⟩;exact⟨G,I',h2 b G p⟩
inductive bR7(t:TS)(D:gH)(σ:St)(H:Hp):Prop
 |mk:∀P:St->Hp->Prop,(t { D with nx:=P } σ H)->(∀σ' G,P σ' G->D.nx σ' G)->bR7 t D σ H
theorem mR{st:Stmt}{t:TS}(h:PS X st t):PS X st (bR7 t):=by
 intro pins s σ H D I ⟨P,h1,h2⟩
 refine cO (h pins s σ H _ I h1) fun f s' q=>?_
 cases f with
 |next =>
  obtain⟨σ',G,I',p⟩:=q
  exact⟨σ',G,I',h2 σ' G p⟩
 |ret v=>exact q
 |brk=>exact q
 |cont=>exact q
end
section
variable {X:Cx}{o e:Expr}{es:List Expr}{to:TE}{t:TA}{name:Str}{apos cpos:Pos}{T id:String}{r:V->List V->Hp->VK->Prop}
end
def mS(σ:List Key)(k:Key):Bool:=σ.any fun j=>decide (j=k)
theorem nR{σ:List Key}{k:Key}:mS σ k=true↔k∈σ:=by
 unfold mS
 rw[my]
 constructor
 ·rintro⟨j,m,e⟩
  rw[<-ae e];exact m
 ·exact fun m=>⟨k,m,ai rfl⟩
def ddS(σ:List Key)(k:Key):List Key:=if mS σ k=true then σ else σ++[k]
def dd(ks:List Key):List Key:=ks.foldl ddS []
theorem bI4(ks:List Key)(k:Key):dd (ks++[k])=ddS (dd ks) k:=by unfold dd;rw[oy];rfl
theorem bJ3{σ:List Key}{k j:Key}:j∈ddS σ k↔j∈σ\/j=k:=by
 unfold ddS
 split
 ·rename_i h
  constructor
  ·exact .inl
  ·rintro(z|z)
   ·exact z
   ·rw[z];exact nR.mp h
 ·simp
theorem uK:∀(ks σ:List Key),(ks.foldl ddS σ).length<=σ.length+ks.length
 |[],σ=>af _
 |k::r,σ=>by
  have:=uK r (ddS σ k)
  have h2:(ddS σ k).length<=σ.length+1:=by unfold ddS;split<;>simp
  rw[iy,bx]
  lia
theorem bY8(ks:List Key):(dd ks).length<=ks.length:=by have:=uK ks [];simpa [dd] using this
theorem pM:∀(ks σ:List Key),(σ++ks).Nodup->ks.foldl ddS σ=σ++ks
 |[],σ,_=>by simp
 |k::r,σ,h=>by
  have hk:k∉σ:=fun m=>by
   rw[jf] at h
   exact h.2.2 k m k ao rfl
  rw[iy,show ddS σ k=σ++[k] from ay (fun z=>hk (nR.mp z)),pM r (σ++[k]) (by simpa using h)]
  simp
theorem aZ0{ks:List Key}(h:ks.Nodup):dd ks=ks:=by have:=pM ks [] (by simpa using h);simpa [dd] using this
section
variable {prog:Program}{w:World}{A:Around}{R:Result->Shared->Prop}{I:Addr}{fp wr:List Addr}{G:Array GenState->Array GenState->Prop}{n:Nat}{P:Nat->Value->Prop}{St:Nat->Shared->Prop}
theorem aO1(W:WalksS prog w A.in1 I fp wr G n P St)(S:Addr)(hSf:S∉fp)(ks:List Key)(hn:ks.length=n)(hval:∀i v,P i v->∃k,ks[i]?=some k/\jX k v=true)(hb:n+1<scanBound) :
  ∀(k i:Nat) (s:Shared),n-i=k->i<=n->St i s ->
   s.heap.SetOf (bK prog w) S (mS (dd (ks.take i))) (dd (ks.take i)).length ->
   (∀s',Moved (S::wr) G s s'->s'.heap.SetOf (bK prog w) S (mS (dd ks)) (dd ks).length->R (.ok (.ret .none)) s') ->
   codeAny (model prog w) A (.builtin "set.update.loop" ⟨[.ref S,.ref I],[]⟩) R s:=by
 have hSw:S∉wr:=fun h=>hSf (W.sub _ h)
 have hsub:∀b∈wr,b∈S::wr:=fun b hb=>ak _ hb
 intro k
 induction k with
 |zero =>
  intro i s hk hi hst hS hR
  have hin:i=n:=by lia
  subst hin
  refine jz uo ?_
  rw[jo ow _]
  show wpAny _ A.in1 (pyNext (.ref I)>>=_) _ _ s
  refine ag (W.done s _ _ hst fun s' hm=>?_)
  show wpAny _ A.in1 (ret Value.none) _ _ s'
  rw[<-hn,cq] at hS
  exact bv (hR s' (hm.mono hsub) (by
   obtain⟨o,es,ep,t,ho,bN⟩:=hS
   exact⟨o,es,ep,t,hm.heap S _ hSw ho,bN⟩))
 |succ k ih =>
  intro i s hk hi hst hS hR
  have hlt:i<n:=by lia
  refine jz uo ?_
  rw[jo ow _]
  show wpAny _ A.in1 (pyNext (.ref I)>>=_) _ _ s
  refine ag (W.item i s _ _ hlt hst fun v s' hP hst' hm=>?_)
  obtain⟨kk,hkk,his⟩:=hval i v hP
  have hS':s'.heap.SetOf (bK prog w) S (mS (dd (ks.take i))) (dd (ks.take i)).length:=by
   obtain⟨o,es,ep,tb,ho,bN⟩:=hS
   exact⟨o,es,ep,tb,hm.heap S _ hSw ho,bN⟩
  have hsc:v.scannable=true:=by rcases cM his with⟨i,t,rfl,rfl⟩|⟨x,t,rfl,rfl⟩<;>rfl
  show wpAny _ A.in1 (holding [v] (setAdd S v)>>=_) _ _ s'
  refine ag (jr ?_)
  unfold setAdd
  refine jr ?_
  refine ag ((bK prog w).pyHash (k:=kk) his ?_)
  have hroom:(dd (ks.take i)).length+1<scanBound:=by have:=bY8 (ks.take i);rw[dj] at this;lia
  refine wpAny_setAddHashed_of (knd:=bK prog w) (s:={ s' with toks:=s'.toks+1 }) his hsc hS' hroom fun h' hsb hS2=>?_
  have hSi:h'.SetOf (bK prog w) S (mS (dd (ks.take (i+1)))) (dd (ks.take (i+1))).length:=by
   have e:ks.take (i+1)=ks.take i++[kk]:=by rw[vp,hkk];rfl
   rw[e,bI4]
   have e1:(fun k'=>mS (dd (ks.take i)) k' || decide (k'=kk))=mS (ddS (dd (ks.take i)) kk):=funext fun k'=>by
    rw[jy,Bool.or_eq_true,gi,nR,nR]
    exact bJ3.symm
   have e2:(if mS (dd (ks.take i)) kk=true then (dd (ks.take i)).length else (dd (ks.take i)).length+1)=(ddS (dd (ks.take i)) kk).length:=by
    unfold ddS
    by_cases c:mS (dd (ks.take i)) kk=true
    ·rw[br c,br c]
    ·rw[ay c,ay c,ap,ej]
   rw[<-e1, <-e2]
   exact hS2
  refine bv ⟨pi ow _,ih (i+1) _ (by lia) hlt (W.frame _ s' _ _ hst' (iq _) fun b hb o e=>?_) hSi fun s'' hm'' hS''=>?_⟩
  ·rw[hsb.2 b (fun h:b=S=>hSf (by rw[<-h];exact hb))];exact e
  ·refine hR s'' (Moved.trans W.gtrans ((hm.mono hsub).then_heap (iq _) fun b o hb e=>?_) hm'') hS''
   rw[hsb.2 b (fun h:b=S=>hb (by rw[h];exact ao))];exact e
end
theorem yG{T newId initId:String}{prog:Program}{w:World}{A:Around}{E:Value->Shared->Prop}{s:Shared}{args:List Value}{Q Q₁:Value->Shared->Prop}(ft:TypeCalled T newId initId)(hct:checkTypeCall T ⟨args,[]⟩=pure ())
  (hn:codeAny (model prog w) A.in1 (.call (.builtin newId) ⟨.type T::args,[]⟩) (wants Q₁ E) s)
  (hi:∀obj t,Q₁ obj t->t.TypeIs obj T/\codeAny (model prog w) A.in1 (.call (.builtin initId) ⟨obj::args,[]⟩) (wants (fun r u=>r= .none/\Q obj u) E) t) :
  wpAny (model prog w) A (call (.type T) args) Q E s:=by
 have z1:=ft.notType;have z2:=ft.canCreate;have z3:=ft.made;have z4:=ft.sub
 obtain⟨c,tl,z5⟩:=ft.mro
 refine vy (codeAny_of_tree (show wpAny _ _ (callAny (.type T) _) _ _ _ from bv ⟨Code.quiet_builtin _ (by decide),jz F.entry_type_call ?_⟩))
 rw[Around.under_plain (weight_type_call_type T args []) rfl]
 repeat (any_goals (first|assumption|wp_step))
 refine kq hn fun r t hr=>?_
 match r,hr with
 |.error e,hr=>exact hr
 |.ok .next,hr=>exact hr.elim
 |.ok .brk,hr=>exact hr.elim
 |.ok .cont,hr=>exact hr.elim
 |.ok (.ret obj),hr =>
  obtain⟨hT,hc⟩:=hi _ _ hr
  have y1:=ft.init.lookup;have y2:=ft.init.bind obj
  repeat (any_goals (first|assumption|wp_step))
  refine kq hc fun r2 t2 hr2=>?_
  match r2,hr2 with
  |.error e,hr2=>exact hr2
  |.ok .next,hr2=>exact hr2.elim
  |.ok .brk,hr2=>exact hr2.elim
  |.ok .cont,hr2=>exact hr2.elim
  |.ok (.ret r),hr2 =>
   obtain⟨rfl,hq⟩:=hr2
   repeat (any_goals (first|assumption|wp_step))
theorem aU5:isSubtype (.type "tuple") (.type "set")=pure false:=by rw[vn];kernel_rfl
theorem zE:isSubtype (.type "tuple") (.type "frozenset")=pure false:=by rw[vn];kernel_rfl
section
variable {prog:Program}{w:World}{A:Around}{E:Value->Shared->Prop}{s:Shared}
abbrev fL(led:Bool):Obj:={ cls:= .type "set",dict:=none,data:= .set #[] 0 (.fresh 0 0 led) }
theorem aO5{l:Addr}{items:Array Value}{ks:List Key}{Q:Value->Shared->Prop}(hh:A.handled=none)(hl:s.heap.IsTuple l items)(hk:ks.length=items.size)(hi:∀(i:Nat) (v:Value),items[i]?=some v->∃k,ks[i]?=some k/\jX k v=true)(hb:items.size+1<scanBound)
  (q:∀(h':Heap) (tk:Nat),h'.SetOf (bK prog w) s.heap.objs.size (mS (dd ks)) (dd ks).length->(∀b o,s.heap.get? b=some o->h'.get? b=some o)->Q (.ref s.heap.objs.size) { s with heap:=h',toks:=tk }) :
  wpAny (model prog w) A (call (.type "set") [.ref l]) Q E s:=by
 have lS:l<s.heap.objs.size:=by obtain⟨o,e,_⟩:=hl;exact ax e
 refine yG (Q₁:=fun obj t=>∃led,obj= .ref s.heap.objs.size/\t={ s with heap:=s.heap.push (fL led) }) F.called_set (F.typeCall_set_1 _) (code_set_new_1 _ fun led=>⟨led,rfl,rfl⟩) ?_
 rintro _ _ ⟨led,rfl,rfl⟩
 have gS:(s.heap.push (fL led)).get? s.heap.objs.size=some (fL led):=bz _ rfl
 have tS:Shared.TypeIs { s with heap:=s.heap.push (fL led) } (.ref s.heap.objs.size) "set":=⟨_,gS,rfl⟩
 have tl:(s.heap.push (fL led)).IsTuple l items:=hl.at fun o e=>ac _ e
 refine⟨tS,codeAny_call_builtin F.called_set.init.plain F.entry_set_init (check_set_init_1 tS ?_)⟩
 obtain⟨⟨oc,od,oda,osl⟩,ho,hc,n0,hd⟩:=id tl
 dsimp only at hc hd
 subst hc hd
 have f1:=aU5;have f2:=zE
 have f3:(Value.type "tuple" == Value.type "dict")=false:=by decide
 have T1:Heap.IsTuple (Shared.heap { s with heap:=s.heap.push (fL led) }) l items:=tl
 unfold Builtin.«set.__init__» noKeywords Builtin.Frozenset.updateFrom
 wp_walk using xc T1
 have z1:(s.heap.push (fL led)).objs.size=s.heap.objs.size+1:=ju ..
 have hne:l≠(s.heap.push (fL led)).objs.size:=by rw[z1];exact cp (md lS)
 have hSf:s.heap.objs.size∉[(s.heap.push (fL led)).objs.size,l]:=by
  rw[z1]
  simp only[List.mem_cons,List.not_mem_nil,or_false,not_or]
  exact⟨cp (ia _),dv lS⟩
 have gS2:((s.heap.push (fL led)).push { cls:= .type "tuple_iterator",data:= .fields #[.ref l,.int 0 0] }).get? s.heap.objs.size=some (fL led):=ac _ gS
 refine aO1 (A:=A.in1.in1) ((Walks.tuple (show A.in1.in1.in1.handled=none from hh) _ l hne items).toS) s.heap.objs.size hSf ks hk hi hb (items.size-0) 0 _ rfl (az _) ⟨⟨_,bz _ rfl,rfl,rfl⟩,tl.at fun o e=>ac _ e⟩
  ⟨_,_,_,_,gS2,⟨rfl,rfl,rfl⟩,rfl,fun e he=>absurd he (by simp),fun k=>⟨fun z=>absurd z (by simp[dd,mS]),(by rintro⟨e,he,_⟩;exact absurd he (by simp))⟩,by decide,rfl,rfl⟩ fun s' hm hS'=>?_
 obtain⟨h',g',d',tk',os'⟩:=s'
 obtain rfl:g'=s.gens:=hm.gens
 obtain rfl:d'=s.drawn:=hm.drawn
 obtain rfl:os'=s.os:=hm.os
 refine bv (bv ⟨rfl,q h' tk' hS' fun b o e=>hm.heap b o ?_ (ac _ (ac _ e))⟩)
 have bl:=ax e
 rw[z1]
 simp only[List.mem_cons,List.not_mem_nil,or_false,not_or]
 exact⟨cp bl,cp (md bl)⟩
end
section
variable {X:Cx}
def xB(P:Program)(w:World)(a:Addr)(ks:List Key):HO:= .ext fun h=>h.SetOf (bK P w) a (mS (dd ks)) (dd ks).length
theorem tQ:∀{ks:List Key}{us:List Value},bH (ks.map kV) us->∀(i:Nat) (v:Value),us[i]?=some v->∃k,ks[i]?=some k/\jX k v=true
 |[],_,h,i,v,e=>by cases h;simp at e
 |k::r,_,h,i,v,e=>by
  rw[ef] at h
  cases h with
  |cons h1 h2 =>
   cases i with
   |zero =>
    simp only[List.getElem?_cons_zero,Option.some.injEq] at e
    subst e
    cases k with
    |inl n=>obtain⟨t,rfl⟩:=h1;exact⟨_,rfl,lJ n t⟩
    |inr x=>obtain⟨t,rfl⟩:=h1;exact⟨_,rfl,lG x t⟩
   |succ i=>exact tQ h2 i v (by simpa using e)
theorem aP4(P:Program)(w:World){k:Nat}(hr:dI k X.A)(hP:autoParam (X.prog=P) Rq0._auto_1)(hw:autoParam (X.w=w) Rq0._auto_1):fG X (.type "set") (fun xs H Q=>∃(p:Addr) (ks:List Key),xs=[.ref p]/\aQ X.K H p (ks.map kV)/\ks.length<=1000/\∀a,H a=none->Q (.ref a) (aL H a (xB P w a ks))):=by
 subst hP hw
 intro pins s σ H xs us Q I r h
 obtain⟨p,ks,rfl,hp,hl,q⟩:=h
 obtain⟨u,rfl,ru⟩:=iO r
 cases ru
 obtain⟨its,rv,pl,_⟩:=I.tuple hp
 have ln:=rv.length
 rw[aa] at ln
 refine aO5 (items:=its.toArray) (ks:=ks) hr.hd pl (by rw[bq];exact ln) (fun i v e=>tQ rv i v (by simpa using e)) (by rw[List.size_toArray, <-ln];unfold scanBound;lia) fun h' tk hS kp=>?_
 refine⟨.ref s.heap.objs.size,_,I.laid (t':=tk) (o:=xB X.prog X.w s.heap.objs.size ks) kp (af _) ?_,rfl,q _ (I.hok.fresh (af _))⟩
 refine⟨hS,?_,(by rintro h1 h2 ⟨o,es,ep,t,ho,bN⟩ k2;exact⟨o,es,ep,t,k2 o ho,bN⟩)⟩
 obtain⟨o,_,_,_,ho,_⟩:=hS
 exact⟨o,ho⟩
theorem aM3(P:Program)(w:World)(hP:autoParam (X.prog=P) Rq0._auto_1)(hw:autoParam (X.w=w) Rq0._auto_1):fG X (.builtin "len") (fun xs H Q=>∃(a:Addr) (ks:List Key),xs=[.ref a]/\H a=some (xB P w a ks)/\Q (.int (dd ks).length) H):=by
 subst hP hw
 intro pins s σ H xs us Q I r h
 obtain⟨a,ks,rfl,ha,q⟩:=h
 obtain⟨u,rfl,ru⟩:=iO r
 cases ru
 obtain⟨⟨o,es,ep,t,ho,hex,hd,_,_,hb,hf,hn⟩,_,_⟩:=(show cR X.prog X.w H s.heap a (xB X.prog X.w a ks) from I.hok a _ ha)
 rw[<-hn] at q
 exact call_len_set ho hex hd hf (by unfold scanBound at hb;lia) ⟨.int es.size,H,I.tok _,⟨_,rfl⟩,q⟩
end
theorem aP6{d:Addr}{o:Obj}{kvs:List (Key×V)}{g:TG}{tb:TS}{D:gH}{σ:St}{H:Hp}(Pv:Nat->St->Hp->Prop)(h0:Pv 0 σ H)(hl:∀i σ H,i<=kvs.length->Pv i σ H->H d=some (.frz o (.dK kvs)))
  (hs:∀(D':gH),∀i k v σ H,kvs[i]?=some (k,v)->Pv i σ H->g (kV k) σ H fun σ2 H2=>tb { D' with nx:=Pv (i+1),ct:=Pv (i+1),bk:=D'.nx } σ2 H2) (hd:∀σ H,Pv kvs.length σ H->D.nx σ H) :
  ∃W:Nat->Nat->St->Hp->Prop,(∃m,W 0 m σ H)/\∀i m σ H,W i m σ H ->
   ((Itd d o kvs).stop i H/\D.nx σ H)\/((Itd d o kvs).go i H/\∃N:St->Hp->Prop,(∀σ' H',N σ' H'->∃m',m'<m/\W (i+1) m' σ' H')/\∀x H',(Itd d o kvs).yld i H x H'->g x σ H' fun σ2 H2=>tb { D with nx:=N,ct:=N,bk:=D.nx } σ2 H2):=by
 refine⟨fun i m σ H=>m=kvs.length-i/\i<=kvs.length/\Pv i σ H,⟨_,rfl,az _,h0⟩,?_⟩
 rintro i m σ H ⟨rfl,hi,p⟩
 by_cases c:i<kvs.length
 ·right
  refine⟨⟨c,hl i σ H hi p⟩,Pv (i+1),fun σ' H' p'=>⟨kvs.length-(i+1),by lia,rfl,c,p'⟩,?_⟩
  rintro x H' ⟨rfl,k,v,e,rfl⟩
  exact hs D i k v σ _ e p
 ·left
  have e:i=kvs.length:=by lia
  exact⟨⟨by lia,hl i σ H hi p⟩,hd σ H (by rw[<-e];exact p)⟩
theorem bO9(n:Nat):ixN (n+1) (-1)=some n:=by
 unfold ixN
 rw[ay (by decide),br (by lia)]
 exact eo some (by lia)
theorem rK{X:Cx}:cH5 X (fun o i H Q=>∃p xs v,o= .ref p/\i= .int (-1)/\bA X.K H p (xs++[v])/\Q v H):=by
 intro pins s σ H o i ov iv Q I ro ri h
 obtain⟨p,xs,v,rfl,rfl,hq,q⟩:=h
 cases ro
 obtain⟨t,rfl⟩:=ri
 obtain⟨its,r,pl,hz⟩:=I.list hq
 obtain⟨w,ew,rw'⟩:=r.get (i:=xs.length) (x:=v) (by simp)
 have hl:=r.length
 rw[ap,bx,jn] at hl
 have hn:=lA
 have hj:(-1+(its.toArray.size:Int)).toNat=xs.length:=by rw[bq];lia
 exact vf pl.isList (by decide) (by rw[bq];lia) (by lia) (by rw[hj];simpa using ew) ⟨v,H,I,rw',q⟩
theorem sD{X:Cx}:cB4 X (fun o i v H Q=>∃p xs y,o= .ref p/\i= .int (-1)/\H p=some (.lst (xs++[y]))/\Q (aL H p (.lst (xs++[v])))):=by
 intro pins s σ H o i v ov iv u Q I ro ri rv h
 obtain⟨p,xs,y,rfl,rfl,hp,q⟩:=h
 refine aT7 pins s σ H _ _ v ov iv u Q I ro ri rv ⟨p,_,-1,xs.length,rfl,rfl,hp,?_,?_⟩
 ·rw[ap]
  exact bO9 _
 ·rw[List.set_append_right _ _ (af _),Nat.sub_self]
  exact q
section
variable {prog:Program}{w:World}{A:Around}{E:Value->Shared->Prop}{s:Shared}{a:Addr}{S:Key->Bool}{n:Nat}{led:Bool}
end
theorem aW7{vs:List V}{us:List Value}(hl:us.length=vs.length)(h:∀(j:Nat) (u:Value),us[j]?=some u->∃v,vs[j]?=some v/\bF v u):bH vs us:=by
 induction vs generalizing us with
 |nil=>cases us with
  |nil=>exact .nil
  |cons _ _=>simp at hl
 |cons v vs ih=>cases us with
  |nil=>simp at hl
  |cons u us =>
   obtain⟨v',e,r⟩:=h 0 u rfl
   cases e
   exact .cons r (ih (by simpa using hl) fun j w e=>h (j+1) w (by simpa using e))
theorem zM{prog:Program}{w:World}{A:Around}{E:Value->Shared->Prop}{s:Shared}{T:String}{r d:Addr}{n:Nat}{P:Nat->Value->Prop}{OK:Heap->Prop}{R:List Value->Shared->Prop}
  (K:PySem.W.KdlSrc prog w T r d n P OK) (hh:A.handled=none) (hok:OK s.heap) (hn:n<=sizeLine)
  (h:∀(h':Heap) (tk:Nat) (acc:Array Value),(∀b o,s.heap.get? b=some o->h'.get? b=some o)->s.heap.objs.size<=h'.objs.size->ItemsOf P acc n->R acc.toList { s with heap:=h',toks:=tk }) :
  wpAny (model prog w) A (collect (.ref r)) R E s:=by
 let L:=s.heap.objs.size
 let G:Result->Shared->Prop:=fun q s'=>∃(g:Heap) (tk:Nat) (acc:Array Value) (c:Nat),q= .ok (.ret (.ref L))/\s'={ s with heap:=g,toks:=tk }/\(∀b o,s.heap.get? b=some o->g.get? b=some o)/\g.get? L=some { cls:= .type "list",dict:=none,data:= .seq acc c,slots:= #[] }/\ItemsOf P acc n
 unfold collect
 refine ag (wpAny_runValue (jz entry_proto_collect' ?_))
 rw[jo PySem.F.plain_proto_collect _]
 refine(show wpAny _ A.in1 (newList []>>=fun l=>again (.builtin "list.__iadd__" ⟨[l,.ref r],[]⟩)) _ _ s from ag (iu (bv ⟨pi uq _,jz entry_list_iadd' ?_⟩)))
 rw[jo uq _]
 have lt:=K.there _ hok
 refine(show wpAny _ A.in1 (Builtin.List.listExtendWith (.ref L) (.ref r) (.ref L)) _ _ _ from fg (PySem.W.kdl_extend (A:=A) (R:=G) (s:={ s with heap:=s.heap.push { cls:= .type "list",data:= .seq ([]:List Value).toArray } }) K hh (K.keep _ _ hok fun b _ o e=>ac _ e) L (dv lt.1) (dv lt.2) (.ref L) 0 (bz _ rfl)
  (fun g tk acc c hk hS ha=>⟨g,tk,acc,c,rfl,rfl,fun b o e=>hk b o (cp (ax e)) (ac _ e),hS,ha⟩) hn) (fun f s' x=>?_) (by rintro e s' ⟨_,_,_,_,z,_⟩;exact nomatch z))
 have last:∀(g:Heap) (tk:Nat) (acc:Array Value) (c:Nat),(∀b o,s.heap.get? b=some o->g.get? b=some o)->g.get? L=some { cls:= .type "list",dict:=none,data:= .seq acc c,slots:= #[] }->ItemsOf P acc n ->
   wpAny (model prog w) A (load L>>=fun o=>match o.data with | .seq xs _=>pure xs.toList|_=>unsupported "internal:collect") R E { s with heap:=g,toks:=tk }:=
  fun g tk acc c hk hS ha=>ag (wpAny_load hS (bv (h g tk acc hk (cu (ax hS)) ha)))
 cases f with
 |done f =>
  obtain⟨g,tk,acc,c,e,rfl,hk,hS,ha⟩:=x
  cases e
  exact last g tk acc c hk hS ha
 |again c₁ =>
  refine⟨x.1,kq x.2 fun q s₂ y=>?_⟩
  obtain⟨g,tk,acc,c,rfl,rfl,hk,hS,ha⟩:=y
  exact last g tk acc c hk hS ha
section
variable {prog:Program}{w:World}{A:Around}{E:Value->Shared->Prop}{s:Shared}
end
section
variable {prog:Program}{w:World}{A:Around}{E:Value->Shared->Prop}{s:Shared}{a:Addr}{o:Obj}{es:Array (Int×Value)}{ep:Nat}{t:SetTable}
end
section
variable {prog:Program}{w:World}{A:Around}{E:Value->Shared->Prop}{s:Shared}{a it tp:Addr}{o:Obj}{es:Array (Int×Value)}{ep:Nat}{t:SetTable}
end
section
variable {prog:Program}{w:World}{A:Around}{E:Value->Shared->Prop}{s:Shared}{d it:Addr}{o:Obj}{es:Array DictEntry}{ep i:Nat}
end
section
variable {prog:Program}{w:World}{A:Around}{E:Value->Shared->Prop}{s:Shared}
end
section
variable {X:Cx}
end
section
variable {X:Cx}
end
open PySem PySem.Spec PyProof.Rows PySem.MeetsSeq
section
variable {prog:Program}{w:World}{A:Around}{E:Value->Shared->Prop}{s:Shared}
end
section
variable {prog:Program}{w:World}{A:Around}{E:Value->Shared->Prop}{s:Shared}
end
section
variable {prog:Program}{w:World}{A:Around}{R:Result->Shared->Prop}{I:Addr}{fp wr:List Addr}{n:Nat}{P:Nat->Value->Prop}{St:Nat->Heap->Prop}{B:Heap}
end
open PySem PySem.Spec PyProof.Rows
section
variable {prog:Program}{w:World}{A:Around}{E:Value->Shared->Prop}{s:Shared}{a it tp:Addr}{o:Obj}{es:Array (Int×Value)}{ep:Nat}{t:SetTable}
end
section
variable {prog:Program}{w:World}{A:Around}{E:Value->Shared->Prop}{s:Shared}{a tp:Addr}{o:Obj}{es:Array (Int×Value)}{ep:Nat}{t:SetTable}
end
theorem aX.draw{X:Cx}{pins:List (Addr×Obj)}{σ:St}{H:Hp}{s:Shared}(I:aX X pins σ H s)(d':Drawn):aX X pins σ H { s with drawn:=d' }:=
 ⟨I.ok,I.os,I.bare,I.base,I.loc,I.cell,I.free,I.freeC,I.pin,I.hok,I.len⟩
section
variable {prog:Program}{w:World}{A:Around}{E:Value->Shared->Prop}{s:Shared}{a:Addr}{o:Obj}{es:Array (Int×Value)}{ep:Nat}{t:SetTable}
end
section
variable {prog:Program}{w:World}{A:Around}{R:Result->Shared->Prop}{I:Addr}{fp wr:List Addr}{G:Array GenState->Array GenState->Prop}{n:Nat}{P:Nat->Value->Prop}{St:Nat->Shared->Prop}{led:Bool}
end
section
variable {prog:Program}{w:World}{A:Around}{E:Value->Shared->Prop}{s:Shared}
end
theorem qZ:∀{ts:List Str}{us:List Value},bH (ts.map V.str) us->∀(i:Nat) (v:Value),us[i]?=some v->∃x t,ts[i]?=some x/\v= .str x t
 |[],_,h,i,v,e=>by cases h;simp at e
 |x::r,_,h,i,v,e=>by
  rw[ef] at h
  cases h with
  |cons h1 h2 =>
   cases i with
   |zero =>
    simp only[List.getElem?_cons_zero,Option.some.injEq] at e
    subst e
    obtain⟨t,rfl⟩:=h1
    exact⟨x,t,rfl,rfl⟩
   |succ i=>exact qZ h2 i v (by simpa using e)
def leS(a b:Str):Prop:=a.cps.toList<=b.cps.toList
theorem cD3{a b:Str}(h:ltCps b.cps.toList a.cps.toList=false):leS a b:=by
 rw[ltCps_eq] at h
 exact List.not_lt.mp (xp h)
theorem aP8{a b c:Str}(h:leS a b)(k:leS b c):leS a c:=List.le_trans h k
theorem wJ{a b:Str}(h:leS a b)(k:leS b a):a=b:=by
 have e:a.cps.toList=b.cps.toList:=List.le_antisymm h k
 cases a
 cases b
 exact eo Str.mk (ue.mp e)
theorem uC:∀(p:Str) (l:List Str),risingS p l=true->(p::l).Pairwise leS
 |p,[],_=>by simp
 |p,x::r,h=>by
  have h:(!ltCps x.cps.toList p.cps.toList&&risingS x r)=true:=h
  rw[mw] at h
  have ih:=uC x r h.2
  have px:leS p x:=cD3 (by simpa using h.1)
  refine xq.mpr ⟨fun y hy=>?_,ih⟩
  rcases bw.mp hy with e|e
  ·rw[e];exact px
  ·exact aP8 px ((xq.mp ih).1 y e)
theorem uM{l:List Str}(h:sortedS l=true):l.Pairwise leS:=by
 cases l with
 |nil=>exact yf
 |cons p r=>exact uC p r h
theorem zN{l m:List Str}(nl:l.Nodup)(nm:m.Nodup)(h:∀x,x∈l↔x∈m)(sl:sortedS l=true)(sm:sortedS m=true):l=m:=
 List.Perm.eq_of_pairwise (le:=leS) (fun _ _ _ _ x y=>wJ x y) (uM sl) (uM sm) ((List.perm_ext_iff_of_nodup nl nm).mpr fun x=>h x)
theorem nM:∀{vs:List Value}{ss:List Str},StrsAre vs ss->bH (ss.map V.str) vs
 |[],[],_=> .nil
 |v::vs,x::ss,h=>by
  have e:=h.all v ao
  have q:=h.strs
  rw[ef] at q
  obtain⟨y,t,rfl⟩:=e
  injection q with q1 q2
  cases q1
  refine .cons ⟨t,rfl⟩ (nM ?_)
  have:=strsAre_map vs fun v hv=>h.all v (ak _ hv)
  rw[q2] at this
  exact this
 |[],_::_,h=>by have:=h.strs;simp at this
 |_::_,[],h=>by have:=h.strs;simp at this
section
variable {X:Cx}{k:Nat}
theorem aN8{pins:List (Addr×Obj)}{σ:St}{H:Hp}{s:Shared}{Q:VK}{h':Heap}{d':Drawn}{t:Nat}{vs:List Value}{ss:List Str}(I:aX X pins σ H s)(hS:StrsAre vs ss)(h64:vs.length<64)(keep:∀b o,s.heap.get? b=some o->h'.get? b=some o)(le:s.heap.objs.size<=h'.objs.size)
  (q:∀ts':List Str,ts'.Perm ss->sortedS ts'=true->∀l,H l=none->Q (.ref l) (aL H l (.lst (ts'.map V.str)))) :
  wpAny (model X.prog X.w) X.A.in1 (newList vs>>=fun l=>holding [l] (call (.builtin "list.sort") [l] [])>>=fun _=>ret l) (fun fin s'=>∃v,fin= .done (.ret v)/\EP X pins σ Q v s') X.xe { s with heap:=h',drawn:=d',toks:=t }:=by
 refine ag (wpAny_newList ?_ (by rw[pf];lia))
 have hoL:(h'.push (seqObj "list" vs.toArray 0)).get? h'.objs.size=some (seqObj "list" vs.toArray 0):=bz _ rfl
 refine ag (jr (ku slot_list_sort ⟨_,hoL,rfl⟩ entry_list_sort (list_sort_treeK strKind_oneLt hoL hS.keysOf (fun v₁ v₂ bN e=>keyKind_strs (by rw[<-e];exact hS)) h64 fun st' hp hs=>⟨_,rfl,?_⟩) (args_list_sort _)))
 obtain⟨ss',a1,a2,a3⟩:=sorted_out_str hS hp hs
 refine bv ⟨_,rfl,?_⟩
 obtain⟨e,he⟩:=sortedHeap_at (h:=h'.push (seqObj "list" vs.toArray 0)) (vs:=vs) (out:=(arrOf st').map (·.2)) hoL
 refine⟨.ref h'.objs.size,_,(I.draw d').laid (t':=t) (o:= .lst (ss'.map V.str)) (fun b o z=>?_) le ?_,rfl,q ss' a2 a3 _ (I.hok.fresh le)⟩
 ·have z':=keep b o z
  have hlt:=ax z'
  rw[sortedHeap_old (cp hlt) (by rw[size_push'];exact md hlt)]
  exact ac _ z'
 ·refine⟨?_,((arrOf st').map (·.2)).toList,e,nM a1,by rw[qu];exact he⟩
  rw[aa,a2.length_eq, <-hS.strs,aa]
  exact cu (aR (by lia))
theorem xO(hr:dI k X.A):fG X (.builtin "sorted") (fun xs H Q=>∃(d:Addr) (kvs:List (Key×V)) (ts:List Str),xs=[.ref d]/\H d=some (.dK kvs)/\kvs.map (fun e=>kV e.1)=ts.map V.str/\kvs.length<64 /\
  ∀ts':List Str,ts'.Perm ts->sortedS ts'=true->∀l,H l=none->Q (.ref l) (aL H l (.lst (ts'.map V.str)))):=by
 intro pins s σ H xs us Q I r h
 obtain⟨d,kvs,ts,rfl,hd,hk,hz,q⟩:=h
 obtain⟨u,rfl,ru⟩:=iO r
 cases ru
 obtain⟨z,lo,vs,rel,o,es,ep,h1,h2,h3,h4,h5,h6⟩:=uB I.hok hd
 have hl:kvs.length=vs.length:=ii rel
 have sl:vs.length<=sizeLine:=by rw[<-hl];exact z
 refine Calls.call_function_entry kind_sorted plain_sorted entry_sorted (args_sorted1 _) ?_
 unfold Builtin.«sorted»
 refine ag (m:=checkCount "sorted" 1 1 _) (bv ?_)
 refine ag (zM (A:=X.A.in1) (PySem.W.kdl_dict (knd:=bK X.prog X.w) (kvs:=vs) (ep:=ep) lo) hr.hd ⟨o,es,h1,h2,h3,h4,h5,h6⟩ sl fun h' tk acc hkeep le hacc=>?_)
 have al:acc.toList.length=vs.length:=by rw[jt];exact hacc.1
 have hV:bH (ts.map V.str) acc.toList:=by
  refine aW7 (by rw[al, <-hk,aa,hl]) fun j u e=>?_
  obtain⟨k,x,e1,e2⟩:=hacc.2 j u (by rw[<-mf];exact e)
  have hj:j<kvs.length:=by rw[hl];exact(aq.mp e1).1
  obtain⟨u',e3,_⟩:=zZ (i:=j) (k:=kvs[j].1) (v:=kvs[j].2) rel (by simp[hj])
  rw[e1] at e3
  cases e3
  refine⟨kV kvs[j].1,?_,aH6 e2⟩
  rw[<-hk,di,aj hj]
  rfl
 have hS:StrsAre acc.toList ts:=by
  have a1:=strsAre_map acc.toList fun v hv=>by
   obtain⟨i,hi,rfl⟩:=rg hv
   obtain⟨x,t,_,q⟩:=qZ hV i _ (aj hi)
   exact⟨x,t,q⟩
  have a2:acc.toList.map strOf=ts:=by
   refine List.ext_getElem (by rw[aa];have:=hV.length;rw[aa] at this;exact this.symm) fun i p q'=>?_
   have hi:i<acc.toList.length:=by simpa using p
   obtain⟨x,t,e,q⟩:=qZ hV i _ (aj hi)
   rw[List.getElem_map,q]
   rw[aj q'] at e
   exact(dt e).symm
  rw[a2] at a1
  exact a1
 have:=aN8 (d':=s.drawn) (t:=tk) I hS (by rw[al, <-hl];exact hz) hkeep le q
 exact this
end
def cL6(td ty tx:TE):TE:=fun σ H Q=>td σ H fun x H1=>∃a,x= .ref a/\IsD H1 a/\ty σ H1 fun y H2=>tx σ H2 fun z H3=>∃kvs k,H3 a=some (.dK kvs)/\y=kV k/\kvs.length<sizeLine /\
 (∀v,cJ kvs k=some v->Q v H3)/\(cJ kvs k=none->Q z (aL H3 a (.dK (cZ kvs k z))))
theorem aW8{X:Cx}{pins:List (Addr×Obj)}{σ:St}{H:Hp}{s:Shared}{a:Addr}{kvs:List (Key×V)}{k:Key}{x:V}{u r:Value}{A:Around}{E:Value->Shared->Prop}{Q:VK}(I:aX X pins σ H s)(e:H a=some (.dK kvs))(ry:bF (kV k) u)(rx:bF x r)(hz:kvs.length<sizeLine)
  (h1:∀v,cJ kvs k=some v->Q v H) (h2:cJ kvs k=none->Q x (aL H a (.dK (cZ kvs k x)))):wpAny (model X.prog X.w) A (call (.builtin "dict.setdefault") [.ref a,u,r]) (EP X pins σ Q) E s:=by
 obtain⟨z,hd,vs,rel,dd⟩:=uB I.hok e
 refine xf se dd.typeIs PySem.F.entry_dict_setdefault (PySem.F.args_dict_setdefault_3 _ _ _) (kt_meets_setdefault (bK X.prog X.w) a (pN ry) hd r) ⟨vs,dd,by rw[<-rel.length];exact z,fun v' hv=>?_,fun hn h' dd' hs=>?_⟩
 ·cases l:cJ kvs k with
  |none =>
   have q:valueAt vs k=none:=kD.none_of (by rw[<-l];exact rel.val k)
   rw[q] at hv;cases hv
  |some v =>
   obtain⟨w',hw,rw'⟩:=kD.some_of (v:=v) (o:=valueAt vs k) (by rw[<-l];exact rel.val k)
   rw[hw] at hv
   cases hv
   exact⟨v,H,I.tok _,rw',h1 v l⟩
 ·cases l:cJ kvs k with
  |some v =>
   obtain⟨w',hw,rw'⟩:=kD.some_of (v:=v) (o:=valueAt vs k) (by rw[<-l];exact rel.val k)
   rw[hn] at hw;cases hw
  |none =>
   have hl:(cZ kvs k x).length<=sizeLine:=by have:=dY kvs k x;lia
   have he:∃q,h'.get? a=some q:=by obtain⟨q,_,_,hq,_⟩:=dd';exact⟨q,hq⟩
   exact⟨x,_,qH I (by rw[e];exact jm) hs he (wE hl hd (rel.put k rx) dd'),rx,h2 l⟩
theorem bL0{X:Cx}{o e f:Expr}{apos cpos:Pos}{td ty tx:TE}(ho:PE X o td)(he:PE X e ty)(hf:PE X f tx)(m:M2 X o "setdefault" apos e f cpos):PE X (.Call (.Attribute o "setdefault" apos) [e,f] [] cpos) (cL6 td ty tx):=by
 intro pins s σ H Q I h
 refine ye m.base m.few m.line um se PySem.F.type_dict_setdefault (cO (ho pins s σ H _ I h) ?_);rintro u s1 ⟨x,H1,I1,rx,a,ex,d,q1⟩
 subst ex
 obtain rfl:u=Value.ref a:=rx
 obtain⟨t1,t2,_⟩:=aQ6 I1 d
 refine⟨t1,t2,?_⟩
 rw[m.trees]
 refine lv rfl (qo (ik (cO (he pins s1 σ H1 _ I1 q1) ?_)));rintro iv s2 ⟨y,H2,I2,ry,q2⟩;refine ik (cO (hf pins s2 σ H2 _ I2 q2) ?_);rintro fv s3 ⟨z,H3,I3,rz,kvs,k,ea,ey,hz,q3,q4⟩;refine jq ?_
 subst ey
 exact aW8 I3 ea ry rz hz q3 q4
end L2
namespace PySem
namespace F
end F
end PySem
namespace PySem
section
variable {prog:Program}{w:World}{A:Around}{E:Value->Shared->Prop}{s:Shared}
end
end PySem
namespace L2
open PySem PySem.Spec PyProof.Rows
section
variable {prog:Program}{w:World}{A:Around}{E:Value->Shared->Prop}{Q:Value->Shared->Prop}{s:Shared}{it p:Addr}{items:Array Value}
end
open PySem
theorem nV{H:Hp}{l:Addr}(h:H l=none)(o:HO):∃H2,aL H l o=H2/\aO H H2/\H2 l=some o:=⟨_,rfl,aA h o,aB⟩
theorem lK:1<=sizeLine:=by decide
theorem dE:2<=sizeLine:=by decide
end L2
namespace Mine
open PySem L2
def gI(a b:Int):Int:=(Nat.gcd a.toNat b.toNat:Nat)
def eK(a b:Int):Int:=a / gI a b
def dO(a b:Int):Int:=b / gI a b
theorem vI{a b:Int}(hb:1<=b):0<gI a b:=by
 have:0<Nat.gcd a.toNat b.toNat:=ug _ (by lia);unfold gI;lia
theorem bX7{a b c:Int}(ha:0<=a)(hb:0<=b)(hc:0<=c):gI (c*a) (c*b)=c*gI a b:=by
 obtain⟨x,rfl⟩:=dy ha;obtain⟨y,rfl⟩:=dy hb;obtain⟨z,rfl⟩:=dy hc;unfold gI;rw[<-qx, <-qx,dz,dz,dz,dz,Nat.gcd_mul_left,qx]
theorem aH7{a b c:Int}(ha:0<=a)(hb:1<=b)(hc:1<=c):eK (c*a) (c*b)=eK a b/\dO (c*a) (c*b)=dO a b:=by
 unfold eK dO;rw[bX7 ha (by lia) (by lia),ut _ _ (by lia),ut _ _ (by lia)];exact⟨rfl,rfl⟩
theorem aC3{a b c d:Int}(ha:0<=a)(hb:1<=b)(hc:0<=c)(hd:1<=d)(h:a*d=c*b):eK a b=eK c d/\dO a b=dO c d:=by
 have e1:=aH7 ha hb hd;have e2:=aH7 hc hd hb;have q1:d*a=b*c:=by rw[xr d a,h,xr]
 have q2:d*b=b*d:=xr _ _;rw[q1,q2] at e1;exact⟨e1.1.symm.trans e2.1,e1.2.symm.trans e2.2⟩
theorem bN7{a b:Int}(ha:0<=a):gI a b ∣ a:=by
 obtain⟨x,rfl⟩:=dy ha;unfold gI;rw[dz];exact uu.mpr (Nat.gcd_dvd_left _ _)
theorem aF0{a b:Int}(hb:0<=b):gI a b ∣ b:=by
 obtain⟨x,rfl⟩:=dy hb;unfold gI;rw[dz];exact uu.mpr (yj _ _)
theorem pE{a b:Int}(ha:0<=a)(hb:1<=b):eK a b*b=a*dO a b:=by
 have h1:=rh (bN7 (b:=b) ha);have h2:=rh (aF0 (a:=a) (b:=b) (by lia));unfold eK dO;generalize a / gI a b=x at h1 ⊢;generalize b / gI a b=y at h2 ⊢;rw[<-h1, <-h2];generalize gI (x*gI a b) (y*gI a b)=g
 grind
theorem fZ{a b:Int}(ha:0<=a):0<=eK a b:=Int.ediv_nonneg ha (by unfold gI;lia)
theorem iY{a b:Int}(hb:1<=b):1<=dO a b:=by
 have h2:=rh (aF0 (a:=a) (b:=b) (by lia));have g:=vI (a:=a) hb;unfold dO;generalize b / gI a b=y at h2 ⊢
 by_cases z:0<y
 ·lia
 ·have:=ff (show 0<= -y by lia) (ud g);rw[Int.neg_mul] at this;lia
theorem aJ0{a b:Int}(ha:0<=a)(hb:1<=b):eK a b<=a:=yt _ ha
theorem aG4{a b:Int}(hb:1<=b):dO a b<=b:=yt _ (by lia)
theorem bI5{a b:Int}(ha:0<=a)(hb:1<=b):eK (eK a b) (dO a b)=eK a b/\dO (eK a b) (dO a b)=dO a b:=by
 have:=aC3 (fZ (b:=b) ha) (iY (a:=a) hb) ha hb (by rw[pE ha hb]);exact this
def shN(p q:Int)(n:Nat):Int:=(q-p)*p^n
def sT(p q:Int)(n:Nat):Int:=(q+p)*q^n
def wS(p q:Int)(n:Nat):Int:=q*p^n
def tN(p q k:Int):Int:=if 0<=k then wS p q k.toNat else sT p q (1-k).toNat-wS p q (1-k).toNat
def tD(p q k:Int):Int:=if 0<=k then sT p q k.toNat else sT p q (1-k).toNat
theorem aA9{p q:Int}(hp:0<=p)(h:p<=q):∀n:Nat,p^n<=q^n
 |0=>by simp
 |n+1=>by
  rw[mj,mj];exact Int.mul_le_mul (aA9 hp h n) h hp (ir (by lia))
theorem aJ2{p q:Int}(hp:1<=p)(h:p<q)(n:Nat):wS p q n<=sT p q n:=by
 unfold wS sT;have h1:=aA9 (p:=p) (q:=q) (by lia) (by lia) n;have h2:0<=p^n:=ir (by lia);exact Int.mul_le_mul (by lia) h1 h2 (by lia)
theorem aF2{p q:Int}(hp:1<=p)(h:p<q)(n:Nat):1<=sT p q n:=by
 have h1:0<q^n:=vg (by lia);have:=jv (show 0<q+p by lia) h1;unfold sT;lia
theorem bS4{p q:Int}(hp:1<=p)(h:p<q)(n:Nat):0<=wS p q n:=ff (by lia) (ir (by lia))
theorem cL5{p q:Int}(hp:1<=p)(h:p<q)(k:Int):0<=tN p q k:=by
 unfold tN;split
 ·exact bS4 hp h _
 ·have:=aJ2 hp h (1-k).toNat;lia
theorem bW3{p q:Int}(hp:1<=p)(h:p<q)(k:Int):1<=tD p q k:=by
 unfold tD;split<;>exact aF2 hp h _
theorem bX2{a b:Int}(ha:a<=b)(hb:1<=b):eK a b<=dO a b:=Int.ediv_le_ediv (vI hb) ha
theorem wZ{x y:Int}(hx:0<=x)(hy:0<y):gI y (x % y)=gI x y:=by
 obtain⟨m,rfl⟩:=dy hx;obtain⟨n,rfl⟩:=dy (ud hy);unfold gI;rw[<-Int.natCast_emod,dz,dz,dz,xt m n,Nat.gcd_rec n m,xt]
theorem aI9{x:Int}(hx:0<=x):gI x 0=x:=by
 unfold gI;simp;lia
theorem bS6{a b:Int}(hb:1<=b):gI a b<=b:=by
 have:Nat.gcd a.toNat b.toNat<=b.toNat:=Nat.gcd_le_right _ (by lia);unfold gI;lia
theorem bJ8{a:Int}{n:Nat}(h0:0<=a)(h9:a<=9)(hn:n<=21):0<=a^n/\a^n<2^67:=by
 refine⟨ir h0,?_⟩;have h1:=aA9 h0 h9 n;obtain⟨m,hm⟩:∃m,n+m=21:=⟨21-n,by lia⟩
 have h2:(9:Int)^21=9^n*9^m:=by rw[<-hm,Int.pow_add]
 have h3:(1:Int)<=9^m:=by have:(0:Int)<9^m:=vg (by decide);lia
 have h4:(0:Int)<=9^n:=ir (by decide);have h5:(9:Int)^n*1<=9^n*9^m:=qz h3 h4;have h6:(9:Int)^21<2^67:=by decide
 lia
theorem wO{a b:Int}{m n:Nat}(a0:0<=a)(a1:a<2^m)(b0:0<=b)(b1:b<2^n):0<=a*b/\a*b<2^(m+n):=by
 refine⟨ff a0 b0,?_⟩;rw[Int.pow_add];have hp:(0:Int)<2^n:=vg (by decide);have h1:a*b<=a*2^n:=qz (ud b1) a0;have h2:a*2^n<2^m*2^n:=Int.mul_lt_mul_of_pos_right a1 hp;lia
structure yK(p q:Int):Prop where
 p1:1<=p
 pq:p<q
 q9:q<=9
def gE(H:Hp)(p:Addr)(a b:Int):Prop:=H p=some (.tup [.int a,.int b])
theorem ix0(a b:Int):mE [V.int a,V.int b] 0=some (.int a):=rfl
theorem zS(a b:Int):mE [V.int a,V.int b] 1=some (.int b):=rfl
def cP4(a b:Int):List V:=[.int (eK a b),.int (dO a b)]
def B72(a:Int):Prop:=0<=a/\a<2^180
theorem B72.below{a:Int}(h:B72 a):zH a:=⟨by have:=h.1;lia,by have:=h.2;lia⟩
theorem cH9{p q:Int}(s:yK p q){n:Nat}(hn:n<=21):B72 (shN p q n)/\B72 (sT p q n)/\B72 (wS p q n):=by
 obtain⟨h1,h2,h3⟩:=s;have e1:=bJ8 (a:=p) (by lia) (by lia) hn;have e2:=bJ8 (a:=q) (by lia) (by lia) hn;have q1:=wO (a:=q-p) (m:=5) (by lia) (by lia) e1.1 e1.2;have q2:=wO (a:=q+p) (m:=5) (by lia) (by lia) e2.1 e2.2;have q3:=wO (a:=q) (m:=5) (by lia) (by lia) e1.1 e1.2;have up:(2:Int)^(5+67)<2^180:=by decide
 exact⟨⟨q1.1,uh q1.2 up⟩,⟨q2.1,uh q2.2 up⟩,⟨q3.1,uh q3.2 up⟩⟩
theorem cC8{a b:Int}(ha:B72 a)(hb:B72 b)(h1:1<=b):B72 (eK a b)/\B72 (dO a b):=by
 have q1:=fZ (b:=b) ha.1;have q2:=iY (a:=a) h1;have q3:=aJ0 ha.1 h1;have q4:=aG4 (a:=a) h1;have:=ha.2;have:=hb.2;exact⟨⟨q1,by lia⟩,⟨by lia,by lia⟩⟩
theorem bO0{H H':Hp}{d l p:Addr}{xs:List V}(D:dR H d l)(o:fH d l H H')(h:H p=some (.tup xs)):H' p=some (.tup xs):=by
 obtain⟨sd,n,ls,D⟩:=D;exact o _ _ h (fQ h D.dc (by intro z;cases z)) (fQ h D.lc (by intro z;cases z))
inductive spGcd(vs:List V)(H:Hp)(Q:VK)(z1:XK):Prop
 |mk:∀a b:Int,(vs=[.int a,.int b])->(0<=a)->(0<=b)->(Q (.int (gI a b)) H)->spGcd vs H Q z1
inductive spLow(vs:List V)(H:Hp)(Q:VK)(z1:XK):Prop
 |mk:∀a b:Int,(vs=[.int a,.int b])->(0<=a)->(1<=b)->(b<2^200*2^200)->(∀p,H p=none->Q (.ref p) (aL H p (.tup (cP4 a b))))->spLow vs H Q z1
inductive spMinus(vs:List V)(H:Hp)(Q:VK)(z1:XK):Prop
 |mk:∀(p q:Addr) (a b c d:Int),(vs=[.ref p,.ref q])->(gE H p a b)->(gE H q c d)->(B72 a)->(B72 b)->(B72 c)->(B72 d)->(1<=b)->(1<=d)->(c*b<=a*d)->(∀r,H r=none->Q (.ref r) (aL H r (.tup (cP4 (a*d-c*b) (b*d)))))->spMinus vs H Q z1
inductive bG7(lo hi:Int)(f g:Int->Int->Int->Int)(vs:List V)(H:Hp)(Q:VK)(z1:XK):Prop
 |mk:∀(st:Addr) (p q k:Int),(vs=[.ref st,.int k])->(gE H st p q)->(yK p q)->(lo<=k)->(k<=hi)->(∀H' r,aO H H'->gE H' r (eK (f p q k) (g p q k)) (dO (f p q k) (g p q k))->Q (.ref r) H')->bG7 lo hi f g vs H Q z1
def cV{α:Type}(R:V->α->Prop):List V->List α->Prop
 |[],[]=>True
 |v::vs,a::as=>R v a/\cV R vs as
 |_,_=>False
theorem cV.mono{α:Type}{R R':V->α->Prop}(h:∀v a,R v a->R' v a):∀{vs:List V}{as:List α},cV R vs as->cV R' vs as
 |[],[],_=>trivial
 |_::_,_::_,⟨e,r⟩=>⟨h _ _ e,cV.mono h r⟩
 |[],_::_,z=>z.elim
 |_::_,[],z=>z.elim
theorem cV.append{α:Type}{R:V->α->Prop}:∀{vs ws:List V}{as bs:List α},cV R vs as->cV R ws bs->cV R (vs++ws) (as++bs)
 |[],_,[],_,_,r=>r
 |_::_,_,_::_,_,⟨e,r⟩,r2=>⟨e,cV.append r r2⟩
 |[],_,_::_,_,z,_=>z.elim
 |_::_,_,[],_,z,_=>z.elim
theorem cV.length{α:Type}{R:V->α->Prop}:∀{vs:List V}{as:List α},cV R vs as->vs.length=as.length
 |[],[],_=>rfl
 |_::_,_::_,⟨_,r⟩=>by simp[cV.length r]
 |[],_::_,z=>z.elim
 |_::_,[],z=>z.elim
def TS(H H':Hp):Prop:=∀a xs,H a=some (.tup xs)->H' a=some (.tup xs)
theorem TS.of{H H':Hp}(s:aO H H'):TS H H':=fun _ _ e=>s _ _ e
theorem TS.trans{H H1 H2:Hp}(a:TS H H1)(b:TS H1 H2):TS H H2:=fun c o h=>b c o (a c o h)
theorem TS.lst{H:Hp}{l:Addr}{xs ys:List V}(h:H l=some (.lst xs)):TS H (aL H l (.lst ys)):=fun a o e=>by
 rw[aG (fQ e h (by intro z;cases z))];exact e
theorem TS.out{H H':Hp}{d l:Addr}(D:dR H d l)(o:fH d l H H'):TS H H':=fun p xs h=>bO0 D o h
theorem bI{H H1:Hp}{l:Addr}{ys:List V}(s:aO H H1)(h:H l=none):aO H (aL H1 l (.lst ys)):=fun b o e=>by
 rw[aG (aJ e h)];exact s b o e
theorem aY{α:Type}{l:List α}{i:Nat}{x:α}(h:l[i]?=some x):l.take (i+1)=l.take i++[x]:=by
 rw[vp,h];rfl
structure gH(lo hi:Int):Prop where
 a:0<=lo
 b:lo<=hi
 c:hi<=9
theorem bT1{z:Str}{r:Int}(h0:0<=r)(h1:r<(z.length:Int)):∃c,mE z.cps.toList r=some c:=by
 have hk:r.toNat<z.cps.toList.length:=by
  rw[jt];exact(Int.toNat_lt h0).mpr h1
 have e2:((r.toNat:Nat):Int)=r:=ie h0;have q:mE z.cps.toList ((r.toNat:Nat):Int)=some z.cps.toList[r.toNat]:=wR (aj hk);rw[e2] at q;exact⟨_,q⟩
theorem zB:∀{zs:List Str},(∀z∈zs,z.length=1)->(zs.map (·.length)).sum=zs.length
 |[],_=>rfl
 |z::r,h=>by
  have h1:=h z ao;have h2:=zB fun y hy=>h y (ak z hy)
  simp only[List.map_cons,List.sum_cons,List.length_cons,h1,h2];lia
theorem sI(sep:Str):∀(ys:List Str) (a:Array Nat),(ys.foldl (fun acc p=>acc++sep.cps++p.cps) a).size=a.size+(ys.map (·.length)).sum+ys.length*sep.length
 |[],a=>by simp
 |y::r,a=>by
  rw[iy,sI sep r];simp only[Array.size_append,List.map_cons,List.sum_cons,List.length_cons,Nat.add_mul,Nat.one_mul];have e1:sep.cps.size=sep.length:=rfl;have e2:y.cps.size=y.length:=rfl;lia
theorem bF4(sep:Str)(ys:List Str):(Txt.join sep ys).length<=(ys.map (·.length)).sum+ys.length*sep.length:=by
 cases ys with
 |nil=>exact az _
 |cons y r =>
  show(List.foldl (fun acc p=>acc++sep.cps++p.cps) y.cps r).size<=_;rw[sI];simp only[List.map_cons,List.sum_cons,List.length_cons,Nat.add_mul,Nat.one_mul];have e2:y.cps.size=y.length:=rfl;lia
def aG3:List Str:=["kinds","ladder","flat","choose","first","let","tell","when","else","times","end","of"]
theorem oI:∀xs:List Str,(xs.map V.str).all lP=true
 |[]=>rfl
 |_::r=>oI r
structure pK(H:Hp)(d l ls:Addr)(ts:List V):Prop where
 deal:dR H d l
 ne:ls≠l
 lst:H ls=some (.lst ts)
theorem pK.new{H:Hp}{d l ls:Addr}(D:dR H d l)(h:H ls=none):pK (aL H ls (.lst [])) d l ls []:=by
 obtain⟨sd,n,l',q⟩:=id D;exact⟨D.same (aA h _),(aJ q.lc h).symm,aB⟩
theorem pK.app{H:Hp}{d l ls:Addr}{ts:List V}(S:pK H d l ls ts)(us:List V):pK (aL H ls (.lst us)) d l ls us:=by
 refine⟨?_,S.ne,aB⟩;obtain⟨sd,n,l',q⟩:=S.deal;exact⟨sd,n,l',⟨by rw[aG (fQ q.dc S.lst (by intro z;cases z))];exact q.dc,by rw[aG S.ne.symm];exact q.lc,q.s0,q.s1,q.n0,q.l0⟩⟩
end Mine
namespace HT
open PySem PySem.Spec PyProof.Rows L2
section
variable {prog:Program}{w:World}{A:Around}{E:Value->Shared->Prop}{s:Shared}
end
end HT
namespace L2
open PySem PySem.Spec PyProof.Rows
abbrev lZ(h:Heap)(z TI TO:Addr)(T:Addr)(f:Bool):Prop:=
 h.get? z=some { cls:= .type "zip",dict:=none,data:= .fields #[rawInt T,.bool f,.bool false,.ref TI,.ref TO],slots:= #[] }
section
variable {prog:Program}{w:World}{A:Around}{E:Value->Shared->Prop}{s:Shared}
theorem uJ{z TI TO T:Addr}{f:Bool}{o:Obj}{Q:Bool->Shared->Prop}(hz:lZ s.heap z TI TO T f)(hT:s.heap.get? T=some o)
  (k:∀h',lZ h' z TI TO T true->Heap.SameBut z s.heap h'->Q false { s with heap:=h' }):wpAny (model prog w) A (Builtin.SmallTypes.ownedTupleIsFree (.ref z)) Q E s:=by
 unfold Builtin.SmallTypes.ownedTupleIsFree;refine ag (jc hz rfl (x:=rawInt T) rfl ?_);show wpAny _ _ (loadIfAlive ((T:Int).toNat)>>=_) _ _ _;rw[dz];refine ag (W.kdx_alive hT ?_);simp only[Option.isNone_some,Bool.false_eq_true,if_false];refine ag (jc hz rfl (x:= .bool f) rfl ?_)
 cases f with
 |true =>
  rw[ay (show ¬((Value.bool true != Value.bool true)=true) from bt)];exact bv (k _ hz (Heap.SameBut.refl _ _))
 |false =>
  rw[br (show(Value.bool false != Value.bool true)=true from rfl)];refine ag (wpAny_setField_rec hz (by simp) fun h3 he3 hs3=>?_);exact bv (k h3 he3 hs3)
theorem aM9{z TI TO i1 i2 l1 l2 T:Addr}{f:Bool}{o:Obj}{k1 k2:Nat}{xs ys:Array Value}{x y:Value}{Q:Value->Shared->Prop}(D:ZipApart z TI TO i1 i2 l1 l2)
  (hz:lZ s.heap z TI TO T f) (hT:s.heap.get? T=some o) (hTI:IsPair s.heap TI (.ref i1) (.ref i2))
  (h1:s.heap.IsListIter i1 l1 k1) (h2:s.heap.IsListIter i2 l2 k2) (hl1:s.heap.IsList l1 xs) (hl2:s.heap.IsList l2 ys) (hx:xs[k1]?=some x) (hy:ys[k2]?=some y)
  (hQ:∀h',lZ h' z TI TO T true->h'.IsListIter i1 l1 (k1+1)->h'.IsListIter i2 l2 (k2+1)->IsPair h' s.heap.objs.size x y->h'.objs.size=s.heap.objs.size+1 ->
   (∀c o,c≠z->c≠i1->c≠i2->s.heap.get? c=some o->h'.get? c=some o)->Q (.ref s.heap.objs.size) { s with heap:=h' }) :
  wpAny (model prog w) A (Builtin.«zip.__next__» ⟨[.ref z],[]⟩) (fun fin s'=>∃v,fin= .done (.ret v)/\Q v s') E s:=by
 show wpAny _ _ (field (.ref z) 2>>=_) _ _ _;refine ag (jc hz rfl (x:= .bool false) rfl ?_);show wpAny _ _ (field (.ref z) 3>>=_) _ _ _;refine ag (jc hz rfl (x:= .ref TI) rfl ?_);refine ag (mi hTI rfl ?_);show wpAny _ _ (Builtin.SmallTypes.ownedTupleIsFree (.ref z)>>=_) _ _ _;refine ag (uJ hz hT fun h1' hz1 hs1=>?_);simp only[Bool.false_eq_true,if_false];refine ag ?_;simp only[<-Array.forIn_toList,List.forIn_cons,List.forIn_nil];refine ag (ag (jr ?_));show wpAny _ _ (Builtin.SmallTypes.nextOf (.ref i1)>>=_) _ _ _;refine ag (aX9 (h1.extBut hs1.extBut D.i1z) (hl1.extBut hs1.extBut D.l1z) hx fun h2' a1 s2=>bv ?_);refine bv ?_;refine ag (ag (jr ?_));show wpAny _ _ (Builtin.SmallTypes.nextOf (.ref i2)>>=_) _ _ _;refine ag (aX9 ((h2.extBut hs1.extBut D.i2z).extBut s2.extBut D.i12.symm) ((hl2.extBut hs1.extBut D.l2z).extBut s2.extBut D.l2i1) hy fun h3' a2 s3=>bv ?_)
 refine bv (bv ?_);refine ag (wpAny_newTuple (hsz:=dE) ?_);have hsz:h3'.objs.size=s.heap.objs.size:=by rw[s3.1,s2.1,hs1.1]
 have kp:∀c o,c≠z->c≠i1->c≠i2->s.heap.get? c=some o->h3'.get? c=some o:=fun c o c1 c3 c4 e=>s3.extBut _ _ c4 (s2.extBut _ _ c3 (hs1.extBut _ _ c1 e))
 have z3:lZ h3' z TI TO T true:=s3.extBut _ _ D.i2z.symm (s2.extBut _ _ D.i1z.symm hz1);have e1:h3'.IsListIter i1 l1 (k1+1):=a1.extBut s3.extBut D.i12;refine bv ⟨_,rfl,?_⟩;show Q (.ref h3'.objs.size) _;rw[hsz];refine hQ _ (ac _ z3) (e1.at fun o e=>ac _ e) (a2.at fun o e=>ac _ e) ?_ (by rw[ju,hsz]) fun c o c1 c2 c3 e=>ac _ (kp c o c1 c2 c3 e)
 rw[<-hsz];exact bz _ rfl
theorem aR6{z TI TO i1 i2 l1 l2 T:Addr}{f:Bool}{o:Obj}{k1:Nat}{xs:Array Value}{Q:Fin->Shared->Prop}(hh:A.handled=none)(D:ZipApart z TI TO i1 i2 l1 l2)
  (hz:lZ s.heap z TI TO T f) (hT:s.heap.get? T=some o) (hTI:IsPair s.heap TI (.ref i1) (.ref i2))
  (h1:s.heap.IsListIter i1 l1 k1) (hl1:s.heap.IsList l1 xs) (hx:xs[k1]?=none)
  (hE:∀h' e,(∀c o,c≠z->c≠i1->c≠i2->s.heap.get? c=some o->h'.get? c=some o)->(∃o,h'.get? e=some o/\o.cls= .type "StopIteration")->E (.ref e) { s with heap:=h' }) :
  wpAny (model prog w) A (Builtin.«zip.__next__» ⟨[.ref z],[]⟩) Q E s:=by
 show wpAny _ _ (field (.ref z) 2>>=_) _ _ _;refine ag (jc hz rfl (x:= .bool false) rfl ?_);show wpAny _ _ (field (.ref z) 3>>=_) _ _ _;refine ag (jc hz rfl (x:= .ref TI) rfl ?_);refine ag (mi hTI rfl ?_);show wpAny _ _ (Builtin.SmallTypes.ownedTupleIsFree (.ref z)>>=_) _ _ _;refine ag (uJ hz hT fun h1' hz1 hs1=>?_);simp only[Bool.false_eq_true,if_false];refine ag ?_;simp only[<-Array.forIn_toList,List.forIn_cons,List.forIn_nil];refine ag (ag (jr ?_));show wpAny _ _ (Builtin.SmallTypes.nextOf (.ref i1)>>=_) _ _ _;refine ag (aD6 hh (h1.extBut hs1.extBut D.i1z) (hl1.extBut hs1.extBut D.l1z) hx fun g e s2 he=>?_);exact hE g e (fun c o c1 c3 _ x=>s2 _ _ c3 (hs1.extBut _ _ c1 x)) he
structure ZoB(h:Heap)(TI i1 i2 l1 l2:Addr)(i:Nat)(xs ys:Array Value):Prop where
 I:IsPair h TI (.ref i1) (.ref i2)
 i1:h.IsListIter i1 l1 i
 i2:h.IsListIter i2 l2 i
 l1:h.IsList l1 xs
 l2:h.IsList l2 ys
def aA4(h:Heap)(z TI TO i1 i2 l1 l2 S:Addr)(i:Nat)(xs ys:Array Value):Prop:=
 ZoB h TI i1 i2 l1 l2 i xs ys/\((i=0/\IsZip h z TI TO .none/\∃a b,IsPair h TO a b)\/∃T f o,lZ h z TI TO T f/\h.get? T=some o/\T≠z/\T≠i1/\T≠i2/\T≠S)
theorem aA4.keep{h h':Heap}{z TI TO i1 i2 l1 l2 S:Addr}{i:Nat}{xs ys:Array Value}(x:aA4 h z TI TO i1 i2 l1 l2 S i xs ys)(hk:∀b o,b≠S->h.get? b=some o->h'.get? b=some o)
  (n1:z≠S) (n2:TI≠S) (n3:TO≠S) (n4:i1≠S) (n5:i2≠S) (n6:l1≠S) (n7:l2≠S):aA4 h' z TI TO i1 i2 l1 l2 S i xs ys:=by
 obtain⟨b,c⟩:=x;refine⟨⟨hk _ _ n2 b.I,b.i1.at fun o e=>hk _ o n4 e,b.i2.at fun o e=>hk _ o n5 e,b.l1.at fun o e=>hk _ o n6 e,b.l2.at fun o e=>hk _ o n7 e⟩,?_⟩;rcases c with⟨e,a,u,v,w⟩|⟨T,f,o,a,b,c1,c2,c3,c4⟩
 ·exact .inl ⟨e,hk _ _ n1 a,u,v,hk _ _ n3 w⟩
 ·exact .inr ⟨T,f,o,hk _ _ n1 a,hk _ _ c4 b,c1,c2,c3,c4⟩
theorem bM9{z TI TO i1 i2 l1 l2 S:Addr}{i:Nat}{xs ys:Array Value}{x y:Value}{Q:Option Value->Shared->Prop}(D:ZipApart z TI TO i1 i2 l1 l2)(hst:aA4 s.heap z TI TO i1 i2 l1 l2 S i xs ys)(hS:S<s.heap.objs.size)
  (hx:xs[i]?=some x) (hy:ys[i]?=some y)
  (hQ:∀h',aA4 h' z TI TO i1 i2 l1 l2 S (i+1) xs ys->IsPair h' s.heap.objs.size x y->h'.objs.size=s.heap.objs.size+1 ->
   (∀c o,c≠z->c≠TO->c≠i1->c≠i2->s.heap.get? c=some o->h'.get? c=some o)->Q (some (.ref s.heap.objs.size)) { s with heap:=h' }) :
  wpAny (model prog w) A (pyNext (.ref z)) Q E s:=by
 obtain⟨b,c⟩:=hst;have li1:i1<s.heap.objs.size:=by obtain⟨_,e,_⟩:=b.i1;exact ax e
 have li2:i2<s.heap.objs.size:=by obtain⟨_,e,_⟩:=b.i2;exact ax e
 rcases c with⟨rfl,hz,u,v,hTO⟩|⟨T,f,o,hz,hT,c1,c2,c3,c4⟩
 ·refine wpAny_pyNext_zip_item D hz b.I hTO b.i1 b.i2 b.l1 b.l2 hx hy fun h' a1 a2 a3 a4 a5 a6 a7=>?_
  have lz:z<s.heap.objs.size:=ax hz;exact hQ h' ⟨⟨a7 _ _ D.TIz D.TITO D.TIi1 D.TIi2 b.I,a3,a4,b.l1.at fun o e=>a7 _ o D.l1z D.l1TO D.l1i1 D.l1i2 e,b.l2.at fun o e=>a7 _ o D.l2z D.l2TO D.l2i1 D.l2i2 e⟩,
   .inr ⟨_,false,_,a1,a5,dv lz,dv li1,dv li2,dv hS⟩⟩ a5 a6 a7
 ·have hT':s.TypeIs (.ref z) "zip":=⟨_,hz,rfl⟩
  unfold pyNext;refine ag (wpAny_attempt (js (name:=Str.ofString "__next__") hT' mn
   (ku mn hT' vh
    (aM9 D hz hT b.I b.i1 b.i2 b.l1 b.l2 hx hy fun h' a1 a3 a4 a5 a6 a7=>bv ?_) (uv _))))
  exact hQ h' ⟨⟨a7 _ _ D.TIz D.TIi1 D.TIi2 b.I,a3,a4,b.l1.at fun o e=>a7 _ o D.l1z D.l1i1 D.l1i2 e,b.l2.at fun o e=>a7 _ o D.l2z D.l2i1 D.l2i2 e⟩,
   .inr ⟨T,true,o,a1,a7 _ _ c1 c2 c3 hT,c1,c2,c3,c4⟩⟩ a5 a6 fun c o d1 _ d3 d4 e=>a7 c o d1 d3 d4 e
theorem bJ7{z TI TO i1 i2 l1 l2 S:Addr}{i:Nat}{xs ys:Array Value}{Q:Option Value->Shared->Prop}(hh:A.handled=none)(D:ZipApart z TI TO i1 i2 l1 l2)(hst:aA4 s.heap z TI TO i1 i2 l1 l2 S i xs ys)(hx:xs[i]?=none)
  (hQ:∀h',(∀c o,c≠z->c≠TO->c≠i1->c≠i2->s.heap.get? c=some o->h'.get? c=some o)->Q none { s with heap:=h' }):wpAny (model prog w) A (pyNext (.ref z)) Q E s:=by
 obtain⟨b,c⟩:=hst;rcases c with⟨rfl,hz,u,v,hTO⟩|⟨T,f,o,hz,hT,c1,c2,c3,c4⟩
 ·exact wpAny_pyNext_zip_end hh D hz b.I hTO b.i1 b.i2 b.l1 b.l2 (.inl hx) hQ
 ·have hT':s.TypeIs (.ref z) "zip":=⟨_,hz,rfl⟩
  unfold pyNext;refine ag (wpAny_attempt (js (name:=Str.ofString "__next__") hT' mn
   (ku mn hT' vh (aR6 hh D hz hT b.I b.i1 b.l1 hx fun h' e hk he=>?_) (uv _))))
  obtain⟨o,ho,hc⟩:=he;refine ag (yq (T:="StopIteration") (b:=true) ⟨o,ho,hc⟩ isSubtype_stop ?_);exact bv (hQ _ fun c o d1 _ d3 d4 e=>hk c o d1 d3 d4 e)
end
structure ZoG(xs ys:Array Value)(lo:Addr)(h:Heap)(as:List Addr):Prop where
 above:∀a∈as,lo<a
 nd:as.Nodup
 pairs:∀(j:Nat) (a:Addr),as[j]?=some a->∃x y,xs[j]?=some x/\ys[j]?=some y/\IsPair h a x y
section
variable {prog:Program}{w:World}{A:Around}{s:Shared}{R:Result->Shared->Prop}{xs ys:Array Value}
theorem bO6{S z TI TO i1 i2 l1 l2:Addr}(hh:A.handled=none)(D:ZipApart z TI TO i1 i2 l1 l2)(hn:xs.size<=sizeLine)(hxy:xs.size=ys.size)(res:Value){h₁:Heap}{lo:Addr}(gz:z<=lo)(gS:S<=lo)(gO:TO<=lo)(g1:i1<=lo)(g2:i2<=lo)
  (n1:z≠S) (n2:TI≠S) (n3:TO≠S) (n4:i1≠S) (n5:i2≠S) (n6:l1≠S) (n7:l2≠S)
  (hR:∀h' tk acc c as,(∀b o,b≠S->b≠z->b≠TO->b≠i1->b≠i2->h₁.get? b=some o->h'.get? b=some o)->h'.get? S=some { cls:= .type "list",dict:=none,data:= .seq acc c,slots:= #[] }->as.length=xs.size->ZoG xs ys lo h' as ->
   acc.toList=as.map Value.ref->R (.ok (.ret res)) { s with heap:=h',toks:=tk }) :
  ∀(k i:Nat) (h:Heap) (tk c:Nat) (acc:Array Value) (as:List Addr),xs.size-i=k->i<=xs.size->aA4 h z TI TO i1 i2 l1 l2 S i xs ys->(∀b o,b≠S->b≠z->b≠TO->b≠i1->b≠i2->h₁.get? b=some o->h.get? b=some o) ->
   h.get? S=some { cls:= .type "list",dict:=none,data:= .seq acc c,slots:= #[] }->acc.toList=as.map Value.ref->as.length=i->ZoG xs ys lo h as->lo<h.objs.size ->
   codeAny (model prog w) A (.builtin "list.extend.loop" ⟨[.ref S,.ref z,res],[]⟩) R { s with heap:=h,toks:=tk }:=by
 intro k
 induction k with
 |zero =>
  intro i h tk c acc as hk hi hst hkeep hS hacc hal hG hIs;refine jz sv ?_;rw[jo kj _];show wpAny _ A.in1 (pyNext (.ref z)>>=_) _ _ _;refine ag (bJ7 (s:={ s with heap:=h,toks:=tk }) (A:=A.in1) hh D hst (Array.getElem?_eq_none (by lia)) fun h' he=>?_);refine bv (hR h' tk acc c as (fun b o m1 m2 m3 m4 m5 e=>he b o m2 m3 m4 m5 (hkeep b o m1 m2 m3 m4 m5 e)) (he S _ n1.symm n3.symm n4.symm n5.symm hS) (by lia) ⟨hG.above,hG.nd,fun j a hj=>?_⟩ hacc);obtain⟨x,y,e1,e2,e3⟩:=hG.pairs j a hj;have la:=hG.above a (bj hj);exact⟨x,y,e1,e2,he a _ (dv (cx gz la)) (dv (cx gO la)) (dv (cx g1 la)) (dv (cx g2 la)) e3⟩
 |succ k ih =>
  intro i h tk c acc as hk hi hst hkeep hS hacc hal hG hIs;have hlt:i<xs.size:=by lia
  have hx:xs[i]?=some xs[i]:=nu hlt;have hy:ys[i]?=some (ys[i]'(by lia)):=nu (by lia);have hsz:acc.size=i:=by rw[<-jt,hacc,aa,hal]
  refine jz sv ?_;rw[jo kj _];show wpAny _ A.in1 (pyNext (.ref z)>>=_) _ _ _;refine ag (bM9 (s:={ s with heap:=h,toks:=tk }) (S:=S) D hst (ax hS) hx hy fun h' hst' ht hz hkp=>?_)
  dsimp only at ht hz hkp ⊢
  have hS':=hkp S _ n1.symm n3.symm n4.symm n5.symm hS;have up:∀b o,b≠S->h'.get? b=some o->(h'.update S (Obj.mapSeq (·.push (Value.ref h.objs.size)))).get? b=some o:=fun b o hb e=>(ip _ _ (Ne.symm hb)).trans e
  have hSl:S<h.objs.size:=ax hS;show wpAny _ A.in1 (updateSeq S (·.push (Value.ref h.objs.size))>>=_) _ _ _;refine ag ?_;refine nt hS' rfl (bv ⟨pi kj _,ih (i+1) _ tk _ (acc.push (Value.ref h.objs.size)) (as++[h.objs.size]) (by lia) hlt (hst'.keep up n1 n2 n3 n4 n5 n6 n7)
   (fun b o m1 m2 m3 m4 m5 e=>up b o m1 (hkp b o m2 m3 m4 m5 (hkeep b o m1 m2 m3 m4 m5 e))) (iz _ hS' rfl) (by rw[Array.toList_push,hacc,bo];rfl) (by rw[ap,hal];rfl) ⟨?_,?_,?_⟩ ?_⟩) (by rw[hsz];lia) (by show(acc.push (Value.ref h.objs.size)).size<=sizeLine+1;rw[Array.size_push,hsz];lia)
  ·intro a ha;rcases bu.mp ha with ha|ha
   ·exact hG.above a ha
   ·rw[au.mp ha];exact hIs
  ·rw[jf];refine⟨hG.nd,by simp,fun a ha b hb=>?_⟩;rw[au.mp hb];obtain⟨j,hj⟩:=List.mem_iff_getElem?.mp ha;obtain⟨_,_,_,_,e⟩:=hG.pairs j a hj;exact cp (ax e)
  ·intro j b hj;rcases Nat.lt_trichotomy j as.length with h1|h1|h1
   ·rw[nq h1] at hj;obtain⟨x',y',e1,e2,e3⟩:=hG.pairs j b hj;have la:=hG.above b (bj hj);exact⟨x',y',e1,e2,up b _ (dv (cx gS la)) (hkp b _ (dv (cx gz la)) (dv (cx gO la)) (dv (cx g1 la)) (dv (cx g2 la)) e3)⟩
   ·subst h1;have hb:h.objs.size=b:=by simpa using hj
    subst hb;exact⟨_,_,by rw[hal];exact hx,by rw[hal];exact hy,up _ _ (dv hSl) ht⟩
   ·have hnone:(as++[h.objs.size])[j]?=none:=qg (by rw[ap,ej];lia);rw[hnone] at hj;cases hj
  ·have e:(h'.update S (Obj.mapSeq (·.push (Value.ref h.objs.size)))).get? h.objs.size=_:=up _ _ (dv hSl) ht;exact Nat.lt_trans hIs (ax e)
end
theorem bA0:typeLookup (.type "zip") "__len__"=pure none:=by rw[qt,mh];kernel_rfl
theorem aL1:typeLookup (.type "zip") "__length_hint__"=pure none:=by rw[qt,mh];kernel_rfl
section
variable {prog:Program}{w:World}{A:Around}{E:Value->Shared->Prop}{s:Shared}{xs ys:Array Value}
theorem yP{n l1 l2:Nat}{Q:Value->Shared->Prop}(hh:A.handled=none)(hn:xs.size<=sizeLine)(hxy:xs.size=ys.size)
  (hz:IsZip s.heap (n+4) (n+2) (n+3) .none) (hI:IsPair s.heap (n+2) (.ref n) (.ref (n+1))) (hO:∃a b,IsPair s.heap (n+3) a b) (h1:s.heap.IsListIter n l1 0) (h2:s.heap.IsListIter (n+1) l2 0)
  (t1:s.heap.IsList l1 xs) (t2:s.heap.IsList l2 ys) (o1:l1<n) (o2:l2<n)
  (k:∀t acc c as,(∀(b:Addr) o,(∀j:Nat,j<5->b≠(n+j:Nat))->s.heap.get? b=some o->t.heap.get? b=some o)->t.gens=s.gens->t.os=s.os->t.drawn=s.drawn ->
   t.heap.get? s.heap.objs.size=some { cls:= .type "list",dict:=none,data:= .seq acc c,slots:= #[] }->as.length=xs.size->ZoG xs ys s.heap.objs.size t.heap as->acc.toList=as.map Value.ref->Q (.ref s.heap.objs.size) t) :
  wpAny (model prog w) A (call (.type "list") [.ref (n+4)]) Q E s:=by
 obtain⟨oa,ob,hO⟩:=hO;have zl:n+4<s.heap.objs.size:=ax hz;have e:∀i j:Nat,i≠j->(n+i:Nat)≠n+j:=fun i j h z=>by lia
 have f1:∀i:Nat,l1≠n+i:=fun i z=>by lia
 have f2:∀i:Nat,l2≠n+i:=fun i z=>by lia
 have b:∀i:Nat,i<=4->(n+i:Nat)<s.heap.objs.size:=fun i h=>by lia
 have c1:l1<s.heap.objs.size:=by lia
 have c2:l2<s.heap.objs.size:=by lia
 have D:ZipApart (n+4) (n+2) (n+3) n (n+1) l1 l2:=⟨e 2 4 (by decide),e 3 4 (by decide),e 0 4 (by decide),e 1 4 (by decide),e 2 3 (by decide),e 2 0 (by decide),e 2 1 (by decide),e 3 0 (by decide),e 3 1 (by decide),e 0 1 (by decide),f1 4,f1 3,f1 0,f1 1,f2 4,f2 3,f2 0,f2 1⟩
 have nb:∀i:Nat,i<=4->(n+i:Nat)≠s.heap.objs.size:=fun i h=>cp (b i h)
 refine callType_codes (Q₁:=fun o t=>o= .ref s.heap.objs.size/\t={ s with heap:=s.heap.push newL }) F.called_list (yg _) yh (code_list_new _ ⟨rfl,rfl⟩) ?_;rintro _ _ ⟨rfl,rfl⟩;have hS:(s.heap.push newL).get? s.heap.objs.size=some newL:=bz _ rfl;refine⟨⟨_,hS,rfl⟩,xi _ _,?_⟩;refine ag (m:=Builtin.List.listItems (.ref s.heap.objs.size)) (ag (mi hS rfl (bv ?_)));refine ag (m:=updateSeq s.heap.objs.size fun _=> #[]) (nt hS rfl (ag (wpAny_letGo ?_)));have hS2:=iz (Obj.mapSeq fun _=>(#[]:Array Value)) hS rfl;have older:∀b o,s.heap.get? b=some o->((s.heap.push newL).update s.heap.objs.size (Obj.mapSeq fun _=>(#[]:Array Value))).get? b=some o:=fun b o e =>
  (ip _ _ (dv (ax e))).trans (ac _ e)
 have hTz:Shared.TypeIs { s with heap:=(s.heap.push newL).update s.heap.objs.size (Obj.mapSeq fun _=>(#[]:Array Value)) } (.ref (n+4)) "zip":=⟨_,older _ _ hz,rfl⟩
 have fin:∀(h:Heap) (tk c:Nat),(∀b o,b≠s.heap.objs.size->s.heap.get? b=some o->h.get? b=some o)->h.get? s.heap.objs.size=some { cls:= .type "list",dict:=none,data:= .seq #[] c,slots:= #[] } ->
   codeAny (model prog w) A.in1 (.builtin "list.extend.loop" ⟨[.ref s.heap.objs.size,.ref (n+4),.none],[]⟩) (wants (fun r s2=>r=Value.none/\Q (.ref s.heap.objs.size) s2) E) { s with heap:=h,toks:=tk }:=by
  intro h tk c hk hSh;refine bO6 (prog:=prog) (w:=w) (A:=A.in1) (R:=wants (fun r s2=>r=Value.none/\Q (.ref s.heap.objs.size) s2) E) (s:=s) (xs:=xs) (ys:=ys) (h₁:=s.heap) (lo:=s.heap.objs.size) (S:=s.heap.objs.size) hh D hn hxy .none (cu (b 4 (by decide))) (af _) (cu (b 3 (by decide))) (cu (b 0 (by decide))) (cu (b 1 (by decide))) (nb 4 (by decide)) (nb 2 (by decide)) (nb 3 (by decide)) (nb 0 (by decide)) (nb 1 (by decide)) (cp c1) (cp c2)
   (fun h' tk' acc c' as hk' hS' hl hG hacc=>⟨rfl,k _ acc c' as (fun a o hb e'=>hk' a o (cp (ax e')) (hb 4 (by decide)) (hb 3 (by decide)) (hb 0 (by decide)) (hb 1 (by decide)) e') rfl rfl rfl hS' hl hG hacc⟩)
   xs.size 0 h tk c #[] [] (Nat.sub_zero _) (az _) ⟨⟨hk _ _ (nb 2 (by decide)) hI,h1.at fun o e=>hk _ o (nb 0 (by decide)) e,h2.at fun o e=>hk _ o (nb 1 (by decide)) e,t1.at fun o e=>hk _ o (cp c1) e,t2.at fun o e=>hk _ o (cp c2) e⟩,.inl ⟨rfl,hk _ _ (nb 4 (by decide)) hz,_,_,hk _ _ (nb 3 (by decide)) hO⟩⟩
   (fun b o m1 _ _ _ _ e=>hk b o m1 e) hSh rfl rfl ⟨(fun _ ha=>nomatch ha),ot,(fun j a hj=>by simp at hj)⟩ (ax hSh)
 unfold Builtin.List.listExtendWith;refine ag (xg hTz ?_);have same:Builtin.List.listSameRef (.ref s.heap.objs.size) (.ref (n+4))=false:=by simp[Builtin.List.listSameRef];exact fun z=>nb 4 (by decide) z.symm
 rw[ay (by rw[same];decide)];refine ag (wpAny_pyIter_zip (older _ _ hz) (ag (jr ?_)));unfold Builtin.List.listLengthHint;refine ag (nr hTz bA0 ?_);refine ag (m:=specialOf (Value.ref (n+4)) (Str.ofString "__length_hint__")) (nr hTz aL1 ?_);refine bv ?_;refine wpAny_ite_split (fun _=>?_) (fun hab=>absurd (by decide) hab);refine ag (yy ?_);refine ag ?_;show wpAny _ _ (updateSeq s.heap.objs.size (·.push .none)>>=fun _=>updateSeq s.heap.objs.size (·.pop)) _ _ _;refine ag (nt hS2 rfl ?_);have hS3:=iz (Obj.mapSeq (·.push Value.none)) hS2 rfl;refine nt (hz:=by seq_fits) hS3 rfl ?_;have hS4:=iz (Obj.mapSeq (·.pop)) hS3 rfl;exact bv ⟨pi kj _,fin _ _ _ (fun b o hb e=>(ip _ _ (Ne.symm hb)).trans ((ip _ _ (Ne.symm hb)).trans (older b o e))) hS4⟩
end
theorem aD5:∀{l:List Nat}{i:Nat}(h:i<l.length),l.Nodup->l.idxOf l[i]=i
 |[],_,h,_=>absurd h (Nat.not_lt_zero _)
 |a::l,0,_,_=>by simp
 |a::l,i+1,h,nd=>by
  obtain⟨n1,n2⟩:=du.mp nd;have hl:i<l.length:=by simpa using h
  have ne:(a==l[i])=false:=by
   rw[kz];exact fun z=>n1 (by rw[z];exact mx hl)
  rw[List.getElem_cons_succ,List.idxOf_cons,ne,aD5 hl n2];rfl
def kK(H:Hp)(D:Addr)(as:List Addr)(xs ys:List V):Hp:=fun b=>if b=D then some (.lst (as.map V.ref)) else if b∈as then some (.tup [xs.getD (as.idxOf b) .non,ys.getD (as.idxOf b) .non]) else H b
def bA7(K:W.Frag)(ta:TA):TE:=fun σ H Q=>ta σ H fun vs H1=>∃(a b:Addr) (xs ys:List V),vs=[V.ref a,V.ref b]/\bA K H1 a xs/\bA K H1 b ys/\xs.length=ys.length /\
 ∀(r:Addr) (zs:List V) (H':Hp),(∀c o,H1 c=some o->H' c=some o)->H1 r=none->H' r=some (.lst zs)->zs.length=xs.length->(∀(i:Nat) (x y:V),xs[i]?=some x->ys[i]?=some y->∃q,zs[i]?=some (V.ref q)/\H' q=some (.tup [x,y]))->Q (V.ref r) H'
theorem aE1{X:Cx}{a b:Expr}{ta:TA}{p1 p2 pos1 pos2:Pos}(g1:Gl X "list")(m1:X.mg "list"=none)(g2:Gl X "zip")(m2:X.mg "zip"=none)(ha:PA X [a,b] ta)(hc:autoParam (X.calm=true) Rq0._auto_1)
  (hs1:autoParam (starEach [.Call (.Name "zip" p2) [a,b] [] pos2] X.env=[(false,eval (.Call (.Name "zip" p2) [a,b] [] pos2) X.env)]) Rq0._auto_1) (hs:autoParam (starEach [a,b] X.env=[(false,eval a X.env),(false,eval b X.env)]) Rq0._auto_1) (hs2:autoParam (starEach [b] X.env=[(false,eval b X.env)]) Rq0._auto_1) :
  PE X (.Call (.Name "list" p1) [.Call (.Name "zip" p2) [a,b] [] pos2] [] pos1) (bA7 X.K ta):=by
 intro pins s σ H Q I h;refine gm (iS I g1 m1 ph ?_);refine fm ?_ hs1 rfl;rw[hs1];refine ik (gm (iS I g2 m2 PyProof.Rows.boot_zip (fm (cO (ha pos2 pins s σ H _ I h) fun us s1 ⟨vs,H1,I1,r1,q1⟩=>?_) (by rw[hs,hs2]) (by rw[hs2];rfl))));obtain⟨a',b',xs,ys,rfl,q1,q2,hl,q⟩:=q1;obtain⟨u,v,rfl,ru,rv⟩:=yR r1
 cases ru
 cases rv
 obtain⟨is1,v1,p1,z1⟩:=I1.list q1;obtain⟨is2,v2,p2,z2⟩:=I1.list q2;have la:a'<s1.heap.objs.size:=by obtain⟨_,_,e,_⟩:=p1;exact ax e
 have lb:b'<s1.heap.objs.size:=by obtain⟨_,_,e,_⟩:=p2;exact ax e
 have n1:=v1.length;have n2:=v2.length;refine aP9 p1.isList p2.isList fun g Z k0=>jq ?_
 have I2:aX X pins σ H1 { s1 with heap:=g }:=I1.kept (t':=s1.toks) k0;obtain⟨hz,hI,hO,hi1,hi2⟩:=Z;have fp:∀j:Nat,j<5->lO X pins H1 (s1.heap.objs.size+j):=fun j _=>I1.fpOk (jb ..) (I1.hok.fresh (jb ..))
 refine yP (n:=s1.heap.objs.size) (l1:=a') (l2:=b') (xs:=is1.toArray) (ys:=is2.toArray) (I.ok.hd hc) (by rw[bq];lia) (by rw[bq,bq];lia) hz hI hO hi1 hi2 (p1.isList.at fun o e=>k0 _ o e) (p2.isList.at fun o e=>k0 _ o e) la lb ?_;intro t acc c as keep gens os drawn at' al G eacc;obtain⟨D,eD⟩:∃D,g.objs.size=D:=⟨_,rfl⟩
 have hD:g.objs.size<=D:=xk eD
 dsimp only at at' keep G ⊢
 rw[eD] at at' G ⊢;have fD:H1 D=none:=I2.hok.fresh hD;have fA:∀x∈as,H1 x=none:=fun x hx=>I2.hok.fresh (cu (cx hD (G.above x hx)))
 have ndA:∀x∈as,x≠D:=fun x hx=>dv (G.above x hx)
 have neT:∀b u,H1 b=some u->∀j:Nat,j<5->b≠(s1.heap.objs.size+j:Nat):=fun b u e j hj z=>by rw[z,(fp j hj).1] at e;cases e
 have old:∀b u,H1 b=some u->kK H1 D as xs ys b=some u:=fun b u e=>by
  unfold kK;rw[ay (aJ e fD),ay (fun hb=>by rw[fA b hb] at e;cases e)];exact e
 have non:∀b o,g.get? b=some o->H1 b=none->kK H1 D as xs ys b=none:=fun b o e n=>by
  have lt:=ax e;unfold kK;rw[ay (fun z=>absurd lt (by rw[z];exact ki.mpr hD)),ay (fun hb=>absurd lt (ki.mpr (cu (cx hD (G.above b hb)))))];exact n
 have alen:as.length=xs.length:=by rw[al,bq];lia
 have atA:∀(i:Nat) (x y:V),xs[i]?=some x->ys[i]?=some y->∃q,as[i]?=some q/\kK H1 D as xs ys q=some (.tup [x,y]):=fun i x y hx hy=>by
  have il:i<as.length:=by rw[alen];exact(aq.mp hx).1
  refine⟨as[i],aj il,?_⟩;have m:as[i]∈as:=mx il;unfold kK;rw[ay (ndA _ m),br m,aD5 il G.nd,ge,ge,hx,hy];rfl
 have out5:∀{b:Addr},b∉[s1.heap.objs.size+0,s1.heap.objs.size+1,s1.heap.objs.size+2,s1.heap.objs.size+3,s1.heap.objs.size+4]->∀j:Nat,j<5->b≠(s1.heap.objs.size+j:Nat):=fun {b} hb j hj z=>by
  refine hb ?_;rw[z];obtain rfl|rfl|rfl|rfl|rfl:j=0\/j=1\/j=2\/j=3\/j=4:=by lia
  all_goals simp
 refine⟨.ref D,kK H1 D as xs ys,I2.call' (ch:=[s1.heap.objs.size+0,s1.heap.objs.size+1,s1.heap.objs.size+2,s1.heap.objs.size+3,s1.heap.objs.size+4]) os ⟨fun b o e n _ hx=>keep b o ?_ e,fun b o e n _ hx=>⟨o.slots,keep b o ?_ e⟩,fun b o e n _=>non b o e n,fun b o e hx=>⟨o,keep b o ?_ e⟩,fun b xs e=>old _ _ e,fun b o u e=>old _ _ e,fun b ps e=>⟨#[],?_⟩⟩ (fun b u e=>?_) (by rw[gens];exact I2.bare) (fun b hb=>?_),rfl,q D (as.map V.ref) _ old fD (by unfold kK;rw[br rfl]) (by rw[aa,alen]) fun i x y hx hy=>?_⟩
 ·exact out5 hx
 ·exact out5 hx
 ·exact out5 hx
 ·rw[old _ _ e];simp
 ·by_cases hb:b=D
  ·subst hb;unfold kK at e;rw[br rfl] at e
   cases e
   refine⟨by rw[aa,alen];exact z1,as.map Value.ref,c,?_,?_⟩
   ·have:∀l:List Addr,bH (l.map V.ref) (l.map Value.ref):=fun l=>by
     induction l with
     |nil=>exact .nil
     |cons x l ih=>exact .cons rfl ih
    exact this as
   ·rw[at', <-qu (xs:=acc),eacc]
  ·by_cases ha:b∈as
   ·unfold kK at e;rw[ay hb,br ha] at e
    cases e
    obtain⟨i,il,ei⟩:=wg.mp ha;obtain⟨x,y,e1,e2,e3⟩:=G.pairs i b (by rw[aj il,ei]);have ix:as.idxOf b=i:=by rw[<-ei];exact aD5 il G.nd
    have e1':is1[i]?=some x:=by simpa using e1
    have e2':is2[i]?=some y:=by simpa using e2
    obtain⟨x',g1',r1'⟩:∃x',xs[i]?=some x'/\bF x' x:=by
     have hl1:i<xs.length:=by rw[<-alen];exact il
     obtain⟨u,hu,ru⟩:=v1.get (i:=i) (x:=xs[i]) (aj hl1);rw[e1'] at hu;cases hu;exact⟨_,aj hl1,ru⟩
    obtain⟨y',g2',r2'⟩:∃y',ys[i]?=some y'/\bF y' y:=by
     have hl2:i<ys.length:=by rw[<-hl, <-alen];exact il
     obtain⟨u,hu,ru⟩:=v2.get (i:=i) (x:=ys[i]) (aj hl2);rw[e2'] at hu;cases hu;exact⟨_,aj hl2,ru⟩
    rw[ix,ge,ge,g1',g2'];exact⟨dE,[x,y],.cons r1' (.cons r2' .nil),⟨_,e3,rfl,_,rfl,rfl⟩⟩
   ·have e':H1 b=some u:=by
     unfold kK at e;rw[ay hb,ay ha] at e;exact e
    refine(I2.hok b u e').stay (fun c' v hc' q'=>keep c' v ?_ q') (fun c' q'=>old _ _ q') fun c' xs q'=>old _ _ q'
    rcases hc' with z|z
    ·rw[z];exact neT b u e'
    ·exact neT c' _ z
 ·obtain⟨j,hj,rfl⟩:∃j:Nat,j<5/\b=s1.heap.objs.size+j:=by
   simp only[List.mem_cons,List.not_mem_nil,or_false] at hb;rcases hb with z|z|z|z|z
   ·exact⟨0,by decide,z⟩
   ·exact⟨1,by decide,z⟩
   ·exact⟨2,by decide,z⟩
   ·exact⟨3,by decide,z⟩
   ·exact⟨4,by decide,z⟩
  obtain⟨f0,f1,f2,f3,f4,f5⟩:=fp j hj;exact⟨f3,f1,f4,f5⟩
 ·obtain⟨q,e1,e2⟩:=atA i x y hx hy;exact⟨q,by rw[di,e1];rfl,e2⟩
end L2
namespace Mine
open PySem L2
inductive Tm where
 |num (p:Addr) (n:Int)
 |nam (p:Addr) (x:Str)
 |op (p:Addr) (s:Str) (a b:Tm)
def Tm.p:Tm->Addr
 |.num p _=>p
 |.nam p _=>p
 |.op p _ _ _=>p
def Tm.names:Tm->List Str
 |.num _ _=>[]
 |.nam _ x=>[x]
 |.op _ _ a b=>a.names++b.names
def Tm.size:Tm->Nat
 |.op _ _ a b=>1+a.size+b.size
 |_=>1
def cN6:List Str:=["+","-","*","<","="]
def Tm.ok:Tm->Prop
 |.num _ n=>0<=n/\n<1000
 |.nam _ _=>True
 |.op _ s a b=>s∈cN6/\a.ok/\b.ok
def Tm.fine(t:Tm):Prop:=t.ok/\t.size<=100
def oV(H:Hp):Tm->Prop
 |.num p n=>H p=some (.tup [.str "num",.int n])
 |.nam p x=>H p=some (.tup [.str "name",.str x])
 |.op p s a b=>H p=some (.tup [.str "op",.str s,.ref a.p,.ref b.p])/\oV H a/\oV H b
theorem oV.ts{H H':Hp}(t:TS H H'):∀{a:Tm},oV H a->oV H' a
 |.num _ _,h=>t _ _ h
 |.nam _ _,h=>t _ _ h
 |.op _ _ _ _,⟨h,ha,hb⟩=>⟨t _ _ h,oV.ts t ha,oV.ts t hb⟩
def Tm.w:Tm->Str
 |.num _ _=>"num"
 |.nam _ _=>"name"
 |.op _ _ _ _=>"op"
def Tm.rest:Tm->List V
 |.num _ n=>[.int n]
 |.nam _ x=>[.str x]
 |.op _ s a b=>[.str s,.ref a.p,.ref b.p]
theorem oV.at{H:Hp}:∀{t:Tm},oV H t->H t.p=some (.tup (.str t.w::t.rest))
 |.num _ _,h=>h
 |.nam _ _,h=>h
 |.op _ _ _ _,h=>h.1
theorem Tm.size_pos:∀t:Tm,1<=t.size
 |.num _ _=>af _
 |.nam _ _=>af _
 |.op _ _ _ _=>by unfold Tm.size;lia
def Tm.pre:Tm->List Tm
 |.num p n=>[.num p n]
 |.nam p x=>[.nam p x]
 |.op p s a b=> .op p s a b::(a.pre++b.pre)
theorem Tm.pre_len:∀t:Tm,t.pre.length=t.size
 |.num _ _=>rfl
 |.nam _ _=>rfl
 |.op _ _ a b=>by simp only[Tm.pre,Tm.size,List.length_cons,List.length_append,Tm.pre_len a,Tm.pre_len b];lia
theorem oV.pre{H:Hp}:∀{t:Tm},oV H t->∀u∈t.pre,oV H u
 |.num _ _,h,u,hu=>by rw[au.mp hu];exact h
 |.nam _ _,h,u,hu=>by rw[au.mp hu];exact h
 |.op _ _ _ _,h,u,hu=>by
  rcases bw.mp hu with e|e
  ·rw[e];exact h
  ·rcases bu.mp e with e|e
   ·exact oV.pre h.2.1 u e
   ·exact oV.pre h.2.2 u e
inductive zV where
 |lad (p q lo hi:Int)
 |fla (r lo hi:Int)
 |cho (p q lo hi:Int)
 |fst (pa qa pb qb mk lo hi:Int)
def zV.wd:zV->Str
 |.lad .. =>"ladder"
 |.fla .. =>"flat"
 |.cho .. =>"choose"
 |.fst .. =>"first"
def zV.one:zV->Bool
 |.lad .. =>true
 |.fla .. =>true
 |.cho .. =>false
 |.fst .. =>false
structure Cop(p q:Int):Prop where
 st:yK p q
 co:Nat.gcd p.toNat q.toNat=1
def zV.Ok:zV->Prop
 |.lad p q _ _=>Cop p q
 |.fla r _ _=>0<=r/\r<=4
 |.cho p q _ _=>Cop p q
 |.fst pa qa pb qb mk _ hi=>Cop pa qa/\Cop pb qb/\0<=hi-mk/\hi-mk<=9
structure TD where
 vs:List V
 T:zV
 wss:List (List Int)
 kd:Nat
def pU(H:Hp)(v:V)(ws:List Int):Prop:=∃a,v= .ref a/\H a=some (.tup (ws.map V.int))
theorem pU.ts{H H':Hp}{v:V}{ws:List Int}(t:TS H H')(h:pU H v ws):pU H' v ws:=by obtain⟨a,e,q⟩:=h;exact⟨a,e,t _ _ q⟩
def aN0(H:Hp)(d:TD):Prop:=match d.T with
 |.lad p q lo hi=>∃w ws st,d.vs=[.ref w,.ref st,.int lo,.int hi]/\d.wss=[ws]/\H w=some (.tup (ws.map V.int))/\gE H st p q
 |.fla r lo hi=>∃w ws,d.vs=[.ref w,.int r,.int lo,.int hi]/\d.wss=[ws]/\H w=some (.tup (ws.map V.int))
 |.cho p q lo hi=>∃sm us st,d.vs=[.ref sm,.ref st,.int lo,.int hi]/\H sm=some (.tup us)/\cV (pU H) us d.wss/\gE H st p q
 |.fst pa qa pb qb mk lo hi=>∃sm us sa sb,d.vs=[.int mk,.ref sa,.ref sb,.ref sm,.int lo,.int hi]/\H sm=some (.tup us)/\cV (pU H) us d.wss/\gE H sa pa qa/\gE H sb pb qb
theorem aN0.ts{H H':Hp}(t:TS H H'){d:TD}(h:aN0 H d):aN0 H' d:=by
 obtain⟨vs,T,wss,kd⟩:=d
 cases T with
 |lad p q lo hi=>obtain⟨w,ws,st,a,b,c,e⟩:=h;exact⟨w,ws,st,a,b,t _ _ c,t _ _ e⟩
 |fla r lo hi=>obtain⟨w,ws,a,b,c⟩:=h;exact⟨w,ws,a,b,t _ _ c⟩
 |cho p q lo hi=>obtain⟨sm,us,st,a,b,c,e⟩:=h;exact⟨sm,us,st,a,t _ _ b,c.mono fun _ _ z=>z.ts t,t _ _ e⟩
 |fst pa qa pb qb mk lo hi=>obtain⟨sm,us,sa,sb,a,b,c,e,f⟩:=h;exact⟨sm,us,sa,sb,a,t _ _ b,c.mono fun _ _ z=>z.ts t,t _ _ e,t _ _ f⟩
structure aZ8(d:TD):Prop where
 l1:1<=d.wss.length
 l4:d.wss.length<=4
 ws:∀ws∈d.wss,ws.length=d.kd/\∀y∈ws,0<=y/\y<=3
inductive Rw where
 |thr (p:Addr) (w x:Str) (vs:List V) (am:TD)
 |lt (p:Addr) (x:Str) (t:Tm)
 |tell (p:Addr) (t:Tm)
 |when (p pa pb:Addr) (t:Tm) (a b:List Rw)
 |times (p pb:Addr) (n:Int) (b:List Rw)
def Rw.p:Rw->Addr
 |.thr p _ _ _ am=>p
 |.lt p _ _=>p
 |.tell p _=>p
 |.when p _ _ _ _ _=>p
 |.times p _ _ _=>p
def cN:List Str:=["ladder","flat","choose","first"]
def TD.amiss(d:TD):Bool:=match d.T with
 |.lad _ _ lo hi=>decide (hi<lo)
 |.fla _ lo hi=>decide (hi<lo)
 |.cho _ _ lo hi=>decide (hi<lo)
 |.fst _ _ pb qb m lo hi=>decide (hi<=lo\/¬(lo<=m/\m<=hi)\/qb<2*pb)
structure jZ(H:Hp)(w:Str)(vs:List V)(d:TD):Prop where
 vs:vs=d.vs
 wd:w=d.T.wd
 ok:d.T.Ok
 at':aN0 H d
 ws:aZ8 d
theorem jZ.ts{H H':Hp}(t:TS H H'){w:Str}{vs:List V}{d:TD}(h:jZ H w vs d):jZ H' w vs d:=⟨h.vs,h.wd,h.ok,h.at'.ts t,h.ws⟩
theorem zV.wd_in:∀T:zV,T.wd∈cN
 |.lad .. =>by show("ladder": Str)∈cN;decide
 |.fla .. =>by show("flat": Str)∈cN;decide
 |.cho .. =>by show("choose": Str)∈cN;decide
 |.fst .. =>by show("first": Str)∈cN;decide
theorem jZ.w{H:Hp}{w:Str}{vs:List V}{d:TD}(h:jZ H w vs d):w∈cN:=by rw[h.wd];exact zV.wd_in _
mutual
def dF(H:Hp):Rw->Prop
 |.thr p w x vs am=>H p=some (.tup (.str w :: .str x::vs))/\jZ H w vs am
 |.lt p x t=>H p=some (.tup [.str "let",.str x,.ref t.p])/\oV H t/\t.fine
 |.tell p t=>H p=some (.tup [.str "tell",.ref t.p])/\oV H t/\t.fine
 |.when p pa pb t a b=>H p=some (.tup [.str "when",.ref t.p,.ref pa,.ref pb])/\oV H t/\t.fine/\H pa=some (.tup (a.map fun r=>V.ref r.p))/\H pb=some (.tup (b.map fun r=>V.ref r.p))/\aP H a/\aP H b
 |.times p pb n b=>H p=some (.tup [.str "times",.int n,.ref pb])/\H pb=some (.tup (b.map fun r=>V.ref r.p))/\aP H b
def aP(H:Hp):List Rw->Prop
 |[]=>True
 |r::rs=>dF H r/\aP H rs
end
mutual
theorem dF.ts{H H':Hp}(t:TS H H'):∀(r:Rw),dF H r->dF H' r
 |.thr _ _ _ _ _,⟨h,k⟩=>⟨t _ _ h,k.ts t⟩
 |.lt _ _ _,⟨h,h2,h3⟩=>⟨t _ _ h,h2.ts t,h3⟩
 |.tell _ _,⟨h,h2,h3⟩=>⟨t _ _ h,h2.ts t,h3⟩
 |.when _ _ _ _ a b,⟨h,h2,h3,h4,h5,h6,h7⟩=>⟨t _ _ h,h2.ts t,h3,t _ _ h4,t _ _ h5,aP.ts t a h6,aP.ts t b h7⟩
 |.times _ _ _ b,⟨h,h2,h3⟩=>⟨t _ _ h,t _ _ h2,aP.ts t b h3⟩
theorem aP.ts{H H':Hp}(t:TS H H'):∀(rs:List Rw),aP H rs->aP H' rs
 |[],_=>trivial
 |r::rs,⟨h,k⟩=>⟨dF.ts t r h,aP.ts t rs k⟩
end
theorem aP.app{H:Hp}:∀{rs qs:List Rw},aP H rs->aP H qs->aP H (rs++qs)
 |[],_,_,h=>h
 |_::_,_,⟨h,k⟩,h2=>⟨h,aP.app k h2⟩
theorem aP.mem{H:Hp}:∀{rs:List Rw},aP H rs->∀r∈rs,dF H r
 |[],_,_,h=>absurd h bc
 |r::rs,⟨h,k⟩,x,hx=>by
  rcases bw.mp hx with e|e
  ·rw[e];exact h
  ·exact aP.mem k x e
def Rw.w:Rw->Str
 |.thr _ w _ _ am=>w
 |.lt _ _ _=>"let"
 |.tell _ _=>"tell"
 |.when _ _ _ _ _ _=>"when"
 |.times _ _ _ _=>"times"
def Rw.rest:Rw->List V
 |.thr _ _ x vs am=> .str x::vs
 |.lt _ x t=>[.str x,.ref t.p]
 |.tell _ t=>[.ref t.p]
 |.when _ pa pb t _ _=>[.ref t.p,.ref pa,.ref pb]
 |.times _ pb n _=>[.int n,.ref pb]
theorem dF.at{H:Hp}:∀{r:Rw},dF H r->H r.p=some (.tup (.str r.w::r.rest))
 |.thr _ _ _ _ _,h=>h.1
 |.lt _ _ _,h=>h.1
 |.tell _ _,h=>h.1
 |.when _ _ _ _ _ _,h=>h.1
 |.times _ _ _ _,h=>h.1
mutual
def Rw.cnt:Rw->Nat
 |.when _ _ _ _ a b=>1+(bS a+bS b)
 |.times _ _ _ b=>1+bS b
 |.thr _ _ _ _ _=>1
 |.lt _ _ _=>1
 |.tell _ _=>1
def bS:List Rw->Nat
 |[]=>0
 |r::rs=>r.cnt+bS rs
end
theorem mQ:∀(rs qs:List Rw),bS (rs++qs)=bS rs+bS qs
 |[],qs=>by simp[bS]
 |r::rs,qs=>by simp only[List.cons_append,bS,mQ rs qs];lia
theorem Rw.cnt_pos:∀r:Rw,1<=r.cnt
 |.thr _ _ _ _ _=>af _
 |.lt _ _ _=>af _
 |.tell _ _=>af _
 |.when _ _ _ _ _ _=>by unfold Rw.cnt;lia
 |.times _ _ _ _=>by unfold Rw.cnt;lia
theorem iL:∀rs:List Rw,rs.length<=bS rs
 |[]=>az _
 |r::rs=>by have:=iL rs;have:=r.cnt_pos;simp only[List.length_cons,bS];lia
def Rw.kids:Rw->List Rw
 |.when _ _ _ _ a b=>a++b
 |.times _ _ _ b=>b
 |.thr _ _ _ _ _=>[]
 |.lt _ _ _=>[]
 |.tell _ _=>[]
theorem bG1:∀r:Rw,r.cnt=1+bS r.kids
 |.when _ _ _ _ a b=>by simp only[Rw.cnt,Rw.kids,mQ]
 |.times _ _ _ b=>by simp only[Rw.cnt,Rw.kids]
 |.thr _ _ _ _ _=>by simp only[Rw.cnt,Rw.kids,bS]
 |.lt _ _ _=>by simp only[Rw.cnt,Rw.kids,bS]
 |.tell _ _=>by simp only[Rw.cnt,Rw.kids,bS]
theorem dF.kids{H:Hp}:∀{r:Rw},dF H r->aP H r.kids
 |.when _ _ _ _ _ _,h=>aP.app h.2.2.2.2.2.1 h.2.2.2.2.2.2
 |.times _ _ _ _,h=>h.2.2
 |.thr _ _ _ _ _,_=>trivial
 |.lt _ _ _,_=>trivial
 |.tell _ _,_=>trivial
abbrev Stp:=Str×Rw×Nat
mutual
def bY(k:Nat):Rw->List Stp
 |.when p pa pb t a b=>(("row": Str),Rw.when p pa pb t a b,k)::(bU (k+1) a++[(("else": Str),Rw.when p pa pb t a b,k)]++bU (k+1+bS a) b++[(("end": Str),Rw.when p pa pb t a b,k)])
 |.times p pb n b=>(("row": Str),Rw.times p pb n b,k)::(bU (k+1) b++[(("end": Str),Rw.times p pb n b,k)])
 |.thr p w x vs am=>[(("row": Str),.thr p w x vs am,k)]
 |.lt p x t=>[(("row": Str),.lt p x t,k)]
 |.tell p t=>[(("row": Str),.tell p t,k)]
def bU(k:Nat):List Rw->List Stp
 |[]=>[]
 |r::rs=>bY k r++bU (k+r.cnt) rs
end
theorem wB:¬(("else": Str)="row"):=by decide
theorem gX:¬(("end": Str)="row"):=by decide
mutual
theorem aS5:∀(r:Rw) (k:Nat),(bY k r).length<=3*r.cnt
 |.when _ _ _ _ a b,k=>by have:=dM a (k+1);have:=dM b (k+1+bS a);simp only[bY,Rw.cnt,List.length_cons,List.length_append,List.length_nil];lia
 |.times _ _ _ b,k=>by have:=dM b (k+1);simp only[bY,Rw.cnt,List.length_cons,List.length_append,List.length_nil];lia
 |.thr _ _ _ _ _,_=>by simp only[bY,Rw.cnt,List.length_cons,List.length_nil];lia
 |.lt _ _ _,_=>by simp only[bY,Rw.cnt,List.length_cons,List.length_nil];lia
 |.tell _ _,_=>by simp only[bY,Rw.cnt,List.length_cons,List.length_nil];lia
theorem dM:∀(rs:List Rw) (k:Nat),(bU k rs).length<=3*bS rs
 |[],_=>af _
 |r::rs,k=>by have:=aS5 r k;have:=dM rs (k+r.cnt);simp only[bU,bS,List.length_append];lia
end
abbrev Ft:=Int×Int
mutual
def zQ:Rw->Int
 |.thr _ _ _ _ _=>0
 |.lt _ _ _=>0
 |.tell _ _=>1
 |.when _ _ _ _ a _=>fB a
 |.times _ _ n b=>n*fB b
def fB:List Rw->Int
 |[]=>0
 |r::rs=>zQ r+fB rs
end
mutual
def lk(kn:List Str):Rw->List Str
 |.thr _ _ x _ _=>kn++[x]
 |.lt _ x _=>kn++[x]
 |.tell _ _=>kn
 |.when _ _ _ _ a b=>(lkL kn b).filter fun x=>decide (x∈lkL kn a)
 |.times _ _ _ b=>lkL kn b
def lkL(kn:List Str):List Rw->List Str
 |[]=>kn
 |r::rs=>lkL (lk kn r) rs
end
def unk(k:Nat)(kn ns:List Str):List Ft:=if ∀y∈ns,y∈kn then [] else [((k:Int),1)]
def bX9(k:Nat)(am:Bool):List Ft:=if am then [((k:Int),0)] else []
def tls(k:Nat)(a b:List Rw):List Ft:=if fB a=fB b then [] else [((k:Int),2)]
mutual
def rf(k:Nat):Rw->List Ft
 |.thr _ _ _ _ am=>bX9 k am.amiss
 |.lt _ _ _=>[]
 |.tell _ _=>[]
 |.when _ _ _ _ a b=>rfL (k+1) a++rfL (k+1+bS a) b
 |.times _ _ _ b=>rfL (k+1) b
def rfL(k:Nat):List Rw->List Ft
 |[]=>[]
 |r::rs=>rf k r++rfL (k+r.cnt) rs
end
mutual
def uf(k:Nat)(kn:List Str):Rw->List Ft
 |.thr _ _ _ _ _=>[]
 |.lt _ _ t=>unk k kn t.names
 |.tell _ t=>unk k kn t.names
 |.when _ _ _ t a b=>unk k kn t.names++(ufL (k+1) kn a++ufL (k+1+bS a) kn b)
 |.times _ _ _ b=>ufL (k+1) kn b
def ufL(k:Nat)(kn:List Str):List Rw->List Ft
 |[]=>[]
 |r::rs=>uf k kn r++ufL (k+r.cnt) (lk kn r) rs
end
mutual
def tf(k:Nat):Rw->List Ft
 |.thr _ _ _ _ _=>[]
 |.lt _ _ _=>[]
 |.tell _ _=>[]
 |.when _ _ _ _ a b=>tfL (k+1) a++(tfL (k+1+bS a) b++tls k a b)
 |.times _ _ _ b=>tfL (k+1) b
def tfL(k:Nat):List Rw->List Ft
 |[]=>[]
 |r::rs=>tf k r++tfL (k+r.cnt) rs
end
section
variable {α σ:Type}(f:α->σ->Option σ)
def dH:List α->σ->Option σ
 |[],st=>some st
 |a::r,st=>(f a st).bind (dH r)
theorem cI:∀(l l2:List α) (st:σ),dH f (l++l2) st=(dH f l st).bind (dH f l2)
 |[],_,_=>rfl
 |a::r,l2,st=>by
  show(f a st).bind (dH f (r++l2))=((f a st).bind (dH f r)).bind (dH f l2)
  cases f a st with
  |none=>rfl
  |some s=>exact cI r l2 s
theorem wP{l:List α}{s0 e:σ}(h:dH f l s0=some e){i:Nat}{a:α}(ha:l[i]?=some a){st:σ}(hs:dH f (l.take i) s0=some st):∃st',f a st=some st'/\dH f (l.take (i+1)) s0=some st':=by
 obtain⟨hi,rfl⟩:=aq.mp ha;have e1:l=l.take i++(l[i]::l.drop (i+1)):=by rw[List.getElem_cons_drop,ke]
 rw[e1,cI,hs] at h;have h:(f l[i] st).bind (dH f (l.drop (i+1)))=some e:=h
 cases q:f l[i] st with
 |none=>rw[q] at h;cases h
 |some st' =>
  refine⟨st',rfl,?_⟩;rw[vp,aj hi,cI,hs];show(f l[i] st).bind (dH f [])=_;rw[q];rfl
end
def Rw.sets:Rw->Option Str
 |.thr _ _ x _ _=>some x
 |.lt _ x _=>some x
 |.tell _ _=>none
 |.when _ _ _ _ _ _=>none
 |.times _ _ _ _=>none
def Rw.asked:Rw->List Str
 |.thr _ _ _ _ _=>[]
 |.lt _ _ t=>t.names
 |.tell _ t=>t.names
 |.when _ _ _ t _ _=>t.names
 |.times _ _ _ _=>[]
def jY:Rw->Bool
 |.when _ _ _ _ _ _=>true
 |.thr _ _ _ _ _=>false
 |.lt _ _ _=>false
 |.tell _ _=>false
 |.times _ _ _ _=>false
abbrev USt:=List Ft×List Str×List (List Str)
def aH1(st:USt):Option USt:=match st.2.2 with
 |a::r=>some (st.1,a,st.2.1::r)
 |[]=>none
def bG9(st:USt):Option USt:=match st.2.2 with
 |a::r=>some (st.1,st.2.1.filter (fun x=>decide (x∈a)),r)
 |[]=>none
def tG(r:Rw)(k:Nat)(st:USt):USt:=(st.1++unk k st.2.1 r.asked,st.2.1++r.sets.toList,if jY r then (st.2.1++r.sets.toList)::st.2.2 else st.2.2)
def gZ(s:Stp)(st:USt):Option USt:=
 if s.1="row" then some (tG s.2.1 s.2.2 st)
 else if s.1="else" then aH1 st
 else if jY s.2.1 then bG9 st else some st
theorem aV0:¬(("end": Str)="else"):=by decide
theorem yN{r:Rw}{k:Nat}{st:USt}:gZ (("row": Str),r,k) st=some (tG r k st):=by unfold gZ;rw[br rfl]
theorem bW1{r:Rw}{k:Nat}{st:USt}:gZ (("else": Str),r,k) st=aH1 st:=by unfold gZ;rw[ay wB,br rfl]
theorem bQ5{r:Rw}{k:Nat}{st:USt}:gZ (("end": Str),r,k) st=if jY r then bG9 st else some st:=by unfold gZ;rw[ay gX,ay aV0]
theorem nE{α σ:Type}{f:α->σ->Option σ}{a:α}{l:List α}{st st':σ}(h:f a st=some st'):dH f (a::l) st=dH f l st':=by
 show(f a st).bind _=_;rw[h];rfl
theorem aH2(k:Nat)(kn:List Str):unk k kn []=[]:=by unfold unk;rw[br (fun y hy=>absurd hy bc)]
mutual
theorem cI5:∀(r:Rw) (k:Nat) (F:List Ft) (kn:List Str) (kept:List (List Str)),dH gZ (bY k r) (F,kn,kept)=some (F++uf k kn r,lk kn r,kept)
 |.thr p w x vs am,k,F,kn,kept=>by
  simp only[bY];rw[nE yN];simp only[dH,tG,Rw.asked,Rw.sets,jY,uf,lk,aH2,Option.toList];rfl
 |.lt p x t,k,F,kn,kept=>by
  simp only[bY];rw[nE yN];simp only[dH,tG,Rw.asked,Rw.sets,jY,uf,lk,Option.toList];rfl
 |.tell p t,k,F,kn,kept=>by
  simp only[bY];rw[nE yN];simp only[dH,tG,Rw.asked,Rw.sets,jY,uf,lk,Option.toList,List.append_nil];rfl
 |.when p pa pb t a b,k,F,kn,kept=>by
  simp only[bY];rw[nE yN];simp only[tG,Rw.asked,Rw.sets,jY,Option.toList,List.append_nil,if_true];rw[cI,cI,cI,sL a];simp only[Option.bind_some];rw[nE (st':=(F++unk k kn t.names++ufL (k+1) kn a,kn,lkL kn a::kept)) bW1];simp only[dH,Option.bind_some];rw[sL b];simp only[Option.bind_some];rw[bQ5,br (by rfl)];simp only[uf,lk,bG9,Option.bind_some,List.append_assoc]
 |.times p pb n b,k,F,kn,kept=>by
  simp only[bY];rw[nE yN];simp only[tG,Rw.asked,Rw.sets,jY,Option.toList,List.append_nil,aH2];rw[cI];simp only[Bool.false_eq_true,if_false];rw[sL b];simp only[Option.bind_some];rw[nE (bQ5.trans (ay (by simp only[jY];exact bt)))];simp only[dH,uf,lk]
theorem sL:∀(rs:List Rw) (k:Nat) (F:List Ft) (kn:List Str) (kept:List (List Str)),dH gZ (bU k rs) (F,kn,kept)=some (F++ufL k kn rs,lkL kn rs,kept)
 |[],k,F,kn,kept=>by simp only[bU,dH,ufL,lkL,List.append_nil]
 |r::rs,k,F,kn,kept=>by
  simp only[bU];rw[cI,cI5 r];simp only[Option.bind_some];rw[sL rs];simp only[ufL,lkL,List.append_assoc]
end
abbrev TSt:=List Ft×List Int
def vD(s w:Str):Bool:=decide (s="else") || (decide (s="row")&&decide (w∈(["when","times"]:List Str)))
def eN(s:Stp):Bool:=vD s.1 s.2.1.w
theorem cC1:vD "row" "tell"=false:=by decide
theorem cA5:vD "row" "let"=false:=by decide
theorem cE6:vD "row" "when"=true:=by decide
theorem bV4:vD "row" "times"=true:=by decide
theorem bY3(w:Str):vD "else" w=true:=by
 unfold vD;rw[ai rfl];rfl
theorem bM5(w:Str):vD "end" w=false:=by
 unfold vD;rw[db aV0,db gX];rfl
theorem bZ0{w:Str}(h:w∈cN):vD "row" w=false:=by
 simp only[cN,List.mem_cons,List.not_mem_nil,or_false] at h;rcases h with rfl|rfl|rfl|rfl<;>decide
def xT(r:Rw)(k:Nat)(st:TSt):Option TSt:=match r with
 |.times _ _ n _=>match st.2 with
  |i::c::cs=>some (st.1,(c+n*i)::cs)
  |[_]=>none
  |[]=>none
 |.when _ _ _ _ _ _=>match st.2 with
  |o::i::c::cs=>some (st.1++(if i=o then [] else [((k:Int),2)]),(c+i)::cs)
  |[_,_]=>none
  |[_]=>none
  |[]=>none
 |.thr _ _ _ _ _=>none
 |.lt _ _ _=>none
 |.tell _ _=>none
def qO:Rw->Bool
 |.tell _ _=>true
 |.thr _ _ _ _ _=>false
 |.lt _ _ _=>false
 |.when _ _ _ _ _ _=>false
 |.times _ _ _ _=>false
def bO5(st:TSt):Option TSt:=match st.2 with
 |c::cs=>some (st.1,(c+1)::cs)
 |[]=>none
def gD(s:Stp)(st:TSt):Option TSt:=
 if eN s then some (st.1,0::st.2)
 else if qO s.2.1 then bO5 st
 else if s.1="end" then xT s.2.1 s.2.2 st else some st
mutual
def WdR:Rw->Prop
 |.thr _ w _ _ _=>w∈cN
 |.lt _ _ _=>True
 |.tell _ _=>True
 |.when _ _ _ _ a b=>WdL a/\WdL b
 |.times _ _ _ b=>WdL b
def WdL:List Rw->Prop
 |[]=>True
 |r::rs=>WdR r/\WdL rs
end
theorem aC5{s:Str}{r:Rw}{k:Nat}{st:TSt}(h:vD s r.w=true):gD (s,r,k) st=some (st.1,0::st.2):=by unfold gD;rw[br (show eN (s,r,k)=true from h)]
theorem cC4{p:Addr}{t:Tm}{k:Nat}{st:TSt}:gD (("row": Str),Rw.tell p t,k) st=bO5 st:=by
 unfold gD;rw[ay (by show ¬vD "row" "tell"=true;rw[cC1];exact bt)];rfl
theorem bR5{r:Rw}{k:Nat}{st:TSt}(h:qO r=false):gD (("end": Str),r,k) st=xT r k st:=by
 unfold gD;have:eN (("end": Str),r,k)=false:=bM5 _;rw[ay (by rw[this];exact bt),ay (by show ¬qO r=true;rw[h];exact bt),br rfl]
theorem cA3:¬(("row": Str)="end"):=by decide
theorem aR2{r:Rw}{k:Nat}{st:TSt}(h1:vD "row" r.w=false)(h2:qO r=false):gD (("row": Str),r,k) st=some st:=by
 unfold gD;rw[ay (by show ¬vD "row" r.w=true;rw[h1];exact bt),ay (by show ¬qO r=true;rw[h2];exact bt),ay cA3]
mutual
theorem cI6:∀(r:Rw) (k:Nat) (F:List Ft) (c:Int) (cs:List Int),WdR r->dH gD (bY k r) (F,c::cs)=some (F++tf k r,(c+zQ r)::cs)
 |.thr p w x vs am,k,F,c,cs,h=>by
  have h:w∈cN:=by simpa only[WdR] using h
  simp only[bY];rw[nE (aR2 (r:=Rw.thr p w x vs am) (bZ0 h) rfl)];simp only[dH,tf,zQ,List.append_nil,Int.add_zero]
 |.lt p x t,k,F,c,cs,h=>by
  simp only[bY];rw[nE (aR2 (r:=Rw.lt p x t) cA5 rfl)];simp only[dH,tf,zQ,List.append_nil,Int.add_zero]
 |.tell p t,k,F,c,cs,h=>by
  simp only[bY];rw[nE (st':=(F,(c+1)::cs)) cC4];simp only[dH,tf,zQ,List.append_nil]
 |.when p pa pb t a b,k,F,c,cs,h=>by
  simp only[WdR] at h;simp only[bY];rw[nE (aC5 (r:=Rw.when p pa pb t a b) cE6),cI,cI,cI,rD a _ _ _ _ h.1];simp only[Option.bind_some];rw[nE (aC5 (r:=Rw.when p pa pb t a b) (bY3 _))];simp only[dH,Option.bind_some];rw[rD b _ _ _ _ h.2];simp only[Option.bind_some];rw[bR5 (by rfl)];simp only[xT,Option.bind_some,tf,zQ,tls,Int.zero_add,List.append_assoc]
 |.times p pb n b,k,F,c,cs,h=>by
  simp only[WdR] at h;simp only[bY];rw[nE (aC5 (r:=Rw.times p pb n b) bV4),cI,rD b _ _ _ _ h];simp only[Option.bind_some];rw[nE ((bR5 rfl).trans (show xT (Rw.times p pb n b) k _=some (F++tfL (k+1) b,(c+n*fB b)::cs) by simp only[xT,Int.zero_add]))];simp only[dH,tf,zQ]
theorem rD:∀(rs:List Rw) (k:Nat) (F:List Ft) (c:Int) (cs:List Int),WdL rs->dH gD (bU k rs) (F,c::cs)=some (F++tfL k rs,(c+fB rs)::cs)
 |[],k,F,c,cs,h=>by simp only[bU,dH,tfL,fB,List.append_nil,Int.add_zero]
 |r::rs,k,F,c,cs,h=>by
  simp only[WdL] at h;simp only[bU];rw[cI,cI6 r _ _ _ _ h.1];simp only[Option.bind_some];rw[rD rs _ _ _ _ h.2];simp only[tfL,fB,List.append_assoc,Int.add_assoc]
end
theorem aM7{H H2:Hp}{d l a:Addr}(D2:dR H2 d l)(o:fH d l H H2)(h:H2 a=none):H a=none:=by
 cases q:H a with
 |none=>rfl
 |some u =>
  exfalso;obtain⟨sd,n,ls,z⟩:=D2
  by_cases h1:a=d
  ·rw[h1,z.dc] at h;cases h
  ·by_cases h2:a=l
   ·rw[h2,z.lc] at h;cases h
   ·rw[o a u q h1 h2] at h;cases h
theorem kI{H:Hp}{d l r:Addr}(D:dR H d l)(h:H r=none):r≠d/\r≠l:=by
 obtain⟨sd,n,ls,z⟩:=D;exact⟨(aJ z.dc h).symm,(aJ z.lc h).symm⟩
theorem bE3{H:Hp}{d l p:Addr}{xs ys:List V}(D:dR H d l)(h:H p=some (.lst xs))(n:p≠l):dR (aL H p (.lst ys)) d l:=by
 obtain⟨sd,k,ls,z⟩:=D;exact⟨sd,k,ls,⟨by rw[aG (fQ z.dc h (by intro z;cases z))];exact z.dc,by rw[aG n.symm];exact z.lc,z.s0,z.s1,z.n0,z.l0⟩⟩
theorem bB{H H':Hp}{d l p:Addr}{xs:List V}(D:dR H d l)(h:H p=some (.lst xs))(n:p≠l)(o:fH d l H H'):H' p=some (.lst xs):=by
 obtain⟨sd,k,ls,z⟩:=D;exact o _ _ h (fQ h z.dc (by intro z;cases z)) n
theorem bN3{H H2:Hp}{d l lf:Addr}{o:HO}(h:fH d l H H2)(hf:H lf=none):fH d l H (aL H2 lf o):=fun b u e h1 h2=>by
 rw[aG (aJ e hf)];exact h b u e h1 h2
def eX(S:List Addr)(H H':Hp):Prop:=∀b o,H b=some o->b∉S->H' b=some o
theorem eX.refl{S:List Addr}(H:Hp):eX S H H:=fun _ _ e _=>e
theorem eX.trans{S:List Addr}{H H1 H2:Hp}(a:eX S H H1)(b:eX S H1 H2):eX S H H2:=fun c o e h=>b c o (a c o e h) h
theorem eX.of{S:List Addr}{H H':Hp}(s:aO H H'):eX S H H':=fun c o e _=>s c o e
theorem eX.out{d l sc:Addr}{H H':Hp}(o:fH d l H H'):eX [d,l,sc] H H':=fun b u e n=>o b u e (fun z=>n (by rw[z];exact ao)) (fun z=>n (by rw[z];exact ak _ ao))
theorem eX.new{S:List Addr}{H H1:Hp}{p:Addr}{o:HO}(a:eX S H H1)(h:H p=none):eX S H (aL H1 p o):=fun b u e n=>by
 rw[aG (aJ e h)];exact a b u e n
theorem eX.fresh{S:List Addr}{H H1:Hp}{p:Addr}(a:eX S H H1)(hS:∀b∈S,∃o,H1 b=some o)(h:H1 p=none):H p=none:=by
 cases q:H p with
 |none=>rfl
 |some u =>
  exfalso
  by_cases m:p∈S
  ·obtain⟨o,e⟩:=hS p m;rw[e] at h;cases h
  ·rw[a p u q m] at h;cases h
section
variable {H H':Hp}{d l sc nl:Addr}{many:Int}{xs:List Str}
end
mutual
def xY(ks:List Str):Rw->List Str->Prop
 |.thr _ _ x _ am,k2=>k2=ks++[x]/\am.amiss=false
 |.lt _ x t,k2=>k2=ks++[x]/\∀y∈t.names,y∈ks
 |.tell _ t,k2=>k2=ks/\∀y∈t.names,y∈ks
 |.when _ _ _ t a b,k2=>(∀y∈t.names,y∈ks)/\∃k3 k4,iI ks a k3/\iI ks b k4/\k2=k3.filter (fun x=>decide (x∈k4))
 |.times _ _ _ b,k2=>iI ks b k2
def iI(ks:List Str):List Rw->List Str->Prop
 |[],k2=>k2=ks
 |r::rs,k2=>∃k1,xY ks r k1/\iI k1 rs k2
end
theorem iI.app{ks k1 k2:List Str}{r:Rw}:∀{rs:List Rw}{ks:List Str},iI ks rs k1->xY k1 r k2->iI ks (rs++[r]) k2
 |[],ks,h,h2=>by
  have h:k1=ks:=h;rw[h] at h2;exact⟨k2,h2,rfl⟩
 |q::rs,ks,⟨k3,h1,h2⟩,h3=>⟨k3,h1,iI.app (ks:=ks) h2 h3⟩
mutual
theorem xY.len:∀(r:Rw) {ks k2:List Str},xY ks r k2->k2.length<=ks.length+r.cnt
 |.thr _ _ x _ am,ks,k2,h=>by rw[h.1];simp[Rw.cnt]
 |.lt _ x t,ks,k2,h=>by rw[h.1];simp[Rw.cnt]
 |.tell _ t,ks,k2,h=>by rw[h.1];simp[Rw.cnt]
 |.when _ _ _ t a b,ks,k2,⟨_,k3,k4,h1,h2,h3⟩=>by
  have:=iI.len a h1;have:=ja (fun x=>decide (x∈k4)) k3;rw[h3];simp only[Rw.cnt];lia
 |.times _ _ _ b,ks,k2,h=>by
  have:=iI.len b (show iI ks b k2 from h);simp only[Rw.cnt];lia
theorem iI.len : ∀(rs : List Rw) {ks k2 : List Str},iI ks rs k2 -> k2.length <= ks.length + bS rs
  |[],ks,k2,h=>by rw[show k2=ks from h];simp[bS]
  | r::rs,ks,k2,⟨k1,h1,h2⟩ => by
    have:= xY.len r h1;have:= iI.len rs h2;simp only[bS];lia
end
mutual
def kA:Rw->Prop
 |.thr _ _ _ _ _=>True
 |.lt _ _ _=>True
 |.tell _ _=>True
 |.when _ _ _ _ a b=>fB a=fB b/\cD a/\cD b
 |.times _ _ n b=>(0<=n/\n<=9/\0<=fB b/\fB b<=100)/\cD b
def cD:List Rw->Prop
 |[]=>True
 |r::rs=>kA r/\cD rs
end
theorem rN:∀(rs qs:List Rw),fB (rs++qs)=fB rs+fB qs
 |[],qs=>by simp[fB]
 |r::rs,qs=>by simp only[List.cons_append,fB,rN rs qs];lia
theorem cD.app:∀{rs qs:List Rw},cD rs->cD qs->cD (rs++qs)
 |[],_,_,h=>h
 |_::_,_,⟨h,k⟩,h2=>⟨h,cD.app k h2⟩
mutual
def Rw.dp:Rw->Nat
 |.when _ _ _ _ a b=>1+max (pP a) (pP b)
 |.times _ _ _ b=>1+pP b
 |.thr _ _ _ _ _=>0
 |.lt _ _ _=>0
 |.tell _ _=>0
def pP:List Rw->Nat
 |[]=>0
 |r::rs=>max r.dp (pP rs)
end
theorem vN{m:Nat}{r:Rw}:∀{rs:List Rw},pP rs<=m->r.dp<=m->pP (rs++[r])<=m
 |[],_,h=>by simp only[List.nil_append,pP];lia
 |q::rs,h,h2=>by
  simp only[pP] at h;have:=vN (rs:=rs) (m:=m) (r:=r) (by lia) h2;simp only[List.cons_append,pP];lia
def bG(rs:List Rw):List V:=rs.map fun r=>V.ref r.p
inductive spParts(vs:List V)(H:Hp)(Q:VK)(z1:XK):Prop
 |mk:∀t:Tm,(vs=[.ref t.p])->(oV H t)->(t.size<=900)->(∀(r:Addr) (H':Hp),aO H H'->H r=none->H' r=some (.lst (t.pre.map fun u=>V.ref u.p))->Q (.ref r) H')->spParts vs H Q z1
abbrev Stq:=Str×Rw
def kS(H:Hp)(z:V)(s:Stq):Prop:=∃q,z= .ref q/\H q=some (.tup [.str s.1,.ref s.2.p])
def mD(H:Hp)(z:V)(s:Stp):Prop:=∃q,z= .ref q/\H q=some (.tup [.str s.1,.ref s.2.1.p,.int s.2.2])
theorem kS.ts{H H':Hp}(t:TS H H'){z:V}{s:Stq}(h:kS H z s):kS H' z s:=by obtain⟨q,e,k⟩:=h;exact⟨q,e,t _ _ k⟩
theorem mD.ts{H H':Hp}(t:TS H H'){z:V}{s:Stp}(h:mD H z s):mD H' z s:=by obtain⟨q,e,k⟩:=h;exact⟨q,e,t _ _ k⟩
def eQ:Rw->List Stq
 |.when p pa pb t a b=>a.map (fun r=>(("row": Str),r))++[(("else": Str),Rw.when p pa pb t a b)]++b.map (fun r=>(("row": Str),r))++[(("end": Str),Rw.when p pa pb t a b)]
 |.times p pb n b=>b.map (fun r=>(("row": Str),r))++[(("end": Str),Rw.times p pb n b)]
 |.thr _ _ _ _ _=>[]
 |.lt _ _ _=>[]
 |.tell _ _=>[]
inductive spAsS(vs:List V)(H:Hp)(Q:VK)(z1:XK):Prop
 |mk:∀(p:Addr) (rs:List Rw),(vs=[.ref p])->(H p=some (.tup (bG rs)))->(rs.length<=4000)->(∀(r:Addr) (zs:List V) (H':Hp),aO H H'->H' r=some (.lst zs)->cV (kS H') zs (rs.map fun r=>(("row": Str),r))->Q (.ref r) H')->spAsS vs H Q z1
inductive spInner(vs:List V)(H:Hp)(Q:VK)(z1:XK):Prop
 |mk:∀(r:Rw),(vs=[.ref r.p])->(dF H r)->(r.cnt<=4000)->(∀(q:Addr) (zs:List V) (H':Hp),aO H H'->H' q=some (.lst zs)->cV (kS H') zs (eQ r)->Q (.ref q) H')->spInner vs H Q z1
inductive spSteps(vs:List V)(H:Hp)(Q:VK)(z1:XK):Prop
 |mk:∀(p:Addr) (rs:List Rw),(vs=[.ref p])->(H p=some (.tup (bG rs)))->(aP H rs)->(bS rs<=4000)->(∀(r:Addr) (zs:List V) (H':Hp),aO H H'->H r=none->H' r=some (.lst zs)->cV (mD H') zs (bU 0 rs)->Q (.ref r) H')->spSteps vs H Q z1
def Tm.nm:Tm->Option Str
 |.nam _ x=>some x
 |_=>none
theorem Tm.pre_names:∀t:Tm,t.pre.filterMap Tm.nm=t.names
 |.num _ _=>rfl
 |.nam _ _=>rfl
 |.op p s a b=>by
  show List.filterMap Tm.nm (Tm.op p s a b::(a.pre++b.pre))=a.names++b.names;rw[kx (by rfl),gv,Tm.pre_names a,Tm.pre_names b]
inductive spNamesIn(vs:List V)(H:Hp)(Q:VK)(z1:XK):Prop
 |mk:∀t:Tm,(vs=[.ref t.p])->(oV H t)->(t.size<=900)->(∀(r:Addr) (H':Hp),aO H H'->H' r=some (.lst (t.names.map V.str))->Q (.ref r) H')->spNamesIn vs H Q z1
inductive spSetsN(vs:List V)(H:Hp)(Q:VK)(z1:XK):Prop
 |mk:∀r:Rw,(vs=[.ref r.p])->(dF H r)->(Q (.bl r.sets.isSome) H)->spSetsN vs H Q z1
inductive spAsked(vs:List V)(H:Hp)(Q:VK)(z1:XK):Prop
 |mk:∀r:Rw,(vs=[.ref r.p])->(dF H r)->(∀(q:Addr) (H':Hp),aO H H'->H' q=some (.lst (r.asked.map V.str))->Q (.ref q) H')->spAsked vs H Q z1
inductive spBegins(vs:List V)(H:Hp)(Q:VK)(z1:XK):Prop
 |mk:∀s:Stp,(vs=[.str s.1,.ref s.2.1.p])->(dF H s.2.1)->(∀H',aO H H'->Q (.bl (eN s)) H')->spBegins vs H Q z1
inductive spFirstA(vs:List V)(H:Hp)(Q:VK)(z1:XK):Prop
 |mk:∀(p:Addr) (x:Str) (us:List V) (am:TD),(vs=[.ref p])->(H p=some (.tup (.str "first" :: .str x::us)))->(jZ H "first" us am)->(Q (.bl am.amiss) H)->spFirstA vs H Q z1
def Rw.ams:Rw->Bool
 |.thr _ _ _ _ am=>am.amiss
 |.lt _ _ _=>false
 |.tell _ _=>false
 |.when _ _ _ _ _ _=>false
 |.times _ _ _ _=>false
inductive spRangeA(vs:List V)(H:Hp)(Q:VK)(z1:XK):Prop
 |mk:∀r:Rw,(vs=[.ref r.p])->(dF H r)->(Q (.bl r.ams) H)->spRangeA vs H Q z1
def lY(H:Hp)(ls:Addr)(zs:List V)(rs:List Rw):Prop:=H ls=some (.lst zs)/\cV (mD H) zs (bU 0 rs)/\aP H rs/\bS rs<=4000
theorem lY.same{H H':Hp}(s:aO H H'){ls:Addr}{zs:List V}{rs:List Rw}(h:lY H ls zs rs):lY H' ls zs rs:=⟨s _ _ h.1,h.2.1.mono fun _ _ z=>mD.ts (.of s) z,aP.ts (.of s) rs h.2.2.1,h.2.2.2⟩
def ftW(c:Int):Str:=if c=0 then "range" else if c=1 then "unknown" else "tells"
def lM(H:Hp)(z:V)(m:Ft):Prop:=∃q,z= .ref q/\H q=some (.tup [.int m.1,.int m.2,.str (ftW m.2)])
theorem lM.ts{H H':Hp}(t:TS H H'){z:V}{m:Ft}(h:lM H z m):lM H' z m:=by obtain⟨q,e,k⟩:=h;exact⟨q,e,t _ _ k⟩
def bZ1(H:Hp)(Q:VK)(fs:List Ft):Prop:=∀(r:Addr) (us:List V) (H':Hp),aO H H'->H r=none->H' r=some (.lst us)->cV (lM H') us fs->Q (.ref r) H'
inductive spRangeF(vs:List V)(H:Hp)(Q:VK)(z1:XK):Prop
 |mk:∀(ls:Addr) (zs:List V) (rs:List Rw),(vs=[.ref ls])->(lY H ls zs rs)->(bZ1 H Q (rfL 0 rs))->spRangeF vs H Q z1
inductive spUnkF(vs:List V)(H:Hp)(Q:VK)(z1:XK):Prop
 |mk:∀(ls:Addr) (zs:List V) (rs:List Rw),(vs=[.ref ls])->(lY H ls zs rs)->(bZ1 H Q (ufL 0 [] rs))->spUnkF vs H Q z1
mutual
def aK4:Rw->Prop
 |.when _ _ _ _ a b=>aE3 a/\aE3 b
 |.times _ _ n b=>0<=n/\n<=9/\aE3 b
 |.thr _ _ _ _ _=>True
 |.lt _ _ _=>True
 |.tell _ _=>True
def aE3:List Rw->Prop
 |[]=>True
 |r::rs=>aK4 r/\aE3 rs
end
inductive spTelF(vs:List V)(H:Hp)(Q:VK)(z1:XK):Prop
 |mk:∀(ls:Addr) (zs:List V) (rs:List Rw),(vs=[.ref ls])->(lY H ls zs rs)->(aE3 rs)->(pP rs<=6)->(bZ1 H Q (tfL 0 rs))->spTelF vs H Q z1
structure Dk(H:Hp)(a:Addr)(ns:List Str)(n:Nat):Prop where
 ex:∃kvs:List (Key×V),H a=some (.dK kvs)/\(∀x:Str,(cJ kvs (Sum.inr x:Key)).isSome=true↔x∈ns)/\(∀q∈kvs,∃x,q.1=(Sum.inr x:Key))/\kvs.length<=n
theorem Dk.at{H H':Hp}{a:Addr}{ns:List Str}{n:Nat}(D:Dk H a ns n)(h:∀o,H a=some o->H' a=some o):Dk H' a ns n:=⟨let⟨k,e,r⟩:=D.ex;⟨k,h _ e,r⟩⟩
theorem Dk.more{H:Hp}{a:Addr}{ns:List Str}{n m:Nat}(D:Dk H a ns n)(h:n<=m):Dk H a ns m:=⟨let⟨k,e,r1,r2,r3⟩:=D.ex;⟨k,e,r1,r2,by lia⟩⟩
inductive spBoth(vs:List V)(H:Hp)(Q:VK)(z1:XK):Prop
 |mk:∀(a b:Addr) (ka kb:List Str) (n m:Nat),(vs=[.ref a,.ref b])->(a≠b)->(Dk H a ka n)->(Dk H b kb m)->(n<=20000)->(∀(d:Addr) (H':Hp),(∀c o,H c=some o->c≠a->H' c=some o)->H d=none->Dk H' d (ka.filter fun x=>decide (x∈kb)) n->Q (.ref d) H')->spBoth vs H Q z1
theorem fC{n:Nat}(h:n<=9000000):n<sizeLine:=by rw[pf];lia
theorem aF6:∀l:List Tm,l.length<=(l.flatMap Tm.pre).length
 |[]=>af _
 |t::r=>by have:=aF6 r;have:=t.size_pos;rw[bx,kh,ap,Tm.pre_len];lia
theorem cL3:¬(V.str "num"=V.str "op"):=by decide
theorem cT3:¬(V.str "name"=V.str "op"):=by decide
theorem wOM:¬(V.str "op"=V.str "name"):=by decide
theorem wTW:¬(V.str "times"=V.str "when"):=by decide
theorem wLW:¬(V.str "let"=V.str "when"):=by decide
theorem wLT:¬(V.str "let"=V.str "times"):=by decide
theorem wEW:¬(V.str "tell"=V.str "when"):=by decide
theorem wET:¬(V.str "tell"=V.str "times"):=by decide
theorem aW6{w:Str}(h:w∈cN):¬(V.str w=V.str "when"):=fun z=>by
 have e:w="when":=by injection z
 rw[e] at h;exact absurd h (by decide)
theorem bW8{w:Str}(h:w∈cN):¬(V.str w=V.str "times"):=fun z=>by
 have e:w="times":=by injection z
 rw[e] at h;exact absurd h (by decide)
theorem iV{v:V}{r:List V}:mE (v::r) 0=some v:=by
 unfold mE ixN;rw[br (ko 0),br (by rw[bx];lia)];rfl
theorem bD(rs:List Rw):(bG rs).length=rs.length:=aa _
theorem lI{rs:List Rw}{i:Nat}{v:V}(h:(bG rs)[i]?=some v):∃r,v= .ref r.p/\rs[i]?=some r:=by
 unfold bG at h;rw[di] at h
 cases e:rs[i]? with
 |none=>rw[e] at h;cases h
 |some r=>rw[e] at h;exact⟨r,(dt h).symm,rfl⟩
theorem dW(rs qs:List Rw):bG (rs++qs)=bG rs++bG qs:=bo ..
theorem gF{α:Type}{R:V->α->Prop}:∀{vs:List V}{as:List α}{i:Nat}{v:V},cV R vs as->vs[i]?=some v->∃a,as[i]?=some a/\R v a
 |[],[],i,v,_,h=>by cases h
 |v::vs,a::as,0,_,⟨e,_⟩,h=>by cases h;exact⟨a,rfl,e⟩
 |v::vs,a::as,i+1,x,⟨_,r⟩,h=>by
  obtain⟨b,h1,h2⟩:=gF (i:=i) (v:=x) r (by simpa using h);exact⟨b,by simpa using h1,h2⟩
 |[],_::_,_,_,z,_=>z.elim
 |_::_,[],_,_,z,_=>z.elim
theorem pZ{α:Type}{R:V->α->Prop}:∀{vs:List V}{as:List α},cV R vs as->cV R vs.reverse as.reverse
 |[],[],_=>trivial
 |v::vs,a::as,⟨e,r⟩=>by
  rw[dr,dr];exact cV.append (pZ r) ⟨e,trivial⟩
 |[],_::_,z=>z.elim
 |_::_,[],z=>z.elim
theorem qW{α:Type}{R:V->α->Prop}:∀{as:List α}{vs:List V}{a:α},cV R vs (as++[a])->∃us v,vs=us++[v]/\cV R us as/\R v a
 |[],[v],a,⟨e,_⟩=>⟨[],v,rfl,trivial,e⟩
 |[],_::_::_,_,⟨_,z⟩=>z.elim
 |[],[],_,z=>z.elim
 |b::bs,[],_,z=>z.elim
 |b::bs,v::vs,a,⟨e,r⟩=>by
  obtain⟨us,u,h1,h2,h3⟩:=qW (as:=bs) r;exact⟨v::us,u,by rw[h1];rfl,⟨e,h2⟩,h3⟩
theorem qC:∀{rs:List Rw}{r:Rw},r∈rs->r.cnt<=bS rs
 |[],_,h=>absurd h bc
 |q::rs,r,h=>by
  simp only[bS];rcases bw.mp h with e|e
  ·rw[e];lia
  ·have:=qC e;lia
theorem aM8:∀{r:Rw}{s:Stq},s∈eQ r->s.2=r\/s.2∈r.kids
 |.when p pa pb t a b,s,h=>by
  simp only[eQ,List.mem_append,List.mem_map,List.mem_singleton] at h;rcases h with((⟨x,hx,e⟩|e)|⟨x,hx,e⟩)|e
  ·right;rw[<-e];exact cg _ hx
  ·left;rw[e]
  ·right;rw[<-e];exact be _ hx
  ·left;rw[e]
 |.times p pb n b,s,h=>by
  simp only[eQ,List.mem_append,List.mem_map,List.mem_singleton] at h;rcases h with⟨x,hx,e⟩|e
  ·right;rw[<-e];exact hx
  ·left;rw[e]
 |.thr _ _ _ _ _,_,h=>absurd h bc
 |.lt _ _ _,_,h=>absurd h bc
 |.tell _ _,_,h=>absurd h bc
theorem aV1{H:Hp}{r:Rw}(h:dF H r)(hc:r.cnt<=4000){s:Stq}(m:s∈eQ r):dF H s.2/\s.2.cnt<=4000:=by
 rcases aM8 m with e|e
 ·rw[e];exact⟨h,hc⟩
 ·have:=qC e;have:=bG1 r;exact⟨h.kids.mem _ e,by lia⟩
theorem dN(w:Str)(xs:List Str):wN (.str w) (xs.map V.str)=decide (w∈xs):=by
 unfold wN;rw[List.any_map]
 induction xs with
 |nil=>rfl
 |cons x r ih =>
  rw[na,ih];have e:(eqV (V.str x) (V.str w))=decide (x=w):=rfl;show(eqV (V.str x) (V.str w) || _)=_;rw[e]
  by_cases c:x=w
  ·simp[c]
  ·have c2:¬w=x:=fun z=>c z.symm
   simp[c,c2]
theorem dD(xs:List Str):(xs.map V.str).all lP=true:=oI xs
theorem mV{xs:List Str}{i:Nat}{v:V}(h:(xs.map V.str)[i]?=some v):∃x,v= .str x/\xs[i]?=some x:=by
 rw[di] at h
 cases e:xs[i]? with
 |none=>rw[e] at h;cases h
 |some r=>rw[e] at h;exact⟨r,(dt h).symm,rfl⟩
theorem cA1{r:Int}(h0:0<=r)(h1:r<5):∃c,mE ("+-*<=": Str).cps.toList r=some c/\(⟨#[c]⟩:Str)∈cN6:=by
 have:r=0\/r=1\/r=2\/r=3\/r=4:=by lia
 rcases this with rfl|rfl|rfl|rfl|rfl
 ·exact⟨43,rfl,by decide⟩
 ·exact⟨45,rfl,by decide⟩
 ·exact⟨42,rfl,by decide⟩
 ·exact⟨60,rfl,by decide⟩
 ·exact⟨61,rfl,by decide⟩
theorem aY6{α:Type}{xs:List α}{r:Int}(h0:0<=r)(h1:r<(xs.length:Int)):∃v,xs[r.toNat]?=some v/\mE xs r=some v:=by
 have hk:r.toNat<xs.length:=by lia
 refine⟨_,aj hk,?_⟩;have q:=wR (aj hk);rw[ie h0] at q;exact q
theorem bN1{H H1 H2:Hp}{d l sc:Addr}(o:fH d l H H1)(n:H sc=none)(o2:eX [d,l,sc] H1 H2):fH d l H H2:=fun b u e h1 h2=>by
 refine o2 b u (o b u e h1 h2) fun m=>?_
 simp only[List.mem_cons,List.not_mem_nil,or_false] at m;rcases m with m|m|m
 ·exact h1 m
 ·exact h2 m
 ·rw[m,n] at e;cases e
def dS:List Stp->Nat
 |[]=>0
 |s::r=>(if s.1="row" then s.2.1.cnt else 0)+dS r
def eS(k:Nat):List Stp->List Stp
 |[]=>[]
 |s::r=>if s.1="row" then bY k s.2.1++eS (k+s.2.1.cnt) r else s::eS k r
def rW(k:Nat)(s:Stq):Stp:=(s.1,s.2,k)
theorem iG:∀(l m:List Stp) (k:Nat),eS k (l++m)=eS k l++eS (k+dS l) m
 |[],m,k=>by simp only[List.nil_append,eS,dS,Nat.add_zero]
 |s::r,m,k=>by
  simp only[List.cons_append,eS,dS]
  by_cases c:s.1="row"
  ·rw[br c,br c,br c,iG r m,gj,Nat.add_assoc]
  ·rw[ay c,ay c,ay c,iG r m,qy,sy]
theorem iZ:∀(rs:List Rw) (k j:Nat),eS k (rs.map fun r=>rW j (("row": Str),r))=bU k rs/\dS (rs.map fun r=>rW j (("row": Str),r))=bS rs
 |[],k,j=>⟨by simp only[List.map_nil,eS,bU],by simp only[List.map_nil,dS,bS]⟩
 |r::rs,k,j=>by
  have h:=iZ rs (k+r.cnt) j;simp only[List.map_cons,eS,dS,bU,bS,rW,if_true];exact⟨eo _ h.1,eo _ h.2⟩
theorem yV{s:Stp}{k:Nat}{r:List Stp}(h:s.1="row"):eS k (s::r)=bY k s.2.1++eS (k+s.2.1.cnt) r:=by rw[eS,br h]
theorem kJ{s:Stp}{k:Nat}{r:List Stp}(h:¬s.1="row"):eS k (s::r)=s::eS k r:=by rw[eS,ay h]
theorem fV:∀(l m:List Stp),dS (l++m)=dS l+dS m
 |[],m=>by simp only[List.nil_append,dS,Nat.zero_add]
 |s::r,m=>by simp only[List.cons_append,dS,fV r m,Nat.add_assoc]
theorem mZ{s:Stp}(h:¬s.1="row"):dS [s]=0:=by simp only[dS,if_neg h]
theorem qM(k:Nat)(rs:List Rw):((rs.map fun r=>(("row": Str),r)).map (rW k))=rs.map fun r=>rW k (("row": Str),r):=by rw[mq];rfl
theorem xU:∀(r:Rw) (k:Nat),bY k r=(("row": Str),r,k)::eS (k+1) ((eQ r).map (rW k))/\1+dS ((eQ r).map (rW k))=r.cnt
 |.when p pa pb t a b,k=>by
  obtain⟨h1,h2⟩:=iZ a (k+1) k;obtain⟨h3,h4⟩:=iZ b (k+1+bS a) k;simp only[eQ,List.map_append,qM,List.map_cons,List.map_nil];have e1:¬(rW k (("else": Str),Rw.when p pa pb t a b)).1="row":=wB;have e2:¬(rW k (("end": Str),Rw.when p pa pb t a b)).1="row":=gX;refine⟨?_,?_⟩
  ·rw[iG,iG,iG,fV,mZ e1,h2,h1];simp only[Nat.add_zero];rw[h3,kJ e1,kJ e2];simp only[eS,bY];rfl
  ·rw[fV,fV,fV,mZ e1,mZ e2,h2,h4];simp only[Rw.cnt];lia
 |.times p pb n b,k=>by
  obtain⟨h1,h2⟩:=iZ b (k+1) k;simp only[eQ,List.map_append,qM,List.map_cons,List.map_nil];have e2:¬(rW k (("end": Str),Rw.times p pb n b)).1="row":=gX;refine⟨?_,?_⟩
  ·rw[iG,h1,kJ e2];simp only[eS,bY];rfl
  ·rw[fV,mZ e2,h2];simp only[Rw.cnt];lia
 |.thr p w x vs am,k=>⟨by simp only[bY,eQ,List.map_nil,eS],by simp only[eQ,List.map_nil,dS,Rw.cnt]⟩
 |.lt p x t,k=>⟨by simp only[bY,eQ,List.map_nil,eS],by simp only[eQ,List.map_nil,dS,Rw.cnt]⟩
 |.tell p t,k=>⟨by simp only[bY,eQ,List.map_nil,eS],by simp only[eQ,List.map_nil,dS,Rw.cnt]⟩
theorem aM1{s:Stp}{k:Nat}{r:List Stp}(h:s.1="row"):eS k (s::r)=(("row": Str),s.2.1,k)::eS (k+1) ((eQ s.2.1).map (rW k)++r):=by
 obtain⟨h1,h2⟩:=xU s.2.1 k;rw[yV h,h1,iG,sy, <-h2]
 congr 3
 lia
theorem aR1(r:Rw)(k:Nat):1<=(bY k r).length:=by rw[(xU r k).1];simp
theorem nJ:∀(l:List Stp) (k:Nat),l.length<=(eS k l).length
 |[],k=>af _
 |s::r,k=>by
  by_cases c:s.1="row"
  ·have:=nJ r (k+s.2.1.cnt);have:=aR1 s.2.1 k;rw[yV c,bx,ap];lia
  ·have:=nJ r k;rw[kJ c,bx,bx];lia
def kT(H:Hp)(z:V)(s:Stp):Prop:=∃q m,z= .ref q/\H q=some (.tup [.str s.1,.ref s.2.1.p,.int m])/\(¬s.1="row"->m=(s.2.2:Int))
theorem kT.ts{H H':Hp}(t:TS H H'){z:V}{s:Stp}(h:kT H z s):kT H' z s:=by
 obtain⟨q,m,e,k,l⟩:=h;exact⟨q,m,e,t _ _ k,l⟩
theorem aO4{w:Str}(h:w∈cN):w≠"tell":=by
 simp only[cN,List.mem_cons,List.not_mem_nil,or_false] at h;rcases h with rfl|rfl|rfl|rfl<;>decide
mutual
theorem dF.wd{H:Hp}:∀(r:Rw),dF H r->WdR r
 |.thr _ _ _ _ _,h=>h.2.w
 |.lt _ _ _,_=>trivial
 |.tell _ _,_=>trivial
 |.when _ _ _ _ a b,h=>⟨aP.wd a h.2.2.2.2.2.1,aP.wd b h.2.2.2.2.2.2⟩
 |.times _ _ _ b,h=>aP.wd b h.2.2
theorem aP.wd{H:Hp}:∀(rs:List Rw),aP H rs->WdL rs
 |[],_=>trivial
 |r::rs,h=>⟨dF.wd r h.1,aP.wd rs h.2⟩
end
mutual
theorem bA9:∀(r:Rw) {H:Hp}(k:Nat),dF H r->∀s∈bY k r,dF H s.2.1
 |.thr p w x vs am,H,k,h,s,hs=>by
  simp only[bY,List.mem_singleton] at hs;rw[hs];exact h
 |.lt p x t,H,k,h,s,hs=>by
  simp only[bY,List.mem_singleton] at hs;rw[hs];exact h
 |.tell p t,H,k,h,s,hs=>by
  simp only[bY,List.mem_singleton] at hs;rw[hs];exact h
 |.when p pa pb t a b,H,k,h,s,hs=>by
  simp only[bY,List.mem_cons,List.mem_append,List.mem_singleton,List.not_mem_nil,or_false] at hs;rcases hs with e|((e|e)|e)|e
  ·rw[e];exact h
  ·exact eI a _ h.2.2.2.2.2.1 s e
  ·rw[e];exact h
  ·exact eI b _ h.2.2.2.2.2.2 s e
  ·rw[e];exact h
 |.times p pb n b,H,k,h,s,hs=>by
  simp only[bY,List.mem_cons,List.mem_append,List.mem_singleton,List.not_mem_nil,or_false] at hs;rcases hs with e|e|e
  ·rw[e];exact h
  ·exact eI b _ h.2.2 s e
  ·rw[e];exact h
theorem eI:∀(rs:List Rw) {H:Hp}(k:Nat),aP H rs->∀s∈bU k rs,dF H s.2.1
 |[],H,k,h,s,hs=>by simp only[bU] at hs;cases hs
 |r::rs,H,k,h,s,hs=>by
  simp only[bU,List.mem_append] at hs;rcases hs with e|e
  ·exact bA9 r k h.1 s e
  ·exact eI rs _ h.2 s e
end
theorem wM(a b:Str):(a++b).cps=a.cps++b.cps:=rfl
theorem bJ6{a b:Str}{c c':Nat}(h:a++(⟨#[c]⟩:Str)++b=a++(⟨#[c']⟩:Str)++b):c=c':=by
 have e:=eo (fun z:Str=>z.cps.toList) h;simp only[wM,Array.toList_append] at e;have e2:=uw (ui e)
 simpa using e2
theorem bY9{r:Nat}(h:r<26):mE ("abcdefghijklmnopqrstuvwxyz": Str).cps.toList (r:Int)=some (97+r):=by
 have a:∀i:Fin 26,mE ("abcdefghijklmnopqrstuvwxyz": Str).cps.toList (i.val:Int)=some (97+i.val):=by decide
 exact a ⟨r,h⟩
def aK1(tn:Int)(k:Nat):Nat:=97+((tn+7*(k:Int)) % 26).toNat
theorem bP7(tn:Int)(k:Nat):mE ("abcdefghijklmnopqrstuvwxyz": Str).cps.toList ((tn+7*(0+(k:Int))) % 26)=some (aK1 tn k):=by
 have h0:0<=(tn+7*(k:Int)) % 26:=jp _ (by decide);have h1:(tn+7*(k:Int)) % 26<26:=jw _ (by decide);have e:((tn+7*(0+(k:Int))) % 26)=(((tn+7*(k:Int)) % 26).toNat:Int):=by rw[oj,ie h0]
 rw[e,bY9 (by lia)];rfl
theorem aU8{tn:Int}{i j:Nat}(hi:i<9)(hj:j<9)(h:aK1 tn i=aK1 tn j):i=j:=by
 unfold aK1 at h;omega
def zO(a b:Str)(tn:Int)(k:Nat):Str:=a++(⟨#[aK1 tn k]⟩:Str)++b
def bX4(a b:Str)(tn:Int)(i:Nat)(ws:List Str):Prop:=ws.Nodup/\∀w∈ws,∃j,j<i/\(w=zO a b tn j\/w=zO a b tn j++"q")
theorem aJ7(a b:Str)(tn:Int)(k:Nat):(zO a b tn k).length=a.length+1+b.length:=by
 unfold zO;rw[ni,ni];rfl
theorem aZ7:("q": Str).length=1:=by decide
theorem aM0{a b:Str}{tn:Int}{i:Nat}{ws:List Str}(h:bX4 a b tn i ws)(hi:i<9){w:Str}(hw:w=zO a b tn i\/w=zO a b tn i++"q"):bX4 a b tn (i+1) (ws++[w]):=by
 refine⟨?_,fun v hv=>?_⟩
 ·rw[jf];refine⟨h.1,by simp,fun x hx y hy=>?_⟩;rw[au.mp hy];obtain⟨j,hj,e⟩:=h.2 x hx;intro z;have li:=aJ7 a b tn i;have lj:=aJ7 a b tn j;have ne:zO a b tn j≠zO a b tn i:=fun q=>by
   have:=aU8 (by lia) hi (bJ6 q);lia
  rcases e with e|e<;>rcases hw with e2|e2
  ·exact ne (by rw[<-e, <-e2,z])
  ·have:=eo Str.length (e.symm.trans (z.trans e2));rw[ni,aZ7] at this;lia
  ·have:=eo Str.length (e.symm.trans (z.trans e2));rw[ni,aZ7] at this;lia
  ·refine ne ?_;have e3:=eo (fun z:Str=>z.cps.toList) (e.symm.trans (z.trans e2));simp only[wM,Array.toList_append] at e3;have e4:=ui e3;have e5:=ue.mp e4;show(zO a b tn j)=_
   cases hj':zO a b tn j
   cases hi':zO a b tn i
   rw[hj',hi'] at e5;exact eo Str.mk e5
 ·rcases bu.mp hv with e|e
  ·obtain⟨j,hj,q⟩:=h.2 v e;exact⟨j,by lia,q⟩
  ·rw[au.mp e];exact⟨i,by lia,hw⟩
theorem aD9{ks:List Str}(h:ks.Nodup):(ks.map (fun x=>(Sum.inr x:Key))).Nodup:=by
 rw[List.nodup_iff_pairwise_ne,List.pairwise_map];exact h.imp fun z q=>z (by injection q)
theorem cG7{x y:Str}(h:¬x=y):¬((Sum.inr x:Key)=Sum.inr y):=fun z=>h (by injection z)
theorem Dk.new{H:Hp}{a:Addr}(h:H a=some (.dK [])):Dk H a [] 0:=⟨[],h,fun x=>by rw[qN];simp,fun q hq=>absurd hq bc,af _⟩
theorem Dk.ext{H:Hp}{a:Addr}{ns ms:List Str}{n:Nat}(D:Dk H a ns n)(h:∀x,x∈ns↔x∈ms):Dk H a ms n:=⟨let⟨k,e,r1,r2,r3⟩:=D.ex;⟨k,e,fun x=>(r1 x).trans (h x),r2,r3⟩⟩
theorem Dk.get{H:Hp}{a:Addr}{ns:List Str}{n:Nat}(D:Dk H a ns n)(x:Str):∃o:Option V,eR H a (.str x) o/\o.isSome=decide (x∈ns):=by
 obtain⟨kvs,e,r1,_⟩:=D.ex;refine⟨_,eR.k (k:=Sum.inr x) e,?_⟩
 by_cases c:x∈ns
 ·rw[ai c];exact(r1 x).mpr c
 ·rw[db c]
  cases q:(cJ kvs (Sum.inr x:Key)).isSome with
  |false=>rfl
  |true=>exact absurd ((r1 x).mp q) c
theorem aN4{m:List (Key×V)}{k:Key}{v:V}{q:Key×V}(h:q∈cZ m k v):q.1=k\/∃p∈m,q.1=p.1:=by
 unfold cZ at h
 split at h
 ·obtain⟨p,hp,e⟩:=fi.mp h
  by_cases c:p.1=k
  ·rw[br c] at e;rw[<-e];exact .inr ⟨p,hp,rfl⟩
  ·rw[ay c] at e;rw[<-e];exact .inr ⟨p,hp,rfl⟩
 ·rcases bu.mp h with e|e
  ·exact .inr ⟨q,e,rfl⟩
  ·rw[au.mp e];exact .inl rfl
theorem Dk.put{H:Hp}{a:Addr}{ns:List Str}{n:Nat}(D:Dk H a ns n)(hn:n<=20000)(x:Str)(v:V):∃o:HO,jM H a (.str x) v (aL H a o)/\Dk (aL H a o) a (ns++[x]) (n+1)/\∃q,o= .dK q:=by
 obtain⟨kvs,e,r1,r2,r3⟩:=D.ex;refine⟨_,jM.k (k:=Sum.inr x) e (fC (by lia)),⟨_,aB,fun y=>?_,fun q hq=>?_,?_⟩,_,rfl⟩
 ·rw[jI]
  by_cases c:y=x
  ·rw[br (by rw[c]),c];simp
  ·rw[ay (cG7 c),r1 y];simp[c]
 ·rcases aN4 hq with z|⟨p,hp,z⟩
  ·exact⟨x,z⟩
  ·rw[z];exact r2 p hp
 ·have:=dY kvs (Sum.inr x:Key) v;lia
def qD(H:Hp)(n:Nat):List Addr->List (List Str)->Prop
 |[],[]=>True
 |a::r,k::q=>Dk H a k n/\qD H n r q
 |[],_::_=>False
 |_::_,[]=>False
theorem qD.at{H H':Hp}{n m:Nat}(hm:n<=m):∀{as:List Addr}{ks:List (List Str)},qD H n as ks->(∀a∈as,∀o,H a=some o->H' a=some o)->qD H' m as ks
 |[],[],_,_=>trivial
 |a::r,k::q,⟨h,h2⟩,e=>⟨(h.at (e a ao)).more hm,qD.at hm h2 fun b hb=>e b (ak _ hb)⟩
 |[],_::_,z,_=>z.elim
 |_::_,[],z,_=>z.elim
theorem qD.is{H:Hp}{n:Nat}:∀{as:List Addr}{ks:List (List Str)},qD H n as ks->∀a∈as,∃q,H a=some (.dK q)
 |[],[],_,_,h=>absurd h bc
 |a::r,k::q,⟨h,h2⟩,b,hb=>by
  rcases bw.mp hb with e|e
  ·rw[e];obtain⟨kvs,z,_⟩:=h.ex;exact⟨kvs,z⟩
  ·exact qD.is h2 b e
 |[],_::_,z,_,_=>z.elim
 |_::_,[],z,_,_=>z.elim
theorem qD.cons{H:Hp}{n:Nat}{as:List Addr}{k:List Str}{ks:List (List Str)}(h:qD H n as (k::ks)):∃a r,as=a::r/\Dk H a k n/\qD H n r ks:=by
 cases as with
 |nil=>exact h.elim
 |cons a r=>exact⟨a,r,rfl,h.1,h.2⟩
theorem qD.len{H:Hp}{n:Nat}:∀{as:List Addr}{ks:List (List Str)},qD H n as ks->as.length=ks.length
 |[],[],_=>rfl
 |a::r,k::q,⟨_,h2⟩=>by rw[bx,bx,qD.len h2]
 |[],_::_,z=>z.elim
 |_::_,[],z=>z.elim
def aL4(kvs:List (Key×V)):List Str:=kvs.filterMap fun q=>q.1.elim (fun _=>none) some
theorem aV8{kvs:List (Key×V)}{x:Str}:x∈aL4 kvs↔(cJ kvs (Sum.inr x:Key)).isSome=true:=by
 unfold aL4;rw[sh]
 constructor
 ·rintro⟨⟨k,v⟩,m,e⟩
  cases k with
  |inl n=>cases e
  |inr y =>
   cases e
   unfold cJ;rw[ma,oz];exact⟨_,m,ai rfl⟩
 ·intro h;unfold cJ at h;rw[ma,oz] at h;obtain⟨q,m,e⟩:=h;refine⟨q,m,?_⟩;rw[ae e];rfl
theorem mM{α σ:Type}{f:α->σ->Option σ}(μ:σ->Nat)(h:∀a st st',f a st=some st'->μ st'<=μ st+1):∀(l:List α) (st e:σ),dH f l st=some e->μ e<=μ st+l.length
 |[],st,e,z=>by cases z;exact af _
 |a::r,st,e,z=>by
  have z:(f a st).bind (dH f r)=some e:=z
  cases q:f a st with
  |none=>rw[q] at z;cases z
  |some s1 =>
   rw[q] at z;have:=h a st s1 q;have:=mM μ h r s1 e z;rw[bx];lia
theorem cI3(s:Stp)(st st':USt)(h:gZ s st=some st'):st'.2.2.length<=st.2.2.length+1:=by
 unfold gZ at h
 split at h
 ·cases h
  unfold tG
  split<;>simp only[List.length_cons]<;>lia
 ·split at h
  ·unfold aH1 at h
   split at h
   ·rename_i x y e
    cases h
    rw[e];simp only[List.length_cons];lia
   ·cases h
  ·split at h
   ·unfold bG9 at h
    split at h
    ·rename_i x y e
     cases h
     rw[e];simp only[List.length_cons];lia
    ·cases h
   ·cases h;lia
theorem cQ5(s:Stp)(st st':TSt)(h:gD s st=some st'):st'.2.length<=st.2.length+1:=by
 unfold gD at h
 split at h
 ·cases h;simp only[List.length_cons];lia
 ·split at h
  ·unfold bO5 at h
   split at h
   ·rename_i x y e
    cases h
    rw[e];simp only[List.length_cons];lia
   ·cases h
  ·split at h
   ·unfold xT at h
    split at h
    ·split at h
     ·rename_i e
      cases h
      rw[e];simp only[List.length_cons];lia
     ·cases h
     ·cases h
    ·split at h
     ·rename_i e
      cases h
      rw[e];simp only[List.length_cons];lia
     ·cases h
     ·cases h
     ·cases h
    all_goals cases h
   ·cases h;lia
theorem aQ1{r:Rw}(h:WdR r):(decide (r.w∈cN) || decide (r.w="let"))=r.sets.isSome:=by
 cases r with
 |thr p w x vs am =>
  have h:w∈cN:=h;show(decide (w∈cN) || _)=true;rw[ai h];rfl
 |lt p x t=>show(_ || decide (("let": Str)="let"))=true;simp
 |tell p t=>show(decide (("tell": Str)∈cN) || decide (("tell": Str)="let"))=false;decide
 |when p pa pb t a b=>show(decide (("when": Str)∈cN) || decide (("when": Str)="let"))=false;decide
 |times p pb n b=>show(decide (("times": Str)∈cN) || decide (("times": Str)="let"))=false;decide
theorem bS1{r:Rw}(h:WdR r):decide (V.str r.w=V.str "when")=jY r:=by
 cases r with
 |thr p w x vs am =>
  exact db (aW6 (show w∈cN from h))
 |lt p x t=>exact db wLW
 |tell p t=>exact db wEW
 |when p pa pb t a b=>exact ai rfl
 |times p pb n b=>exact db wTW
theorem at1{v u:V}{r:List V}:mE (v::u::r) 1=some u:=by
 unfold mE ixN;rw[br (by decide),br (by simp only[List.length_cons];lia)];rfl
theorem wMN:¬(V.str "num"=V.str "name"):=by decide
theorem wTL:¬(V.str "tell"=V.str "let"):=by decide
theorem wWL:¬(V.str "when"=V.str "let"):=by decide
theorem wML:¬(V.str "times"=V.str "let"):=by decide
theorem wWT:¬(V.str "when"=V.str "times"):=by decide
theorem cB7{w:Str}(h:w∈cN):¬(V.str w=V.str "let"):=fun z=>by
 have e:w="let":=by injection z
 rw[e] at h;exact absurd h (by decide)
theorem cB9{w:Str}(h:w∈cN):¬(wN (V.str w) [.str "tell",.str "when"]=true):=by
 rw[show([V.str "tell",V.str "when"]:List V)=(["tell","when"]:List Str).map V.str from rfl,dN];simp only[cN,List.mem_cons,List.not_mem_nil,or_false] at h;rcases h with rfl|rfl|rfl|rfl<;>decide
theorem Tm.names_len:∀t:Tm,t.names.length<=t.size
 |.num _ _=>az _
 |.nam _ _=>af _
 |.op _ _ a b=>by have:=a.names_len;have:=b.names_len;simp only[Tm.names,Tm.size,List.length_append];lia
theorem aO2{H:Hp}:∀{r:Rw},dF H r->r.asked.length<=9000000
 |.thr _ _ _ _ _,_=>az _
 |.lt _ _ t,h=>by have:=t.names_len;have:=h.2.2.2;show t.names.length<=_;lia
 |.tell _ t,h=>by have:=t.names_len;have:=h.2.2.2;show t.names.length<=_;lia
 |.when _ _ _ t _ _,h=>by have:=t.names_len;have:=h.2.2.1.2;show t.names.length<=_;lia
 |.times _ _ _ _,_=>az _
theorem aI5{H:Hp}:∀{r:Rw}{x:Str},dF H r->r.sets=some x->∃us,H r.p=some (.tup (.str r.w :: .str x::us))
 |.thr p w y vs am,x,h,e=>by cases e;exact⟨vs,h.1⟩
 |.lt p y t,x,h,e=>by cases e;exact⟨_,h.1⟩
 |.tell _ _,_,_,e=>by cases e
 |.when _ _ _ _ _ _,_,_,e=>by cases e
 |.times _ _ _ _,_,_,e=>by cases e
def rgF(s:Stp):Option Ft:=if s.1="row" then (if s.2.1.ams then some ((s.2.2:Int),0) else none) else none
theorem rR{r:Rw}{k:Nat}:rgF (("row": Str),r,k)=if r.ams then some ((k:Int),0) else none:=by unfold rgF;rw[br rfl]
theorem vM{s:Stp}(h:¬s.1="row"):rgF s=none:=by unfold rgF;rw[ay h]
theorem nB{α β:Type}{f:α->Option β}{a:α}{l:List α}(h:f a=none):(a::l).filterMap f=l.filterMap f:=kx h
mutual
theorem bH9:∀(r:Rw) (k:Nat),(bY k r).filterMap rgF=rf k r
 |.thr p w x vs am,k=>by
  simp only[bY,rf,bX9,List.filterMap_cons,List.filterMap_nil,rR,Rw.ams]
  by_cases c:am.amiss=true<;>simp[c]
 |.lt p x t,k=>by simp only[bY,rf,List.filterMap_cons,List.filterMap_nil,rR,Rw.ams];rfl
 |.tell p t,k=>by simp only[bY,rf,List.filterMap_cons,List.filterMap_nil,rR,Rw.ams];rfl
 |.when p pa pb t a b,k=>by
  simp only[bY];rw[nB (by rw[rR];rfl),gv,gv,gv,kX a,kX b,nB (vM wB),nB (vM gX)];simp only[List.filterMap_nil,List.append_nil,rf]
 |.times p pb n b,k=>by
  simp only[bY];rw[nB (by rw[rR];rfl),gv,kX b,nB (vM gX)];simp only[List.filterMap_nil,List.append_nil,rf]
theorem kX:∀(rs:List Rw) (k:Nat),(bU k rs).filterMap rgF=rfL k rs
 |[],k=>by simp only[bU,rfL,List.filterMap_nil]
 |r::rs,k=>by simp only[bU,rfL,List.filterMap_append,bH9 r,kX rs]
end
theorem bM2{α β:Type}{f:α->Option β}{l:List α}{i:Nat}{a:α}(h:l[i]?=some a):(l.take (i+1)).filterMap f=(l.take i).filterMap f++(f a).toList:=by
 rw[aY h,gv]
 cases e:f a<;>simp[List.filterMap_cons,e]
theorem cT9:ftW 0="range":=by unfold ftW;rw[br rfl]
theorem cT1:ftW 1="unknown":=by unfold ftW;rw[ay (by decide),br rfl]
theorem cS2:ftW 2="tells":=by unfold ftW;rw[ay (by decide),ay (by decide)]
theorem bW4(s:Stp)(st st':USt)(h:gZ s st=some st'):st'.1.length<=st.1.length+1:=by
 unfold gZ at h
 split at h
 ·cases h
  unfold tG unk
  split<;>simp
 ·split at h
  ·unfold aH1 at h
   split at h
   ·cases h;simp
   ·cases h
  ·split at h
   ·unfold bG9 at h
    split at h
    ·cases h;simp
    ·cases h
   ·cases h;lia
theorem aK0{ns kn:List Str}:(ns.map fun y=>decide (y∈kn)).all id=true↔∀y∈ns,y∈kn:=by simp
mutual
theorem bL1:∀(r:Rw) (k:Nat),aK4 r->∀s∈bY k r,aK4 s.2.1
 |.thr p w x vs am,k,h,s,hs=>by simp only[bY,List.mem_singleton] at hs;rw[hs];exact h
 |.lt p x t,k,h,s,hs=>by simp only[bY,List.mem_singleton] at hs;rw[hs];exact h
 |.tell p t,k,h,s,hs=>by simp only[bY,List.mem_singleton] at hs;rw[hs];exact h
 |.when p pa pb t a b,k,h,s,hs=>by
  simp only[bY,List.mem_cons,List.mem_append,List.mem_singleton,List.not_mem_nil,or_false] at hs;rcases hs with e|((e|e)|e)|e
  ·rw[e];exact h
  ·exact kM a _ h.1 s e
  ·rw[e];exact h
  ·exact kM b _ h.2 s e
  ·rw[e];exact h
 |.times p pb n b,k,h,s,hs=>by
  simp only[bY,List.mem_cons,List.mem_append,List.mem_singleton,List.not_mem_nil,or_false] at hs;rcases hs with e|e|e
  ·rw[e];exact h
  ·exact kM b _ h.2.2 s e
  ·rw[e];exact h
theorem kM:∀(rs:List Rw) (k:Nat),aE3 rs->∀s∈bU k rs,aK4 s.2.1
 |[],k,h,s,hs=>by simp only[bU] at hs;cases hs
 |r::rs,k,h,s,hs=>by
  simp only[bU,List.mem_append] at hs;rcases hs with e|e
  ·exact bL1 r k h.1 s e
  ·exact kM rs _ h.2 s e
end
theorem bI0{w:Str}(h:w∈cN):¬(V.str w=V.str "tell"):=fun z=>aO4 h (by injection z)
theorem wWE:¬(V.str "when"=V.str "tell"):=by decide
theorem wTE:¬(V.str "times"=V.str "tell"):=by decide
theorem wLE:¬(V.str "let"=V.str "tell"):=by decide
theorem cN5{r:Rw}(h:WdR r):decide (V.str r.w=V.str "tell")=qO r:=by
 cases r with
 |thr p w x vs am=>exact db (bI0 (show w∈cN by simpa only[WdR] using h))
 |lt p x t=>exact db wLE
 |tell p t=>exact ai rfl
 |when p pa pb t a b=>exact db wWE
 |times p pb n b=>exact db wTE
theorem cG1(s:Stp)(st st':TSt)(h:gD s st=some st'):st'.1.length<=st.1.length+1:=by
 unfold gD at h
 split at h
 ·cases h;simp
 ·split at h
  ·unfold bO5 at h
   split at h
   ·cases h;simp
   ·cases h
  ·split at h
   ·unfold xT at h
    split at h
    ·split at h
     ·cases h;simp
     ·cases h
     ·cases h
    ·split at h
     ·cases h
      split<;>simp
     ·cases h
     ·cases h
     ·cases h
    all_goals cases h
   ·cases h;lia
theorem zW:∀{rs:List Rw}{r:Rw},r∈rs->r.dp<=pP rs
 |[],_,h=>absurd h bc
 |q::rs,r,h=>by
  simp only[pP];rcases bw.mp h with e|e
  ·rw[e];lia
  ·have:=zW e;lia
end Mine
namespace L2
open PySem PySem.Spec PyProof.Rows
section
variable {prog:Program}{w:World}
variable {A:Around}{E:Value->Shared->Prop}{s:Shared}
end
section
variable {P:Program}{w:World}{H:Hp}{h:Heap}{a:Addr}
end
section
variable {P:Program}{w:World}{H:Hp}{h:Heap}{a:Addr}
end
section
variable {X:Cx}{pins:List (Addr×Obj)}{σ:St}{H:Hp}{s:Shared}{a:Addr}{y v:V}{u r:Value}{o:Option V}{A:Around}{E:Value->Shared->Prop}
end
section
variable {X:Cx}{o i e value:Expr}{pos pos' tpos:Pos}{td ty tv:TE}{k:Nat}
end
section
variable {X:Cx}
end
section
variable {prog:Program}{w:World}{A:Around}{E:Value->Shared->Prop}{s:Shared}{d it v:Addr}{o:Obj}{es:Array DictEntry}{ep i:Nat}
end
open PySem PySem.Spec PyProof.Rows PySem.MeetsSeq
section
variable {X:Cx}{pins:List (Addr×Obj)}{σ:St}{H:Hp}{s:Shared}
end
open PySem PySem.Spec PyProof.Rows
section
variable {prog:Program}{w:World}{A:Around}{d it v:Addr}{o:Obj}{es:Array DictEntry}{ep:Nat}
end
section
variable {X:Cx}{pins:List (Addr×Obj)}{σ:St}{H:Hp}{s:Shared}{d:Addr}{vs:List V}
end
section
variable {X:Cx}
end
section
variable {X:Cx}{pins:List (Addr×Obj)}{σ:St}{H:Hp}{s:Shared}{A:Around}{E:Value->Shared->Prop}
end
section
variable {X:Cx}{o i e value:Expr}{pos pos' tpos:Pos}{td ty tv:TE}{k:Nat}
end
section
variable {prog:Program}{w:World}{K:Type} [DecidableEq K] {knd:HeapKind prog w K}{A:Around}{E:Value->Shared->Prop}{s:Shared}{d a:Addr}{xs:List (K×Addr×Value)}{k:K}
end
section
variable {X:Cx}{pins:List (Addr×Obj)}{σ:St}{H:Hp}{s:Shared}{A:Around}{E:Value->Shared->Prop}
end
section
variable {X:Cx}{o e f:Expr}{apos cpos:Pos}{td ty tx:TE}
end
section
variable {prog:Program}{w:World}{A:Around}{E:Value->Shared->Prop}{s:Shared}{d:Addr}{o:Obj}{es:Array DictEntry}{ep:Nat}{hh:Int}{Q:Option Nat->Shared->Prop}
end
section
variable {prog:Program}{w:World}{K:Type} [DecidableEq K] {knd:HeapKind prog w K}{A:Around}{E:Value->Shared->Prop}{s:Shared}{d a:Addr}{xs:List (K×Addr×Value)}{k:K}
end
section
variable {X:Cx}{o e f:Expr}{apos cpos:Pos}{td ty tx:TE}{k:Nat}
end
section
variable {X:Cx}{pins:List (Addr×Obj)}{σ:St}{H:Hp}{s:Shared}{A:Around}{E:Value->Shared->Prop}
end
section
variable {prog:Program}{w:World}{A:Around}{d it:Addr}{o:Obj}{es:Array DictEntry}{ep:Nat}
end
section
variable {X:Cx}
end
open PySem PySem.Spec PyProof.Rows PySem.MeetsSeq
def tK(x y:V):Prop:=(∃i,x= .int i/\y= .int i)\/(∃z,x= .str z/\y= .str z)\/∃a,x= .ref a/\y= .ref a
def Deq(H:Hp):Nat->V->V->Prop
 |0,x,y=>tK x y
 |n+1,x,y=>tK x y\/∃a b xs ys,x= .ref a/\y= .ref b/\H a=some (.tup xs)/\H b=some (.tup ys)/\Paired (Deq H n) xs ys
theorem nI(n:Nat):(List.range n).all (fun _=>true)=true:=pz.mpr fun _ _=>rfl
theorem gW{α β:Type}{F:α->β->Prop}:∀{xs:List α}{ys:List β}{i:Nat}{a:α}{b:β},Paired F xs ys->xs[i]?=some a->ys[i]?=some b->F a b
 |_,_,i,_,_,.nil,h,_=>by simp at h
 |_,_,0,_,_,.cons r _,h1,h2=>by simp at h1 h2;subst h1 h2;exact r
 |_,_,i+1,_,_,.cons _ t,h1,h2=>gW (i:=i) t (by simpa using h1) (by simpa using h2)
section
variable {X:Cx}{pins:List (Addr×Obj)}{σ:St}{H:Hp}{s:Shared}
theorem oR{A:Around}{k j:Key}{u v:Value}(hx:jX k u=true)(hy:jX j v=true):SeqAt.EqAt A s u v (decide (k=j)):=fun prog w E Q q=>(bK prog w).eqBool (a:=k) (b:=j) hx hy q
theorem pV{A:Around}{x y:V}{u v:Value}(h:tK x y)(rx:bF x u)(ry:bF y v):SeqAt.EqAt A s u v true:=by
 rcases h with⟨i,rfl,rfl⟩|⟨z,rfl,rfl⟩|⟨a,rfl,rfl⟩
 ·obtain⟨t1,rfl⟩:=rx;obtain⟨t2,rfl⟩:=ry;have:=oR (s:=s) (A:=A) (lJ i t1) (lJ i t2)
  rwa [ai rfl] at this
 ·obtain⟨t1,rfl⟩:=rx;obtain⟨t2,rfl⟩:=ry;have:=oR (s:=s) (A:=A) (lG z t1) (lG z t2)
  rwa [ai rfl] at this
 ·cases rx
  cases ry
  exact qp _
theorem aC0(I:aX X pins σ H s):∀(n:Nat) (A:Around) {x y:V}{u v:Value},Deq H n x y->bF x u->bF y v->A.units+n+1<cLine->SeqAt.EqAt A s u v true
 |0,A,_,_,_,_,h,rx,ry,_=>pV h rx ry
 |n+1,A,x,y,u,v,h,rx,ry,hu=>by
  rcases h with h|⟨a,b,xs,ys,rfl,rfl,ha,hb,p⟩
  ·exact pV h rx ry
  cases rx
  cases ry
  by_cases e:a=b
  ·subst e;exact qp _
  obtain⟨its,r1,p1,_⟩:=I.tuple (aQ.of ha);obtain⟨its2,r2,p2,_⟩:=I.tuple (aQ.of hb);have l1:=r1.length;have l2:=r2.length;have l3:=ii p;have g:=sr (A:=A) (s:=s) (e:=fun _=>true) p1 p2 (by lia) fun j h1 h2=>?_
  ·have ee:((List.range (min its.toArray.size its2.toArray.size)).all (fun _=>true)&&its.toArray.size==its2.toArray.size)=true:=by
    rw[nI,pj,bq,bq, <-l1, <-l2,l3];simp
   rw[ee] at g;exact xu e g
  ·have hj:j<xs.length:=by rw[l1];simpa using h1
   have hj2:j<ys.length:=by rw[<-l3];exact hj
   obtain⟨w1,g1,q1⟩:=r1.get (aj hj);obtain⟨w2,g2,q2⟩:=r2.get (aj hj2);have e1:its.toArray[j]=w1:=by have:=(aq.mp g1).2;simpa using this
   have e2:its2.toArray[j]=w2:=by have:=(aq.mp g2).2;simpa using this
   rw[e1,e2];exact aC0 I n A.in1 (gW p (aj hj) (aj hj2)) q1 q2 (by show A.units+1+n+1<cLine;lia)
inductive cB2(K:W.Frag)(b:Bool)(x:V)(y:V)(H:Hp)(Q:VK):Prop
 |mk:∀p q xs ys n,(x= .ref p)->(y= .ref q)->(aQ K H p xs)->(aQ K H q ys)->(Paired (Deq H n) xs ys)->(n<=40)->(Q (.bl b) H)->cB2 K b x y H Q
theorem aO7{k:Nat}(hr:dI k X.A):iQ X (compareOp .Eq) (cB2 X.K true):=by
 intro pins s σ H x y v u Q I rx ry h;obtain⟨a,b,xs,ys,n,rfl,rfl,ha,hb,p,hn,q⟩:=h
 cases rx
 cases ry
 obtain⟨its,r1,p1,_⟩:=I.tuple ha;obtain⟨its2,r2,p2,_⟩:=I.tuple hb;have l1:=r1.length;have l2:=r2.length;have l3:=ii p;have hu:=hr.units;have g:=sr (A:=X.A) (s:=s) (e:=fun _=>true) p1 p2 (by lia) fun j h1 h2=>?_
 ·refine g _ _ _ _ ⟨.bl _,H,I,rfl,?_⟩;rw[show((List.range (min its.toArray.size its2.toArray.size)).all (fun _=>true)&&its.toArray.size==its2.toArray.size)=true by
   rw[nI,pj,bq,bq, <-l1, <-l2,l3];simp]
  exact q
 ·have hj:j<xs.length:=by rw[l1];simpa using h1
  have hj2:j<ys.length:=by rw[<-l3];exact hj
  obtain⟨w1,g1,q1⟩:=r1.get (aj hj);obtain⟨w2,g2,q2⟩:=r2.get (aj hj2);have e1:its.toArray[j]=w1:=by have:=(aq.mp g1).2;simpa using this
  have e2:its2.toArray[j]=w2:=by have:=(aq.mp g2).2;simpa using this
  rw[e1,e2];exact aC0 I n X.A.in1 (gW p (aj hj) (aj hj2)) q1 q2 (by show X.A.units+1+n+1<cLine;lia)
theorem oS{k:Nat}(hr:dI k X.A):iQ X (compareOp .NotEq) (cB2 X.K false):=by
 intro pins s σ H x y v u Q I rx ry h;obtain⟨a,b,xs,ys,n,rfl,rfl,ha,hb,p,hn,q⟩:=h
 cases rx
 cases ry
 obtain⟨its,r1,p1,_⟩:=I.tuple ha;obtain⟨its2,r2,p2,_⟩:=I.tuple hb;have l1:=r1.length;have l2:=r2.length;have l3:=ii p;have hu:=hr.units;have g:=SeqAt.RcNeAt.tuples (A:=X.A) (s:=s) (e:=fun _=>true) p1 p2 (by lia) fun j h1 h2=>?_
 ·refine g _ _ _ _ ⟨.bl _,H,I,rfl,?_⟩;rw[show(!((List.range (min its.toArray.size its2.toArray.size)).all (fun _=>true)&&its.toArray.size==its2.toArray.size))=false by
   rw[nI,pj,bq,bq, <-l1, <-l2,l3];simp]
  exact q
 ·have hj:j<xs.length:=by rw[l1];simpa using h1
  have hj2:j<ys.length:=by rw[<-l3];exact hj
  obtain⟨w1,g1,q1⟩:=r1.get (aj hj);obtain⟨w2,g2,q2⟩:=r2.get (aj hj2);have e1:its.toArray[j]=w1:=by have:=(aq.mp g1).2;simpa using this
  have e2:its2.toArray[j]=w2:=by have:=(aq.mp g2).2;simpa using this
  rw[e1,e2];exact aC0 I n X.A.in1 (gW p (aj hj) (aj hj2)) q1 q2 (by show X.A.units+1+n+1<cLine;lia)
end
end L2
namespace Mine
open PySem L2
def jG(ν:Str->Str):Tm->Tm->Prop
 |.num _ n,t=>∃p,t= .num p n
 |.nam _ x,t=>∃p,t= .nam p (ν x)
 |.op _ s a b,t=>∃p a' b',t= .op p s a' b'/\jG ν a a'/\jG ν b b'
abbrev UR:=Str->List V->List V->Prop
mutual
def tJ(U:UR)(ν:Str->Str):Rw->Rw->Prop
 |.thr _ w x us am,r=>∃p us',r= .thr p w (ν x) us' am/\U w us us'
 |.lt _ x t,r=>∃p t',r= .lt p (ν x) t'/\jG ν t t'
 |.tell _ t,r=>∃p t',r= .tell p t'/\jG ν t t'
 |.when _ _ _ t a b,r=>∃p pa pb t' a' b',r= .when p pa pb t' a' b'/\jG ν t t'/\jO U ν a a'/\jO U ν b b'
 |.times _ _ n b,r=>∃p pb b',r= .times p pb n b'/\jO U ν b b'
def jO(U:UR)(ν:Str->Str):List Rw->List Rw->Prop
 |[],qs=>qs=[]
 |r::rs,qs=>∃q qs',qs=q::qs'/\tJ U ν r q/\jO U ν rs qs'
end
mutual
def aP0:Rw->Prop
 |.thr _ _ _ _ _=>True
 |.lt _ _ t=>t.size<=7
 |.tell _ t=>t.size<=7
 |.when _ _ _ t a b=>t.size<=7/\jS a/\jS b
 |.times _ _ _ b=>jS b
def jS:List Rw->Prop
 |[]=>True
 |r::rs=>aP0 r/\jS rs
end
theorem jS.app:∀{rs qs:List Rw},jS rs->jS qs->jS (rs++qs)
 |[],_,_,h=>h
 |_::_,_,⟨h,k⟩,h2=>⟨h,jS.app k h2⟩
mutual
theorem xY.rf:∀{r:Rw}{ks k2:List Str}(k:Nat),xY ks r k2->rf k r=[]
 |.thr _ _ _ _ _,_,_,k,h=>by simp only[rf,bX9,h.2];rfl
 |.lt _ _ _,_,_,_,_=>rfl
 |.tell _ _,_,_,_,_=>rfl
 |.when _ _ _ _ a b,_,_,k,⟨_,_,_,h3,h4,_⟩=>by simp only[rf,iI.rf _ h3,iI.rf _ h4];rfl
 |.times _ _ _ b,ks,k2,k,h=>by simp only[Mine.rf];exact iI.rf (rs:=b) _ h
theorem iI.rf:∀{rs:List Rw}{ks k2:List Str}(k:Nat),iI ks rs k2->rfL k rs=[]
 |[],_,_,_,_=>rfl
 |r::rs,_,_,k,⟨_,h1,h2⟩=>by simp only[rfL,xY.rf _ h1,iI.rf _ h2];rfl
end
mutual
theorem xY.uf:∀{r:Rw}{ks k2:List Str}(k:Nat) (kn:List Str),xY ks r k2->(∀y∈ks,y∈kn)->uf k kn r=[]/\∀y∈k2,y∈lk kn r
 |.thr _ _ x _ _,ks,k2,k,kn,h,hk=>⟨rfl,fun y hy=>by
  rw[h.1] at hy;rcases bu.mp hy with z|z
  ·exact cg _ (hk y z)
  ·exact be _ z⟩
 |.lt _ x _,ks,k2,k,kn,h,hk=>⟨br fun y hy=>hk y (h.2 y hy),fun y hy=>by
  rw[h.1] at hy;rcases bu.mp hy with z|z
  ·exact cg _ (hk y z)
  ·exact be _ z⟩
 |.tell _ _,ks,k2,k,kn,h,hk=>⟨br fun y hy=>hk y (h.2 y hy),fun y hy=>by rw[h.1] at hy;exact hk y hy⟩
 |.when _ _ _ t a b,ks,k2,k,kn,⟨hn,k3,k4,h3,h4,h5⟩,hk=>by
  obtain⟨u3,l3⟩:=iI.uf (k+1) kn h3 hk;obtain⟨u4,l4⟩:=iI.uf (k+1+bS a) kn h4 hk;refine⟨?_,fun y hy=>?_⟩
  ·simp only[Mine.uf,u3,u4];rw[show unk k kn t.names=[] from br fun y hy=>hk y (hn y hy)];rfl
  ·rw[h5,fj,gi] at hy;simp only[lk];rw[fj,gi];exact⟨l4 y hy.2,l3 y hy.1⟩
 |.times _ _ _ b,ks,k2,k,kn,h,hk=>by
  have:=iI.uf (rs:=b) (k+1) kn h hk;simp only[Mine.uf,lk];exact this
theorem iI.uf:∀{rs:List Rw}{ks k2:List Str}(k:Nat) (kn:List Str),iI ks rs k2->(∀y∈ks,y∈kn)->ufL k kn rs=[]/\∀y∈k2,y∈lkL kn rs
 |[],ks,k2,k,kn,h,hk=>⟨rfl,by rw[show k2=ks from h];exact hk⟩
 |r::rs,ks,k2,k,kn,⟨k1,h1,h2⟩,hk=>by
  obtain⟨u1,l1⟩:=xY.uf k kn h1 hk;obtain⟨u2,l2⟩:=iI.uf (k+r.cnt) (lk kn r) h2 l1;exact⟨by simp only[ufL,u1,u2];rfl,l2⟩
end
mutual
theorem kA.tf:∀{r:Rw}(k:Nat),kA r->tf k r=[]
 |.thr _ _ _ _ _,_,_=>rfl
 |.lt _ _ _,_,_=>rfl
 |.tell _ _,_,_=>rfl
 |.when _ _ _ _ a b,k,⟨e,h3,h4⟩=>by simp only[Mine.tf,cD.tf _ h3,cD.tf _ h4,tls,if_pos e];rfl
 |.times _ _ _ b,k,h=>by simp only[Mine.tf];exact cD.tf (rs:=b) _ h.2
theorem cD.tf:∀{rs:List Rw}(k:Nat),cD rs->tfL k rs=[]
 |[],_,_=>rfl
 |r::rs,k,⟨h1,h2⟩=>by simp only[tfL,kA.tf _ h1,cD.tf _ h2];rfl
end
mutual
theorem kA.tim:∀{r:Rw},kA r->aK4 r
 |.thr _ _ _ _ _,_=>trivial
 |.lt _ _ _,_=>trivial
 |.tell _ _,_=>trivial
 |.when _ _ _ _ a b,⟨_,h3,h4⟩=>⟨cD.tim h3,cD.tim h4⟩
 |.times _ _ _ b,⟨h,k⟩=>⟨h.1,h.2.1,cD.tim k⟩
theorem cD.tim:∀{rs:List Rw},cD rs->aE3 rs
 |[],_=>trivial
 |r::rs,⟨h1,h2⟩=>⟨kA.tim h1,cD.tim h2⟩
end
mutual
def eU:Rw->List Rw
 |.when p pa pb t a b=> .when p pa pb t a b::(cU a++cU b)
 |.times p pb n b=> .times p pb n b::cU b
 |.thr p w x vs am=>[.thr p w x vs am]
 |.lt p x t=>[.lt p x t]
 |.tell p t=>[.tell p t]
def cU:List Rw->List Rw
 |[]=>[]
 |r::rs=>eU r++cU rs
end
mutual
theorem bM7:∀(r:Rw),(eU r).length=r.cnt
 |.when _ _ _ _ a b=>by have:=fM a;have:=fM b;simp only[eU,Rw.cnt,List.length_cons,List.length_append];lia
 |.times _ _ _ b=>by have:=fM b;simp only[eU,Rw.cnt,List.length_cons];lia
 |.thr _ _ _ _ _=>by simp only[eU,Rw.cnt,List.length_cons,List.length_nil]
 |.lt _ _ _=>by simp only[eU,Rw.cnt,List.length_cons,List.length_nil]
 |.tell _ _=>by simp only[eU,Rw.cnt,List.length_cons,List.length_nil]
theorem fM:∀(rs:List Rw),(cU rs).length=bS rs
 |[]=>by simp only[cU,bS,List.length_nil]
 |r::rs=>by have:=bM7 r;have:=fM rs;simp only[cU,bS,List.length_append];lia
end
theorem jQ:∀(rs qs:List Rw),cU (rs++qs)=cU rs++cU qs
 |[],qs=>by simp[cU]
 |r::rs,qs=>by simp only[List.cons_append,cU,jQ rs qs,List.append_assoc]
def eM(s:Stp):Bool:=decide (s.1="row")
mutual
theorem aO6:∀(r:Rw) (k:Nat),((bY k r).filter eM).map (·.2.1)=eU r
 |.when p pa pb t a b,k=>by
  simp only[bY,eU];rw[dk (p:=eM) (by unfold eM;exact ai rfl),im,im,im,dm (p:=eM) (by unfold eM;simp[wB]),dm (p:=eM) (by unfold eM;simp[gX])];simp only[List.filter_nil,List.append_nil,List.map_cons,List.map_append,eZ a,eZ b]
 |.times p pb n b,k=>by
  simp only[bY,eU];rw[dk (p:=eM) (by unfold eM;exact ai rfl),im,dm (p:=eM) (by unfold eM;simp[gX])];simp only[List.filter_nil,List.append_nil,List.map_cons,eZ b]
 |.thr _ _ _ _ _,_=>by simp only[bY,eU];rw[dk (p:=eM) (by unfold eM;exact ai rfl)];rfl
 |.lt _ _ _,_=>by simp only[bY,eU];rw[dk (p:=eM) (by unfold eM;exact ai rfl)];rfl
 |.tell _ _,_=>by simp only[bY,eU];rw[dk (p:=eM) (by unfold eM;exact ai rfl)];rfl
theorem eZ:∀(rs:List Rw) (k:Nat),((bU k rs).filter eM).map (·.2.1)=cU rs
 |[],_=>rfl
 |r::rs,k=>by simp only[bU,cU,List.filter_append,List.map_append,aO6 r,eZ rs]
end
mutual
theorem bI2{H:Hp}:∀{r:Rw},dF H r->∀q∈eU r,dF H q
 |.when _ _ _ _ a b,h,q,hq=>by
  rcases bw.mp hq with e|e
  ·rw[e];exact h
  rcases bu.mp e with e|e
  ·exact mL h.2.2.2.2.2.1 q e
  ·exact mL h.2.2.2.2.2.2 q e
 |.times _ _ _ b,h,q,hq=>by
  rcases bw.mp hq with e|e
  ·rw[e];exact h
  ·exact mL h.2.2 q e
 |.thr _ _ _ _ _,h,q,hq=>by rw[au.mp hq];exact h
 |.lt _ _ _,h,q,hq=>by rw[au.mp hq];exact h
 |.tell _ _,h,q,hq=>by rw[au.mp hq];exact h
theorem mL{H:Hp}:∀{rs:List Rw},aP H rs->∀q∈cU rs,dF H q
 |[],_,q,hq=>absurd hq bc
 |r::rs,h,q,hq=>by
  rcases bu.mp hq with e|e
  ·exact bI2 h.1 q e
  ·exact mL h.2 q e
end
def pS(rs:List Rw):List Str:=(cU rs).filterMap Rw.sets
def rnm(r:Rw):List Str:=r.sets.toList++r.asked
def pH(rs:List Rw):List Str:=(cU rs).flatMap rnm
theorem wC(rs qs:List Rw):pS (rs++qs)=pS rs++pS qs:=by unfold pS;rw[jQ,gv]
theorem bL5(rs qs:List Rw):pH (rs++qs)=pH rs++pH qs:=by unfold pH;rw[jQ,ig]
theorem bA4(r:Rw)(rs:List Rw):pS (r::rs)=pS [r]++pS rs:=by rw[<-wC];rfl
theorem aV2(r:Rw)(rs:List Rw):pH (r::rs)=pH [r]++pH rs:=by rw[<-bL5];rfl
theorem yH{p pa pb:Addr}{t:Tm}{a b:List Rw}:pS [.when p pa pb t a b]=pS a++pS b:=by
 simp only[pS,cU,eU,List.append_nil,List.filterMap_cons,Rw.sets,List.filterMap_append]
theorem uL{p pb:Addr}{n:Int}{b:List Rw}:pS [.times p pb n b]=pS b:=by
 simp only[pS,cU,eU,List.append_nil,List.filterMap_cons,Rw.sets]
theorem aQ9{p pa pb:Addr}{t:Tm}{a b:List Rw}:pH [.when p pa pb t a b]=t.names++(pH a++pH b):=by
 simp only[pH,cU,eU,List.append_nil,List.flatMap_cons,List.flatMap_append,rnm,Rw.sets,Rw.asked,Option.toList,List.nil_append]
theorem aN6{p pb:Addr}{n:Int}{b:List Rw}:pH [.times p pb n b]=pH b:=by
 simp only[pH,cU,eU,List.append_nil,List.flatMap_cons,rnm,Rw.sets,Rw.asked,Option.toList,List.nil_append]
def Clo(ks:List Str)(rs:List Rw)(k2:List Str):Prop:=(∀y∈pH rs,y∈ks\/y∈pS rs)/\∀y∈k2,y∈ks\/y∈pS rs
mutual
theorem xY.clo:∀{r:Rw}{ks k2:List Str},xY ks r k2->Clo ks [r] k2
 |.thr _ _ x _ _,ks,k2,h=>by
  refine⟨fun y hy=> .inr hy,fun y hy=>?_⟩;rw[h.1] at hy;exact bu.mp hy
 |.lt p x t,ks,k2,h=>by
  refine⟨fun y hy=>?_,fun y hy=>?_⟩
  ·have e:pH [Rw.lt p x t]=[x]++t.names:=by simp[pH,cU,eU,rnm,Rw.sets,Rw.asked]
   rw[e] at hy;rcases bu.mp hy with z|z
   ·exact .inr z
   ·exact .inl (h.2 y z)
  ·rw[h.1] at hy;exact bu.mp hy
 |.tell p t,ks,k2,h=>by
  refine⟨fun y hy=>?_,fun y hy=>by rw[h.1] at hy;exact .inl hy⟩;have e:pH [Rw.tell p t]=t.names:=by simp[pH,cU,eU,rnm,Rw.sets,Rw.asked]
  rw[e] at hy;exact .inl (h.2 y hy)
 |.when p pa pb t a b,ks,k2,⟨hn,k3,k4,h3,h4,h5⟩=>by
  have c3:=iI.clo h3;have c4:=iI.clo h4;unfold Clo;rw[aQ9,yH];refine⟨fun y hy=>?_,fun y hy=>?_⟩
  ·rcases bu.mp hy with z|z
   ·exact .inl (hn y z)
   rcases bu.mp z with z|z
   ·exact(c3.1 y z).imp_right fun q=>cg _ q
   ·exact(c4.1 y z).imp_right fun q=>be _ q
  ·rw[h5,fj] at hy;exact(c3.2 y hy.1).imp_right fun q=>cg _ q
 |.times p pb n b,ks,k2,h=>by
  have c:=iI.clo (rs:=b) h;unfold Clo;rw[aN6,uL];exact c
theorem iI.clo:∀{rs:List Rw}{ks k2:List Str},iI ks rs k2->Clo ks rs k2
 |[],ks,k2,h=>⟨fun y hy=>absurd hy bc,fun y hy=>by rw[show k2=ks from h] at hy;exact .inl hy⟩
 |r::rs,ks,k2,⟨k1,h1,h2⟩=>by
  have c1:=xY.clo h1;have c2:=iI.clo h2;unfold Clo;rw[aV2,bA4];have up:∀y,y∈k1\/y∈pS rs->y∈ks\/y∈pS [r]++pS rs:=fun y hy=>by
   rcases hy with z|z
   ·exact(c1.2 y z).imp_right fun q=>cg _ q
   ·exact .inr (be _ z)
  refine⟨fun y hy=>?_,fun y hy=>up y (c2.2 y hy)⟩;rcases bu.mp hy with z|z
  ·exact(c1.1 y z).imp_right fun q=>cg _ q
  ·exact up y (c2.1 y z)
end
abbrev UEq:UR:=fun _ a b=>a=b
theorem jG.idn:∀t:Tm,jG id t t
 |.num p n=>⟨p,rfl⟩
 |.nam p x=>⟨p,rfl⟩
 |.op p s a b=>⟨p,a,b,rfl,jG.idn a,jG.idn b⟩
section
variable {U U' D:UR}{ν:Str->Str}
end
def Few(m:Nat)(T:List Str):Prop:=∃D:List Str,D.length<=m/\∀x∈T,x∈D
theorem Few.sub{m:Nat}{T S:List Str}(h:Few m T)(k:∀x∈S,x∈T):Few m S:=by obtain⟨D,l,q⟩:=h;exact⟨D,l,fun x hx=>q x (k x hx)⟩
theorem Few.len{m:Nat}{T:List Str}(h:T.length<=m):Few m T:=⟨T,h,fun _ z=>z⟩
section
variable {ν:Str->Str}{K1 K2 N1 N2:List Str}
end
def okV(v:V):Prop:=tK v v
theorem iB{H:Hp}{x y:V}(h:tK x y):∀n,Deq H n x y
 |0=>h
 |_+1=> .inl h
theorem pO(x:Str):tK (.str x) (.str x):= .inr (.inl ⟨x,rfl,rfl⟩)
theorem tI(x:Int):tK (.int x) (.int x):= .inl ⟨x,rfl,rfl⟩
theorem bH8(x:Addr):tK (.ref x) (.ref x):= .inr (.inr ⟨x,rfl,rfl⟩)
theorem kO{H:Hp}{ν:Str->Str}:∀{t t1 t2:Tm}(n:Nat),jG ν t t1->jG ν t t2->oV H t1->oV H t2->t.size<=n->Deq H n (.ref t1.p) (.ref t2.p)
 |.num _ m,_,_,n,⟨p,e⟩,⟨q,f⟩,h1,h2,hn=>by
  subst e f
  cases n with
  |zero=>exact absurd hn (by simp[Tm.size])
  |succ n=>exact .inr ⟨p,q,_,_,rfl,rfl,h1,h2,.cons (iB (pO _) n) (.cons (iB (tI _) n) .nil)⟩
 |.nam _ x,_,_,n,⟨p,e⟩,⟨q,f⟩,h1,h2,hn=>by
  subst e f
  cases n with
  |zero=>exact absurd hn (by simp[Tm.size])
  |succ n=>exact .inr ⟨p,q,_,_,rfl,rfl,h1,h2,.cons (iB (pO _) n) (.cons (iB (pO _) n) .nil)⟩
 |.op _ s a b,_,_,n,⟨p,a1,b1,e,ea,eb⟩,⟨q,a2,b2,f,fa,fb⟩,h1,h2,hn=>by
  subst e f;simp only[Tm.size] at hn
  cases n with
  |zero=>exact absurd hn (by lia)
  |succ n=>exact .inr ⟨p,q,_,_,rfl,rfl,h1.1,h2.1,.cons (iB (pO _) n) (.cons (iB (pO _) n) (.cons (kO n ea fa h1.2.1 h2.2.1 (by lia)) (.cons (kO n eb fb h1.2.2 h2.2.2 (by lia)) .nil)))⟩
def hgt(d:Nat):Nat:=2*d+9
mutual
theorem bE2{H:Hp}{U:UR}{ν:Str->Str}(hU:∀(n:Nat) w us a b,2<=n->U w us a->U w us b->Paired (Deq H n) a b):∀{r r1 r2:Rw}(n:Nat),tJ U ν r r1->tJ U ν r r2->dF H r1->dF H r2->aP0 r->hgt r.dp<=n->Deq H n (.ref r1.p) (.ref r2.p)
 |.thr _ w x us am,_,_,n,a,b,h1,h2,z,hn=>by
  obtain⟨p,u1,e,k1⟩:=a;obtain⟨q,u2,f,k2⟩:=b;subst e f;simp only[hgt,Rw.dp] at hn;obtain⟨n,rfl⟩:∃m,n=m+1:=⟨n-1,by lia⟩
  exact .inr ⟨p,q,_,_,rfl,rfl,h1.1,h2.1,.cons (iB (pO _) n) (.cons (iB (pO _) n) (hU n _ _ _ _ (by lia) k1 k2))⟩
 |.lt _ x t,_,_,n,a,b,h1,h2,z,hn=>by
  obtain⟨p,t1,e,a⟩:=a;obtain⟨q,t2,f,b⟩:=b;subst e f;have z:t.size<=7:=z;simp only[hgt,Rw.dp] at hn;obtain⟨n,rfl⟩:∃m,n=m+1:=⟨n-1,by lia⟩
  exact .inr ⟨p,q,_,_,rfl,rfl,h1.1,h2.1,.cons (iB (pO _) n) (.cons (iB (pO _) n) (.cons (kO n a b h1.2.1 h2.2.1 (by lia)) .nil))⟩
 |.tell _ t,_,_,n,a,b,h1,h2,z,hn=>by
  obtain⟨p,t1,e,a⟩:=a;obtain⟨q,t2,f,b⟩:=b;subst e f;have z:t.size<=7:=z;simp only[hgt,Rw.dp] at hn;obtain⟨n,rfl⟩:∃m,n=m+1:=⟨n-1,by lia⟩
  exact .inr ⟨p,q,_,_,rfl,rfl,h1.1,h2.1,.cons (iB (pO _) n) (.cons (kO n a b h1.2.1 h2.2.1 (by lia)) .nil)⟩
 |.when _ _ _ t a b,_,_,n,u,v,h1,h2,z,hn=>by
  obtain⟨p,pa,pb,t1,a1,b1,e,et,ea,eb⟩:=u;obtain⟨q,qa,qb,t2,a2,b2,f,ft,fa,fb⟩:=v;subst e f;have z1:t.size<=7:=z.1;simp only[hgt,Rw.dp] at hn;obtain⟨n,rfl⟩:∃m,n=m+2:=⟨n-2,by lia⟩
  obtain⟨g1,g2,_,g4,g5,g6,g7⟩:=h1;obtain⟨k1,k2,_,k4,k5,k6,k7⟩:=h2;refine .inr ⟨p,q,_,_,rfl,rfl,g1,k1,.cons (iB (pO _) _) (.cons (kO _ et ft g2 k2 (by lia)) (.cons (.inr ⟨pa,qa,_,_,rfl,rfl,g4,k4,?_⟩) (.cons (.inr ⟨pb,qb,_,_,rfl,rfl,g5,k5,?_⟩) .nil)))⟩
  ·exact lC hU n ea fa g6 k6 z.2.1 (by simp only[hgt];lia)
  ·exact lC hU n eb fb g7 k7 z.2.2 (by simp only[hgt];lia)
 |.times _ _ m b,_,_,n,u,v,h1,h2,z,hn=>by
  obtain⟨p,pb,b1,e,eb⟩:=u;obtain⟨q,qb,b2,f,fb⟩:=v;subst e f;simp only[hgt,Rw.dp] at hn;obtain⟨n,rfl⟩:∃m,n=m+2:=⟨n-2,by lia⟩
  obtain⟨g1,g2,g3⟩:=h1;obtain⟨k1,k2,k3⟩:=h2;refine .inr ⟨p,q,_,_,rfl,rfl,g1,k1,.cons (iB (pO _) _) (.cons (iB (tI _) _) (.cons (.inr ⟨pb,qb,_,_,rfl,rfl,g2,k2,?_⟩) .nil))⟩;exact lC hU (rs:=b) n eb fb g3 k3 z (by simp only[hgt];lia)
theorem lC{H:Hp}{U:UR}{ν:Str->Str}(hU:∀(n:Nat) w us a b,2<=n->U w us a->U w us b->Paired (Deq H n) a b):∀{rs r1 r2:List Rw}(n:Nat),jO U ν rs r1->jO U ν rs r2->aP H r1->aP H r2->jS rs->hgt (pP rs)<=n->PySem.Paired (Deq H n) (r1.map fun r=>V.ref r.p) (r2.map fun r=>V.ref r.p)
 |[],_,_,n,e,f,_,_,_,_=>by rw[show _=[] from e,show _=[] from f];exact .nil
 |r::rs,_,_,n,⟨q1,s1,e,a1,b1⟩,⟨q2,s2,f,a2,b2⟩,h1,h2,z,hn=>by
  subst e f;simp only[hgt,pP] at hn;exact .cons (bE2 hU n a1 a2 h1.1 h2.1 z.1 (by simp only[hgt];lia)) (lC hU n b1 b2 h1.2 h2.2 z.2 (by simp only[hgt];lia))
end
theorem qS{H:Hp}{n:Nat}:∀{us:List V},(∀u∈us,okV u)->Paired (Deq H n) us us
 |[],_=> .nil
 |u::us,h=> .cons (iB (h u ao) n) (qS fun v hv=>h v (ak _ hv))
theorem cK5{H:Hp}{d:TD}(h:aN0 H d):∀u∈d.vs,okV u:=by
 obtain⟨vs,T,wss,kd⟩:=d
 cases T with
 |lad p q lo hi=>obtain⟨w,ws,st,e,_⟩:=h;intro u hu;rw[e] at hu;simp only[List.mem_cons,List.not_mem_nil,or_false] at hu;rcases hu with rfl|rfl|rfl|rfl<;>first|exact bH8 _|exact tI _
 |fla r lo hi=>obtain⟨w,ws,e,_⟩:=h;intro u hu;rw[e] at hu;simp only[List.mem_cons,List.not_mem_nil,or_false] at hu;rcases hu with rfl|rfl|rfl|rfl<;>first|exact bH8 _|exact tI _
 |cho p q lo hi=>obtain⟨sm,us,st,e,_⟩:=h;intro u hu;rw[e] at hu;simp only[List.mem_cons,List.not_mem_nil,or_false] at hu;rcases hu with rfl|rfl|rfl|rfl<;>first|exact bH8 _|exact tI _
 |fst pa qa pb qb m lo hi=>obtain⟨sm,us,sa,sb,e,_⟩:=h;intro u hu;rw[e] at hu;simp only[List.mem_cons,List.not_mem_nil,or_false] at hu;rcases hu with rfl|rfl|rfl|rfl|rfl|rfl<;>first|exact bH8 _|exact tI _
end Mine
namespace L2
open PySem PySem.Spec PyProof.Rows
theorem cW{α:Type}{n:Nat}{us:List α}(h:us.length=n+1):∃u r,us=u::r/\r.length=n:=by
 cases us with
 |nil=>cases h
 |cons u r=>exact⟨u,r,rfl,Nat.succ.inj h⟩
section
variable {K:W.Frag}{x qual:Str}{st:Stmt}{f:Addr}{fd:FuncData}{p1 p2 p3 p4 p5:Str}
theorem sV.b1(F:sV K x qual st f fd)(h:∀(kV doc pm:Value) (an:Option Addr) (cdv ct u1:Value),bindArgs (W.fnOf x qual (cC st) (bQ st) (aU st) .none kV doc pm an cdv ct) ⟨[u1],[]⟩=pure [(p1,u1)]):jA K fd [p1] []:=by
 refine F.binds fun kV doc pm an cdv ct us h0=>?_
 obtain⟨u1,r1,rfl,h1⟩:=cW (n:=0) h0
 cases je.mp h1
 exact h kV doc pm an cdv ct u1
theorem sV.b2(F:sV K x qual st f fd)(h:∀(kV doc pm:Value) (an:Option Addr) (cdv ct u1 u2:Value),bindArgs (W.fnOf x qual (cC st) (bQ st) (aU st) .none kV doc pm an cdv ct) ⟨[u1,u2],[]⟩=pure [(p1,u1),(p2,u2)]):jA K fd [p1,p2] []:=by
 refine F.binds fun kV doc pm an cdv ct us h0=>?_
 obtain⟨u1,r1,rfl,h1⟩:=cW (n:=1) h0;obtain⟨u2,r2,rfl,h2⟩:=cW (n:=0) h1
 cases je.mp h2
 exact h kV doc pm an cdv ct u1 u2
theorem sV.b3(F:sV K x qual st f fd)(h:∀(kV doc pm:Value) (an:Option Addr) (cdv ct u1 u2 u3:Value),bindArgs (W.fnOf x qual (cC st) (bQ st) (aU st) .none kV doc pm an cdv ct) ⟨[u1,u2,u3],[]⟩=pure [(p1,u1),(p2,u2),(p3,u3)]):jA K fd [p1,p2,p3] []:=by
 refine F.binds fun kV doc pm an cdv ct us h0=>?_
 obtain⟨u1,r1,rfl,h1⟩:=cW (n:=2) h0;obtain⟨u2,r2,rfl,h2⟩:=cW (n:=1) h1;obtain⟨u3,r3,rfl,h3⟩:=cW (n:=0) h2
 cases je.mp h3
 exact h kV doc pm an cdv ct u1 u2 u3
theorem sV.b4(F:sV K x qual st f fd)(h:∀(kV doc pm:Value) (an:Option Addr) (cdv ct u1 u2 u3 u4:Value),bindArgs (W.fnOf x qual (cC st) (bQ st) (aU st) .none kV doc pm an cdv ct) ⟨[u1,u2,u3,u4],[]⟩=pure [(p1,u1),(p2,u2),(p3,u3),(p4,u4)]):jA K fd [p1,p2,p3,p4] []:=by
 refine F.binds fun kV doc pm an cdv ct us h0=>?_
 obtain⟨u1,r1,rfl,h1⟩:=cW (n:=3) h0;obtain⟨u2,r2,rfl,h2⟩:=cW (n:=2) h1;obtain⟨u3,r3,rfl,h3⟩:=cW (n:=1) h2;obtain⟨u4,r4,rfl,h4⟩:=cW (n:=0) h3
 cases je.mp h4
 exact h kV doc pm an cdv ct u1 u2 u3 u4
theorem sV.b5(F:sV K x qual st f fd)(h:∀(kV doc pm:Value) (an:Option Addr) (cdv ct u1 u2 u3 u4 u5:Value),bindArgs (W.fnOf x qual (cC st) (bQ st) (aU st) .none kV doc pm an cdv ct) ⟨[u1,u2,u3,u4,u5],[]⟩=pure [(p1,u1),(p2,u2),(p3,u3),(p4,u4),(p5,u5)]):jA K fd [p1,p2,p3,p4,p5] []:=by
 refine F.binds fun kV doc pm an cdv ct us h0=>?_
 obtain⟨u1,r1,rfl,h1⟩:=cW (n:=4) h0;obtain⟨u2,r2,rfl,h2⟩:=cW (n:=3) h1;obtain⟨u3,r3,rfl,h3⟩:=cW (n:=2) h2;obtain⟨u4,r4,rfl,h4⟩:=cW (n:=1) h3;obtain⟨u5,r5,rfl,h5⟩:=cW (n:=0) h4
 cases je.mp h5
 exact h kV doc pm an cdv ct u1 u2 u3 u4 u5
end
section
variable {K:W.Frag}{x qual:Str}{st:Stmt}{f:Addr}{fd:FuncData}{p1 p2 p3 p4 p5 p6:Str}
end
section
variable {P:Program}{w:World}{K:W.Frag}{mg:Str->Option Value}{base:Heap}
def Cl(P:Program)(w:World)(K:W.Frag)(mg:Str->Option Value)(base:Heap)(n:Nat)(sp:Sp)(x:Str):Prop:=∃f d ps,nX P w K mg base wU n f d ps sp/\jA K d ps []/\W.keepIn K (.ref f)=true/\mg x=some (.ref f)
def eF(P:Program)(w:World)(K:W.Frag)(mg:Str->Option Value)(base:Heap)(x q:Str)(st:Stmt)(n:Nat)(ps:List Str)(sp:Sp):Prop:=∀{f:Addr}{d:FuncData},sV K x q st f d->nX P w K mg base wU n f d ps sp
theorem fF{x q:Str}{st:Stmt}{k:Nat}{ps:List Str}{sp:Sp}(N:List Str)
  (hb:∀{f:Addr}{cdv:Value}{A:Around}{outer:List Env}{s:Shared}{vs:List V}{E:XK}(H:Hp) (Q:VK),N.Nodup->dI k (A.deeper (envOfC q (aU st) s.heap.objs.size f cdv))->sp vs H Q E ->
   ∃t,uR (rY wU P w K mg base N q (aU st) f cdv A outer s H E).nox (bQ st) t/\t { nx:=fun _ H'=>Q .non H',rt:=Q } (iX N vs) H)
  (len:∀vs H Q E,sp vs H Q E->vs.length=ps.length:=by intro _ _ _ _ h;first|(cases h;subst_vars;rfl)|((repeat obtain⟨_,h⟩:=h);subst_vars;rfl))
  (S:autoParam (iM N ps (aU st)) Rq7._auto_1):eF P w K mg base x q st (k+1) ps sp:=
 fun F=>F.ok S len fun _ _ _ _ H _ Q _ hr h=>hb H Q S.nd hr h
def xE(K:W.Frag)(x q:Str)(st:Stmt)(f:Addr):Prop:=∃(oc:Value) (od:Option Addr) (kV dc pm:Value) (an:Option Addr) (cd ct:Value) (sl:Array (Option Value)),K.lookup f=some ⟨oc,od,.func (W.fnOf x q (cC st) (bQ st) (aU st) .none kV dc pm an cd ct),sl⟩/\W.codeIn K cd q=true/\W.keepIn K (.ref f)=true
def TopAt(K:W.Frag)(x:Str)(st:Stmt):Prop:=∃f,W.nsIn K mainGlobals x=some (some (.ref f))/\xE K x x st f
theorem xE.of{x q:Str}{st:Stmt}{f:Addr}{oc:Value}{od:Option Addr}{kV dc pm:Value}{an:Option Addr}{cd ct:Value}{sl:Array (Option Value)}(l:K.lookup f=some ⟨oc,od,.func (W.fnOf x q (cC st) (bQ st) (aU st) .none kV dc pm an cd ct),sl⟩)(c:W.codeIn K cd q=true)(k:W.keepIn K (.ref f)=true):xE K x q st f:=⟨_,_,_,_,_,_,_,_,_,l,c,k⟩
theorem TopAt.of{x:Str}{st:Stmt}{f:Addr}{oc:Value}{od:Option Addr}{kV dc pm:Value}{an:Option Addr}{cd ct:Value}{sl:Array (Option Value)}(a:W.nsIn K mainGlobals x=some (some (.ref f)))(l:K.lookup f=some ⟨oc,od,.func (W.fnOf x x (cC st) (bQ st) (aU st) .none kV dc pm an cd ct),sl⟩)(c:W.codeIn K cd x=true)(k:W.keepIn K (.ref f)=true):TopAt K x st:=⟨_,a,.of l c k⟩
theorem xE.fn{x q:Str}{st:Stmt}{f:Addr}:xE K x q st f->∃d,sV K x q st f d
 |⟨_,_,_,_,_,_,_,_,_,l,c,k⟩=>⟨_,aD3 l c k⟩
structure Zx(P:Program)(w:World)(K:W.Frag)(mg:Str->Option Value)(base:Heap):Prop where
 ns:∀x u,W.nsIn K mainGlobals x=some (some u)->mg x=some u
 no:∀x,W.nsIn K mainGlobals x=some none->mg x=none
theorem Zx.of{h:Heap}(X:K.In h)(G:h.Ns mainGlobals mg):Zx P w K mg base:=⟨fun _ _ e=>W.mg_of X G e,fun _ e=>W.mg_none_of X G e⟩
variable {x p1 p2 p3 p4 p5 p6:Str}{st:Stmt}{n:Nat}{sp:Sp}
theorem Zx.cl(Z:Zx P w K mg base)(t:TopAt K x st){ps:List Str}(ok:eF P w K mg base x x st n ps sp)(b:∀{f d},sV K x x st f d->jA K d ps []):Cl P w K mg base n sp x:=by
 obtain⟨_,a,t⟩:=t;obtain⟨_,F⟩:=t.fn;exact⟨_,_,_,ok F,b F,F.kp,Z.ns _ _ a⟩
theorem Zx.c1(Z:Zx P w K mg base)(t:TopAt K x st)(ok:eF P w K mg base x x st n [p1] sp)(h:autoParam (∀(kV doc pm:Value) (an:Option Addr) (cdv ct u1:Value),bindArgs (W.fnOf x x (cC st) (bQ st) (aU st) .none kV doc pm an cdv ct) ⟨[u1],[]⟩=pure [(p1,u1)]) Rq3._auto_1):Cl P w K mg base n sp x:=Z.cl t ok fun F=>F.b1 h
theorem Zx.c2(Z:Zx P w K mg base)(t:TopAt K x st)(ok:eF P w K mg base x x st n [p1,p2] sp)(h:autoParam (∀(kV doc pm:Value) (an:Option Addr) (cdv ct u1 u2:Value),bindArgs (W.fnOf x x (cC st) (bQ st) (aU st) .none kV doc pm an cdv ct) ⟨[u1,u2],[]⟩=pure [(p1,u1),(p2,u2)]) Rq3._auto_1):Cl P w K mg base n sp x:=Z.cl t ok fun F=>F.b2 h
theorem Zx.c3(Z:Zx P w K mg base)(t:TopAt K x st)(ok:eF P w K mg base x x st n [p1,p2,p3] sp)(h:autoParam (∀(kV doc pm:Value) (an:Option Addr) (cdv ct u1 u2 u3:Value),bindArgs (W.fnOf x x (cC st) (bQ st) (aU st) .none kV doc pm an cdv ct) ⟨[u1,u2,u3],[]⟩=pure [(p1,u1),(p2,u2),(p3,u3)]) Rq3._auto_1):Cl P w K mg base n sp x:=Z.cl t ok fun F=>F.b3 h
theorem Zx.c4(Z:Zx P w K mg base)(t:TopAt K x st)(ok:eF P w K mg base x x st n [p1,p2,p3,p4] sp)(h:autoParam (∀(kV doc pm:Value) (an:Option Addr) (cdv ct u1 u2 u3 u4:Value),bindArgs (W.fnOf x x (cC st) (bQ st) (aU st) .none kV doc pm an cdv ct) ⟨[u1,u2,u3,u4],[]⟩=pure [(p1,u1),(p2,u2),(p3,u3),(p4,u4)]) Rq3._auto_1):Cl P w K mg base n sp x:=Z.cl t ok fun F=>F.b4 h
theorem Zx.c5(Z:Zx P w K mg base)(t:TopAt K x st)(ok:eF P w K mg base x x st n [p1,p2,p3,p4,p5] sp)(h:autoParam (∀(kV doc pm:Value) (an:Option Addr) (cdv ct u1 u2 u3 u4 u5:Value),bindArgs (W.fnOf x x (cC st) (bQ st) (aU st) .none kV doc pm an cdv ct) ⟨[u1,u2,u3,u4,u5],[]⟩=pure [(p1,u1),(p2,u2),(p3,u3),(p4,u4),(p5,u5)]) Rq3._auto_1):Cl P w K mg base n sp x:=Z.cl t ok fun F=>F.b5 h
theorem okn{q:Str}{k:Nat}{ps:List Str}:eF P w K mg base x q st k ps (fun _ _ _ _=>False):=fun _=>⟨fun _ _ _ _ h=>h.elim,fun _ _ _ _ _ _ _ _ _ _ _ _ _ h=>h.elim⟩
end
section
variable {X:Cx}{x:Str}{p pos pos':Pos}{e:Expr}{es:List Expr}{t:TA}{te:TE}
theorem bM{k:Nat}{sp:Sp}(C:Cl X.prog X.w X.K X.mg X.base k sp x){n:Nat}(hr:dI n X.A)(ha:PA X (e::es) t)(hn:autoParam (k<=n) Rq8._auto_1)(hg:autoParam (Gl X x) Rq0._auto_1)(hdb:autoParam ((x==("__debug__": Str))=false) Rq1._auto_1)(he:autoParam (starEach (e::es) X.env=(false,eval e X.env)::starEach es X.env) Rq0._auto_1)
  (hpl:autoParam ((backTo pos (starEach es X.env)).any (·.1)=false) Rq0._auto_1):PE X (.Call (.Name x p) (e::es) [] pos) (tX sp [] E0 t):=by obtain⟨_,_,_,g,b,k,m⟩:=C;exact bM0 g (hr.mono hn) hg m k b .nil cN1 ha hdb he hpl
theorem dJ(i:Nat){bN:List Stmt}{u:TS}(hN:X.N.Nodup)(he:PE X e te)(h2:uR X bN u)(hi:autoParam (X.N[i]?=some x) Rq0._auto_1)(hx:autoParam (Loc X.env.scope x) Rq5._auto_1)(hs:autoParam (swapsWith e (some (.Name x pos')) pos.line X.env=pure false) Rq0._auto_1)
  (hf:autoParam (X.fn x=true\/X.env.scope.names.lookup x=some .local) Rq2._auto_1):uR X (.Assign [.Name x pos'] e pos::bN) (bJ1 (bA3 te (rQ i)) u):=aF (kQ hN hi hx he hs hf) h2
theorem psz(i:Nat)(hN:X.N.Nodup)(he:PE X e te)(hi:autoParam (X.N[i]?=some x) Rq0._auto_1)(hx:autoParam (Loc X.env.scope x) Rq5._auto_1)(hs:autoParam (swapsWith e (some (.Name x pos')) pos.line X.env=pure false) Rq0._auto_1)
  (hf:autoParam (X.fn x=true\/X.env.scope.names.lookup x=some .local) Rq2._auto_1):PS X (.Assign [.Name x pos'] e pos) (bA3 te (rQ i)):=kQ hN hi hx he hs hf
theorem eT(i:Nat)(hN:X.N.Nodup:=by dsimp only[cK];decide)(hi:autoParam (X.N[i]?=some x) Rq0._auto_1)(hx:autoParam (Loc X.env.scope x) Rq5._auto_1)(hf:autoParam (X.fn x=true\/X.env.scope.names.lookup x=some .local) Rq2._auto_1):PG X (.Name x pos) (rQ i):=pY hN hi hx hf
theorem wV{tg iter:Expr}{body:List Stmt}{wi:TI}{g:TG}{tb:TS}(hi:PI X tg iter wi)(hg:PG X tg g)(hb:uR X body tb)(hp:PassesOwn (model X.prog X.w) X.A X.env X.xe:=by exact jg)(hc:autoParam (X.calm=true) Rq0._auto_1)
  (hs:autoParam (∀x,foldedSetIterable iter X.env x=pure x) Rq4._auto_1):PS X (.For tg iter body [] pos) (cH6 wi g tb):=bD3 hp hc hi hg hb hs
variable {id T:String}{r:List V->Hp->VK->Prop}
theorem sU(hc:fG X (.builtin id) r)(hm:X.mg x=none)(hv:bootBuiltins x=some (.builtin id))(ha:PA X (e::es) t)(hg:autoParam (Gl X x) Rq0._auto_1)(hn:autoParam (x≠"__name__") Rq1._auto_1)(hdb:autoParam ((x==("__debug__": Str))=false) Rq1._auto_1)
  (he:autoParam (starEach (e::es) X.env=(false,eval e X.env)::starEach es X.env) Rq0._auto_1) (hpl:autoParam ((backTo pos (starEach es X.env)).any (·.1)=false) Rq0._auto_1):PE X (.Call (.Name x p) (e::es) [] pos) (tCB r t):=sJ hc hg hm hv ha hn hdb he hpl
theorem zJ(hc:fG X (.type T) r)(hm:X.mg x=none)(hv:bootBuiltins x=some (.type T))(ha:PA X (e::es) t)(hg:autoParam (Gl X x) Rq0._auto_1)(hn:autoParam (x≠"__name__") Rq1._auto_1)(hdb:autoParam ((x==("__debug__": Str))=false) Rq1._auto_1)
  (he:autoParam (starEach (e::es) X.env=(false,eval e X.env)::starEach es X.env) Rq0._auto_1) (hpl:autoParam ((backTo pos (starEach es X.env)).any (·.1)=false) Rq0._auto_1):PE X (.Call (.Name x p) (e::es) [] pos) (tCB r t):=aL9 hc hg hm hv ha hn hdb he hpl
variable {a b:Expr}{ta tb:TE}
theorem bL{r:R2}(hr:IxR X r)(ha:PE X a ta)(hb:PE X b tb)(hs:autoParam (aG7 b) Rq11._auto_1):PE X (.Subscript a b pos) (zR r ta tb):=cM3 hr ha hb hs
theorem eG{op:CmpOp}{r:R2}(ho:iQ X (compareOp op) r)(ha:PE X a ta)(hb:PE X b tb)(hm:autoParam (behindInMarks op b=false) Rq9._auto_1):PT X (.Compare a [op] [b] pos) (xX (zR r ta tb)):=nN ho ha hb hm
theorem uX{op:CmpOp}{r:R2}(ho:iQ X (compareOp op) r)(ha:PE X a ta)(hb:PE X b tb)(hm:autoParam (behindInMarks op b=false) Rq9._auto_1):PE X (.Compare a [op] [b] pos) (zR r ta tb):=bN2 ho ha hb hm
theorem zU(hu:X.A.units+1<cLine)(ho:PE X a ta)(hi:PE X b tb)(hs:autoParam (cF3 b) Rq11._auto_1):PE X (.Subscript a b pos) (bB9 ta tb):=iJ hu ho hi hs
theorem pdp{tv:TE}(hu:X.A.units+1<cLine)(ho:PE X a ta)(hi:PE X b tb)(hv:PE X e tv)(hs:autoParam (swapsWith e (some (.Subscript a b pos')) pos.line X.env=pure false) Rq0._auto_1):PS X (.Assign [.Subscript a b pos'] e pos) (aX8 ta tb tv):=qE hu ho hi hv hs
theorem aM(ha:PE X a ta)(h:autoParam (starEach [a] X.env=[(false,eval a X.env)]) Rq0._auto_1):PA X [a] (iK ta tNil):=aC ha bX h
theorem pgl{v:Addr}(hm:X.mg x=some (.ref v))(hg:autoParam (Gl X x) Rq0._auto_1)(hd:autoParam ((x==("__debug__": Str))=false) Rq1._auto_1):PE X (.Name x pos) (tC (.ref v)):=aI4 hg hm rfl hd
end
open PySem PySem.Spec PyProof.Rows PySem.W
def Fz(a:Addr)(o:Obj):HO:= .frz o (.ext fun h=>h.get? a=some o)
theorem cN4{P:Program}{w:World}{H:Hp}{h:Heap}{a:Addr}{o:Obj}(e:h.get? a=some o):cR P w H h a (Fz a o):=⟨e,e,⟨_,e⟩,fun _ _ p k=>k _ p⟩
structure yW(H:Hp)(f:Addr)(ar:Arguments)(body:Expr)(sc:Scope)(cl:List (Str×Addr))(qual:Str)(c:Addr):Prop where
 ex:∃(pm ctv:Value) (oc:Obj) (vs:Array Value) (t:Tok),H f=some (Fz f (kla_obj "<lambda>" qual ar body sc cl pm c ctv))/\H c=some (Fz c oc)/\oc.data= .fields vs/\vs[1]?=some (.str qual t)
theorem yW.un{fs ex:List Addr}{H H':Hp}{h h':Heap}{f:Addr}{ar:Arguments}{body:Expr}{sc:Scope}{cl:List (Str×Addr)}{qual:Str}{c:Addr}(L:yW H f ar body sc cl qual c)(u:Un fs ex H H' h h'):yW H' f ar body sc cl qual c:=by
 obtain⟨pm,ctv,oc,vs,t,e1,e2,r⟩:=L.ex;exact⟨pm,ctv,oc,vs,t,u.frzs _ _ _ e1,u.frzs _ _ _ e2,r⟩
structure aC4(s:Shared)(fs:List Addr)(H:Hp)(sc:Scope)(cl:List (Str×Addr))(cv:List (Str×V)):Prop where
 inj:∀x y d,cl.lookup x=some d->cl.lookup y=some d->x=y
 at_:∀x d,cl.lookup x=some d->H d=none/\d∉fs/\∃v,s.heap.IsCell d v
 val:∀x v,(x,v)∈cv->∃d u,cl.lookup x=some d/\s.heap.IsCell d (some u)/\bF v u
 has:∀x,sc.names.lookup x=some .free->∃d,cl.lookup x=some d
structure sS(p1 p2:Str)(cn:List Str)(sc:Scope):Prop where
 kind:sc.kind= .function
 co:sc.isCoroutine=false
 gen:sc.isGenerator=false
 ne:p1≠p2
 l1:sc.names.lookup p1=some .local
 l2:sc.names.lookup p2=some .local
 cap:∀x∈cn,sc.names.lookup x=some .free
 nocell:∀y∈sc.names,y.2≠ .cell
def xG(P:Program)(w:World)(K:W.Frag)(mg:Str->Option Value)(base:Heap)(N:List Str)(qual:Str)(scope:Scope)(f c:Addr)(cl:List (Str×Addr))(A:Around)(outer:List Env)(s:Shared)(H:Hp):Cx where
 prog:=P
 w:=w
 K:=K
 mg:=mg
 base:=base
 A:=A.deeper (envX qual scope s.heap.objs.size f (.ref c) cl)
 N:=N
 s₀:=s
 H₀:=H
 env:=envX qual scope s.heap.objs.size f (.ref c) cl
 outer:=outer
 stack:=envX qual scope s.heap.objs.size f (.ref c) cl::outer
 ex:=[]
 calm:=true
 fn:=fun _=>false
 pn:=[]
 xe:=fun _ _=>False
theorem bP8{P:Program}{w:World}{K:W.Frag}{mg:Str->Option Value}{base:Heap}{k:Nat}{A:Around}{outer:List Env}{s:Shared}{H:Hp}{f c:Addr}{ar:Arguments}{body:Expr}{sc:Scope}{cl:List (Str×Addr)}{cv:List (Str×V)}{qual p1 p2:Str}{a b:V}{us:List Value}{te:TE}{Q:VK}
  (hr:dI (k+1) A) (e0:aO8 P w K mg base A outer s H) (L:yW H f ar body sc cl qual c) (C:aC4 s (uW outer) H sc cl cv) (S:sS p1 p2 (cv.map (·.1)) sc) (r:bH [a,b] us)
  (hbi:∀pm ctv u v,bindArgs (kla_fn "<lambda>" qual ar body sc cl pm (.ref c) ctv) ⟨[u,v],[]⟩=pure [(p1,u),(p2,v)])
  (h:PE (xG P w K mg base (p1::p2::cv.map (·.1)) qual sc f c cl A outer s H) body te) (q:te (some a::some b::cv.map (fun p=>some p.2)) H Q) :
  codeAny (model P w) A (.call (.ref f) ⟨us,[]⟩) (CR wU outer P w H s Q E0) s:=by
 obtain⟨u1,u2,rfl,r1,r2⟩:=yR r;obtain⟨pm,ctv,oc,vs,t,hf,hc,hd,hv⟩:=L.ex;have of:=(e0.hok _ _ hf).1;have occ:=(e0.hok _ _ hc).1;have lim:s.heap.NoLimit:=e0.mod.nolimit.keeps fun b o e=>(e0.bs b o e).1
 refine kla_callFunE hr.depth of rfl S.co S.gen rfl ⟨c,oc,vs,t,rfl,occ,hd,hv⟩ ?_;rw[hbi];refine bv (we S.nocell (fun y hy=>?_) (fun h₁ hns hsb=>?_) S.kind)
 ·simp only[List.mem_cons,List.not_mem_nil,or_false] at hy;rcases hy with rfl|rfl
  ·exact S.l1
  ·exact S.l2
 have hk₁:∀b o,s.heap.get? b=some o->h₁.get? b=some o:=fun b o e=>hsb.extBut b o (cp (ax e)) (ac _ e)
 refine⟨lim.keeps hk₁,?_⟩;show codeAny _ _ (.expr body (envX qual sc s.heap.objs.size f (.ref c) cl)) _ _;refine kla_codeExpr (fg (h [] _ _ H Q ?_ q) (by rintro v s' ⟨x,H',J,rv,z⟩;exact⟨x,H',J.os,J.bare,J.base,J.hok,rv,z⟩) fun _ _ z=>z.elim);have noA:∀b:Addr,b∉(xG P w K mg base (p1::p2::cv.map (·.1)) qual sc f c cl A outer s H).ex:=fun b z=>absurd (show b∈([]:List Addr) from z) (by simp)
 have free:∀y,sc.names.lookup y=some .free->∃d,cl.lookup y=some d:=C.has;refine⟨⟨e0.mod,S.kind,rfl,rfl,af _,C.inj,fun y hy=>?_,fun y d z _=>(by cases z),fun _=>hr.hd,vz e0.frames,.inr ⟨rfl,rfl⟩,fun b z=>absurd z (noA b),e0.bs,e0.bsz,fun b _ _=>noA b,fun b z=>absurd z (noA b),e0.funs,e0.frf⟩,
  rfl,e0.bare,Un.kept hk₁,⟨_,hns,fun i x v e1 e2 e3=>?_⟩,fun y d e=>?_,e0.hok.fresh (af _),fun y d e=>(C.at_ y d e).1,fun p hp=>absurd (show p∈([]:List (Addr×Obj)) from hp) (by simp),e0.hok.kept hk₁,?_⟩
 ·have hy:sc.names.lookup y=some .cell\/sc.names.lookup y=some .free:=hy;rcases hy with hy|hy
  ·exact absurd rfl (S.nocell _ (ib hy))
  ·exact free y hy
 ·match i with
  |0 =>
   cases e1
   cases e2
   refine⟨u1,r1,.inl ⟨S.l1,?_⟩⟩;have n:(p1==p2)=false:=by simpa using S.ne
   simp[List.lookup_cons,n]
  |1 =>
   cases e1
   cases e2
   refine⟨u2,r2,.inl ⟨S.l2,?_⟩⟩;simp[List.lookup_cons]
  |i+2 =>
   have e1:(cv.map (·.1))[i]?=some x:=e1;have e2:(cv.map (fun p=>some p.2))[i]?=some (some v):=e2;rw[di] at e1 e2
   cases g:cv[i]? with
   |none=>rw[g] at e1;cases e1
   |some p =>
    rw[g] at e1 e2
    cases e1
    cases e2
    obtain⟨d,u,l,ic,rv⟩:=C.val p.1 p.2 (bj g);exact⟨u,rv,.inr ⟨.inr (S.cap _ (jh (bj g))),d,l,ic.keeps hk₁⟩⟩
 ·obtain⟨v,ic⟩:=(C.at_ y d e).2.2;exact⟨v,ic.keeps hk₁⟩
 ·simp[xG]
section
variable {X:Cx}{i k:Nat}{x:Str}{f c:Addr}{ar:Arguments}{body:Expr}{sc:Scope}{cl:List (Str×Addr)}{cv:List (Str×V)}{qual p1 p2:Str}{p pos:Pos}{e:Expr}{es:List Expr}{t:TA}{te:TE}
theorem aC4.on{s:Shared}{σ:St}{H:Hp}{pins:List (Addr×Obj)}(C:aC4 X.s₀ X.fs X.H₀ sc cl cv)(hx:X.ex=[])(I:aX X pins σ H s):aC4 s (uW X.stack) H sc cl cv:=by
 have kp:∀d o,X.s₀.heap.get? d=some o->X.H₀ d=none->d∉X.fs->s.heap.get? d=some o:=fun d o e n z=>I.base.keep d o e n z (by rw[hx];simp)
 have ic:∀d v,X.H₀ d=none->d∉X.fs->X.s₀.heap.IsCell d v->s.heap.IsCell d v:=fun d v n z ⟨o,e,q⟩=>⟨o,kp d o e n z,q⟩
 refine⟨C.inj,fun y d e=>?_,fun y v hm=>?_,C.has⟩
 ·obtain⟨n,z,v,hc⟩:=C.at_ y d e;have hc':=hc;obtain⟨o,g,q⟩:=hc';refine⟨I.base.free d o g n (by rw[hx];simp),fun m=>?_,v,ic d v n z hc⟩;rcases bw.mp (I.stkSub d m) with w|w
  ·have:=ax g;rw[w] at this;exact absurd this (ki.mpr I.ok.above)
  ·exact z w
 ·obtain⟨d,u,l,hc,rv⟩:=C.val y v hm;obtain⟨n,z,_⟩:=C.at_ y d l;exact⟨d,u,l,ic d _ n z hc,rv⟩
def bB8(i:Nat)(f:Addr)(cv:List (Str×V))(te:TE)(t:TA):TE:=fun σ H Q=>σ[i]?=some (some (.ref f))/\t σ H fun vs H1=>∃a b,vs=[a,b]/\te (some a::some b::cv.map (fun p=>some p.2)) H1 Q
theorem bK6{f:Addr}{o:Obj}{fd:FuncData}(hd:o.data= .func fd)(h:Heap)(e:h.get? f=some o){M:Model}:∃k,(k=Keeper.frame\/k=Keeper.machine\/k=Keeper.boundFrame)/\Looks M h (keeperOf (.ref f)) k:=by
 obtain⟨a,b,d,sl⟩:=o
 cases hd
 exact⟨.frame,.inl rfl,(Looks.ld (part:=none) e).andThen .now⟩
theorem aT9(L:yW X.H₀ f ar body sc cl qual c)(C:aC4 X.s₀ X.fs X.H₀ sc cl cv)(S:sS p1 p2 (cv.map (·.1)) sc)(hr:dI (k+1) X.A)
  (hbi:∀pm ctv u v,bindArgs (kla_fn "<lambda>" qual ar body sc cl pm (.ref c) ctv) ⟨[u,v],[]⟩=pure [(p1,u),(p2,v)])
  (h:∀s H,PE (xG X.prog X.w X.K X.mg X.base (p1::p2::cv.map (·.1)) qual sc f c cl X.A X.stack s H) body te) (ha:PA X (e::es) t) (hi:autoParam (X.N[i]?=some x) Rq0._auto_1) (hl:autoParam (Vis X.env.scope x) Rq6._auto_1) (hx:autoParam (X.ex=[]) Rq0._auto_1)
  (hdb:autoParam ((x==("__debug__": Str))=false) Rq1._auto_1) (hcd:autoParam ((x==("__classdict__": Str))=false) Rq1._auto_1) (he:autoParam (starEach (e::es) X.env=(false,eval e X.env)::starEach es X.env) Rq0._auto_1) (hpl:autoParam ((backTo pos (starEach es X.env)).any (·.1)=false) Rq0._auto_1) :
  PE X (.Call (.Name x p) (e::es) [] pos) (bB8 i f cv te t):=by
 intro pins s σ H Q I ⟨hf,q⟩;refine gm ?_;refine fg (aX5 (pos:=p) hi hl hdb hcd pins s σ H (fun v H'=>v= .ref f/\H'=H) I ⟨_,hf,rfl,rfl⟩) (fun uf s1 ⟨v,H1,I1,rv,e1,e2⟩=>?_) fun _ _ z=>z
 subst e1;subst e2;obtain rfl:uf=Value.ref f:=rv;obtain⟨pm,ctv,oc,vs',tq,hf0,r0⟩:=L.ex;have hh:wpAny (model X.prog X.w) X.A (spliced (backTo pos (starEach (e::es) X.env))) (fun us s2=>s2.heap.get? f=some (kla_obj "<lambda>" qual ar body sc cl pm c ctv)/\wpAny (model X.prog X.w) X.A (call (.ref f) ([]++us)) (EP X pins σ Q) X.xe s2) X.xe s1:=by
  refine cO (ha pos pins s1 σ _ _ I1 q) ?_;rintro us s2 ⟨vs,H2,I2,r,a,b,ev,z⟩
  subst ev;have L2:=L.un I2.base;have g2:H2 f=some (Fz f (kla_obj "<lambda>" qual ar body sc cl pm c ctv)):=I2.base.frzs _ _ _ hf0;refine⟨(I2.hok _ _ g2).1,?_⟩;refine vy (kq (bP8 hr I2.env0 L2 (C.on hx I2) S r hbi (h s2 H2) z) fun r s' hq=>?_)
  cases r with
  |error e=>exact hq.elim
  |ok fl =>
   cases fl with
   |ret u=>exact I2.after hq
   |next=>exact False.elim hq
   |brk=>exact False.elim hq
   |cont=>exact False.elim hq
 rw[he] at hh ⊢;exact callWith_of (P:=fun h=>h.get? f=some (kla_obj "<lambda>" qual ar body sc cl pm c ctv)) (by show((false || (backTo pos (starEach es X.env)).any (·.1)) || false)=false;rw[hpl];rfl) (fun h g=>bK6 rfl h g) (PySem.Calls.evalArgs_plain hh)
end
structure aB1(base:Heap)(mg:Str->Option Value)(c P:Addr):Prop where
 hd:CodeHd base c P
 bi:∃bm o,mg "__builtins__"=some (.ref bm)/\bm≠builtinsNs/\base.get? bm=some o/\o.cls= .type "module"/\o.dict=some builtinsNs/\o.data= .plain
def tE(H:Hp)(P:Addr)(pos:Pos)(q:Str):Prop:=H P=some (.tbl #[])\/∃(c:Addr) (oc:Obj) (vs:Array Value) (t:Tok),H P=some (.tbl #[rawInt pos.line,rawInt pos.col,.ref c])/\H c=some (Fz c oc)/\oc.data= .fields vs/\vs[1]?=some (.str q t)
def oH(P:Addr)(H H':Hp):Prop:=∀a o,H a=some o->a≠P->H' a=some o
theorem oH.trans{P:Addr}{H H1 H2:Hp}(a:oH P H H1)(b:oH P H1 H2):oH P H H2:=fun c o e n=>b c o (a c o e n) n
theorem oH.of{P:Addr}{H H':Hp}(s:aO H H'):oH P H H':=fun a o e _=>s a o e
theorem tE.is{H:Hp}{P:Addr}{pos:Pos}{q:Str}(h:tE H P pos q):∃ps,H P=some (.tbl ps):=by
 rcases h with h|⟨_,_,_,_,h,_⟩<;>exact⟨_,h⟩
theorem tE.same{H H':Hp}{P:Addr}{pos:Pos}{q:Str}(h:tE H P pos q)(s:aO H H'):tE H' P pos q:=by
 rcases h with h|⟨c,oc,vs,t,h1,h2,r⟩
 ·exact .inl (s _ _ h)
 ·exact .inr ⟨c,oc,vs,t,s _ _ h1,s _ _ h2,r⟩
theorem oH.ts{P:Addr}{H H':Hp}{ps:Array Value}(h:oH P H H')(e:H P=some (.tbl ps)):∀(p:Addr) (xs:List V),H p=some (.tup xs)->H' p=some (.tup xs):=fun p xs z=>h p _ z (fun y=>by rw[y,e] at z;cases z)
def cU0(P:Addr)(pos:Pos)(ar:Arguments)(body:Expr)(sc:Scope)(cl:List (Str×Addr))(q:Str):TE:=fun _ H Q=>tE H P pos q /\
 ∀f c H',tE H' P pos q->oH P H H'->H f=none->yW H' f ar body sc cl q c->Q (.ref f) H'
section
variable {X:Cx}{c P:Addr}{ar:Arguments}{body:Expr}{sc:Scope}{pos:Pos}
theorem aY4{pins:List (Addr×Obj)}{σ:St}{H:Hp}{s:Shared}{ps ps':Array Value}{news:List (Addr×Obj)}{h':Heap}{tk:Tok}(I:aX X pins σ H s)(hP:H P=some (.tbl ps))(hx:Heap.ExtBut P s.heap h')(hps:h'.get? P=some (tabObj (ps++ps')))
  (hn:∀p∈news,s.heap.objs.size<=p.1/\h'.get? p.1=some p.2) :
  ∃H',aX X pins σ H' { s with heap:=h',toks:=tk }/\oH P H H'/\H' P=some (.tbl (ps++ps'))/\∀p∈news,H' p.1=some (Fz p.1 p.2):=by
 have nP:∀b,H b=none->b≠P:=fun b n z=>by rw[z,hP] at n;cases n
 have fr:∀b o,H b=some o->∀p∈news,b≠p.1:=fun b o e p hp z=>by rw[z,I.hok.fresh (hn p hp).1] at e;cases e
 have ltf:∀b o,s.heap.get? b=some o->∀p∈news,b≠p.1:=fun b o e p hp z=>by
  have:=ax e;rw[z] at this;exact absurd this (ki.mpr (hn p hp).1)
 let H':Hp:=fun b=>if b=P then some (.tbl (ps++ps')) else if (news.find? (fun p=>p.1==b)).isSome then (news.find? (fun p=>p.1==b)).map (fun p=>Fz p.1 p.2) else H b
 have hP':H' P=some (.tbl (ps++ps')):=br rfl;have old:∀b,b≠P->(∀p∈news,b≠p.1)->H' b=H b:=fun b n k=>by
  show(if b=P then _ else _)=_;rw[ay n,ay];rw[oz];rintro⟨p,hp,z⟩;exact k p hp (by simpa using Eq.symm (by simpa using z))
 have newP:∀p∈news,p.1≠P:=fun p hp z=>by
  have:=I.hok.lt hP;rw[<-z] at this;exact absurd this (ki.mpr (hn p hp).1)
 have new':∀p∈news,∃o,h'.get? p.1=some o/\H' p.1=some (Fz p.1 o)/\o=p.2:=fun p hp=>by
  have hs:(news.find? (fun q=>q.1==p.1)).isSome=true:=by
   rw[oz];exact⟨p,hp,by simp⟩
  obtain⟨q,hq⟩:=ny.mp hs;have hq1:q.1=p.1:=by simpa using List.find?_some hq
  have hq2:=List.mem_of_find?_eq_some hq;have g1:=(hn p hp).2;have g2:=(hn q hq2).2;rw[hq1,g1] at g2;have z:=dt g2;refine⟨p.2,g1,?_,rfl⟩;show(if p.1=P then _ else _)=_;rw[ay (newP p hp),br hs,hq];show some (Fz q.1 q.2)=_;rw[hq1,z]
 have off:oH P H H':=fun b o e n=>by rw[old b n (fr b o e)];exact e
 have kp:∀b o,b≠P->s.heap.get? b=some o->h'.get? b=some o:=fun b o n e=>hx b o n e
 refine⟨H',I.un ⟨fun b o e n _ _=>kp b o (nP b n) e,fun b o e n _ _=>⟨o.slots,kp b o (nP b n) e⟩,fun b o e n _=>by rw[old b (nP b n) (ltf b o e)];exact n,fun b o e _=>?_,fun b xs e=>off b _ e (fun z=>by rw[z,hP] at e;cases e),fun b o u e=>off b _ e (fun z=>by rw[z,hP] at e;cases e),fun b qs e=>?_⟩ (fun b u e=>?_),off,hP',fun p hp=>?_⟩
 ·by_cases z:b=P
  ·rw[z];exact⟨_,hps⟩
  ·exact⟨o,kp b o z e⟩
 ·by_cases z:b=P
  ·subst z;rw[hP] at e
   cases e
   exact⟨ps',hP'⟩
  ·exact⟨#[],by rw[off b _ e z];simp⟩
 ·by_cases z:b=P
  ·subst z;rw[hP'] at e
   cases e
   exact hps
  ·by_cases hm:∃p∈news,b=p.1
   ·obtain⟨p,hp,rfl⟩:=hm;obtain⟨o,g,hh,_⟩:=new' p hp;rw[hh] at e
    cases e
    exact cN4 g
   ·have e':H b=some u:=by rw[<-old b z (fun p hp w=>hm ⟨p,hp,w⟩)];exact e
    refine(I.hok b u e').stay (fun b' u' w g=>kp b' u' (fun y=>?_) g) (fun b' w=>off b' _ w (fun y=>by rw[y,hP] at w;cases w)) fun b' xs w=>off b' _ w (fun y=>by rw[y,hP] at w;cases w)
    rcases w with rfl|w
    ·exact z y
    ·rw[y,hP] at w;cases w
 ·obtain⟨o,g,hh,rfl⟩:=new' p hp;exact hh
theorem cE4(B:aB1 X.base X.mg c P)(hc:X.env.code= .ref c)(hfr:∀y∈sc.names,y.2= .free->X.env.kindOf y.1=some .cell\/X.env.kindOf y.1=some .free)(hdf:autoParam (defaultsOf ar X.env=([],[])) Rq0._auto_1) :
  PE X (.Lambda ar body sc pos) (cU0 P pos ar body sc (kB X.env sc.names) (X.env.qual++"<lambda>")):=by
 intro pins s σ H Q I ⟨hT,q⟩;have hge:=I.ok.glob;have hg:s.heap.Ns mainGlobals X.mg:=I.mod.glob.keeps I.bk;have C:CodeHd s.heap c P:=B.hd.keeps I.bk;obtain⟨ps,hP⟩:=hT.is;have oP:s.heap.get? P=some (tabObj ps):=I.hok P _ hP;have nb:∀b o,X.base.get? b=some o->b≠P:=fun b o e z=>by
  have:=(I.bs b o e).2;rw[z,hP] at this
  cases this
 obtain⟨bm,ob,b1,b2,b3,b4,b5,b6⟩:=B.bi;obtain⟨og,eg,epg,g1,g2,_⟩:=I.mod.glob;have hgP:mainGlobals≠P:=nb _ _ g1;have hbG:bm≠mainGlobals:=fun z=>by
  rw[z,g1] at b3
  cases b3
  rw[g2] at b6
  cases b6
 have HB:s.heap.BuiltinsAt X.mg P:=⟨bm,ob,b1,b2,hbG,nb _ _ b3,I.bk _ _ b3,b4,b5,b6⟩
 have hcl:closureFor sc X.env=pure (kB X.env sc.names):=mB fun y hy e=>I.ok.has y.1 (hfr y hy e)
 refine kla_eval hdf ?_;rcases hT with h0|⟨c',oc,vs,t,h0,h1,h2,h3⟩
 ·rw[h0] at hP
  cases hP
  refine kla_makeFunction (mg:=X.mg) hcl hge hg hc C oP trivial rfl hgP HB fun c' ctv h' tk hx hge' hlt hrec htb=>?_
  obtain⟨c₂,oc,vs,t,e2,hoc,hd,hv⟩:=hrec
  cases e2
  have hx2:Heap.ExtBut P s.heap (h'.push (kla_obj "<lambda>" (X.env.qual++"<lambda>") ar body sc (kB X.env sc.names) ((X.mg "__name__").getD .none) c' ctv)):=fun b o n e=>ac _ (hx b o n e)
  obtain⟨H',I',off,hP',nw⟩:=aY4 (ps':= #[rawInt pos.line,rawInt pos.col,.ref c']) (news:=[(h'.objs.size,kla_obj "<lambda>" (X.env.qual++"<lambda>") ar body sc (kB X.env sc.names) ((X.mg "__name__").getD .none) c' ctv),(c',oc)]) (tk:=tk) I h0 hx2 (ac _ htb) (fun p hp=>by
   simp only[List.mem_cons,List.not_mem_nil,or_false] at hp;rcases hp with rfl|rfl
   ·exact⟨cj hge' (cu hlt),bz _ rfl⟩
   ·exact⟨hge',ac _ hoc⟩)
  have n1:=nw _ ao;have n2:=nw _ (ak _ ao);refine⟨.ref h'.objs.size,H',I',rfl,q _ c' H' (.inr ⟨c',oc,vs,t,?_,n2,hd,hv⟩) off (I.hok.fresh (cj hge' (cu hlt))) ⟨_,ctv,oc,vs,t,n1,n2,hd,hv⟩⟩;rw[hP'];simp
 ·rw[h0] at hP
  cases hP
  refine kla_makeFunctionHit (mg:=X.mg) hcl hge hg hc C oP trivial (cv:= .ref c') ?_ HB fun ctv h' tk hk hsz=>?_
  ·simp[codeAmong,rawInt]
  have hx2:Heap.ExtBut P s.heap (h'.push (kla_obj "<lambda>" (X.env.qual++"<lambda>") ar body sc (kB X.env sc.names) ((X.mg "__name__").getD .none) c' ctv)):=fun b o n e=>ac _ (hk b o e)
  obtain⟨H',I',off,hP',nw⟩:=aY4 (ps':= #[]) (news:=[(h'.objs.size,kla_obj "<lambda>" (X.env.qual++"<lambda>") ar body sc (kB X.env sc.names) ((X.mg "__name__").getD .none) c' ctv)]) (tk:=tk) I h0 hx2 (ac _ (by rw[xw];exact hk _ _ oP)) (fun p hp=>by
   simp only[List.mem_cons,List.not_mem_nil,or_false] at hp
   cases hp
   exact⟨hsz,bz _ rfl⟩)
  have n1:=nw _ ao;have nc:c'≠P:=fun z=>by rw[z,h0] at h1;cases h1
  have n2:=off _ _ h1 nc;refine⟨.ref h'.objs.size,H',I',rfl,q _ c' H' (.inr ⟨c',oc,vs,t,?_,n2,h2,h3⟩) off (I.hok.fresh hsz) ⟨_,ctv,oc,vs,t,n1,n2,h2,h3⟩⟩;rw[hP',xw]
end
section
variable {P:Program}{w:World}{K:W.Frag}{mg:Str->Option Value}{base:Heap}
structure yZ(P:Program)(w:World)(K:W.Frag)(mg:Str->Option Value)(base:Heap)(k:Nat) where
 ar:Arguments
 body:Expr
 sc:Scope
 p1:Str
 p2:Str
 cn:List Str
 te:TE
 S:sS p1 p2 cn sc
 hb:∀(qual:Str) (cl:List (Str×Addr)) (pm ctv:Value) (c:Addr) (u v:Value),bindArgs (kla_fn "<lambda>" qual ar body sc cl pm (.ref c) ctv) ⟨[u,v],[]⟩=pure [(p1,u),(p2,v)]
 h:∀(qual:Str) (f c:Addr) (cl:List (Str×Addr)) (A:Around) (outer:List Env) (s:Shared) (H:Hp),dI k (A.deeper (envX qual sc s.heap.objs.size f (.ref c) cl))->PE (xG P w K mg base (p1::p2::cn) qual sc f c cl A outer s H) body te
def aI6{k:Nat}(Λ:yZ P w K mg base k)(cv:List V)(s:Shared)(fs:List Addr)(H:Hp)(f:Addr):Prop:=
 ∃(cl:List (Str×Addr)) (qual:Str) (c:Addr) (cw:List (Str×V)),yW H f Λ.ar Λ.body Λ.sc cl qual c/\aC4 s fs H Λ.sc cl cw/\cw.map (·.1)=Λ.cn/\cw.map (·.2)=cv
structure bS2(P:Program)(w:World)(K:W.Frag)(mg:Str->Option Value)(base:Heap)(k:Nat)(f:Addr)(fd:FuncData)(ps:List Str)(Z:Shared->List Addr->Hp->Addr->Prop)(sp:Sp):Prop where
 len:∀vs H Q E,sp vs H Q E->vs.length=ps.length
 run:∀(A:Around) (outer:List Env) (s:Shared) (H:Hp) (args:Args) (us:List Value) (vs:List V) (g:Addr) (Q:VK) (E:XK),dI k A->aO8 P w K mg base A outer s H->BindsTo s fd args (ps.zip us)->bH vs us->vs[1]?=some (.ref g)->Z s (uW outer) H g->sp vs H Q E ->
  codeAny (model P w) A (.call (.ref f) args) (CR wU outer P w H s Q E) s
def bV2(P:Program)(w:World)(K:W.Frag)(mg:Str->Option Value)(base:Heap)(x q:Str)(st:Stmt)(n k:Nat)(ps:List Str)(sp:TE->List V->Sp):Prop:=
 ∀{f:Addr}{d:FuncData},sV K x q st f d->∀(Λ:yZ P w K mg base k) (cv:List V),bS2 P w K mg base n f d ps (aI6 Λ cv) (sp Λ.te cv)
theorem cT0{x q:Str}{st:Stmt}{k j:Nat}{ps:List Str}{sp:TE->List V->Sp}(N:List Str)
  (hb:∀{f:Addr}{cdv:Value}{A:Around}{outer:List Env}{s:Shared}{vs:List V}{g:Addr}{E:XK}(Λ:yZ P w K mg base j) (cv:List V) (H:Hp) (Q:VK),N.Nodup->dI k (A.deeper (envOfC q (aU st) s.heap.objs.size f cdv))->vs[1]?=some (.ref g)->aI6 Λ cv s (uW outer) H g->sp Λ.te cv vs H Q E ->
   ∃t,uR (rY wU P w K mg base N q (aU st) f cdv A outer s H E).nox (bQ st) t/\t { nx:=fun _ H'=>Q .non H',rt:=Q } (iX N vs) H)
  (len:∀te cv vs H Q E,sp te cv vs H Q E->vs.length=ps.length)
  (S:autoParam (iM N ps (aU st)) Rq7._auto_1):bV2 P w K mg base x q st (k+1) j ps sp:=by
 intro f d F Λ cv;obtain⟨oc,od,kV,doc,pm,an,cdv,ct,osl,rfl,lk,hcd⟩:=F.ex;refine⟨len _ _,fun A outer s H args us vs g Q E hr e0 hb' r hg hz hsp=>?_⟩;have hl:=len _ _ _ _ _ _ hsp;have KX:K.In s.heap:=e0.mod.kin.keeps fun b o e=>(e0.bs b o e).1
 have lim:s.heap.NoLimit:=e0.mod.nolimit.keeps fun b o e=>(e0.bs b o e).1
 have hkind:∀y∈ps.zip us,(aU st).names.lookup y.1=some .local\/((aU st).names.lookup y.1=some .cell/\((cellsFrom (s.heap.objs.size+1) (aU st).names []).lookup y.1).isSome=true):=fun⟨n,v⟩ hy=>by
  rcases S.par n (nj hy).1 with q|q
  ·exact .inl q
  ·exact .inr ⟨q,W.cellsFrom_some _ _ _ (.inl q)⟩
 refine vm hr.depth (KX _ _ lk) rfl S.co S.gen rfl (W.codeRec_of KX hcd) (hb' _ _ _ _ ?_);refine sj S.kind hkind fun env he s1 x=>?_
 subst he;refine⟨lim.keeps x.toInCall.keep,codeAny_func ?_⟩;obtain⟨t,ht,hq⟩:=hb Λ cv H Q S.nd (hr.deeper _) hg hz hsp;have I:aX (rY wU P w K mg base N q (aU st) f cdv A outer s H E) [] (iX N vs) H s1:=tZ S hr.hd e0 hl r x;refine fg (ht.nox [] s1 (iX N vs) H _ I hq) (fun fl s' hs=>?_) fun e s' hs=>hs
 have fin:∀{σ':St}{H':Hp}{v:V}{u:Value},aX (rY wU P w K mg base N q (aU st) f cdv A outer s H E) [] σ' H' s'->bF v u->Q v H'->CE outer P w H s Q u s':=
  fun {σ' H' v u} J rv q=>⟨v,H',J.os,J.bare,J.base,J.hok,rv,q⟩
 cases fl with
 |ret u =>
  obtain⟨v,σ',H',J,rv,q⟩:=hs;exact fin J rv q
 |next =>
  obtain⟨σ',H',J,q⟩:=hs;exact fin (v:=V.non) (u:=Value.none) J rfl q
 |brk =>
  obtain⟨_,_,_,q⟩:=hs;exact False.elim q
 |cont =>
  obtain⟨_,_,_,q⟩:=hs;exact False.elim q
def ClZ(P:Program)(w:World)(K:W.Frag)(mg:Str->Option Value)(base:Heap)(n k:Nat)(sp:TE->List V->Sp)(x:Str):Prop:=∃f d ps,(∀(Λ:yZ P w K mg base k) (cv:List V),bS2 P w K mg base n f d ps (aI6 Λ cv) (sp Λ.te cv))/\jA K d ps []/\W.keepIn K (.ref f)=true/\mg x=some (.ref f)
theorem Zx.z2{x p1 p2:Str}{st:Stmt}{n k:Nat}{sp:TE->List V->Sp}(Z:Zx P w K mg base)(t:TopAt K x st)(ok:bV2 P w K mg base x x st n k [p1,p2] sp)(h:autoParam (∀(kV doc pm:Value) (an:Option Addr) (cdv ct u1 u2:Value),bindArgs (W.fnOf x x (cC st) (bQ st) (aU st) .none kV doc pm an cdv ct) ⟨[u1,u2],[]⟩=pure [(p1,u1),(p2,u2)]) Rq3._auto_1):ClZ P w K mg base n k sp x:=by
 obtain⟨_,a,t⟩:=t;obtain⟨_,F⟩:=t.fn;exact⟨_,_,_,ok F,F.b2 h,F.kp,Z.ns _ _ a⟩
def bV1(P:Program)(w:World)(K:W.Frag)(mg:Str->Option Value)(base:Heap)(x q:Str)(st:Stmt)(n:Nat)(ps:List Str)(c:Addr)(sp:Sp):Prop:=∀{f:Addr}{d:FuncData},sV K x q st f d->d.code= .ref c->nX P w K mg base wU n f d ps sp
theorem cS7{x q:Str}{st:Stmt}{k:Nat}{ps:List Str}{sp:Sp}{c:Addr}(N:List Str)
  (hb:∀{f:Addr}{A:Around}{outer:List Env}{s:Shared}{vs:List V}{E:XK}(H:Hp) (Q:VK),N.Nodup->dI k (A.deeper (envOfC q (aU st) s.heap.objs.size f (.ref c)))->sp vs H Q E ->
   ∃t,uR (rY wU P w K mg base N q (aU st) f (.ref c) A outer s H E).nox (bQ st) t/\t { nx:=fun _ H'=>Q .non H',rt:=Q } (iX N vs) H)
  (len:∀vs H Q E,sp vs H Q E->vs.length=ps.length)
  (S:autoParam (iM N ps (aU st)) Rq7._auto_1):bV1 P w K mg base x q st (k+1) ps c sp:=by
 intro f d F hc;obtain⟨oc,od,kV,doc,pm,an,cdv,ct,osl,rfl,lk,hcd⟩:=F.ex;have hc:cdv= .ref c:=hc;subst hc;refine bQ9 lk hcd S len fun A outer s H vs Q E hr hsp=>?_
 obtain⟨t,h,q⟩:=hb H Q S.nd hr hsp;exact⟨t,h.nox,q⟩
def TopAtT(K:W.Frag)(x:Str)(st:Stmt)(c:Addr):Prop:=∃f oc od kV dc pm an ct sl,W.nsIn K mainGlobals x=some (some (.ref f))/\K.lookup f=some ⟨oc,od,.func (W.fnOf x x (cC st) (bQ st) (aU st) .none kV dc pm an (.ref c) ct),sl⟩/\W.codeIn K (.ref c) x=true/\W.keepIn K (.ref f)=true
theorem TopAtT.of{x:Str}{st:Stmt}{f c:Addr}{oc:Value}{od:Option Addr}{kV dc pm:Value}{an:Option Addr}{ct:Value}{sl:Array (Option Value)}(a:W.nsIn K mainGlobals x=some (some (.ref f)))(l:K.lookup f=some ⟨oc,od,.func (W.fnOf x x (cC st) (bQ st) (aU st) .none kV dc pm an (.ref c) ct),sl⟩)(c':W.codeIn K (.ref c) x=true)(k:W.keepIn K (.ref f)=true):TopAtT K x st c:=⟨f,oc,od,kV,dc,pm,an,ct,sl,a,l,c',k⟩
theorem Zx.t1{x p1:Str}{st:Stmt}{n:Nat}{sp:Sp}{c:Addr}(Z:Zx P w K mg base)(t:TopAtT K x st c)(ok:bV1 P w K mg base x x st n [p1] c sp)(h:autoParam (∀(kV doc pm:Value) (an:Option Addr) (cdv ct u1:Value),bindArgs (W.fnOf x x (cC st) (bQ st) (aU st) .none kV doc pm an cdv ct) ⟨[u1],[]⟩=pure [(p1,u1)]) Rq3._auto_1):Cl P w K mg base n sp x:=by
 obtain⟨f,oc,od,kV,dc,pm,an,ct,sl,a,l,c',k⟩:=t;have F:=aD3 l c' k;exact⟨_,_,_,ok F rfl,F.b1 h,F.kp,Z.ns _ _ a⟩
end
section
variable {X:Cx}{x:Str}{p pos:Pos}{e:Expr}{es:List Expr}{t:TA}
theorem aX.lamC{s:Shared}{σ:St}{H:Hp}{pins:List (Addr×Obj)}{sc:Scope}{cw:List (Str×V)}(I:aX X pins σ H s)(hfn:X.fn=fun _=>true)(hfr:∀y∈sc.names,y.2= .free->X.env.kindOf y.1=some .cell)(hcap:∀y∈cw,sc.names.lookup y.1=some .free)
  (hv:∀y∈cw,∃j:Nat,X.N[j]?=some y.1/\σ[j]?=some (some y.2)):aC4 s (uW X.stack) H sc (kB X.env sc.names) cw:=by
 have hs:∀y∈sc.names,y.2= .free->∃c,X.env.cells.lookup y.1=some c:=fun y hy e=>I.ok.has y.1 (.inl (hfr y hy e))
 have g:∀z d,(kB X.env sc.names).lookup z=some d->X.env.cells.lookup z=some d:=fun z d h=>by
  rcases aB4 sc.names [] hs h with q|q
  ·exact absurd q (by simp)
  ·exact q
 refine⟨fun a b d h1 h2=>I.ok.inj a b d (g _ _ h1) (g _ _ h2),fun a d h=>⟨I.freeC a d (g _ _ h),fun m=>?_,I.cell a d (g _ _ h)⟩,fun a v hm=>?_,fun a h=>rM sc.names [] (.inl (ib h))⟩
 ·rcases bw.mp (I.stkSub d m) with z|z
  ·exact I.cne a d (g _ _ h) z
  ·obtain⟨_,o,ho,_⟩:=I.ok.funs.mem z;exact absurd (ax ho) (ki.mpr (I.ok.cab a d (by rw[hfn]) (g _ _ h)))
 ·have hf:=hcap _ hm;obtain⟨j,h1,h2⟩:=hv _ hm;have hm':=ib hf;have hk:=hfr _ hm' rfl;obtain⟨m,_,hl⟩:=I.loc;obtain⟨u,r,l⟩:=hl j a v h1 h2 (.inr (.inl hk));obtain⟨d,hd⟩:=rM (env:=X.env) (x:=a) sc.names [] (.inl hm');have hd2:=g _ _ hd;rcases l with⟨k,_⟩|⟨_,c,e,ic⟩
  ·have:=hk.symm.trans k
   cases this
  ·rw[hd2] at e
   cases e
   exact⟨d,u,hd,ic,r⟩
def bT0{P:Program}{w:World}{K:W.Frag}{mg:Str->Option Value}{base:Heap}{k:Nat}(N:List Str)(cl:List (Str×Addr))(Λ:yZ P w K mg base k)(sp:TE->List V->Sp)(t:TA):TE:=fun σ H Q=>t σ H fun vs H1=>∃(f c:Addr) (q:Str) (cw:List (Str×V)),vs[1]?=some (.ref f)/\yW H1 f Λ.ar Λ.body Λ.sc cl q c/\cw.map (·.1)=Λ.cn/\(∀y∈cw,∃j:Nat,N[j]?=some y.1/\σ[j]?=some (some y.2))/\sp Λ.te (cw.map (·.2)) vs H1 Q E0
theorem cS1{k j n:Nat}{sp:TE->List V->Sp}(C:ClZ X.prog X.w X.K X.mg X.base k j sp x)(Λ:yZ X.prog X.w X.K X.mg X.base j)(hr:dI n X.A)(ha:PA X (e::es) t)(hfr:∀y∈Λ.sc.names,y.2= .free->X.env.kindOf y.1=some .cell)(hfn:autoParam (X.fn=(fun _=>true)) Rq0._auto_1)(hn:autoParam (k<=n) Rq8._auto_1)(hg:autoParam (Gl X x) Rq0._auto_1)(hdb:autoParam ((x==("__debug__": Str))=false) Rq1._auto_1)
  (he:autoParam (starEach (e::es) X.env=(false,eval e X.env)::starEach es X.env) Rq0._auto_1) (hpl:autoParam ((backTo pos (starEach es X.env)).any (·.1)=false) Rq0._auto_1) :
  PE X (.Call (.Name x p) (e::es) [] pos) (bT0 X.N (kB X.env Λ.sc.names) Λ sp t):=by
 intro pins s σ H Q I h;obtain⟨f,d,ps,F,b,kp,m⟩:=C;refine gm (vL I hg m ?_ hdb);refine W.callWith_K (h₀:=X.base) I.ok.mod.kin kp (cO (ha pos pins s σ H _ I h) ?_) he hpl;rintro us s1 ⟨vs,H1,I1,r,g,c,q,cw,h1,h2,h3,h4,h5⟩;refine⟨I1.kIn,?_⟩;have hl:(us++[]).length=ps.length:=by rw[dw, <-r.length];exact(F Λ _).len _ _ _ _ h5
 have bd:=b s1 us I1.kIn hl;rw[dw] at bd;have hcap:∀y∈cw,Λ.sc.names.lookup y.1=some .free:=fun y hy=>Λ.S.cap _ (by rw[<-h3];exact jh hy)
 refine vy (kq ((F Λ _).run X.A X.stack s1 H1 ⟨us,[]⟩ us vs g Q E0 (hr.mono hn) I1.env0 bd r h1 ⟨_,q,c,cw,h2,I1.lamC hfn hfr hcap h4,h3,rfl⟩ h5) fun r s' hq=>?_)
 cases r with
 |error e=>exact hq.elim
 |ok fl =>
  cases fl with
  |ret u=>exact I1.after hq
  |next=>exact False.elim hq
  |brk=>exact False.elim hq
  |cont=>exact False.elim hq
theorem cQ7{k j:Nat}{i:Nat}{f:Addr}{cv:List V}(Λ:yZ X.prog X.w X.K X.mg X.base j)(L:aI6 Λ cv X.s₀ X.fs X.H₀ f)(hr:dI (k+1) X.A)(ha:PA X (e::es) t)(hj:autoParam (j<=k) Rq8._auto_1)(hi:autoParam (X.N[i]?=some x) Rq0._auto_1)(hl:autoParam (Vis X.env.scope x) Rq6._auto_1)(hx:autoParam (X.ex=[]) Rq0._auto_1)
  (hdb:autoParam ((x==("__debug__": Str))=false) Rq1._auto_1) (hcd:autoParam ((x==("__classdict__": Str))=false) Rq1._auto_1) (he:autoParam (starEach (e::es) X.env=(false,eval e X.env)::starEach es X.env) Rq0._auto_1) (hpl:autoParam ((backTo pos (starEach es X.env)).any (·.1)=false) Rq0._auto_1) :
  PE X (.Call (.Name x p) (e::es) [] pos) (fun σ H Q=>σ[i]?=some (some (.ref f))/\t σ H fun vs H1=>∃a b,vs=[a,b]/\Λ.te (some a::some b::cv.map some) H1 Q):=by
 obtain⟨cl,qual,c,cw,l1,l2,l3,l4⟩:=L;have hm:∀l:List (Str×V),l.map (fun p=>some p.2)=(l.map (·.2)).map some:=fun l=>by simp
 have:=aT9 (p:=p) (pos:=pos) (te:=Λ.te) (t:=t) (i:=i) (x:=x) (e:=e) (es:=es) l1 l2 (by rw[l3];exact Λ.S) hr (fun pm ctv u v=>Λ.hb qual cl pm ctv c u v) (fun s H=>by rw[l3];exact Λ.h qual f c cl X.A X.stack s H ((hr.deeper _).mono hj)) ha hi hl hx hdb hcd he hpl;unfold bB8 at this;rw[hm,l4] at this;exact this
end
def aY5(Ps:List Addr)(H:Hp):Prop:=(∀P∈Ps,H P=some (.tbl #[]))/\∀b,H b=none\/(∃o xs,H b=some (.frz o (.lst xs)))\/b∈Ps
theorem aP3{P:Program}{w:World}{K:W.Frag}{mg mb:Str->Option Value}{CX:CXT}{k:Nat}{fa a:Addr}{fd:FuncData}{x:Str}{sp:Sp}{s₁:Shared}{vs:List Value}{ns:List Int}{ts:List (Addr×Addr)}
  (KX:K.In s₁.heap) (hT:∀q∈ts,CodeHd s₁.heap q.1 q.2/\s₁.heap.get? q.2=some (tabObj #[])) (hK:noTabs K=true) (hns:s₁.heap.Ns mainGlobals mg) (hb:s₁.heap.Ns builtinsNs mb) (hbb:∀x:Str,x≠"__name__"->mb x=bootBuiltins x) (hlim:s₁.heap.NoLimit)
  (hbm:∃bm o,mg "__builtins__"=some (.ref bm)/\bm≠builtinsNs/\s₁.heap.get? bm=some o/\o.cls= .type "module"/\o.dict=some builtinsNs/\o.data= .plain) (hg:s₁.gens= #[])
  (ha:s₁.heap.get? a=some { cls:= .type "list",data:= .seq vs.toArray }) (hi:IntsAre vs ns) (hl:ns.length<=sizeLine) (hr:dI k callerA)
  (F:∀base:Heap,K.In base->base.Ns mainGlobals mg->(∀q∈ts,aB1 base mg q.1 q.2)->nX P w K mg base CX k fa fd [x] sp) (hbind:∀(s:Shared) (u:Value),BindsTo s fd ⟨[u],[]⟩ [(x,u)])
  (hsp:∀H:Hp,aY5 (ts.map (·.2)) H->bA K H a (ns.map V.int)->sp [.ref a] H (fun v _=>v= .bl true) fun _ _ _=>False)
  (hCX:∀H e s',CX [] H s₁ (fun _ _ _=>False) e s'->False) :
  codeAny (model P w) callerA (.call (.ref fa) ⟨[.ref a],[]⟩) (fun r s'=>r= .ok (.ret (.bool true))/\OldK s₁.heap s'.heap/\s'.os=s₁.os/\AllBare s'.gens) s₁:=by
 have rv:=tY hi;have lenV:=hi.length;have aT:a∉ts.map (·.2):=fun hm=>by
  obtain⟨q,hq,e⟩:=fi.mp hm;have:=(hT q hq).2;rw[e,ha] at this
  cases this
 have core:∀H:Hp,aY5 (ts.map (·.2)) H->bA K H a (ns.map V.int)->mI P w H s₁.heap->(∀b,H b≠none->b=a\/b∈ts.map (·.2))->(H a≠none->K.lookup a=none) ->
   codeAny (model P w) callerA (.call (.ref fa) ⟨[.ref a],[]⟩) (fun r s'=>r= .ok (.ret (.bool true))/\OldK s₁.heap s'.heap/\s'.os=s₁.os/\AllBare s'.gens) s₁:=by
  intro H hO hS hok hA hKa;have base_of:∀{b:Addr}{o:Obj},s₁.heap.get? b=some o->H b=none->(sY s₁.heap H).get? b=some o:=fun e n=>bF7 e n
  have noT:∀{b:Addr}{o:Obj},s₁.heap.get? b=some o->o≠tabObj #[]->b≠a->H b=none:=fun {b o} e d n=>by
   cases q:H b with
   |none=>rfl
   |some u =>
    rcases hA b (by rw[q];simp) with e'|e'
    ·exact absurd e' n
    ·obtain⟨q',hq',e2⟩:=fi.mp e';have:=(hT q' hq').2;rw[e2,e] at this
     cases this
     exact absurd rfl d
  have noA:∀{b:Addr}{o:Obj}{es:Array DictEntry}{ep:Nat},s₁.heap.get? b=some o->o.data= .dict es ep->H b=none:=fun {b o es ep} e d =>
   noT e (fun z=>by rw[z] at d;cases d) fun z=>by
    subst z;rw[ha] at e;cases e;have d':Data.seq vs.toArray _=Data.dict es ep:=d
    cases d'
  have nsK:∀{b:Addr}{m:Str->Option Value},s₁.heap.Ns b m->(sY s₁.heap H).Ns b m:=fun {b m} ⟨o,es,ep,e,d,r⟩=>⟨o,es,ep,base_of e (noA e d),d,r⟩
  have hKb:K.In (sY s₁.heap H):=fun b o e=>base_of (KX b o e) (by
   by_cases n:b=a
   ·subst n
    cases q:H b with
    |none=>rfl
    |some u=>rw[hKa (by rw[q];simp)] at e;cases e
   ·refine noT (KX b o e) (fun z=>?_) n;have h2:=pz.mp hK (b,o) (mem_of_lookupK e);subst z;exact absurd (show false=true from h2) bt)
  have hM:Mod K mg (sY s₁.heap H):=⟨hKb,nsK hns,⟨mb,nsK hb,hbb⟩,let⟨mc,h1,h2⟩:=hlim;⟨mc,nsK h1,h2⟩⟩
  have hB:∀q∈ts,aB1 (sY s₁.heap H) mg q.1 q.2:=fun q hq=>by
   obtain⟨o,vs',file,tf,flags,tg,inF,text,tt,e1,r1,r2,r3,r4,r5,r6,r7,r8,hne⟩:=(hT q hq).1;obtain⟨bm,ob,b1,b2,b3,b4,b5,b6⟩:=hbm;refine⟨⟨o,vs',file,tf,flags,tg,inF,text,tt,base_of e1 (noT e1 (fun z=>by rw[z] at r1;cases r1) fun z=>by rw[z,ha] at e1;cases e1;injection r1 with z;exact absurd z (by decide)),r1,r2,r3,r4,r5,r6,r7,r8,hne⟩,⟨bm,ob,b1,b2,base_of b3 (noT b3 (fun z=>by rw[z] at b4;cases b4) fun z=>by rw[z,ha] at b3;cases b3;injection b4 with z;exact absurd z (by decide)),b4,b5,b6⟩⟩
  have e0:aO8 P w K mg (sY s₁.heap H) callerA [] s₁ H:=⟨rfl,hM,fun b o e=>bQ3 e,xk (aP2 _ _),trivial,fun b hb=>absurd (show b∈([]:List Addr) from hb) (by simp),hok,.of_eq hg⟩
  refine kq ((F _ hKb (nsK hns) hB).run callerA [] s₁ H ⟨[.ref a],[]⟩ [.ref a] [.ref a] _ _ hr e0 (hbind s₁ (.ref a)) (.cons rfl .nil) (hsp H hO hS)) fun r s' h=>?_
  cases r with
  |error e=>exact(hCX H e s' h).elim
  |ok fl =>
   cases fl with
   |next=>exact False.elim h
   |brk=>exact False.elim h
   |cont=>exact False.elim h
   |ret u =>
    obtain⟨v,H',os,bare,un,hok',r',q⟩:=h;have q':v= .bl true:=q;subst q';obtain rfl:u=Value.bool true:=r';have keep:∀b o,b∉ts.map (·.2)->s₁.heap.get? b=some o->s'.heap.get? b=some o:=fun b o hb e=>by
     cases q:H b with
     |none=>exact un.keep b o e q (by intro z;exact absurd (show b∈([]:List Addr) from z) (by simp)) (by simp)
     |some u =>
      rcases hO.2 b with z|⟨ob,xs,z⟩|z
      ·rw[q] at z;cases z
      ·have z2:=un.frzs b ob _ z;obtain⟨e1,_⟩:=hok b _ z;obtain⟨e2,_⟩:=hok' b _ z2;rw[e] at e1;cases e1;exact e2
      ·exact absurd z hb
    have grown:∀b o,b∈ts.map (·.2)->s₁.heap.get? b=some o->isCodeTable s₁.heap b/\o=tabObj #[]/\∃ps,s'.heap.get? b=some (tabObj ps):=fun b o hb e=>by
     obtain⟨q,hq,rfl⟩:=fi.mp hb;have e2:=(hT q hq).2;rw[e] at e2;obtain⟨more,e3⟩:=un.tbls _ _ (hO.1 _ hb);exact⟨((hT q hq).1.tab (hT q hq).2).isCodeTable,dt e2,_,hok' _ _ e3⟩
    refine⟨rfl,⟨fun b o e=>?_,fun b o e=>?_⟩,os,bare⟩
    ·by_cases hb:b∈ts.map (·.2)
     ·obtain⟨ht,rfl,ps,hP⟩:=grown b o hb e;exact .inr (.inl ⟨ht,rfl, #[],ps,rfl,by rw[Array.empty_append];exact hP⟩)
     ·exact .inl (keep b o hb e)
    ·by_cases hb:b∈ts.map (·.2)
     ·obtain⟨_,_,ps,hP⟩:=grown b o hb e;exact⟨_,hP⟩
     ·exact⟨o,keep b o hb e⟩
 have tabOk:∀(H:Hp) b,b∈ts.map (·.2)->cR P w H s₁.heap b (.tbl #[]):=fun H b hb=>by
  obtain⟨q,hq,rfl⟩:=fi.mp hb;exact(hT q hq).2
 cases hk:K.lookup a with
 |some o =>
  have e:=KX a o hk;rw[ha] at e
  cases e
  refine core (fun b=>if b∈ts.map (·.2) then some (.tbl #[]) else none) ⟨fun b hb=>br hb,fun b=>?_⟩ (.inr ⟨_,vs.toArray,_,hk,rfl,rfl,rfl,by rw[bq,lenV];exact hl,by simpa using rv⟩) (fun b u z=>?_) (fun b z=>?_) fun z=>absurd (ay aT) z
  ·by_cases hb:b∈ts.map (·.2)
   ·exact .inr (.inr hb)
   ·exact .inl (ay hb)
  ·by_cases hb:b∈ts.map (·.2)
   ·have z':=(br hb).symm.trans z
    cases z'
    exact tabOk _ b hb
   ·have z':=(ay hb).symm.trans z
    cases z'
  ·by_cases hb:b∈ts.map (·.2)
   ·exact .inr hb
   ·exact absurd (ay hb) z
 |none =>
  refine core (fun b=>if b∈ts.map (·.2) then some (.tbl #[]) else if b=a then some (.frz { cls:= .type "list",data:= .seq vs.toArray } (.lst (ns.map V.int))) else none) ⟨fun b hb=>br hb,fun b=>?_⟩ (.inl (.inr ⟨{ cls:= .type "list",data:= .seq vs.toArray },(ay aT).trans (br rfl)⟩)) (fun b u z=>?_) (fun b z=>?_) fun _=>hk
  ·by_cases hb:b∈ts.map (·.2)
   ·exact .inr (.inr hb)
   ·by_cases hb2:b=a
    ·exact .inr (.inl ⟨_,_,(ay hb).trans (br hb2)⟩)
    ·exact .inl ((ay hb).trans (ay hb2))
  ·by_cases hb:b∈ts.map (·.2)
   ·have z':=(br hb).symm.trans z
    cases z'
    exact tabOk _ b hb
   ·have z:=(ay hb).symm.trans z
    by_cases hb2:b=a
    ·have z':=(br hb2).symm.trans z
     cases z'
     subst hb2;exact⟨ha,by rw[aa];exact hl,vs,_,rv,ha⟩
    ·have z':=(ay hb2).symm.trans z
     cases z'
  ·by_cases hb:b∈ts.map (·.2)
   ·exact .inr hb
   ·by_cases hb2:b=a
    ·exact .inl hb2
    ·exact absurd ((ay hb).trans (ay hb2)) z
theorem walkT_of{l:W.OpenLaw}{n k:Nat}{q:Program}{loose:List Str}{XP:(Str->Option Value)->Heap->Prop}{YP:World->Heap->Prop}{d:DefRec}{K:Params->W.Frag}{sp:World->Sp}{x:Str}{ts:List (Addr×Addr)}
  (hn:l.most=some n) (hn2:n<=sizeLine) (hdf:d.params.defaults=[]) (hr:dI k callerA)
  (hY:∀(w:World) (h:Heap),YP w h->(K w.params).In h/\∀P∈ts.map (·.2),h.get? P=some (tabObj #[]))
  (hK:∀w:World,noTabs (K w.params)=true) (hH:∀(w:World) (q),q∈ts->codeHdIn (K w.params) q.1 q.2=true)
  (F:∀(w:World) (mg:Str->Option Value) (fa:Addr) (h:Heap),(K w.params).In h->h.Ns mainGlobals mg->mg d.name=some (.ref fa) ->
   ∃fd:FuncData,(∀(s:Shared) (u:Value),BindsTo s fd ⟨[u],[]⟩ [(x,u)]) /\
    ∀base:Heap,(K w.params).In base->base.Ns mainGlobals mg->(∀q∈ts,aB1 base mg q.1 q.2)->nX l.prog w (K w.params) mg base wU k fa fd [x] (sp w))
  (hsp:∀(w:World) (H:Hp) (a:Addr) (ns:List Int),ns.length<=n->aY5 (ts.map (·.2)) H->bA (K w.params) H a (ns.map V.int)->sp w [.ref a] H (fun v _=>v= .bl true) fun _ _ _=>False) :
  W.WalkO q loose XP YP l.row.toRowW d [] (fun f vs=>PySem.call f vs):=by
 refine Att.attach_call hn hdf fun w s₀ s₁ mg mb fa o pm cd doc a vs ns G Y ho hd hcd hmg hobj hints hlen hg=>?_
 obtain⟨KX,Y2⟩:=hY w _ Y;obtain⟨fd,hb,hF⟩:=F w mg fa _ KX G.T.g hmg;obtain⟨bm,ob,a1,a2,a3,a4,a5,a6⟩:=G.T.bmain;exact aP3 KX (fun q hq=>⟨codeHd_of_K KX (hH w q hq),Y2 _ (jh hq)⟩) (hK w) G.T.g G.T.b G.T.builtins G.T.nolimit ⟨bm,ob,a1,a2,a3,a4,a5,a6⟩ hg hobj hints (cj hlen hn2) hr hF hb (fun H hO hS=>hsp w H a ns hlen hO hS) fun H e s' z=>z
end L2
namespace Mine
open PySem L2
section
variable (Chg:Nat->Rw->List Rw->Prop)
mutual
def Reb(k:Nat):Rw->List Rw->Prop
 |.when _ _ _ t a b,o=>∃p pa pb a' b',aD7 (k+1) a a'/\aD7 (k+1+bS a) b b'/\Chg k (.when p pa pb t a' b') o
 |.times _ _ n b,o=>∃p pb b',aD7 (k+1) b b'/\Chg k (.times p pb n b') o
 |.thr p w x us am,o=>Chg k (.thr p w x us am) o
 |.lt p x t,o=>Chg k (.lt p x t) o
 |.tell p t,o=>Chg k (.tell p t) o
def aD7(k:Nat):List Rw->List Rw->Prop
 |[],o=>o=[]
 |r::rs,o=>∃o1 o2,Reb k r o1/\aD7 (k+r.cnt) rs o2/\o=o1++o2
end
abbrev BSt:=List (List Rw)
def cJ7(r:Rw)(k:Nat)(c d:BSt):Prop:=match r with
 |.when _ _ _ t _ _=>∃B2 B1 B st p pa pb o,c=B2::B1::B::st/\Chg k (.when p pa pb t B1 B2) o/\d=(B++o)::st
 |.times _ _ n _=>∃B1 B st p pb o,c=B1::B::st/\Chg k (.times p pb n B1) o/\d=(B++o)::st
 |.thr _ _ _ _ _=>False
 |.lt _ _ _=>False
 |.tell _ _=>False
def gJ(s:Stp)(c d:BSt):Prop:=
 if eN s=true then d=[]::c
 else if s.1="row" then ∃B st o,c=B::st/\Chg s.2.2 s.2.1 o/\d=(B++o)::st
 else cJ7 Chg s.2.1 s.2.2 c d
def gP:List Stp->BSt->BSt->Prop
 |[],c,d=>c=d
 |s::l,c,d=>∃e,gJ Chg s c e/\gP l e d
variable {Chg}
theorem gP.app:∀{l m:List Stp}{c d:BSt},gP Chg (l++m) c d->∃e,gP Chg l c e/\gP Chg m e d
 |[],_,c,_,h=>⟨c,rfl,h⟩
 |_::_,_,_,_,⟨e,h,k⟩=>let⟨g,a,b⟩:=gP.app k;⟨g,⟨e,h,a⟩,b⟩
theorem gP.snoc{s:Stp}{e:BSt}:∀{l:List Stp}{c d:BSt},gP Chg l c d->gJ Chg s d e->gP Chg (l++[s]) c e
 |[],c,d,h,k=>⟨e,by rw[show c=d from h];exact k,rfl⟩
 |_::_,_,_,⟨g,h,k⟩,j=>⟨g,h,gP.snoc k j⟩
theorem gJ.mono{Chg':Nat->Rw->List Rw->Prop}(h:∀n r o,Chg n r o->Chg' n r o){s:Stp}{c d:BSt}(k:gJ Chg s c d):gJ Chg' s c d:=by
 unfold gJ at k ⊢
 split at k
 ·rw[br ‹_›];exact k
 ·rw[ay ‹_›]
  split at k
  ·rw[br ‹_›];obtain⟨B,st,o,e,q,f⟩:=k;exact⟨B,st,o,e,h _ _ _ q,f⟩
  ·rw[ay ‹_›]
   cases hr:s.2.1 with
   |when p pa pb t a b =>
    rw[hr] at k;obtain⟨B2,B1,B,st,p',pa',pb',o,e,q,f⟩:=k;exact⟨B2,B1,B,st,p',pa',pb',o,e,h _ _ _ q,f⟩
   |times p pb n b =>
    rw[hr] at k;obtain⟨B1,B,st,p',pb',o,e,q,f⟩:=k;exact⟨B1,B,st,p',pb',o,e,h _ _ _ q,f⟩
   |thr p w x us am=>rw[hr] at k;exact k.elim
   |lt p x t=>rw[hr] at k;exact k.elim
   |tell p t=>rw[hr] at k;exact k.elim
theorem gP.mono{Chg':Nat->Rw->List Rw->Prop}(h:∀n r o,Chg n r o->Chg' n r o):∀{l:List Stp}{c d:BSt},gP Chg l c d->gP Chg' l c d
 |[],_,_,k=>k
 |_::_,_,_,⟨e,a,b⟩=>⟨e,a.mono h,gP.mono h b⟩
theorem wD{w:Str}{r:Rw}{k:Nat}{c d:BSt}(h:gJ Chg (w,r,k) c d)(o:vD w r.w=true):d=[]::c:=by
 unfold gJ at h;rw[br (show eN (w,r,k)=true from o)] at h;exact h
theorem aE4{r:Rw}{k:Nat}{c d:BSt}(h:gJ Chg ("row",r,k) c d)(o:vD "row" r.w=false):∃B st o,c=B::st/\Chg k r o/\d=(B++o)::st:=by
 unfold gJ at h;rw[ay (show ¬eN (("row": Str),r,k)=true by rw[show eN (("row": Str),r,k)=false from o];exact bt),br rfl] at h;exact h
theorem aX0{r:Rw}{k:Nat}{c d:BSt}(h:gJ Chg ("end",r,k) c d):cJ7 Chg r k c d:=by
 unfold gJ at h;rw[ay (show ¬eN (("end": Str),r,k)=true by rw[show eN (("end": Str),r,k)=false from bM5 _];exact bt),ay gX] at h;exact h
mutual
theorem bN5:∀(r:Rw) (k:Nat) {B:List Rw}{st d:BSt},WdR r->gP Chg (bY k r) (B::st) d->∃o,Reb Chg k r o/\d=(B++o)::st
 |.thr p w x us am,k,B,st,d,hw,h=>by
  simp only[bY] at h;obtain⟨e,h,q⟩:=h;obtain⟨B',st',o,e1,e2,e3⟩:=aE4 h (bZ0 hw)
  cases e1
  exact⟨o,e2,by rw[<-e3];exact(show e=d from q).symm⟩
 |.lt p x t,k,B,st,d,hw,h=>by
  simp only[bY] at h;obtain⟨e,h,q⟩:=h;obtain⟨B',st',o,e1,e2,e3⟩:=aE4 h cA5
  cases e1
  exact⟨o,e2,by rw[<-e3];exact(show e=d from q).symm⟩
 |.tell p t,k,B,st,d,hw,h=>by
  simp only[bY] at h;obtain⟨e,h,q⟩:=h;obtain⟨B',st',o,e1,e2,e3⟩:=aE4 h cC1
  cases e1
  exact⟨o,e2,by rw[<-e3];exact(show e=d from q).symm⟩
 |.when p pa pb t a b,k,B,st,d,hw,h=>by
  simp only[bY] at h;obtain⟨e0,h0,h⟩:=h;have z0:=wD h0 cE6;subst z0;obtain⟨e3,h,h3⟩:=gP.app h;obtain⟨e2,h,h2⟩:=gP.app h;obtain⟨e1,h1,h⟩:=gP.app h;obtain⟨oa,ra,rfl⟩:=jD a (k+1) hw.1 h1;obtain⟨e4,h4,q4⟩:=h;have z4:=wD h4 (bY3 _);subst z4;have q4:[]::([]++oa)::B::st=e2:=q4;subst q4;obtain⟨ob,rb,rfl⟩:=jD b (k+1+bS a) hw.2 h2;obtain⟨e5,h5,q5⟩:=h3;obtain⟨B2,B1,B',st',p',pa',pb',o,c1,c2,c3⟩:=aX0 h5
  cases c1
  exact⟨o,⟨p',pa',pb',_,_,ra,rb,c2⟩,by rw[<-c3];exact(show e5=d from q5).symm⟩
 |.times p pb n b,k,B,st,d,hw,h=>by
  simp only[bY] at h;obtain⟨e0,h0,h⟩:=h;have z0:=wD h0 bV4;subst z0;obtain⟨e1,h1,h3⟩:=gP.app h;obtain⟨ob,rb,rfl⟩:=jD b (k+1) hw h1;obtain⟨e5,h5,q5⟩:=h3;obtain⟨B1,B',st',p',pb',o,c1,c2,c3⟩:=aX0 h5
  cases c1
  exact⟨o,⟨p',pb',_,rb,c2⟩,by rw[<-c3];exact(show e5=d from q5).symm⟩
theorem jD:∀(rs:List Rw) (k:Nat) {B:List Rw}{st d:BSt},WdL rs->gP Chg (bU k rs) (B::st) d->∃o,aD7 Chg k rs o/\d=(B++o)::st
 |[],k,B,st,d,_,h=>⟨[],rfl,by rw[dw];exact(show B::st=d from h).symm⟩
 |r::rs,k,B,st,d,hw,h=>by
  simp only[bU] at h;obtain⟨e,h1,h2⟩:=gP.app h;obtain⟨o1,r1,rfl⟩:=bN5 r k hw.1 h1;obtain⟨o2,r2,rfl⟩:=jD rs (k+r.cnt) hw.2 h2;exact⟨o1++o2,⟨o1,o2,r1,r2,rfl⟩,by rw[gj]⟩
end
end
inductive spRb(te:TE)(cv:List V)(vs:List V)(H:Hp)(Q:VK)(z1:XK):Prop
 |mk:∀(p f:Addr) (rs:List Rw) (Chg:Hp->Nat->Rw->List Rw->Prop) (Rq:Hp->Rw->Prop),(vs=[.ref p,.ref f])->(H p=some (.tup (bG rs)))->(aP H rs)->(bS rs<=4000)->((∀G G' n r o,TS G G'->Chg G n r o->Chg G' n r o))->((∀q∈cU rs,∀G,TS H G->Rq G q))->((∀G p pa pb t a b,Rq G (.when p pa pb t a b)))->((∀G p pb n b,Rq G (.times p pb n b)))->((∀(r:Rw) (n:Nat) (G:Hp) (W:VK),aO H G->dF G r->Rq G r->(∀(l:Addr) (o:List Rw) (G':Hp),aO G G'->G' l=some (.lst (bG o))->aP G' o->Chg G' n r o->o.length<=1->W (.ref l) G')->te (some (.ref r.p)::some (.int n)::cv.map some) G W))->(∀(q:Addr) (o:List Rw) (H':Hp),aO H H'->H' q=some (.tup (bG o))->aP H' o->aD7 (Chg H') 0 rs o->Q (.ref q) H')->spRb te cv vs H Q z1
structure PgL(H:Hp)(p:Addr)(ks:List Str)(rs:List Rw)(m:Nat):Prop where
 ex:∃pk pr,H p=some (.tup [.ref pk,.ref pr])/\H pk=some (.tup (ks.map V.str))/\H pr=some (.tup (bG rs))
 rows:aP H rs
 cnt:bS rs<=73*m
 sc:∃k2,iI [] rs k2
 tk:cD rs
 t1:1<=fB rs
 k1:1<=ks.length
 k3:ks.length<=3
 dp:pP rs<=2
 tz:jS rs
 few:Few (9*m) (pH rs)
 m4:m<=3
theorem PgL.ts{H H':Hp}{p:Addr}{ks:List Str}{rs:List Rw}{m:Nat}(t:TS H H')(P:PgL H p ks rs m):PgL H' p ks rs m:=
 ⟨let⟨pk,pr,a,b,c⟩:=P.ex;⟨pk,pr,t _ _ a,t _ _ b,t _ _ c⟩,aP.ts t rs P.rows,P.cnt,P.sc,P.tk,P.t1,P.k1,P.k3,P.dp,P.tz,P.few,P.m4⟩
inductive spKindsL(vs:List V)(H:Hp)(Q:VK)(z1:XK):Prop
 |mk:∀(p:Addr) (ks:List Str),(vs=[.ref p])->(H p=some (.tup (ks.map V.str)))->(1<=ks.length)->(ks.length<=3)->(ks.Nodup)->(∀H',aO H H'->Q .non H')->spKindsL vs H Q z1
inductive spLookL(vs:List V)(H:Hp)(Q:VK)(z1:XK):Prop
 |mk:∀(p:Addr) (ks:List Str) (rs:List Rw) (m:Nat),(vs=[.ref p])->(PgL H p ks rs m)->(ks.Nodup)->(∀H',aO H H'->Q (.bl true) H')->spLookL vs H Q z1
structure bK5 where
 P:Addr
 pos:Pos
 q:Str
theorem bA5{k:Key}{w:V}:∀{ks:List Key}{vs:List V}{i:Nat},ks.Nodup->ks[i]?=some k->vs.length=ks.length->(ks.zip vs).map (fun kv=>if kv.1=k then (kv.1,w) else kv)=ks.zip (vs.set i w)
 |[],_,i,_,h,_=>by simp at h
 |a::ks,[],_,_,_,h=>by simp at h
 |a::ks,v::vs,0,nd,h,hl=>by
  have e:a=k:=by simpa using h
  subst e;have nd:=du.mp nd;have:(ks.zip vs).map (fun kv=>if kv.1=a then (kv.1,w) else kv)=ks.zip vs:=by
   refine(List.map_congr_left (g:=id) (l:=ks.zip vs) fun kv hkv=>?_).trans (List.map_id _);exact ay fun e:kv.1=a=>nd.1 (by rw[<-e];exact(nj (a:=kv.1) (b:=kv.2) hkv).1)
  simp only[List.zip_cons_cons,List.map_cons,if_pos,List.set_cons_zero,this]
 |a::ks,v::vs,i+1,nd,h,hl=>by
  have nd:=du.mp nd;have h:ks[i]?=some k:=by simpa using h
  have ne:¬a=k:=fun e=>nd.1 (by rw[e];exact bj h)
  simp only[List.zip_cons_cons,List.map_cons,if_neg ne,List.set_cons_succ,bA5 (w:=w) nd.2 h (by simpa using hl)]
theorem rP{k:Key}:∀{ks:List Key}{vs:List V}{i:Nat},ks.Nodup->ks[i]?=some k->vs.length=ks.length->cJ (ks.zip vs) k=vs[i]?
 |[],_,i,_,h,_=>by simp at h
 |a::ks,[],_,_,_,h=>by simp at h
 |a::ks,v::vs,0,nd,h,hl=>by
  have e:a=k:=by simpa using h
  subst e;rw[xx,cQ rfl];rfl
 |a::ks,v::vs,i+1,nd,h,hl=>by
  have nd:=du.mp nd;have h:ks[i]?=some k:=by simpa using h
  have ne:¬a=k:=fun e=>nd.1 (by rw[e];exact bj h)
  rw[xx,cA ne,rP nd.2 h (by simpa using hl)];rfl
theorem bA8{k:Key}{w:V}{ks:List Key}{vs:List V}{i:Nat}(nd:ks.Nodup)(h:ks[i]?=some k)(hl:vs.length=ks.length):cZ (ks.zip vs) k w=ks.zip (vs.set i w):=by
 unfold cZ;rw[br,bA5 nd h hl];rw[iC,rP nd h hl];have:i<vs.length:=by rw[hl];exact(aq.mp h).1
 rw[aj this];rfl
theorem tR:∀{more acc:List (Key×V)},((acc++more).map (·.1)).Nodup->iD acc more=acc++more
 |[],acc,_=>by simp[iD]
 |(k,v)::more,acc,nd=>by
  have e:cZ acc k v=acc++[(k,v)]:=nS _ (by
   cases q:cJ acc k with
   |none=>rfl
   |some u =>
    exfalso;have a:=iC k acc;rw[q] at a;obtain⟨p,hp,hk⟩:=my.mp a;have hk:=ae hk;rw[bo,ef,jf] at nd;exact nd.2.2 _ (jh hp) _ ao hk)
  show iD (cZ acc k v) more=_;rw[e,tR (by rw[gj];exact nd),gj];rfl
def tO:List Key:=(["kinds","names","room","by","left","wide"]:List Str).map Sum.inr
theorem sM:tO.Nodup:=by decide
def iR(kd:Int)(nl:Addr)(room by_ left wd:Int):List (Key×V):=tO.zip [.int kd,.ref nl,.int room,.int by_,.int left,.int wd]
structure We(H:Hp)(d l sc nl:Addr)(kd wd:Int)(xs:List Str)(rm bb:Int):Prop where
 deal:dR H d l
 scn:∃left,H sc=some (.dK (iR kd nl rm bb left wd))
 nms:H nl=some (.lst (xs.map V.str))
 ne1:sc≠d
 ne2:nl≠l
 x1:1<=xs.length
 x2:xs.length<=9
 m1:1<=kd
 m2:kd<=3
 w1:1<=wd
 w2:wd<=9
 r0:0<=rm
 b1:1<=bb
section
variable {H H':Hp}{d l sc nl:Addr}{kd wd rm bb:Int}{xs:List Str}
theorem We.sl(W:We H d l sc nl kd wd xs rm bb):sc≠l:=by
 obtain⟨_,e⟩:=W.scn;obtain⟨sd,k,ls,z⟩:=W.deal;exact fQ e z.lc (by intro z;cases z)
theorem We.out(W:We H d l sc nl kd wd xs rm bb)(D:dR H' d l)(o:fH d l H H'):We H' d l sc nl kd wd xs rm bb:=
 ⟨D,let⟨c,e⟩:=W.scn;⟨c,o _ _ e W.ne1 W.sl⟩,bB W.deal W.nms W.ne2 o,W.ne1,W.ne2,W.x1,W.x2,W.m1,W.m2,W.w1,W.w2,W.r0,W.b1⟩
theorem We.same(W:We H d l sc nl kd wd xs rm bb)(s:aO H H'):We H' d l sc nl kd wd xs rm bb:=
 ⟨W.deal.same s,let⟨c,e⟩:=W.scn;⟨c,s _ _ e⟩,s _ _ W.nms,W.ne1,W.ne2,W.x1,W.x2,W.m1,W.m2,W.w1,W.w2,W.r0,W.b1⟩
theorem We.put(W:We H d l sc nl kd wd xs rm bb)(room by_ left:Int)(h0:0<=room)(h1:1<=by_):We (aL H sc (.dK (iR kd nl room by_ left wd))) d l sc nl kd wd xs room by_:=by
 obtain⟨_,e⟩:=W.scn;obtain⟨sd,k,ls,z⟩:=id W.deal;have n1:=W.ne1;have n2:=W.sl;refine⟨⟨sd,k,ls,⟨by rw[aG n1.symm];exact z.dc,by rw[aG n2.symm];exact z.lc,z.s0,z.s1,z.n0,z.l0⟩⟩,⟨_,aB⟩,?_,n1,W.ne2,W.x1,W.x2,W.m1,W.m2,W.w1,W.w2,h0,h1⟩;rw[aG (fQ W.nms e (by intro z;cases z))];exact W.nms
theorem jH{room by_ left:Int}(e:H sc=some (.dK (iR kd nl room by_ left wd)))(i:Nat){x:Str}{v:V}(h:tO[i]?=some (Sum.inr x))(hv:([.int kd,.ref nl,.int room,.int by_,.int left,.int wd]:List V)[i]?=some v):eR H sc (.str x) (some v):=by
 rw[<-hv, <-rP (k:=Sum.inr x) sM h rfl];exact eR.k (k:=Sum.inr x) e
theorem rO{room by_ left:Int}(e:H sc=some (.dK (iR kd nl room by_ left wd)))(i:Nat){x:Str}{v:V}(h:tO[i]?=some (Sum.inr x)):jM H sc (.str x) v (aL H sc (.dK (tO.zip (([.int kd,.ref nl,.int room,.int by_,.int left,.int wd]:List V).set i v)))):=by
 rw[<-bA8 (k:=Sum.inr x) sM h rfl];exact jM.k (k:=Sum.inr x) e (aR (by show 6<=1000;decide))
theorem We.gKinds(W:We H d l sc nl kd wd xs rm bb):eR H sc (.str "kinds") (some (.int kd)):=by obtain⟨_,e⟩:=W.scn;exact jH e 0 rfl rfl
theorem We.gNames(W:We H d l sc nl kd wd xs rm bb):eR H sc (.str "names") (some (.ref nl)):=by obtain⟨_,e⟩:=W.scn;exact jH e 1 rfl rfl
theorem We.gRoom(W:We H d l sc nl kd wd xs rm bb):eR H sc (.str "room") (some (.int rm)):=by obtain⟨_,e⟩:=W.scn;exact jH e 2 rfl rfl
theorem We.gBy(W:We H d l sc nl kd wd xs rm bb):eR H sc (.str "by") (some (.int bb)):=by obtain⟨_,e⟩:=W.scn;exact jH e 3 rfl rfl
theorem We.gLeft(W:We H d l sc nl kd wd xs rm bb):∃v,eR H sc (.str "left") (some (.int v)):=by obtain⟨_,e⟩:=W.scn;exact⟨_,jH e 4 rfl rfl⟩
theorem We.gWide(W:We H d l sc nl kd wd xs rm bb):eR H sc (.str "wide") (some (.int wd)):=by obtain⟨_,e⟩:=W.scn;exact jH e 5 rfl rfl
theorem We.off(W:We H d l sc nl kd wd xs rm bb)(o:HO):eX [d,l,sc] H (aL H sc o):=fun b u e n=>by
 rw[aG fun z=>n (by rw[z];simp)];exact e
theorem We.pRoom(W:We H d l sc nl kd wd xs rm bb)(v:Int)(h0:0<=v):∃H',jM H sc (.str "room") (.int v) H'/\We H' d l sc nl kd wd xs v bb/\eX [d,l,sc] H H':=by obtain⟨_,e⟩:=W.scn;exact⟨_,rO e 2 rfl,W.put _ _ _ h0 W.b1,W.off _⟩
theorem We.pBy(W:We H d l sc nl kd wd xs rm bb)(v:Int)(h1:1<=v):∃H',jM H sc (.str "by") (.int v) H'/\We H' d l sc nl kd wd xs rm v/\eX [d,l,sc] H H':=by obtain⟨_,e⟩:=W.scn;exact⟨_,rO e 3 rfl,W.put _ _ _ W.r0 h1,W.off _⟩
theorem We.pLeft(W:We H d l sc nl kd wd xs rm bb)(v:Int):∃H',jM H sc (.str "left") (.int v) H'/\We H' d l sc nl kd wd xs rm bb/\eX [d,l,sc] H H':=by obtain⟨_,e⟩:=W.scn;exact⟨_,rO e 4 rfl,W.put _ _ _ W.r0 W.b1,W.off _⟩
theorem We.ts(W:We H d l sc nl kd wd xs rm bb)(o:eX [d,l,sc] H H'):TS H H':=fun p ys h=>by
 obtain⟨_,e⟩:=W.scn;obtain⟨sd,k,ls,z⟩:=W.deal;refine o _ _ h fun m=>?_
 simp only[List.mem_cons,List.not_mem_nil,or_false] at m;rcases m with m|m|m
 ·rw[m,z.dc] at h;cases h
 ·rw[m,z.lc] at h;cases h
 ·rw[m,e] at h;cases h
theorem We.keep(W:We H d l sc nl kd wd xs rm bb){p:Addr}{ys:List V}(h:H p=some (.lst ys))(n:p≠l)(o:eX [d,l,sc] H H'):H' p=some (.lst ys):=by
 obtain⟨_,e⟩:=W.scn;obtain⟨sd,k,ls,z⟩:=W.deal;refine o _ _ h fun m=>?_
 simp only[List.mem_cons,List.not_mem_nil,or_false] at m;rcases m with m|m|m
 ·rw[m,z.dc] at h;cases h
 ·exact n m
 ·rw[m,e] at h;cases h
theorem We.lst(W:We H d l sc nl kd wd xs rm bb){p:Addr}{ys zs:List V}(h:H p=some (.lst ys))(n:p≠l)(n2:p≠nl):We (aL H p (.lst zs)) d l sc nl kd wd xs rm bb:=by
 obtain⟨c,e⟩:=W.scn;exact⟨bE3 W.deal h n,⟨c,by rw[aG (fQ e h (by intro z;cases z))];exact e⟩,by rw[aG n2.symm];exact W.nms,W.ne1,W.ne2,W.x1,W.x2,W.m1,W.m2,W.w1,W.w2,W.r0,W.b1⟩
theorem We.all(W:We H d l sc nl kd wd xs rm bb):∀b∈[d,l,sc],∃o,H b=some o:=by
 obtain⟨_,e⟩:=W.scn;obtain⟨sd,k,ls,z⟩:=W.deal;intro b m;simp only[List.mem_cons,List.not_mem_nil,or_false] at m;rcases m with m|m|m
 ·exact⟨_,by rw[m];exact z.dc⟩
 ·exact⟨_,by rw[m];exact z.lc⟩
 ·exact⟨_,by rw[m];exact e⟩
theorem We.new(W:We H d l sc nl kd wd xs rm bb){p:Addr}(h:H p=none):p≠d/\p≠l/\p≠sc/\p≠nl:=by
 obtain⟨_,e⟩:=W.scn;have:=kI W.deal h;exact⟨this.1,this.2,(fun z=>by rw[z,e] at h;cases h),(fun z=>by rw[z,W.nms] at h;cases h)⟩
end
theorem wF{α:Type}{R:V->α->Prop}:∀{vs:List V},cV R vs []->vs=[]
 |[],_=>rfl
 |_::_,h=>h.elim
mutual
def lV:Rw->Nat
 |.thr _ _ _ _ _=>1
 |.lt _ _ _=>0
 |.tell _ _=>0
 |.when _ _ _ _ a b=>iA a+iA b
 |.times _ _ n b=>n.toNat*iA b
def iA:List Rw->Nat
 |[]=>0
 |r::rs=>lV r+iA rs
end
theorem nA:∀(rs qs:List Rw),iA (rs++qs)=iA rs+iA qs
 |[],qs=>by simp[iA]
 |r::rs,qs=>by simp only[List.cons_append,iA,nA rs qs];lia
def KdR(kd:Int):Rw->Prop
 |.thr _ _ _ _ d=>(d.kd:Int)=kd
 |.lt _ _ _=>True
 |.tell _ _=>True
 |.when _ _ _ _ _ _=>True
 |.times _ _ n _=>1<=n/\n<=3
def uZ(kd:Int)(rs:List Rw):Prop:=∀r∈cU rs,KdR kd r
theorem uZ.app{kd:Int}{rs qs:List Rw}(a:uZ kd rs)(b:uZ kd qs):uZ kd (rs++qs):=fun r h=>by
 rw[jQ] at h;rcases bu.mp h with e|e
 ·exact a r e
 ·exact b r e
theorem uZ.nil{kd:Int}:uZ kd []:=fun r h=>absurd h bc
theorem aT8:∀r:Rw,eU r=r::cU r.kids
 |.when _ _ _ _ a b=>by simp only[eU,Rw.kids,jQ]
 |.times _ _ _ b=>by simp only[eU,Rw.kids]
 |.thr _ _ _ _ _=>by simp only[eU,Rw.kids,cU]
 |.lt _ _ _=>by simp only[eU,Rw.kids,cU]
 |.tell _ _=>by simp only[eU,Rw.kids,cU]
theorem uZ.one{kd:Int}{r:Rw}(a:KdR kd r)(b:uZ kd r.kids):uZ kd [r]:=fun q h=>by
 have e:cU [r]=eU r++[]:=rfl;rw[e,dw,aT8] at h;rcases bw.mp h with e|e
 ·rw[e];exact a
 ·exact b q e
inductive spSumE(vs:List V)(H:Hp)(Q:VK)(z1:XK):Prop
 |mk:∀(d l:Addr) (m:Int),(vs=[.ref d,.int m])->(dR H d l)->(0<=m)->(m<=3)->(∀(p:Addr) (ws:List Int) (H':Hp),dR H' d l->fH d l H H'->H' p=some (.tup (ws.map V.int))->ws.length=m.toNat->(∀y∈ws,0<=y/\y<=3)->Q (.ref p) H')->spSumE vs H Q z1
inductive spStpE(vs:List V)(H:Hp)(Q:VK)(z1:XK):Prop
 |mk:∀(d l:Addr) (m:Int),(vs=[.ref d,.int m])->(dR H d l)->((m=1\/m=2))->(∀(p:Addr) (a b:Int) (H':Hp),dR H' d l->fH d l H H'->gE H' p a b->Cop a b->(m=2->2*a<=b)->Q (.ref p) H')->spStpE vs H Q z1
inductive spThrE(vs:List V)(H:Hp)(Q:VK)(z1:XK):Prop
 |mk:∀(d l sc nl:Addr) (kd wd rm bb:Int) (xs:List Str) (x:Str),(vs=[.ref d,.ref sc,.str x])->(We H d l sc nl kd wd xs rm bb)->(∀(p:Addr) (w:Str) (us:List V) (dd:TD) (H':Hp),dR H' d l->fH d l H H'->H' p=some (.tup (.str w :: .str x::us))->jZ H' w us dd->dd.amiss=false->(dd.kd:Int)=kd->Q (.ref p) H')->spThrE vs H Q z1
def cap:Nat->Int
 |0=>2
 |n+1=>2*cap n+2
inductive aW0(n:Nat)(vs:List V)(H:Hp)(Q:VK)(z1:XK):Prop
 |mk:∀(d l kn:Addr) (ks:List Str) (room:Int),(vs=[.ref d,.ref kn,.int room])->(dR H d l)->(H kn=some (.lst (ks.map V.str)))->(kn≠l)->(ks.length<=1000)->(1<=room)->(room<=cap n)->(∀(t:Tm) (H':Hp),dR H' d l->fH d l H H'->oV H' t->t.ok->(∀x∈t.names,x∈ks)->(t.size:Int)<=room->Q (.ref t.p) H')->aW0 n vs H Q z1
def rJ:Nat->Sp
 |0=>fun _ _ _ _=>False
 |n+1=>aW0 n
def bZ2(kd:Int)(ks:List Str)(x:Str)(r:Rw):Prop:=(∃p w us d,r= .thr p w x us d/\d.amiss=false/\(d.kd:Int)=kd)\/∃p t,r= .lt p x t/\(∀y∈t.names,y∈ks)/\t.size<=7
inductive spSetE(vs:List V)(H:Hp)(Q:VK)(z1:XK):Prop
 |mk:∀(d l sc nl kn:Addr) (kd wd rm bb:Int) (xs ks:List Str),(vs=[.ref d,.ref sc,.ref kn])->(We H d l sc nl kd wd xs rm bb)->(H kn=some (.lst (ks.map V.str)))->(kn≠l)->(ks.length<=500)->(∀(p kn':Addr) (r:Rw) (x:Str) (r2:Int) (H':Hp),We H' d l sc nl kd wd xs r2 bb->bb*(lV r:Int)+r2<=rm->eX [d,l,sc] H H'->H' p=some (.tup [.ref r.p,.int 0,.ref kn'])->dF H' r->bZ2 kd ks x r->x∈xs->H kn'=none->H' kn'=some (.lst ((ks++[x]).map V.str))->Q (.ref p) H')->spSetE vs H Q z1
def lN:Nat->Nat
 |0=>1
 |1=>4
 |_=>12
def tbE:Nat->Nat
 |0=>1
 |1=>1
 |_=>6
structure RwE(kd:Int)(ks:List Str)(xs:List Str)(r:Rw)(k2:List Str)(tells:Int)(m:Nat):Prop where
 sc:xY ks r k2
 tl:zQ r=tells
 tk:kA r
 t0:0<=tells
 t1:tells<=tbE m
 ct:r.cnt<=lN m
 dp:r.dp<=m
 tz:aP0 r
 kd:uZ kd [r]
 st:∀y∈pS [r],y∈xs
structure sW(kd:Int)(ks:List Str)(xs:List Str)(rs:List Rw)(k2:List Str)(tells:Int)(m n:Nat):Prop where
 sc:iI ks rs k2
 tl:fB rs=tells
 tk:cD rs
 t0:0<=tells
 t1:tells<=(n*tbE m:Nat)
 ct:bS rs<=n*lN m
 dp:pP rs<=m
 tz:jS rs
 kd:uZ kd rs
 st:∀y∈pS rs,y∈xs
inductive vP(m:Nat)(vs:List V)(H:Hp)(Q:VK)(z1:XK):Prop
 |mk:∀(d l sc nl kn:Addr) (kd wd rm bb:Int) (xs ks:List Str) (deep:Int),(vs=[.ref d,.ref sc,.ref kn,.int deep])->(We H d l sc nl kd wd xs rm bb)->(H kn=some (.lst (ks.map V.str)))->(kn≠l)->(ks.length+lN m<=200)->(m<=2)->(deep=2-(m:Int))->((m=2->bb=1))->(∀(p kn':Addr) (r:Rw) (k2:List Str) (tells r2:Int) (H':Hp),We H' d l sc nl kd wd xs r2 bb->bb*(lV r:Int)+r2<=rm->eX [d,l,sc] H H'->H' p=some (.tup [.ref r.p,.int tells,.ref kn'])->dF H' r->RwE kd ks xs r k2 tells m->(kn'=kn\/H kn'=none)->H' kn'=some (.lst (k2.map V.str))->Q (.ref p) H')->vP m vs H Q z1
def aT2:Nat->Sp
 |0=>fun _ _ _ _=>False
 |m+1=>vP m
inductive oK(m:Nat)(vs:List V)(H:Hp)(Q:VK)(z1:XK):Prop
 |mk:∀(d l sc nl kn:Addr) (kd wd rm bb:Int) (xs ks:List Str) (deep:Int) (n:Nat),(vs=[.ref d,.ref sc,.ref kn,.int deep,.int n])->(We H d l sc nl kd wd xs rm bb)->(H kn=some (.lst (ks.map V.str)))->(kn≠l)->(ks.length+n*lN m<=200)->(m<=2)->(n<=6)->(deep=2-(m:Int))->((m=2->bb=1))->(∀(p pr kn':Addr) (rs:List Rw) (k2:List Str) (tells r2:Int) (H':Hp),We H' d l sc nl kd wd xs r2 bb->bb*(iA rs:Int)+r2<=rm->eX [d,l,sc] H H'->H' p=some (.tup [.ref pr,.int tells,.ref kn'])->H' pr=some (.tup (bG rs))->aP H' rs->sW kd ks xs rs k2 tells m n->(kn'=kn\/H kn'=none)->H' kn'=some (.lst (k2.map V.str))->Q (.ref p) H')->oK m vs H Q z1
def bS5:Nat->Sp
 |0=>fun _ _ _ _=>False
 |m+1=>oK m
def aA7:Nat->Sp
 |0=>fun _ _ _ _=>False
 |m+1=>fun vs H Q _=>∃(d l sc nl kn:Addr) (kd wd rm bb:Int) (xs ks:List Str) (deep:Int),vs=[.ref d,.ref sc,.ref kn,.int deep]/\We H d l sc nl kd wd xs rm bb/\H kn=some (.lst (ks.map V.str))/\kn≠l/\ks.length+lN (m+1)<=200/\m<=1/\deep=1-(m:Int) /\
 ∀(p kn':Addr) (r:Rw) (k2:List Str) (tells r2:Int) (H':Hp),We H' d l sc nl kd wd xs r2 bb->bb*(lV r:Int)+r2<=rm->eX [d,l,sc] H H'->H' p=some (.tup [.ref r.p,.int tells,.ref kn'])->dF H' r->RwE kd ks xs r k2 tells (m+1)->H kn'=none->H' kn'=some (.lst (k2.map V.str))->Q (.ref p) H'
inductive spPrgE(vs:List V)(H:Hp)(Q:VK)(z1:XK):Prop
 |mk:∀(d l kl nl:Addr) (ks xs:List Str),(vs=[.ref d,.ref kl,.ref nl,.int 6])->(dR H d l)->(H kl=some (.lst (ks.map V.str)))->(kl≠l)->(1<=ks.length)->(ks.length<=3)->(H nl=some (.lst (xs.map V.str)))->(nl≠l)->(1<=xs.length)->(xs.length<=9)->(∀(p:Addr) (rs:List Rw) (H':Hp),dR H' d l->fH d l H H'->PgL H' p ks rs 1->uZ (ks.length:Int) rs->iA rs<=6->(∀y∈pH rs,y∈xs)->Q (.ref p) H')->spPrgE vs H Q z1
mutual
theorem cD1:∀(r:Rw),(∀q∈eU r,q.w≠"tell")->zQ r=0
 |.thr _ _ _ _ _,_=>rfl
 |.lt _ _ _,_=>rfl
 |.tell p t,h=>absurd rfl (h (Rw.tell p t) ao)
 |.when _ _ _ _ a b,h=>qL a fun q hq=>h q (ak _ (cg _ hq))
 |.times _ _ n b,h=>by
  have e:=qL b fun q hq=>h q (ak _ hq)
  show n*fB b=0;rw[e,Int.mul_zero]
theorem qL:∀(rs:List Rw),(∀q∈cU rs,q.w≠"tell")->fB rs=0
 |[],_=>rfl
 |r::rs,h=>by
  show zQ r+fB rs=0;rw[cD1 r fun q hq=>h q (cg _ hq),qL rs fun q hq=>h q (be _ hq)];rfl
end
theorem aN1{rs:List Rw}(h:1<=fB rs):∃s∈bU 0 rs,s.2.1.w="tell":=by
 by_cases c:∃q∈cU rs,q.w="tell"
 ·obtain⟨q,hq,e⟩:=c;rw[<-eZ rs 0] at hq;obtain⟨s,hs,rfl⟩:=fi.mp hq;exact⟨s,(fj.mp hs).1,e⟩
 ·have:=qL rs fun q hq z=>c ⟨q,hq,z⟩
  lia
def aL7(a b:Str)(tn:Int)(ws:List Str):Prop:=∀k w,ws[k]?=some w->w=zO a b tn k\/w=zO a b tn k++"q"
theorem aM2{a b:Str}{tn:Int}{i:Nat}{ws:List Str}(h:aL7 a b tn ws)(hl:ws.length=i){w:Str}(hw:w=zO a b tn i\/w=zO a b tn i++"q"):aL7 a b tn (ws++[w]):=fun k v hv=>by
 by_cases c:k<ws.length
 ·rw[nq c] at hv;exact h k v hv
 ·rw[mz (by lia)] at hv;have:k-ws.length=0:=by
   have:=(aq.mp hv).1;simp only[List.length_cons,List.length_nil] at this;lia
  rw[this] at hv;have hv:w=v:=by simpa using hv
  rw[<-hv,show k=i from by lia];exact hw
theorem bQ1{a b:Str}{tn:Int}:∀{ws:List Str},aL7 a b tn ws->ws.length<=9->ws.Nodup:=by
 intro ws h hl;have:∀n,n<=ws.length->bX4 a b tn n (ws.take n):=by
  intro n
  induction n with
  |zero=>intro _;rw[List.take_zero];exact⟨ot,fun _ z=>nomatch z⟩
  |succ n ih =>
   intro hn;rw[aY (aj (show n<ws.length by lia))];exact aM0 (ih (by lia)) (by lia) (h n _ (aj (show n<ws.length by lia)))
 have:=this ws.length (af _);rw[cq] at this;exact this.1
theorem cG0{x y:Str}(h:x.cps.toList=y.cps.toList):x=y:=by
 cases x;cases y
 exact eo Str.mk (ue.mp h)
theorem aZ2(x:Str):x++Str.empty=x:=cG0 (by rw[wM,Array.toList_append];exact dw _)
theorem lU(z:Str)(lo hi:Option Int):(Txt.slice z lo hi).length<=(Builtin.Str.strSliceIndices lo hi 1 z.length).length:=by
 unfold Txt.slice
 split
 ·rename_i q
  have q:(Builtin.Str.strSliceIndices lo hi 1 z.length).length=z.length:=by simpa using q
  lia
 ·exact om _ _
theorem bO3{z:Str}{j:Int}(h:z.length<=6)(j0:0<=j)(j1:j<(z.length:Int)+1):(Txt.slice z none (some j)).length+(Txt.slice z (some j) none).length<=6:=by
 obtain⟨i,rfl⟩:=dy j0;have key:∀n:Nat,n<7->∀i:Nat,i<n+1->(Builtin.Str.strSliceIndices none (some (i:Int)) 1 n).length+(Builtin.Str.strSliceIndices (some (i:Int)) none 1 n).length<=6:=by decide
 have:=key z.length (by lia) i (by lia);have a:=lU z none (some (i:Int));have b:=lU z (some (i:Int)) none;lia
inductive spNamesE(vs:List V)(H:Hp)(Q:VK)(z1:XK):Prop
 |mk:∀(d l:Addr) (m:Int),(vs=[.ref d,.int m])->(dR H d l)->(0<=m)->(m<=9)->(∀(p:Addr) (ws:List Str) (a b:Str) (tn:Int) (H':Hp),dR H' d l->fH d l H H'->H p=none->H' p=some (.lst (ws.map V.str))->ws.length=m.toNat->a.length+b.length<=6->aL7 a b tn ws->Q (.ref p) H')->spNamesE vs H Q z1
section
variable {ks k1 k2 k3 k4 xs:List Str}{m n i:Nat}{a b rs:List Rw}{r:Rw}{x:Str}{t u kd:Int}
theorem bC6{i j:Nat}{σ:St}{H:Hp}{Q:VK}{deep:Int}{d l:Addr}(h3:σ[i]?=some (some (.int deep)))(h0:σ[j]?=some (some (.ref d)))(D:dR H d l)(k:∀(e:Bool) (H2:Hp),dR H2 d l->fH d l H H2->(e=true->deep=0)->Q (.bl e) H2):bR0 (zR rEq (jE i) (tC (.int 0))) (zR rEq (tX spDraw [] E0 (iK (jE j) (iK (tC (.int 2)) tNil))) (tC (.int 1))) σ H Q:=by
 refine⟨_,h3,rfl,_,rfl,?_⟩
 by_cases c:deep=0
 ·subst c;exact bE (ai rfl) ⟨_,h0,d,l,2,rfl,D,by decide,by decide,fun x H2 _ _ D2 o2=>⟨rfl,k _ H2 D2 o2 fun _=>rfl⟩⟩
 ·have e:decide (V.int deep=V.int 0)=false:=db fun z=>c (by injection z)
  rw[e];exact aV (by simp) (k false H D (fH.refl _) fun z=>nomatch z)
theorem mW(m:Nat):1<=lN m:=by
 rcases m with _|_|m<;>simp only[lN]<;>lia
theorem bO2(m:Nat):1<=tbE m:=by
 rcases m with _|_|m<;>simp only[tbE]<;>lia
theorem bZ2.row(h:bZ2 kd ks x r)(hx:x∈xs):RwE kd ks xs r (ks++[x]) 0 m:=by
 have:=mW m;rcases h with⟨p,w,us,d,rfl,ha,hk⟩|⟨p,t,rfl,nm,sz⟩
 ·refine⟨⟨rfl,ha⟩,rfl,trivial,ko _,by lia,this,az _,trivial,.one hk .nil,fun y hy=>?_⟩;have:y=x:=by simpa [pS,cU,eU,Rw.sets] using hy
  rw[this];exact hx
 ·refine⟨⟨rfl,nm⟩,rfl,trivial,ko _,by lia,this,az _,sz,.one trivial .nil,fun y hy=>?_⟩;have:y=x:=by simpa [pS,cU,eU,Rw.sets] using hy
  rw[this];exact hx
theorem aX2{p:Addr}{t:Tm}(nm:∀y∈t.names,y∈ks)(sz:t.size<=7):RwE kd ks xs (.tell p t) ks 1 m:=by
 have:=mW m;have:=bO2 m;refine⟨⟨rfl,nm⟩,rfl,trivial,by decide,by lia,by assumption,az _,sz,.one trivial .nil,fun y hy=>?_⟩;exact absurd hy (by simp[pS,cU,eU,Rw.sets])
theorem sW.nil:sW kd ks xs [] ks 0 m 0:=⟨rfl,rfl,trivial,ko _,by lia,az _,az _,trivial,.nil,(fun y hy=>by exact absurd hy (by simp[pS,cU]))⟩
theorem sW.mono(h:sW kd ks xs rs k2 t m i)(hi:i<=n):sW kd ks xs rs k2 t m n:=
 ⟨h.sc,h.tl,h.tk,h.t0,xy h.t1 (Int.ofNat_le.mpr (jd _ hi)),cj h.ct (jd _ hi),h.dp,h.tz,h.kd,h.st⟩
theorem sW.snoc(h:sW kd ks xs rs k1 t m i)(g:RwE kd k1 xs r k2 u m):sW kd ks xs (rs++[r]) k2 (t+u) m (i+1):=by
 have e1:(i+1)*tbE m=i*tbE m+tbE m:=oo _ _;have e2:(i+1)*lN m=i*lN m+lN m:=oo _ _;have h1:=h.t0;have h2:=h.t1;have h3:=h.ct;have g1:=g.t0;have g2:=g.t1;have g3:=g.ct;refine⟨iI.app (ks:=ks) h.sc g.sc,?_,cD.app h.tk ⟨g.tk,trivial⟩,by lia,by lia,?_,vN h.dp g.dp,jS.app h.tz ⟨g.tz,trivial⟩,h.kd.app g.kd,fun y hy=>?_⟩
 ·rw[rN,h.tl];simp only[fB];rw[g.tl];lia
 ·rw[mQ];simp only[bS];lia
 ·rw[wC] at hy;rcases bu.mp hy with z|z
  ·exact h.st y z
  ·exact g.st y z
theorem bF2(hm:m<=1)(h1:n<=2)(h2:m=0->n<=1):n*lN m<=lN (m+1)/\n*tbE m<=2/\n*lN m+n*tbE m+2<=lN (m+1):=by
 have:m=0\/m=1:=by lia
 rcases this with rfl|rfl
 ·have:=h2 rfl;simp only[lN,tbE];lia
 ·simp only[lN,tbE];lia
theorem sW.when{p pa pb:Addr}{tt:Tm}{nb:Nat}(A:sW kd ks xs a k3 t m n)(B:sW kd ks xs b k4 t 0 nb)(hb:(nb:Int)<=1+t)(hm:m<=1)(h1:n<=2)(h2:m=0->n<=1)(nm:∀y∈tt.names,y∈ks)(sz:tt.size<=7):RwE kd ks xs (.when p pa pb tt a b) (k3.filter fun x=>decide (x∈k4)) t (m+1):=by
 obtain⟨c1,c2,c3⟩:=bF2 hm h1 h2;have a1:=A.t1;have a2:=A.ct;have a3:=A.dp;have b2:=B.ct;have b3:=B.dp;have e:nb*lN 0=nb:=Nat.mul_one _;refine⟨⟨nm,k3,k4,A.sc,B.sc,rfl⟩,A.tl,⟨by rw[A.tl,B.tl],A.tk,B.tk⟩,A.t0,?_,?_,?_,⟨sz,A.tz,B.tz⟩,.one trivial (A.kd.app B.kd),fun y hy=>?_⟩
 ·have:m=0\/m=1:=by lia
  rcases this with rfl|rfl
  ·have:=h2 rfl;simp only[tbE] at a1 ⊢;lia
  ·simp only[tbE] at a1 ⊢;lia
 ·simp only[Rw.cnt];lia
 ·simp only[Rw.dp];lia
 ·rw[yH] at hy;rcases bu.mp hy with z|z
  ·exact A.st y z
  ·exact B.st y z
theorem sW.times{p pb:Addr}{j:Int}(B:sW kd ks xs b k2 t 1 n)(h1:n<=2)(j1:1<=j)(j3:j<=3):RwE kd ks xs (.times p pb j b) k2 (j*t) 2:=by
 have b0:=B.t0;have b1:=B.t1;have b2:=B.ct;have b3:=B.dp;simp only[lN,tbE] at b1 b2;have hj:j=1\/j=2\/j=3:=by lia
 refine⟨B.sc,by show j*fB b=_;rw[B.tl],⟨⟨by lia,by lia,by rw[B.tl];exact b0,by rw[B.tl];lia⟩,B.tk⟩,?_,?_,?_,?_,B.tz,.one ⟨j1,j3⟩ B.kd,fun y hy=>?_⟩
 ·rcases hj with rfl|rfl|rfl<;>lia
 ·simp only[tbE];rcases hj with rfl|rfl|rfl<;>lia
 ·simp only[Rw.cnt,lN];lia
 ·simp only[Rw.dp];lia
 ·rw[uL] at hy;exact B.st y hy
end
end Mine
namespace L2
open PySem PySem.Spec PyProof.Rows
section
variable {X:Cx}
end
end L2
namespace Mine
open PySem L2
theorem cR5{a b:V}{r:List V}:kR (a::b::r) (some 2) none=r:=by
 show((a::b::r).drop (min 2 (r.length+1+1))).take (r.length+1+1-min 2 (r.length+1+1))=r;rw[ux (by lia)];simp
theorem cS0{a b:V}{r:List V}:¬(HT.sIx (a::b::r).length 0 (some 2)=0/\HT.sIx (a::b::r).length (a::b::r).length none=(a::b::r).length):=by
 show ¬(min 2 (r.length+1+1)=0/\_);rw[ux (by lia)];exact fun z=>absurd z.1 (by decide)
def mG(d:Addr)(H G:Hp):Prop:=∀c u,H c=some u->c≠d->G c=some u
theorem mG.refl{d:Addr}{H:Hp}:mG d H H:=fun _ _ e _=>e
theorem mG.trans{d:Addr}{H G F:Hp}(a:mG d H G)(b:mG d G F):mG d H F:=fun c u e n=>b c u (a c u e n) n
theorem mG.of{d:Addr}{H G:Hp}(s:aO H G):mG d H G:=fun c u e _=>s c u e
theorem mG.upd{d:Addr}{H:Hp}{o:HO}:mG d H (aL H d o):=fun c u e n=>(aG n).trans e
theorem mG.same{d:Addr}{H H1 G:Hp}(a:mG d H1 G)(s:aO H H1)(h:H d=none):aO H G:=fun c u e=>a c u (s c u e) (fun z=>by rw[z,h] at e;cases e)
theorem bH2{rs:List Rw}{i:Nat}{v:V}(h:(bG rs)[i]?=some v):∃q,rs[i]?=some q/\v= .ref q.p:=by
 unfold bG at h;rw[di] at h
 cases e:rs[i]? with
 |none=>rw[e] at h;cases h
 |some q=>rw[e] at h;exact⟨q,rfl,(dt h).symm⟩
theorem aI7{α:Type}{R:V->α->Prop}{v:V}{a:α}(r:R v a):∀{vs:List V}{as:List α},cV R vs as->cV R (vs++[v]) (as++[a])
 |[],[],_=>⟨r,trivial⟩
 |[],_::_,h=>h.elim
 |_::_,[],h=>h.elim
 |_::_,_::_,⟨h,k⟩=>⟨h,aI7 r k⟩
end Mine
namespace L2
open PySem
theorem cD5{X:Cx}(K:W.Frag)(hK:autoParam (X.K=K) Rq0._auto_1):fG X (.type "tuple") (fun xs H Q=>∃p ys,xs=[.ref p]/\((bA K H p ys/\∀l,H l=none->Q (.ref l) (aL H l (.tup ys)))\/(aQ K H p ys/\Q (.ref p) H))):=by subst hK;exact bV
end L2
namespace Mine
open PySem L2
def bd(s:Stp)(n:Nat):Option Nat:=
 if eN s=true then some (n+1) else if s.1="row" then (if 1<=n then some n else none)
 else match s.2.1 with
  |.when _ _ _ _ _ _=>if 3<=n then some (n-2) else none
  |.times _ _ _ _=>if 2<=n then some (n-1) else none
  |.thr _ _ _ _ _=>none
  |.lt _ _ _=>none
  |.tell _ _=>none
theorem vX{w:Str}{r:Rw}{k n:Nat}(o:vD w r.w=true):bd (w,r,k) n=some (n+1):=by
 unfold bd;rw[br (show eN (w,r,k)=true from o)]
theorem aB5{r:Rw}{k n:Nat}(o:vD "row" r.w=false)(h:1<=n):bd (("row": Str),r,k) n=some n:=by
 unfold bd;rw[ay (show ¬eN (("row": Str),r,k)=true by rw[show eN (("row": Str),r,k)=false from o];exact bt),br rfl,br h]
theorem pB{s:Stp}{n m:Nat}(h:bd s n=some m):dH bd [s] n=some m:=by show(bd s n).bind some=_;rw[h];rfl
theorem bO4{p pa pb:Addr}{t:Tm}{a b:List Rw}{k n:Nat}(h:3<=n):bd (("end": Str),Rw.when p pa pb t a b,k) n=some (n-2):=by
 unfold bd;rw[ay (show ¬eN (("end": Str),Rw.when p pa pb t a b,k)=true by rw[show eN (("end": Str),Rw.when p pa pb t a b,k)=false from bM5 _];exact bt),ay gX];exact br h
theorem bE4{p pb:Addr}{m:Int}{b:List Rw}{k n:Nat}(h:2<=n):bd (("end": Str),Rw.times p pb m b,k) n=some (n-1):=by
 unfold bd;rw[ay (show ¬eN (("end": Str),Rw.times p pb m b,k)=true by rw[show eN (("end": Str),Rw.times p pb m b,k)=false from bM5 _];exact bt),ay gX];exact br h
mutual
theorem bP9:∀(r:Rw) (k n:Nat),WdR r->1<=n->dH bd (bY k r) n=some n
 |.thr p w x us am,k,n,hw,hn=>pB (aB5 (bZ0 hw) hn)
 |.lt p x t,k,n,_,hn=>pB (aB5 cA5 hn)
 |.tell p t,k,n,_,hn=>pB (aB5 cC1 hn)
 |.when p pa pb t a b,k,n,hw,hn=>by
  simp only[bY];show(bd _ n).bind (dH bd _)=_;rw[vX cE6];show dH bd _ (n+1)=_;rw[cI,cI,cI,lD a (k+1) (n+1) hw.1 (by lia)];rw[qc,pB (vX (bY3 _)),qc,lD b _ (n+1+1) hw.2 (by lia),qc];exact pB (bO4 (by lia))
 |.times p pb m b,k,n,hw,hn=>by
  simp only[bY];show(bd _ n).bind (dH bd _)=_;rw[vX bV4];show dH bd _ (n+1)=_;rw[cI,lD b (k+1) (n+1) hw (by lia)];rw[qc];exact pB (bE4 (by lia))
theorem lD:∀(rs:List Rw) (k n:Nat),WdL rs->1<=n->dH bd (bU k rs) n=some n
 |[],k,n,_,_=>rfl
 |r::rs,k,n,hw,hn=>by
  simp only[bU];rw[cI,bP9 r k n hw.1 hn];exact lD rs _ n hw.2 hn
end
def mH(G:Hp)(n:Nat):List Addr->BSt->Prop
 |[],[]=>True
 |a::as,B::st=>(G a=some (.lst (bG B))/\aP G B/\B.length<=n)/\mH G n as st
 |[],_::_=>False
 |_::_,[]=>False
theorem mH.len{G:Hp}{n:Nat}:∀{as:List Addr}{c:BSt},mH G n as c->as.length=c.length
 |[],[],_=>rfl
 |_::_,_::_,⟨_,h⟩=>by rw[bx,bx,mH.len h]
 |[],_::_,h=>h.elim
 |_::_,[],h=>h.elim
theorem mH.at{G G':Hp}{n m:Nat}(t:TS G G')(hm:n<=m):∀{as:List Addr}{c:BSt},mH G n as c->(∀a∈as,∀o,G a=some o->G' a=some o)->mH G' m as c
 |[],[],_,_=>trivial
 |a::_,_::_,⟨⟨h1,h2,h3⟩,h⟩,k=>⟨⟨k a ao _ h1,aP.ts t _ h2,by lia⟩,mH.at t hm h fun b hb=>k b (ak _ hb)⟩
 |[],_::_,h,_=>h.elim
 |_::_,[],h,_=>h.elim
theorem mH.split{G:Hp}{n:Nat}{D:BSt}:∀{C:BSt}{as:List Addr},mH G n as (C++D)->∃xs ys,as=xs++ys/\mH G n xs C/\mH G n ys D
 |[],as,h=>⟨[],as,rfl,trivial,h⟩
 |_::C,a::as,⟨h,k⟩=>by
  obtain⟨xs,ys,e,p,q⟩:=mH.split (C:=C) k;exact⟨a::xs,ys,by rw[e];rfl,⟨h,p⟩,q⟩
 |_::_,[],h=>h.elim
theorem mH.app{G:Hp}{n:Nat}{D:BSt}{ys:List Addr}(q:mH G n ys D):∀{C:BSt}{xs:List Addr},mH G n xs C->mH G n (xs++ys) (C++D)
 |[],[],_=>q
 |_::_,_::_,⟨h,k⟩=>⟨h,mH.app q k⟩
 |[],_::_,h=>h.elim
 |_::_,[],h=>h.elim
theorem mH.rev{G:Hp}{n:Nat}:∀{C:BSt}{xs:List Addr},mH G n xs C->mH G n xs.reverse C.reverse
 |[],[],_=>trivial
 |B::C,a::xs,⟨h,k⟩=>by
  rw[dr,dr];exact mH.app (D:=[B]) (ys:=[a]) ⟨h,trivial⟩ (mH.rev k)
 |[],_::_,h=>h.elim
 |_::_,[],h=>h.elim
theorem mH.get{G:Hp}{n:Nat}{a:Addr}:∀{C:BSt}{xs:List Addr}{i:Nat},mH G n xs C->xs[i]?=some a->∃B,C[i]?=some B/\G a=some (.lst (bG B))/\aP G B/\B.length<=n
 |B::C,b::xs,0,⟨h,k⟩,e=>by cases e;exact⟨B,rfl,h⟩
 |B::C,b::xs,i+1,⟨h,k⟩,e=>mH.get (C:=C) (xs:=xs) (i:=i) k e
 |[],[],i,_,e=>by cases e
 |[],_::_,_,h,_=>h.elim
 |_::_,[],_,h,_=>h.elim
def aA2(G:Hp)(v:V)(B:List Rw):Prop:=∃t,v= .ref t/\G t=some (.tup (bG B))/\aP G B
theorem aA2.ts{G G':Hp}(t:TS G G'){v:V}{B:List Rw}(h:aA2 G v B):aA2 G' v B:=by obtain⟨a,e,k,r⟩:=h;exact⟨a,e,t _ _ k,aP.ts t _ r⟩
theorem zF{α:Type}{R:V->α->Prop}{vs:List V}{a:α}(h:cV R vs [a]):∃v,vs=[v]/\R v a:=by
 cases vs with
 |nil=>exact h.elim
 |cons v vs =>
  cases vs with
  |nil=>exact⟨v,rfl,h.1⟩
  |cons u vs=>exact h.2.elim
theorem bJ4{α:Type}{R:V->α->Prop}{vs:List V}{a b:α}(h:cV R vs [a,b]):∃v u,vs=[v,u]/\R v a/\R u b:=by
 cases vs with
 |nil=>exact h.elim
 |cons v vs =>
  obtain⟨u,rfl,k⟩:=zF h.2;exact⟨v,u,rfl,h.1,k⟩
theorem bE0{G:Hp}{c:BSt}{s:Stp}{m:Nat}(hr:dF G s.2.1)(ho:¬eN s=true)(hn:¬s.1="row")(hb:bd s c.length=some m) :
  ∃(Bs:List (List Rw)) (B:List Rw) (st:BSt) (x y:V) (us:List V),c=Bs.reverse++(B::st)/\Bs.length=us.length/\(us.length=1\/us.length=2)/\m=(B::st).length/\G s.2.1.p=some (.tup (x::y::us)) /\
   ∀(q:Addr) (ys:List V) (G':Hp),G' q=some (.tup (x::y::ys))->cV (aA2 G') ys Bs->TS G G'->∃r',r'.p=q/\dF G' r'/\(∀Rq:Rw->Prop,(∀p pa pb t a b,Rq (.when p pa pb t a b))->(∀p pb n b,Rq (.times p pb n b))->Rq r')/\∀(Chg:Nat->Rw->List Rw->Prop) o,Chg s.2.2 r' o->gJ Chg s c ((B++o)::st):=by
 obtain⟨w,r,k⟩:=s;unfold bd at hb;rw[ay ho,ay hn] at hb
 cases r with
 |thr p w x us am=>cases hb
 |lt p x t=>cases hb
 |tell p t=>cases hb
 |when p pa pb t a b =>
  have hb:(if 3<=c.length then some (c.length-2) else none)=some m:=hb
  by_cases c3:3<=c.length
  ·rw[br c3] at hb;obtain⟨B2,B1,B,st,rfl⟩:∃B2 B1 B st,c=B2::B1::B::st:=by
    match c,c3 with
    |B2::B1::B::st,_=>exact⟨_,_,_,_,rfl⟩
   cases hb
   refine⟨[B1,B2],B,st,_,_,[.ref pa,.ref pb],rfl,rfl,.inr rfl,rfl,hr.1,fun q ys G' hq tw tt=>?_⟩;obtain⟨v1,v2,rfl,⟨t1,e1,h1,r1⟩,t2,e2,h2,r2⟩:=bJ4 tw;subst e1 e2;refine⟨.when q t1 t2 t B1 B2,rfl,⟨hq,hr.2.1.ts tt,hr.2.2.1,h1,h2,r1,r2⟩,fun Rq h1 _=>h1 _ _ _ _ _ _,fun Chg o ho'=>?_⟩;unfold gJ;rw[ay ho,ay hn];exact⟨B2,B1,B,st,q,t1,t2,o,rfl,ho',rfl⟩
  ·rw[ay c3] at hb;cases hb
 |times p pb j b =>
  have hb:(if 2<=c.length then some (c.length-1) else none)=some m:=hb
  by_cases c3:2<=c.length
  ·rw[br c3] at hb;obtain⟨B1,B,st,rfl⟩:∃B1 B st,c=B1::B::st:=by
    match c,c3 with
    |B1::B::st,_=>exact⟨_,_,_,rfl⟩
   cases hb
   refine⟨[B1],B,st,_,_,[.ref pb],rfl,rfl,.inl rfl,rfl,hr.1,fun q ys G' hq tw tt=>?_⟩;obtain⟨v1,rfl,t1,e1,h1,r1⟩:=zF tw;subst e1;refine⟨.times q t1 j B1,rfl,⟨hq,h1,r1⟩,fun Rq _ h2=>h2 _ _ _ _,fun Chg o ho'=>?_⟩;unfold gJ;rw[ay ho,ay hn];exact⟨B1,B,st,q,t1,o,rfl,ho',rfl⟩
  ·rw[ay c3] at hb;cases hb
theorem bK7{ys zs:List V}{m:Nat}(hm:zs.length=m)(h:1<=m):kR (ys++zs) (some (-(m:Int))) none=zs:=by
 have e:HT.sIx (ys++zs).length 0 (some (-(m:Int)))=ys.length:=by
  show(if -(m:Int)<0 then (-(m:Int)+((ys++zs).length:Int)).toNat else _)=_;rw[br (by lia),ap];lia
 unfold kR;rw[e,List.drop_left];show zs.take ((ys++zs).length-ys.length)=zs;rw[ap,Nat.add_sub_cancel_left,cq]
theorem aO3{ys zs:List V}{m:Nat}(hm:zs.length=m)(h:1<=m):kR (ys++zs) none (some (-(m:Int)))=ys:=by
 have e:HT.sIx (ys++zs).length (ys++zs).length (some (-(m:Int)))=ys.length:=by
  show(if -(m:Int)<0 then (-(m:Int)+((ys++zs).length:Int)).toNat else _)=_;rw[br (by lia),ap];lia
 unfold kR;rw[e];show((ys++zs).drop 0).take (ys.length-0)=ys;rw[List.drop_zero,Nat.sub_zero,List.take_left]
theorem aJ9{S:List Addr}{H G:Hp}{b:Addr}(k:eX S H G)(h:G b=none):b∈S\/H b=none:=by
 by_cases c:b∈S
 ·exact .inl c
 ·refine .inr ?_
  cases e:H b with
  |none=>rfl
  |some u=>rw[k b u e c] at h;cases h
theorem mH.mem{G:Hp}{n:Nat}:∀{as:List Addr}{c:BSt},mH G n as c->∀a∈as,∃o,G a=some o
 |[],[],_,_,h=>absurd h bc
 |b::_,_::_,⟨h1,h⟩,a,m=>by
  rcases bw.mp m with rfl|m
  ·exact⟨_,h1.1⟩
  ·exact mH.mem h a m
 |[],_::_,h,_,_=>h.elim
 |_::_,[],h,_,_=>h.elim
theorem cR1{a b c:V}{r:List V}:kR (a::b::c::r) none (some 2)=[a,b]:=by
 show((a::b::c::r).drop 0).take (min 2 (r.length+1+1+1)-0)=_;rw[ux (by lia)];rfl
theorem cK1{a b c:V}{r:List V}:¬(HT.sIx (a::b::c::r).length 0 none=0/\HT.sIx (a::b::c::r).length (a::b::c::r).length (some 2)=(a::b::c::r).length):=by
 show ¬(0=0/\min 2 (r.length+1+1+1)=r.length+1+1+1);lia
theorem qA{ys:List V}{x:V}:mE (ys++[x]) (-1)=some x:=by
 unfold mE ixN;rw[ay (by decide),br (by rw[ap,ej];lia)];show(ys++[x])[(-1+((ys++[x]).length:Int)).toNat]?=some x;rw[show(-1+((ys++[x]).length:Int)).toNat=ys.length from by rw[ap,ej];lia,mz (af _),Nat.sub_self];rfl
theorem vQ{S:List Addr}{H G:Hp}{b:Addr}{o:HO}(k:eX S H G)(h:b∈S\/H b=none):eX S H (aL G b o):=fun c u e n=>by
 have:c≠b:=fun z=>by
  rcases h with h|h
  ·exact n (by rw[z];exact h)
  ·rw[z,h] at e;cases e
 exact(aG this).trans (k c u e n)
def Rw.tm:Rw->List Tm
 |.thr _ _ _ _ _=>[]
 |.lt _ _ t=>[t]
 |.tell _ t=>[t]
 |.when _ _ _ t _ _=>[t]
 |.times _ _ _ _=>[]
def Rw.told:Rw->List Str
 |.thr _ _ _ _ _=>[]
 |.lt _ _ _=>[]
 |.tell _ t=>t.names
 |.when _ _ _ t _ _=>t.names
 |.times _ _ _ _=>[]
def Rw.lets(x:Str):Rw->List Str
 |.thr _ _ _ _ _=>[]
 |.lt _ y t=>if y=x then t.names else []
 |.tell _ _=>[]
 |.when _ _ _ _ _ _=>[]
 |.times _ _ _ _=>[]
def OkR(xs:List Str)(r:Rw):Prop:=∀t∈r.tm,t.size<=7/\∀y∈t.names,y∈xs
def OkL(xs:List Str)(rs:List Rw):Prop:=∀r∈cU rs,OkR xs r
mutual
def dep:Rw->Nat
 |.thr _ _ _ _ _=>0
 |.lt _ _ _=>0
 |.tell _ _=>0
 |.when _ _ _ _ a b=>1+max (qX a) (qX b)
 |.times _ _ _ b=>1+qX b
def qX:List Rw->Nat
 |[]=>0
 |r::rs=>max (dep r) (qX rs)
end
theorem yX{H:Hp}:∀{rs:List Rw},(∀q∈rs,dF H q)->aP H rs
 |[],_=>trivial
 |r::rs,h=>⟨h r ao,yX fun q hq=>h q (ak _ hq)⟩
structure jV(H:Hp)(p:Addr)(xs:List Str)(rs:List Rw):Prop where
 ex:∃v pr,H p=some (.tup [v,.ref pr])/\H pr=some (.tup (bG rs))
 kn:∃(pk:Addr) (ks:List Str) (w:V),H p=some (.tup [.ref pk,w])/\H pk=some (.tup (ks.map V.str))/\1<=ks.length/\ks.length<=3/\uZ (ks.length:Int) rs
 ld:iA rs<=6
 rows:aP H rs
 cnt:bS rs<=1300
 dp:qX rs<=3
 ok:OkL xs rs
 xl:xs.length<=12
theorem jV.ts{H H':Hp}{p:Addr}{xs:List Str}{rs:List Rw}(t:TS H H')(P:jV H p xs rs):jV H' p xs rs:=
 ⟨let⟨v,pr,a,c⟩:=P.ex;⟨v,pr,t _ _ a,t _ _ c⟩,let⟨pk,ks,w,a,b,c⟩:=P.kn;⟨pk,ks,w,t _ _ a,t _ _ b,c⟩,P.ld,aP.ts t rs P.rows,P.cnt,P.dp,P.ok,P.xl⟩
inductive spRowsP(vs:List V)(H:Hp)(Q:VK)(z1:XK):Prop
 |mk:∀(p:Addr) (xs:List Str) (rs:List Rw),(vs=[.ref p])->(jV H p xs rs)->(∀(r:Addr) (H':Hp),aO H H'->H r=none->H' r=some (.lst (bG (cU rs)))->Q (.ref r) H')->spRowsP vs H Q z1
theorem aP.flat{H:Hp}:∀(rs:List Rw),aP H rs->aP H (cU rs)
 |rs,h=>yX (mL h)
inductive iF(fl:List Rw):Str->Prop where
 |base {r:Rw}{x:Str}(h:r∈fl) (m:x∈r.told):iF fl x
 |step {p:Addr}{y x:Str}{t:Tm}(h:Rw.lt p y t∈fl) (n:iF fl y) (m:x∈t.names):iF fl x
def BhV(H:Hp)(kvs:List (Key×V))(fl:List Rw)(x:Str):Prop:=(cJ kvs (Sum.inr x:Key)=none/\fl.flatMap (Rw.lets x)=[])\/∃l,cJ kvs (Sum.inr x:Key)=some (.ref l)/\H l=some (.lst ((fl.flatMap (Rw.lets x)).map V.str))
def Bh(H:Hp)(d:Addr)(fl:List Rw):Prop:=∃kvs,H d=some (.dK kvs)/\∀x,BhV H kvs fl x
theorem Bh.same{H H':Hp}(s:aO H H'){d:Addr}{fl:List Rw}(h:Bh H d fl):Bh H' d fl:=by
 obtain⟨kvs,e,a⟩:=h;refine⟨kvs,s _ _ e,fun x=>?_⟩;rcases a x with h|⟨l,h1,h2⟩
 ·exact .inl h
 ·exact .inr ⟨l,h1,s _ _ h2⟩
inductive spNB(vs:List V)(H:Hp)(Q:VK)(z1:XK):Prop
 |mk:∀(lr:Addr) (xs:List Str) (fl:List Rw),(vs=[.ref lr])->(H lr=some (.lst (bG fl)))->(aP H fl)->((∀r∈fl,OkR xs r))->(fl.length<=1300)->(∀(d:Addr) (H':Hp),aO H H'->H d=none->Bh H' d fl->Q (.ref d) H')->spNB vs H Q z1
structure NdS(rs:List Rw)(ss:List Str):Prop where
 nd:ss.Nodup
 st:PyProof.Rows.sortedS ss=true
 mem:∀x,x∈ss↔iF (cU rs) x
theorem NdS.eq{rs:List Rw}{ss ts:List Str}(a:NdS rs ss)(b:NdS rs ts):ss=ts:=zN a.nd b.nd (fun x=>(a.mem x).trans (b.mem x).symm) a.st b.st
inductive spNeeded(vs:List V)(H:Hp)(Q:VK)(z1:XK):Prop
 |mk:∀(p:Addr) (xs:List Str) (rs:List Rw),(vs=[.ref p])->(jV H p xs rs)->(∀(r:Addr) (ss:List Str) (H':Hp),aO H H'->H' r=some (.tup (ss.map V.str))->NdS rs ss->Q (.ref r) H')->spNeeded vs H Q z1
def fP(ss:List Str)(r:Rw):Bool:=match r.sets with
 |some x=> !decide (x∈ss)
 |none=>false
inductive spIsI(vs:List V)(H:Hp)(Q:VK)(z1:XK):Prop
 |mk:∀(r:Rw) (np:Addr) (ss:List Str),(vs=[.ref r.p,.ref np])->(dF H r)->(H np=some (.tup (ss.map V.str)))->(Q (.bl (fP ss r)) H)->spIsI vs H Q z1
def idA(fl:List Rw)(ss:List Str)(i:Nat):Bool:=match fl[i]? with
 |some r=>fP ss r
 |none=>false
def uY(fl:List Rw)(ss:List Str)(n:Nat):List Int:=((List.range n).filter (idA fl ss)).map fun i:Nat=>(i:Int)
inductive spIdle(vs:List V)(H:Hp)(Q:VK)(z1:XK):Prop
 |mk:∀(p:Addr) (xs:List Str) (rs:List Rw),(vs=[.ref p])->(jV H p xs rs)->(∀(r:Addr) (ss:List Str) (H':Hp),aO H H'->H' r=some (.tup ((uY (cU rs) ss (cU rs).length).map V.int))->NdS rs ss->Q (.ref r) H')->spIdle vs H Q z1
theorem rT{n:Nat}(h:n<16777216):n<sizeLine:=by rw[pf];exact h
theorem OkR.asked{xs:List Str}{r:Rw}(h:OkR xs r):r.asked.length<=7/\∀y∈r.asked,y∈xs:=by
 cases r with
 |lt p x t=>have:=h t (au.mpr rfl);have:=t.names_len;exact⟨by show t.names.length<=7;lia,(h t (au.mpr rfl)).2⟩
 |tell p t=>have:=h t (au.mpr rfl);have:=t.names_len;exact⟨by show t.names.length<=7;lia,(h t (au.mpr rfl)).2⟩
 |when p pa pb t a b=>have:=h t (au.mpr rfl);have:=t.names_len;exact⟨by show t.names.length<=7;lia,(h t (au.mpr rfl)).2⟩
 |times p pb n b=>exact⟨az _,fun y hy=>absurd hy bc⟩
 |thr p w x us vs=>exact⟨az _,fun y hy=>absurd hy bc⟩
theorem bE1(r:Rw):∀x∈r.told,x∈r.asked:=by
 cases r<;>intro x h<;>first|exact h|exact absurd h bc
theorem bG2(r:Rw):r.told.length<=r.asked.length:=by
 cases r<;>first|exact af _|exact az _
theorem aV3(x:Str)(r:Rw):(r.lets x).length<=r.asked.length:=by
 cases r with
 |lt p z t=>simp only[Rw.lets,Rw.asked];split;exact af _;exact az _
 |_=>exact az _
theorem uS{α:Type}{f:Rw->List α}{c:Nat}:∀{fl:List Rw},(∀r∈fl,(f r).length<=c)->(fl.flatMap f).length<=c*fl.length
 |[],_=>az _
 |r::rs,h=>by
  have:=uS (f:=f) (c:=c) (fl:=rs) fun q hq=>h q (ak _ hq)
  have:=h r ao;rw[kh,ap,bx,Nat.mul_succ];lia
theorem aF1{α:Type}{f:Rw->List α}{fl:List Rw}{i:Nat}{r:Rw}(h:fl[i]?=some r):(fl.take (i+1)).flatMap f=(fl.take i).flatMap f++f r:=by
 rw[aY h,ig];simp
theorem lH{xs:List Str}{fl:List Rw}(ok:∀r∈fl,OkR xs r):(fl.flatMap Rw.told).length<=7*fl.length:=uS fun r h=>cj (bG2 r) (ok r h).asked.1
theorem nY{xs:List Str}{fl:List Rw}(ok:∀r∈fl,OkR xs r)(x:Str):(fl.flatMap (Rw.lets x)).length<=7*fl.length:=uS fun r h=>cj (aV3 x r) (ok r h).asked.1
theorem zG{xs:List Str}{fl:List Rw}(ok:∀r∈fl,OkR xs r){x:Str}(h:iF fl x):x∈xs:=by
 cases h with
 |base h m=>exact(ok _ h).asked.2 _ (bE1 _ _ m)
 |step h n m=>exact(ok _ h).asked.2 _ m
theorem aL3{fl:List Rw}{y x:Str}(n:iF fl y)(h:x∈fl.flatMap (Rw.lets y)):iF fl x:=by
 obtain⟨r,hr,hx⟩:=io.mp h
 cases r with
 |lt p z t =>
  simp only[Rw.lets] at hx
  split at hx
  ·rename_i e;subst e;exact .step hr n hx
  ·exact absurd hx bc
 |_=>exact absurd hx bc
theorem uA{fl:List Rw}{x:Str}(h:x∈fl.flatMap Rw.told):iF fl x:=by obtain⟨_,hr,hx⟩:=io.mp h;exact  .base hr hx
structure WL(fl:List Rw)(fs ws:List Str):Prop where
 need:∀x,x∈fs\/x∈ws->iF fl x
 base:∀x∈fl.flatMap Rw.told,x∈fs\/x∈ws
 more:∀y∈fs,∀x∈fl.flatMap (Rw.lets y),x∈fs\/x∈ws
 nd:fs.Nodup
theorem WL.init(fl:List Rw):WL fl [] (fl.flatMap Rw.told):=⟨fun x h=>by
 rcases h with h|h
 ·exact absurd h bc
 ·exact uA h,fun x h=> .inr h,fun y h=>absurd h bc,ot⟩
theorem WL.skip{fl:List Rw}{fs ws:List Str}{x:Str}(h:WL fl fs (ws++[x]))(m:x∈fs):WL fl fs ws:=by
 have key:∀y,(y∈fs\/y∈ws++[x])->y∈fs\/y∈ws:=fun y hy=>by
  rcases hy with e|e
  ·exact .inl e
  ·rcases bu.mp e with e|e
   ·exact .inr e
   ·rw[au.mp e];exact .inl m
 exact⟨fun y hy=>h.need y (by rcases hy with e|e;exact .inl e;exact .inr (cg _ e)),fun y hy=>key y (h.base y hy),fun z hz y hy=>key y (h.more z hz y hy),h.nd⟩
theorem WL.take{fl:List Rw}{fs ws:List Str}{x:Str}(h:WL fl fs (ws++[x]))(m:x∉fs):WL fl (fs++[x]) (ws++fl.flatMap (Rw.lets x)):=by
 have nx:iF fl x:=h.need x (.inr (by simp));have key:∀y,(y∈fs\/y∈ws++[x])->y∈fs++[x]\/y∈ws++fl.flatMap (Rw.lets x):=fun y hy=>by
  rcases hy with e|e
  ·exact .inl (cg _ e)
  ·rcases bu.mp e with e|e
   ·exact .inr (cg _ e)
   ·exact .inl (be _ e)
 refine⟨fun y hy=>?_,fun y hy=>key y (h.base y hy),fun z hz y hy=>?_,?_⟩
 ·rcases hy with e|e
  ·rcases bu.mp e with e|e
   ·exact h.need y (.inl e)
   ·rw[au.mp e];exact nx
  ·rcases bu.mp e with e|e
   ·exact h.need y (.inr (cg _ e))
   ·exact aL3 nx e
 ·rcases bu.mp hz with e|e
  ·exact key y (h.more z e y hy)
  ·rw[au.mp e] at hy;exact .inr (be _ hy)
 ·rw[jf];refine⟨h.nd,by simp,fun a ha b hb e=>m ?_⟩;rw[<-au.mp hb, <-e];exact ha
theorem WL.done{fl:List Rw}{fs:List Str}(h:WL fl fs [])(x:Str):x∈fs↔iF fl x:=by
 refine⟨fun m=>h.need x (.inl m),fun n=>?_⟩;have key:∀y,(y∈fs\/y∈([]:List Str))->y∈fs:=fun y hy=>by
  rcases hy with e|e
  ·exact e
  ·exact absurd e bc
 induction n with
 |base h1 m=>exact key _ (h.base _ (io.mpr ⟨_,h1,m⟩))
 |step h1 _ m ih=>exact key _ (h.more _ ih _ (io.mpr ⟨_,h1,by simp only[Rw.lets];rw[br trivial];exact m⟩))
def zP(fl:List Rw)(xs fs:List Str):Nat:=((xs.filter fun x=> !decide (x∈fs)).map fun x=>(fl.flatMap (Rw.lets x)).length).sum
theorem wX(fl:List Rw)(fs:List Str)(x:Str):∀xs:List Str,zP fl xs (fs++[x])<=zP fl xs fs
 |[]=>af _
 |z::r=>by
  have ih:=wX fl fs x r;unfold zP at ih ⊢
  by_cases c:z∈fs
  ·rw[dm (by simp[c]),dm (by simp[c])];exact ih
  ·by_cases d:z=x
   ·rw[dm (by simp[d]),dk (by simp[c])];rw[ef,lm];lia
   ·rw[dk (by simp[c,d]),dk (by simp[c])];rw[ef,lm,ef,lm];lia
theorem xR(fl:List Rw){fs:List Str}{x:Str}(hf:x∉fs):∀{xs:List Str},x∈xs->zP fl xs (fs++[x])+(fl.flatMap (Rw.lets x)).length<=zP fl xs fs
 |[],h=>absurd h bc
 |z::r,h=>by
  have mo:=wX fl fs x r
  by_cases d:z=x
  ·unfold zP at mo ⊢;rw[dm (by simp[d]),dk (by simp[d,hf])];rw[ef,lm,d];lia
  ·have ih:=xR fl hf (xs:=r) (by rcases bw.mp h with e|e;exact absurd e.symm d;exact e);unfold zP at ih ⊢
   by_cases c:z∈fs
   ·rw[dm (by simp[c]),dm (by simp[c])];exact ih
   ·rw[dk (by simp[c,d]),dk (by simp[c])];rw[ef,lm,ef,lm];lia
theorem aT6{ys:List Str}{fl:List Rw}(ok:∀r∈fl,OkR ys r)(fs:List Str):∀xs:List Str,zP fl xs fs<=xs.length*(7*fl.length)
 |[]=>az _
 |z::r=>by
  have ih:=aT6 ok fs r;have:=nY ok z;unfold zP at ih ⊢;rw[bx,oo]
  by_cases c:z∈fs
  ·rw[dm (by simp[c])];lia
  ·rw[dk (by simp[c]),ef,lm];lia
def st1(F:List Str)(r:Rw):List Str:=match r with
 |.lt _ y t=>if y∈F then F++t.names.filter (fun x=> !decide (x∈F)) else F
 |.thr _ _ _ _ _=>F
 |.tell _ _=>F
 |.when _ _ _ _ _ _=>F
 |.times _ _ _ _=>F
def rnd(fl:List Rw)(F:List Str):List Str:=fl.foldl st1 F
def iH(fl:List Rw):Nat->List Str
 |0=>fl.flatMap Rw.told
 |n+1=>rnd fl (iH fl n)
theorem aJ4(F:List Str)(r:Rw):∀x∈F,x∈st1 F r:=by
 intro x h
 cases r with
 |lt p y t=>simp only[st1];split;exact cg _ h;exact h
 |_=>exact h
theorem qI:∀(fl:List Rw) (F:List Str),∀x∈F,x∈rnd fl F
 |[],_,_,h=>h
 |r::rs,F,x,h=>qI rs (st1 F r) x (aJ4 F r x h)
theorem bB0{fl:List Rw}{F:List Str}{r:Rw}(hr:r∈fl)(h:∀x∈F,iF fl x):∀x∈st1 F r,iF fl x:=by
 intro x hx
 cases r with
 |lt p y t =>
  simp only[st1] at hx
  split at hx
  ·rename_i hy
   rcases bu.mp hx with e|e
   ·exact h x e
   ·exact .step hr (h y hy) (fj.mp e).1
  ·exact h x hx
 |_=>exact h x hx
theorem zD{fl:List Rw}:∀(rs:List Rw) (F:List Str),(∀r∈rs,r∈fl)->(∀x∈F,iF fl x)->∀x∈rnd rs F,iF fl x
 |[],_,_,h=>h
 |r::rs,F,hs,h=>zD rs (st1 F r) (fun q hq=>hs q (ak _ hq)) (bB0 (hs r ao) h)
theorem uO(fl:List Rw):∀n,∀x∈iH fl n,iF fl x
 |0=>fun _ h=>uA h
 |n+1=>zD fl (iH fl n) (fun _ h=>h) (uO fl n)
def Sat(F:List Str)(r:Rw):Prop:=∀p y t,r= .lt p y t->y∈F->∀x∈t.names,x∈F
def act(fl:List Rw)(F:List Str):Nat:=fl.countP fun r=>match r with
 |.lt _ y _=>decide (y∈F)
 |_=>false
theorem bK3{F:List Str}{p:Addr}{y:Str}{t:Tm}(h:y∈F):∀x∈t.names,x∈st1 F (.lt p y t):=by
 intro x hx;simp only[st1];rw[br h]
 by_cases c:x∈F
 ·exact cg _ c
 ·exact be _ (fj.mpr ⟨hx,by simp[c]⟩)
theorem aJ8:∀(fl:List Rw) (F:List Str) {p:Addr}{y:Str}{t:Tm},Rw.lt p y t∈fl->y∈F->∀x∈t.names,x∈rnd fl F
 |[],_,_,_,_,h,_=>absurd h bc
 |r::rs,F,p,y,t,h,hy=>fun x hx=>by
  rcases bw.mp h with e|e
  ·subst e;exact qI rs _ x (bK3 hy x hx)
  ·exact aJ8 rs (st1 F r) e (aJ4 F r y hy) x hx
theorem zI{F G:List Str}(h:∀x∈F,x∈G):∀fl:List Rw,act fl F<=act fl G
 |fl=>List.countP_mono_left fun r _ hr=>by
  cases r with
  |lt p y t=>exact ai (h y (ae hr))
  |_=>exact hr
theorem aB6{F G:List Str}(h:∀x∈F,x∈G){p:Addr}{y:Str}{t:Tm}(h1:y∉F)(h2:y∈G):∀{fl:List Rw},Rw.lt p y t∈fl->act fl F+1<=act fl G
 |[],m=>absurd m bc
 |r::rs,m=>by
  have mo:=zI h rs;rcases bw.mp m with e|e
  ·subst e;unfold act at mo ⊢;rw[List.countP_cons_of_neg (by simp[h1]),List.countP_cons_of_pos (by simp[h2])];lia
  ·have ih:=aB6 h h1 h2 e;have c1:=zI h [r];unfold act at ih c1 ⊢;rw[qd,qd];rw[qd,qd,List.countP_nil,List.countP_nil] at c1;lia
theorem bU2(fl:List Rw)(F:List Str):act fl F<=fl.length:=List.countP_le_length
def aO9(fl:List Rw)(F:List Str):Prop:=∀r∈fl,Sat F r
theorem aF8{fl:List Rw}{F:List Str}(h:¬aO9 fl F):∃p y t,Rw.lt p y t∈fl/\y∈F/\∃x∈t.names,x∉F:=by
 apply nv
 intro k;refine h fun r hr p y t e hy x hx=>nv fun c=>k ⟨p,y,t,by rw[<-e];exact hr,hy,x,hx,c⟩
theorem aE7{fl:List Rw}{F:List Str}(c:aO9 fl F):∀(rs:List Rw),(∀r∈rs,r∈fl)->rnd rs F=F
 |[],_=>rfl
 |r::rs,hs=>by
  have e:st1 F r=F:=by
   cases r with
   |lt p y t =>
    simp only[st1]
    split
    ·rename_i hy
     have:t.names.filter (fun x=> !decide (x∈F))=[]:=vi.mpr fun x hx=>by
      have:=c _ (hs _ ao) p y t rfl hy x hx;simp[this]
     rw[this,dw]
    ·rfl
   |_=>rfl
  show rnd rs (st1 F r)=F;rw[e];exact aE7 c rs fun q hq=>hs q (ak _ hq)
theorem xS(fl:List Rw):∀n,¬aO9 fl (iH fl n)->n+1<=act fl (iH fl n)
 |0,h=>by
  obtain⟨p,y,t,m,hy,_⟩:=aF8 h;have:=aB6 (F:=[]) (G:=iH fl 0) (fun x hx=>absurd hx bc) bc hy m;lia
 |n+1,h=>by
  have h0:¬aO9 fl (iH fl n):=fun c=>h (by
   show aO9 fl (rnd fl (iH fl n));rw[aE7 c fl fun _ z=>z];exact c)
  have ih:=xS fl n h0;obtain⟨p,y,t,m,hy,x,hx,hn⟩:=aF8 h;have:=aB6 (F:=iH fl n) (G:=iH fl (n+1)) (qI fl _) (fun z=>hn (aJ8 fl _ m z x hx)) hy m;lia
theorem aL5(fl:List Rw)(x:Str):x∈iH fl fl.length↔iF fl x:=by
 refine⟨uO fl _ x,fun n=>?_⟩;have c:aO9 fl (iH fl fl.length):=nv fun k=>by
  have:=xS fl _ k;have:=bU2 fl (iH fl fl.length);lia
 have sub:∀n,∀x∈fl.flatMap Rw.told,x∈iH fl n:=fun n=>by
  induction n with
  |zero=>exact fun _ h=>h
  |succ n ih=>exact fun x h=>qI fl _ x (ih x h)
 induction n with
 |base h1 m=>exact sub _ _ (io.mpr ⟨_,h1,m⟩)
 |step h1 _ m ih=>exact c _ h1 _ _ _ rfl ih _ m
theorem bI3{xs:List Str}{F:List Str}{r:Rw}(ok:OkR xs r):(st1 F r).length<=F.length+7:=by
 cases r with
 |lt p y t =>
  have h:=ok.asked.1;have h:t.names.length<=7:=h;have:=ja (fun x=> !decide (x∈F)) t.names;simp only[st1]
  split
  ·rw[ap];lia
  ·lia
 |_=>exact jb _ _
theorem vS{xs:List Str}:∀(fl:List Rw) (F:List Str),(∀r∈fl,OkR xs r)->(rnd fl F).length<=F.length+7*fl.length
 |[],_,_=>af _
 |r::rs,F,ok=>by
  have:=vS rs (st1 F r) fun q hq=>ok q (ak _ hq)
  have:=bI3 (F:=F) (ok r ao);show(rnd rs (st1 F r)).length<=_;rw[bx];lia
theorem yI{xs:List Str}{fl:List Rw}(ok:∀r∈fl,OkR xs r):∀n,(iH fl n).length<=(n+1)*(7*fl.length)
 |0=>by have:=lH ok;show(fl.flatMap Rw.told).length<=_;lia
 |n+1=>by
  have:=yI ok n;have:=vS fl (iH fl n) ok;rw[oo];show(rnd fl (iH fl n)).length<=_;lia
theorem aH5{α:Type}[DecidableEq α]:∀{ds xs:List α},ds.Nodup->(∀x∈ds,x∈xs)->ds.length<=xs.length
 |[],_,_,_=>az _
 |d::ds,xs,nd,h=>by
  have hd:=h d ao;have nd':=du.mp nd;have:=aH5 (ds:=ds) (xs:=xs.erase d) nd'.2 fun x hx=>(List.mem_erase_of_ne (fun e=>nd'.1 (by rw[<-e];exact hx))).mpr (h x (ak _ hx))
  have:=List.length_erase_of_mem hd;have:=List.length_pos_of_mem hd;rw[bx];lia
theorem aM5(fl:List Rw)(ss:List Str)(n:Nat):uY fl ss (n+1)=uY fl ss n++(if idA fl ss n then [(n:Int)] else []):=by
 unfold uY;rw[uy,im,bo]
 congr 1
 by_cases c:idA fl ss n=true
 ·rw[dk c,br c];rfl
 ·rw[dm c,ay c];rfl
theorem aX1(fl:List Rw)(ss:List Str)(n:Nat):(uY fl ss n).length<=n:=by
 unfold uY;rw[aa];exact cj (ja _ _) (by rw[su];exact af _)
theorem bF8{H:Hp}{r:Rw}(h:dF H r)(c:r.w="let"):∃p x t,r= .lt p x t:=by
 cases r with
 |lt p x t=>exact⟨p,x,t,rfl⟩
 |thr p w x us vs =>
  have hw:w∈cN:=jZ.w h.2;have c:w="let":=c;rw[c] at hw;exact absurd hw (by decide)
 |tell p t=>exact absurd (show("tell": Str)="let" from c) (by decide)
 |when p pa pb t a b=>exact absurd (show("when": Str)="let" from c) (by decide)
 |times p pb n b=>exact absurd (show("times": Str)="let" from c) (by decide)
theorem aQ7{r:Rw}(c:¬r.w="let")(x:Str):r.lets x=[]:=by
 cases r with
 |lt p y t=>exact absurd rfl c
 |_=>rfl
theorem bI1{H:Hp}{r:Rw}(h:dF H r)(c:r.w∈(["tell","when"]:List Str)):r.told=r.asked:=by
 cases r with
 |lt p y t=>exact absurd (show("let": Str)∈(["tell","when"]:List Str) from c) (by decide)
 |thr p w x us vs=>rfl
 |tell p t=>rfl
 |when p pa pb t a b=>rfl
 |times p pb n b=>rfl
theorem yL{r:Rw}(c:¬r.w∈(["tell","when"]:List Str)):r.told=[]:=by
 cases r with
 |tell p t=>exact absurd (show("tell": Str)∈(["tell","when"]:List Str) from ao) c
 |when p pa pb t a b=>exact absurd (show("when": Str)∈(["tell","when"]:List Str) from ak _ ao) c
 |_=>rfl
theorem bT6{H:Hp}{r:Rw}(h:dF H r)(c:r.w∈(["tell","when"]:List Str)):∃(t:Tm) (vs:List V),H r.p=some (.tup (.str r.w :: .ref t.p::vs))/\oV H t/\r.tm=[t]/\r.told=t.names:=by
 cases r with
 |lt p y t=>exact absurd (show("let": Str)∈(["tell","when"]:List Str) from c) (by decide)
 |thr p w x us vs =>
  have hw:w∈cN:=jZ.w h.2;have c:w∈(["tell","when"]:List Str):=c;simp only[List.mem_cons,List.not_mem_nil,or_false] at c;rcases c with e|e<;>(rw[e] at hw;exact absurd hw (by decide))
 |tell p t=>exact⟨t,_,h.1,h.2.1,rfl,rfl⟩
 |when p pa pb t a b=>exact⟨t,_,h.1,h.2.1,rfl,rfl⟩
 |times p pb n b=>exact absurd (show("times": Str)∈(["tell","when"]:List Str) from c) (by decide)
structure BI(H G:Hp)(d:Addr)(kvs:List (Key×V))(fl:List Rw)(n:Nat):Prop where
 sm:aO H G
 nd:H d=none
 dc:G d=some (.dK kvs)
 ln:kvs.length<=n
 vl:∀x:Str,(cJ kvs (Sum.inr x:Key)=none/\fl.flatMap (Rw.lets x)=[])\/∃l,cJ kvs (Sum.inr x:Key)=some (.ref l)/\G l=some (.lst ((fl.flatMap (Rw.lets x)).map V.str))/\H l=none
 inj:∀(x y:Str) (l:Addr),cJ kvs (Sum.inr x:Key)=some (.ref l)->cJ kvs (Sum.inr y:Key)=some (.ref l)->x=y
theorem BI.same{H G G':Hp}{d:Addr}{kvs:List (Key×V)}{fl:List Rw}{n:Nat}(b:BI H G d kvs fl n)(s:aO G G'):BI H G' d kvs fl n:=
 ⟨b.sm.trans s,b.nd,s _ _ b.dc,b.ln,fun x=>by
  rcases b.vl x with h|⟨l,h1,h2,h3⟩
  ·exact .inl h
  ·exact .inr ⟨l,h1,s _ _ h2,h3⟩,b.inj⟩
theorem BI.bh{H G:Hp}{d:Addr}{kvs:List (Key×V)}{fl:List Rw}{n:Nat}(b:BI H G d kvs fl n):Bh G d fl:=⟨kvs,b.dc,fun x=>by
 rcases b.vl x with h|⟨l,h1,h2,_⟩
 ·exact .inl h
 ·exact .inr ⟨l,h1,h2⟩⟩
theorem aJ6{α:Type}(f:Rw->List α)(fl:List Rw)(r:Rw):(fl++[r]).flatMap f=fl.flatMap f++f r:=by
 rw[ig];simp
theorem BI.skip{H G:Hp}{d:Addr}{kvs:List (Key×V)}{fl:List Rw}{n:Nat}{r:Rw}(b:BI H G d kvs fl n)(h:∀x,r.lets x=[]):BI H G d kvs (fl++[r]) (n+1):=
 ⟨b.sm,b.nd,b.dc,pc b.ln,fun x=>by rw[aJ6,h x,dw];exact b.vl x,b.inj⟩
theorem BI.more{H G:Hp}{d l:Addr}{kvs:List (Key×V)}{fl:List Rw}{p:Addr}{x:Str}{t:Tm}{n:Nat}(b:BI H G d kvs fl n)(e:cJ kvs (Sum.inr x:Key)=some (.ref l)) :
  BI H (aL G l (.lst ((fl.flatMap (Rw.lets x)).map V.str++t.names.map V.str))) d kvs (fl++[.lt p x t]) n:=by
 have hx:G l=some (.lst ((fl.flatMap (Rw.lets x)).map V.str))/\H l=none:=by
  rcases b.vl x with⟨h,_⟩|⟨l',h1,h2,h3⟩
  ·rw[h] at e;cases e
  ·rw[h1] at e;cases e;exact⟨h2,h3⟩
 refine⟨bI b.sm hx.2,b.nd,?_,b.ln,fun y=>?_,b.inj⟩
 ·rw[aG (fQ b.dc hx.1 (by intro z;cases z))];exact b.dc
 ·rw[aJ6]
  by_cases c:y=x
  ·subst c;refine .inr ⟨l,e,?_,hx.2⟩;rw[aB,show(Rw.lt p y t).lets y=t.names from br rfl,bo]
  ·rw[show(Rw.lt p x t).lets y=[] from ay (fun z=>c z.symm),dw];rcases b.vl y with h|⟨l',h1,h2,h3⟩
   ·exact .inl h
   ·refine .inr ⟨l',h1,?_,h3⟩;rw[aG (fun z=>c (b.inj y x l (by rw[<-z];exact h1) e))];exact h2
theorem BI.new{H G:Hp}{d l:Addr}{kvs:List (Key×V)}{fl:List Rw}{x:Str}{n:Nat}(b:BI H G d kvs fl n)(hl:G l=none)(e:cJ kvs (Sum.inr x:Key)=none) :
  BI H (aL (aL G l (.lst [])) d (.dK (cZ kvs (Sum.inr x:Key) (.ref l)))) d (cZ kvs (Sum.inr x:Key) (.ref l)) fl (n+1):=by
 have n0:H l=none:=b.sm.free hl;have ne:d≠l:=aJ b.dc hl;refine⟨fun a o h=>?_,b.nd,aB,?_,fun y=>?_,fun y z l' h1 h2=>?_⟩
 ·rw[aG (aJ h b.nd),aG (aJ h n0)];exact b.sm _ _ h
 ·have:=dY kvs (Sum.inr x:Key) (.ref l);have:=b.ln;lia
 ·rw[jI]
  by_cases c:y=x
  ·subst c;have ev:fl.flatMap (Rw.lets y)=[]:=by
    rcases b.vl y with⟨_,h⟩|⟨l',h1,_⟩
    ·exact h
    ·rw[h1] at e;cases e
   refine .inr ⟨l,br rfl,?_,n0⟩;rw[aG ne.symm,aB,ev];rfl
  ·rw[ay (fun z=>c (pd z))];rcases b.vl y with h|⟨l',h1,h2,h3⟩
   ·exact .inl h
   ·refine .inr ⟨l',h1,?_,h3⟩;rw[aG (fQ h2 b.dc (by intro z;cases z)),aG (aJ h2 hl)];exact h2
 ·have fr:∀w,cJ kvs (Sum.inr w:Key)=some (.ref l)->False:=fun w h=>by
   rcases b.vl w with⟨h1,_⟩|⟨l2,h1,h2,_⟩
   ·rw[h1] at h;cases h
   ·rw[h1] at h;cases h;rw[h2] at hl;cases hl
  rw[jI] at h1 h2
  by_cases c:y=x
  ·by_cases c2:z=x
   ·rw[c,c2]
   ·rw[br (by rw[c])] at h1;rw[ay (fun q=>c2 (pd q))] at h2
    cases h1
    exact(fr z h2).elim
  ·rw[ay (fun q=>c (pd q))] at h1
   by_cases c2:z=x
   ·rw[br (by rw[c2])] at h2
    cases h2
    exact(fr y h1).elim
   ·rw[ay (fun q=>c2 (pd q))] at h2;exact b.inj y z l' h1 h2
def vZ(fs:List Str):List (Key×V):=fs.map fun x=>((Sum.inr x:Key),V.bl true)
theorem aD4(x:Str):∀fs:List Str,cJ (vZ fs) (Sum.inr x:Key)=if x∈fs then some (.bl true) else none
 |[]=>rfl
 |y::r=>by
  show cJ (((Sum.inr y:Key),V.bl true)::vZ r) (Sum.inr x:Key)=_
  by_cases c:y=x
  ·rw[cQ (by rw[c]),br (by rw[c];exact ao)]
  ·rw[cA (fun z=>c (pd z)),aD4 x r];have:x∈y::r↔x∈r:=by rw[bw];exact⟨fun h=>by rcases h with e|e;exact absurd e.symm c;exact e,.inr⟩
   simp only[this]
theorem cE3{fs:List Str}{x:Str}(h:x∉fs):cZ (vZ fs) (Sum.inr x:Key) (.bl true)=vZ (fs++[x]):=by
 rw[nS _ (by rw[aD4,ay h])];unfold vZ;rw[bo];rfl
theorem bQ2(fs:List Str):(vZ fs).map (fun e=>kV e.1)=fs.map V.str:=by
 unfold vZ;rw[mq];rfl
theorem aU2(fs:List Str):(vZ fs).length=fs.length:=aa _
theorem BI.up{H G:Hp}{d:Addr}{kvs:List (Key×V)}{fl:List Rw}{n m:Nat}(b:BI H G d kvs fl n)(h:n<=m):BI H G d kvs fl m:=⟨b.sm,b.nd,b.dc,cj b.ln h,b.vl,b.inj⟩
theorem aH8{xs:List Str}{fl:List Rw}{i:Nat}{x:Str}{t:Tm}{p:Addr}(ok:∀r∈fl,OkR xs r)(hn:fl.length<=1300)(h:OkR xs (.lt p x t)):(((fl.take i).flatMap (Rw.lets x)).map V.str).length+(t.names.map V.str).length<=sizeLine:=by
 have h1:=nY (fl:=fl.take i) (fun r hr=>ok r (km hr)) x;have h2:=h.asked.1;have h2:t.names.length<=7:=h2;rw[dj] at h1;rw[aa,aa];exact cu (rT (by lia))
theorem bS3{H:Hp}{a:Addr}{kvs:List (Key×V)}(e:H a=some (.dK kvs)):IsD H a:= .inl ⟨_,.inl e⟩
theorem aW5{ss:List Str}{r:Rw}{x:Str}(h:r.sets=some x):fP ss r= !decide (x∈ss):=by unfold fP;rw[h]
theorem aX6{ss:List Str}{r:Rw}(h:r.sets=none):fP ss r=false:=by unfold fP;rw[h]
theorem rV(x:Str)(ss:List Str):(!wN (V.str x) (ss.map V.str))= !decide (x∈ss):=by rw[dN]
theorem jV.okf{H:Hp}{p:Addr}{xs:List Str}{rs:List Rw}(P:jV H p xs rs):∀r∈cU rs,OkR xs r:=P.ok
theorem jV.fl{H:Hp}{p:Addr}{xs:List Str}{rs:List Rw}(P:jV H p xs rs):(cU rs).length<=1300:=by rw[fM];exact P.cnt
theorem bB6{α:Type}{l:List α}(h:1<=l.length):∃a r,l=a::r:=by
 cases l with
 |nil=>cases h
 |cons a r=>exact⟨a,r,rfl⟩
abbrev Fr:=Int×Int
abbrev Prc:=Fr×Fr
def eV(c w:Int):Fr:=(eK c w,dO c w)
theorem aG6{a b c d:Int}(ha:0<=a)(hb:1<=b)(hc:0<=c)(hd:1<=d)(h:a*d=c*b):eV a b=eV c d:=by
 have e:=aC3 ha hb hc hd h;unfold eV;rw[e.1,e.2]
def sF(u e:Fr):Fr:=eV (u.1*e.2+e.1*u.2) (u.2*e.2)
def gU(u e:Fr):Fr:=eV (u.1*e.1) (u.2*e.2)
structure wT(u:Fr):Prop where
 a:0<=u.1
 b:1<=u.2
 l:eV u.1 u.2=u
theorem kZ{a b:Int}(ha:0<=a)(hb:1<=b):wT (eV a b):=by
 have e:=bI5 ha hb;refine⟨fZ ha,iY hb,?_⟩;show(eK (eK a b) (dO a b),dO (eK a b) (dO a b))=(eK a b,dO a b)
 rw[e.1,e.2]
theorem aI3:wT (1,1):=⟨by decide,by decide,by decide⟩
theorem sH:wT (0,1):=⟨by decide,by decide,by decide⟩
theorem bH7{u e:Fr}(hu:wT u)(he:wT e):wT (gU u e):=by
 refine kZ (ff hu.a he.a) ?_;have:=jv (show 0<u.2 by have:=hu.b;lia) (show 0<e.2 by have:=he.b;lia);lia
theorem bN0{u e:Fr}(hu:wT u)(he:wT e):wT (sF u e):=by
 have a1:=hu.a;have a2:=hu.b;have b1:=he.a;have b2:=he.b;have m1:=ff a1 (show 0<=e.2 by lia);have m2:=ff b1 (show 0<=u.2 by lia);have:=jv (show 0<u.2 by lia) (show 0<e.2 by lia);exact kZ (by lia) (by lia)
theorem bP3{u:Fr}(h:wT u):gU u (1,1)=u:=by
 show eV (u.1*1) (u.2*1)=u;rw[jj,jj];exact h.l
theorem bN6{u:Fr}(h:wT u):gU (1,1) u=u:=by
 show eV (1*u.1) (1*u.2)=u;rw[vj,vj];exact h.l
theorem aU0{u:Fr}(h:wT u):sF u (0,1)=u:=by
 show eV (u.1*1+0*u.2) (u.2*1)=u;rw[jj,jj,xz,Int.add_zero];exact h.l
theorem bE9{u:Fr}(h:wT u):sF (0,1) u=u:=by
 show eV (0*u.2+u.1*1) (1*u.2)=u;rw[jj,vj,xz,oj];exact h.l
structure gQ(n:Nat)(u:Fr):Prop where
 a:0<=u.1
 b:1<=u.2
 ba:cG n u.1
 bb:cG n u.2
theorem gQ.mono{m n:Nat}{u:Fr}(h:gQ m u)(l:m<=n):gQ n u:=⟨h.a,h.b,h.ba.mono l,h.bb.mono l⟩
theorem sO{n:Nat}{a w:Int}(a0:0<=a)(a1:cG n a)(w1:1<=w)(w2:cG n w):gQ n (eV a w):=by
 have p1:=fZ (b:=w) a0;have p2:=iY (a:=a) w1;have p3:=aJ0 (b:=w) a0 w1;have p4:=aG4 (a:=a) w1;refine⟨p1,p2,cx ?_ a1,cx ?_ w2⟩
 ·show(eK a w).natAbs<=a.natAbs;lia
 ·show(dO a w).natAbs<=w.natAbs;lia
theorem cP7{m n:Nat}{u e:Fr}(hu:gQ m u)(he:gQ n e):gQ (m+n) (gU u e):=by
 refine sO (ff hu.a he.a) (hu.ba.mul he.ba) ?_ (hu.bb.mul he.bb);have:=jv (show 0<u.2 by have:=hu.b;lia) (show 0<e.2 by have:=he.b;lia);lia
theorem cP1{m n:Nat}{u e:Fr}(hu:gQ m u)(he:gQ n e):gQ (m+n+1) (sF u e):=by
 have a1:=hu.a;have a2:=hu.b;have b1:=he.a;have b2:=he.b;have m1:=ff a1 (show 0<=e.2 by lia);have m2:=ff b1 (show 0<=u.2 by lia);have:=jv (show 0<u.2 by lia) (show 0<e.2 by lia);exact sO (by lia) ((hu.ba.mul he.bb).add ((he.ba.mul hu.bb).mono (by lia))) (by lia) ((hu.bb.mul he.bb).mono (by lia))
def free:Prc:=((1,1),(0,1))
structure gK(p:Prc):Prop where
 f:wT p.1
 r:wT p.2
theorem dX:gK free:=⟨aI3,sH⟩
def jP(acc p:Prc):Prc:=(gU acc.1 p.1,sF acc.2 p.2)
def fO(ps:List Prc):Prc:=ps.foldl jP free
theorem rL(ps:List Prc)(p:Prc):fO (ps++[p])=jP (fO ps) p:=by unfold fO;rw[oy];rfl
theorem mP{a p:Prc}(h:gK a)(k:gK p):gK (jP a p):=⟨bH7 h.f k.f,bN0 h.r k.r⟩
theorem xZ:∀{ps:List Prc}{a:Prc},gK a->(∀p∈ps,gK p)->gK (ps.foldl jP a)
 |[],_,h,_=>h
 |p::ps,a,h,k=>by
  rw[iy];exact xZ (ps:=ps) (mP h (k p ao)) fun q hq=>k q (ak _ hq)
theorem pX{ps:List Prc}(h:∀p∈ps,gK p):gK (fO ps):=xZ dX h
def mC(a b:Fr):Fr:=if a.1*b.2<b.1*a.2 then b else a
def yM(a b:Prc):Prc:=(mC a.1 b.1,mC a.2 b.2)
theorem kU(a b:Fr):mC a b=a\/mC a b=b:=by unfold mC;split;exact .inr rfl;exact .inl rfl
theorem aT0{a b:Prc}(h:gK a)(k:gK b):gK (yM a b):=by
 refine⟨?_,?_⟩
 ·show wT (mC a.1 b.1);rcases kU a.1 b.1 with e|e<;>rw[e];exact h.f;exact k.f
 ·show wT (mC a.2 b.2);rcases kU a.2 b.2 with e|e<;>rw[e];exact h.r;exact k.r
def kF(n:Nat)(a:Prc):Prc:=((a.1.1^n,a.1.2^n),eV (a.2.1*n) (a.2.2*1))
theorem aG8{x y:Int}(hx:0<=x)(hy:1<=y)(h:eV x y=(x,y))(n:Nat):eV (x^n) (y^n)=(x^n,y^n):=by
 obtain⟨a,rfl⟩:=dy hx;obtain⟨b,rfl⟩:=dy (show 0<=y by lia);have b0:0<b:=by lia
 have g1:Nat.gcd a b=1:=by
  have e:dO (a:Int) (b:Int)=(b:Int):=(Prod.mk.inj h).2;unfold dO gI at e;rw[dz,dz, <-Int.natCast_ediv] at e;have e:b / Nat.gcd a b=b:=Int.ofNat_inj.mp e;have gp:0<Nat.gcd a b:=ug _ b0;have d:=yj a b;have m:=Nat.div_mul_cancel d;rw[e] at m;have:b*Nat.gcd a b=b*1:=by rw[m,Nat.mul_one]
  exact Nat.eq_of_mul_eq_mul_left b0 this
 have g2:Nat.gcd (a^n) (b^n)=1:=by
  have:Nat.Coprime a b:=g1;exact Nat.Coprime.pow n n this
 unfold eV eK dO gI;rw[<-Int.natCast_pow, <-Int.natCast_pow,dz,dz,g2];simp
theorem aE8{a:Prc}(h:gK a):∀n:Nat,fO (List.replicate n a)=kF n a
 |0=>by
  show free=_;unfold kF free;have e:eV (a.2.1*((0:Nat):Int)) (a.2.2*1)=(0,1):=by
   have:=aG6 (a:=a.2.1*((0:Nat):Int)) (b:=a.2.2*1) (c:=0) (d:=1) (by lia) (by have:=h.r.b;lia) (by decide) (by decide) (by simp);rw[this];decide
  rw[e,qw,qw]
 |n+1=>by
  rw[wo,rL,aE8 h n];have h1:=h.f.a;have h2:=h.f.b;have h3:=h.r.a;have h4:=h.r.b;unfold jP kF;refine wb ?_ ?_
  ·show gU (a.1.1^n,a.1.2^n) a.1=(a.1.1^(n+1),a.1.2^(n+1))
   show eV (a.1.1^n*a.1.1) (a.1.2^n*a.1.2)=_;rw[<-mj, <-mj];exact aG8 h1 h2 h.f.l (n+1)
  ·show sF (eV (a.2.1*(n:Int)) (a.2.2*1)) a.2=eV (a.2.1*((n+1:Nat):Int)) (a.2.2*1);have n0:=ff h3 (show 0<=(n:Int) by lia);have r:=pE (a:=a.2.1*(n:Int)) (b:=a.2.2*1) n0 (by lia);have q1:=fZ (b:=a.2.2*1) n0;have q2:=iY (a:=a.2.1*(n:Int)) (show 1<=a.2.2*1 by lia);show eV (eK (a.2.1*(n:Int)) (a.2.2*1)*a.2.2+a.2.1*dO (a.2.1*(n:Int)) (a.2.2*1)) (dO (a.2.1*(n:Int)) (a.2.2*1)*a.2.2)=_;generalize eK (a.2.1*(n:Int)) (a.2.2*1)=x at *;generalize dO (a.2.1*(n:Int)) (a.2.2*1)=y at *;have m1:=ff q1 (show 0<=a.2.2 by lia);have m2:=ff h3 (show 0<=y by lia);have m3:=jv (show 0<y by lia) (show 0<a.2.2 by lia);refine aG6 (by lia) (by lia) (ff h3 (by lia)) (by lia) ?_;rw[uz];rw[jj] at r ⊢;generalize (n:Int)=N at *
   grind
def bP4(ns:List Int):Int:=ns.foldl max 0
theorem nW:∀(ns:List Int) (a:Int),a<=ns.foldl max a/\(∀n∈ns,n<=ns.foldl max a)/\(ns.foldl max a=a\/ns.foldl max a∈ns)
 |[],a=>⟨ko _,fun _ h=>absurd h bc,.inl rfl⟩
 |m::ns,a=>by
  obtain⟨h1,h2,h3⟩:=nW ns (max a m);rw[iy];refine⟨by lia,fun n hn=>?_,?_⟩
  ·rcases bw.mp hn with rfl|hn
   ·lia
   ·exact h2 n hn
  ·rcases h3 with e|e
   ·rcases(show max a m=a\/max a m=m by lia) with z|z
    ·left;rw[e,z]
    ·right;rw[e,z];exact ao
   ·exact .inr (ak _ e)
theorem bK0{ns:List Int}(h0:∀n∈ns,0<=n){i:Int}(hi:i∈ns)(hb:∀n∈ns,n<=i):i=bP4 ns:=by
 obtain⟨h1,h2,h3⟩:=nW ns 0;have a:=h2 i hi;have b:=h0 i hi;unfold bP4;rcases h3 with e|e
 ·lia
 ·have:=hb _ e;lia
def wK(d:TD)(k:Nat):Int:=bP4 (d.wss.map fun ws=>ws.getD k 0)
theorem bR9{d:TD}(h:aZ8 d)(k:Nat):0<=wK d k/\wK d k<=3:=by
 obtain⟨h1,h2,h3⟩:=nW (d.wss.map fun ws=>ws.getD k 0) 0;refine⟨h1,?_⟩;unfold wK bP4;rcases h3 with e|e
 ·lia
 ·obtain⟨ws,hw,e2⟩:=fi.mp e;rw[<-e2,ge]
  cases q:ws[k]? with
  |none=>exact by decide
  |some y=>exact((h.ws ws hw).2 y (bj q)).2
def sX(T:zV)(w:Int):Prc:=if w=0 then free else match T with
 |.lad p q _ _=>((q^w.toNat,p^w.toNat),(0,1))
 |.fla r _ _=>((1,1),eV (if 2*r+1<w then 2*r+1 else w) (2*r+1))
 |.cho p q _ _=>((q^w.toNat,p^w.toNat),(0,1))
 |.fst pa qa pb qb mk _ hi=>(eV (qa^w.toNat*qb^(2*w).toNat) (pa^w.toNat*pb^(2*w).toNat),eV (tN pa qa (hi-w-mk)) (tD pa qa (hi-w-mk)))
theorem pw1{p:Int}(h:1<=p)(n:Nat):1<=p^n:=by have:0<p^n:=vg (by lia);lia
theorem b4{p:Int}(h0:0<=p)(h9:p<=9):cG 4 p:= .of h0 (by lia)
theorem pwb{p:Int}(h0:0<=p)(h9:p<=9){n:Nat}(hn:n<=6):cG 25 (p^n):=(cG.pow (b4 h0 h9) n).mono (by lia)
theorem Cop.low{p q:Int}(c:Cop p q):eV q p=(q,p):=by
 have p1:=c.st.p1;have pq:=c.st.pq;unfold eV eK dO gI;rw[xt,c.co];simp
theorem cT5{p q k:Int}(s:yK p q)(k0: -3<=k)(k9:k<=9):cG 42 (tD p q k)/\1<=tD p q k/\0<=tN p q k/\tN p q k<=tD p q k:=by
 have p1:=s.p1;have pq:=s.pq;have q9:=s.q9;have sb:∀n:Nat,n<=9->cG 42 (sT p q n):=fun n hn=>by
  unfold sT;exact((cG.of (n:=5) (i:=q+p) (by lia) (by lia)).mul (cG.pow (b4 (p:=q) (by lia) q9) n)).mono (by lia)
 refine⟨?_,bW3 p1 pq k,cL5 p1 pq k,?_⟩
 ·unfold tD
  split
  ·exact sb _ (by lia)
  ·exact sb _ (by lia)
 ·unfold tN tD
  split
  ·exact aJ2 p1 pq _
  ·have:=bS4 p1 pq (1-k).toNat;lia
theorem bW2{T:zV}(h:T.Ok){w:Int}(w0:0<=w)(w3:w<=3):gK (sX T w)/\gQ 60 (sX T w).1/\gQ 60 (sX T w).2:=by
 have b1:gQ 60 ((1,1):Fr):=⟨by decide,by decide,by unfold cG;decide,by unfold cG;decide⟩
 have b0:gQ 60 ((0,1):Fr):=⟨by decide,by decide,by unfold cG;decide,by unfold cG;decide⟩
 unfold sX
 split
 ·exact⟨dX,b1,b0⟩
 have lc:∀{p q:Int},Cop p q->wT (q^w.toNat,p^w.toNat)/\gQ 60 (q^w.toNat,p^w.toNat):=fun {p q} c=>by
  have p1:=c.st.p1;have pq:=c.st.pq;have q9:=c.st.q9;have e:=aG8 (x:=q) (y:=p) (by lia) p1 c.low w.toNat;exact⟨⟨ir (by lia),pw1 p1 _,e⟩,⟨ir (by lia),pw1 p1 _,(pwb (by lia) q9 (by lia)).mono (by decide),(pwb (by lia) (by lia) (by lia)).mono (by decide)⟩⟩
 cases T with
 |lad p q lo hi=>have c:=lc h;exact⟨⟨c.1,sH⟩,c.2,b0⟩
 |cho p q lo hi=>have c:=lc h;exact⟨⟨c.1,sH⟩,c.2,b0⟩
 |fla r lo hi =>
  obtain⟨r0,r4⟩:=h;have m0:0<=(if 2*r+1<w then 2*r+1 else w)/\(if 2*r+1<w then 2*r+1 else w)<=3:=by split<;>lia
  refine⟨⟨aI3,kZ m0.1 (by lia)⟩,b1,sO m0.1 (.of m0.1 (by lia)) (by lia) (.of (by lia) (by lia))⟩
 |fst pa qa pb qb mk lo hi =>
  obtain⟨ca,cb,k0,k9⟩:=h;have p1:=ca.st.p1;have pq:=ca.st.pq;have q9:=ca.st.q9;have p1':=cb.st.p1;have pq':=cb.st.pq;have q9':=cb.st.q9;have t:=cT5 ca.st (k:=hi-w-mk) (by lia) (by lia);have m1:0<=qa^w.toNat*qb^(2*w).toNat:=ff (ir (by lia)) (ir (by lia));have m2:1<=pa^w.toNat*pb^(2*w).toNat:=by
   have:=jv (show 0<pa^w.toNat by have:=pw1 p1 w.toNat;lia) (show 0<pb^(2*w).toNat by have:=pw1 p1' (2*w).toNat;lia);lia
  have bn:cG 60 (tN pa qa (hi-w-mk)):=cx (show(tN pa qa (hi-w-mk)).natAbs<=(tD pa qa (hi-w-mk)).natAbs by lia) (t.1.mono (by decide));exact⟨⟨kZ m1 m2,kZ t.2.2.1 t.2.1⟩,sO m1 (((pwb (by lia) q9 (by lia)).mul (pwb (by lia) q9' (by lia))).mono (by decide)) m2 (((pwb (by lia) (by lia) (by lia)).mul (pwb (by lia) (by lia) (by lia))).mono (by decide)),sO t.2.2.1 bn t.2.1 (t.1.mono (by decide))⟩
mutual
def pQ(ss:List Str)(k:Nat):Rw->Prc
 |.thr _ _ x _ d=>if x∈ss then sX d.T (wK d k) else free
 |.lt _ _ _=>free
 |.tell _ _=>free
 |.when _ _ _ _ a b=>yM (fO (pR ss k a)) (fO (pR ss k b))
 |.times _ _ n b=>kF n.toNat (fO (pR ss k b))
def pR(ss:List Str)(k:Nat):List Rw->List Prc
 |[]=>[]
 |r::rs=>pQ ss k r::pR ss k rs
end
theorem nC(ss:List Str)(k:Nat):∀rs:List Rw,pR ss k rs=rs.map (pQ ss k)
 |[]=>rfl
 |r::rs=>by simp only[pR,List.map_cons,nC ss k rs]
def jT(ss:List Str)(k:Nat)(rs:List Rw):Prc:=fO (pR ss k rs)
def bdL(n:Nat):Nat:=80*n-10
structure PB(n:Nat)(p:Prc):Prop where
 z:n=0->p=free
 f:1<=n->gQ (bdL n) p.1
 r:1<=n->gQ (bdL n) p.2
theorem fb1{n:Nat}(h:1<=n):gQ n ((1,1):Fr)/\gQ n ((0,1):Fr):=by
 have b:∀i:Int,i.natAbs<=1->cG n i:=fun i hi=>by
  unfold cG;have:2^1<=2^n:=wj (by decide) h;lia
 exact⟨⟨by decide,by decide,b _ (by decide),b _ (by decide)⟩,⟨by decide,by decide,b _ (by decide),b _ (by decide)⟩⟩
theorem PB.up{m n:Nat}{p:Prc}(h:PB m p)(l:m<=n)(n1:1<=n):gQ (bdL n) p.1/\gQ (bdL n) p.2:=by
 by_cases c:m=0
 ·rw[h.z c];have:=fb1 (n:=bdL n) (by unfold bdL;lia);exact⟨this.1,this.2⟩
 ·exact⟨(h.f (by lia)).mono (by unfold bdL;lia),(h.r (by lia)).mono (by unfold bdL;lia)⟩
theorem PB.step{m n:Nat}{a p:Prc}(ha:PB m a)(hp:PB n p)(ra:gK a)(rp:gK p):PB (m+n) (jP a p):=by
 by_cases c:n=0
 ·have e:jP a p=a:=by rw[hp.z c];exact wb (bP3 ra.f) (aU0 ra.r)
  rw[e,c];exact ha
 ·by_cases d:m=0
  ·have e:jP a p=p:=by rw[ha.z d];exact wb (bN6 rp.f) (bE9 rp.r)
   rw[e,d,qy];exact hp
  ·have b1:=ha.f (by lia);have b2:=ha.r (by lia);have b3:=hp.f (by lia);have b4:=hp.r (by lia);exact⟨fun z=>absurd z (by lia),fun _=>(cP7 b1 b3).mono (by unfold bdL;lia),fun _=>(cP1 b2 b4).mono (by unfold bdL;lia)⟩
theorem qB:PB 0 free:=⟨fun _=>rfl,fun h=>absurd h (by decide),fun h=>absurd h (by decide)⟩
theorem PB.when{m n:Nat}{a b:Prc}(ha:PB m a)(hb:PB n b):PB (m+n) (yM a b):=by
 refine⟨fun z=>?_,fun h=>?_,fun h=>?_⟩
 ·rw[ha.z (by lia),hb.z (by lia)];unfold yM mC free;decide
 ·rcases kU a.1 b.1 with e|e
  ·show gQ _ (mC a.1 b.1);rw[e];exact(ha.up (by lia) h).1
  ·show gQ _ (mC a.1 b.1);rw[e];exact(hb.up (by lia) h).1
 ·rcases kU a.2 b.2 with e|e
  ·show gQ _ (mC a.2 b.2);rw[e];exact(ha.up (by lia) h).2
  ·show gQ _ (mC a.2 b.2);rw[e];exact(hb.up (by lia) h).2
theorem aS9{m:Nat}{a:Prc}(ha:PB m a)(ra:gK a):∀n:Nat,PB (n*m) (fO (List.replicate n a))/\gK (fO (List.replicate n a))
 |0=>by rw[Nat.zero_mul];exact⟨qB,dX⟩
 |n+1=>by
  obtain⟨i1,i2⟩:=aS9 ha ra n;rw[wo,rL,oo];exact⟨i1.step ha i2 ra,mP i2 ra⟩
theorem pbz{ps:List Prc}{n:Nat}(h:∀(a:Prc) (m:Nat),gK a->PB m a->PB (m+n) (ps.foldl jP a)):PB n (fO ps):=by
 have:=h free 0 dX qB;rw[qy] at this;exact this
mutual
theorem aD8{H:Hp}(ss:List Str)(k:Nat):∀(r:Rw),dF H r->gK (pQ ss k r)/\PB (lV r) (pQ ss k r)
 |.thr p w x us d,h=>by
  have wk:=bR9 h.2.ws k;have t:=bW2 h.2.ok wk.1 wk.2;simp only[pQ,lV]
  split
  ·exact⟨t.1,fun z=>absurd z (by decide),fun _=>t.2.1.mono (by decide),fun _=>t.2.2.mono (by decide)⟩
  ·exact⟨dX,fun z=>absurd z (by decide),fun _=>(fb1 (by decide)).1,fun _=>(fb1 (by decide)).2⟩
 |.lt _ _ _,_=>by simp only[pQ,lV];exact⟨dX,qB⟩
 |.tell _ _,_=>by simp only[pQ,lV];exact⟨dX,qB⟩
 |.when _ _ _ _ a b,h=>by
  have i:=nZ ss k a h.2.2.2.2.2.1;have j:=nZ ss k b h.2.2.2.2.2.2;simp only[pQ,lV];exact⟨aT0 (pX i.1) (pX j.1),(pbz i.2).when (pbz j.2)⟩
 |.times _ _ n b,h=>by
  have i:=nZ ss k b h.2.2;have s:=pX i.1;simp only[pQ,lV];rw[<-aE8 s];have r:=aS9 (pbz i.2) s n.toNat;exact⟨r.2,r.1⟩
theorem nZ{H:Hp}(ss:List Str)(k:Nat):∀(rs:List Rw),aP H rs->(∀p∈pR ss k rs,gK p)/\∀(a:Prc) (m:Nat),gK a->PB m a->PB (m+iA rs) ((pR ss k rs).foldl jP a)
 |[],_=>by simp only[pR,iA];exact⟨fun _ z=>absurd z bc,fun a m _ h=>h⟩
 |r::rs,⟨h,hs⟩=>by
  have i:=aD8 ss k r h;have j:=nZ ss k rs hs;simp only[pR,iA];refine⟨fun p hp=>?_,fun a m ra pa=>?_⟩
  ·rcases bw.mp hp with rfl|hp
   ·exact i.1
   ·exact j.1 p hp
  ·rw[iy, <-Nat.add_assoc];exact j.2 _ _ (mP ra i.1) (pa.step i.2 ra i.1)
end
theorem vW{H:Hp}(ss:List Str)(k:Nat){rs:List Rw}(h:aP H rs):gK (jT ss k rs)/\PB (iA rs) (jT ss k rs):=⟨pX (nZ ss k rs h).1,pbz (nZ ss k rs h).2⟩
inductive Pt where
 |rows (p:Addr) (rs:List Rw)
 |row (r:Rw)
def Pt.p:Pt->Addr
 |.rows p _=>p
 |.row r=>r.p
def PtH(H:Hp):Pt->Prop
 |.rows p rs=>H p=some (.tup (bG rs))/\aP H rs
 |.row r=>dF H r
theorem PtH.ts{H H':Hp}(t:TS H H'):∀{e:Pt},PtH H e->PtH H' e
 |.rows _ rs,h=>⟨t _ _ h.1,aP.ts t rs h.2⟩
 |.row r,h=>dF.ts t r h
def Pt.kids:Pt->List Pt
 |.rows _ rs=>rs.map Pt.row
 |.row (.when _ pa pb _ a b)=>[.rows pa a,.rows pb b]
 |.row (.times _ pb _ b)=>[.rows pb b]
 |.row (.thr _ _ _ _ _)=>[]
 |.row (.lt _ _ _)=>[]
 |.row (.tell _ _)=>[]
def Pt.pr(ss:List Str)(k:Nat):Pt->Prc
 |.rows _ rs=>jT ss k rs
 |.row r=>pQ ss k r
def Pt.ld:Pt->Nat
 |.rows _ rs=>iA rs
 |.row r=>lV r
abbrev Plc:=List Int
abbrev PP:=Plc×Pt
def jF(pl:Plc)(i:Nat):List Pt->List PP
 |[]=>[]
 |c::cs=>(pl++[(i:Int)],c)::jF pl (i+1) cs
def eO(e:PP):List PP:=jF e.1 0 e.2.kids
theorem xD(pl:Plc):∀(i:Nat) (cs:List Pt),(jF pl i cs).length=cs.length
 |_,[]=>rfl
 |i,_::cs=>by simp only[jF,List.length_cons,xD pl (i+1) cs]
theorem aH3(pl:Plc):∀(i j:Nat) (cs:List Pt),(jF pl i cs)[j]?=(cs[j]?).map fun c=>(pl++[((i+j:Nat):Int)],c)
 |_,_,[]=>by simp[jF]
 |i,0,c::cs=>by simp[jF]
 |i,j+1,c::cs=>by
  simp only[jF,List.getElem?_cons_succ];rw[aH3 pl (i+1) j cs,show i+1+j=i+(j+1) by lia]
mutual
def dG(pl:Plc):Rw->List PP
 |.when p pa pb t a b=>(cX (pl++[0]) 0 a++[(pl++[0],.rows pa a)])++(cX (pl++[1]) 0 b++[(pl++[1],.rows pb b)])++[(pl,.row (.when p pa pb t a b))]
 |.times p pb n b=>(cX (pl++[0]) 0 b++[(pl++[0],.rows pb b)])++[(pl,.row (.times p pb n b))]
 |.thr p w x us d=>[(pl,.row (.thr p w x us d))]
 |.lt p x t=>[(pl,.row (.lt p x t))]
 |.tell p t=>[(pl,.row (.tell p t))]
def cX(pl:Plc)(i:Nat):List Rw->List PP
 |[]=>[]
 |r::rs=>dG (pl++[(i:Int)]) r++cX pl (i+1) rs
end
def dZ:PP->List PP
 |(pl,.rows p rs)=>cX pl 0 rs++[(pl,.rows p rs)]
 |(pl,.row r)=>dG pl r
theorem xI(pl:Plc):∀(i:Nat) (rs:List Rw),cX pl i rs=(jF pl i (rs.map Pt.row)).flatMap dZ
 |_,[]=>by simp only[cX,List.map_nil,jF,List.flatMap_nil]
 |i,r::rs=>by simp only[cX,List.map_cons,jF,List.flatMap_cons,xI pl (i+1) rs,dZ]
theorem nQ:∀e:PP,dZ e=(eO e).flatMap dZ++[e]
 |(pl,.rows p rs)=>by simp only[dZ,eO,Pt.kids];rw[xI]
 |(pl,.row (.when p pa pb t a b))=>by simp[dZ,dG,eO,Pt.kids,jF]
 |(pl,.row (.times p pb n b))=>by simp[dZ,dG,eO,Pt.kids,jF]
 |(pl,.row (.thr _ _ _ _ _))=>by simp[dZ,dG,eO,Pt.kids,jF]
 |(pl,.row (.lt _ _ _))=>by simp[dZ,dG,eO,Pt.kids,jF]
 |(pl,.row (.tell _ _))=>by simp[dZ,dG,eO,Pt.kids,jF]
theorem wW(e:PP):1<=(dZ e).length:=by rw[nQ];simp
theorem aY7:∀l:List PP,l.length<=(l.flatMap dZ).length
 |[]=>af _
 |t::r=>by have:=aY7 r;have:=wW t;rw[bx,kh,ap];lia
mutual
theorem aR4(pl:Plc):∀r:Rw,(dG pl r).length<=3*r.cnt
 |.when p pa pb t a b=>by have:=jN (pl++[0]) 0 a;have:=jN (pl++[1]) 0 b;simp only[dG,Rw.cnt,List.length_append,List.length_cons,List.length_nil];lia
 |.times p pb n b=>by have:=jN (pl++[0]) 0 b;simp only[dG,Rw.cnt,List.length_append,List.length_cons,List.length_nil];lia
 |.thr _ _ _ _ _=>by simp only[dG,Rw.cnt,List.length_cons,List.length_nil];lia
 |.lt _ _ _=>by simp only[dG,Rw.cnt,List.length_cons,List.length_nil];lia
 |.tell _ _=>by simp only[dG,Rw.cnt,List.length_cons,List.length_nil];lia
theorem jN(pl:Plc)(i:Nat):∀rs:List Rw,(cX pl i rs).length<=3*bS rs
 |[]=>by simp[cX]
 |r::rs=>by have:=aR4 (pl++[(i:Int)]) r;have:=jN pl (i+1) rs;simp only[cX,bS,List.length_append];lia
end
def nU(L:List PP):Prop:=∀A e B,L=A++e::B->∀c∈eO e,c∈A
theorem nU.nil:nU []:=fun A e B h=>by simp at h
theorem nU.app{L M:List PP}(a:nU L)(b:nU M):nU (L++M):=fun A e B h c hc=>by
 rcases List.append_eq_append_iff.mp h with⟨as,h1,h2⟩|⟨bs,h1,h2⟩
 ·rw[h1];exact be _ (b as e B h2 c hc)
 ·cases bs with
  |nil =>
   simp only[List.append_nil,List.nil_append] at h1 h2;rw[<-h1];have:=b [] e B h2.symm c hc;exact absurd this bc
  |cons x bs =>
   simp only[List.cons_append,List.cons.injEq] at h2;rw[<-h2.1] at h1;exact a A e bs h1 c hc
theorem rS(e:PP):e∈dZ e:=by rw[nQ];simp
theorem nU.flat:∀{l:List PP},(∀e∈l,nU (dZ e))->nU (l.flatMap dZ)
 |[],_=>nU.nil
 |e::l,h=>by
  rw[kh];exact(h e ao).app (nU.flat fun x hx=>h x (ak _ hx))
theorem nU.ord{e:PP}(h:∀c∈eO e,nU (dZ c)):nU (dZ e):=by
 have fl:=nU.flat h;intro A x B hx c hc;rw[nQ] at hx;rcases vq B with rfl|⟨B',b,rfl⟩
 ·obtain⟨h1,h2⟩:=yu hx rfl;have h2:e=x:=by simpa using h2
  rw[<-h1];rw[<-h2] at hc;exact io.mpr ⟨c,hc,rS c⟩
 ·have hx':(eO e).flatMap dZ++[e]=(A++x::B')++[b]:=by rw[hx];simp
  obtain⟨h1,_⟩:=yu hx' rfl;exact fl A x B' h1 c hc
mutual
theorem cT2:∀(r:Rw) (pl:Plc),nU (dZ (pl,.row r))
 |.when p pa pb t a b,pl=>nU.ord fun c hc=>by
  simp only[eO,Pt.kids,jF,List.mem_cons,List.not_mem_nil,or_false] at hc;rcases hc with rfl|rfl
  ·exact nU.ord fun c hc=>xW a _ 0 c hc
  ·exact nU.ord fun c hc=>xW b _ 0 c hc
 |.times p pb n b,pl=>nU.ord fun c hc=>by
  simp only[eO,Pt.kids,jF,List.mem_cons,List.not_mem_nil,or_false] at hc;rw[hc];exact nU.ord fun c hc=>xW b _ 0 c hc
 |.thr _ _ _ _ _,pl=>nU.ord fun c hc=>absurd hc bc
 |.lt _ _ _,pl=>nU.ord fun c hc=>absurd hc bc
 |.tell _ _,pl=>nU.ord fun c hc=>absurd hc bc
theorem xW:∀(rs:List Rw) (pl:Plc) (i:Nat),∀c∈jF pl i (rs.map Pt.row),nU (dZ c)
 |[],_,_,c,hc=>absurd hc bc
 |r::rs,pl,i,c,hc=>by
  simp only[List.map_cons,jF] at hc;rcases bw.mp hc with rfl|hc
  ·exact cT2 r _
  ·exact xW rs pl (i+1) c hc
end
theorem bI7(pl:Plc)(p:Addr)(rs:List Rw):nU (dZ (pl,.rows p rs)):=nU.ord fun c hc=>xW rs pl 0 c hc
def Ext(pl:Plc)(e:PP):Prop:=∃s,e.1=pl++s
mutual
theorem cH0:∀(r:Rw) (pl:Plc),∀e∈dG pl r,Ext pl e
 |.when p pa pb t a b,pl,e,h=>by
  simp only[dG,List.mem_append,List.mem_cons,List.not_mem_nil,or_false] at h;rcases h with((h|h)|(h|h))|h
  ·obtain⟨s,hs⟩:=sP a _ 0 e h;exact⟨[0]++s,by rw[hs.1,gj]⟩
  ·rw[h];exact⟨[0],rfl⟩
  ·obtain⟨s,hs⟩:=sP b _ 0 e h;exact⟨[1]++s,by rw[hs.1,gj]⟩
  ·rw[h];exact⟨[1],rfl⟩
  ·rw[h];exact⟨[],by simp⟩
 |.times p pb n b,pl,e,h=>by
  simp only[dG,List.mem_append,List.mem_cons,List.not_mem_nil,or_false] at h;rcases h with(h|h)|h
  ·obtain⟨s,hs⟩:=sP b _ 0 e h;exact⟨[0]++s,by rw[hs.1,gj]⟩
  ·rw[h];exact⟨[0],rfl⟩
  ·rw[h];exact⟨[],by simp⟩
 |.thr _ _ _ _ _,pl,e,h=>by simp only[dG,List.mem_cons,List.not_mem_nil,or_false] at h;rw[h];exact⟨[],by simp⟩
 |.lt _ _ _,pl,e,h=>by simp only[dG,List.mem_cons,List.not_mem_nil,or_false] at h;rw[h];exact⟨[],by simp⟩
 |.tell _ _,pl,e,h=>by simp only[dG,List.mem_cons,List.not_mem_nil,or_false] at h;rw[h];exact⟨[],by simp⟩
theorem sP:∀(rs:List Rw) (pl:Plc) (i:Nat),∀e∈cX pl i rs,∃s,e.1=pl++s/\∃(j:Nat) (u:Plc),i<=j/\s=(j:Int)::u
 |[],_,_,e,h=>by simp only[cX] at h;exact absurd h bc
 |r::rs,pl,i,e,h=>by
  simp only[cX,List.mem_append] at h;rcases h with h|h
  ·obtain⟨s,hs⟩:=cH0 r _ e h;exact⟨(i:Int)::s,by rw[hs,gj];rfl,i,s,af _,rfl⟩
  ·obtain⟨s,h1,j,u,h2,h3⟩:=sP rs pl (i+1) e h;exact⟨s,h1,j,u,by lia,h3⟩
end
def gG(l:List PP):List Plc:=l.map (·.1)
theorem aU6(a b:List PP):gG (a++b)=gG a++gG b:=bo
theorem rF{a b:List PP}(ha:(gG a).Nodup)(hb:(gG b).Nodup)(h:∀x∈a,∀y∈b,x.1≠y.1):(gG (a++b)).Nodup:=by
 rw[aU6,jf];refine⟨ha,hb,fun u hu v hv=>?_⟩;obtain⟨x,hx,rfl⟩:=fi.mp hu;obtain⟨y,hy,rfl⟩:=fi.mp hv;exact h x hx y hy
theorem oZ(e:PP):(gG [e]).Nodup:=by simp[gG]
theorem bC2{pl s:Plc}(h:pl++s=pl):s=[]:=by
 have:=eo List.length h;rw[ap] at this;exact rc (by lia)
theorem pW{pl:Plc}{p:Addr}{rs:List Rw}(h:(gG (cX pl 0 rs)).Nodup):(gG (cX pl 0 rs++[(pl,.rows p rs)])).Nodup:=rF h (oZ _) fun x hx y hy=>by
 rw[au.mp hy];obtain⟨s,h1,j,u,_,h3⟩:=sP rs pl 0 x hx;intro e;have e:x.1=pl:=e;rw[h1] at e;have:=bC2 e;rw[h3] at this
 cases this
theorem kG{pl:Plc}{p:Addr}{rs:List Rw}:∀e∈cX pl 0 rs++[(pl,.rows p rs)],Ext pl e:=fun e he=>by
 rcases bu.mp he with h|h
 ·obtain⟨s,h1,_⟩:=sP rs pl 0 e h;exact⟨s,h1⟩
 ·rw[au.mp h];exact⟨[],by simp⟩
theorem bB2{pl:Plc}{i j:Int}(h:i≠j){x y:PP}(hx:Ext (pl++[i]) x)(hy:Ext (pl++[j]) y):x.1≠y.1:=by
 obtain⟨s,hs⟩:=hx;obtain⟨t,ht⟩:=hy;rw[hs,ht,gj,gj];intro e;have:=uw e;simp only[List.cons_append,List.cons.injEq] at this;exact h this.1
theorem aE2{pl:Plc}{i:Int}{x:PP}{e:Pt}(hx:Ext (pl++[i]) x):x.1≠((pl,e):PP).1:=by
 obtain⟨s,hs⟩:=hx;rw[hs,gj];intro e;have:=bC2 e
 cases this
mutual
theorem ndR:∀(r:Rw) (pl:Plc),(gG (dG pl r)).Nodup
 |.when p pa pb t a b,pl=>by
  simp only[dG];refine rF (rF (pW (bE8 a _ 0)) (pW (bE8 b _ 0)) fun x hx y hy=>bB2 (by decide) (kG x hx) (kG y hy)) (oZ _) fun x hx y hy=>?_
  rw[au.mp hy];rcases bu.mp hx with h|h
  ·exact aE2 (kG x h)
  ·exact aE2 (kG x h)
 |.times p pb n b,pl=>by
  simp only[dG];refine rF (pW (bE8 b _ 0)) (oZ _) fun x hx y hy=>?_
  rw[au.mp hy];exact aE2 (kG x hx)
 |.thr _ _ _ _ _,pl=>by simp only[dG];exact oZ _
 |.lt _ _ _,pl=>by simp only[dG];exact oZ _
 |.tell _ _,pl=>by simp only[dG];exact oZ _
theorem bE8:∀(rs:List Rw) (pl:Plc) (i:Nat),(gG (cX pl i rs)).Nodup
 |[],_,_=>by simp only[cX];exact ot
 |r::rs,pl,i=>by
  simp only[cX];refine rF (ndR r _) (bE8 rs pl (i+1)) fun x hx y hy=>?_
  obtain⟨s,h1,j,u,h2,h3⟩:=sP rs pl (i+1) y hy;exact bB2 (pl:=pl) (i:=(i:Int)) (j:=(j:Int)) (by lia) (cH0 r _ x hx) ⟨u,by rw[h1,h3,gj];rfl⟩
end
theorem bY0(pl:Plc)(p:Addr)(rs:List Rw):(gG (dZ (pl,.rows p rs))).Nodup:=pW (bE8 rs pl 0)
mutual
theorem bZ8{H:Hp}:∀(r:Rw) (pl:Plc),dF H r->∀e∈dG pl r,PtH H e.2
 |.when p pa pb t a b,pl,h,e,he=>by
  simp only[dG,List.mem_append,List.mem_cons,List.not_mem_nil,or_false] at he;rcases he with((he|he)|(he|he))|he
  ·exact nK a _ 0 h.2.2.2.2.2.1 e he
  ·rw[he];exact⟨h.2.2.2.1,h.2.2.2.2.2.1⟩
  ·exact nK b _ 0 h.2.2.2.2.2.2 e he
  ·rw[he];exact⟨h.2.2.2.2.1,h.2.2.2.2.2.2⟩
  ·rw[he];exact h
 |.times p pb n b,pl,h,e,he=>by
  simp only[dG,List.mem_append,List.mem_cons,List.not_mem_nil,or_false] at he;rcases he with(he|he)|he
  ·exact nK b _ 0 h.2.2 e he
  ·rw[he];exact⟨h.2.1,h.2.2⟩
  ·rw[he];exact h
 |.thr _ _ _ _ _,pl,h,e,he=>by simp only[dG,List.mem_cons,List.not_mem_nil,or_false] at he;rw[he];exact h
 |.lt _ _ _,pl,h,e,he=>by simp only[dG,List.mem_cons,List.not_mem_nil,or_false] at he;rw[he];exact h
 |.tell _ _,pl,h,e,he=>by simp only[dG,List.mem_cons,List.not_mem_nil,or_false] at he;rw[he];exact h
theorem nK{H:Hp}:∀(rs:List Rw) (pl:Plc) (i:Nat),aP H rs->∀e∈cX pl i rs,PtH H e.2
 |[],_,_,_,e,he=>by simp only[cX] at he;exact absurd he bc
 |r::rs,pl,i,⟨h,hs⟩,e,he=>by
  simp only[cX,List.mem_append] at he;rcases he with he|he
  ·exact bZ8 r _ h e he
  ·exact nK rs pl (i+1) hs e he
end
theorem bR6{H:Hp}{pl:Plc}{p:Addr}{rs:List Rw}(h:H p=some (.tup (bG rs)))(hs:aP H rs):∀e∈dZ (pl,.rows p rs),PtH H e.2:=fun e he=>by
 rcases bu.mp he with z|z
 ·exact nK rs pl 0 hs e z
 ·rw[au.mp z];exact⟨h,hs⟩
mutual
theorem bK4{kd:Int}:∀(r:Rw) (pl:Plc),(∀q∈eU r,KdR kd q)->∀e∈dG pl r,e.2.ld<=lV r/\e.1.length<=pl.length+2*dep r/\(∀q,e.2= .row q->q∈eU r)
 |.when p pa pb t a b,pl,hk,e,he=>by
  simp only[eU] at hk;simp only[dG,List.mem_append,List.mem_cons,List.not_mem_nil,or_false] at he;have ha:∀q∈cU a,KdR kd q:=fun q hq=>hk q (ak _ (cg _ hq))
  have hb:∀q∈cU b,KdR kd q:=fun q hq=>hk q (ak _ (be _ hq))
  rcases he with((he|he)|(he|he))|he
  ·have:=kH a (pl++[0]) 0 ha e he;simp only[lV,dep,eU];rw[ap,ej] at this;exact⟨by lia,by lia,fun q hq=>ak _ (cg _ (this.2.2 q hq))⟩
  ·rw[he];simp only[lV,dep,eU,Pt.ld,List.length_append,List.length_singleton];exact⟨by lia,by lia,fun q hq=>by cases hq⟩
  ·have:=kH b (pl++[1]) 0 hb e he;simp only[lV,dep,eU];rw[ap,ej] at this;exact⟨by lia,by lia,fun q hq=>ak _ (be _ (this.2.2 q hq))⟩
  ·rw[he];simp only[lV,dep,eU,Pt.ld,List.length_append,List.length_singleton];exact⟨by lia,by lia,fun q hq=>by cases hq⟩
  ·rw[he];exact⟨af _,jb _ _,fun q hq=>by cases hq;simp[eU]⟩
 |.times p pb n b,pl,hk,e,he=>by
  simp only[eU] at hk;simp only[dG,List.mem_append,List.mem_cons,List.not_mem_nil,or_false] at he;have hb:∀q∈cU b,KdR kd q:=fun q hq=>hk q (ak _ hq)
  have hn:1<=n/\n<=3:=hk _ ao;have le:iA b<=n.toNat*iA b:=by
   have:=jd (iA b) (show 1<=n.toNat by lia);lia
  rcases he with(he|he)|he
  ·have:=kH b (pl++[0]) 0 hb e he;simp only[lV,dep,eU];rw[ap,ej] at this;exact⟨by lia,by lia,fun q hq=>ak _ (this.2.2 q hq)⟩
  ·rw[he];simp only[lV,dep,eU,Pt.ld,List.length_append,List.length_singleton];exact⟨by lia,by lia,fun q hq=>by cases hq⟩
  ·rw[he];exact⟨af _,jb _ _,fun q hq=>by cases hq;simp[eU]⟩
 |.thr _ _ _ _ _,pl,_,e,he=>by simp only[dG,List.mem_cons,List.not_mem_nil,or_false] at he;rw[he];exact⟨af _,jb _ _,fun q hq=>by cases hq;simp[eU]⟩
 |.lt _ _ _,pl,_,e,he=>by simp only[dG,List.mem_cons,List.not_mem_nil,or_false] at he;rw[he];exact⟨af _,jb _ _,fun q hq=>by cases hq;simp[eU]⟩
 |.tell _ _,pl,_,e,he=>by simp only[dG,List.mem_cons,List.not_mem_nil,or_false] at he;rw[he];exact⟨af _,jb _ _,fun q hq=>by cases hq;simp[eU]⟩
theorem kH{kd:Int}:∀(rs:List Rw) (pl:Plc) (i:Nat),(∀q∈cU rs,KdR kd q)->∀e∈cX pl i rs,e.2.ld<=iA rs/\e.1.length<=pl.length+1+2*qX rs/\(∀q,e.2= .row q->q∈cU rs)
 |[],_,_,_,e,he=>by simp only[cX] at he;exact absurd he bc
 |r::rs,pl,i,hk,e,he=>by
  simp only[cU] at hk;simp only[cX,List.mem_append] at he;simp only[iA,qX,cU];rcases he with he|he
  ·have:=bK4 r (pl++[(i:Int)]) (fun q hq=>hk q (cg _ hq)) e he;rw[ap,ej] at this;exact⟨by lia,by lia,fun q hq=>cg _ (this.2.2 q hq)⟩
  ·have:=kH rs pl (i+1) (fun q hq=>hk q (be _ hq)) e he;exact⟨by lia,by lia,fun q hq=>be _ (this.2.2 q hq)⟩
end
theorem aB9{kd:Int}{p:Addr}{rs:List Rw}(hk:uZ kd rs):∀e∈dZ ([],.rows p rs),e.2.ld<=iA rs/\e.1.length<=1+2*qX rs/\(∀q,e.2= .row q->KdR kd q):=fun e he=>by
 rcases bu.mp he with z|z
 ·have:=kH rs [] 0 hk e z;rw[jn,qy] at this;exact⟨this.1,this.2.1,fun q hq=>hk q (this.2.2 q hq)⟩
 ·rw[au.mp z];exact⟨af _,by show 0<=_;lia,fun q hq=>by cases hq⟩
def cP(K:W.Frag)(H:Hp)(p:Addr)(u:Fr):Prop:=aQ K H p [.int u.1,.int u.2]
theorem aQ.ts{K:W.Frag}{H H':Hp}(s:aO H H'){a:Addr}{xs:List V}:aQ K H a xs->aQ K H' a xs
 |.inl (.inl h)=> .inl (.inl (s _ _ h))
 |.inl (.inr ⟨o,h⟩)=> .inl (.inr ⟨o,s _ _ h⟩)
 |.inr h=> .inr h
theorem cP.of{K:W.Frag}{H:Hp}{p:Addr}{a b:Int}(h:gE H p a b):cP K H p (a,b):=aQ.of h
theorem cP.ofU{K:W.Frag}{H:Hp}{p:Addr}{u:Fr}(h:H p=some (.tup [.int u.1,.int u.2])):cP K H p u:=aQ.of h
theorem cP.s{K:W.Frag}{H H':Hp}(s:aO H H'){p:Addr}{u:Fr}(h:cP K H p u):cP K H' p u:=aQ.ts s h
def dU(K:W.Frag)(H:Hp)(v:V)(P:Prc):Prop:=∃a x y,v= .ref a/\aQ K H a [.ref x,.ref y]/\cP K H x P.1/\cP K H y P.2
theorem dU.s{K:W.Frag}{H H':Hp}(s:aO H H'){v:V}{P:Prc}:dU K H v P->dU K H' v P
 |⟨a,x,y,e,h,h1,h2⟩=>⟨a,x,y,e,aQ.ts s h,h1.s s,h2.s s⟩
def FrK(K:W.Frag)(H:Hp)(v:V)(u:Fr):Prop:=∃a,v= .ref a/\cP K H a u
theorem FrK.s{K:W.Frag}{H H':Hp}(s:aO H H'){v:V}{u:Fr}:FrK K H v u->FrK K H' v u
 |⟨a,e,h⟩=>⟨a,e,h.s s⟩
inductive spLowX(vs:List V)(H:Hp)(Q:VK)(z1:XK):Prop
 |mk:∀a b:Int,(vs=[.int a,.int b])->(0<=a)->(1<=b)->((∃n,cG n b/\n<=8990))->(∀p,H p=none->Q (.ref p) (aL H p (.tup [.int (eV a b).1,.int (eV a b).2])))->spLowX vs H Q z1
inductive oO(K:W.Frag)(vs:List V)(H:Hp)(Q:VK)(z1:XK):Prop
 |mk:∀(p q:Addr) (u e:Fr),(vs=[.ref p,.ref q])->(cP K H p u)->(cP K H q e)->(gQ 1000 u)->(gQ 1000 e)->(∀r,H r=none->Q (.ref r) (aL H r (.tup [.int (gU u e).1,.int (gU u e).2])))->oO K vs H Q z1
inductive aC6(K:W.Frag)(vs:List V)(H:Hp)(Q:VK)(z1:XK):Prop
 |mk:∀(p q:Addr) (u e:Fr),(vs=[.ref p,.ref q])->(cP K H p u)->(cP K H q e)->(gQ 1000 u)->(gQ 1000 e)->(∀r,H r=none->Q (.ref r) (aL H r (.tup [.int (sF u e).1,.int (sF u e).2])))->aC6 K vs H Q z1
inductive uU(K:W.Frag)(vs:List V)(H:Hp)(Q:VK)(z1:XK):Prop
 |mk:∀(p q:Addr) (u e:Fr),(vs=[.ref p,.ref q])->(cP K H p u)->(cP K H q e)->(gQ 1000 u)->(gQ 1000 e)->(Q (.bl (decide (u.1*e.2<e.1*u.2))) H)->uU K vs H Q z1
inductive rX(K:W.Frag)(vs:List V)(H:Hp)(Q:VK)(z1:XK):Prop
 |mk:∀(p:Addr) (u:Fr) (k:Int),(vs=[.ref p,.int k])->(cP K H p u)->(cG 1000 u.1)->(cG 1000 u.2)->(0<=k)->(k<=21)->(∀r,H r=none->Q (.ref r) (aL H r (.tup [.int (u.1^k.toNat),.int (u.2^k.toNat)])))->rX K vs H Q z1
inductive spTPow(vs:List V)(H:Hp)(Q:VK)(z1:XK):Prop
 |mk:∀(st:Addr) (p q k:Int),(vs=[.ref st,.int k])->(gE H st p q)->(yK p q)->(0<=k)->(k<=6)->(∀H' r,aO H H'->gE H' r (q^k.toNat) (p^k.toNat)->Q (.ref r) H')->spTPow vs H Q z1
def aK7(k:Nat):Rw->Prc
 |.thr _ _ _ _ d=>sX d.T (wK d k)
 |.lt _ _ _=>free
 |.tell _ _=>free
 |.when _ _ _ _ _ _=>free
 |.times _ _ _ _=>free
inductive spOne4(vs:List V)(H:Hp)(Q:VK)(z1:XK):Prop
 |mk:∀T:zV,(vs=[.str T.wd])->(∀H',aO H H'->Q (.bl T.one) H')->spOne4 vs H Q z1
inductive spPlc4(vs:List V)(H:Hp)(Q:VK)(z1:XK):Prop
 |mk:∀T:zV,(vs=[.str T.wd])->(Q (.int (if T.wd="first" then 5 else 2)) H)->spPlc4 vs H Q z1
inductive spSumT(vs:List V)(H:Hp)(Q:VK)(z1:XK):Prop
 |mk:∀p w x us d,(vs=[.ref p])->(dF H (.thr p w x us d))->(∀H' t us,aO H H'->H' t=some (.tup us)->cV (pU H') us d.wss->Q (.ref t) H')->spSumT vs H Q z1
inductive bG8(K:W.Frag)(vs:List V)(H:Hp)(Q:VK)(z1:XK):Prop
 |mk:∀p w x us d,∀k:Nat,(vs=[.ref p,.int k])->(dF H (.thr p w x us d))->(k<d.kd)->(∀H' v,aO H H'->dU K H' v (sX d.T (wK d k))->Q v H')->bG8 K vs H Q z1
inductive aY1(K:W.Frag)(vs:List V)(H:Hp)(Q:VK)(z1:XK):Prop
 |mk:∀r,∀k:Nat,(vs=[.ref r.p,.int k])->(dF H r)->((∀p w x us d,r= .thr p w x us d->k<d.kd))->(∀H' v,aO H H'->dU K H' v (aK7 k r)->Q v H')->aY1 K vs H Q z1
def SqB(ps:List Prc):Prop:=(∀p∈ps,gQ 1000 p.1/\gQ 1000 p.2)/\∀i,gQ 1000 (fO (ps.take i)).1/\gQ 1000 (fO (ps.take i)).2
inductive bB5(K:W.Frag)(vs:List V)(H:Hp)(Q:VK)(z1:XK):Prop
 |mk:∀l us ps,(vs=[.ref l])->(H l=some (.lst us))->(us.length<=4000)->(cV (dU K H) us ps)->(SqB ps)->(∀H' v,aO H H'->dU K H' v (fO ps)->Q v H')->bB5 K vs H Q z1
def grL:List Fr->Fr
 |[]=>(0,1)
 |f::fs=>(f::fs).foldl mC f
inductive bE7(K:W.Frag)(vs:List V)(H:Hp)(Q:VK)(z1:XK):Prop
 |mk:∀l us fs,(vs=[.ref l])->(H l=some (.lst us))->(1<=fs.length)->(fs.length<=1000)->(cV (FrK K H) us fs)->((∀f∈fs,gQ 1000 f))->(∀v,FrK K H v (grL fs)->Q v H)->bE7 K vs H Q z1
inductive bF1(K:W.Frag)(vs:List V)(H:Hp)(Q:VK)(z1:XK):Prop
 |mk:∀l us ps,(vs=[.ref l])->(H l=some (.lst us))->(1<=ps.length)->(ps.length<=1000)->(cV (dU K H) us ps)->((∀p∈ps,gQ 1000 p.1/\gQ 1000 p.2))->(∀H' v,aO H H'->dU K H' v (grL (ps.map (·.1)),grL (ps.map (·.2)))->Q v H')->bF1 K vs H Q z1
def Pt.isRow:Pt->Bool
 |.rows _ _=>false
 |.row _=>true
inductive spIsRow(vs:List V)(H:Hp)(Q:VK)(z1:XK):Prop
 |mk:∀e:Pt,(vs=[.ref e.p])->(PtH H e)->(Q (.bl e.isRow) H)->spIsRow vs H Q z1
def lT(cs:List Pt):List V:=cs.map fun c=>V.ref c.p
inductive spPRI(vs:List V)(H:Hp)(Q:VK)(z1:XK):Prop
 |mk:∀e:Pt,(vs=[.ref e.p])->(PtH H e)->(∀r H',aO H H'->H r=none->H' r=some (.lst (lT e.kids))->Q (.ref r) H')->spPRI vs H Q z1
def xA(H:Hp)(v:V)(pl:Plc):Prop:=∃a,v= .ref a/\H a=some (.tup (pl.map V.int))
theorem xA.ts{H H':Hp}(t:TS H H'){v:V}{pl:Plc}:xA H v pl->xA H' v pl
 |⟨a,e,h⟩=>⟨a,e,t _ _ h⟩
inductive spPlRI(vs:List V)(H:Hp)(Q:VK)(z1:XK):Prop
 |mk:∀(e:PP) (q:Addr),(vs=[.ref q,.ref e.2.p])->(H q=some (.tup (e.1.map V.int)))->(e.1.length<=100)->(e.2.kids.length<=4000)->(PtH H e.2)->(∀r zs H',aO H H'->H r=none->H' r=some (.lst zs)->cV (xA H') zs ((eO e).map (·.1))->Q (.ref r) H')->spPlRI vs H Q z1
def vV(H:Hp)(z:V)(e:PP):Prop:=∃q a,z= .ref q/\H q=some (.tup [.ref a,.ref e.2.p])/\H a=some (.tup (e.1.map V.int))
theorem vV.ts{H H':Hp}(t:TS H H'){z:V}{e:PP}:vV H z e->vV H' z e
 |⟨q,a,e1,h1,h2⟩=>⟨q,a,e1,t _ _ h1,t _ _ h2⟩
inductive spPlOf(vs:List V)(H:Hp)(Q:VK)(z1:XK):Prop
 |mk:∀p rs kd,(vs=[.ref p])->(H p=some (.tup (bG rs)))->(aP H rs)->(bS rs<=1300)->(qX rs<=3)->(uZ kd rs)->(∀r zs H',aO H H'->H' r=some (.lst zs)->cV (vV H') zs (dZ ([],.rows p rs))->Q (.ref r) H')->spPlOf vs H Q z1
def Pt.made:Pt->Bool
 |.rows _ _=>true
 |.row (.when _ _ _ _ _ _)=>true
 |.row (.times _ _ _ _)=>true
 |.row (.thr _ _ _ _ _)=>false
 |.row (.lt _ _ _)=>false
 |.row (.tell _ _)=>false
inductive aG5(K:W.Frag)(vs:List V)(H:Hp)(Q:VK)(z1:XK):Prop
 |mk:∀(e:Pt) (l:Addr) (us:List V) (ss:List Str) (k:Nat) (kd:Int),(vs=[.ref e.p,.ref l])->(PtH H e)->(e.made=true)->(e.ld<=6)->((∀q,e= .row q->KdR kd q))->(e.kids.length<=4000)->(H l=some (.lst us))->(cV (dU K H) us (e.kids.map (Pt.pr ss k)))->(∀H' v,aO H H'->dU K H' v (e.pr ss k)->Q v H')->aG5 K vs H Q z1
def KnN(H:Hp)(p:Addr)(rs:List Rw)(n:Nat):Prop:=∃(pk:Addr) (ks:List Str) (w:V),H p=some (.tup [.ref pk,w])/\H pk=some (.tup (ks.map V.str))/\ks.length=n/\1<=n/\n<=3/\uZ (n:Int) rs
theorem KnN.ts{H H':Hp}(t:TS H H'){p:Addr}{rs:List Rw}{n:Nat}:KnN H p rs n->KnN H' p rs n
 |⟨pk,ks,w,a,b,c⟩=>⟨pk,ks,w,t _ _ a,t _ _ b,c⟩
inductive bB3(K:W.Frag)(vs:List V)(H:Hp)(Q:VK)(z1:XK):Prop
 |mk:∀(p:Addr) (xs:List Str) (rs:List Rw) (k n:Nat),(vs=[.ref p,.int k])->(jV H p xs rs)->(KnN H p rs n)->(k<n)->(∀H' d kvs ss v,aO H H'->H' d=some (.dT kvs)->NdS rs ss->cJ kvs ([]:List Key)=some v->dU K H' v (jT ss k rs)->Q (.ref d) H')->bB3 K vs H Q z1
inductive bD7(K:W.Frag)(vs:List V)(H:Hp)(Q:VK)(z1:XK):Prop
 |mk:∀(p:Addr) (xs:List Str) (rs:List Rw) (k n:Nat),(vs=[.ref p,.int k])->(jV H p xs rs)->(KnN H p rs n)->(k<n)->(∀H' ss v,aO H H'->NdS rs ss->dU K H' v (jT ss k rs)->Q v H')->bD7 K vs H Q z1
theorem bK9{H:Hp}{d:TD}{x:Str}(h:aN0 H d):∃a,mE (.str d.T.wd :: .str x::d.vs) (if d.T.wd="first" then 5 else 2)=some a /\
  ((d.T.one=true/\∃w ws,a= .ref w/\H w=some (.tup (ws.map V.int))/\d.wss=[ws])\/(d.T.one=false/\∃sm us,a= .ref sm/\H sm=some (.tup us)/\cV (pU H) us d.wss)):=by
 obtain⟨vs,T,wss,kd⟩:=d
 cases T with
 |lad p q lo hi =>
  obtain⟨w,ws,st,e,e2,h1,_⟩:=h;refine⟨.ref w,?_,.inl ⟨rfl,w,ws,rfl,h1,e2⟩⟩;show mE (.str "ladder" :: .str x::vs) (if ("ladder": Str)="first" then 5 else 2)=_;rw[ay (show ¬(("ladder": Str)="first") by decide),show vs=_ from e];rfl
 |fla r lo hi =>
  obtain⟨w,ws,e,e2,h1⟩:=h;refine⟨.ref w,?_,.inl ⟨rfl,w,ws,rfl,h1,e2⟩⟩;show mE (.str "flat" :: .str x::vs) (if ("flat": Str)="first" then 5 else 2)=_;rw[ay (show ¬(("flat": Str)="first") by decide),show vs=_ from e];rfl
 |cho p q lo hi =>
  obtain⟨sm,us,st,e,h1,h2,_⟩:=h;refine⟨.ref sm,?_,.inr ⟨rfl,sm,us,rfl,h1,h2⟩⟩;show mE (.str "choose" :: .str x::vs) (if ("choose": Str)="first" then 5 else 2)=_;rw[ay (show ¬(("choose": Str)="first") by decide),show vs=_ from e];rfl
 |fst pa qa pb qb mk lo hi =>
  obtain⟨sm,us,sa,sb,e,h1,h2,_⟩:=h;refine⟨.ref sm,?_,.inr ⟨rfl,sm,us,rfl,h1,h2⟩⟩;show mE (.str "first" :: .str x::vs) (if ("first": Str)="first" then 5 else 2)=_;rw[br rfl,show vs=_ from e];rfl
theorem cA9:∀T:zV,wN (V.str T.wd) [.str "ladder",.str "flat"]=T.one
 |.lad .. =>by show wN (V.str "ladder") [.str "ladder",.str "flat"]=true;decide
 |.fla .. =>by show wN (V.str "flat") [.str "ladder",.str "flat"]=true;decide
 |.cho .. =>by show wN (V.str "choose") [.str "ladder",.str "flat"]=false;decide
 |.fst .. =>by show wN (V.str "first") [.str "ladder",.str "flat"]=false;decide
theorem nFL:¬(V.str "ladder"=V.str "flat"):=by decide
theorem nFC:¬(V.str "choose"=V.str "flat"):=by decide
theorem nFF:¬(V.str "first"=V.str "flat"):=by decide
theorem nIL:¬(V.str "ladder"=V.str "first"):=by decide
theorem nIC:¬(V.str "choose"=V.str "first"):=by decide
theorem cO9{d:TD}(h:aZ8 d){k:Nat}{i:Int}(hi:i∈d.wss.map fun ws=>ws.getD k 0)(hb:∀n∈d.wss.map (fun ws=>ws.getD k 0),n<=i):i=wK d k:=by
 refine bK0 (fun n hn=>?_) hi hb;obtain⟨ws,hw,rfl⟩:=fi.mp hn;rw[ge]
 cases q:ws[k]? with
 |none=>exact ko _
 |some y=>exact((h.ws ws hw).2 y (bj q)).1
theorem cL1{ws:List Int}{k:Nat}(h:k<ws.length):(ws.map V.int)[k]?=some (.int (ws.getD k 0)):=by
 rw[di,ge,aj h];rfl
theorem bS9{d:TD}(h:aZ8 d)(k:Nat):(d.wss.map fun ws=>ws.getD k 0)≠[]:=fun z=>by
 have e:=eo List.length z;rw[aa] at e;have l:=h.l1;rw[jn] at e;lia
theorem bJ9{H:Hp}{us:List V}{wss:List (List Int)}(tw:cV (pU H) us wss)(k:Nat):(wss.map fun ws=>ws.getD k 0).take us.length=wss.map fun ws=>ws.getD k 0:=by
 rw[tw.length, <-aa (f:=fun ws:List Int=>ws.getD k 0) (as:=wss),cq]
theorem bJ0{f:Fr}{fs:List Fr}{i:Nat}{g:Fr}(h:fs[i]?=some g):(fs.take (i+1)).foldl mC f=mC ((fs.take i).foldl mC f) g:=by
 rw[aY h,oy];rfl
theorem cK4{n:Nat}:∀{fs:List Fr}{f:Fr},gQ n f->(∀g∈fs,gQ n g)->gQ n (fs.foldl mC f)
 |[],_,h,_=>h
 |g::fs,f,h,k=>by
  rw[iy];refine cK4 ?_ fun x hx=>k x (ak _ hx)
  rcases kU f g with e|e
  ·rw[e];exact h
  ·rw[e];exact k g ao
theorem cI0{X:Cx}(K:W.Frag)(hK:autoParam (X.K=K) Rq0._auto_1):iQ X (binaryOp .Add) (bD4 K):=by subst hK;exact bO1
theorem nTW:¬(V.str "times"=V.str "when"):=by decide
theorem nLW:¬(V.str "let"=V.str "when")/\¬(V.str "let"=V.str "times"):=by decide
theorem nEW:¬(V.str "tell"=V.str "when")/\¬(V.str "tell"=V.str "times"):=by decide
theorem aS1{H:Hp}{w:Str}{us:List V}{d:TD}(h:jZ H w us d):¬(V.str w=V.str "when")/\¬(V.str w=V.str "times"):=by
 rw[h.wd]
 cases d.T with
 |lad _ _ _ _=>show ¬(V.str "ladder"=V.str "when")/\¬(V.str "ladder"=V.str "times");decide
 |fla _ _ _=>show ¬(V.str "flat"=V.str "when")/\¬(V.str "flat"=V.str "times");decide
 |cho _ _ _ _=>show ¬(V.str "choose"=V.str "when")/\¬(V.str "choose"=V.str "times");decide
 |fst _ _ _ _ _ _ _=>show ¬(V.str "first"=V.str "when")/\¬(V.str "first"=V.str "times");decide
theorem bI9(rs:List Rw):lT (rs.map Pt.row)=bG rs:=by
 unfold lT bG;rw[mq];rfl
theorem jB(cs:List Pt):(lT cs).length=cs.length:=by unfold lT;rw[aa]
theorem jK(e:PP):(eO e).length=e.2.kids.length:=xD _ _ _
theorem vA{e:PP}{i:Nat}{c:Pt}(h:e.2.kids[i]?=some c):(eO e)[i]?=some (e.1++[(i:Int)],c):=by
 unfold eO;rw[aH3,h,qy];rfl
theorem oR{e:PP}{i:Nat}(h:i<e.2.kids.length):((eO e).map (·.1))[i]?=some (e.1++[(i:Int)]):=by
 rw[di,vA (aj h)];rfl
theorem bG5{n:Nat}{p:Prc}(h:PB n p)(l:n<=6):gQ 1000 p.1/\gQ 1000 p.2:=⟨(h.up l (by decide)).1.mono (by decide),(h.up l (by decide)).2.mono (by decide)⟩
theorem aP.take{H:Hp}:∀{rs:List Rw}(i:Nat),aP H rs->aP H (rs.take i)
 |[],i,_=>by rw[List.take_nil];trivial
 |r::rs,0,_=>trivial
 |r::rs,i+1,⟨h,k⟩=>⟨h,aP.take i k⟩
theorem bK8(rs:List Rw)(i:Nat):iA (rs.take i)<=iA rs:=by
 have:=nA (rs.take i) (rs.drop i);rw[ke] at this;lia
theorem aY9:∀{rs:List Rw}{r:Rw},r∈rs->lV r<=iA rs
 |_::rs,r,h=>by
  simp only[iA];rcases bw.mp h with rfl|h
  ·lia
  ·have:=aY9 h;lia
theorem cD8{H:Hp}{ss:List Str}{k:Nat}{rs:List Rw}(h:aP H rs)(l:iA rs<=6):SqB (pR ss k rs):=by
 refine⟨fun p hp=>?_,fun i=>?_⟩
 ·rw[nC] at hp;obtain⟨r,hr,rfl⟩:=fi.mp hp;have:=aY9 hr;exact bG5 (aD8 ss k r (h.mem r hr)).2 (by lia)
 ·have e:(pR ss k rs).take i=pR ss k (rs.take i):=by rw[nC,nC,wv]
  rw[e];have:=bK8 rs i;exact bG5 (vW ss k (h.take i)).2 (by lia)
theorem bL9(f:Fr):mC f f=f:=by unfold mC;split<;>rfl
theorem aJ5(a b:Fr):grL [a,b]=mC a b:=by
 show mC (mC a a) b=_;rw[bL9]
theorem aQ0{ss:List Str}{k:Nat}{r:Rw}(h:fP ss r=true):pQ ss k r=free:=by
 unfold fP at h
 cases r with
 |thr p w x us d =>
  have:x∉ss:=fun z=>by simp[Rw.sets,z] at h
  simp only[pQ,if_neg this]
 |lt _ _ _=>simp only[pQ]
 |tell _ _=>simp[Rw.sets] at h
 |when _ _ _ _ _ _=>simp[Rw.sets] at h
 |times _ _ _ _=>simp[Rw.sets] at h
theorem cF7{ss:List Str}{k:Nat}{r:Rw}(h:fP ss r=false)(hk:(Pt.row r).kids=[]):pQ ss k r=aK7 k r:=by
 unfold fP at h
 cases r with
 |thr p w x us d =>
  have:x∈ss:=by simpa [Rw.sets] using h
  simp only[pQ,if_pos this,aK7]
 |lt _ _ _=>simp only[pQ,aK7]
 |tell _ _=>simp only[pQ,aK7]
 |when _ _ _ _ _ _=>simp[Pt.kids] at hk
 |times _ _ _ _=>simp[Pt.kids] at hk
theorem aT3{r:Rw}(h:(Pt.row r).kids≠[]):(Pt.row r).made=true:=by
 cases r with
 |thr _ _ _ _=>exact absurd rfl h
 |lt _ _ _=>exact absurd rfl h
 |tell _ _=>exact absurd rfl h
 |when _ _ _ _ _ _=>rfl
 |times _ _ _ _=>rfl
def kyP(pl:Plc):List Key:=pl.map Sum.inl
theorem bG6(pl:Plc):(kyP pl).map kV=pl.map V.int:=by
 unfold kyP;rw[mq];rfl
theorem cF9{a b:Plc}(h:kyP a=kyP b):a=b:=by
 unfold kyP at h;exact(List.map_inj_right (fun x y e=>by injection e)).mp h
def xN(K:W.Frag)(H:Hp)(kvs:List (List Key×V))(ss:List Str)(k:Nat)(L:List PP):Prop:=∀e∈L,∃v,cJ kvs (kyP e.1)=some v/\dU K H v (e.2.pr ss k)
def pI(d:Addr)(H H':Hp):Prop:=∀a o,a≠d->H a=some o->H' a=some o
theorem pI.refl(d:Addr)(H:Hp):pI d H H:=fun _ _ _ h=>h
theorem pI.trans{d:Addr}{H H1 H2:Hp}(a:pI d H H1)(b:pI d H1 H2):pI d H H2:=fun c o n h=>b c o n (a c o n h)
theorem pI.of{d:Addr}{H H':Hp}(s:aO H H'):pI d H H':=fun c o _ h=>s c o h
theorem pI.upd{d:Addr}{H:Hp}{o:HO}:pI d H (aL H d o):=fun c u n h=>by rw[aG n];exact h
theorem pI.same{d:Addr}{H H1 H2:Hp}(s:aO H H1)(o:pI d H1 H2)(h:H d=none):aO H H2:=fun c u e=>o c u (aJ e h) (s c u e)
theorem pI.ts{d:Addr}{H H':Hp}{kvs:List (List Key×V)}(o:pI d H H')(h:H d=some (.dT kvs)):TS H H':=fun a xs e=>o a _ (fun z=>by rw[z,h] at e;cases e) e
theorem aQ.off{K:W.Frag}{d:Addr}{H H':Hp}{kvs:List (List Key×V)}(o:pI d H H')(h:H d=some (.dT kvs)){a:Addr}{xs:List V}:aQ K H a xs->aQ K H' a xs
 |.inl (.inl e)=> .inl (.inl (o _ _ (fun z=>by rw[z,h] at e;cases e) e))
 |.inl (.inr ⟨u,e⟩)=> .inl (.inr ⟨u,o _ _ (fun z=>by rw[z,h] at e;cases e) e⟩)
 |.inr e=> .inr e
theorem dU.off{K:W.Frag}{d:Addr}{H H':Hp}{kvs:List (List Key×V)}(o:pI d H H')(h:H d=some (.dT kvs)){v:V}{P:Prc}:dU K H v P->dU K H' v P
 |⟨a,x,y,e,h0,h1,h2⟩=>⟨a,x,y,e,aQ.off o h h0,aQ.off o h h1,aQ.off o h h2⟩
theorem bH4{α:Type}{l:List α}{i:Nat}{x:α}(h:l.Nodup)(hi:l[i]?=some x):x∉l.take i:=fun z=>by
 have il:=(aq.mp hi).1;have e:=ke i l;rw[<-e] at h;refine(jf.mp h).2.2 x z x ?_ rfl;rw[sw il,(aq.mp hi).2];exact ao
theorem xN.put{K:W.Frag}{H H':Hp}{kvs:List (List Key×V)}{ss:List Str}{k i:Nat}{L:List PP}{e:PP}{v:V}{d:Addr}
  (h:xN K H kvs ss k (L.take i)) (nd:(gG L).Nodup) (he:L[i]?=some e) (o:pI d H H') (hd:H d=some (.dT kvs)) (hv:dU K H' v (e.2.pr ss k)):xN K H' (cZ kvs (kyP e.1) v) ss k (L.take (i+1)):=fun c hc=>by
 rw[aY he] at hc;rcases bu.mp hc with z|z
 ·obtain⟨w,h1,h2⟩:=h c z;refine⟨w,?_,h2.off o hd⟩;rw[jI,ay fun q=>?_]
  ·exact h1
  ·have q:=cF9 q;have n:=bH4 (i:=i) nd (show(gG L)[i]?=some e.1 by unfold gG;rw[di,he];rfl);refine n ?_;rw[<-q];unfold gG;rw[<-wv];exact fi.mpr ⟨c,z,rfl⟩
 ·rw[au.mp z];exact⟨v,by rw[jI,br rfl],hv⟩
theorem cB0{L:List PP}(h:nU L){i:Nat}{e:PP}(he:L[i]?=some e):∀c∈eO e,c∈L.take i:=fun c hc=>by
 have il:=(aq.mp he).1;have e1:=ke i L;rw[sw il,(aq.mp he).2] at e1;exact h _ _ _ e1.symm c hc
theorem bN9(r:Rw):1<=r.cnt:=by cases r<;>simp only[Rw.cnt]<;>lia
theorem kY:∀rs:List Rw,rs.length<=bS rs
 |[]=>az _
 |r::rs=>by have:=bN9 r;have:=kY rs;simp only[bS,List.length_cons];lia
mutual
theorem klR(pl:Plc):∀r:Rw,∀e∈dG pl r,e.2.kids.length<=r.cnt+2
 |.when p pa pb t a b,e,he=>by
  have la:=kY a;have lb:=kY b;simp only[dG,List.mem_append,List.mem_cons,List.not_mem_nil,or_false] at he;simp only[Rw.cnt];rcases he with((he|rfl)|he|rfl)|rfl
  ·have:=bF9 (pl++[0]) 0 a e he;lia
  ·show(a.map Pt.row).length<=_;rw[aa];lia
  ·have:=bF9 (pl++[1]) 0 b e he;lia
  ·show(b.map Pt.row).length<=_;rw[aa];lia
  ·show 2<=_;lia
 |.times p pb n b,e,he=>by
  have lb:=kY b;simp only[dG,List.mem_append,List.mem_cons,List.not_mem_nil,or_false] at he;simp only[Rw.cnt];rcases he with(he|rfl)|rfl
  ·have:=bF9 (pl++[0]) 0 b e he;lia
  ·show(b.map Pt.row).length<=_;rw[aa];lia
  ·show 1<=_;lia
 |.thr _ _ _ _ _,e,he=>by simp only[dG,List.mem_cons,List.not_mem_nil,or_false] at he;rw[he];exact az _
 |.lt _ _ _,e,he=>by simp only[dG,List.mem_cons,List.not_mem_nil,or_false] at he;rw[he];exact az _
 |.tell _ _,e,he=>by simp only[dG,List.mem_cons,List.not_mem_nil,or_false] at he;rw[he];exact az _
theorem bF9(pl:Plc)(i:Nat):∀rs:List Rw,∀e∈cX pl i rs,e.2.kids.length<=bS rs+2
 |[],e,he=>by simp only[cX] at he;exact absurd he bc
 |r::rs,e,he=>by
  simp only[cX,List.mem_append] at he;simp only[bS];rcases he with he|he
  ·have:=klR (pl++[(i:Int)]) r e he;lia
  ·have:=bF9 pl (i+1) rs e he;lia
end
theorem bG0{pl:Plc}{p:Addr}{rs:List Rw}:∀e∈dZ (pl,.rows p rs),e.2.kids.length<=bS rs+2:=fun e he=>by
 rcases bu.mp he with z|z
 ·exact bF9 pl 0 rs e z
 ·rw[au.mp z];show(rs.map Pt.row).length<=_;rw[aa];have:=kY rs;lia
theorem aF9{pl:Plc}{p:Addr}{rs:List Rw}:(dZ (pl,.rows p rs)).length<=3*bS rs+1:=by
 have:=jN pl 0 rs;show(cX pl 0 rs++[(pl,Pt.rows p rs)]).length<=_;rw[ap,ej];lia
theorem bF6{α:Type}{R:V->α->Prop}:∀{vs:List V}{as:List α},vs.length=as.length->(∀(i:Nat) v a,vs[i]?=some v->as[i]?=some a->R v a)->cV R vs as
 |[],[],_,_=>trivial
 |v::vs,a::as,l,h=>⟨h 0 v a rfl rfl,bF6 (by simpa using l) fun i x y hx hy=>h (i+1) x y (by simpa using hx) (by simpa using hy)⟩
 |[],_::_,l,_=>by simp at l
 |_::_,[],l,_=>by simp at l
theorem bI8{K:W.Frag}{H:Hp}{us:List V}{P:Prc}(h:cV (dU K H) us [P]):∃a,us=[.ref a]/\∃x y,aQ K H a [.ref x,.ref y]/\cP K H x P.1/\cP K H y P.2:=by
 have l:=h.length
 cases us with
 |nil=>cases l
 |cons u r =>
  cases r with
  |nil =>
   obtain⟨⟨a,x,y,e,h1,h2,h3⟩,_⟩:=h;exact⟨a,by rw[e],x,y,h1,h2,h3⟩
  |cons _ _=>simp at l
end Mine
namespace L2
open PySem PySem.Spec PyProof.Rows
section
variable {prog:Program}{w:World}{A:Around}{E:Value->Shared->Prop}{h:Heap}{g:Array GenState}{d:Drawn}{t:Nat}{os:OsState}
variable {nm q:Str}{C N fI:Addr}{bs bm bmB bmN:List Value}{hdct:Bool}{sn:List Str}{sub:List Value}{ab:Bool}{col:Option Bool}{dd:Option Addr}{k0 k1 k2 k3 k5:Option Value}{B Bn newId nid inN initId:String}
end
section
variable {P:Program}{w:World}{H:Hp}{h:Heap}{a C dx:Addr}{fs:List (Str×V)}
end
section
variable {prog:Program}{w:World}{A:Around}{E:Value->Shared->Prop}{R:Result->Shared->Prop}{s:Shared}{K:W.Frag}{x C D:Addr}{ox:Obj}{od:Option Obj}{name:Str}{v:Value}{tk:Tok}
end
section
variable {prog:Program}{w:World}{A:Around}{E:Value->Shared->Prop}{R:Result->Shared->Prop}{s:Shared}{K:W.Frag}{x C D:Addr}{ox:Obj}{od:Option Obj}{name:Str}{v:Value}{tk:Tok}
end
section
variable {X:Cx}{pins:List (Addr×Obj)}{σ:St}{H:Hp}{s:Shared}{a C D dx:Addr}{fs:List (Str×V)}{f:Str}{v:V}{A:Around}{E:Value->Shared->Prop}
end
section
variable {prog:Program}{w:World}{A:Around}{E:Value->Shared->Prop}{h:Heap}{g:Array GenState}{d:Drawn}{t:Nat}{os:OsState}
variable {nm q:Str}{C N fI:Addr}{bs bm bmB bmN:List Value}{hdct:Bool}{sn:List Str}{sub:List Value}{ab:Bool}{col:Option Bool}{dd:Option Addr}{k0 k1 k2 k3 k5:Option Value}{B Bn newId nid inN initId:String}
end
section
variable {X:Cx}{CX:CXT}{k:Nat}{f C D:Addr}{fd:FuncData}{ps:List Str}{sp:Sp}{E:XK}{x:Str}{p pos:Pos}{e:Expr}{es:List Expr}{t:TA}
end
open PySem PySem.Spec PyProof.Rows PySem.W
section
variable {M:Model}{A:Around}{E:Value->Shared->Prop}{s:Shared}{base:Heap}{env:Env}{outer:List Env}{L x T C:Addr}{Q:Unit->Shared->Prop}
end
section
variable {X:Cx}{pins:List (Addr×Obj)}{σ:St}{H:Hp}{s:Shared}
end
section
variable {X:Cx}{pins:List (Addr×Obj)}{σ:St}{H:Hp}{s:Shared}{x:Addr}
end
section
variable {X:Cx}
end
section
variable {P:Program}{w:World}{K:W.Frag}{mg:Str->Option Value}{base:Heap}
end
section
variable {X:Cx}{k:Nat}{f:Addr}{fd:FuncData}{ps:List Str}{sp:Sp}{x:Str}{p pos:Pos}{e:Expr}{es:List Expr}{t:TA}
end
open PySem PySem.Spec PyProof.Rows
section
variable {P:Program}{w:World}{H:Hp}{h:Heap}{a C dx:Addr}
end
section
variable {X:Cx}{pins:List (Addr×Obj)}{σ:St}{H:Hp}{s:Shared}{a C dx:Addr}{f:Str}
end
section
variable {X:Cx}{CX:CXT}{k:Nat}{f C D:Addr}{fd:FuncData}{ps:List Str}{sp:Sp}{E:XK}{x:Str}{p pos:Pos}{e:Expr}{es:List Expr}{t:TA}
end
open PySem PySem.Spec PyProof.Rows PySem.W
section
variable {M:Model}{A:Around}{E:Value->Shared->Prop}{s:Shared}{base:Heap}{env:Env}{outer:List Env}{L x T C dx:Addr}{Q:Unit->Shared->Prop}
end
section
variable {X:Cx}{pins:List (Addr×Obj)}{σ:St}{H:Hp}{s:Shared}
end
section
variable {M:Model}{A:Around}{E:Value->Shared->Prop}{env:Env}
variable {nm q:Str}{C N:Addr}{bs bm:List Value}{hdct:Bool}{sn:List Str}{sub:List Value}{ab:Bool}{col:Option Bool}{dd:Option Addr}{k0 k1 k2 k3 k5:Option Value}{newId:String}
end
section
variable {X:Cx}
end
section
variable {X:Cx}{f:Str}
end
section
variable {P:Program}{w:World}{K:W.Frag}{mg:Str->Option Value}{base:Heap}{N:List Str}{qual:Str}{scope:Scope}{f:Addr}{cd:Value}{A:Around}{outer:List Env}{s0:Shared}{H0:Hp}{E:XK}
end
section
variable {P:Program}{w:World}{K:W.Frag}{mg:Str->Option Value}{base:Heap}
end
open PySem PySem.Spec PyProof.Rows
section
variable {P:Program}{w:World}{K:W.Frag}{mg:Str->Option Value}{base:Heap}
variable {x p1 p2:Str}{st:Stmt}{n:Nat}{sp:Sp}
end
section
variable {X:Cx}{x:Str}{p pos:Pos}{e:Expr}{es:List Expr}{t:TA}
end
section
variable {P:Program}{w:World}{K:W.Frag}{mg:Str->Option Value}{base:Heap}{N:List Str}{qual:Str}{scope:Scope}{f:Addr}{cd:Value}{A:Around}{outer:List Env}{s:Shared}{H:Hp}{E:XK}
end
theorem bL8{X:Cx}:iQ X (compareOp .IsNot) (fun x y H Q=>∃a b,x= .bl a/\y= .bl b/\Q (.bl (a != b)) H):=by
 intro pins s σ H x y v u Q I rx ry h;obtain⟨a,b,rfl,rfl,q⟩:=h
 cases rx
 cases ry
 exact isnot_bool ⟨.bl (a != b),H,I,rfl,q⟩
section
variable {P:Program}{w:World}{K:W.Frag}{mg:Str->Option Value}{base:Heap}
def cD6(K:W.Frag)(x:Str)(st:Stmt)(f:Addr)(i:Int):Prop:=∃(oc:Value) (od:Option Addr) (T:Addr) (kV dc pm:Value) (an:Option Addr) (cd ct:Value) (sl:Array (Option Value)) (o:Obj) (n:Nat) (t:Tok),K.lookup f=some ⟨oc,od,.func (W.fnOf x x (cC st) (bQ st) (aU st) (.ref T) kV dc pm an cd ct),sl⟩/\W.codeIn K cd x=true/\W.keepIn K (.ref f)=true/\K.lookup T=some o/\o.data= .seq #[.int i t] n
def bZ9(K:W.Frag)(x:Str)(st:Stmt)(i:Int):Prop:=∃f,W.nsIn K mainGlobals x=some (some (.ref f))/\cD6 K x st f i
end
section
variable {X:Cx}{x:Str}{p pos:Pos}{e:Expr}{es:List Expr}{t:TA}
end
section
variable {P:Program}{w:World}{K:W.Frag}{mg:Str->Option Value}{base:Heap}
section
variable {x p1 p2 p3 p4:Str}{st:Stmt}{n:Nat}{sp:Sp}{i:Int}(Z:Zx P w K mg base) (t:bZ9 K x st i)
include Z t
end
end
section
variable {X:Cx}{x:Str}{p pos:Pos}{e:Expr}{es:List Expr}{t:TA}
end
open PySem PySem.Spec PyProof.Rows PySem.W
section
variable {X:Cx}{pins:List (Addr×Obj)}{σ:St}{H:Hp}{s:Shared}
end
section
variable {X:Cx}{CX:CXT}{k:Nat}{f C:Addr}{fd:FuncData}{ps:List Str}{sp:Sp}{dvs:List V}{ds:List Value}{E:St->XK}{x m:Str}{p pos apos:Pos}{e o:Expr}{es:List Expr}{ta:TE}{t:TA}
end
section
variable {X:Cx}{x:Str}{p pos:Pos}{e:Expr}{es:List Expr}{t:TA}
end
open PySem PySem.Spec PyProof.Rows
section
variable {P:Program}{w:World}{K:W.Frag}{mg:Str->Option Value}{base:Heap}
end
section
variable {X:Cx}{x:Str}{p pos:Pos}{e:Expr}{es:List Expr}{t:TA}
end
end L2
namespace Mine
open PySem L2
theorem bI6:∀x y:Fin 8,y.val<=x.val->1<=(1+y.val) / Nat.gcd (1+y.val) (2+x.val)/\(1+y.val) / Nat.gcd (1+y.val) (2+x.val)<(2+x.val) / Nat.gcd (1+y.val) (2+x.val)/\(2+x.val) / Nat.gcd (1+y.val) (2+x.val)<=9 /\
  Nat.gcd ((1+y.val) / Nat.gcd (1+y.val) (2+x.val)) ((2+x.val) / Nat.gcd (1+y.val) (2+x.val))=1/\(2*(1+y.val)<=2+x.val->2*((1+y.val) / Nat.gcd (1+y.val) (2+x.val))<=(2+x.val) / Nat.gcd (1+y.val) (2+x.val)):=by decide
theorem bL6{x y:Int}(x0:0<=x)(x8:x<8)(y0:0<=y)(yx:y<=x):Cop (eK (1+y) (2+x)) (dO (1+y) (2+x))/\(2*(1+y)<=2+x->2*eK (1+y) (2+x)<=dO (1+y) (2+x)):=by
 obtain⟨a,rfl⟩:=dy x0;obtain⟨b,rfl⟩:=dy y0;obtain⟨h1,h2,h3,h4,h5⟩:=bI6 ⟨a,by lia⟩ ⟨b,by lia⟩ (by show b<=a;lia);have e1:eK (1+(b:Int)) (2+(a:Int))=(((1+b) / Nat.gcd (1+b) (2+a):Nat):Int):=by
  unfold eK gI;rw[show(1+(b:Int)).toNat=1+b from by lia,show(2+(a:Int)).toNat=2+a from by lia];simp
 have e2:dO (1+(b:Int)) (2+(a:Int))=(((2+a) / Nat.gcd (1+b) (2+a):Nat):Int):=by
  unfold dO gI;rw[show(1+(b:Int)).toNat=1+b from by lia,show(2+(a:Int)).toNat=2+a from by lia];simp
 rw[e1,e2]
 dsimp only at h1 h2 h3 h4 h5
 exact⟨⟨⟨by lia,by lia,by lia⟩,by rw[dz,dz];exact h4⟩,fun z=>by have:=h5 (by lia);lia⟩
mutual
theorem bU8:∀r:Rw,dep r=r.dp
 |.thr _ _ _ _ _=>rfl
 |.lt _ _ _=>rfl
 |.tell _ _=>rfl
 |.when _ _ _ _ a b=>by simp only[dep,Rw.dp,jU a,jU b]
 |.times _ _ _ b=>by simp only[dep,Rw.dp,jU b]
theorem jU:∀rs:List Rw,qX rs=pP rs
 |[]=>rfl
 |r::rs=>by simp only[qX,pP,bU8 r,jU rs]
end
mutual
theorem bZ3:∀{r:Rw},aP0 r->∀q∈eU r,∀t∈q.tm,t.size<=7
 |.thr _ _ _ _ _,_,q,hq,t,ht=>by rw[au.mp hq] at ht;exact absurd ht bc
 |.lt _ _ _,h,q,hq,t,ht=>by rw[au.mp hq] at ht;rw[au.mp ht];exact h
 |.tell _ _,h,q,hq,t,ht=>by rw[au.mp hq] at ht;rw[au.mp ht];exact h
 |.when _ _ _ _ a b,h,q,hq,t,ht=>by
  rcases bw.mp hq with z|z
  ·rw[z] at ht;rw[au.mp ht];exact h.1
  ·rcases bu.mp z with z|z
   ·exact mJ h.2.1 q z t ht
   ·exact mJ h.2.2 q z t ht
 |.times _ _ _ b,h,q,hq,t,ht=>by
  rcases bw.mp hq with z|z
  ·rw[z] at ht;exact absurd ht bc
  ·exact mJ h q z t ht
theorem mJ:∀{rs:List Rw},jS rs->∀q∈cU rs,∀t∈q.tm,t.size<=7
 |[],_,q,hq,_,_=>absurd hq bc
 |r::rs,h,q,hq,t,ht=>by
  rcases bu.mp hq with z|z
  ·exact bZ3 h.1 q z t ht
  ·exact mJ h.2 q z t ht
end
theorem aZ3{q:Rw}{t:Tm}(h:t∈q.tm):∀y∈t.names,y∈q.asked:=by
 cases q with
 |thr p w x us d=>exact absurd h bc
 |lt p x u=>rw[au.mp h];exact fun y hy=>hy
 |tell p u=>rw[au.mp h];exact fun y hy=>hy
 |when p pa pb u a b=>rw[au.mp h];exact fun y hy=>hy
 |times p pb n b=>exact absurd h bc
theorem bW0{xs:List Str}{rs:List Rw}(h:jS rs)(n:∀y∈pH rs,y∈xs):OkL xs rs:=fun q hq t ht =>
 ⟨mJ h q hq t ht,fun y hy=>n y (io.mpr ⟨q,hq,be _ (aZ3 ht y hy)⟩)⟩
theorem PgL.prg{H:Hp}{p:Addr}{ks xs:List Str}{rs:List Rw}(P:PgL H p ks rs 1)(kd:uZ (ks.length:Int) rs)(ld:iA rs<=6)(n:∀y∈pH rs,y∈xs)(xl:xs.length<=9):jV H p xs rs:=by
 obtain⟨pk,pr,a,b,c⟩:=P.ex;have:=P.cnt;have:=P.dp;exact⟨⟨_,pr,a,c⟩,⟨pk,ks,_,a,b,P.k1,P.k3,kd⟩,ld,P.rows,by lia,by rw[jU];lia,bW0 P.tz n,by lia⟩
inductive aU7(n:Nat)(vs:List V)(H:Hp)(Q:VK)(z1:XK):Prop
 |mk:∀(p:Addr) (rs:List Rw),(vs=[.ref p])->(H p=some (.tup (bG rs)))->(aP H rs)->(pP rs<=n)->(bS rs<=900)->(∀(l:Addr) (H':Hp),aO H H'->H' l=some (.lst (bG (cU rs)))->Q (.ref l) H')->aU7 n vs H Q z1
def aI8:Nat->Sp
 |0=>fun _ _ _ _=>False
 |n+1=>aU7 n
section
variable (ss:List Str)
mutual
def eE:Rw->Rw->Prop
 |.when _ _ _ t a b,q=>∃p pa pb a' b',q= .when p pa pb t a' b'/\fJ a a'/\fJ b b'
 |.times _ _ n b,q=>∃p pb b',q= .times p pb n b'/\fJ b b'
 |.thr p w x us d,q=>q= .thr p w x us d
 |.lt p x t,q=>q= .lt p x t
 |.tell p t,q=>q= .tell p t
def fJ:List Rw->List Rw->Prop
 |[],o=>o=[]
 |r::rs,o=>∃o2,fJ rs o2/\((fP ss r=true/\o=o2)\/(fP ss r=false/\∃q,eE r q/\o=q::o2))
end
def ChT(_:Nat)(r:Rw)(o:List Rw):Prop:=(fP ss r=true/\o=[])\/(fP ss r=false/\o=[r])
end
section
variable {ss:List Str}
mutual
theorem bM4:∀(r:Rw) (k:Nat) {o:List Rw},Reb (ChT ss) k r o->(fP ss r=true/\o=[])\/(fP ss r=false/\∃q,eE ss r q/\o=[q])
 |.thr p w x us d,k,o,e=>by
  have e:ChT ss k (.thr p w x us d) o:=e;rcases e with e|⟨a,b⟩
  ·exact .inl e
  ·exact .inr ⟨a,_,by unfold eE;rfl,b⟩
 |.lt p x t,k,o,e=>by
  have e:ChT ss k (.lt p x t) o:=e;rcases e with e|⟨a,b⟩
  ·exact .inl e
  ·exact .inr ⟨a,_,by unfold eE;rfl,b⟩
 |.tell p t,k,o,e=>by
  have e:ChT ss k (.tell p t) o:=e;rcases e with e|⟨a,b⟩
  ·exact .inl e
  ·exact .inr ⟨a,_,by unfold eE;rfl,b⟩
 |.when p pa pb t a b,k,o,⟨p',pa',pb',a',b',ra,rb,e⟩=>by
  rcases e with⟨z,_⟩|⟨_,e⟩
  ·cases z
  ·exact .inr ⟨rfl,_,by unfold eE;exact⟨_,_,_,_,_,rfl,mY a _ ra,mY b _ rb⟩,e⟩
 |.times p pb n b,k,o,⟨p',pb',b',rb,e⟩=>by
  rcases e with⟨z,_⟩|⟨_,e⟩
  ·cases z
  ·exact .inr ⟨rfl,_,by unfold eE;exact⟨_,_,_,rfl,mY b _ rb⟩,e⟩
theorem mY:∀(rs:List Rw) (k:Nat) {o:List Rw},aD7 (ChT ss) k rs o->fJ ss rs o
 |[],_,_,e=>by unfold fJ;exact e
 |r::rs,k,o,⟨o1,o2,h1,h2,e⟩=>by
  unfold fJ;refine⟨o2,mY rs _ h2,?_⟩;rcases bM4 r k h1 with⟨a,b⟩|⟨a,q,b,c⟩
  ·exact .inl ⟨a,by rw[e,b];rfl⟩
  ·exact .inr ⟨a,q,b,by rw[e,c];rfl⟩
end
theorem aW4{r:Rw}(h:fP ss r=true):(∃p w x us d,r= .thr p w x us d/\x∉ss)\/∃p x t,r= .lt p x t/\x∉ss:=by
 cases r with
 |thr p w x us d=>exact .inl ⟨_,_,_,_,_,rfl,by simpa [fP,Rw.sets] using h⟩
 |lt p x t=>exact .inr ⟨_,_,_,rfl,by simpa [fP,Rw.sets] using h⟩
 |tell p t=>cases h
 |when p pa pb t a b=>cases h
 |times p pb n b=>cases h
mutual
theorem cC9:∀{r q:Rw},eE ss r q->q.cnt<=r.cnt/\lV q<=lV r/\q.dp<=r.dp/\zQ q=zQ r
 |.thr p w x us d,q,h=>by unfold eE at h;subst h;exact⟨af _,af _,af _,rfl⟩
 |.lt p x t,q,h=>by unfold eE at h;subst h;exact⟨af _,af _,af _,rfl⟩
 |.tell p t,q,h=>by unfold eE at h;subst h;exact⟨af _,af _,af _,rfl⟩
 |.when p pa pb t a b,q,h=>by
  unfold eE at h;obtain⟨p',pa',pb',a',b',rfl,ha,hb⟩:=h;obtain⟨a1,a2,a3,a4⟩:=jW ha;obtain⟨b1,b2,b3,b4⟩:=jW hb;refine⟨?_,?_,?_,?_⟩
  ·simp only[Rw.cnt];lia
  ·simp only[lV];lia
  ·simp only[Rw.dp];lia
  ·simp only[zQ,a4,b4]
 |.times p pb n b,q,h=>by
  unfold eE at h;obtain⟨p',pb',b',rfl,hb⟩:=h;obtain⟨b1,b2,b3,b4⟩:=jW hb;refine⟨?_,?_,?_,?_⟩
  ·simp only[Rw.cnt];lia
  ·simp only[lV];exact Nat.mul_le_mul_left _ b2
  ·simp only[Rw.dp];lia
  ·simp only[zQ,b4]
theorem jW:∀{rs o:List Rw},fJ ss rs o->bS o<=bS rs/\iA o<=iA rs/\pP o<=pP rs/\fB o=fB rs
 |[],o,h=>by unfold fJ at h;subst h;exact⟨af _,af _,af _,rfl⟩
 |r::rs,o,h=>by
  unfold fJ at h;obtain⟨o2,h2,h⟩:=h;obtain⟨b1,b2,b3,b4⟩:=jW h2;rcases h with⟨i,rfl⟩|⟨_,q,hq,rfl⟩
  ·have z:zQ r=0:=by rcases aW4 i with⟨p,w,x,us,d,rfl,_⟩|⟨p,x,t,rfl,_⟩<;>rfl
   refine⟨?_,?_,?_,?_⟩
   ·simp only[bS];lia
   ·simp only[iA];lia
   ·simp only[pP];lia
   ·simp only[fB,b4,z];lia
  ·obtain⟨a1,a2,a3,a4⟩:=cC9 hq;refine⟨?_,?_,?_,?_⟩
   ·simp only[bS];lia
   ·simp only[iA];lia
   ·simp only[pP];lia
   ·simp only[fB,a4,b4]
end
mutual
theorem bV9:∀{r q:Rw},eE ss r q->kA r->kA q
 |.thr p w x us d,q,h,o=>by unfold eE at h;subst h;exact o
 |.lt p x t,q,h,o=>by unfold eE at h;subst h;exact o
 |.tell p t,q,h,o=>by unfold eE at h;subst h;exact o
 |.when p pa pb t a b,q,h,o=>by
  unfold eE at h;obtain⟨p',pa',pb',a',b',rfl,ha,hb⟩:=h;simp only[kA] at o ⊢;rw[(jW ha).2.2.2,(jW hb).2.2.2];exact⟨o.1,oW ha o.2.1,oW hb o.2.2⟩
 |.times p pb n b,q,h,o=>by
  unfold eE at h;obtain⟨p',pb',b',rfl,hb⟩:=h;simp only[kA] at o ⊢;rw[(jW hb).2.2.2];exact⟨o.1,oW hb o.2⟩
theorem oW:∀{rs o:List Rw},fJ ss rs o->cD rs->cD o
 |[],o,h,_=>by unfold fJ at h;subst h;trivial
 |r::rs,o,h,k=>by
  unfold fJ at h;obtain⟨o2,h2,h⟩:=h;rcases h with⟨i,rfl⟩|⟨_,q,hq,rfl⟩
  ·exact oW h2 k.2
  ·exact⟨bV9 hq k.1,oW h2 k.2⟩
end
mutual
theorem bY7:∀{r q:Rw},eE ss r q->aP0 r->aP0 q
 |.thr p w x us d,q,h,o=>by unfold eE at h;subst h;exact o
 |.lt p x t,q,h,o=>by unfold eE at h;subst h;exact o
 |.tell p t,q,h,o=>by unfold eE at h;subst h;exact o
 |.when p pa pb t a b,q,h,o=>by
  unfold eE at h;obtain⟨p',pa',pb',a',b',rfl,ha,hb⟩:=h;exact⟨o.1,pA ha o.2.1,pA hb o.2.2⟩
 |.times p pb n b,q,h,o=>by
  unfold eE at h;obtain⟨p',pb',b',rfl,hb⟩:=h;exact pA (rs:=b) hb o
theorem pA:∀{rs o:List Rw},fJ ss rs o->jS rs->jS o
 |[],o,h,_=>by unfold fJ at h;subst h;trivial
 |r::rs,o,h,k=>by
  unfold fJ at h;obtain⟨o2,h2,h⟩:=h;rcases h with⟨i,rfl⟩|⟨_,q,hq,rfl⟩
  ·exact pA h2 k.2
  ·exact⟨bY7 hq k.1,pA h2 k.2⟩
end
end
def Rw.sx:Rw->Nat×List Tm×Str×Int
 |.thr _ _ x _ d=>(0,[],x,d.kd)
 |.lt _ x t=>(1,[t],x,0)
 |.tell _ t=>(2,[t],"",0)
 |.when _ _ _ t _ _=>(3,[t],"",0)
 |.times _ _ n _=>(4,[],"",n)
section
variable {ss:List Str}
def sxI(ss:List Str):Nat×List Tm×Str×Int->Bool
 |(0,_,x,_)=> !decide (x∈ss)
 |(1,_,x,_)=> !decide (x∈ss)
 |_=>false
theorem aW1(ss:List Str)(r:Rw):fP ss r=sxI ss r.sx:=by cases r<;>rfl
theorem bX5{r q:Rw}(h:q.sx=r.sx):fP ss q=fP ss r:=by rw[aW1,aW1,h]
mutual
theorem cB6:∀{r q:Rw},eE ss r q->fP ss r=false->(eU q).map Rw.sx=((eU r).filter fun z=> !fP ss z).map Rw.sx
 |.thr p w x us d,q,h,i=>by unfold eE at h;subst h;simp[eU,i]
 |.lt p x t,q,h,i=>by unfold eE at h;subst h;simp[eU,i]
 |.tell p t,q,h,i=>by unfold eE at h;subst h;simp[eU,i]
 |.when p pa pb t a b,q,h,i=>by
  unfold eE at h;obtain⟨p',pa',pb',a',b',rfl,ha,hb⟩:=h;simp only[eU,List.map_cons,List.map_append,List.filter_cons,i,List.filter_append,oM ha,oM hb,Rw.sx];simp[Rw.sx]
 |.times p pb n b,q,h,i=>by
  unfold eE at h;obtain⟨p',pb',b',rfl,hb⟩:=h;simp only[eU,List.map_cons,List.filter_cons,i,oM hb,Rw.sx];simp[Rw.sx]
theorem oM:∀{rs o:List Rw},fJ ss rs o->(cU o).map Rw.sx=((cU rs).filter fun z=> !fP ss z).map Rw.sx
 |[],o,h=>by unfold fJ at h;subst h;rfl
 |r::rs,o,h=>by
  unfold fJ at h;obtain⟨o2,h2,h⟩:=h;have e:=oM h2;rcases h with⟨i,rfl⟩|⟨i,q,hq,rfl⟩
  ·have z:eU r=[r]:=by rcases aW4 i with⟨p,w,x,us,d,rfl,_⟩|⟨p,x,t,rfl,_⟩<;>rfl
   simp only[cU,z,List.filter_append,List.filter_cons,i,List.map_append,e];simp
  ·simp only[cU,List.filter_append,List.map_append,e,cB6 hq i]
end
theorem rZ{rs o:List Rw}(h:fJ ss rs o){q:Rw}(hq:q∈cU o):∃r∈cU rs,q.sx=r.sx/\fP ss q=false:=by
 have:q.sx∈((cU rs).filter fun z=> !fP ss z).map Rw.sx:=by rw[<-oM h];exact jh hq
 obtain⟨r,hr,e⟩:=fi.mp this;obtain⟨h1,h2⟩:=fj.mp hr;exact⟨r,h1,e.symm,by rw[bX5 e.symm];simpa using h2⟩
theorem aS6{rs o:List Rw}(h:fJ ss rs o){r:Rw}(hr:r∈cU rs)(i:fP ss r=false):∃q∈cU o,q.sx=r.sx:=by
 have:r.sx∈(cU o).map Rw.sx:=by rw[oM h];exact jh (fj.mpr ⟨hr,by rw[i];rfl⟩)
 obtain⟨q,hq,e⟩:=fi.mp this;exact⟨q,hq,e⟩
theorem cO5(kd:Int)(r:Rw):KdR kd r↔(r.sx.1=0->r.sx.2.2.2=kd)/\(r.sx.1=4->1<=r.sx.2.2.2/\r.sx.2.2.2<=3):=by
 have no:∀{a b:Nat}{P:Prop},a≠b->a=b->P:=fun h e=>absurd e h
 cases r with
 |thr p w x us d=>exact⟨fun h=>⟨fun _=>h,no (show(0:Nat)≠4 by decide)⟩,fun h=>h.1 rfl⟩
 |times p pb n b=>exact⟨fun h=>⟨no (show(4:Nat)≠0 by decide),fun _=>h⟩,fun h=>h.2 rfl⟩
 |lt p x t=>exact⟨fun _=>⟨no (show(1:Nat)≠0 by decide),no (show(1:Nat)≠4 by decide)⟩,fun _=>trivial⟩
 |tell p t=>exact⟨fun _=>⟨no (show(2:Nat)≠0 by decide),no (show(2:Nat)≠4 by decide)⟩,fun _=>trivial⟩
 |when p pa pb t a b=>exact⟨fun _=>⟨no (show(3:Nat)≠0 by decide),no (show(3:Nat)≠4 by decide)⟩,fun _=>trivial⟩
theorem cJ2{kd:Int}{r q:Rw}(h:q.sx=r.sx)(k:KdR kd r):KdR kd q:=by rw[cO5] at k ⊢;rw[h];exact k
theorem bS7(r:Rw):r.tm=r.sx.2.1:=by cases r<;>rfl
theorem cN3{r q:Rw}(h:q.sx=r.sx):q.tm=r.tm:=by rw[bS7,bS7,h]
theorem aE9(r:Rw):r.told=if r.sx.1=2\/r.sx.1=3 then r.sx.2.1.flatMap Tm.names else []:=by cases r<;>simp[Rw.told,Rw.sx]
theorem aG1{r q:Rw}(h:q.sx=r.sx):q.told=r.told:=by rw[aE9,aE9,h]
theorem aY3(r:Rw):rnm r=(if r.sx.1=0\/r.sx.1=1 then [r.sx.2.2.1] else [])++r.sx.2.1.flatMap Tm.names:=by cases r<;>simp[rnm,Rw.sets,Rw.asked,Rw.sx]
theorem cA0{r q:Rw}(h:q.sx=r.sx):rnm q=rnm r:=by rw[aY3,aY3,h]
theorem cN0{kd:Int}{rs o:List Rw}(h:fJ ss rs o)(k:uZ kd rs):uZ kd o:=fun q hq=>by
 obtain⟨r,hr,e,_⟩:=rZ h hq;exact cJ2 e (k r hr)
theorem bU6{xs:List Str}{rs o:List Rw}(h:fJ ss rs o)(k:OkL xs rs):OkL xs o:=fun q hq=>by
 obtain⟨r,hr,e,_⟩:=rZ h hq;unfold OkR;rw[cN3 e];exact k r hr
theorem cR0{rs o:List Rw}(h:fJ ss rs o){x:Str}(m:x∈pH o):x∈pH rs:=by
 obtain⟨q,hq,hx⟩:=io.mp m;obtain⟨r,hr,e,_⟩:=rZ h hq;exact io.mpr ⟨r,hr,by rw[<-cA0 e];exact hx⟩
theorem aW3{fl fo:List Rw}(h:∀q∈fo,∃r∈fl,q.sx=r.sx){x:Str}(n:iF fo x):iF fl x:=by
 induction n with
 |@base r x hr m =>
  obtain⟨q,hq,e⟩:=h r hr;exact .base hq (by rw[<-aG1 e];exact m)
 |@step p y x t hr n m ih =>
  obtain⟨q,hq,e⟩:=h _ hr
  cases q<;>simp[Rw.sx] at e
  obtain⟨rfl,rfl⟩:=e;exact .step hq ih m
theorem bA1{r:Rw}{x:Str}(m:x∈r.told):fP ss r=false:=by
 cases r with
 |thr p w x us d=>exact absurd m bc
 |lt p x t=>exact absurd m bc
 |tell p t=>rfl
 |when p pa pb t a b=>rfl
 |times p pb n b=>rfl
theorem bM6{rs o:List Rw}(h:fJ ss rs o)(hs:∀x,x∈ss↔iF (cU rs) x)(x:Str):iF (cU o) x↔iF (cU rs) x:=by
 refine⟨fun n=>aW3 (fun q hq=>let⟨r,hr,e,_⟩:=rZ h hq;⟨r,hr,e⟩) n,fun n=>?_⟩
 induction n with
 |@base r x hr m =>
  obtain⟨q,hq,e⟩:=aS6 h hr (bA1 m);exact .base hq (by rw[aG1 e];exact m)
 |@step p y x t hr n m ih =>
  obtain⟨q,hq,e⟩:=aS6 h hr (by simp[fP,Rw.sets,(hs y).mpr n])
  cases q<;>simp[Rw.sx] at e
  obtain⟨rfl,rfl⟩:=e;exact .step hq ih m
theorem aA6{rs o:List Rw}(h:fJ ss rs o)(hs:NdS rs ss):NdS o ss:=⟨hs.nd,hs.st,fun x=>(hs.mem x).trans (bM6 h hs.mem x).symm⟩
def bH0(ss:List Str)(rs:List Rw):Prop:=∀r∈cU rs,fP ss r=false->∀y∈r.asked,y∈ss
theorem bT7{rs:List Rw}(hs:NdS rs ss):bH0 ss rs:=fun r hr i y hy=>by
 refine(hs.mem y).mpr ?_
 cases r with
 |thr p w x us d=>exact absurd hy bc
 |lt p x t =>
  refine .step hr ((hs.mem x).mp ?_) hy
  simpa [fP,Rw.sets] using i
 |tell p t=>exact .base hr hy
 |when p pa pb t a b=>exact .base hr hy
 |times p pb n b=>exact absurd hy bc
mutual
theorem bW5:∀{r q:Rw}{ks k2 ks':List Str},eE ss r q->fP ss r=false->(∀z∈eU r,fP ss z=false->∀y∈z.asked,y∈ss)->xY ks r k2->(∀x∈ss,x∈ks->x∈ks')->∃k2',xY ks' q k2'/\∀x∈ss,x∈k2->x∈k2'
 |.thr p w x us d,q,ks,k2,ks',h,i,as,s,hk=>by
  unfold eE at h;subst h;obtain⟨rfl,am⟩:=s;refine⟨ks'++[x],⟨rfl,am⟩,fun y hy m=>?_⟩;rcases bu.mp m with m|m
  ·exact cg _ (hk y hy m)
  ·exact be _ m
 |.lt p x t,q,ks,k2,ks',h,i,as,s,hk=>by
  unfold eE at h;subst h;obtain⟨rfl,am⟩:=s;refine⟨ks'++[x],⟨rfl,fun y hy=>hk y (as _ ao i y hy) (am y hy)⟩,fun y hy m=>?_⟩;rcases bu.mp m with m|m
  ·exact cg _ (hk y hy m)
  ·exact be _ m
 |.tell p t,q,ks,k2,ks',h,i,as,s,hk=>by
  unfold eE at h;subst h;obtain⟨rfl,am⟩:=s;exact⟨ks',⟨rfl,fun y hy=>hk y (as _ ao i y hy) (am y hy)⟩,hk⟩
 |.when p pa pb t a b,q,ks,k2,ks',h,i,as,s,hk=>by
  unfold eE at h;obtain⟨p',pa',pb',a',b',rfl,ha,hb⟩:=h;obtain⟨am,k3,k4,s3,s4,rfl⟩:=s;have as1:=as _ (show Rw.when p pa pb t a b∈eU (.when p pa pb t a b) from ao) i;obtain⟨k3',t3,u3⟩:=oX ha (fun z hz=>as z (ak _ (cg _ hz))) s3 hk;obtain⟨k4',t4,u4⟩:=oX hb (fun z hz=>as z (ak _ (be _ hz))) s4 hk;refine⟨k3'.filter fun x=>decide (x∈k4'),⟨fun y hy=>hk y (as1 y hy) (am y hy),k3',k4',t3,t4,rfl⟩,fun y hy m=>?_⟩;obtain⟨m3,m4⟩:=fj.mp m;exact fj.mpr ⟨u3 y hy m3,ai (u4 y hy (ae m4))⟩
 |.times p pb n b,q,ks,k2,ks',h,i,as,s,hk=>by
  unfold eE at h;obtain⟨p',pb',b',rfl,hb⟩:=h;exact oX (rs:=b) hb (fun z hz=>as z (ak _ hz)) s hk
theorem oX:∀{rs o:List Rw}{ks k2 ks':List Str},fJ ss rs o->bH0 ss rs->iI ks rs k2->(∀x∈ss,x∈ks->x∈ks')->∃k2',iI ks' o k2'/\∀x∈ss,x∈k2->x∈k2'
 |[],o,ks,k2,ks',h,as,s,hk=>by
  unfold fJ at h;subst h;have s:k2=ks:=s;subst s;exact⟨ks',rfl,hk⟩
 |r::rs,o,ks,k2,ks',h,as,s,hk=>by
  unfold fJ at h;obtain⟨o2,h2,h⟩:=h;obtain⟨k1,s1,s2⟩:=s;have as2:bH0 ss rs:=fun z hz=>as z (be _ hz)
  rcases h with⟨i,rfl⟩|⟨i,q,hq,rfl⟩
  ·refine oX h2 as2 s2 fun y hy m=>?_
   have:∃x,k1=ks++[x]/\x∉ss:=by
    rcases aW4 i with⟨p,w,x,us,d,rfl,nx⟩|⟨p,x,t,rfl,nx⟩
    ·exact⟨x,s1.1,nx⟩
    ·exact⟨x,s1.1,nx⟩
   obtain⟨x,rfl,nx⟩:=this;rcases bu.mp m with m|m
   ·exact hk y hy m
   ·rw[au.mp m] at hy;exact absurd hy nx
  ·obtain⟨k1',t1,u1⟩:=bW5 hq i (fun z hz=>as z (cg _ hz)) s1 hk;obtain⟨k2',t2,u2⟩:=oX h2 as2 s2 u1;exact⟨k2',⟨k1',t1,t2⟩,u2⟩
end
theorem aK3{a:Prc}(h:gK a):jP a free=a:=by
 have e1:gU a.1 (1,1)=a.1:=by unfold gU;rw[jj,jj];exact h.f.l
 have e2:sF a.2 (0,1)=a.2:=by unfold sF;rw[jj,xz,Int.add_zero,jj];exact h.r.l
 show(gU a.1 (1,1),sF a.2 (0,1))=a;rw[e1,e2]
mutual
theorem cB1{H:Hp}{k:Nat}:∀{r q:Rw},eE ss r q->dF H r->pQ ss k q=pQ ss k r
 |.thr p w x us d,q,h,_=>by unfold eE at h;subst h;rfl
 |.lt p x t,q,h,_=>by unfold eE at h;subst h;rfl
 |.tell p t,q,h,_=>by unfold eE at h;subst h;rfl
 |.when p pa pb t a b,q,h,o=>by
  unfold eE at h;obtain⟨p',pa',pb',a',b',rfl,ha,hb⟩:=h;have e1:fO (pR ss k a')=fO (pR ss k a):=oN ha o.2.2.2.2.2.1 dX;have e2:fO (pR ss k b')=fO (pR ss k b):=oN hb o.2.2.2.2.2.2 dX;simp only[pQ,e1,e2]
 |.times p pb n b,q,h,o=>by
  unfold eE at h;obtain⟨p',pb',b',rfl,hb⟩:=h;have e2:fO (pR ss k b')=fO (pR ss k b):=oN hb (show dF H (.times p pb n b) from o).2.2 dX;simp only[pQ,e2]
theorem oN{H:Hp}{k:Nat}:∀{rs o:List Rw}{a:Prc},fJ ss rs o->aP H rs->gK a->(pR ss k o).foldl jP a=(pR ss k rs).foldl jP a
 |[],o,a,h,_,_=>by unfold fJ at h;subst h;rfl
 |r::rs,o,a,h,k1,ra=>by
  unfold fJ at h;obtain⟨o2,h2,h⟩:=h;rcases h with⟨i,rfl⟩|⟨i,q,hq,rfl⟩
  ·simp only[pR,List.foldl_cons,aQ0 i,aK3 ra];exact oN h2 k1.2 ra
  ·simp only[pR,List.foldl_cons,cB1 hq k1.1];exact oN h2 k1.2 (mP ra (aD8 ss k r k1.1).1)
end
mutual
theorem bO7:∀{r q1 q2:Rw},eE ss r q1->eE ss r q2->tJ UEq id q1 q2
 |.thr p w x us d,q1,q2,h,g=>by unfold eE at h g;subst h g;exact⟨p,us,rfl,rfl⟩
 |.lt p x t,q1,q2,h,g=>by unfold eE at h g;subst h g;exact⟨p,t,rfl,jG.idn t⟩
 |.tell p t,q1,q2,h,g=>by unfold eE at h g;subst h g;exact⟨p,t,rfl,jG.idn t⟩
 |.when p pa pb t a b,q1,q2,h,g=>by
  unfold eE at h g;obtain⟨p1,aM,pb1,a1,b1,rfl,h1,h2⟩:=h;obtain⟨p2,pa2,pb2,a2,b2,rfl,g1,g2⟩:=g;exact⟨p2,pa2,pb2,t,a2,b2,rfl,jG.idn t,lE h1 g1,lE h2 g2⟩
 |.times p pb n b,q1,q2,h,g=>by
  unfold eE at h g;obtain⟨p1,pb1,b1,rfl,h2⟩:=h;obtain⟨p2,pb2,b2,rfl,g2⟩:=g;exact⟨p2,pb2,b2,rfl,lE h2 g2⟩
theorem lE:∀{rs o1 o2:List Rw},fJ ss rs o1->fJ ss rs o2->jO UEq id o1 o2
 |[],o1,o2,h,g=>by unfold fJ at h g;subst h g;exact rfl
 |r::rs,o1,o2,h,g=>by
  unfold fJ at h g;obtain⟨u1,h2,h⟩:=h;obtain⟨u2,g2,g⟩:=g;have e:=lE h2 g2;rcases h with⟨i,rfl⟩|⟨i,q1,hq,rfl⟩
  ·rcases g with⟨j,rfl⟩|⟨j,q2,gq,rfl⟩
   ·exact e
   ·rw[i] at j;cases j
  ·rcases g with⟨j,rfl⟩|⟨j,q2,gq,rfl⟩
   ·rw[i] at j;cases j
   ·exact⟨q2,u2,rfl,bO7 hq gq,e⟩
end
mutual
theorem cA7:∀{r q:Rw},eE ss r q->(∀z∈eU r,fP ss z=false)->tJ UEq id r q
 |.thr p w x us d,q,h,g=>by unfold eE at h;subst h;exact⟨p,us,rfl,rfl⟩
 |.lt p x t,q,h,g=>by unfold eE at h;subst h;exact⟨p,t,rfl,jG.idn t⟩
 |.tell p t,q,h,g=>by unfold eE at h;subst h;exact⟨p,t,rfl,jG.idn t⟩
 |.when p pa pb t a b,q,h,g=>by
  unfold eE at h;obtain⟨p1,aM,pb1,a1,b1,rfl,h1,h2⟩:=h;exact⟨p1,aM,pb1,t,a1,b1,rfl,jG.idn t,sN h1 fun z hz=>g z (ak _ (cg _ hz)),sN h2 fun z hz=>g z (ak _ (be _ hz))⟩
 |.times p pb n b,q,h,g=>by
  unfold eE at h;obtain⟨p1,pb1,b1,rfl,h2⟩:=h;exact⟨p1,pb1,b1,rfl,sN h2 fun z hz=>g z (ak _ hz)⟩
theorem sN:∀{rs o:List Rw},fJ ss rs o->(∀z∈cU rs,fP ss z=false)->jO UEq id rs o
 |[],o,h,g=>by unfold fJ at h;subst h;exact rfl
 |r::rs,o,h,g=>by
  unfold fJ at h;obtain⟨u,h2,h⟩:=h;rcases h with⟨i,rfl⟩|⟨i,q,hq,rfl⟩
  ·rw[g r (by cases r<;>exact ao)] at i;cases i
  ·exact⟨q,u,rfl,cA7 hq fun z hz=>g z (cg _ hz),sN h2 fun z hz=>g z (be _ hz)⟩
end
theorem bG3{ts:List Str}(h:∀x,x∈ss↔x∈ts)(r:Rw):fP ts r=fP ss r:=by
 unfold fP
 cases r.sets with
 |none=>rfl
 |some x=>simp only[decide_eq_decide.mpr (h x)]
mutual
theorem aN5{ts:List Str}(e:∀x,x∈ss↔x∈ts):∀{r q:Rw},eE ss r q->eE ts r q
 |.thr p w x us d,q,h=>by unfold eE at h ⊢;exact h
 |.lt p x t,q,h=>by unfold eE at h ⊢;exact h
 |.tell p t,q,h=>by unfold eE at h ⊢;exact h
 |.when p pa pb t a b,q,h=>by
  unfold eE at h ⊢;obtain⟨p1,aM,pb1,a1,b1,rfl,h1,h2⟩:=h;exact⟨p1,aM,pb1,a1,b1,rfl,jC e h1,jC e h2⟩
 |.times p pb n b,q,h=>by
  unfold eE at h ⊢;obtain⟨p1,pb1,b1,rfl,h2⟩:=h;exact⟨p1,pb1,b1,rfl,jC e h2⟩
theorem jC{ts:List Str}(e:∀x,x∈ss↔x∈ts):∀{rs o:List Rw},fJ ss rs o->fJ ts rs o
 |[],o,h=>by unfold fJ at h ⊢;exact h
 |r::rs,o,h=>by
  unfold fJ at h ⊢;obtain⟨u,h2,h⟩:=h;refine⟨u,jC e h2,?_⟩;rcases h with⟨i,z⟩|⟨i,q,hq,z⟩
  ·exact .inl ⟨by rw[bG3 e];exact i,z⟩
  ·exact .inr ⟨by rw[bG3 e];exact i,q,aN5 e hq,z⟩
end
end
end Mine
namespace L2
open PySem PySem.Spec PyProof.Rows PySem.MeetsSeq
def bE6(K:W.Frag)(H:Hp):Nat->V->V->Prop
 |0,x,y=>tK x y
 |n+1,x,y=>tK x y\/∃a b xs ys,x= .ref a/\y= .ref b/\aQ K H a xs/\aQ K H b ys/\Paired (bE6 K H n) xs ys
section
variable {X:Cx}{pins:List (Addr×Obj)}{σ:St}{H:Hp}{s:Shared}
theorem aG2(I:aX X pins σ H s):∀(n:Nat) (A:Around) {x y:V}{u v:Value},bE6 X.K H n x y->bF x u->bF y v->A.units+n+1<cLine->SeqAt.EqAt A s u v true
 |0,A,_,_,_,_,h,rx,ry,_=>pV h rx ry
 |n+1,A,x,y,u,v,h,rx,ry,hu=>by
  rcases h with h|⟨a,b,xs,ys,rfl,rfl,ha,hb,p⟩
  ·exact pV h rx ry
  cases rx
  cases ry
  by_cases e:a=b
  ·subst e;exact qp _
  obtain⟨its,r1,p1,_⟩:=I.tuple ha;obtain⟨its2,r2,p2,_⟩:=I.tuple hb;have l1:=r1.length;have l2:=r2.length;have l3:=ii p;have g:=sr (A:=A) (s:=s) (e:=fun _=>true) p1 p2 (by lia) fun j h1 h2=>?_
  ·have ee:((List.range (min its.toArray.size its2.toArray.size)).all (fun _=>true)&&its.toArray.size==its2.toArray.size)=true:=by
    rw[nI,pj,bq,bq, <-l1, <-l2,l3];simp
   rw[ee] at g;exact xu e g
  ·have hj:j<xs.length:=by rw[l1];simpa using h1
   have hj2:j<ys.length:=by rw[<-l3];exact hj
   obtain⟨w1,g1,q1⟩:=r1.get (aj hj);obtain⟨w2,g2,q2⟩:=r2.get (aj hj2);have e1:its.toArray[j]=w1:=by have:=(aq.mp g1).2;simpa using this
   have e2:its2.toArray[j]=w2:=by have:=(aq.mp g2).2;simpa using this
   rw[e1,e2];exact aG2 I n A.in1 (gW p (aj hj) (aj hj2)) q1 q2 (by show A.units+1+n+1<cLine;lia)
inductive bS8(K:W.Frag)(x:V)(y:V)(H:Hp)(Q:VK):Prop
 |mk:∀p q xs ys n,(x= .ref p)->(y= .ref q)->(bA K H p xs)->(bA K H q ys)->(Paired (bE6 K H n) xs ys)->(n<=40)->(Q (.bl false) H)->bS8 K x y H Q
theorem aE6{k:Nat}(hr:dI k X.A):iQ X (compareOp .NotEq) (bS8 X.K):=by
 intro pins s σ H x y v u Q I rx ry h;obtain⟨a,b,xs,ys,n,rfl,rfl,ha,hb,p,hn,q⟩:=h
 cases rx
 cases ry
 obtain⟨its,r1,p1,_⟩:=I.list ha;obtain⟨its2,r2,p2,_⟩:=I.list hb;have l1:=r1.length;have l2:=r2.length;have l3:=ii p;have hu:=hr.units;have g:=SeqAt.RcNeAt.lists (A:=X.A) (s:=s) (e:=fun _=>true) p1.isList p2.isList (by simp;lia) (by lia) fun j h1 h2=>?_
 ·refine g _ _ _ _ ⟨.bl _,H,I,rfl,?_⟩;rw[nI];exact q
 ·have hj:j<xs.length:=by rw[l1];simpa using h1
  have hj2:j<ys.length:=by rw[<-l3];exact hj
  obtain⟨w1,g1,q1⟩:=r1.get (aj hj);obtain⟨w2,g2,q2⟩:=r2.get (aj hj2);have e1:its.toArray[j]=w1:=by have:=(aq.mp g1).2;simpa using this
  have e2:its2.toArray[j]=w2:=by have:=(aq.mp g2).2;simpa using this
  rw[e1,e2];exact aG2 I n X.A.in1 (gW p (aj hj) (aj hj2)) q1 q2 (by show X.A.units+1+n+1<cLine;lia)
end
end L2
namespace Mine
open PySem L2
def lmT:Stmt->Option (Arguments×Expr×Scope×Pos)
 |st=>match bQ st with
  |[_,.Return (some (.Tuple [_,.Call _ [_,.Lambda ar b sc pos] _ _] _ _)) _]=>some (ar,b,sc,pos)
  |_=>none
def ltP(st:Stmt):Pos:=match lmT st with|some (_,_,_,p)=>p|none=>⟨0,0,0,0⟩
def ltA(st:Stmt):Option Arguments:=(lmT st).map (·.1)
def ltB(st:Stmt):Expr:=match lmT st with|some (_,b,_,_)=>b|none=> .Constant .none 0 ⟨0,0,0,0⟩
def ltS(st:Stmt):Scope:=match lmT st with|some (_,_,s,_)=>s|none=>aU st
inductive aT5(Lx:bK5)(vs:List V)(H:Hp)(Q:VK)(z1:XK):Prop
 |mk:∀(p:Addr) (xs:List Str) (rs:List Rw),(vs=[.ref p])->(tE H Lx.P Lx.pos Lx.q)->(jV H p xs rs)->(∀(r pk pr qr:Addr) (ss:List Str) (o:List Rw) (H':Hp),oH Lx.P H H'->tE H' Lx.P Lx.pos Lx.q->H p=some (.tup [.ref pk,.ref pr])->H' r=some (.tup [.ref pk,.ref qr])->H' qr=some (.tup (bG o))->aP H' o->NdS rs ss->fJ ss rs o->Q (.ref r) H')->aT5 Lx vs H Q z1
theorem aS0{H H':Hp}{p r pk pr qr:Addr}{ks ss:List Str}{rs o:List Rw}(P:PgL H p ks rs 1)(hp:H p=some (.tup [.ref pk,.ref pr]))(hk:H' pk=some (.tup (ks.map V.str)))(hr:H' r=some (.tup [.ref pk,.ref qr]))(hq:H' qr=some (.tup (bG o)))(ho:aP H' o)(N:NdS rs ss)(t:fJ ss rs o):PgL H' r ks o 1:=by
 obtain⟨a1,a2,a3,a4⟩:=jW t;obtain⟨k2,hsc⟩:=P.sc;obtain⟨k2',s2,_⟩:=oX t (bT7 N) hsc fun x _ m=>m
 exact⟨⟨pk,qr,hr,hk,hq⟩,ho,cj a1 P.cnt,⟨k2',s2⟩,oW t P.tk,by rw[a4];exact P.t1,P.k1,P.k3,cj a3 P.dp,pA t P.tz,P.few.sub fun x hx=>cR0 t hx,P.m4⟩
theorem aY8{H H':Hp}{p r pk pr qr:Addr}{xs ss:List Str}{rs o:List Rw}(P:jV H p xs rs)(hp:H p=some (.tup [.ref pk,.ref pr]))(hk:∀ks:List Str,H pk=some (.tup (ks.map V.str))->H' pk=some (.tup (ks.map V.str)))(hr:H' r=some (.tup [.ref pk,.ref qr]))(hq:H' qr=some (.tup (bG o)))(ho:aP H' o)(t:fJ ss rs o):jV H' r xs o:=by
 obtain⟨a1,a2,a3,a4⟩:=jW t;obtain⟨pk',ks,w,a,b,k1,k3,kd⟩:=P.kn;have ek:pk'=pk:=by
  have e:=a.symm.trans hp;injection e with e;injection e with e;injection e with e _;injection e
 subst ek;exact⟨⟨_,qr,hr,hq⟩,⟨pk',ks,_,hr,hk ks b,k1,k3,cN0 t kd⟩,cj a2 P.ld,ho,cj a1 P.cnt,by have:=P.dp;rw[jU] at this ⊢;exact cj a3 this,bU6 t P.ok,P.xl⟩
abbrev UOk:UR:=fun _ a b=>a=b/\∀u∈a,okV u
mutual
theorem tJ.uok{H:Hp}:∀{r q:Rw},tJ UEq id r q->dF H r->tJ UOk id r q
 |.thr _ _ _ _ _,_,⟨p,us,e,k⟩,h=>⟨p,us,e,k,by rw[h.2.vs];exact cK5 h.2.at'⟩
 |.lt _ _ _,_,e,_=>e
 |.tell _ _,_,e,_=>e
 |.when _ _ _ _ a b,_,⟨p,pa,pb,t,a',b',e,t',h,k⟩,o=>⟨p,pa,pb,t,a',b',e,t',jO.uok h o.2.2.2.2.2.1,jO.uok k o.2.2.2.2.2.2⟩
 |.times _ _ _ b,_,⟨p,pb,b',e,h⟩,o=>⟨p,pb,b',e,jO.uok (rs:=b) h (show dF H (.times _ _ _ b) from o).2.2⟩
theorem jO.uok{H:Hp}:∀{rs qs:List Rw},jO UEq id rs qs->aP H rs->jO UOk id rs qs
 |[],_,e,_=>e
 |r::rs,_,⟨q,s,e,h,k⟩,o=>⟨q,s,e,tJ.uok h o.1,jO.uok k o.2⟩
end
theorem bL3{H:Hp}{n:Nat}{w:Str}{us a b:List V}(h:UOk w us a)(g:UOk w us b):Paired (Deq H n) a b:=by
 rw[<-h.1, <-g.1];exact qS h.2
mutual
theorem aV9:∀r:Rw,tJ UEq id r r
 |.thr p w x us d=>⟨p,us,rfl,rfl⟩
 |.lt p x t=>⟨p,t,rfl,jG.idn t⟩
 |.tell p t=>⟨p,t,rfl,jG.idn t⟩
 |.when p pa pb t a b=>⟨p,pa,pb,t,a,b,rfl,jG.idn t,fR a,fR b⟩
 |.times p pb n b=>⟨p,pb,b,rfl,fR b⟩
theorem fR:∀rs:List Rw,jO UEq id rs rs
 |[]=>rfl
 |r::rs=>⟨r,rs,rfl,aV9 r,fR rs⟩
end
theorem vU{H:Hp}{o a b:List Rw}(ha:jO UEq id o a)(hb:jO UEq id o b)(r:aP H o)(r1:aP H a)(r2:aP H b)(z:jS o)(d:pP o<=2):Paired (Deq H 13) (a.map fun r=>V.ref r.p) (b.map fun r=>V.ref r.p):=
 lC (U:=UOk) (ν:=id) (rs:=o) (fun n w us a b _ x y=>bL3 x y) 13 (jO.uok ha r) (jO.uok hb r) r1 r2 z (by unfold hgt;lia)
theorem aN3{fl:List Rw}{ss:List Str}(h:∀q∈fl,fP ss q=false)(n:Nat):uY fl ss n=[]:=by
 unfold uY;rw[vi.mpr fun i _=>?_]
 ·rfl
 unfold idA
 cases e:fl[i]? with
 |none=>simp
 |some r=>simp[h r (List.mem_of_getElem? e)]
theorem bM1{K:W.Frag}{H:Hp}{v u:V}{P:Prc}(h:dU K H v P)(g:dU K H u P):bE6 K H 2 v u:=by
 obtain⟨a,x,y,rfl,h1,h2,h3⟩:=h;obtain⟨b,x',y',rfl,g1,g2,g3⟩:=g;exact .inr ⟨a,b,_,_,rfl,rfl,h1,g1,.cons (.inr ⟨x,x',_,_,rfl,rfl,h2,g2,.cons (tI _) (.cons (tI _) .nil)⟩) (.cons (.inr ⟨y,y',_,_,rfl,rfl,h3,g3,.cons (tI _) (.cons (tI _) .nil)⟩) .nil)⟩
theorem aH0{K:W.Frag}{H:Hp}:∀{xs ys:List V}{ps:List Prc},cV (dU K H) xs ps->cV (dU K H) ys ps->Paired (bE6 K H 2) xs ys
 |[],[],_,_,_=> .nil
 |x::xs,y::ys,p::ps,h,g=> .cons (bM1 h.1 g.1) (aH0 h.2 g.2)
 |x::xs,[],[],h,_=>h.elim
 |x::xs,y::ys,[],h,_=>h.elim
 |[],y::ys,[],_,g=>g.elim
 |[],_::_,_::_,h,_=>h.elim
 |_::_,[],_::_,_,g=>g.elim
inductive spWan(vs:List V)(H:Hp)(Q:VK)(z1:XK):Prop
 |mk:∀(p:Addr) (xs:List Str) (rs:List Rw),(vs=[.ref p])->(jV H p xs rs)->(bS rs<=900)->(∀(r:Addr) (ws:List Str) (H':Hp),aO H H'->H' r=some (.lst (ws.map V.str))->(∀x,x∈ws↔iF (cU rs) x)->Q (.ref r) H')->spWan vs H Q z1
inductive aZ4(n:Nat)(vs:List V)(H:Hp)(Q:VK)(z1:XK):Prop
 |mk:∀(p wl:Addr) (ws:List Str) (rs:List Rw),(vs=[.ref p,.ref wl])->(H p=some (.tup (bG rs)))->(aP H rs)->(pP rs<=n)->(bS rs<=900)->(H wl=some (.lst (ws.map V.str)))->(∀(q:Addr) (o:List Rw) (H':Hp),aO H H'->H' q=some (.tup (bG o))->aP H' o->fJ ws rs o->Q (.ref q) H')->aZ4 n vs H Q z1
def aI2:Nat->Sp
 |0=>fun _ _ _ _=>False
 |n+1=>aZ4 n
theorem aZ1{fl:List Rw}{i:Nat}{r:Rw}(h:fl[i]?=some r)(F:List Str):rnd (fl.take (i+1)) F=st1 (rnd (fl.take i) F) r:=by
 rw[aY h];unfold rnd;rw[oy];rfl
theorem qG{ss:List Str}:∀{rs o:List Rw}{r:Rw}{o2:List Rw},fJ ss rs o->((fP ss r=true/\o2=[])\/(fP ss r=false/\∃q,eE ss r q/\o2=[q]))->fJ ss (rs++[r]) (o++o2)
 |[],o,r,o2,h,g=>by
  unfold fJ at h;subst h;show fJ ss [r] ([]++o2);unfold fJ;refine⟨[],by unfold fJ;rfl,?_⟩;rcases g with⟨i,e⟩|⟨i,q,hq,e⟩
  ·exact .inl ⟨i,e⟩
  ·exact .inr ⟨i,q,hq,by rw[e];rfl⟩
 |x::rs,o,r,o2,h,g=>by
  unfold fJ at h;obtain⟨u,h2,h⟩:=h;have e:=qG h2 g;show fJ ss (x::(rs++[r])) (o++o2);unfold fJ;rcases h with⟨i,rfl⟩|⟨i,q,hq,rfl⟩
  ·exact⟨_,e,.inl ⟨i,rfl⟩⟩
  ·exact⟨_,e,.inr ⟨i,q,hq,rfl⟩⟩
inductive nL(K:W.Frag)(Lx:bK5)(vs:List V)(H:Hp)(Q:VK)(z1:XK):Prop
 |mk:∀(a:Addr) (ns:List Int),(vs=[.ref a])->(bA K H a (ns.map V.int))->(ns.length<=63)->(H Lx.P=some (.tbl #[]))->(∀H',Q (.bl true) H')->nL K Lx vs H Q z1
theorem kW{H H':Hp}{d l P:Addr}{ps:Array Value}(D:dR H d l)(e:H P=some (.tbl ps))(o:fH d l H H'):H' P=some (.tbl ps):=by
 obtain⟨sd,k,ls,z⟩:=D;exact o _ _ e (fun h=>by rw[h,z.dc] at e;cases e) (fun h=>by rw[h,z.lc] at e;cases e)
inductive aQ8(n:Nat)(vs:List V)(H:Hp)(Q:VK)(z1:XK):Prop
 |mk:∀t:Tm,(vs=[.ref t.p])->(oV H t)->(t.size<=7)->(t.size<=n)->(∀(r:Addr) (H':Hp),aO H H'->H' r=some (.lst (t.names.map V.str))->Q (.ref r) H')->aQ8 n vs H Q z1
def aH9:Nat->Sp
 |0=>fun _ _ _ _=>False
 |n+1=>aQ8 (n+1)
theorem nwX{H:Hp}{a:Addr}(h:H a=none)(o:HO):aO H (aL H a o)/\aL H a o a=some o:=⟨aA h o,aB⟩
theorem jV.kn0{H:Hp}{p pk:Addr}{v:V}{xs ks:List Str}{rs:List Rw}(P:jV H p xs rs)(hp:H p=some (.tup [.ref pk,v]))(hk:H pk=some (.tup (ks.map V.str))):KnN H p rs ks.length:=by
 obtain⟨pk',ks',w,a,b,k1,k3,kd⟩:=P.kn;have e:=a.symm.trans hp;injection e with e;injection e with e;injection e with e _;injection e with e
 subst e;have e2:=b.symm.trans hk;injection e2 with e2;injection e2 with e2
 have l:ks'.length=ks.length:=by have:=eo List.length e2;simpa using this
 exact⟨pk',ks',w,a,b,l,by lia,by lia,by rw[<-l];exact kd⟩
end Mine
namespace L2
open PySem PySem.Spec PyProof.Rows PySem.MeetsSeq
open PySem PySem.Spec PyProof.Rows
theorem dQ{K:PySem.W.Frag}{a:Addr}{xs:List V}{g:TG}{tb:TS}{D:gH}{σ:St}{H:Hp}(Pv:Nat->St->Hp->Prop)(h0:Pv 0 σ H)(hl:∀i σ H,i<=xs.length->Pv i σ H->bA K H a xs)
  (hs:∀(D':gH) (N:St->Hp->Prop),∀i,(∀σ H,Pv (i+1) σ H->N σ H)->∀x σ H,xs[i]?=some x->Pv i σ H->g x σ H fun σ2 H2=>tb { D' with nx:=N,ct:=N,bk:=D'.nx } σ2 H2) (hd:∀σ H,Pv xs.length σ H->D.nx σ H) :
  ∃W:Nat->Nat->St->Hp->Prop,(∃m,W 0 m σ H)/\∀i m σ H,W i m σ H ->
   ((Itl K a).stop i H/\D.nx σ H)\/((Itl K a).go i H/\∃N:St->Hp->Prop,(∀σ' H',N σ' H'->∃m',m'<m/\W (i+1) m' σ' H')/\∀x H',(Itl K a).yld i H x H'->g x σ H' fun σ2 H2=>tb { D with nx:=N,ct:=N,bk:=D.nx } σ2 H2):=aK6 Pv h0 hl (fun D' i x σ H hi p=>hs D' (Pv (i+1)) i (fun _ _ z=>z) x σ H hi p) hd
theorem zL{K:PySem.W.Frag}{a:Addr}{xs:List V}{g:TG}{tb:TS}{D:gH}{σ:St}{H:Hp}(Pv:Nat->St->Hp->Prop)(h0:Pv 0 σ H)(hl:∀i σ H,i<=xs.length->Pv i σ H->aQ K H a xs)
  (hs:∀(D':gH) (N:St->Hp->Prop),∀i,(∀σ H,Pv (i+1) σ H->N σ H)->∀x σ H,xs[i]?=some x->Pv i σ H->g x σ H fun σ2 H2=>tb { D' with nx:=N,ct:=N,bk:=D'.nx } σ2 H2) (hd:∀σ H,Pv xs.length σ H->D.nx σ H) :
  ∃W:Nat->Nat->St->Hp->Prop,(∃m,W 0 m σ H)/\∀i m σ H,W i m σ H ->
   ((Itt K a).stop i H/\D.nx σ H)\/((Itt K a).go i H/\∃N:St->Hp->Prop,(∀σ' H',N σ' H'->∃m',m'<m/\W (i+1) m' σ' H')/\∀x H',(Itt K a).yld i H x H'->g x σ H' fun σ2 H2=>tb { D with nx:=N,ct:=N,bk:=D.nx } σ2 H2):=bD8 Pv h0 hl (fun D' i x σ H hi p=>hs D' (Pv (i+1)) i (fun _ _ z=>z) x σ H hi p) hd
theorem jR{lo:Int}{n:Nat}{g:TG}{tb:TS}{D:gH}{σ:St}{H:Hp}(Pv:Nat->St->Hp->Prop)(h0:Pv 0 σ H)
  (hs:∀(D':gH) (N:St->Hp->Prop),∀i,(∀σ H,Pv (i+1) σ H->N σ H)->∀σ H,i<n->Pv i σ H->g (.int (lo+i)) σ H fun σ2 H2=>tb { D' with nx:=N,ct:=N,bk:=D'.nx } σ2 H2) (hd:∀σ H,Pv n σ H->D.nx σ H) :
  ∃W:Nat->Nat->St->Hp->Prop,(∃m,W 0 m σ H)/\∀i m σ H,W i m σ H ->
   ((Itr lo n).stop i H/\D.nx σ H)\/((Itr lo n).go i H/\∃N:St->Hp->Prop,(∀σ' H',N σ' H'->∃m',m'<m/\W (i+1) m' σ' H')/\∀x H',(Itr lo n).yld i H x H'->g x σ H' fun σ2 H2=>tb { D with nx:=N,ct:=N,bk:=D.nx } σ2 H2):=aB3 Pv h0 (fun D' i σ H hi p=>hs D' (Pv (i+1)) i (fun _ _ z=>z) σ H hi p) hd
end L2
namespace Mine
open PySem L2
def top(i:Nat):Stmt:=PySem.Challenge.pw_pairedthrows_k49_trimmed.main.body.getD i (.Pass ⟨0,0,0,0⟩)
abbrev cQ8:Stmt:=top 2
abbrev cP8:Stmt:=top 3
abbrev cI9:Stmt:=top 4
abbrev cM2:Stmt:=top 5
abbrev cQ9:Stmt:=top 6
abbrev cI4:Stmt:=top 7
abbrev cL8:Stmt:=top 8
abbrev cL9:Stmt:=top 9
abbrev cG9:Stmt:=top 10
abbrev cP5:Stmt:=top 11
abbrev cI2:Stmt:=top 12
abbrev cM5:Stmt:=top 13
abbrev cP9:Stmt:=top 14
abbrev cK6:Stmt:=top 15
abbrev cN9:Stmt:=top 16
abbrev cO7:Stmt:=top 17
abbrev cH7:Stmt:=top 19
abbrev cN8:Stmt:=top 21
abbrev cO8:Stmt:=top 22
abbrev cP2:Stmt:=top 23
abbrev cQ6:Stmt:=top 24
abbrev aC7:Stmt:=top 26
abbrev cP0:Stmt:=top 32
abbrev cM1:Stmt:=top 33
abbrev cJ0:Stmt:=top 34
abbrev cK0:Stmt:=top 35
abbrev cO2:Stmt:=top 36
abbrev cQ3:Stmt:=top 37
abbrev cP6:Stmt:=top 38
abbrev cQ4:Stmt:=top 39
abbrev cJ8:Stmt:=top 41
abbrev cJ6:Stmt:=top 42
abbrev cK2:Stmt:=top 43
abbrev cI8:Stmt:=top 44
abbrev aU9:Stmt:=top 45
abbrev cK8:Stmt:=top 46
abbrev cM0:Stmt:=top 47
abbrev cL4:Stmt:=top 49
abbrev bR4:Stmt:=top 50
abbrev cH8:Stmt:=top 53
abbrev cQ2:Stmt:=top 54
abbrev cI7:Stmt:=top 55
abbrev cJ5:Stmt:=top 56
abbrev cO1:Stmt:=top 57
abbrev cH1:Stmt:=top 58
abbrev cQ0:Stmt:=top 59
abbrev cO0:Stmt:=top 60
abbrev cM8:Stmt:=top 61
abbrev aX7:Stmt:=top 63
abbrev bC0:Stmt:=top 64
abbrev bQ7:Stmt:=top 65
abbrev aS8:Stmt:=top 66
abbrev bA6:Stmt:=top 67
abbrev bD1:Stmt:=top 68
abbrev aR8:Stmt:=top 69
abbrev aT4:Stmt:=top 70
abbrev bS0:Stmt:=top 71
abbrev aR7:Stmt:=top 72
abbrev bC3:Stmt:=top 73
abbrev bC5:Stmt:=top 74
abbrev aR9:Stmt:=top 75
abbrev bB4:Stmt:=top 76
abbrev cM4:Stmt:=top 77
abbrev cI1:Stmt:=top 78
abbrev cH3:Stmt:=top 79
abbrev aQ2:Stmt:=top 80
section
variable {P:Program}{w:World}{K:W.Frag}{mg:Str->Option Value}{base:Heap}
theorem wG:iM ["_law_deal_here","_law_many","_law_number","_law_one","_law_other"] ["_law_deal_here","_law_many"] (aU bC0):=by refine⟨rfl,rfl,rfl,?_,rfl,?_,?_⟩<;>decide
theorem bP2{f:Addr}{fd:FuncData}(F:sV K "_law_draw" "_law_draw" bC0 f fd)(ml:mg "len"=none):nX P w K mg base wU 1 f fd ["_law_deal_here","_law_many"] spDraw:=by
 refine F.ok wG (fun vs H Q E h=>?_) (fun cdv A outer s H vs Q E hr h=>?_)
 ·obtain⟨d,l,m,rfl,_⟩:=h;rfl
 obtain⟨d,l,m,rfl,⟨sd,n,ls,D⟩,hm0,hm1,k⟩:=h;have hu:=jL hr;refine⟨_,aF (hJ jg (gM (nN bR (iJ hu (pv 0) aI (fun _ _=>rfl)) aD (pF _)) (fY (nN jJ (sJ bO (by rfl) ml fk (aC (iJ hu (pv 0) aI (fun _ _=>rfl)) bX)) aD (pF _)))).pt
   (aE (qE hu (pv 0) aI (iT av fq fw iU (iJ hu (pv 0) aI (fun _ _=>rfl))) rfl)))
  (aF (kQ (i:=2) wG.nd rfl (ji rfl) (iJ hu (pv 0) aI (fun _ _=>rfl)))
  (aF (bC (nN jJ (pv 2) aD (pF _))
   (aF (qE hu (pv 0) aI (aN sR (pv 2) (pv 1)) rfl) (aE (aK (aN iE (pv 2) (pv 1))))) aS)
  (aF (kQ (i:=3) wG.nd rfl (ji rfl) (aN iE (aN cL (aN fW (iJ hu (pv 0) aI (fun _ _=>rfl)) aD) aD) aD))
  (aF (qE hu (pv 0) aI (aN iE (aN cL (aN fW (pv 3) aD) aD) aD) rfl)
  (aF (kQ (i:=4) wG.nd rfl (ji rfl) (aN iE (aN fW (iJ hu (pv 0) aI (fun _ _=>rfl)) (iJ hu (pv 0) aI (fun _ _=>rfl))) aD))
  (aE (aK (aN iE (aN cL (aN fW (aN iE (aN fW (pv 3) (pv 3)) aD) aD) (pv 4)) (pv 1))))))))),?_⟩
 refine⟨fun j σ H1=>∃n' ls',σ=[some (.ref d),some (.int m),none,none,none]/\cE H1 d l sd n' ls'/\j=ls'.length/\fH d l H H1,⟨_,n,ls,rfl,D,rfl,fH.refl H⟩,?_⟩;rintro j σ H1 ⟨n',ls',rfl,D1,rfl,o1⟩;refine⟨_,rfl,d,_,rfl,D1.gn,rfl,_,rfl,?_⟩;refine oE (fun c=>?a) (fun c=>cJ3 ?b)
 case' a=>refine⟨_,rfl,d,_,rfl,D1.gl,l,_,rfl,.inl (bA.of D1.lc),_,_,rfl,rfl,_,rfl,?_⟩
 case' a=>refine oE (fun c2=>?loop) (fun c2=>?b2)
 case loop =>
   have hl:0<ls'.length:=by
    have:=ae c2
    simpa using this
   obtain⟨z,hz⟩:∃z,ls'[ls'.length-1]?=some z:=⟨ls'[ls'.length-1],by simp⟩
   have hz2:(ls'.map V.int)[(ls'.map V.int).length-1]?=some (.int z):=by rw[aa,di,hz];rfl
   have z0:0<=z:=D1.l0 z (bj hz);have D2:cE (aL H1 l (.lst (ls'.dropLast.map V.int))) d l sd n' ls'.dropLast:=D1.left fun x hx=>D1.l0 x (List.dropLast_subset _ hx)
   refine⟨fun σ' H'=>σ'=[some (.ref d),some (.int m),none,none,none]/\cE H' d l sd z ls'.dropLast/\fH d l H H',fun σ' H' q=>⟨_,by rw[wc];lia,z,ls'.dropLast,q.1,q.2.1,rfl,q.2.2⟩,?_⟩;refine⟨_,rfl,d,_,rfl,D1.gl,.inl ⟨rfl,_,bA.of D1.lc⟩,l,_,_,rfl,rfl,D1.lc,hz2,?_⟩;have e:∀(o:List V),(ls'.map V.int).dropLast=o->aL H1 l (.lst (ls'.map V.int).dropLast)=aL H1 l (.lst o):=fun o e=>by rw[e]
   rw[e _ List.map_dropLast.symm];refine⟨_,rfl,d,_,rfl,D2.pn z,rfl,D2.number z0,o1.trans (fH.upd_l.trans fH.upd_d)⟩
 all_goals
  refine⟨_,rfl,d,_,rfl,D1.gn,?_⟩;refine⟨_,rfl,_,_,rfl,rfl,_,rfl,?_⟩;refine oE (fun c3=>?_) (fun c3=>?_)
  ·have hp:0<n':=ae c3;refine⟨_,rfl,_,rfl,_,_,rfl,rfl,⟨hm0,by lia⟩,_,rfl,d,_,rfl,D1.pn (n' / m),?_⟩;refine⟨_,rfl,_,rfl,_,_,rfl,rfl,hm0,?_⟩;exact k _ _ (jp _ (by lia)) (jw _ hm0) ⟨_,_,_,D1.number (Int.ediv_nonneg (by lia) (by lia))⟩ (o1.trans fH.upd_d)
  ·
   have q1:(0:Int)<2147483647:=by decide
   refine⟨_,rfl,d,_,rfl,D1.gs,_,_,rfl,rfl,.inr ⟨by decide,by decide⟩,_,_,rfl,rfl,_,_,rfl,rfl,q1,?_⟩;have q2:(0:Int)<2147483587:=by decide
   refine⟨_,rfl,_,_,rfl,rfl,.inr ⟨by decide,by decide⟩,_,_,rfl,rfl,_,_,rfl,rfl,q2,_,rfl,d,_,rfl,D1.ps _,?_⟩;have D2:=D1.seed (v:=((sd*48271+5003) % 2147483647*39373+60013) % 2147483587) (by lia) (by lia);have q3:(0:Int)<2147483549:=by decide
   have q4:(0:Int)<2147483563:=by decide
   refine⟨_,rfl,d,_,rfl,D2.gs,_,rfl,d,_,rfl,D2.gs,_,_,rfl,rfl,.inr ⟨by lia,by lia⟩,_,_,rfl,rfl,q3,?_⟩;refine⟨_,rfl,_,rfl,_,_,rfl,rfl,.inr ⟨by lia,by lia⟩,_,_,rfl,rfl,q4,_,_,rfl,rfl,.inr ⟨by decide,by decide⟩,_,rfl,_,_,rfl,rfl,_,rfl,_,_,rfl,rfl,hm0,?_⟩;exact k _ _ (jp _ (by lia)) (jw _ hm0) ⟨_,_,_,D2⟩ (o1.trans fH.upd_d)
end
theorem aB7(x n:Int)(l:Addr):iD [] (eB x n l)=eB x n l:=by
 unfold iD eB;simp only[List.foldl_cons,List.foldl_nil];have e1:cZ ([]:List (Key×V)) (Sum.inr ("seed": Str)) (V.int x)=[(Sum.inr ("seed": Str),V.int x)]:=rfl;have e2:cZ [(Sum.inr ("seed": Str),V.int x)] (Sum.inr ("number": Str):Key) (V.int n)=[(Sum.inr ("seed": Str),V.int x),(Sum.inr ("number": Str),V.int n)]:=nS _ (by rw[cA ksn,qN]);have e3:cZ [(Sum.inr ("seed": Str),V.int x),(Sum.inr ("number": Str),V.int n)] (Sum.inr ("left": Str):Key) (V.ref l)=[(Sum.inr ("seed": Str),V.int x),(Sum.inr ("number": Str),V.int n)]++[(Sum.inr ("left": Str),V.ref l)]:=nS _ (by rw[cA ksl,cA knl,qN]);rw[e1,e2,e3];rfl
theorem bF5:(["_law_cell"]:List Str).Nodup:=by decide
theorem aR3(ns:List Int)(lo hi:Option Int):∃ms:List Int,kR (ns.map V.int) lo hi=ms.map V.int/\ms.length<=ns.length:=by
 refine⟨(ns.drop (HT.sIx ns.length 0 lo)).take (HT.sIx ns.length ns.length hi-HT.sIx ns.length 0 lo),?_,?_⟩
 ·unfold kR;rw[aa,wv,List.map_drop]
 ·rw[dj,ub];lia
section
variable {P:Program}{w:World}{K:W.Frag}{mg:Str->Option Value}{base:Heap}
theorem qR:iM ["_law_script","_law_base","_law_cells","_law_number","_law_cell"] ["_law_script","_law_base"] (aU aX7):=by refine⟨rfl,rfl,rfl,?_,rfl,?_,?_⟩<;>decide
theorem bJ5{f:Addr}{fd:FuncData}(F:sV K "_law_deal" "_law_deal" aX7 f fd)(mm:mg "max"=none)(mr:mg "reversed"=none)(ml:mg "list"=none):nX P w K mg base wU 1 f fd ["_law_script","_law_base"] (aE0 K):=by
 refine F.ok qR (fun vs H Q E h=>?_) (fun cdv A outer s H vs Q E hr h=>?_)
 ·obtain⟨a,ns,b,rfl,_⟩:=h;rfl
 obtain⟨a,ns,b,rfl,hS,hlen,hb0,hb1,k⟩:=h;refine⟨_,aF (aI0 ["_law_cell"] [none] (i:=2) qR.nd rfl (ji rfl) (bW (fK wL (pv 0) (fX (pv 1)) (fX aD)))
   (fun _ _ _ _=>pY (i:=0) bF5 rfl (ji rfl)) (fun _ _ _ _=>eA) (fun _ _ _ _=>sJ (uQ rfl) (by rfl) mm qh (aC (pv 0) (aC (aN gL aD (pv 0)) bX))))
  (aF (kQ (i:=3) qR.nd rfl (ji rfl) (aN cL aD (aN fW aD (pv 1))))
  (aF (bD3 jg rfl (bW (pv 2)) (pY (i:=4) qR.nd rfl (ji rfl))
   (aE (kQ (i:=3) qR.nd rfl (ji rfl) (aN iE (aN cL (aN cL (aN fW (pv 3) aD) (aN iE (pv 4) aD)) aD) aD))))
  (aE (aK (aG9 (fN aI (pv 3) (fN aI aD (fN aI (qY (cH ["_law_cell"] [none] (bW (pv 2))
   (fun _ _ _ _=>pY (i:=0) bF5 rfl (ji rfl)) (fun _ _ _ _=>lW (nN aU1 (pv 0) (aN cB8 aD aD) (pF _))) (fun _ _ _ _=>pv 0)) (by rfl) ml (by rfl) mr) aG0))) rfl rfl (by decide) (by decide)))))),?_⟩
 refine⟨_,rfl,_,rfl,_,rfl,_,rfl,a,_,rfl,hS,fun p1 np1=>?_⟩;obtain⟨ms,em,hms⟩:=aR3 ns (some b) (some 63);have g1:aO H (aL H p1 (.lst (kR (ns.map V.int) (some b) (some 63)))):=aA np1 _;have hp1:bA K (aL H p1 (.lst (kR (ns.map V.int) (some b) (some 63)))) p1 (ms.map V.int):=by rw[em];exact bA.of aB
 generalize aL H p1 (.lst (kR (ns.map V.int) (some b) (some 63)))=H1 at g1 hp1 ⊢;refine⟨p1,rfl,⟨_,hp1⟩,cS (xs:=ms.map V.int) (fun i ys σ H2=>H2=H1/\(∃v,σ=[v])/\∃cs:List Int,ys=cs.map V.int/\cs.length=i/\∀x∈cs,0<=x)
  (by rw[aa];exact aR (by lia)) ⟨rfl,⟨_,rfl⟩,[],rfl,rfl,fun _ z=>nomatch z⟩ (fun i ys σ H2 ⟨_,_,cs,e1,e2,_⟩=>by rw[e1,aa];lia) (fun i ys σ H2 _ ⟨e,_⟩=>by rw[e];exact hp1) ?_ ?_⟩
 ·rintro i x ys σ H2 hx ⟨rfl,⟨v,rfl⟩,cs,rfl,rfl,h0⟩;obtain⟨z,rfl,_⟩:=vJ hx;refine⟨_,rfl,_,rfl,_,_,rfl,rfl,_,_,rfl,rfl,⟨_,rfl⟩,cs++[if 0-z > z then 0-z else z],by rw[bo];rfl,by rw[ap];rfl,fun x hx=>?_⟩;rcases bu.mp hx with q|q
  ·exact h0 x q
  ·have e:x=if 0-z > z then 0-z else z:=by simpa using q
   rw[e];split<;>lia
 rintro ys σ H2 ⟨rfl,_,cs,rfl,hcs,h0⟩ p2 np2;have hm63:cs.length<=63:=by rw[aa] at hcs;lia
 have g2:aO H2 (aL H2 p2 (.lst (cs.map V.int))):=aA np2 _;have hp2:bA K (aL H2 p2 (.lst (cs.map V.int))) p2 (cs.map V.int):=bA.of aB;generalize aL H2 p2 (.lst (cs.map V.int))=H3 at g2 hp2 ⊢;refine⟨_,rfl,_,_,rfl,rfl,.inl ⟨by decide,by decide⟩,_,_,rfl,rfl,?_⟩;refine⟨_,rfl,p2,rfl,⟨_,hp2⟩,xC (K:=K) (a:=p2) (xs:=cs.map V.int) (fun i σ H4=>H4=H3/\∃(x:Int) (v:Option V),σ=[some (.ref a),some (.int b),some (.ref p2),some (.int x),v]/\0<=x/\x<2147483647)
  ⟨rfl,6271+11*b,none,rfl,by lia,by lia⟩ (fun i σ H4 _ ⟨e,_⟩=>by rw[e];exact hp2) ?_ ?_⟩
 ·rintro i y σ H4 hi ⟨rfl,x,v,rfl,x0,x1⟩;obtain⟨z,rfl,_⟩:=vJ hi;have q1:(0:Int)<2147483579:=by decide
  have q2:(0:Int)<2147483647:=by decide
  refine⟨_,rfl,_,_,rfl,rfl,.inr ⟨by decide,by decide⟩,_,rfl,_,_,rfl,rfl,q1,_,_,rfl,rfl,_,_,rfl,rfl,_,_,rfl,rfl,q2,rfl,_,_,rfl,?_,?_⟩
  ·exact jp _ (by decide)
  ·exact jw _ q2
 rintro σ H4 ⟨rfl,x,v,rfl,x0,x1⟩;intro d nd;have g4:aO H4 (aL H4 d (.dK [])):=aA nd _;have hd4:aL H4 d (.dK []) d=some (.dK []):=aB;have hp4:=g4.seq hp2;refine⟨_,rfl,_,rfl,p2,rfl,⟨_,hp4⟩,?_⟩;generalize aL H4 d (.dK [])=H5 at g4 hd4 hp4 ⊢;refine cS (xs:=cs.map V.int) (fun i ys σ H6=>H6=H5/\(∃v,σ=[v])/\∃ls:List Int,ys=ls.map V.int/\ls.length<=i/\∀x∈ls,0<=x)
  (by rw[aa];exact aR (by lia)) ⟨rfl,⟨_,rfl⟩,[],rfl,af _,fun _ z=>nomatch z⟩ (fun i ys σ H2 ⟨_,_,cs,e1,e2,_⟩=>by rw[e1,aa];lia) (fun i ys σ H2 _ ⟨e,_⟩=>by rw[e];exact hp4) ?_ ?_
 ·rintro i y ys σ H6 hy ⟨rfl,⟨v',rfl⟩,ls,rfl,hl,l0⟩;obtain⟨z,rfl,hz⟩:=vJ hy;have z0:0<=z:=h0 z (bj hz);refine⟨_,rfl,_,_,rfl,rfl,⟨by decide,by decide,by decide⟩,_,_,rfl,rfl,_,rfl,?_⟩;refine oE (fun c=>?_) (fun c=>?_)
  ·refine⟨_,rfl,rfl,⟨_,rfl⟩,ls++[z],by rw[bo];rfl,by rw[ap];show ls.length+1<=i+1;lia,fun x hx=>?_⟩;rcases bu.mp hx with q|q
   ·exact l0 x q
   ·have e:x=z:=by simpa using q
    rw[e];exact z0
  ·exact⟨rfl,⟨_,rfl⟩,ls,rfl,pc hl,l0⟩
 rintro ys σ H6 ⟨rfl,_,ls,rfl,hl,l0⟩ p3 np3;have g5:aO H6 (aL H6 p3 (.lst (ls.map V.int))):=aA np3 _;refine⟨p3,_,rfl,bA.of aB,fun l nl=>?_⟩;generalize aL H6 p3 (.lst (ls.map V.int))=H7 at g5 nl ⊢;have g6:aO H7 (aL H7 l (.lst (ls.map V.int).reverse)):=aA nl _;have hd7:H7 d=some (.dK []):=g5 _ _ hd4;refine⟨g6 _ _ hd7,eB x 0 l,rfl,by show 3<=15;decide,?_⟩;have em:iD [] (eB x 0 l)=eB x 0 l:=aB7 _ _ _;have neld:l≠d:=fun z=>by rw[z] at nl;rw[nl] at hd7;cases hd7
 refine k d l _ ?_ ?_ ⟨x,0,ls.reverse,⟨by rw[em];exact aB,by rw[aG neld,aB,uj],x0,x1,ko 0,fun y hy=>l0 y (by simpa using hy)⟩⟩ ?_
 ·exact(g1.trans g2).free nd
 ·exact(g1.trans (g2.trans (g4.trans g5))).free nl
 ·intro c o e;rw[aG (aJ e ((g1.trans g2).free nd))];exact(g1.trans (g2.trans (g4.trans (g5.trans g6)))) c o e
theorem cG6  : eF P w K mg base "parts_of" "parts_of" cM2 1 ["term"] spParts:=by
 refine fF ["term","parts","waiting","part"] fun H Q nd hr h=>?_
 obtain⟨t,rfl,ht,hz,k⟩:=h;have hu:=jL hr;refine⟨_,(dJ 1 nd (bJ bX)
  (dJ 2 nd (bJ (aM (pv 0)))
  (aF (hJ jg (iW (pv 2) (fun _=>rfl))
  (dJ 3 nd (iT av fq fw iU (pv 2))
  (aF (bP (dA av de dh bT (pv 1) (aM (pv 3))))
  (aE (bC (eG bR (bL aH (pv 3) aD) aI) (aE (bP (dA av eu fc dP (pv 2) (aM (bJ (aC (bL aH (pv 3) aD) (aM (bL aH (pv 3) aD)))))))) aS)))))
  (aE (aK (pv 1)))))),?_⟩
 refine⟨az _,fun l1 hl1=>?_⟩;obtain⟨H1,e0,s1,h1⟩:=nV hl1 (.lst []);rw[e0];clear e0;refine⟨_,rfl,lK,fun l2 hl2=>?_⟩;have n2:=s1.free hl2;have ne:l2≠l1:=(aJ h1 hl2).symm;have s2:=s1.trans (aA hl2 (.lst [.ref t.p]));have h12:aL H1 l2 (.lst [.ref t.p]) l1=some (.lst []):=by rw[aG ne.symm];exact h1
 have h2:aL H1 l2 (.lst [.ref t.p]) l2=some (.lst [.ref t.p]):=aB;generalize aL H1 l2 (.lst [.ref t.p])=H2 at s2 h12 h2 ⊢;refine⟨fun m σ G=>∃(ps stk:List Tm) (v3:Option V),σ=[some (.ref t.p),some (.ref l1),some (.ref l2),v3]/\aO H G/\G l1=some (.lst (ps.map fun u=>V.ref u.p))/\G l2=some (.lst (stk.reverse.map fun u=>V.ref u.p))/\ps++stk.flatMap Tm.pre=t.pre/\(∀u∈stk,oV H u)/\m=(stk.flatMap Tm.pre).length,
  ⟨_,[],[t],none,rfl,s2,h12,h2,by simp,fun u hu=>by rw[List.mem_singleton.mp hu];exact ht,rfl⟩,?_⟩
 rintro m σ G ⟨ps,stk,v3,rfl,s3,g1,g2,eq,hs,rfl⟩;refine⟨_,rfl,_,.inl ⟨_,bA.of g2,rfl⟩,?_⟩;have lt:=eo List.length eq;rw[ap,Tm.pre_len] at lt;have ls:stk.length<=(stk.flatMap Tm.pre).length:=aF6 stk
 cases stk with
 |nil =>
  refine aV (by simp) ?_;rw[yv,dw] at eq;exact⟨_,rfl,k l1 G s3 hl1 (by rw[<-eq];exact g1)⟩
 |cons u bN =>
  refine bE (by simp) ?_;have hu:=hs u ao;have up:=u.size_pos;rw[kh,ap,Tm.pre_len] at lt;rw[bx,kh,ap,Tm.pre_len] at ls;refine⟨fun σ' G'=>∃(ps' stk':List Tm) (v3:Option V),σ'=[some (.ref t.p),some (.ref l1),some (.ref l2),v3]/\aO H G'/\G' l1=some (.lst (ps'.map fun u=>V.ref u.p))/\G' l2=some (.lst (stk'.reverse.map fun u=>V.ref u.p))/\ps'++stk'.flatMap Tm.pre=t.pre/\(∀u∈stk',oV H u)/\(stk'.flatMap Tm.pre).length+1=((u::bN).flatMap Tm.pre).length,
   (by rintro σ' G' ⟨ps',stk',v3',e1,e2,e3,e4,e5,e6,e7⟩;exact⟨_,by lia,ps',stk',v3',e1,e2,e3,e4,e5,e6,rfl⟩),?_⟩
  have er:(u::bN).reverse.map (fun u=>V.ref u.p)=bN.reverse.map (fun u=>V.ref u.p)++[V.ref u.p]:=by rw[dr,bo];rfl
  rw[er] at g2;refine⟨_,rfl,.inl ⟨rfl,_,bA.of g2⟩,l2,_,V.ref u.p,rfl,rfl,g2,by simp,?_⟩;rw[gy];have s4:=bI (ys:=bN.reverse.map fun u=>V.ref u.p) s3 n2;have g3:aL G l2 (.lst (bN.reverse.map fun u=>V.ref u.p)) l2=some (.lst (bN.reverse.map fun u=>V.ref u.p)):=aB;have g4:aL G l2 (.lst (bN.reverse.map fun u=>V.ref u.p)) l1=some (.lst (ps.map fun u=>V.ref u.p)):=by rw[aG ne.symm];exact g1
  generalize aL G l2 (.lst (bN.reverse.map fun u=>V.ref u.p))=G1 at s4 g3 g4 ⊢;refine⟨_,rfl,.inl ⟨rfl,_,bA.of g4⟩,_,rfl,l1,_,_,rfl,rfl,g4,aR (by rw[aa];lia),?_⟩;have s5:=bI (ys:=(ps++[u]).map fun u=>V.ref u.p) s4 hl1;have ea:(ps.map fun u=>V.ref u.p)++[V.ref u.p]=(ps++[u]).map fun u=>V.ref u.p:=by rw[bo];rfl
  rw[ea];have g5:aL G1 l1 (.lst ((ps++[u]).map fun u=>V.ref u.p)) l1=some (.lst ((ps++[u]).map fun u=>V.ref u.p)):=aB;have g6:aL G1 l1 (.lst ((ps++[u]).map fun u=>V.ref u.p)) l2=some (.lst (bN.reverse.map fun u=>V.ref u.p)):=by rw[aG ne];exact g3
  generalize aL G1 l1 (.lst ((ps++[u]).map fun u=>V.ref u.p))=G2 at s5 g5 g6 ⊢;have hu5:=hu.ts (.of s5);refine⟨_,rfl,u.p,_,_,.str u.w,rfl,rfl,aQ.of hu5.at,iV,rfl,_,rfl,?_⟩
  cases u with
  |op p s a b =>
   refine bE (ai rfl) ?_;refine⟨_,rfl,.inl ⟨rfl,_,bA.of g6⟩,_,rfl,p,_,_,.ref b.p,rfl,rfl,aQ.of hu5.1,rfl,_,rfl,p,_,_,.ref a.p,rfl,rfl,aQ.of hu5.1,rfl,dE,fun l3 hl3=>?_⟩;have s6:=s5.trans (aA hl3 (.lst [.ref b.p,.ref a.p]));have n31:l1≠l3:=aJ g5 hl3;have n32:l2≠l3:=aJ g6 hl3;have g7:aL G2 l3 (.lst [.ref b.p,.ref a.p]) l3=some (.lst [.ref b.p,.ref a.p]):=aB;have g8:aL G2 l3 (.lst [.ref b.p,.ref a.p]) l1=_:=(aG n31).trans g5;have g9:aL G2 l3 (.lst [.ref b.p,.ref a.p]) l2=_:=(aG n32).trans g6;generalize aL G2 l3 (.lst [.ref b.p,.ref a.p])=G3 at s6 g7 g8 g9 ⊢;refine⟨l2,l3,_,_,rfl,rfl,g9,g7,by rw[aa,fh];have:=aR (n:=1000) (af _);show bN.length+2<=_;lia,?_⟩;have ez:(bN.reverse.map fun u=>V.ref u.p)++[.ref b.p,.ref a.p]=(a::b::bN).reverse.map fun u=>V.ref u.p:=by simp
   rw[ez];refine⟨ps++[.op p s a b],a::b::bN,_,rfl,bI s6 n2,(aG ne.symm).trans g8,aB,?_,fun x hx=>?_,?_⟩
   ·rw[<-eq];simp[Tm.pre]
   ·rcases bw.mp hx with e|e
    ·rw[e];exact hu.2.1
    ·rcases bw.mp e with e|e
     ·rw[e];exact hu.2.2
     ·exact hs x (ak _ e)
   ·simp[Tm.pre]<;>lia
  |num p n =>
   refine aV (fun z=>cL3 (ae z)) ?_;refine⟨ps++[.num p n],bN,_,rfl,s5,g5,g6,?_,fun x hx=>hs x (ak _ hx),?_⟩
   ·rw[<-eq];simp[Tm.pre]
   ·simp[Tm.pre]<;>lia
  |nam p n =>
   refine aV (fun z=>cT3 (ae z)) ?_;refine⟨ps++[.nam p n],bN,_,rfl,s5,g5,g6,?_,fun x hx=>hs x (ak _ hx),?_⟩
   ·rw[<-eq];simp[Tm.pre]
   ·simp[Tm.pre]<;>lia
theorem bZ4(C_Prt:Cl P w K mg base 1 spParts "parts_of"):eF P w K mg base "names_in" "names_in" cQ9 2 ["term"] spNamesIn:=by
 refine fF ["term"] fun H Q nd hr h=>?_
 obtain⟨t,rfl,ht,hz,k⟩:=h;have hu:=jL hr;refine⟨_,(aE (aK (cH ["part"] [none] (bW (bM C_Prt hr (aM (pv 0)))) (fun _ _ _ _=>(eT 0)) (fun _ _ _ _=>(lW (eG bR (bL (sQ K) (pv 0) aD) aI))) (fun _ _ _ _=>(bL (sQ K) (pv 0) aD))))),?_⟩;refine⟨_,rfl,t,rfl,ht,hz,fun r H1 s1 _ h1=>⟨r,rfl,⟨_,bA.of h1⟩,?_⟩⟩;have pl:=Tm.pre_len t;refine cS (K:=K) (a:=r) (xs:=t.pre.map fun u=>V.ref u.p) (fun i ys σ G=>G=H1/\(∃v,σ=[v])/\ys=((t.pre.take i).filterMap Tm.nm).map V.str)
  (fC (by rw[aa];lia)) ⟨rfl,⟨_,rfl⟩,rfl⟩ (fun i ys σ G ⟨_,_,e⟩=>by
   rw[e,aa];exact cj (om _ _) (by rw[dj];lia)) (by rintro i ys σ G _ ⟨e,_⟩;rw[e];exact bA.of h1) ?_ ?_
 ·rintro i v ys σ G hv ⟨rfl,⟨v',rfl⟩,rfl⟩;obtain⟨u,hu,rfl⟩:∃u,t.pre[i]?=some u/\v=V.ref u.p:=by
   rw[di] at hv
   cases e:t.pre[i]? with
   |none=>rw[e] at hv;cases hv
   |some u=>rw[e] at hv;exact⟨u,rfl,(dt hv).symm⟩
  have hU:=(oV.pre ht u (bj hu)).ts (.of s1);refine⟨_,rfl,u.p,_,_,.str u.w,rfl,rfl,aQ.of hU.at,iV,rfl,_,rfl,?_⟩;rw[aY hu,gv,bo]
  cases u with
  |nam p x=>exact bE (ai rfl) ⟨_,rfl,p,_,_,.str x,rfl,rfl,aQ.of hU,rfl,rfl,⟨_,rfl⟩,rfl⟩
  |num p n=>exact aV (fun z=>wMN (ae z)) ⟨rfl,⟨_,rfl⟩,by rw[kx (by rfl)];simp⟩
  |op p s a b=>exact aV (fun z=>wOM (ae z)) ⟨rfl,⟨_,rfl⟩,by rw[kx (by rfl)];simp⟩
 ·rintro ys σ G ⟨rfl,_,rfl⟩ l hl;rw[aa,cq,Tm.pre_names];exact k l _ (s1.trans (aA hl _)) aB
theorem cA2{cT:Addr}(m_THROWS:mg "THROWS"=some (.ref cT))(hT:∀H,aQ K H cT (cN.map V.str)):eF P w K mg base "sets_name" "sets_name" cI4 1 ["row"] spSetsN:=by
 refine fF ["row"] fun H Q nd hr h=>?_
 obtain⟨r,rfl,hr0,k⟩:=h;refine⟨_,(aE (aK (aJ1 (uX cY (bL aH (pv 0) aD) (pgl m_THROWS)) (kN (uX bR (bL aH (pv 0) aD) aI))))),?_⟩;rw[<-aQ1 (dF.wd r hr0)] at k;refine⟨_,rfl,r.p,_,_,.str r.w,rfl,rfl,aQ.of hr0.at,iV,cT,_,rfl,.inr (hT _),rfl,dD _,_,rfl,?_⟩;have ei:wN (V.str r.w) (cN.map V.str)=decide (r.w∈cN):=dN _ _
 by_cases c:r.w∈cN
 ·refine bE (ei.trans (ai c)) ?_;rw[ai c] at k;exact k
 ·refine aV (fun z=>c (ae (ei.symm.trans z))) ?_;rw[db c,wq] at k;refine⟨_,rfl,r.p,_,_,.str r.w,rfl,rfl,aQ.of hr0.at,iV,rfl,?_⟩;rw[show decide (V.str r.w=V.str "let")=decide (r.w="let") from by simp];exact k
theorem cG2(C_NmI:Cl P w K mg base 2 spNamesIn "names_in"):eF P w K mg base "names_asked" "names_asked" cL8 3 ["row"] spAsked:=by
 refine fF ["row"] fun H Q nd hr h=>?_
 obtain⟨r,rfl,hr0,k⟩:=h;refine⟨_,(aF (bC (eG bR (bL aH (pv 0) aD) aI) (aE (aK (bM C_NmI hr (aM (bL aH (pv 0) aD))))) aS)
  (aF (bC (eG cY (bL aH (pv 0) aD) (aW (aC aI (aM aI)))) (aE (aK (bM C_NmI hr (aM (bL aH (pv 0) aD))))) aS)
  (aE (aK (bJ bX))))),?_⟩
 refine⟨_,rfl,r.p,_,_,.str r.w,rfl,rfl,aQ.of hr0.at,iV,rfl,_,rfl,?_⟩;generalize hP:r.p=P
 cases r with
 |lt p x t =>
  obtain rfl:p=P:=hP;refine bE (ai rfl) ?_;refine⟨_,rfl,p,_,_,.ref t.p,rfl,rfl,aQ.of hr0.1,rfl,t,rfl,hr0.2.1,by have:=hr0.2.2.2;lia,fun q H' s h=>k q H' s h⟩
 |tell p t =>
  obtain rfl:p=P:=hP;refine aV (fun z=>wTL (ae z)) ?_;refine⟨_,rfl,p,_,_,.str "tell",rfl,rfl,aQ.of hr0.1,rfl,dE,fun t2 ht2=>?_⟩;have s1:=aA ht2 (.tup [.str "tell",.str "when"]);refine⟨t2,[.str "tell",.str "when"],rfl,.inr (aQ.of aB),rfl,by decide,_,rfl,?_⟩;refine bE (by decide) ?_;exact⟨_,rfl,p,_,_,.ref t.p,rfl,rfl,aQ.of (s1 _ _ hr0.1),rfl,t,rfl,hr0.2.1.ts (.of s1),by have:=hr0.2.2.2;lia,fun q H' s h=>k q H' (s1.trans s) h⟩
 |when p pa pb t a b =>
  obtain rfl:p=P:=hP;refine aV (fun z=>wWL (ae z)) ?_;refine⟨_,rfl,p,_,_,.str "when",rfl,rfl,aQ.of hr0.1,rfl,dE,fun t2 ht2=>?_⟩;have s1:=aA ht2 (.tup [.str "tell",.str "when"]);refine⟨t2,[.str "tell",.str "when"],rfl,.inr (aQ.of aB),rfl,by decide,_,rfl,?_⟩;refine bE (by decide) ?_;exact⟨_,rfl,p,_,_,.ref t.p,rfl,rfl,aQ.of (s1 _ _ hr0.1),rfl,t,rfl,hr0.2.1.ts (.of s1),by have:=hr0.2.2.1.2;lia,fun q H' s h=>k q H' (s1.trans s) h⟩
 |times p pb n b =>
  obtain rfl:p=P:=hP;refine aV (fun z=>wML (ae z)) ?_;refine⟨_,rfl,p,_,_,.str "times",rfl,rfl,aQ.of hr0.1,rfl,dE,fun t2 ht2=>?_⟩;have s1:=aA ht2 (.tup [.str "tell",.str "when"]);refine⟨t2,[.str "tell",.str "when"],rfl,.inr (aQ.of aB),rfl,by decide,_,rfl,?_⟩;refine aV (by decide) ?_;exact⟨az _,fun l hl=>k l _ (s1.trans (aA hl _)) aB⟩
 |thr p w x vs am =>
  obtain rfl:p=P:=hP;have hw:=hr0.2.w;refine aV (fun z=>cB7 hw (ae z)) ?_;refine⟨_,rfl,p,_,_,.str w,rfl,rfl,aQ.of hr0.1,iV,dE,fun t2 ht2=>?_⟩;have s1:=aA ht2 (.tup [.str "tell",.str "when"]);refine⟨t2,[.str "tell",.str "when"],rfl,.inr (aQ.of aB),rfl,by decide,_,rfl,?_⟩;refine aV (cB9 hw) ?_;exact⟨az _,fun l hl=>k l _ (s1.trans (aA hl _)) aB⟩
theorem cE7  : eF P w K mg base "as_steps" "as_steps" cL9 1 ["rows"] spAsS:=by
 refine fF ["rows"] fun H Q nd hr h=>?_
 obtain⟨p,rs,rfl,hp,hl,k⟩:=h;refine⟨_,(aE (aK (cH ["row"] [none] (vC (pv 0)) (fun _ _ _ _=>(eT 0)) (fun _ _ _ _=>eA) (fun _ _ _ _=>(aW (aC aI (aM (pv 0)))))))),?_⟩;refine⟨_,rfl,p,rfl,⟨_,aQ.of hp⟩,yJ (K:=K) (a:=p) (xs:=bG rs) (fun i zs σ G=>aO H G/\(∃v,σ=[v])/\cV (kS G) zs ((rs.take i).map fun r=>(("row": Str),r)))
  (by rw[bD];exact fC (by lia)) ⟨aO.refl _,⟨_,rfl⟩,trivial⟩ (by rintro i zs σ G ⟨_,_,e⟩;rw[e.length,aa,dj];lia) (by rintro i zs σ G _ ⟨e,_⟩;exact aQ.of (e _ _ hp)) ?_ ?_⟩
 ·rintro i v zs σ G hv ⟨s1,⟨v',rfl⟩,tw⟩;obtain⟨r,rfl,hr'⟩:=lI hv;refine⟨_,rfl,dE,fun t ht=>⟨s1.trans (aA ht _),⟨_,rfl⟩,?_⟩⟩;rw[aY hr',bo];exact cV.append (tw.mono fun _ _ z=>kS.ts (.of (aA ht _)) z) ⟨⟨t,rfl,aB⟩,trivial⟩
 ·rintro zs σ G ⟨s1,_,tw⟩ l hl';rw[bD,cq] at tw;exact k l zs _ (s1.trans (aA hl' _)) aB (tw.mono fun _ _ z=>kS.ts (.of (aA hl' _)) z)
theorem cF2(C_AsS:Cl P w K mg base 1 spAsS "as_steps"):eF P w K mg base "inner_steps" "inner_steps" cG9 2 ["row"] spInner:=by
 refine fF ["row"] fun H Q nd hr h=>?_
 obtain⟨r,rfl,hr0,hc,k⟩:=h;refine⟨_,(aF (bC (eG bR (bL aH (pv 0) aD) aI) (aE (aK (aN gN (aN gN (aN gN (bM C_AsS hr (aM (bL aH (pv 0) aD))) (bJ (aM (aW (aC aI (aM (pv 0))))))) (bM C_AsS hr (aM (bL aH (pv 0) aD)))) (bJ (aM (aW (aC aI (aM (pv 0))))))))) aS)
  (aF (bC (eG bR (bL aH (pv 0) aD) aI) (aE (aK (aN gN (bM C_AsS hr (aM (bL aH (pv 0) aD))) (bJ (aM (aW (aC aI (aM (pv 0))))))))) aS)
  (aE (aK (bJ bX))))),?_⟩
 refine⟨_,rfl,r.p,_,_,.str r.w,rfl,rfl,aQ.of hr0.at,iV,rfl,_,rfl,?_⟩;have ln:=iL r.kids;have ck:=bG1 r;generalize hP:r.p=P
 cases r with
 |when p pa pb t a b =>
  obtain rfl:p=P:=hP;refine bE (ai rfl) ?_;have la:a.length+b.length<=4000:=by simp only[Rw.kids,List.length_append] at ln ck;lia
  obtain⟨hp,_,_,ha,hb,ra,rb⟩:=id hr0;refine⟨_,rfl,p,_,_,.ref pa,rfl,rfl,aQ.of hp,rfl,pa,a,rfl,ha,by lia,fun r1 z1 H1 s1 h1 t1=>?_⟩;refine⟨_,rfl,dE,fun t2 ht2=>⟨lK,fun l2 hl2=>?_⟩⟩;have s2:=(aA ht2 (.tup [.str "else",.ref p])).trans (aA hl2 (.lst [.ref t2]));have h2:aL (aL H1 t2 (.tup [.str "else",.ref p])) l2 (.lst [.ref t2]) l2=some (.lst [.ref t2]):=aB;have e2:kS (aL (aL H1 t2 (.tup [.str "else",.ref p])) l2 (.lst [.ref t2])) (.ref t2) (("else": Str),Rw.when p pa pb t a b):=⟨t2,rfl,(aA hl2 _) _ _ aB⟩
  generalize aL (aL H1 t2 (.tup [.str "else",.ref p])) l2 (.lst [.ref t2])=H2 at s2 h2 e2 ⊢;have l1:=t1.length;rw[aa] at l1;refine⟨r1,l2,_,_,rfl,rfl,s2 _ _ h1,h2,cu (fC (by rw[l1];show a.length+1<=9000000;lia)),fun l3 hl3=>?_⟩;have s3:=s2.trans (aA hl3 (.lst (z1++[.ref t2])));have h3:aL H2 l3 (.lst (z1++[.ref t2])) l3=some (.lst (z1++[.ref t2])):=aB;have t3:cV (kS (aL H2 l3 (.lst (z1++[.ref t2])))) (z1++[.ref t2]) (a.map (fun r=>(("row": Str),r))++[(("else": Str),Rw.when p pa pb t a b)]):=cV.append (t1.mono fun _ _ z=>kS.ts (.of s3) z) ⟨e2.ts (.of (aA hl3 _)),trivial⟩;generalize aL H2 l3 (.lst (z1++[.ref t2]))=H3 at s3 h3 t3 ⊢;have g3:=s1.trans s3;refine⟨_,rfl,p,_,_,.ref pb,rfl,rfl,aQ.of (g3 _ _ hp),rfl,pb,b,rfl,g3 _ _ hb,by lia,fun r4 z4 H4 s4 h4 t4=>?_⟩;have l4:=t4.length;rw[aa] at l4;refine⟨l3,r4,_,_,rfl,rfl,s4 _ _ h3,h4,cu (fC (by simp only[List.length_append,List.length_cons,List.length_nil,l1,l4];lia)),fun l5 hl5=>?_⟩
  have s5:=s4.trans (aA hl5 (.lst (z1++[.ref t2]++z4)));have h5:aL H4 l5 (.lst (z1++[.ref t2]++z4)) l5=some (.lst (z1++[.ref t2]++z4)):=aB;have t5:=cV.append (t3.mono fun _ _ z=>kS.ts (.of s5) z) (t4.mono fun _ _ z=>kS.ts (.of (aA hl5 (.lst (z1++[.ref t2]++z4)))) z);generalize aL H4 l5 (.lst (z1++[.ref t2]++z4))=H5 at s5 h5 t5 ⊢;refine⟨_,rfl,dE,fun t6 ht6=>⟨lK,fun l6 hl6=>?_⟩⟩;have s6:=(aA ht6 (.tup [.str "end",.ref p])).trans (aA hl6 (.lst [.ref t6]));have h6:aL (aL H5 t6 (.tup [.str "end",.ref p])) l6 (.lst [.ref t6]) l6=some (.lst [.ref t6]):=aB;have e6:kS (aL (aL H5 t6 (.tup [.str "end",.ref p])) l6 (.lst [.ref t6])) (.ref t6) (("end": Str),Rw.when p pa pb t a b):=⟨t6,rfl,(aA hl6 _) _ _ aB⟩
  generalize aL (aL H5 t6 (.tup [.str "end",.ref p])) l6 (.lst [.ref t6])=H6 at s6 h6 e6 ⊢;refine⟨l5,l6,_,_,rfl,rfl,s6 _ _ h5,h6,cu (fC (by simp only[List.length_append,List.length_cons,List.length_nil];lia)),fun l7 hl7=>?_⟩;refine k l7 _ _ (g3.trans (s5.trans (s6.trans (aA hl7 _)))) aB ?_;exact cV.append (t5.mono fun _ _ z=>kS.ts (.of (s6.trans (aA hl7 _))) z) ⟨e6.ts (.of (aA hl7 _)),trivial⟩
 |times p pb n b =>
  obtain rfl:p=P:=hP;refine aV (fun z=>wTW (ae z)) ?_;refine⟨_,rfl,p,_,_,.str "times",rfl,rfl,aQ.of hr0.at,iV,rfl,_,rfl,?_⟩;refine bE (ai rfl) ?_;have la:b.length<=4000:=by simp only[Rw.kids] at ln ck;lia
  obtain⟨hp,hb,rb⟩:=id hr0;refine⟨_,rfl,p,_,_,.ref pb,rfl,rfl,aQ.of hp,rfl,pb,b,rfl,hb,by lia,fun r1 z1 H1 s1 h1 t1=>?_⟩;refine⟨_,rfl,dE,fun t2 ht2=>⟨lK,fun l2 hl2=>?_⟩⟩;have s2:=(aA ht2 (.tup [.str "end",.ref p])).trans (aA hl2 (.lst [.ref t2]));have h2:aL (aL H1 t2 (.tup [.str "end",.ref p])) l2 (.lst [.ref t2]) l2=some (.lst [.ref t2]):=aB;have e2:kS (aL (aL H1 t2 (.tup [.str "end",.ref p])) l2 (.lst [.ref t2])) (.ref t2) (("end": Str),Rw.times p pb n b):=⟨t2,rfl,(aA hl2 _) _ _ aB⟩
  generalize aL (aL H1 t2 (.tup [.str "end",.ref p])) l2 (.lst [.ref t2])=H2 at s2 h2 e2 ⊢;have l1:=t1.length;rw[aa] at l1;refine⟨r1,l2,_,_,rfl,rfl,s2 _ _ h1,h2,cu (fC (by rw[l1];show b.length+1<=9000000;lia)),fun l3 hl3=>?_⟩;refine k l3 _ _ (s1.trans (s2.trans (aA hl3 _))) aB ?_;exact cV.append (t1.mono fun _ _ z=>kS.ts (.of (s2.trans (aA hl3 _))) z) ⟨e2.ts (.of (aA hl3 _)),trivial⟩
 |thr p w x vs am =>
  obtain rfl:p=P:=hP;have hw:=hr0.2.w;refine aV (fun z=>aW6 hw (ae z)) ?_;refine⟨_,rfl,p,_,_,.str w,rfl,rfl,aQ.of hr0.at,iV,rfl,_,rfl,?_⟩;refine aV (fun z=>bW8 hw (ae z)) ?_;exact⟨az _,fun l hl=>k l [] _ (aA hl _) aB trivial⟩
 |lt p x t =>
  obtain rfl:p=P:=hP;refine aV (fun z=>wLW (ae z)) ?_;refine⟨_,rfl,p,_,_,.str "let",rfl,rfl,aQ.of hr0.at,iV,rfl,_,rfl,?_⟩;refine aV (fun z=>wLT (ae z)) ?_;exact⟨az _,fun l hl=>k l [] _ (aA hl _) aB trivial⟩
 |tell p t =>
  obtain rfl:p=P:=hP;refine aV (fun z=>wEW (ae z)) ?_;refine⟨_,rfl,p,_,_,.str "tell",rfl,rfl,aQ.of hr0.at,iV,rfl,_,rfl,?_⟩;refine aV (fun z=>wET (ae z)) ?_;exact⟨az _,fun l hl=>k l [] _ (aA hl _) aB trivial⟩
theorem cF8  : eF P w K mg base "has_one_sum" "has_one_sum" cQ8 1 ["sort"] spOne4:=by
 refine fF ["sort"] fun H Q nd hr h=>?_
 obtain⟨T,rfl,k⟩:=h;refine⟨_,(aE (aK (uX cY (pv 0) (aW (aC aI (aM aI)))))),?_⟩;refine⟨_,rfl,dE,fun t ht=>⟨t,[.str "ladder",.str "flat"],rfl,.inr (aQ.of aB),rfl,rfl,?_⟩⟩;show Q (.bl (wN (V.str T.wd) [.str "ladder",.str "flat"])) _;rw[cA9];exact k _ (aA ht _)
theorem bU0  : eF P w K mg base "place_of_sums" "place_of_sums" cP8 1 ["sort"] spPlc4:=by
 refine fF ["sort"] fun H Q nd hr h=>?_
 obtain⟨T,rfl,k⟩:=h;refine⟨_,(aE (aK (mU (eG bR (pv 0) aI) aD aD))),?_⟩;refine⟨_,rfl,rfl,_,rfl,?_⟩
 by_cases c:T.wd="first"
 ·rw[br c] at k;exact bE (by rw[c];exact ai rfl) k
 ·rw[ay c] at k;exact aV (fun z=>c (by have z:=ae z;injection z)) k
theorem bX8(C_Plc:Cl P w K mg base 1 spPlc4 "place_of_sums")(C_One:Cl P w K mg base 1 spOne4 "has_one_sum"):eF P w K mg base "sums_of" "sums_of" cI9 2 ["row"] spSumT:=by
 refine fF ["row","asked"] fun H Q nd hr h=>?_
 obtain⟨p,w,x,us,d,rfl,hr0,k⟩:=h;refine⟨_,(dJ 1 nd (bL aH (pv 0) (bM C_Plc hr (aM (bL aH (pv 0) aD))))
  (aE (aK (mU (fE (bM C_One hr (aM (bL aH (pv 0) aD)))) (aW (aM (pv 1))) (pv 1))))),?_⟩
 obtain⟨hp,ok⟩:=hr0;have ev:=ok.vs;subst ev;have ew:=ok.wd;subst ew;obtain⟨a,ha,so⟩:=bK9 ok.at' (x:=x);refine⟨_,rfl,_,rfl,p,_,_,_,rfl,rfl,aQ.of hp,iV,d.T,rfl,p,_,_,_,rfl,rfl,aQ.of hp,ha,?_⟩;refine⟨_,rfl,p,_,_,_,rfl,rfl,aQ.of hp,iV,d.T,rfl,fun H1 s1=>⟨_,rfl,?_⟩⟩;rcases so with⟨e,w,ws,rfl,hws,ew⟩|⟨e,sm,us,rfl,hsm,tw⟩
 ·refine bE e ?_;exact⟨_,rfl,lK,fun t ht=>k _ t _ (s1.trans (aA ht _)) aB (by rw[ew];exact⟨⟨w,rfl,(s1.trans (aA ht _)) _ _ hws⟩,trivial⟩)⟩
 ·refine aV (by rw[e];decide) ?_;exact⟨_,rfl,k _ sm us s1 (s1 _ _ hsm) (tw.mono fun _ _ z=>z.ts (.of s1))⟩
theorem cG5  : eF P w K mg base "common_divisor" "common_divisor" cJ8 1 ["one","other"] spGcd:=by
 refine fF ["one","other","remainder"] fun H Q nd hr h=>?_
 obtain⟨a,b,rfl,ha,hb,k⟩:=h;refine⟨_,(aF (hJ jg (eG bR8 (pv 1) aD)
  (dJ 2 nd (aN iE (pv 0) (pv 1))
  (dJ 0 nd (pv 1)
  (aE (psz 1 nd (pv 2))))))
  (aE (aK (pv 0)))),?_⟩
 refine⟨fun j σ H1=>H1=H/\∃(x y:Int) (r:Option V),σ=[some (.int x),some (.int y),r]/\0<=x/\0<=y/\gI x y=gI a b/\j=y.toNat,⟨_,rfl,a,b,none,rfl,ha,hb,rfl,rfl⟩,?_⟩;rintro j σ H1 ⟨rfl,x,y,r,rfl,hx,hy,hg,rfl⟩;refine⟨_,rfl,rfl,_,rfl,?_⟩
 by_cases y0:y=0
 ·subst y0;refine cK3 rfl ⟨_,rfl,?_⟩;rw[<-hg,aI9 hx] at k;exact k
 ·have yp:0<y:=by lia
  have e:(!decide (V.int y=V.int 0))=true:=by simp[y0]
  rw[e];refine⟨fun σ' H'=>H'=H1/\∃r',σ'=[some (.int y),some (.int (x % y)),r'],fun σ' H' ⟨e1,r',e2⟩=>⟨(x % y).toNat,?_,e1,y,x % y,r',e2,hy,jp _ y0,(wZ hx yp).trans hg,rfl⟩,?_⟩
  ·have:=jw x yp;have:=jp x y0;lia
  ·exact⟨_,rfl,_,rfl,_,_,rfl,rfl,yp,_,rfl,_,rfl,rfl,_,rfl⟩
theorem bT3(C_Gcd:Cl P w K mg base 1 spGcd "common_divisor"):eF P w K mg base "lowest" "lowest" cJ6 2 ["top","bottom"] spLowX:=by
 refine fF ["top","bottom","divisor"] fun H Q nd hr h=>?_
 obtain⟨a,b,rfl,ha,hb,hz,k⟩:=h;refine⟨_,(dJ 2 nd (bM C_Gcd hr (aC (pv 0) (aM (pv 1))))
  (aE (aK (aW (aC (aN yF (pv 0) (pv 2)) (aM (aN yF (pv 1) (pv 2)))))))),?_⟩
 have g0:0<gI a b:=vI hb;obtain⟨n,hn,hn2⟩:=hz;have g1:∃n,cG n (gI a b)/\n<=8990:=⟨n,cx (by have:=bS6 (a:=a) hb;lia) hn,hn2⟩
 refine⟨_,rfl,_,rfl,a,b,rfl,ha,by lia,?_⟩;exact⟨_,rfl,_,rfl,_,_,rfl,rfl,⟨g0,g1⟩,_,rfl,_,rfl,_,_,rfl,rfl,⟨g0,g1⟩,dE,fun p hp=>k p hp⟩
theorem cC6(C_Low:Cl P w K mg base 2 spLowX "lowest"):eF P w K mg base "added" "added" cK2 3 ["one","other"] (aC6 K):=by
 refine fF ["one","other"] fun H Q nd hr h=>?_
 obtain⟨p,q,⟨a,b⟩,⟨c,d⟩,rfl,hp,hq,fu,fe,k⟩:=h;refine⟨_,(aE (aK (bM C_Low hr (aC (aN cL (aN gT (bL aH (pv 0) aD) (bL aH (pv 1) aD)) (aN gT (bL aH (pv 1) aD) (bL aH (pv 0) aD))) (aM (aN gT (bL aH (pv 0) aD) (bL aH (pv 1) aD))))))),?_⟩;have bd:0<b*d:=jv (show 0<b by have:=fu.b;exact this) (show 0<d by have:=fe.b;exact this);have m1:0<=a*d:=ff fu.a (xy (by decide) fe.b);have m2:0<=c*b:=ff fe.a (xy (by decide) fu.b);refine⟨_,rfl,p,_,_,_,rfl,rfl,hp,ix0 a b,_,rfl,q,_,_,_,rfl,rfl,hq,zS c d,_,_,rfl,rfl,⟨1000,1000,fu.ba,fe.bb,by decide,by decide⟩,?_⟩;refine⟨_,rfl,q,_,_,_,rfl,rfl,hq,ix0 c d,_,rfl,p,_,_,_,rfl,rfl,hp,zS a b,_,_,rfl,rfl,⟨1000,1000,fe.ba,fu.bb,by decide,by decide⟩,_,_,rfl,rfl,?_⟩;refine⟨_,rfl,p,_,_,_,rfl,rfl,hp,zS a b,_,rfl,q,_,_,_,rfl,rfl,hq,zS c d,_,_,rfl,rfl,⟨1000,1000,fu.bb,fe.bb,by decide,by decide⟩,?_⟩;exact⟨_,_,rfl,Int.add_nonneg m1 m2,bd,⟨1000+1000,cG.mul fu.bb fe.bb,by decide⟩,k⟩
theorem bX0(C_Low:Cl P w K mg base 2 spLowX "lowest"):eF P w K mg base "times" "times" cI8 3 ["one","other"] (oO K):=by
 refine fF ["one","other"] fun H Q nd hr h=>?_
 obtain⟨p,q,⟨a,b⟩,⟨c,d⟩,rfl,hp,hq,fu,fe,k⟩:=h;refine⟨_,(aE (aK (bM C_Low hr (aC (aN gT (bL aH (pv 0) aD) (bL aH (pv 1) aD)) (aM (aN gT (bL aH (pv 0) aD) (bL aH (pv 1) aD))))))),?_⟩;have bd:0<b*d:=jv (show 0<b by have:=fu.b;exact this) (show 0<d by have:=fe.b;exact this);refine⟨_,rfl,p,_,_,_,rfl,rfl,hp,ix0 a b,_,rfl,q,_,_,_,rfl,rfl,hq,ix0 c d,_,_,rfl,rfl,⟨1000,1000,fu.ba,fe.ba,by decide,by decide⟩,?_⟩;refine⟨_,rfl,p,_,_,_,rfl,rfl,hp,zS a b,_,rfl,q,_,_,_,rfl,rfl,hq,zS c d,_,_,rfl,rfl,⟨1000,1000,fu.bb,fe.bb,by decide,by decide⟩,?_⟩;exact⟨_,_,rfl,ff fu.a fe.a,bd,⟨1000+1000,cG.mul fu.bb fe.bb,by decide⟩,k⟩
theorem aQ3(C_Low:Cl P w K mg base 2 spLowX "lowest"):eF P w K mg base "minus" "minus" aU9 3 ["one","other"] spMinus:=by
 refine fF ["one","other"] fun H Q nd hr h=>?_
 obtain⟨p,q,a,b,c,d,rfl,hp,hq,ha,hb,hc,hd,b1,d1,hle,k⟩:=h;refine⟨_,(aE (aK (bM C_Low hr (aC (aN gL (aN vY (bL aH (pv 0) aD) (bL aH (pv 1) aD)) (aN vY (bL aH (pv 1) aD) (bL aH (pv 0) aD))) (aM (aN vY (bL aH (pv 0) aD) (bL aH (pv 1) aD))))))),?_⟩;have m2:=wO hb.1 hb.2 hd.1 hd.2;have m3:1<=b*d:=by have:=jv (show 0<b by lia) (show 0<d by lia);lia
 refine⟨_,rfl,p,_,_,_,rfl,rfl,aQ.of hp,ix0 a b,_,rfl,q,_,_,_,rfl,rfl,aQ.of hq,zS c d,_,_,rfl,rfl,⟨ha.below,hd.below⟩,?_⟩;refine⟨_,rfl,q,_,_,_,rfl,rfl,aQ.of hq,ix0 c d,_,rfl,p,_,_,_,rfl,rfl,aQ.of hp,zS a b,_,_,rfl,rfl,⟨hc.below,hb.below⟩,_,_,rfl,rfl,?_⟩;refine⟨_,rfl,p,_,_,_,rfl,rfl,aQ.of hp,zS a b,_,rfl,q,_,_,_,rfl,rfl,aQ.of hq,zS c d,_,_,rfl,rfl,⟨hb.below,hd.below⟩,?_⟩;exact⟨_,_,rfl,by lia,m3,⟨180+180,cG.of m2.1 m2.2,by decide⟩,k⟩
theorem cC3  : eF P w K mg base "less" "less" cM0 1 ["one","other"] (uU K):=by
 refine fF ["one","other"] fun H Q nd hr h=>?_
 obtain⟨p,q,⟨a,b⟩,⟨c,d⟩,rfl,hp,hq,fu,fe,k⟩:=h;refine⟨_,(aE (aK (uX rE (aN gT (bL aH (pv 0) aD) (bL aH (pv 1) aD)) (aN gT (bL aH (pv 1) aD) (bL aH (pv 0) aD))))),?_⟩;refine⟨_,rfl,p,_,_,_,rfl,rfl,hp,ix0 a b,_,rfl,q,_,_,_,rfl,rfl,hq,zS c d,_,_,rfl,rfl,⟨1000,1000,fu.ba,fe.bb,by decide,by decide⟩,?_⟩;exact⟨_,rfl,q,_,_,_,rfl,rfl,hq,ix0 c d,_,rfl,p,_,_,_,rfl,rfl,hp,zS a b,_,_,rfl,rfl,⟨1000,1000,fe.ba,fu.bb,by decide,by decide⟩,_,_,rfl,rfl,k⟩
theorem bV5(m_range:mg "range"=none):eF P w K mg base "power" "power" cK8 1 ["one","k"] (rX K):=by
 refine fF ["one","k","top","bottom","step"] fun H Q nd hr h=>?_
 obtain⟨p,⟨a,b⟩,n,rfl,hp,ba,bb,n0,n1,k⟩:=h;refine⟨_,(dJ 2 nd aD
  (dJ 3 nd aD
  (aF (wV (dL (by rfl) m_range (aM (pv 1))) (eT 4 nd)
  (dJ 2 nd (aN gT (pv 2) (bL aH (pv 0) aD))
  (aE (psz 3 nd (aN gT (pv 3) (bL aH (pv 0) aD))))))
  (aE (aK (aW (aC (pv 2) (aM (pv 3))))))))),?_⟩
 refine⟨_,rfl,_,rfl,by lia,by lia,tW (n:=n.toNat) (fun i σ H1=>H1=H/\∃v,σ=[some (.ref p),some (.int n),some (.int (a^i)),some (.int (b^i)),v])
  ⟨rfl,none,by rw[qw,qw];rfl⟩ ?_ ?_⟩
 ·rintro i σ H1 hi ⟨rfl,v,rfl⟩;have i21:1000*i+1<=100000:=by lia
  refine⟨_,rfl,_,rfl,p,_,_,_,rfl,rfl,hp,ix0 a b,_,_,rfl,rfl,⟨1000*i+1,1000,cG.pow ba i,ba,i21,by decide⟩,?_⟩;refine⟨_,rfl,_,rfl,p,_,_,_,rfl,rfl,hp,zS a b,_,_,rfl,rfl,⟨1000*i+1,1000,cG.pow bb i,bb,i21,by decide⟩,?_⟩;refine⟨rfl,some (.int (0+(i:Int))),?_⟩;rw[mj,mj];rfl
 ·rintro σ H1 ⟨rfl,v,rfl⟩;exact⟨_,rfl,_,rfl,dE,fun r hr'=>k r hr'⟩
theorem bX6(C_Tms:Cl P w K mg base 3 (oO K) "times")(C_Pow:Cl P w K mg base 1 (rX K) "power"):eF P w K mg base "far_tail" "far_tail" cL4 4 ["steepness","k"] (bG7 0 21 (fun p q k=>wS p q k.toNat) (fun p q k=>sT p q k.toNat)):=by
 refine fF ["steepness","k"] fun H Q nd hr h=>?_
 obtain⟨st,p,q,n,rfl,hst,hs,n0,n1,k⟩:=h;refine⟨_,(aE (aK (bM C_Tms hr (aC (aW (aC (bL aH (pv 0) aD) (aM (aN cL (bL aH (pv 0) aD) (bL aH (pv 0) aD))))) (aM (bM C_Pow hr (aC (pv 0) (aM (pv 1))))))))),?_⟩;obtain⟨p1,pq,q9⟩:=id hs;refine⟨_,rfl,st,_,_,_,rfl,rfl,aQ.of hst,zS p q,_,rfl,st,_,_,_,rfl,rfl,aQ.of hst,zS p q,_,rfl,st,_,_,_,rfl,rfl,aQ.of hst,ix0 p q,_,_,rfl,rfl,dE,fun t ht=>?_⟩;have g1:aO H (aL H t (.tup [.int q,.int (q+p)])):=aA ht _;have ht1:gE (aL H t (.tup [.int q,.int (q+p)])) t q (q+p):=aB;generalize aL H t (.tup [.int q,.int (q+p)])=H1 at g1 ht1 ⊢;refine⟨_,rfl,_,rfl,st,(p,q),n,rfl,cP.of (g1 _ _ hst),(b4 (by lia) (by lia)).mono (by decide),(b4 (by lia) (by lia)).mono (by decide),n0,n1,fun r hr'=>?_⟩;have g2:aO H1 (aL H1 r (.tup [.int (p^n.toNat),.int (q^n.toNat)])):=aA hr' _;have hr2:gE (aL H1 r (.tup [.int (p^n.toNat),.int (q^n.toNat)])) r (p^n.toNat) (q^n.toNat):=aB
 generalize aL H1 r (.tup [.int (p^n.toNat),.int (q^n.toNat)])=H2 at g2 hr2 ⊢;have e1:=bJ8 (a:=p) (n:=n.toNat) (by lia) (by lia) (by lia);have e2:=bJ8 (a:=q) (n:=n.toNat) (by lia) (by lia) (by lia);have e3:1<=q^n.toNat:=pw1 (by lia) _;have f1:gQ 1000 (q,q+p):=⟨show 0<=q by lia,show 1<=q+p by lia,(cG.of (n:=5) (show 0<=q by lia) (by lia)).mono (by decide),(cG.of (n:=5) (show 0<=q+p by lia) (by lia)).mono (by decide)⟩
 have f2:gQ 1000 (p^n.toNat,q^n.toNat):=⟨e1.1,e3,(cG.of e1.1 e1.2).mono (by decide),(cG.of e2.1 e2.2).mono (by decide)⟩
 refine⟨t,r,(q,q+p),(p^n.toNat,q^n.toNat),rfl,cP.of (g2 _ _ ht1),cP.of hr2,f1,f2,fun u hu'=>?_⟩;exact k _ u (g1.trans (g2.trans (aA hu' _))) aB
theorem bL7(C_Minus:Cl P w K mg base 3 spMinus "minus")(C_Far:Cl P w K mg base 4 (bG7 0 21 (fun p q k=>wS p q k.toNat) (fun p q k=>sT p q k.toNat)) "far_tail"):eF P w K mg base "tail_of" "tail_of" bR4 5 ["steepness","k"] (bG7 (-20) 21 tN tD):=by
 refine fF ["steepness","k"] fun H Q nd hr h=>?_
 obtain⟨st,p,q,n,rfl,hst,hs,n0,n1,k⟩:=h;refine⟨_,(aF (bC (eG aU1 (pv 1) aD) (aE (aK (bM C_Far hr (aC (pv 0) (aM (pv 1)))))) aS)
  (aE (aK (bM C_Minus hr (aC (aW (aC aD (aM aD))) (aM (bM C_Far hr (aC (pv 0) (aM (aN gL aD (pv 1))))))))))),?_⟩
 obtain⟨p1,pq,q9⟩:=id hs;refine⟨_,rfl,_,_,rfl,rfl,_,rfl,?_⟩;refine oE (fun c=>?_) (fun c=>?_)
 ·have c0:0<=n:=ae c;refine⟨_,rfl,_,rfl,st,p,q,n,rfl,hst,hs,c0,n1,fun H' r s t=>k H' r s ?_⟩;unfold tN tD;simp only[if_pos c0];exact t
 ·have c0:¬0<=n:=fun z=>c (ai z)
  refine⟨dE,fun t ht=>?_⟩;have g1:aO H (aL H t (.tup [.int 1,.int 1])):=aA ht _;have ht1:gE (aL H t (.tup [.int 1,.int 1])) t 1 1:=aB;generalize aL H t (.tup [.int 1,.int 1])=H1 at g1 ht1 ⊢;refine⟨_,rfl,_,rfl,_,_,rfl,rfl,st,p,q,1-n,rfl,g1 _ _ hst,hs,by lia,by lia,fun H2 r g2 hr2'=>?_⟩;have hr2:gE H2 r (eK (wS p q (1-n).toNat) (sT p q (1-n).toNat)) (dO (wS p q (1-n).toNat) (sT p q (1-n).toNat)):=hr2';have bd:=cH9 hs (n:=(1-n).toNat) (by lia);have sp:=aF2 p1 pq (1-n).toNat;have lb:=cC8 bd.2.2 bd.2.1 sp;have l1:=iY (a:=wS p q (1-n).toNat) sp;have l2:=bX2 (aJ2 p1 pq (1-n).toNat) sp;refine⟨t,r,1,1,_,_,rfl,g2 _ _ ht1,hr2,⟨by decide,by decide⟩,⟨by decide,by decide⟩,lb.1,lb.2,by decide,l1,by lia,fun u hu'=>?_⟩;refine k _ u (g1.trans (g2.trans (aA hu' _))) ?_;have rt:=pE (a:=wS p q (1-n).toNat) (b:=sT p q (1-n).toNat) bd.2.2.1 sp;have e:=aC3 (a:=1*dO (wS p q (1-n).toNat) (sT p q (1-n).toNat)-eK (wS p q (1-n).toNat) (sT p q (1-n).toNat)*1) (b:=1*dO (wS p q (1-n).toNat) (sT p q (1-n).toNat))
   (c:=sT p q (1-n).toNat-wS p q (1-n).toNat) (d:=sT p q (1-n).toNat) (by lia) (by lia) (by have:=aJ2 p1 pq (1-n).toNat;lia) sp (by
    generalize dO (wS p q (1-n).toNat) (sT p q (1-n).toNat)=y at rt ⊢;generalize eK (wS p q (1-n).toNat) (sT p q (1-n).toNat)=x at rt ⊢
    grind)
  unfold tN tD;simp only[if_neg c0];rw[<-e.1, <-e.2];exact aB
theorem cF6(C_Pow:Cl P w K mg base 1 (rX K) "power"):eF P w K mg base "turned_power" "turned_power" cH8 2 ["steepness","k"] spTPow:=by
 refine fF ["steepness","k"] fun H Q nd hr h=>?_
 obtain⟨st,p,q,n,rfl,hst,hs,n0,n6,k⟩:=h;refine⟨_,(aE (aK (bM C_Pow hr (aC (aW (aC (bL aH (pv 0) aD) (aM (bL aH (pv 0) aD)))) (aM (pv 1)))))),?_⟩;obtain⟨p1,pq,q9⟩:=id hs;refine⟨_,rfl,st,_,_,_,rfl,rfl,aQ.of hst,zS p q,_,rfl,st,_,_,_,rfl,rfl,aQ.of hst,ix0 p q,dE,fun t ht=>?_⟩;have s1:=aA ht (.tup [.int q,.int p]);have h1:gE (aL H t (.tup [.int q,.int p])) t q p:=aB;generalize aL H t (.tup [.int q,.int p])=H1 at s1 h1 ⊢;refine⟨_,rfl,t,(q,p),n,rfl,cP.of h1,(b4 (by lia) (by lia)).mono (by decide),(b4 (by lia) (by lia)).mono (by decide),n0,by lia,fun r hr'=>?_⟩;exact k _ r (s1.trans (aA hr' _)) aB
theorem cD9{cF cF0 cF1:Addr}(m_FREE:mg "FREE"=some (.ref cF))(hF:∀H,aQ K H cF [.ref cF0,.ref cF1]/\cP K H cF0 (1,1)/\cP K H cF1 (0,1))(C_Tms:Cl P w K mg base 3 (oO K) "times")(C_TPw:Cl P w K mg base 2 spTPow "turned_power")(C_Low:Cl P w K mg base 2 spLowX "lowest")(C_Tail:Cl P w K mg base 5 (bG7 (-20) 21 tN tD) "tail_of")(C_Sms:Cl P w K mg base 2 spSumT "sums_of")(m_max:mg "max"=none)(m_min:mg "min"=none):eF P w K mg base "price_of_throw" "price_of_throw" cQ2 6 ["row","kind"] (bG8 K):=by
 refine fF ["row","kind","weight","moves","factor"] fun H Q nd hr h=>?_
 obtain⟨p,w,x,us0,d,kn,rfl,hr0,hkd,k⟩:=h;have hr2:dI 2 _:=hr.mono (by decide);have hr5:dI 5 _:=hr.mono (by decide);refine⟨_,(dJ 2 nd (sU aB8 m_max qh (aM (cH ["weights","kind"] [none,some 1] (vC (bM C_Sms hr (aM (pv 0)))) (fun _ _ _ _=>(eT 0)) (fun _ _ _ _=>eA) (fun _ _ _ _=>(bL (sQ K) (pv 0) (pv 1))))))
  (aF (bC (eG bR (pv 2) aD) (aE (aK (pgl m_FREE))) aS)
  (aF (bC (eG bR (bL aH (pv 0) aD) aI) (dJ 3 nd (aN cL (aN fW aD (bL aH (pv 0) aD)) aD)
  (aE (aK (aW (aC (bL aH (pgl m_FREE) aD) (aM (bM C_Low hr (aC (sU (aP1 rfl) m_min PyProof.Rows.boot_min (aC (pv 2) (aM (pv 3)))) (aM (pv 3)))))))))) aS)
  (aF (bC (eG bR (bL aH (pv 0) aD) aI) (dJ 4 nd (bM C_Tms hr (aC (bM C_TPw hr (aC (bL aH (pv 0) aD) (aM (pv 2)))) (aM (bM C_TPw hr (aC (bL aH (pv 0) aD) (aM (aN fW aD (pv 2))))))))
  (aE (aK (aW (aC (pv 4) (aM (bM C_Tail hr (aC (bL aH (pv 0) aD) (aM (aN gL (aN gL (bL aH (pv 0) aD) (pv 2)) (bL aH (pv 0) aD))))))))))) aS)
  (aE (aK (aW (aC (bM C_TPw hr (aC (bL aH (pv 0) aD) (aM (pv 2)))) (aM (bL aH (pgl m_FREE) aD)))))))))),?_⟩
 obtain rfl:=hr0.2.vs;refine⟨_,rfl,p,w,x,d.vs,d,rfl,hr0,fun H1 t us s1 ht tw=>⟨t,rfl,⟨_,aQ.of ht⟩,yJ (xs:=us) (fun i zs σ G=>G=H1/\(∃v,σ=[v,some (.int kn)])/\zs=((d.wss.map fun ws=>ws.getD kn 0).take i).map V.int)
  (aR (by have:=tw.length;have:=hr0.2.ws.l4;lia)) ⟨rfl,⟨_,rfl⟩,rfl⟩ (by rintro i zs σ G ⟨_,_,e⟩;rw[e,aa,dj];lia) (by rintro i zs σ G _ ⟨e,_⟩;rw[e];exact aQ.of ht) ?_ ?_⟩⟩
 ·rintro j y zs σ _ hy ⟨rfl,⟨v,rfl⟩,rfl⟩;obtain⟨ws,hws,aw,rfl,hia⟩:=gF tw hy;have lw:=(hr0.2.ws.ws ws (bj hws)).1;refine⟨_,rfl,_,rfl,aw,_,_,_,rfl,rfl,aQ.of hia,wR (cL1 (by lia)),rfl,⟨_,rfl⟩,?_⟩;have e:(d.wss.map fun ws=>ws.getD kn 0)[j]?=some (ws.getD kn 0):=by rw[di,hws];rfl
  rw[aY e,bo];rfl
 rintro zs σ Gx ⟨ex,_,rfl⟩ l9 hl9;replace ex:=ex.symm;subst ex;rw[bJ9 tw];refine⟨l9,_,rfl,bA.of aB,bS9 hr0.2.ws kn,fun wI hin hbd=>?_⟩;have s2:=s1.trans (aA hl9 (.lst ((d.wss.map fun ws=>ws.getD kn 0).map V.int)));generalize aL H1 l9 (.lst ((d.wss.map fun ws=>ws.getD kn 0).map V.int))=H2 at s2 ⊢;have ew:=cO9 hr0.2.ws hin hbd;have w03:=bR9 hr0.2.ws kn;clear hin hbd hl9 tw ht s1;subst ew;generalize ewk:wK d kn=wI at w03 k ⊢;obtain⟨w0,w3⟩:=w03;refine⟨_,rfl,rfl,_,rfl,?_⟩
 by_cases c0:wI=0
 ·refine bE (by rw[c0];exact ai rfl) ?_;refine k _ _ s2 ?_;unfold sX;rw[br c0];exact⟨cF,cF0,cF1,rfl,(hF _).1,(hF _).2.1,(hF _).2.2⟩
 refine aV (fun z=>c0 (by have z:=ae z;injection z)) ?_;have hr2:=dF.ts (.of s2) _ hr0;obtain⟨hp,ok⟩:=hr2;have ewd:=ok.wd;have vat:=ok.at';have tok:=ok.ok;have kk:∀H' v,aO H2 H'->dU K H' v (sX d.T wI)->Q v H':=fun H' v s=>k H' v (s2.trans s)
 clear k hr0 ok s2 hkd ewk;unfold sX at kk;rw[ay c0] at kk;obtain⟨vs,T,wss,kd⟩:=d;replace hp:H2 p=some (.tup (.str w :: .str x::vs)):=hp;subst ewd
 cases T with
 |fla r lo hi =>
  obtain⟨wa,ws,e,_,_⟩:=vat;replace e:vs=_:=e;subst e;obtain⟨r0,r4⟩:=tok;replace r0:0<=r:=r0;replace r4:r<=4:=r4;refine⟨_,rfl,p,_,_,_,rfl,rfl,aQ.of hp,rfl,rfl,_,rfl,bE (ai rfl) ?_⟩;refine⟨_,rfl,p,_,_,_,rfl,rfl,aQ.of hp,rfl,_,_,rfl,rfl,.inl ⟨by decide,by decide⟩,_,_,rfl,rfl,?_⟩;have m0:0<=(if 2*r+1<wI then 2*r+1 else wI):=by split<;>lia
  refine⟨cF,_,_,_,rfl,rfl,(hF _).1,rfl,_,rfl,_,rfl,wI,2*r+1,rfl,_,rfl,_,_,rfl,m0,by lia,⟨10,.of (by lia) (by lia),by decide⟩,fun u hu'=>⟨dE,fun t ht=>?_⟩⟩;have s2':=aA hu' (.tup [.int (eV (if 2*r+1<wI then 2*r+1 else wI) (2*r+1)).1,.int (eV (if 2*r+1<wI then 2*r+1 else wI) (2*r+1)).2]);exact kk _ (.ref t) (s2'.trans (aA ht _)) ⟨t,cF0,u,rfl,aQ.of aB,(hF _).2.1,cP.ofU ((aA ht _) _ _ aB)⟩
 |fst pa qa pb qb mk lo hi =>
  obtain⟨sm,us,sa,sb,e,_,_,h1,h2⟩:=vat;replace e:vs=_:=e;subst e;obtain⟨ca,cb,k0,k9⟩:=tok;refine⟨_,rfl,p,_,_,_,rfl,rfl,aQ.of hp,rfl,rfl,_,rfl,aV (by rw[gi];exact nFF) ?_⟩;refine⟨_,rfl,p,_,_,_,rfl,rfl,aQ.of hp,rfl,rfl,_,rfl,bE (ai rfl) ?_⟩;refine⟨_,rfl,p,_,_,_,rfl,rfl,aQ.of hp,rfl,_,rfl,sa,pa,qa,wI,rfl,h1,ca.st,w0,by lia,fun H3 r3 s3 h3=>?_⟩;refine⟨_,rfl,p,_,_,_,rfl,rfl,aQ.of (s3 _ _ hp),rfl,_,rfl,_,_,rfl,rfl,.inl ⟨by decide,by decide⟩,sb,pb,qb,2*wI,rfl,s3 _ _ h2,cb.st,by lia,by lia,fun H4 r4 s4 h4=>?_⟩;have q1:∀{a c:Int},Cop a c->gQ 1000 (c^wI.toNat,a^wI.toNat)/\gQ 1000 (c^(2*wI).toNat,a^(2*wI).toNat):=fun {a c} h=>by
   have h1:=h.st.p1;have h2:=h.st.pq;have h3:=h.st.q9;exact⟨⟨ir (by lia),pw1 h1 _,(pwb (by lia) h3 (by lia)).mono (by decide),(pwb (by lia) (by lia) (by lia)).mono (by decide)⟩,⟨ir (by lia),pw1 h1 _,(pwb (by lia) h3 (by lia)).mono (by decide),(pwb (by lia) (by lia) (by lia)).mono (by decide)⟩⟩
  refine⟨r3,r4,(qa^wI.toNat,pa^wI.toNat),(qb^(2*wI).toNat,pb^(2*wI).toNat),rfl,cP.of (s4 _ _ h3),cP.of h4,(q1 ca).1,(q1 cb).2,fun r5 hr5=>?_⟩;have s5:=aA hr5 (.tup [.int (gU (qa^wI.toNat,pa^wI.toNat) (qb^(2*wI).toNat,pb^(2*wI).toNat)).1,.int (gU (qa^wI.toNat,pa^wI.toNat) (qb^(2*wI).toNat,pb^(2*wI).toNat)).2]);have h5:=aB (H:=H4) (a:=r5) (o:= .tup [.int (gU (qa^wI.toNat,pa^wI.toNat) (qb^(2*wI).toNat,pb^(2*wI).toNat)).1,.int (gU (qa^wI.toNat,pa^wI.toNat) (qb^(2*wI).toNat,pb^(2*wI).toNat)).2]);generalize aL H4 r5 (.tup [.int (gU (qa^wI.toNat,pa^wI.toNat) (qb^(2*wI).toNat,pb^(2*wI).toNat)).1,.int (gU (qa^wI.toNat,pa^wI.toNat) (qb^(2*wI).toNat,pb^(2*wI).toNat)).2])=H5 at s5 h5 ⊢;have g5:=s3.trans (s4.trans s5);refine⟨_,rfl,_,rfl,p,_,_,_,rfl,rfl,aQ.of (g5 _ _ hp),rfl,_,rfl,p,_,_,_,rfl,rfl,aQ.of (g5 _ _ hp),rfl,_,rfl,_,_,rfl,rfl,_,rfl,p,_,_,_,rfl,rfl,aQ.of (g5 _ _ hp),rfl,_,_,rfl,rfl,sa,pa,qa,hi-wI-mk,rfl,g5 _ _ h1,ca.st,by lia,by lia,fun H6 r6 s6 h6=>⟨dE,fun t ht=>?_⟩⟩
  exact kk _ (.ref t) (g5.trans (s6.trans (aA ht _))) ⟨t,r5,r6,rfl,aQ.of aB,cP.ofU ((s6.trans (aA ht _)) _ _ h5),cP.ofU ((aA ht _) _ _ h6)⟩
 |lad pa qa lo hi =>
  obtain⟨wa,ws,st,e,_,_,h1⟩:=vat;replace e:vs=_:=e;subst e;refine⟨_,rfl,p,_,_,_,rfl,rfl,aQ.of hp,rfl,rfl,_,rfl,aV (by rw[gi];exact nFL) ?_⟩;refine⟨_,rfl,p,_,_,_,rfl,rfl,aQ.of hp,rfl,rfl,_,rfl,aV (by rw[gi];exact nIL) ?_⟩;refine⟨_,rfl,p,_,_,_,rfl,rfl,aQ.of hp,rfl,_,rfl,st,pa,qa,wI,rfl,h1,(show Cop pa qa from tok).st,w0,by lia,fun H3 r3 s3 h3=>?_⟩;refine⟨cF,_,_,_,rfl,rfl,(hF _).1,rfl,dE,fun t ht=>?_⟩;exact kk _ (.ref t) (s3.trans (aA ht _)) ⟨t,r3,cF1,rfl,aQ.of aB,cP.of ((aA ht _) _ _ h3),(hF _).2.2⟩
 |cho pa qa lo hi =>
  obtain⟨sm,us,st,e,_,_,h1⟩:=vat;replace e:vs=_:=e;subst e;refine⟨_,rfl,p,_,_,_,rfl,rfl,aQ.of hp,rfl,rfl,_,rfl,aV (by rw[gi];exact nFC) ?_⟩;refine⟨_,rfl,p,_,_,_,rfl,rfl,aQ.of hp,rfl,rfl,_,rfl,aV (by rw[gi];exact nIC) ?_⟩;refine⟨_,rfl,p,_,_,_,rfl,rfl,aQ.of hp,rfl,_,rfl,st,pa,qa,wI,rfl,h1,(show Cop pa qa from tok).st,w0,by lia,fun H3 r3 s3 h3=>?_⟩;refine⟨cF,_,_,_,rfl,rfl,(hF _).1,rfl,dE,fun t ht=>?_⟩;exact kk _ (.ref t) (s3.trans (aA ht _)) ⟨t,r3,cF1,rfl,aQ.of aB,cP.of ((aA ht _) _ _ h3),(hF _).2.2⟩
theorem cE2{cT:Addr}(m_THROWS:mg "THROWS"=some (.ref cT))(hT:∀H,aQ K H cT (cN.map V.str)){cF cF0 cF1:Addr}(m_FREE:mg "FREE"=some (.ref cF))(hF:∀H,aQ K H cF [.ref cF0,.ref cF1]/\cP K H cF0 (1,1)/\cP K H cF1 (0,1))(C_POT:Cl P w K mg base 6 (bG8 K) "price_of_throw"):eF P w K mg base "price_of_row" "price_of_row" cI7 7 ["row","kind"] (aY1 K):=by
 refine fF ["row","kind"] fun H Q nd hr h=>?_
 obtain⟨r,kn,rfl,hr0,hk,k⟩:=h;refine⟨_,(aE (aK (mU (eG cY (bL aH (pv 0) aD) (pgl m_THROWS)) (bM C_POT hr (aC (pv 0) (aM (pv 1)))) (pgl m_FREE)))),?_⟩;refine⟨_,rfl,r.p,_,_,.str r.w,rfl,rfl,aQ.of hr0.at,iV,cT,_,rfl,.inr (hT _),rfl,dD _,_,rfl,?_⟩;have ei:wN (V.str r.w) (cN.map V.str)=decide (r.w∈cN):=dN _ _;have no:¬r.w∈cN->aK7 kn r=free->Q (.ref cF) H:=fun _ e=>k H _ (aO.refl _) (by rw[e];exact⟨cF,cF0,cF1,rfl,(hF _).1,(hF _).2.1,(hF _).2.2⟩)
 cases r with
 |thr p w x us d =>
  refine bE (ei.trans (ai (jZ.w hr0.2))) ?_;exact⟨_,rfl,_,rfl,p,w,x,us,d,kn,rfl,hr0,hk p w x us d rfl,k⟩
 |lt p x t =>
  have n:¬(("let": Str)∈cN):=by decide
  exact aV (fun z=>n (ae (ei.symm.trans z))) (no n rfl)
 |tell p t =>
  have n:¬(("tell": Str)∈cN):=by decide
  exact aV (fun z=>n (ae (ei.symm.trans z))) (no n rfl)
 |when p pa pb t a b =>
  have n:¬(("when": Str)∈cN):=by decide
  exact aV (fun z=>n (ae (ei.symm.trans z))) (no n rfl)
 |times p pb n' b =>
  have n:¬(("times": Str)∈cN):=by decide
  exact aV (fun z=>n (ae (ei.symm.trans z))) (no n rfl)
theorem bW7{cF cF0 cF1:Addr}(m_FREE:mg "FREE"=some (.ref cF))(hF:∀H,aQ K H cF [.ref cF0,.ref cF1]/\cP K H cF0 (1,1)/\cP K H cF1 (0,1))(C_Tms:Cl P w K mg base 3 (oO K) "times")(C_Add:Cl P w K mg base 3 (aC6 K) "added"):eF P w K mg base "price_behind" "price_behind" cJ5 4 ["prices"] (bB5 K):=by
 refine fF ["prices","factor","rest","one"] fun H Q nd hr h=>?_
 obtain⟨l,us,ps,rfl,hl,un,tw,⟨b1,b2⟩,k⟩:=h;refine⟨_,(dJ 1 nd (bL aH (pgl m_FREE) aD)
  (dJ 2 nd (bL aH (pgl m_FREE) aD)
  (aF (wV (bW (pv 0)) (eT 3 nd)
  (dJ 1 nd (bM C_Tms hr (aC (pv 1) (aM (bL aH (pv 3) aD))))
  (aE (psz 2 nd (bM C_Add hr (aC (pv 2) (aM (bL aH (pv 3) aD))))))))
  (aE (aK (aW (aC (pv 1) (aM (pv 2))))))))),?_⟩
 refine⟨cF,_,_,_,rfl,rfl,(hF _).1,rfl,?_⟩;refine⟨cF,_,_,_,rfl,rfl,(hF _).1,rfl,?_⟩;have ul:=tw.length;refine⟨_,rfl,l,rfl,⟨_,bA.of hl⟩,dQ (K:=K) (a:=l) (xs:=us) (fun i σ G=>∃(f g:Addr) (v:Option V),σ=[some (.ref l),some (.ref f),some (.ref g),v]/\aO H G/\cP K G f (fO (ps.take i)).1/\cP K G g (fO (ps.take i)).2)
  ⟨cF0,cF1,_,rfl,aO.refl _,(hF _).2.1,(hF _).2.2⟩ (by rintro i σ G _ ⟨_,_,_,_,e,_⟩;exact bA.of (e _ _ hl)) ?_ ?_⟩
 ·rintro D' N i hN v σ G hv ⟨f,g,v3,rfl,s1,hf,hg⟩;obtain⟨P0,hP,a,x,y,rfl,ha,hx,hy⟩:=gF tw hv;have bp:=b1 P0 (bj hP);have bi:=b2 i;refine⟨_,rfl,_,rfl,a,_,_,_,rfl,rfl,aQ.ts s1 ha,rfl,f,x,_,_,rfl,hf,hx.s s1,bi.1,bp.1,fun r1 hr1'=>?_⟩;have s2:=aA hr1' (.tup [.int (gU (fO (ps.take i)).1 P0.1).1,.int (gU (fO (ps.take i)).1 P0.1).2]);have h2:=aB (H:=G) (a:=r1) (o:= .tup [.int (gU (fO (ps.take i)).1 P0.1).1,.int (gU (fO (ps.take i)).1 P0.1).2]);generalize aL G r1 (.tup [.int (gU (fO (ps.take i)).1 P0.1).1,.int (gU (fO (ps.take i)).1 P0.1).2])=G2 at s2 h2 ⊢;refine⟨_,rfl,_,rfl,a,_,_,_,rfl,rfl,aQ.ts (s1.trans s2) ha,rfl,g,y,_,_,rfl,hg.s s2,hy.s (s1.trans s2),bi.2,bp.2,fun r2 hr2'=>?_⟩;rw[aY hP,rL] at hN;exact hN _ _ ⟨r1,r2,_,rfl,s1.trans (s2.trans (aA hr2' _)),(cP.ofU h2).s (aA hr2' _),cP.ofU aB⟩
 ·rintro σ G ⟨f,g,v3,rfl,s1,hf,hg⟩;rw[ul,cq] at hf hg;refine⟨_,rfl,_,rfl,dE,fun t ht=>?_⟩;exact k _ (.ref t) (s1.trans (aA ht _)) ⟨t,f,g,rfl,aQ.of aB,hf.s (aA ht _),hg.s (aA ht _)⟩
theorem cA4(C_Les:Cl P w K mg base 1 (uU K) "less"):eF P w K mg base "greatest" "greatest" cO1 2 ["fractions"] (bE7 K):=by
 refine fF ["fractions","found","fraction"] fun H Q nd hr h=>?_
 obtain⟨l,us,fs,rfl,hl,f1,f9,tw,bf,k⟩:=h;refine⟨_,(dJ 1 nd (bL eJ (pv 0) aD)
  (aF (wV (bW (pv 0)) (eT 2 nd)
  (aE (bC (fE (bM C_Les hr (aC (pv 1) (aM (pv 2))))) (aE (psz 1 nd (pv 2))) aS)))
  (aE (aK (pv 1))))),?_⟩
 have ul:=tw.length;obtain⟨f0,fr,rfl⟩:=bB6 f1;obtain⟨u0,ur,rfl⟩:∃a r,us=a::r:=bB6 (by lia);obtain⟨⟨a0,rfl,h0⟩,_⟩:=id tw;refine⟨_,rfl,l,_,_,.ref a0,rfl,rfl,bA.of hl,iV,?_⟩;refine⟨_,rfl,l,rfl,⟨_,bA.of hl⟩,dQ (K:=K) (a:=l) (xs:= .ref a0::ur) (fun i σ G=>G=H/\∃(f:Addr) (v:Option V),σ=[some (.ref l),some (.ref f),v]/\cP K H f (((f0::fr).take i).foldl mC f0))
  ⟨rfl,a0,_,rfl,h0⟩ (by rintro i σ G _ ⟨e,_⟩;rw[e];exact bA.of hl) ?_ ?_⟩
 ·rintro D' N i hN v σ G hv ⟨rfl,f,v2,rfl,hf⟩;obtain⟨g,hg,a,rfl,ha⟩:=gF tw hv;have bg:=bf g (bj hg);have bacc:gQ 1000 (((f0::fr).take i).foldl mC f0):=cK4 (bf f0 ao) fun x hx=>bf x (km hx)
  refine⟨_,rfl,_,rfl,f,a,_,_,rfl,hf,ha,bacc,bg,_,rfl,?_⟩;rw[bJ0 hg] at hN;refine oE (fun c=>?_) (fun c=>?_)
  ·refine⟨_,rfl,hN _ _ ⟨rfl,a,_,rfl,?_⟩⟩;rw[show mC (((f0::fr).take i).foldl mC f0) g=g from br (ae c)];exact ha
  ·refine hN _ _ ⟨rfl,f,_,rfl,?_⟩;have c:¬_:=fun z=>c (ai z)
   rw[show mC (((f0::fr).take i).foldl mC f0) g=((f0::fr).take i).foldl mC f0 from ay c];exact hf
 ·rintro σ G ⟨rfl,f,v2,rfl,hf⟩;rw[ul,cq] at hf;exact⟨_,rfl,k _ ⟨f,rfl,hf⟩⟩
theorem cD7(C_Grt:Cl P w K mg base 2 (bE7 K) "greatest"):eF P w K mg base "greatest_of" "greatest_of" cH1 3 ["prices"] (bF1 K):=by
 refine fF ["prices"] fun H Q nd hr h=>?_
 obtain⟨l,us,ps,rfl,hl,p1,p9,tw,bp,k⟩:=h;refine⟨_,(aE (aK (aW (aC (bM C_Grt hr (aM (cH ["one"] [none] (bW (pv 0)) (fun _ _ _ _=>(eT 0)) (fun _ _ _ _=>eA) (fun _ _ _ _=>(bL (sQ K) (pv 0) aD))))) (aM (bM C_Grt hr (aM (cH ["one"] [none] (bW (pv 0)) (fun _ _ _ _=>(eT 0)) (fun _ _ _ _=>eA) (fun _ _ _ _=>(bL (sQ K) (pv 0) aD)))))))))),?_⟩;have ul:=tw.length;refine⟨_,rfl,l,rfl,⟨_,bA.of hl⟩,cS (K:=K) (a:=l) (xs:=us) (fun i zs σ G=>G=H/\(∃v,σ=[v])/\cV (FrK K H) zs ((ps.map (·.1)).take i))
  (aR (by lia)) ⟨rfl,⟨_,rfl⟩,trivial⟩ (by rintro i zs σ G ⟨_,_,e⟩;rw[e.length,dj];lia) (by rintro i zs σ G _ ⟨e,_⟩;rw[e];exact bA.of hl) ?_ ?_⟩
 ·rintro i v zs σ _ hv ⟨rfl,⟨v',rfl⟩,tz⟩;obtain⟨P0,hP,a,x,y,rfl,ha,hx,hy⟩:=gF tw hv;have e:(ps.map (·.1))[i]?=some P0.1:=by rw[di,hP];rfl
  refine⟨_,rfl,a,_,_,_,rfl,rfl,ha,rfl,rfl,⟨_,rfl⟩,?_⟩;rw[aY e];exact cV.append tz ⟨⟨x,rfl,hx⟩,trivial⟩
 rintro zs σ Gx ⟨ex,_,tz⟩ l1 hl1;replace ex:=ex.symm;subst ex;rw[ul, <-aa (f:=fun p:Prc=>p.1) (as:=ps),cq] at tz;obtain⟨H1,e0,s1,h1⟩:=nV hl1 (.lst zs);rw[e0];clear e0;refine⟨l1,zs,ps.map (·.1),rfl,h1,by rw[aa];exact p1,by rw[aa];exact p9,tz.mono fun _ _ z=>z.s s1,fun f hf=>?_,?_⟩
 ·obtain⟨P0,hP,rfl⟩:=fi.mp hf;exact(bp P0 hP).1
 rintro v1 ⟨a1,rfl,ha1⟩;refine⟨_,rfl,l,rfl,⟨_,bA.of (s1 _ _ hl)⟩,cS (K:=K) (a:=l) (xs:=us) (fun i zs σ G=>G=H1/\(∃v,σ=[v])/\cV (FrK K H1) zs ((ps.map (·.2)).take i))
  (aR (by lia)) ⟨rfl,⟨_,rfl⟩,trivial⟩ (by rintro i zs σ G ⟨_,_,e⟩;rw[e.length,dj];lia) (by rintro i zs σ G _ ⟨e,_⟩;rw[e];exact bA.of (s1 _ _ hl)) ?_ ?_⟩
 ·rintro i v zs σ _ hv ⟨rfl,⟨v',rfl⟩,tz⟩;obtain⟨P0,hP,a,x,y,rfl,ha,hx,hy⟩:=gF tw hv;have e:(ps.map (·.2))[i]?=some P0.2:=by rw[di,hP];rfl
  refine⟨_,rfl,a,_,_,_,rfl,rfl,aQ.ts s1 ha,rfl,rfl,⟨_,rfl⟩,?_⟩;rw[aY e];exact cV.append tz ⟨⟨y,rfl,hy.s s1⟩,trivial⟩
 rintro zs2 σ Gx ⟨ex,_,tz2⟩ l2 hl2;replace ex:=ex.symm;subst ex;rw[ul, <-aa (f:=fun p:Prc=>p.2) (as:=ps),cq] at tz2;obtain⟨H2,e0,s2,h2⟩:=nV hl2 (.lst zs2);rw[e0];clear e0;refine⟨l2,zs2,ps.map (·.2),rfl,h2,by rw[aa];exact p1,by rw[aa];exact p9,tz2.mono fun _ _ z=>z.s s2,fun f hf=>?_,?_⟩
 ·obtain⟨P0,hP,rfl⟩:=fi.mp hf;exact(bp P0 hP).2
 rintro v2 ⟨a2,rfl,ha2⟩;refine⟨dE,fun t ht=>k _ (.ref t) (s1.trans (s2.trans (aA ht _))) ⟨t,a1,a2,rfl,aQ.of aB,ha1.s (s2.trans (aA ht _)),ha2.s (aA ht _)⟩⟩
theorem cC2(m_isinstance:mg "isinstance"=none)(m_str:mg "str"=none)(m_len:mg "len"=none):eF P w K mg base "is_row" "is_row" cP9 1 ["part"] spIsRow:=by
 refine fF ["part"] fun H Q nd hr h=>?_
 obtain⟨e,rfl,he,k⟩:=h;refine⟨_,(aE (aK (sK (uX jJ (sU bO m_len fk (aM (pv 0))) aD) (kN (sU yY m_isinstance PyProof.Rows.boot_isinstance (aC (bL aH (pv 0) aD) (aM (bM3 (v:= .ty "str") (by rfl) m_str PyProof.Rows.boot_str rfl)))))))),?_⟩
 cases e with
 |rows p rs =>
  obtain⟨hp,hR⟩:=he;refine⟨_,rfl,p,_,rfl,.inr (aQ.of hp),_,_,rfl,rfl,_,rfl,?_⟩
  cases rs with
  |nil=>exact aV (by decide) k
  |cons r rs =>
   refine bE (ai (by show(0:Int)<((bG (r::rs)).length:Int);rw[bD,bx];lia)) ?_;exact⟨_,rfl,p,_,_,_,rfl,rfl,aQ.of hp,iV,_,_,_,false,rfl,.tup (dF.at hR.1),rfl,k⟩
 |row r =>
  have hr1:=dF.at he;refine⟨_,rfl,r.p,_,rfl,.inr (aQ.of hr1),_,_,rfl,rfl,_,rfl,bE (ai (by rw[bx];lia)) ?_⟩;exact⟨_,rfl,r.p,_,_,.str r.w,rfl,rfl,aQ.of hr1,iV,_,_,_,true,rfl,.str _,rfl,k⟩
theorem cE0(C_IsR:Cl P w K mg base 1 spIsRow "is_row")(m_list:mg "list"=none):eF P w K mg base "parts_right_in" "parts_right_in" cK6 2 ["part"] spPRI:=by
 refine fF ["part"] fun H Q nd hr h=>?_
 obtain⟨e,rfl,he,k⟩:=h;have hr1:dI 1 _:=hr.mono (by decide);refine⟨_,(aF (bC (pC (fE (bM C_IsR hr (aM (pv 0))))) (aE (aK (zJ wQ m_list ph (aM (pv 0))))) aS)
  (aF (bC (eG bR (bL aH (pv 0) aD) aI) (aE (aK (bJ (aC (bL aH (pv 0) aD) (aM (bL aH (pv 0) aD)))))) aS)
  (aF (bC (eG bR (bL aH (pv 0) aD) aI) (aE (aK (bJ (aM (bL aH (pv 0) aD))))) aS)
  (aE (aK (bJ bX)))))),?_⟩
 refine⟨_,rfl,e,rfl,he,_,rfl,?_⟩
 cases e with
 |rows p rs =>
  obtain⟨hp,hR⟩:=he;refine bE rfl ?_;exact⟨_,rfl,p,_,rfl,.inr (aQ.of hp),fun l hl=>k l _ (aA hl _) hl (by rw[aB];show _=some (HO.lst (lT (rs.map Pt.row)));rw[bI9])⟩
 |row r =>
  refine aV (fun z=>Bool.noConfusion (show false=true from z)) ?_;have nn:¬V.str r.w=V.str "when"->¬V.str r.w=V.str "times"->(Pt.row r).kids=[]->bJ1 (cD4 (xX (zR rEq (zR (zK K) (jE 0) (tC (V.int 0))) (tC (V.str "when")))) (bL4 (aN9 (iK (zR (zK K) (jE 0) (tC (V.int 2))) (iK (zR (zK K) (jE 0) (tC (V.int 3))) tNil)))) tNext)
    (bJ1 (cD4 (xX (zR rEq (zR (zK K) (jE 0) (tC (V.int 0))) (tC (V.str "times")))) (bL4 (aN9 (iK (zR (zK K) (jE 0) (tC (V.int 2))) tNil))) tNext) (bL4 (aN9 tNil))) { nx:=fun x H'=>Q V.non H',rt:=Q } [some (.ref r.p)] H:=fun n1 n2 ek=>by
   have hr1:=dF.at he;refine⟨_,rfl,r.p,_,_,.str r.w,rfl,rfl,aQ.of hr1,iV,rfl,_,rfl,aV (by rw[gi];exact n1) ?_⟩;refine⟨_,rfl,r.p,_,_,.str r.w,rfl,rfl,aQ.of hr1,iV,rfl,_,rfl,aV (by rw[gi];exact n2) ?_⟩;exact⟨az _,fun l hl=>k l _ (aA hl _) hl (by rw[aB,ek];rfl)⟩
  cases r with
  |when p pa pb t a b =>
   have hp:=he.1;refine⟨_,rfl,p,_,_,_,rfl,rfl,aQ.of hp,rfl,rfl,_,rfl,bE (ai rfl) ?_⟩;exact⟨_,rfl,p,_,_,_,rfl,rfl,aQ.of hp,rfl,_,rfl,p,_,_,_,rfl,rfl,aQ.of hp,rfl,dE,fun l hl=>k l _ (aA hl _) hl aB⟩
  |times p pb n b =>
   have hp:=he.1;refine⟨_,rfl,p,_,_,_,rfl,rfl,aQ.of hp,rfl,rfl,_,rfl,aV (by rw[gi];exact nTW) ?_⟩;refine⟨_,rfl,p,_,_,_,rfl,rfl,aQ.of hp,rfl,rfl,_,rfl,bE (ai rfl) ?_⟩;exact⟨_,rfl,p,_,_,_,rfl,rfl,aQ.of hp,rfl,lK,fun l hl=>k l _ (aA hl _) hl aB⟩
  |thr p w x us d=>exact nn (aS1 he.2).1 (aS1 he.2).2 rfl
  |lt p x t=>exact nn nLW.1 nLW.2 rfl
  |tell p t=>exact nn nEW.1 nEW.2 rfl
theorem bU3(C_PRI:Cl P w K mg base 2 spPRI "parts_right_in")(m_range:mg "range"=none)(m_len:mg "len"=none):eF P w K mg base "places_right_in" "places_right_in" cN9 3 ["place","part"] spPlRI:=by
 refine fF ["place","part"] fun H Q nd hr h=>?_
 obtain⟨e,q,rfl,hq,l1,l4,he,k⟩:=h;refine⟨_,(aE (aK (cH ["k","place"] [none,some 0] (dL (by rfl) m_range (aM (sU bO m_len fk (aM (bM C_PRI hr (aM (pv 1))))))) (fun _ _ _ _=>(eT 0)) (fun _ _ _ _=>eA) (fun _ _ _ _=>(aN (cI0 K) (pv 1) (aW (aM (pv 0)))))))),?_⟩;refine⟨_,rfl,e.2,rfl,he,fun r1 H1 s1 n1 h1=>⟨r1,_,rfl,.inl (bA.of h1),_,rfl,by lia,by rw[jB];lia,fU (n:=(lT e.2.kids).length) (fun i zs σ G=>aO H1 G/\(∃v,σ=[v,some (.ref q)])/\cV (xA G) zs (((eO e).map (·.1)).take i))
  (fC (by rw[jB];lia)) ⟨aO.refl _,⟨_,rfl⟩,trivial⟩ (by rintro i zs σ G ⟨_,_,z⟩;rw[z.length,dj];lia) ?_ ?_⟩⟩
 ·rintro i zs σ G hi ⟨s2,⟨v,rfl⟩,tz⟩;rw[jB] at hi;have hq2:=(s1.trans s2) _ _ hq;rw[aY (oR hi)];refine⟨_,rfl,_,rfl,lK,fun t ht=>?_⟩;obtain⟨G3,e0,s3,h3⟩:=nV ht (.tup [.int (0+(i:Int))]);rw[e0];clear e0;refine⟨q,t,_,_,rfl,rfl,aQ.of (s3 _ _ hq2),aQ.of h3,(fun z=>by cases z),by rw[aa];exact cu (aR (by rw[ej];lia)),fun z=>?_,fun z t2 ht2=>?_⟩
  ·refine⟨s2.trans s3,⟨_,rfl⟩,cV.append (tz.mono fun _ _ z=>z.ts (.of s3)) ⟨⟨t,rfl,?_⟩,trivial⟩⟩;rw[bo,z,List.nil_append];rw[oj] at h3;exact h3
  ·have s4:=aA ht2 (.tup (e.1.map V.int++[.int (0+(i:Int))]));refine⟨s2.trans (s3.trans s4),⟨_,rfl⟩,cV.append (tz.mono fun _ _ z=>z.ts (.of (s3.trans s4))) ⟨⟨t2,rfl,?_⟩,trivial⟩⟩;rw[bo];show _=some (HO.tup (e.1.map V.int++[.int (i:Int)]));rw[aB,oj]
 ·rintro zs σ G ⟨s2,_,tz⟩ l9 hl9;rw[jB, <-jK, <-aa (f:=fun c:PP=>c.1) (as:=eO e),cq] at tz;have s9:=s1.trans (s2.trans (aA hl9 (.lst zs)));exact k l9 zs _ s9 ((s1.trans s2).free hl9) aB (tz.mono fun _ _ z=>z.ts (.of (aA hl9 _)))
theorem bT8(C_PlI:Cl P w K mg base 3 spPlRI "places_right_in")(C_PRI:Cl P w K mg base 2 spPRI "parts_right_in")(m_list:mg "list"=none)(m_reversed:mg "reversed"=none)(m_zip:mg "zip"=none):eF P w K mg base "places_of" "places_of" cO7 4 ["rows"] spPlOf:=by
 refine fF ["rows","found","waiting","place","part"] fun H Q nd hr h=>?_
 obtain⟨p,rs,kd,rfl,hp,hR,hc,hdp,hkd,k⟩:=h;refine⟨_,(dJ 1 nd (bJ bX)
  (dJ 2 nd (bJ (aM (aW (aC (aW bX) (aM (pv 0))))))
  (aF (hJ jg (iW (pv 2) (fun _=>rfl))
  (aF (bP (dA av de dh bT (pv 1) (aM (iT av fq fw iU (pv 2)))))
  (dJ 3 nd (bL aH (bL eJ (pv 1) pJ) aD)
  (dJ 4 nd (bL aH (bL eJ (pv 1) pJ) aD)
  (aE (bP (dA av eu fc dP (pv 2) (aM (aE1 (by rfl) m_list (by rfl) m_zip (aC (bM C_PlI hr (aC (pv 3) (aM (pv 4)))) (aM (bM C_PRI hr (aM (pv 4))))))))))))))
  (aE (aK (qY (pv 1) (by rfl) m_list (by rfl) m_reversed)))))),?_⟩
 refine⟨az _,fun f hf=>?_⟩;obtain⟨H1,e0,s1,f1⟩:=nV hf (.lst []);rw[e0];clear e0;refine⟨az _,fun t0 ht0=>?_⟩;obtain⟨H2,e0,s2,h20⟩:=nV ht0 (.tup []);rw[e0];clear e0;refine⟨_,rfl,dE,fun t1 ht1=>?_⟩;obtain⟨H3,e0,s3,h31⟩:=nV ht1 (.tup [.ref t0,.ref p]);rw[e0];clear e0;refine⟨lK,fun wl hw=>?_⟩;have s4:=aA hw (.lst [.ref t1]);have h4:aL H3 wl (.lst [.ref t1]) wl=some (.lst [.ref t1]):=aB;have f4:=s4 _ _ ((s2.trans s3) _ _ f1);have s04:=s1.trans (s2.trans (s3.trans s4));have wn:H wl=none:=(s1.trans (s2.trans s3)).free hw;have nwf:wl≠f:=(aJ ((s2.trans s3) _ _ f1) hw).symm;have p0:cV (vV (aL H3 wl (.lst [.ref t1]))) [.ref t1] [([],Pt.rows p rs)]:=⟨⟨t1,t0,rfl,s4 _ _ h31,(s3.trans s4) _ _ h20⟩,trivial⟩
 generalize aL H3 wl (.lst [.ref t1])=H4 at s4 h4 f4 s04 p0 ⊢;have ol:=aF9 (pl:=[]) (p:=p) (rs:=rs);generalize eL:dZ ([],Pt.rows p rs)=L at k ol;have al:∀e∈L,PtH H e.2/\e.1.length<=7/\e.2.kids.length<=bS rs+2:=fun e he=>by
  rw[<-eL] at he;have:=(aB9 hkd e he).2.1;exact⟨bR6 hp hR e he,by lia,bG0 e he⟩
 refine⟨fun j σ G=>∃(zs ws:List V) (F W:List PP) (v3 v4:Option V),σ=[some (.ref p),some (.ref f),some (.ref wl),v3,v4]/\aO H G/\G f=some (.lst zs)/\G wl=some (.lst ws)/\cV (vV G) zs F/\cV (vV G) ws W/\W.flatMap dZ++F.reverse=L/\j=(W.flatMap dZ).length,⟨_,[],[.ref t1],[],[([],Pt.rows p rs)],_,_,rfl,s04,f4,h4,trivial,p0,by rw[<-eL];simp,rfl⟩,?_⟩;rintro j σ G ⟨zs,ws,F,W,v3,v4,rfl,sG,gf,gw,tz,tw,eW,rfl⟩;refine⟨_,rfl,_,.inl ⟨_,bA.of gw,rfl⟩,?_⟩;rcases W.eq_nil_or_concat with rfl|⟨W',e,rfl⟩
 ·have ew:ws=[]:=rc tw.length;subst ew;refine aV (by decide) ?_;refine⟨_,rfl,f,_,rfl,bA.of gf,fun l hl=>?_⟩;refine k l zs.reverse _ (sG.trans (aA hl _)) aB ?_;rw[yv,List.nil_append] at eW;rw[<-eW];exact(pZ tz).mono fun _ _ z=>z.ts (.of (aA hl _))
 ·rw[vt] at *;obtain⟨us,v,rfl,tu,q,a,rfl,hq,ha⟩:=qW tw;have me:e∈L:=by
   rw[<-eW,ig];exact cg _ (be _ (io.mpr ⟨e,au.mpr rfl,rS e⟩))
  obtain⟨pe,l7,kl⟩:=al e me;have lz:=tz.length;have lu:=tu.length;have lL:=eo List.length eW;rw[ig,ap,ap,fh] at lL;have g1:=aY7 W';have o1:=wW e;have es:([e]:List PP).flatMap dZ=dZ e:=by simp
  rw[es] at lL;refine bE (by simp) ?_;refine⟨fun σ' H'=>∃(zs ws:List V) (v3 v4:Option V),σ'=[some (.ref p),some (.ref f),some (.ref wl),v3,v4]/\aO H H'/\H' f=some (.lst zs)/\H' wl=some (.lst ws)/\cV (vV H') zs (F++[e])/\cV (vV H') ws (W'++eO e),?_,?_⟩
  ·rintro σ' H' ⟨zs',ws',v3',v4',rfl,a1,a2,a3,a4,a5⟩;refine⟨((W'++eO e).flatMap dZ).length,?_,zs',ws',_,_,v3',v4',rfl,a1,a2,a3,a4,a5,?_,rfl⟩
   ·rw[ig,ig,es,nQ e,ap,ap,ap,ej];lia
   ·rw[<-eW,ig,ig,es,nQ e,rj];simp only[List.reverse_singleton,List.append_assoc]
  refine⟨_,rfl,.inl ⟨rfl,_,bA.of gf⟩,_,rfl,.inl ⟨rfl,_,bA.of gw⟩,wl,us++[.ref q],.ref q,rfl,rfl,gw,by simp,?_⟩;rw[gy];have t5:=TS.lst (ys:=us) gw;have s5:=bI (ys:=us) sG wn;have gf5:aL G wl (.lst us) f=some (.lst zs):=by rw[aG nwf.symm];exact gf
  have gw5:aL G wl (.lst us) wl=some (.lst us):=aB;generalize aL G wl (.lst us)=G5 at t5 s5 gf5 gw5 ⊢;refine⟨f,zs,.ref q,rfl,rfl,gf5,fC (by lia),?_⟩;have t6:=t5.trans (TS.lst (ys:=zs++[.ref q]) gf5);have s6:=bI (ys:=zs++[.ref q]) s5 hf;have gf6:aL G5 f (.lst (zs++[.ref q])) f=some (.lst (zs++[.ref q])):=aB;have gw6:aL G5 f (.lst (zs++[.ref q])) wl=some (.lst us):=by rw[aG nwf];exact gw5
  generalize aL G5 f (.lst (zs++[.ref q]))=G6 at t6 s6 gf6 gw6 ⊢;refine⟨_,rfl,f,_,_,.ref q,rfl,rfl,bA.of gf6,qA,q,_,_,.ref a,rfl,rfl,aQ.of (t6 _ _ hq),rfl,?_⟩;refine⟨_,rfl,f,_,_,.ref q,rfl,rfl,bA.of gf6,qA,q,_,_,.ref e.2.p,rfl,rfl,aQ.of (t6 _ _ hq),rfl,?_⟩;refine⟨_,rfl,.inl ⟨rfl,_,bA.of gw6⟩,_,rfl,_,rfl,e,a,rfl,t6 _ _ ha,by lia,by lia,pe.ts (.of s6),fun r7 xs7 G7 s7 n7 h7 t7=>?_⟩;refine⟨_,rfl,e.2,rfl,pe.ts (.of (s6.trans s7)),fun r8 G8 s8 n8 h8=>?_⟩;have l7':=t7.length;rw[aa,jK] at l7';refine⟨r7,r8,_,_,rfl,bA.of (s8 _ _ h7),bA.of h8,by rw[jB];exact l7',fun r9 xs9 G9 s9 n9 h9 l9 a9=>?_⟩;have tt:=(TS.of s7).trans ((TS.of s8).trans (TS.of s9));have gw9:=s9 _ _ (s8 _ _ (s7 _ _ gw6));have gf9:=s9 _ _ (s8 _ _ (s7 _ _ gf6));refine⟨wl,r9,us,xs9,rfl,rfl,gw9,h9,cu (fC (by lia)),?_⟩;have t10:=TS.lst (ys:=us++xs9) gw9;have ta:=t6.trans (tt.trans t10);refine⟨zs++[.ref q],us++xs9,_,_,rfl,bI (s6.trans (s7.trans (s8.trans s9))) wn,by rw[aG nwf.symm];exact gf9,aB,cV.append (tz.mono fun _ _ z=>z.ts ta) ⟨⟨q,a,rfl,ta _ _ hq,ta _ _ ha⟩,trivial⟩,cV.append (tu.mono fun _ _ z=>z.ts ta) ?_⟩
  refine bF6 (by rw[jK];lia) fun i z c hz hc=>?_
  have il:=(aq.mp hc).1;rw[jK] at il;have ec:=hc.symm.trans (vA (aj il));injection ec with ec
  subst ec;obtain⟨x7,hx7⟩:∃x,xs7[i]?=some x:=⟨_,aj (by lia)⟩
  obtain⟨k7,hk7,a7,rfl,ha7⟩:=gF t7 hx7;rw[oR il] at hk7;injection hk7 with hk7
  subst hk7;obtain⟨q9,hq9,hq9'⟩:=a9 i _ _ hx7 (show(lT e.2.kids)[i]?=some (.ref (e.2.kids[i]).p) by unfold lT;rw[di,aj il];rfl);rw[hq9] at hz;injection hz with hz
  subst hz;exact⟨q9,a7,rfl,t10 _ _ hq9',t10 _ _ (s9 _ _ (s8 _ _ ha7))⟩
theorem bZ5{cF cF0 cF1:Addr}(m_FREE:mg "FREE"=some (.ref cF))(hF:∀H,aQ K H cF [.ref cF0,.ref cF1]/\cP K H cF0 (1,1)/\cP K H cF1 (0,1))(C_Pow:Cl P w K mg base 1 (rX K) "power")(C_IsR:Cl P w K mg base 1 spIsRow "is_row")(C_Beh:Cl P w K mg base 4 (bB5 K) "price_behind")(C_GOf:Cl P w K mg base 3 (bF1 K) "greatest_of")(C_Tms:Cl P w K mg base 3 (oO K) "times"):eF P w K mg base "price_made" "price_made" cQ0 5 ["part","prices"] (aG5 K):=by
 refine fF ["part","prices","factor"] fun H Q nd hr h=>?_
 obtain⟨e,l,us,ss,kn,kd,rfl,he,hm,hld,hkd,l4,hl,tw,k⟩:=h;refine⟨_,(aF (bC (pC (fE (bM C_IsR hr (aM (pv 0))))) (aE (aK (bM C_Beh hr (aM (pv 1))))) aS)
  (aF (bC (eG bR (bL aH (pv 0) aD) aI) (aE (aK (bM C_GOf hr (aM (pv 1))))) aS)
  (dJ 2 nd (bM C_Pow hr (aC (bL aH (bL eJ (pv 1) aD) aD) (aM (bL aH (pv 0) aD))))
  (aE (aK (aW (aC (pv 2) (aM (bM C_Tms hr (aC (bL aH (bL eJ (pv 1) aD) aD) (aM (aW (aC (bL aH (pv 0) aD) (aM aD)))))))))))))),?_⟩
 refine⟨_,rfl,e,rfl,he,_,rfl,?_⟩;have tl:=tw.length
 cases e with
 |rows p rs =>
  refine bE rfl ?_;have ek:(Pt.rows p rs).kids.map (Pt.pr ss kn)=pR ss kn rs:=by
   show(rs.map Pt.row).map (Pt.pr ss kn)=_;rw[mq,nC];rfl
  rw[ek] at tw;rw[aa] at tl;exact⟨_,rfl,l,us,_,rfl,hl,by lia,tw,cD8 he.2 hld,k⟩
 |row r =>
  refine aV (fun z=>Bool.noConfusion (show false=true from z)) ?_
  cases r with
  |when p pa pb t a b =>
   have hp:=he.1;refine⟨_,rfl,p,_,_,_,rfl,rfl,aQ.of hp,rfl,rfl,_,rfl,bE (ai rfl) ?_⟩;have pe:(Pt.row (.when p pa pb t a b)).pr ss kn=yM (jT ss kn a) (jT ss kn b):=by simp only[Pt.pr,pQ,jT]
   rw[pe] at k;simp only[Pt.ld,lV] at hld;have ek:(Pt.row (.when p pa pb t a b)).kids.map (Pt.pr ss kn)=[jT ss kn a,jT ss kn b]:=by simp only[Pt.kids,List.map_cons,List.map_nil,Pt.pr]
   rw[ek] at tw;have oa:=bG5 (vW ss kn he.2.2.2.2.2.1).2 (by lia);have ob:=bG5 (vW ss kn he.2.2.2.2.2.2).2 (by lia);refine⟨_,rfl,l,us,[jT ss kn a,jT ss kn b],rfl,hl,by show 1<=2;decide,by show 2<=1000;decide,tw,fun q hq=>?_,fun H' v s h=>k H' v s ?_⟩
   ·simp only[List.mem_cons,List.not_mem_nil,or_false] at hq;rcases hq with rfl|rfl
    ·exact oa
    ·exact ob
   ·have e1:grL ([jT ss kn a,jT ss kn b].map (·.1))=mC (jT ss kn a).1 (jT ss kn b).1:=aJ5 _ _;have e2:grL ([jT ss kn a,jT ss kn b].map (·.2))=mC (jT ss kn a).2 (jT ss kn b).2:=aJ5 _ _;rw[e1,e2] at h;exact h
  |times p pb n b =>
   have hp:=he.1;have hn:1<=n/\n<=3:=hkd _ rfl;have pe:(Pt.row (.times p pb n b)).pr ss kn=kF n.toNat (jT ss kn b):=by simp only[Pt.pr,pQ,jT]
   rw[pe] at k;simp only[Pt.ld,lV] at hld;have ek:(Pt.row (.times p pb n b)).kids.map (Pt.pr ss kn)=[jT ss kn b]:=by simp only[Pt.kids,List.map_cons,List.map_nil,Pt.pr]
   rw[ek] at tw;have le:iA b<=n.toNat*iA b:=by
    have:=jd (iA b) (show 1<=n.toNat by lia);lia
   have ob:=bG5 (vW ss kn he.2.2).2 (by lia);obtain⟨a1,rfl,x1,y1,ha,hx,hy⟩:=bI8 tw;have ob':=ob;have pq:(kF n.toNat (jT ss kn b)).1=((jT ss kn b).1.1^n.toNat,(jT ss kn b).1.2^n.toNat):=rfl;have pr2:(kF n.toNat (jT ss kn b)).2=gU (jT ss kn b).2 (n,1):=by
    show eV ((jT ss kn b).2.1*(n.toNat:Int)) ((jT ss kn b).2.2*1)=eV ((jT ss kn b).2.1*n) ((jT ss kn b).2.2*1);rw[show(n.toNat:Int)=n by lia]
   clear ob pe;generalize kF n.toNat (jT ss kn b)=TP at k pq pr2;generalize jT ss kn b=PB at *;generalize ex1:PB.1.1^n.toNat=X1 at *;generalize ex2:PB.1.2^n.toNat=X2 at *;refine⟨_,rfl,p,_,_,_,rfl,rfl,aQ.of hp,rfl,rfl,_,rfl,aV (by rw[gi];exact nTW) ?_⟩;refine⟨_,rfl,l,_,_,_,rfl,rfl,bA.of hl,rfl,a1,_,_,_,rfl,rfl,ha,rfl,_,rfl,p,_,_,_,rfl,rfl,aQ.of hp,rfl,x1,PB.1,n,rfl,hx,ob'.1.ba,ob'.1.bb,by lia,by lia,fun r1 hr1'=>?_⟩;rw[ex1,ex2];obtain⟨H2,e0,s2,h2⟩:=nV hr1' (.tup [.int X1,.int X2]);rw[e0];clear e0;refine⟨_,rfl,_,rfl,l,_,_,_,rfl,rfl,bA.of (s2 _ _ hl),rfl,a1,_,_,_,rfl,rfl,aQ.ts s2 ha,rfl,_,rfl,p,_,_,_,rfl,rfl,aQ.of (s2 _ _ hp),rfl,dE,fun r3 hr3'=>?_⟩;obtain⟨H3,e0,s3,h3⟩:=nV hr3' (.tup [.int n,.int 1]);rw[e0];clear e0;have s23:=s2.trans s3;have nb:gQ 1000 ((n,1):Fr):=⟨show 0<=n by lia,(show(1:Int)<=1 by decide),(cG.of (n:=4) (show 0<=n by lia) (by lia)).mono (by decide),(cG.of (n:=4) (i:=1) (by decide) (by decide)).mono (by decide)⟩
   refine⟨y1,r3,PB.2,(n,1),rfl,hy.s s23,cP.of h3,ob'.2,nb,fun r4 hr4'=>⟨dE,fun r5 hr5'=>?_⟩⟩;rw[<-pr2] at hr5' ⊢;have s4:=aA hr4' (.tup [.int TP.2.1,.int TP.2.2]);have h4:aL H3 r4 (.tup [.int TP.2.1,.int TP.2.2]) r4=some (.tup [.int TP.2.1,.int TP.2.2]):=aB;generalize aL H3 r4 (.tup [.int TP.2.1,.int TP.2.2])=H4 at s4 h4 hr5' ⊢;have s5:=aA hr5' (.tup [.ref r1,.ref r4]);refine k _ (.ref r5) (s23.trans (s4.trans s5)) ⟨r5,r1,r4,rfl,aQ.of aB,?_,cP.ofU (s5 _ _ h4)⟩;rw[pq];exact cP.of ((s3.trans (s4.trans s5)) _ _ h2)
  |thr p w x us d=>exact Bool.noConfusion (show false=true from hm)
  |lt p x t=>exact Bool.noConfusion (show false=true from hm)
  |tell p t=>exact Bool.noConfusion (show false=true from hm)
theorem bW9{cT:Addr}(m_THROWS:mg "THROWS"=some (.ref cT))(hT:∀H,aQ K H cT (cN.map V.str)){cF cF0 cF1:Addr}(m_FREE:mg "FREE"=some (.ref cF))(hF:∀H,aQ K H cF [.ref cF0,.ref cF1]/\cP K H cF0 (1,1)/\cP K H cF1 (0,1))(C_Ned:Cl P w K mg base 5 spNeeded "needed")(C_PlO:Cl P w K mg base 4 spPlOf "places_of")(C_IsR:Cl P w K mg base 1 spIsRow "is_row")(C_IsI:Cl P w K mg base 2 spIsI "is_idle")(C_POR:Cl P w K mg base 7 (aY1 K) "price_of_row")(C_PMd:Cl P w K mg base 5 (aG5 K) "price_made")(C_PRI:Cl P w K mg base 2 spPRI "parts_right_in")(C_PlI:Cl P w K mg base 3 spPlRI "places_right_in"):eF P w K mg base "prices_of" "prices_of" cO0 9 ["program","kind"] (bB3 K):=by
 refine fF ["program","kind","names","prices","place","part"] fun H Q nd hr h=>?_
 obtain⟨p,xs,rs,kn,n,rfl,P0,N0,hkn,k⟩:=h;have hu:=jL hr;refine⟨_,(dJ 2 nd (bM C_Ned hr (aM (pv 0)))
  (dJ 3 nd aZ5
  (aF (wV (bW (bM C_PlO hr (aM (bL aH (pv 0) aD)))) (iP rfl (aZ (eT 4 nd) (aZ (eT 5 nd) eY)))
  (aE (bC (PW.pt (gM (fE (bM C_IsR hr (aM (pv 5)))) (fY (fE (bM C_IsI hr (aC (pv 5) (aM (pv 2)))))))) (aE (pdp hu (pv 3) (pv 4) (pgl m_FREE))) (aE (bC (PW.pt (gM (fE (bM C_IsR hr (aM (pv 5)))) (fY (pC (iW (bM C_PRI hr (aM (pv 5))) (fun _=>rfl)))))) (aE (pdp hu (pv 3) (pv 4) (bM C_POR hr (aC (pv 5) (aM (pv 1)))))) (aE (pdp hu (pv 3) (pv 4) (bM C_PMd hr (aC (pv 5) (aM (cH ["inner","prices"] [none,some 3] (bW (bM C_PlI hr (aC (pv 4) (aM (pv 5))))) (fun _ _ _ _=>(eT 0)) (fun _ _ _ _=>eA) (fun _ _ _ _=>(zU hu (pv 1) (pv 0))))))))))))))
  (aE (aK (pv 3)))))),?_⟩
 have c0:=P0.cnt;have hdp:=P0.dp;obtain⟨v0,pr,hp,hpr⟩:=P0.ex;obtain⟨pk,ks,w0,_,_,eks,_,n3,hkd⟩:=N0;refine⟨_,rfl,p,xs,rs,rfl,P0,fun np ss H1 s1 h1 nds=>?_⟩;refine fun d hd1=>?_
 obtain⟨H2,e0,s2,h2d⟩:=nV hd1 (.dT []);rw[e0];clear e0;have s12:=s1.trans s2;refine⟨_,rfl,p,_,_,.ref pr,rfl,rfl,aQ.of (s12 _ _ hp),rfl,pr,rs,n,rfl,s12 _ _ hpr,aP.ts (.of s12) rs P0.rows,c0,hdp,hkd,fun r3 zs H3 s3 h3 tz=>?_⟩;have h3d:=s3 _ _ h2d;have s13:=s2.trans s3;have s03:=s1.trans s13;have h31:=s13 _ _ h1;have n3d:r3≠d:=fun z=>by rw[z,h3d] at h3;cases h3
 have ol:=aF9 (pl:=[]) (p:=pr) (rs:=rs);have nd:=bY0 [] pr rs;have ah:=bI7 [] pr rs;have al:∀e∈dZ ([],Pt.rows pr rs),PtH H3 e.2/\e.1.length<=7/\e.2.kids.length<=bS rs+2/\e.2.ld<=6/\∀q,e.2= .row q->KdR n q:=fun e he=>by
  have:=aB9 hkd e he;have:=P0.ld;exact⟨bR6 (s03 _ _ hpr) (aP.ts (.of s03) rs P0.rows) e he,by lia,bG0 e he,by lia,(aB9 hkd e he).2.2⟩
 have la:=rS ([],Pt.rows pr rs);have k':∀H' kvs v,aO H H'->H' d=some (.dT kvs)->cJ kvs ([]:List Key)=some v->dU K H' v (jT ss kn rs)->Q (.ref d) H':=fun H' kvs v a b c e=>k H' d kvs ss v a b nds c e
 clear k hkd;generalize eL:dZ ([],Pt.rows pr rs)=L at tz ol nd ah al la;have lz:=tz.length;refine⟨r3,rfl,⟨_,bA.of h3⟩,dQ (K:=K) (a:=r3) (xs:=zs) (fun i σ G=>∃(kvs:List (List Key×V)) (v4 v5:Option V),σ=[some (.ref p),some (.int kn),some (.ref np),some (.ref d),v4,v5]/\pI d H3 G/\G d=some (.dT kvs)/\kvs.length<=i/\xN K G kvs ss kn (L.take i))
  ⟨[],_,_,rfl,pI.refl _ _,h3d,af _,fun e he=>absurd he bc⟩ (by rintro i σ G _ ⟨_,_,_,_,o,_⟩;exact bA.of (o _ _ n3d h3)) ?_ ?_⟩
 ·rintro D' N i hN v σ G hv ⟨kvs,v4,v5,rfl,o,gd,lk,kw⟩;obtain⟨⟨pl,e⟩,he,q,a,rfl,hq,ha⟩:=gF tz hv;have il:=(aq.mp he).1;obtain⟨pe3,l7,kl,ld6,ekd⟩:=al _ (bj he);have ts:=o.ts h3d;have pe:=pe3.ts ts;have ga:=ts _ _ ha;have gn:G np=some (.tup (ss.map V.str)):=ts _ _ h31;refine⟨q,_,rfl,aQ.of (ts _ _ hq),rfl,_,_,rfl,_,_,rfl,rfl,?_⟩;have fin:∀G1 v,aO G G1->dU K G1 v (e.pr ss kn)->∃H4,jM G1 d (.ref a) v H4/\N [some (V.ref p),some (V.int kn),some (V.ref np),some (V.ref d),some (V.ref a),some (V.ref e.p)] H4:=fun G1 v sg hp=>by
   have g1d:=sg _ _ gd;refine⟨_,jM.t (k:=kyP pl) g1d (by rw[bG6];exact sg _ _ ga) (fC (by lia)),hN _ _ ⟨_,_,_,rfl,(o.trans (pI.of sg)).trans pI.upd,aB,by have:=dY kvs (kyP pl) v;lia,?_⟩⟩;exact xN.put (e:=(pl,e)) (H:=G) kw nd he ((pI.of sg).trans pI.upd) gd (hp.off pI.upd g1d)
  refine⟨_,rfl,e,rfl,pe,_,rfl,?_⟩
  by_cases ci:∃r,e= .row r/\fP ss r=true
  ·obtain⟨r,rfl,ci⟩:=ci;refine bE rfl ⟨_,rfl,_,rfl,r,np,ss,rfl,pe,gn,_,rfl,bE ci ?_⟩;obtain⟨H4,dp,z⟩:=fin G (.ref cF) (aO.refl _) (by
    show dU K G (.ref cF) (pQ ss kn r);rw[aQ0 ci];exact⟨cF,cF0,cF1,rfl,(hF _).1,(hF _).2.1,(hF _).2.2⟩)
   exact⟨_,rfl,_,rfl,d,H4,rfl,dp,z⟩
  have els:∀{A B:Prop},((e.isRow=false->B)/\(∀r,e= .row r->fP ss r=false->B))->B:=fun {A B} ⟨x,y⟩=>by
   cases e with
   |rows _ _=>exact x rfl
   |row r=>exact y r rfl (by simpa using fun z=>ci ⟨r,rfl,z⟩)
  by_cases cr:∃r,e= .row r/\(Pt.row r).kids=[]
  ·obtain⟨r,rfl,ck⟩:=cr;have nid:fP ss r=false:=by simpa using fun z=>ci ⟨r,rfl,z⟩
   refine bE rfl ⟨_,rfl,_,rfl,r,np,ss,rfl,pe,gn,_,rfl,aV (by rw[nid];decide) ?_⟩;refine⟨_,rfl,Pt.row r,rfl,pe,_,rfl,bE rfl ?_⟩;refine⟨_,rfl,Pt.row r,rfl,pe,fun r5 G5 s5 n5 h5=>⟨_,.inl ⟨_,bA.of h5,rfl⟩,?_⟩⟩;rw[ck];refine bE rfl ?_;refine⟨_,rfl,_,rfl,r,kn,rfl,dF.ts (.of s5) r pe,fun p' w' x' u' d' ed=>?_,fun G6 v6 s6 h6=>?_⟩
   ·have:=ekd _ rfl;rw[ed] at this;have t:(d'.kd:Int)=n:=this;lia
   ·obtain⟨H4,dp,z⟩:=fin G6 v6 (s5.trans s6) (by
     show dU K G6 v6 (pQ ss kn r);rw[cF7 nid ck];exact h6)
    exact⟨_,rfl,_,rfl,d,H4,rfl,dp,z⟩
  have hm:e.made=true:=by
   cases e with
   |rows _ _=>rfl
   |row r=>exact aT3 fun z=>cr ⟨r,rfl,z⟩
  have last:∀G5,aO G G5->aX8 (jE 3) (jE 4) (tX (aG5 K) [] E0 (iK (jE 5) (iK (aY2 (bQ4 K (tX spPlRI [] E0 (iK (jE 4) (iK (jE 5) tNil)))) [none,some 3] (rQ 0) tYes (bB9 (jE 1) (jE 0))) tNil)))
    { D' with nx:=N,ct:=N,bk:=D'.nx } [some (V.ref p),some (V.int kn),some (V.ref np),some (V.ref d),some (V.ref a),some (V.ref e.p)] G5:=fun G5 s5=>by
   refine⟨_,rfl,_,rfl,_,rfl,(pl,e),a,rfl,s5 _ _ ga,(show pl.length<=100 by have:pl.length<=7:=l7;lia),(show e.kids.length<=4000 by have:e.kids.length<=bS rs+2:=kl;lia),pe.ts (.of s5),fun r6 ys6 G6 s6 n6 h6 t6=>⟨r6,rfl,⟨_,bA.of h6⟩,?_⟩⟩;have l6:=t6.length;rw[aa,jK] at l6;replace l6:ys6.length=e.kids.length:=l6;have kl':e.kids.length<=bS rs+2:=kl;have s56:=s5.trans s6;refine cS (K:=K) (a:=r6) (xs:=ys6) (fun j us σ G'=>G'=G6/\(∃v,σ=[v,some (.ref d)])/\cV (dU K G6) us ((e.kids.map (Pt.pr ss kn)).take j))
    (fC (by lia)) ⟨rfl,⟨_,rfl⟩,trivial⟩ (by rintro j us σ G' ⟨_,_,z⟩;rw[z.length,dj];lia) (by rintro j us σ G' _ ⟨z,_⟩;rw[z];exact bA.of h6) ?_ ?_
   ·rintro j y us σ _ hy ⟨rfl,⟨v',rfl⟩,tu⟩;have jl:=(aq.mp hy).1;have jk:j<e.kids.length:=by lia
    obtain⟨ky,hky,b,rfl,hb⟩:=gF t6 hy;rw[oR (e:=(pl,e)) jk] at hky;injection hky with hky
    subst hky;have ec:=vA (e:=(pl,e)) (aj jk);obtain⟨u,hu1,hu2⟩:=kw _ (cB0 ah he _ (bj ec));have dg:=eR.t (k:=kyP (pl++[(j:Int)])) (s56 _ _ gd) (by rw[bG6];exact hb);rw[show cJ kvs (kyP (pl++[(j:Int)]))=some u from hu1] at dg;refine⟨_,rfl,_,rfl,d,u,rfl,dg,rfl,⟨_,rfl⟩,?_⟩;rw[aY (show(e.kids.map (Pt.pr ss kn))[j]?=some (Pt.pr ss kn e.kids[j]) by rw[di,aj jk];rfl)];exact cV.append tu ⟨hu2.s s56,trivial⟩
   rintro us σ Gx ⟨ex,_,tu⟩ l9 hl9;replace ex:=ex.symm;subst ex;rw[l6, <-aa (f:=Pt.pr ss kn) (as:=e.kids),cq] at tu;obtain⟨G9,e0,s9,h9⟩:=nV hl9 (.lst us);rw[e0];clear e0;have s59:=s56.trans s9;refine⟨e,l9,us,ss,kn,n,rfl,pe.ts (.of s59),hm,ld6,ekd,by lia,h9,tu.mono fun _ _ z=>z.s s9,fun G10 v10 s10 h10=>?_⟩;obtain⟨H4,dp,z⟩:=fin G10 v10 (s59.trans s10) h10;exact⟨_,rfl,_,rfl,d,H4,rfl,dp,z⟩
  cases e with
  |rows pp rr =>
   refine aV (fun z=>Bool.noConfusion (show false=true from z)) (aV (by decide) ?_);refine⟨_,rfl,Pt.rows pp rr,rfl,pe,_,rfl,aV (fun z=>Bool.noConfusion (show false=true from z)) (aV (by decide) ?_)⟩;exact last G (aO.refl _)
  |row r =>
   have nid:fP ss r=false:=by simpa using fun z=>ci ⟨r,rfl,z⟩
   have nk:(Pt.row r).kids≠[]:=fun z=>cr ⟨r,rfl,z⟩
   refine bE rfl ⟨_,rfl,_,rfl,r,np,ss,rfl,pe,gn,_,rfl,aV (by rw[nid];decide) ?_⟩;refine⟨_,rfl,Pt.row r,rfl,pe,_,rfl,bE rfl ?_⟩;refine⟨_,rfl,Pt.row r,rfl,pe,fun r5 G5 s5 n5 h5=>⟨_,.inl ⟨_,bA.of h5,rfl⟩,?_⟩⟩;have ne:(lT (Pt.row r).kids).isEmpty=false:=by
    cases q:(Pt.row r).kids with
    |nil=>exact absurd q nk
    |cons _ _=>rfl
   rw[ne];exact aV (by decide) (last G5 s5)
 ·rintro σ G ⟨kvs,v4,v5,rfl,o,gd,lk,kw⟩;rw[lz,cq] at kw;obtain⟨u,h1',h2'⟩:=kw _ la;exact⟨_,rfl,k' G kvs u (pI.same s1 ((pI.of s13).trans o) (s1.free hd1)) gd h1' h2'⟩
theorem bZ7(C_Ask:Cl P w K mg base 3 spAsked "names_asked"):eF P w K mg base "names_behind" "names_behind" cN8 4 ["rows"] spNB:=by
 refine fF ["rows","behind","row"] fun H Q nd hr h=>?_
 obtain⟨lr,xs,fl,rfl,hl,hR,ok,hn,k⟩:=h;have hr1:dI 1 _:=hr.mono (by decide);refine⟨_,(dJ 1 nd mO
  (aF (wV (bW (pv 0)) (eT 2 nd)
  (aE (bC (eG bR (bL aH (pv 2) aD) aI) (aE (bP (dA av eu fc dP (bL0 (pv 1) (bL aH (pv 2) aD) (bJ bX) ⟨rfl,rfl,rfl,rfl⟩) (aM (bM C_Ask hr (aM (pv 2))))))) aS)))
  (aE (aK (pv 1))))),?_⟩
 refine fun d hd=>?_
 have b0:BI H (aL H d (.dK [])) d [] [] 0:=⟨aA hd _,hd,aB,af _,fun x=> .inl ⟨rfl,rfl⟩,fun x y l h=>by cases h⟩
 generalize aL H d (.dK [])=H1 at b0 ⊢;refine⟨_,rfl,lr,rfl,⟨_,bA.of (b0.sm _ _ hl)⟩,dQ (K:=K) (a:=lr) (xs:=bG fl) (fun i σ G=>∃(kvs:List (Key×V)) (v2:Option V),σ=[some (.ref lr),some (.ref d),v2]/\BI H G d kvs (fl.take i) i)
  ⟨[],_,rfl,b0⟩ (by rintro i σ G _ ⟨_,_,_,e⟩;exact bA.of (e.sm _ _ hl)) ?_ ?_⟩
 ·rintro D' N i hN v σ G hv ⟨kvs,v2,rfl,b1⟩;obtain⟨r,rfl,hr0⟩:=lI hv;have mr:=bj hr0;have hr1:=dF.ts (.of b1.sm) r (hR.mem r mr);have bi:=b1.ln;have il:=(aq.mp hr0).1;refine⟨_,rfl,r.p,_,_,.str r.w,rfl,rfl,aQ.of hr1.at,iV,rfl,_,rfl,?_⟩
  by_cases c:r.w="let"
  ·refine bE (by rw[c];exact ai rfl) ?_;obtain⟨p,x,t,rfl⟩:=bF8 hr1 c;have okr:=ok _ mr;refine⟨_,rfl,d,rfl,bS3 b1.dc,_,rfl,p,_,_,.str x,rfl,rfl,aQ.of hr1.1,at1,az _,fun l0 hl0=>⟨kvs,Sum.inr x,(aA hl0 _) _ _ b1.dc,rfl,rT (by lia),fun v hv=>?_,fun hv=>?_⟩⟩
   ·have b2:=b1.same (aA hl0 (.lst []));have s2:=aA hl0 (.lst []);generalize aL G l0 (.lst [])=G2 at b2 s2 ⊢;obtain⟨l,rfl,hl2⟩:∃l,v= .ref l/\G2 l=some (.lst (((fl.take i).flatMap (Rw.lets x)).map V.str)):=by
     rcases b2.vl x with⟨h,_⟩|⟨l,h1,h2,_⟩
     ·rw[h] at hv;cases hv
     ·rw[h1] at hv;cases hv;exact⟨l,rfl,h2⟩
    refine⟨.inl ⟨rfl,_,bA.of hl2⟩,_,rfl,.lt p x t,rfl,dF.ts (.of s2) _ hr1,fun q H3 s3 h3=>?_⟩;have b3:=b2.same s3;refine⟨l,q,_,_,rfl,rfl,s3 _ _ hl2,h3,aH8 (p:=p) ok hn okr,hN _ _ ⟨kvs,_,rfl,?_⟩⟩;rw[aY hr0];exact(b3.more hv).up (iq _)
   ·have b2:=b1.new hl0 hv;have ts2:TS G (aL (aL G l0 (.lst [])) d (.dK (cZ kvs (Sum.inr x:Key) (.ref l0)))):=fun a ys h=>by
     rw[aG (fQ h b1.dc (by intro z;cases z)),aG (aJ h hl0)];exact h
    have hv2:cJ (cZ kvs (Sum.inr x:Key) (.ref l0)) (Sum.inr x:Key)=some (.ref l0):=by rw[jI,br rfl]
    generalize aL (aL G l0 (.lst [])) d (.dK (cZ kvs (Sum.inr x:Key) (.ref l0)))=G2 at b2 ts2 ⊢;generalize cZ kvs (Sum.inr x:Key) (.ref l0)=kvs2 at b2 hv2 ⊢;have hl2:G2 l0=some (.lst (((fl.take i).flatMap (Rw.lets x)).map V.str)):=by
     rcases b2.vl x with⟨h,_⟩|⟨l,h1,h2,_⟩
     ·rw[h] at hv2;cases hv2
     ·rw[h1] at hv2;cases hv2;exact h2
    refine⟨.inl ⟨rfl,_,bA.of hl2⟩,_,rfl,.lt p x t,rfl,dF.ts ts2 _ hr1,fun q H3 s3 h3=>?_⟩;have b3:=(b2.same s3).more (p:=p) (t:=t) hv2;exact⟨l0,q,_,_,rfl,rfl,s3 _ _ hl2,h3,aH8 (p:=p) ok hn okr,hN _ _ ⟨_,_,rfl,by rw[aY hr0];exact b3⟩⟩
  ·refine aV (fun z=>c (by have z:=ae z;injection z)) ?_;refine hN _ _ ⟨kvs,_,rfl,?_⟩;rw[aY hr0];exact b1.skip (aQ7 c)
 ·rintro σ G ⟨kvs,v2,rfl,b1⟩;rw[bD,cq] at b1;exact⟨_,rfl,k d G b1.sm hd b1.bh⟩
theorem bW6(C_SeN:Cl P w K mg base 1 spSetsN "sets_name"):eF P w K mg base "is_idle" "is_idle" cP2 2 ["row","names"] spIsI:=by
 refine fF ["row","names"] fun H Q nd hr h=>?_
 obtain⟨r,np,ss,rfl,hr0,hn,k⟩:=h;refine⟨_,(aE (aK (sK (bM C_SeN hr (aM (pv 0))) (kN (uX mX (bL aH (pv 0) aD) (pv 1)))))),?_⟩;refine⟨_,rfl,r,rfl,hr0,_,rfl,?_⟩
 cases e:r.sets with
 |none =>
  rw[aX6 e] at k;exact aV (by decide) k
 |some x =>
  rw[aW5 e] at k;obtain⟨vs,hv⟩:=aI5 hr0 e;refine bE rfl ?_;refine⟨_,rfl,r.p,_,_,.str x,rfl,rfl,aQ.of hv,at1,_,rfl,np,_,rfl,.inr (aQ.of hn),rfl,dD _,?_⟩;rw[rV];exact k
theorem bV8(C_RwI:Cl P w K mg base 4 spRowsP "rows_in")(C_NmB:Cl P w K mg base 4 spNB "names_behind")(C_Ask:Cl P w K mg base 3 spAsked "names_asked")(m_tuple:mg "tuple"=none)(m_sorted:mg "sorted"=none):eF P w K mg base "needed" "needed" cO8 5 ["program"] spNeeded:=by
 refine fF ["program","rows","behind","found","waiting","row","name"] fun H Q nd hr h=>?_
 obtain⟨p,xs,rs,rfl,P0,k⟩:=h;have hu:=jL hr;have hr1:dI 1 _:=hr.mono (by decide);refine⟨_,(dJ 1 nd (bM C_RwI hr (aM (pv 0)))
  (dJ 2 nd (bM C_NmB hr (aM (pv 1)))
  (dJ 3 nd mO
  (dJ 4 nd (bJ bX)
  (aF (wV (bW (pv 1)) (eT 5 nd)
  (aE (bC (eG cY (bL aH (pv 5) aD) (aW (aC aI (aM aI)))) (aE (bP (dA av eu fc dP (pv 4) (aM (bM C_Ask hr (aM (pv 5))))))) aS)))
  (aF (hJ jg (iW (pv 4) (fun _=>rfl))
  (dJ 6 nd (iT av fq fw iU (pv 4))
  (aE (bC (aY0 (aP5 hu (pv 6) (pv 3))) (aF (pdp hu (pv 3) (pv 6) yU)
  (aE (bP (dA av eu fc dP (pv 4) (aM (bD2 hu (pv 2) (pv 6) (bJ bX) ⟨rfl,rfl,rfl,rfl⟩)))))) aS))))
  (aE (aK (zJ bV m_tuple eh (aM (sU (xO hr1) m_sorted PyProof.Rows.boot_sorted (aM (pv 3))))))))))))),?_⟩
 have f13:=P0.fl;have okf:=P0.okf;refine⟨_,rfl,p,xs,rs,rfl,P0,fun r1 H1 s1 n1 h1=>?_⟩;have rH:=aP.ts (.of s1) _ (aP.flat rs P0.rows);generalize hfl:cU rs=fl at f13 okf h1 rH;refine⟨_,rfl,r1,xs,fl,rfl,h1,rH,okf,f13,fun d2 H2 s2 n2 b2=>?_⟩;refine fun df hdf=>?_
 have s3:=aA hdf (.dK []);have h3:aL H2 df (.dK []) df=some (.dK (vZ [])):=aB;generalize aL H2 df (.dK [])=H3 at s3 h3 ⊢;refine⟨az _,fun lw hlw=>?_⟩;obtain⟨H4,e0,s4,h4⟩:=nV hlw (.lst []);rw[e0];clear e0;have n4:H2 lw=none:=s3.free hlw;refine⟨_,rfl,r1,rfl,⟨_,bA.of ((s2.trans (s3.trans s4)) _ _ h1)⟩,dQ (K:=K) (a:=r1) (xs:=bG fl) (fun i σ G=>∃(v5 v6:Option V),σ=[some (.ref p),some (.ref r1),some (.ref d2),some (.ref df),some (.ref lw),v5,v6]/\aO H3 G/\G lw=some (.lst (((fl.take i).flatMap Rw.told).map V.str)))
  ⟨_,_,rfl,s4,h4⟩ (by rintro i σ G _ ⟨_,_,_,e,_⟩;exact bA.of ((s2.trans (s3.trans e)) _ _ h1)) ?_ ?_⟩
 ·rintro D' N i hN v σ G hv ⟨v5,v6,rfl,s5,h5⟩;obtain⟨r,rfl,hr0⟩:=lI hv;have mr:=bj hr0;have il:=(aq.mp hr0).1;have hr1:=dF.ts (.of (s2.trans (s3.trans s5))) r (rH.mem r mr);have tl:=lH (fl:=fl.take i) (fun r hr=>okf r (km hr));have al:=(okf r mr).asked.1;rw[dj] at tl;refine⟨_,rfl,r.p,_,_,.str r.w,rfl,rfl,aQ.of hr1.at,iV,dE,fun t2 ht2=>?_⟩;have s6:=aA ht2 (.tup [.str "tell",.str "when"]);refine⟨t2,[.str "tell",.str "when"],rfl,.inr (aQ.of aB),rfl,by decide,_,rfl,?_⟩;generalize aL G t2 (.tup [.str "tell",.str "when"])=G6 at s6 ⊢;have ei:wN (V.str r.w) [.str "tell",.str "when"]=decide (r.w∈(["tell","when"]:List Str)):=dN _ ["tell","when"];rw[aF1 hr0] at hN
  by_cases c:r.w∈(["tell","when"]:List Str)
  ·refine bE (ei.trans (ai c)) ?_;refine⟨_,rfl,.inl ⟨rfl,_,bA.of (s6 _ _ h5)⟩,_,rfl,r,rfl,dF.ts (.of s6) r hr1,fun q H7 s7 h7=>?_⟩;refine⟨lw,q,_,_,rfl,rfl,(s6.trans s7) _ _ h5,h7,cu (rT (by rw[aa,aa];lia)),hN _ _ ⟨_,_,rfl,bI (s5.trans (s6.trans s7)) hlw,?_⟩⟩;rw[aB,bI1 hr1 c,bo]
  ·refine aV (fun z=>c (ae (ei.symm.trans z))) ?_;refine hN _ _ ⟨_,_,rfl,s5.trans s6,?_⟩;rw[yL c,dw];exact s6 _ _ h5
 rintro σ G ⟨v5,v6,rfl,s5,h5⟩;rw[bD,cq] at h5;have tl:=lH okf;have pl:=aT6 okf [] xs;have xl:=P0.xl;have pl2:xs.length*(7*fl.length)<=12*(7*fl.length):=jd _ xl;have b5:aO H2 G:=s3.trans s5;have h35:=s5 _ _ h3;have ndl:lw≠df:=(aJ h3 hlw).symm;refine⟨fun m σ G=>∃(fs ws:List Str) (v6:Option V),σ=[some (.ref p),some (.ref r1),some (.ref d2),some (.ref df),some (.ref lw),v5,v6]/\aO H2 G/\G df=some (.dK (vZ fs))/\G lw=some (.lst (ws.map V.str))/\WL fl fs ws/\m=ws.length+zP fl xs fs/\m<=500000,
  ⟨_,[],_,v6,rfl,b5,h35,h5,WL.init fl,rfl,by lia⟩,?_⟩
 clear h5 h35 b5 s5 s4 h4;rintro m σ G ⟨fs,ws,v6,rfl,s5,g1,g2,wl,rfl,mb⟩;refine⟨_,rfl,_,.inl ⟨_,bA.of g2,rfl⟩,?_⟩;have fx:∀x∈fs,x∈xs:=fun x hx=>zG okf (wl.need x (.inl hx))
 have fsl:=aH5 wl.nd fx;rcases vq ws with rfl|⟨ws,x,rfl⟩
 ·refine aV (by simp) ?_;refine⟨_,rfl,df,_,fs,rfl,g1,bQ2 fs,by rw[aU2];lia,fun ts' pm st l hl=>⟨l,_,rfl,.inl ⟨bA.of aB,fun t ht=>?_⟩⟩⟩;refine k t ts' _ (s1.trans (s2.trans (s5.trans ((aA hl _).trans (aA ht _))))) aB ⟨pm.symm.nodup wl.nd,st,fun x=>?_⟩;rw[pm.mem_iff,hfl];exact wl.done x
 ·rw[vt] at *;refine bE (by simp) ?_;rw[bo,ef,tj] at g2;rw[ap,bx,jn] at mb;refine⟨fun σ' G'=>∃(fs' ws':List Str) (v6:Option V),σ'=[some (.ref p),some (.ref r1),some (.ref d2),some (.ref df),some (.ref lw),v5,v6]/\aO H2 G'/\G' df=some (.dK (vZ fs'))/\G' lw=some (.lst (ws'.map V.str))/\WL fl fs' ws'/\ws'.length+zP fl xs fs' + 1<=ws.length+1+zP fl xs fs,
   (by rintro σ' G' ⟨fs',ws',v6',e1,e2,e3,e4,e5,e6⟩;exact⟨_,by rw[ap,bx,jn];lia,fs',ws',v6',e1,e2,e3,e4,e5,rfl,by lia⟩),?_⟩
  generalize hN0:(fun σ' G'=>∃(fs' ws':List Str) (v6:Option V),σ'=[some (.ref p),some (.ref r1),some (.ref d2),some (.ref df),some (.ref lw),v5,v6]/\aO H2 G'/\G' df=some (.dK (vZ fs'))/\G' lw=some (.lst (ws'.map V.str))/\WL fl fs' ws'/\ws'.length+zP fl xs fs' + 1<=ws.length+1+zP fl xs fs)=N;have hN:∀σ' G',(∃(fs' ws':List Str) (v6:Option V),σ'=[some (.ref p),some (.ref r1),some (.ref d2),some (.ref df),some (.ref lw),v5,v6]/\aO H2 G'/\G' df=some (.dK (vZ fs'))/\G' lw=some (.lst (ws'.map V.str))/\WL fl fs' ws'/\ws'.length+zP fl xs fs' + 1<=ws.length+1+zP fl xs fs)->N σ' G':=by subst hN0;exact fun _ _ z=>z
  clear hN0;refine⟨_,rfl,.inl ⟨rfl,_,bA.of g2⟩,lw,_,V.str x,rfl,rfl,g2,by simp,?_⟩;rw[gy];have s6:=bI (ys:=ws.map V.str) s5 n4;have g3:aL G lw (.lst (ws.map V.str)) lw=some (.lst (ws.map V.str)):=aB;have g4:aL G lw (.lst (ws.map V.str)) df=some (.dK (vZ fs)):=(aG ndl.symm).trans g1;generalize aL G lw (.lst (ws.map V.str))=G1 at s6 g3 g4 ⊢;refine⟨_,rfl,_,rfl,df,_,rfl,eR.k (k:=Sum.inr x) g4,_,rfl,?_⟩;rw[aD4]
  by_cases c:x∈fs
  ·rw[br c];refine aV (by decide) ?_;exact hN _ _ ⟨fs,ws,_,rfl,s6,g4,g3,wl.skip c,by lia⟩
  ·rw[ay c];refine bE (by decide) ?_;have ps:=xR fl c (zG okf (wl.need x (.inr (by simp))));have dp:=jM.k (k:=(Sum.inr x:Key)) (v:=V.bl true) g4 (aR (by rw[aU2];lia));rw[cE3 c] at dp;refine⟨_,rfl,_,rfl,df,_,rfl,dp,?_⟩;have s7:aO H2 (aL G1 df (.dK (vZ (fs++[x])))):=fun a o e=>(aG (aJ e hdf)).trans (s6 a o e)
   have g5:aL G1 df (.dK (vZ (fs++[x]))) df=some (.dK (vZ (fs++[x]))):=aB;have g6:aL G1 df (.dK (vZ (fs++[x]))) lw=some (.lst (ws.map V.str)):=(aG ndl).trans g3;generalize aL G1 df (.dK (vZ (fs++[x])))=G2 at s7 g5 g6 ⊢;obtain⟨kvs,hb,hv⟩:=b2.same s7;refine⟨_,rfl,.inl ⟨rfl,_,bA.of g6⟩,_,rfl,d2,rfl,bS3 hb,_,rfl,az _,fun l8 hl8=>?_⟩;obtain⟨G3,e0,s8,g8⟩:=nV hl8 (.lst []);rw[e0];clear e0;refine⟨_,eR.k (k:=Sum.inr x) (s8 _ _ hb),?_⟩;have ll:=nY okf x;obtain⟨l9,e9,h9⟩:∃l9,(cJ kvs (Sum.inr x:Key)).getD (.ref l8)= .ref l9/\G3 l9=some (.lst ((fl.flatMap (Rw.lets x)).map V.str)):=by
    rcases hv x with⟨e,e0⟩|⟨l,e,e0⟩
    ·rw[e,e0];exact⟨l8,rfl,g8⟩
    ·rw[e];exact⟨l,rfl,s8 _ _ e0⟩
   rw[e9];refine⟨lw,l9,_,_,rfl,rfl,s8 _ _ g6,h9,cu (rT (by rw[aa,aa];lia)),hN _ _ ⟨fs++[x],ws++fl.flatMap (Rw.lets x),_,rfl,bI (s7.trans s8) n4,(aG ndl.symm).trans (s8 _ _ g5),by rw[aB,bo],wl.take c,by rw[ap];lia⟩⟩
theorem cF4(C_Prs:Cl P w K mg base 9 (bB3 K) "prices_of"):eF P w K mg base "price" "price" cM8 10 ["program","kind"] (bD7 K):=by
 refine fF ["program","kind"] fun H Q nd hr h=>?_
 obtain⟨p,xs,rs,kn,n,rfl,P0,N0,hkn,k⟩:=h;have hu:=jL hr;refine⟨_,(aE (aK (zU hu (bM C_Prs hr (aC (pv 0) (aM (pv 1)))) (aW bX)))),?_⟩;refine⟨_,rfl,_,rfl,p,xs,rs,kn,n,rfl,P0,N0,hkn,fun H1 d kvs ss v s1 h1 nds hv hp=>⟨az _,fun t ht=>?_⟩⟩;have dg:=eR.t (k:=[]) ((aA ht (.tup [])) _ _ h1) aB;rw[hv] at dg;exact⟨d,v,rfl,dg,k _ ss v (s1.trans (aA ht _)) nds (hp.s (aA ht _))⟩
theorem cA8(C_AsS:Cl P w K mg base 1 spAsS "as_steps")(C_Inn:Cl P w K mg base 2 spInner "inner_steps")(m_reversed:mg "reversed"=none):eF P w K mg base "steps_of" "steps_of" cP5 3 ["rows"] spSteps:=by
 refine fF ["rows","steps","count","waiting","step","row"] fun H Q nd hr h=>?_
 obtain⟨p,rs,rfl,hp,hR,hc,k⟩:=h;refine⟨_,(dJ 1 nd (bJ bX)
  (dJ 2 nd aD
  (aF (aI0 ["step"] [none] (i:=3) nd rfl (ji rfl) (bC8 (bM C_AsS hr (aM (pv 0))) (by rfl) m_reversed) (fun _ _ _ _=>(eT 0)) (fun _ _ _ _=>eA) (fun _ _ _ _=>(aW (aC (bL (sQ K) (pv 0) aD) (aC (bL (sQ K) (pv 0) aD) (aM pJ))))))
  (aF (hJ jg (iW (pv 3) (fun _=>rfl))
  (dJ 4 nd (iT av fq fw iU (pv 3))
  (aE (bC (eG bR (bL aH (pv 4) aD) aI) (dJ 5 nd (bL aH (pv 4) aD)
  (aF (bP (dA av de dh bT (pv 1) (aM (aW (aC aI (aC (pv 5) (aM (pv 2))))))))
  (aF (bP (dA av eu fc dP (pv 3) (aM (cH ["inner","count"] [none,some 2] (bC8 (bM C_Inn hr (aM (pv 5))) (by rfl) m_reversed) (fun _ _ _ _=>(eT 0)) (fun _ _ _ _=>eA) (fun _ _ _ _=>(aW (aC (bL (sQ K) (pv 0) aD) (aC (bL (sQ K) (pv 0) aD) (aM (pv 1))))))))))
  (aE (bV6 (i:=2) nd rfl (ng rfl) aD uV))))) (aE (bP (dA av de dh bT (pv 1) (aM (pv 4)))))))))
  (aE (aK (pv 1))))))),?_⟩
 have rl:=iL rs;have tl:=dM rs 0;refine⟨az _,fun l1 hl1=>?_⟩;obtain⟨H1,e0,s1,h1⟩:=nV hl1 (.lst []);rw[e0];clear e0;refine⟨_,rfl,p,rs,rfl,s1 _ _ hp,by lia,fun r z H2 s2 h2 t2=>⟨r,_,rfl,bA.of h2,?_⟩⟩;have zl:=t2.length;rw[aa] at zl;have t2r:=pZ t2;refine xM (K:=K) (a:=r) (xs:=z) (fun i ys σ G=>aO H2 G/\(∃v,σ=[v])/\cV (kT G) ys (((rs.map fun r=>rW 0 (("row": Str),r)).reverse).take i))
  (fC (by lia)) ⟨aO.refl _,⟨_,rfl⟩,trivial⟩ (by rintro i ys σ G ⟨_,_,e⟩;rw[e.length,dj];lia) (by rintro i ys σ G _ ⟨e,_⟩;exact bA.of (e _ _ h2)) ?_ ?_
 ·rintro i v ys σ G hv ⟨s3,⟨v',rfl⟩,tw⟩;obtain⟨s,hs,q,rfl,hq⟩:=gF t2r hv;refine⟨_,rfl,q,_,_,.str s.1,rfl,rfl,aQ.of (s3 _ _ hq),rfl,_,rfl,q,_,_,.ref s.2.p,rfl,rfl,aQ.of (s3 _ _ hq),rfl,by show 3<=sizeLine;decide,fun t ht=>⟨s3.trans (aA ht _),⟨_,rfl⟩,?_⟩⟩;have hs0:=List.mem_reverse.mp (bj hs);obtain⟨r9,_,e9⟩:=fi.mp hs0;have hs9:((rs.map fun r=>rW 0 (("row": Str),r)).reverse)[i]?=some (rW 0 s):=by
   rw[<-qM, <-uj,di,hs];rfl
  rw[aY hs9];exact cV.append (tw.mono fun _ _ z=>kT.ts (.of (aA ht _)) z) ⟨⟨t,_,rfl,aB,fun z=>absurd (by rw[<-e9];rfl) z⟩,trivial⟩
 rintro ys σ G ⟨s3,_,tw⟩ lw hlw;have el:z.length=((rs.map fun r=>rW 0 (("row": Str),r)).reverse).length:=by rw[fh,aa];exact zl
 rw[el,cq] at tw;have s4:=s1.trans (s2.trans (s3.trans (aA hlw (.lst ys))));have h4:aL G lw (.lst ys) lw=some (.lst ys):=aB;have ne:lw≠l1:=(aJ ((s2.trans s3) _ _ h1) hlw).symm;have g1:aL G lw (.lst ys) l1=some (.lst []):=(aG ne.symm).trans ((s2.trans s3) _ _ h1);have nw:H lw=none:=(s1.trans (s2.trans s3)).free hlw;replace tw:=tw.mono fun _ _ z=>kT.ts (.of (aA hlw (.lst ys))) z
 generalize aL G lw (.lst ys)=H4 at s4 h4 g1 tw ⊢;refine⟨fun m σ G=>∃(em stk:List Stp) (ez wz:List V) (n:Nat) (v4 v5:Option V),σ=[some (.ref p),some (.ref l1),some (.int n),some (.ref lw),v4,v5]/\aO H G/\G l1=some (.lst ez)/\cV (mD G) ez em/\G lw=some (.lst wz)/\cV (kT G) wz stk.reverse/\em++eS n stk=bU 0 rs/\(∀s∈stk,dF H s.2.1/\s.2.1.cnt<=4000)/\m=(eS n stk).length,
  ⟨_,[],rs.map fun r=>rW 0 (("row": Str),r),[],ys,0,none,none,rfl,s4,g1,trivial,h4,tw,(iZ rs 0 0).1,fun s hs=>by
   obtain⟨r0,m0,e0⟩:=fi.mp hs;rw[<-e0];have:=qC m0;exact⟨hR.mem _ m0,by show r0.cnt<=4000;lia⟩,rfl⟩,?_⟩
 clear tw h4 g1;rintro m σ G ⟨em,stk,ez,wz,n,v4,v5,rfl,s5,g1,t5,g2,t6,eq,hs,rfl⟩;refine⟨_,rfl,_,.inl ⟨_,bA.of g2,rfl⟩,?_⟩;have lt:=eo List.length eq;rw[ap] at lt;have ls:=nJ stk n;have l5:=t5.length;have l6:=t6.length;rw[fh] at l6
 cases stk with
 |nil =>
  obtain rfl:wz=[]:=je.mp l6;refine aV (by simp) ?_;rw[eS,dw] at eq;rw[eq] at t5;exact⟨_,rfl,k l1 ez G s5 hl1 g1 t5⟩
 |cons s bN =>
  rw[dr] at t6;obtain⟨us,u,rfl,t7,q,n0,rfl,hq,hn0⟩:=qW t6;refine bE (by simp) ?_;have hS:=hs s ao;rw[bx] at ls l6;rw[ap,bx,jn] at l6;refine⟨fun σ' G'=>∃(em' stk':List Stp) (ez' wz':List V) (n':Nat) (v4 v5:Option V),σ'=[some (.ref p),some (.ref l1),some (.int n'),some (.ref lw),v4,v5]/\aO H G'/\G' l1=some (.lst ez')/\cV (mD G') ez' em'/\G' lw=some (.lst wz')/\cV (kT G') wz' stk'.reverse/\em'++eS n' stk'=bU 0 rs/\(∀s∈stk',dF H s.2.1/\s.2.1.cnt<=4000)/\(eS n' stk').length+1=(eS n (s::bN)).length,
   (by rintro σ' G' ⟨em',stk',ez',wz',n',v4',v5',e1,e2,e3,e4,e5,e6,e7,e8,e9⟩;exact⟨_,by lia,em',stk',ez',wz',n',v4',v5',e1,e2,e3,e4,e5,e6,e7,e8,rfl⟩),?_⟩
  refine⟨_,rfl,.inl ⟨rfl,_,bA.of g2⟩,lw,_,V.ref q,rfl,rfl,g2,by simp,?_⟩;rw[gy];have ts6:=TS.lst (ys:=us) g2;have s6:=bI (ys:=us) s5 nw;have g3:aL G lw (.lst us) lw=some (.lst us):=aB;have g4:aL G lw (.lst us) l1=some (.lst ez):=(aG ne.symm).trans g1;have hq6:=ts6 _ _ hq;replace t5:=t5.mono fun _ _ z=>mD.ts ts6 z
  replace t7:=t7.mono fun _ _ z=>kT.ts ts6 z
  generalize aL G lw (.lst us)=G1 at s6 g3 g4 hq6 t5 t7 ⊢;refine⟨_,rfl,q,_,_,.str s.1,rfl,rfl,aQ.of hq6,rfl,rfl,_,rfl,?_⟩
  by_cases c:s.1="row"
  ·refine bE (by rw[c];exact ai rfl) ?_;obtain⟨s1',r0,k0⟩:=s;have c:s1'="row":=c;subst c;have ex:eS n ((("row": Str),r0,k0)::bN)=(("row": Str),r0,n)::eS (n+1) ((eQ r0).map (rW n)++bN):=aM1 rfl;have li:=nJ ((eQ r0).map (rW n)++bN) (n+1);rw[ap,aa] at li;rw[ex,bx] at lt;refine⟨_,rfl,q,_,_,.ref r0.p,rfl,rfl,aQ.of hq6,rfl,?_⟩;refine⟨_,rfl,.inl ⟨rfl,_,bA.of g4⟩,_,rfl,_,rfl,by show 3<=sizeLine;decide,fun t ht=>?_⟩;have s7:=s6.trans (aA ht (.tup [.str "row",.ref r0.p,.int n]));have nt1:l1≠t:=aJ g4 ht;have nt2:lw≠t:=aJ g3 ht;have g5:aL G1 t (.tup [.str "row",.ref r0.p,.int n]) l1=_:=(aG nt1).trans g4;have g6:aL G1 t (.tup [.str "row",.ref r0.p,.int n]) lw=_:=(aG nt2).trans g3;have et:mD (aL G1 t (.tup [.str "row",.ref r0.p,.int n])) (.ref t) (("row": Str),r0,n):=⟨t,rfl,aB⟩
   replace t5:=t5.mono fun _ _ z=>mD.ts (.of (aA ht (.tup [.str "row",.ref r0.p,.int n]))) z
   replace t7:=t7.mono fun _ _ z=>kT.ts (.of (aA ht (.tup [.str "row",.ref r0.p,.int n]))) z
   generalize aL G1 t (.tup [.str "row",.ref r0.p,.int n])=G2 at s7 g5 g6 et t5 t7 ⊢;refine⟨l1,_,_,rfl,rfl,g5,fC (by lia),?_⟩;have ts8:=TS.lst (ys:=ez++[.ref t]) g5;have s8:=bI (ys:=ez++[.ref t]) s7 hl1;have g7:aL G2 l1 (.lst (ez++[.ref t])) l1=some (.lst (ez++[.ref t])):=aB;have g8:aL G2 l1 (.lst (ez++[.ref t])) lw=some (.lst us):=(aG ne).trans g6;have t8:=cV.append (t5.mono fun _ _ z=>mD.ts ts8 z) (show cV (mD (aL G2 l1 (.lst (ez++[.ref t])))) [.ref t] [(("row": Str),r0,n)] from⟨et.ts ts8,trivial⟩);replace t7:=t7.mono fun _ _ z=>kT.ts ts8 z
   generalize aL G2 l1 (.lst (ez++[.ref t]))=G3 at s8 g7 g8 t8 t7 ⊢;refine⟨_,rfl,.inl ⟨rfl,_,bA.of g8⟩,_,rfl,r0,rfl,dF.ts (.of s8) r0 hS.1,hS.2,fun qi zi H9 s9 h9 t9=>⟨qi,_,rfl,bA.of h9,?_⟩⟩;have t9r:=pZ t9;have zl9:=t9.length;refine xM (K:=K) (a:=qi) (xs:=zi) (fun i ys σ G=>aO H9 G/\(∃v,σ=[v,some (.int n)])/\cV (kT G) ys (((eQ r0).map (rW n)).reverse.take i))
    (fC (by lia)) ⟨aO.refl _,⟨_,rfl⟩,trivial⟩ (by rintro i ys σ G ⟨_,_,e⟩;rw[e.length,dj];lia) (by rintro i ys σ G _ ⟨e,_⟩;exact bA.of (e _ _ h9)) ?_ ?_
   ·rintro i v ys σ G hv ⟨s3,⟨v',rfl⟩,tw⟩;obtain⟨s,hs,q,rfl,hq⟩:=gF t9r hv;refine⟨_,rfl,q,_,_,.str s.1,rfl,rfl,aQ.of (s3 _ _ hq),rfl,_,rfl,q,_,_,.ref s.2.p,rfl,rfl,aQ.of (s3 _ _ hq),rfl,_,rfl,by show 3<=sizeLine;decide,fun t ht=>⟨s3.trans (aA ht _),⟨_,rfl⟩,?_⟩⟩;have hs9:(((eQ r0).map (rW n)).reverse)[i]?=some (rW n s):=by rw[<-uj,di,hs];rfl
    rw[aY hs9];exact cV.append (tw.mono fun _ _ z=>kT.ts (.of (aA ht _)) z) ⟨⟨t,_,rfl,aB,fun _=>rfl⟩,trivial⟩
   rintro ys σ G5 ⟨s10,_,tw⟩ l10 hl10;have el:zi.length=((eQ r0).map (rW n)).reverse.length:=by rw[fh,aa];exact zl9
   rw[el,cq] at tw;have s11:=s9.trans (s10.trans (aA hl10 (.lst ys)));have h11:aL G5 l10 (.lst ys) l10=some (.lst ys):=aB;have n10:lw≠l10:=aJ ((s9.trans s10) _ _ g8) hl10;replace tw:=tw.mono fun _ _ z=>kT.ts (.of (aA hl10 (.lst ys))) z
   generalize aL G5 l10 (.lst ys)=G6 at s11 h11 tw ⊢;have yl:=tw.length;rw[fh,aa] at yl;refine⟨lw,l10,_,_,rfl,rfl,s11 _ _ g8,h11,cu (fC (by lia)),?_⟩;have ts12:=(TS.of s11).trans (TS.lst (ys:=us++ys) (s11 _ _ g8));refine⟨_,rfl,_,_,rfl,rfl,em++[(("row": Str),r0,n)],(eQ r0).map (rW n)++bN,_,_,n+1,_,_,rfl,bI (s8.trans s11) nw,(aG ne.symm).trans (s11 _ _ g7),t8.mono fun _ _ z=>mD.ts ts12 z,aB,?_,?_,fun s hs'=>?_,?_⟩
   ·rw[rj];exact cV.append (t7.mono fun _ _ z=>kT.ts ts12 z) (tw.mono fun _ _ z=>kT.ts (TS.lst (s11 _ _ g8)) z)
   ·rw[<-eq,ex];simp
   ·rcases bu.mp hs' with e|e
    ·obtain⟨s9,m9,e9⟩:=fi.mp e;rw[<-e9];exact aV1 hS.1 hS.2 m9
    ·exact hs s (ak _ e)
   ·rw[ex,bx]
  ·refine aV (fun z=>c (by have z:=ae z;injection z)) ?_;have ex:=kJ (s:=s) (k:=n) (r:=bN) c;have:=nJ bN n;rw[ex,bx] at lt;have hn1:=hn0 c;refine⟨_,rfl,.inl ⟨rfl,_,bA.of g4⟩,_,rfl,l1,_,_,rfl,rfl,g4,fC (by lia),?_⟩;have ts8:=TS.lst (ys:=ez++[.ref q]) g4;refine⟨em++[s],bN,_,_,n,_,_,rfl,bI s6 hl1,aB,cV.append (t5.mono fun _ _ z=>mD.ts ts8 z) ⟨⟨q,rfl,by rw[<-hn1];exact ts8 _ _ hq6⟩,trivial⟩,(aG ne).trans g3,t7.mono fun _ _ z=>kT.ts ts8 z,?_,fun s hs'=>hs s (ak _ hs'),?_⟩
   ·rw[<-eq,ex];simp
   ·rw[ex,bx]
theorem cC7(C_Sts:Cl P w K mg base 3 spSteps "steps_of"):eF P w K mg base "rows_in" "rows_in" cH7 4 ["program"] spRowsP:=by
 refine fF ["program"] fun H Q nd hr h=>?_
 obtain⟨p,xs,rs,rfl,P0,k⟩:=h;refine⟨_,(aE (aK (cH ["word","row","number"] [none,none,none] (bW (bM C_Sts hr (aM (bL aH (pv 0) aD)))) (fun _ _ _ _=>(cD0 K (n:=3) rfl (aZ (eT 0) (aZ (eT 1) (aZ (eT 2) eY))))) (fun _ _ _ _=>(lW (eG bR (pv 0) aI))) (fun _ _ _ _=>(pv 1))))),?_⟩;obtain⟨v0,pr,hp,hpr⟩:=P0.ex;have tl:=dM rs 0;have c0:=P0.cnt;refine⟨_,rfl,p,_,_,.ref pr,rfl,rfl,aQ.of hp,rfl,pr,rs,rfl,hpr,P0.rows,by lia,fun r zs H1 s1 _ h1 t1=>⟨r,rfl,⟨_,bA.of h1⟩,?_⟩⟩;have zl:=t1.length;refine cS (K:=K) (a:=r) (xs:=zs) (fun i ys σ G=>G=H1/\(∃v1 v2 v3,σ=[v1,v2,v3])/\ys=bG ((((bU 0 rs).take i).filter eM).map (·.2.1)))
  (fC (by lia)) ⟨rfl,⟨_,_,_,rfl⟩,rfl⟩ (fun i ys σ G ⟨_,_,e⟩=>by
   rw[e,bD,aa];exact cj (ja _ _) (by rw[dj];lia)) (by rintro i ys σ G _ ⟨e,_⟩;rw[e];exact bA.of h1) ?_ ?_
 ·rintro i v ys σ G hv ⟨rfl,⟨v1,v2,v3,rfl⟩,rfl⟩;obtain⟨s,hs,q,rfl,hq⟩:=gF t1 hv;refine⟨q,_,rfl,aQ.of hq,rfl,_,_,rfl,_,_,rfl,_,_,rfl,rfl,?_⟩;refine⟨_,rfl,rfl,_,rfl,?_⟩;rw[aY hs,im,bo,dW]
  by_cases c:s.1="row"
  ·refine bE (by rw[c];exact ai rfl) ⟨_,rfl,rfl,⟨_,_,_,rfl⟩,?_⟩;rw[dk (p:=eM) (ai c)];rfl
  ·refine aV (fun z=>c (by have z:=ae z;injection z)) ⟨rfl,⟨_,_,_,rfl⟩,?_⟩;rw[dm (p:=eM) (by unfold eM;simpa using c)];simp[bG]
 ·rintro ys σ G ⟨rfl,_,rfl⟩ l hl;rw[zl,cq,eZ];exact k l _ (s1.trans (aA hl _)) (s1.free hl) aB
theorem bY5  : eF P w K mg base "begins_rows" "begins_rows" cI2 1 ["word","row"] spBegins:=by
 refine fF ["word","row"] fun H Q nd hr h=>?_
 obtain⟨s,rfl,hr0,k⟩:=h;refine⟨_,(aE (aK (aJ1 (uX bR (pv 0) aI) (kN (sK (uX bR (pv 0) aI) (kN (uX cY (bL aH (pv 1) aD) (aW (aC aI (aM aI)))))))))),?_⟩;refine⟨_,rfl,rfl,_,rfl,?_⟩;unfold eN vD at k
 by_cases c:s.1="else"
 ·rw[ai c,Bool.true_or] at k;exact bE (by rw[c];exact ai rfl) (k _ (aO.refl _))
 refine aV (fun z=>c (by have z:=ae z;injection z)) ?_;rw[db c,wq] at k;refine⟨_,rfl,rfl,_,rfl,?_⟩
 by_cases c2:s.1="row"
 ·rw[ai c2,pj] at k;refine bE (by rw[c2];exact ai rfl) ?_;refine⟨_,rfl,s.2.1.p,_,_,.str s.2.1.w,rfl,rfl,aQ.of hr0.at,iV,dE,fun t2 ht2=>?_⟩;refine⟨t2,(["when","times"]:List Str).map V.str,rfl,.inr (aQ.of aB),rfl,dD _,?_⟩;rw[dN];exact k _ (aA ht2 _)
 ·rw[db c2,Bool.false_and] at k;exact aV (fun z=>c2 (by have z:=ae z;injection z)) (k _ (aO.refl _))
theorem bY6  : eF P w K mg base "first_is_amiss" "first_is_amiss" cP0 1 ["row"] spFirstA:=by
 refine fF ["row","mark","steepness","low","high"] fun H Q nd hr h=>?_
 obtain⟨p,x,us,am,rfl,hp,ok,k⟩:=h;refine⟨_,(dJ 1 nd (bL aH (pv 0) aD)
  (dJ 2 nd (bL aH (pv 0) aD)
  (dJ 3 nd (bL aH (pv 0) aD)
  (dJ 4 nd (bL aH (pv 0) aD)
  (aE (aK (aJ1 (uX xQ (pv 4) (pv 3)) (aJ1 (bX1 (aQ4 xQ xQ (pv 3) (pv 1) (pv 4))) (kN (uX jJ (aN fW aD (bL aH (pv 2) aD)) (bL aH (pv 2) aD))))))))))),?_⟩
 obtain⟨vs,T,wss,kd⟩:=am;have ev:=ok.vs;have ew:=ok.wd;have ea:=ok.at';subst ev
 cases T with
 |lad a0 b0 lo hi=>exact absurd ew (by show ¬("first": Str)="ladder";decide)
 |fla r lo hi=>exact absurd ew (by show ¬("first": Str)="flat";decide)
 |cho p q lo hi=>exact absurd ew (by show ¬("first": Str)="choose";decide)
 |fst pa qa y z mark lo hi =>
 obtain⟨c,us',a,q,e,_,_,_,hq⟩:=ea;have e:us=_:=e;subst e;have k:Q (.bl (decide (hi<=lo\/¬(lo<=mark/\mark<=hi)\/z<2*y))) H:=k;refine⟨_,rfl,p,_,_,.int mark,rfl,rfl,aQ.of hp,rfl,?_⟩;refine⟨_,rfl,p,_,_,.ref q,rfl,rfl,aQ.of hp,rfl,?_⟩;refine⟨_,rfl,p,_,_,.int lo,rfl,rfl,aQ.of hp,rfl,?_⟩;refine⟨_,rfl,p,_,_,.int hi,rfl,rfl,aQ.of hp,rfl,?_⟩;refine⟨_,rfl,_,rfl,_,_,rfl,rfl,_,rfl,?_⟩
 by_cases c1:hi<=lo
 ·rw[ai (.inl c1)] at k;exact bE (ai c1) k
 refine aV (fun z=>c1 (ae z)) ?_;refine⟨_,rfl,_,rfl,_,_,rfl,rfl,_,rfl,?_⟩
 by_cases c2:lo<=mark
 ·refine bE (ai c2) ⟨_,rfl,_,_,rfl,rfl,_,rfl,_,rfl,?_⟩
  by_cases c3:mark<=hi
  ·refine aV (by rw[ai c3];decide) ?_;refine⟨_,rfl,q,_,_,.int y,rfl,rfl,aQ.of hq,rfl,_,_,rfl,rfl,.inl ⟨by decide,by decide⟩,_,rfl,q,_,_,.int z,rfl,rfl,aQ.of hq,rfl,_,_,rfl,rfl,?_⟩;show Q (.bl (decide (z<2*y))) H;rw[show decide (hi<=lo\/¬(lo<=mark/\mark<=hi)\/z<2*y)=decide (z<2*y) from decide_eq_decide.mpr ⟨fun h=>by lia,fun h=> .inr (.inr h)⟩] at k;exact k
  ·rw[ai (.inr (.inl fun z=>c3 z.2))] at k;exact bE (by rw[db c3];rfl) k
 ·rw[ai (.inr (.inl fun z=>c2 z.1))] at k;refine aV (fun z=>c2 (ae z)) ⟨_,rfl,_,rfl,?_⟩;exact bE rfl k
theorem cG3{cT:Addr}(m_THROWS:mg "THROWS"=some (.ref cT))(hT:∀H,aQ K H cT (cN.map V.str))(C_FiA:Cl P w K mg base 1 spFirstA "first_is_amiss"):eF P w K mg base "range_is_amiss" "range_is_amiss" cM1 2 ["row"] spRangeA:=by
 refine fF ["row"] fun H Q nd hr h=>?_
 obtain⟨r,rfl,hr0,k⟩:=h;refine⟨_,(aF (bC (eG bR (bL aH (pv 0) aD) aI) (aE (aK (bM C_FiA hr (aM (pv 0))))) aS)
  (aE (aK (sK (uX cY (bL aH (pv 0) aD) (pgl m_THROWS)) (kN (uX jJ (bL aH (pv 0) aD) (bL aH (pv 0) aD))))))),?_⟩
 refine⟨_,rfl,r.p,_,_,.str r.w,rfl,rfl,aQ.of hr0.at,iV,rfl,_,rfl,?_⟩
 by_cases cf:r.w="first"
 ·refine bE (by rw[cf];exact ai rfl) ?_;obtain⟨p,w,x,vs,am,rfl⟩:∃p w x vs am,r= .thr p w x vs am:=by
   cases r with
   |thr p w x vs am=>exact⟨p,w,x,vs,am,rfl⟩
   |lt p x t=>exact absurd cf (by show ¬(("let": Str)="first");decide)
   |tell p t=>exact absurd cf (by show ¬(("tell": Str)="first");decide)
   |when p pa pb t a b=>exact absurd cf (by show ¬(("when": Str)="first");decide)
   |times p pb n b=>exact absurd cf (by show ¬(("times": Str)="first");decide)
  have cf:w="first":=cf;subst cf;exact⟨_,rfl,p,x,vs,am,rfl,hr0.1,hr0.2,k⟩
 refine aV (fun z=>cf (by have z:=ae z;injection z)) ?_;refine⟨_,rfl,r.p,_,_,.str r.w,rfl,rfl,aQ.of hr0.at,iV,cT,_,rfl,.inr (hT _),rfl,dD _,_,rfl,?_⟩;have ei:wN (V.str r.w) (cN.map V.str)=decide (r.w∈cN):=dN _ _
 by_cases c:r.w∈cN
 ·refine bE (ei.trans (ai c)) ?_;generalize hP:r.p=P
  cases r with
  |thr p w x vs am =>
   obtain rfl:p=P:=hP;obtain⟨vs',T,wss,kd⟩:=am;have ev:=hr0.2.vs;have ew:=hr0.2.wd;have ea:=hr0.2.at';have hp0:=hr0.1;subst ev
   cases T with
   |lad a0 b0 lo hi =>
    obtain⟨_,_,_,e,_⟩:=ea;have e:vs=_:=e;subst e;exact⟨_,rfl,p,_,_,.int lo,rfl,rfl,aQ.of hp0,rfl,_,rfl,p,_,_,.int hi,rfl,rfl,aQ.of hp0,rfl,_,_,rfl,rfl,k⟩
   |fla r lo hi =>
    obtain⟨_,_,e,_⟩:=ea;have e:vs=_:=e;subst e;exact⟨_,rfl,p,_,_,.int lo,rfl,rfl,aQ.of hp0,rfl,_,rfl,p,_,_,.int hi,rfl,rfl,aQ.of hp0,rfl,_,_,rfl,rfl,k⟩
   |cho a0 b0 lo hi =>
    obtain⟨_,_,_,e,_⟩:=ea;have e:vs=_:=e;subst e;exact⟨_,rfl,p,_,_,.int lo,rfl,rfl,aQ.of hp0,rfl,_,rfl,p,_,_,.int hi,rfl,rfl,aQ.of hp0,rfl,_,_,rfl,rfl,k⟩
   |fst pa qa y z mark lo hi=>exact absurd ew cf
  |lt p x t=>exact absurd (show("let": Str)∈cN from c) (by decide)
  |tell p t=>exact absurd (show("tell": Str)∈cN from c) (by decide)
  |when p pa pb t a b=>exact absurd (show("when": Str)∈cN from c) (by decide)
  |times p pb n b=>exact absurd (show("times": Str)∈cN from c) (by decide)
 ·refine aV (fun z=>c (ae (ei.symm.trans z))) ?_
  cases r with
  |thr p w x vs am=>exact absurd hr0.2.w c
  |lt p x t=>exact k
  |tell p t=>exact k
  |when p pa pb t a b=>exact k
  |times p pb n b=>exact k
theorem cE8(C_Ned:Cl P w K mg base 5 spNeeded "needed")(C_IsI:Cl P w K mg base 2 spIsI "is_idle")(C_RwI:Cl P w K mg base 4 spRowsP "rows_in")(m_tuple:mg "tuple"=none)(m_enumerate:mg "enumerate"=none):eF P w K mg base "idle" "idle" cQ6 6 ["program"] spIdle:=by
 refine fF ["program","names"] fun H Q nd hr h=>?_
 obtain⟨p,xs,rs,rfl,P0,k⟩:=h;refine⟨_,(dJ 1 nd (bM C_Ned hr (aM (pv 0)))
  (aE (aK (zJ bV m_tuple eh (aM (cH ["number","row","names"] [none,none,some 1] (bN8 (by rfl) m_enumerate (aM (bM C_RwI hr (aM (pv 0))))) (fun _ _ _ _=>(cD0 K (n:=2) rfl (aZ (eT 0) (aZ (eT 1) eY)))) (fun _ _ _ _=>(lW (fE (bM C_IsI hr (aC (pv 1) (aM (pv 2))))))) (fun _ _ _ _=>(pv 0)))))))),?_⟩
 have f13:(cU rs).length<=1300:=by rw[fM];exact P0.cnt
 refine⟨_,rfl,p,xs,rs,rfl,P0,fun r1 ss H1 s1 h1 nds=>?_⟩;refine⟨_,rfl,p,xs,rs,rfl,P0.ts (.of s1),fun r2 H2 s2 n2 h2=>⟨r2,rfl,⟨_,bA.of h2⟩,?_⟩⟩;have rH:=aP.ts (.of (s1.trans s2)) _ (aP.flat rs P0.rows);refine aM4 (K:=K) (a:=r2) (xs:=bG (cU rs)) (fun i ys σ G=>aO H2 G/\(∃v1 v2,σ=[v1,v2,some (.ref r1)])/\ys=(uY (cU rs) ss i).map V.int)
  (rT (by rw[bD];lia)) ⟨aO.refl _,⟨_,_,rfl⟩,rfl⟩ (by rintro i ys σ G ⟨_,_,e⟩;rw[e,aa];exact aX1 _ _ _) (by rintro i ys σ G _ ⟨e,_⟩;exact bA.of (e _ _ h2)) ?_ ?_
 ·rintro i v ys σ G t hv ⟨s3,⟨v1,v2,rfl⟩,rfl⟩ ht;obtain⟨r,rfl,hr0⟩:=lI hv;obtain⟨G4,e0,s4,h4⟩:=nV ht (.tup [.int i,.ref r.p]);rw[e0];clear e0;have gg:=s3.trans s4;refine⟨t,_,rfl,aQ.of h4,rfl,_,_,rfl,_,_,rfl,rfl,?_⟩;refine⟨_,rfl,_,rfl,r,r1,ss,rfl,dF.ts (.of gg) r (rH.mem r (bj hr0)),(s2.trans gg) _ _ h1,_,rfl,?_⟩;have ea:idA (cU rs) ss i=fP ss r:=by unfold idA;rw[hr0]
  rw[aM5,ea,bo]
  by_cases c:fP ss r=true
  ·refine bE c ⟨_,rfl,gg,⟨_,_,rfl⟩,?_⟩;rw[br c];rfl
  ·refine aV c ⟨gg,⟨_,_,rfl⟩,?_⟩;rw[ay c];simp
 ·rintro ys σ G ⟨s3,_,rfl⟩ l hl;rw[bD];exact⟨l,_,rfl,.inl ⟨bA.of aB,fun t ht=>k t ss _ (s1.trans (s2.trans (s3.trans ((aA hl _).trans (aA ht _))))) aB nds⟩⟩
def bK2(Pt:Addr):bK5:=⟨Pt,ltP aC7,"trimmed.<locals>.<lambda>"⟩
def bU9(C_IsI:Cl P w K mg base 2 spIsI "is_idle"):yZ P w K mg base 103 where
 ar:=(ltA aC7).getD ⟨[],[],none,[],[],none,[]⟩
 body:=ltB aC7
 sc:=ltS aC7
 p1:="row"
 p2:="number"
 cn:=["names"]
 te:=tIf (tB (tX spIsI [] E0 (iK (jE 0) (iK (jE 2) tNil)))) (aN9 tNil) (aN9 (iK (jE 0) tNil))
 S:=⟨rfl,rfl,rfl,by decide,by decide,by decide,by decide,by decide⟩
 hb:=by intros;rfl
 h:=fun qual f c cl A outer s H hr=>mU (fE (bM C_IsI hr (aC (pv 0) (aM (pv 2))))) (bJ bX) (bJ (aM (pv 0)))
theorem bU4{c Pt:Addr}(C_Rbl:ClZ P w K mg base 105 103 spRb "rebuilt")(C_Ned:Cl P w K mg base 5 spNeeded "needed")(C_IsI:Cl P w K mg base 2 spIsI "is_idle")(B:aB1 base mg c Pt):bV1 P w K mg base "trimmed" "trimmed" aC7 106 ["program"] c (aT5 (bK2 Pt)):=by
 refine cS7 ["program","names"] (fun H Q nd hr h=>?_) (by intro _ _ _ _ h;first|(cases h;subst_vars;rfl)|((repeat obtain⟨_,h⟩:=h);subst_vars;rfl));obtain⟨p,xs,rs,rfl,hT,P0,k⟩:=h;have key:∀y∈(ltS aC7).names,y.2= .free->y.1="names":=by decide
 refine⟨_,(dJ 1 nd (bM C_Ned hr (aM (pv 0)))
  (aE (aK (aW (aC (bL aH (pv 0) aD) (aM (cS1 C_Rbl (bU9 C_IsI) hr (aC (bL aH (pv 0) aD) (aM (cE4 B rfl fun y hy hf=> .inl (by rw[key y hy hf];rfl)))) fun y hy hf=>by rw[key y hy hf];rfl))))))),?_⟩
 obtain⟨v0,pr,hp,hpr⟩:=P0.ex;obtain⟨pk,ks,w0,hpk,hk,k1,k3,kd⟩:=P0.kn;obtain⟨rfl,rfl⟩:v0= .ref pk/\w0= .ref pr:=by
  have e:=hp.symm.trans hpk;injection e with e;injection e with e;injection e with e1 e;injection e with e2 e
  exact⟨e1,e2.symm⟩
 refine⟨_,rfl,p,xs,rs,rfl,P0,fun np ss H1 s1 hnp nds=>?_⟩;refine⟨_,rfl,p,_,_,.ref pk,rfl,rfl,aQ.of (s1 _ _ hp),rfl,_,rfl,p,_,_,.ref pr,rfl,rfl,aQ.of (s1 _ _ hp),rfl,?_⟩;obtain⟨ps,eP⟩:=hT.is;have eP:H1 Pt=some (.tbl ps):=s1 _ _ eP;refine⟨hT.same s1,fun f' c' H2 hT2 o2 hf hL=>?_⟩;have t2:TS H1 H2:=o2.ts eP;have t02:=(TS.of s1).trans t2;refine⟨f',c',_,[("names",.ref np)],rfl,hL,rfl,fun y hy=>⟨1,by rw[au.mp hy];rfl,by rw[au.mp hy];rfl⟩,pr,f',rs,fun _=>ChT ss,fun _ _=>True,rfl,t02 _ _ hpr,aP.ts t02 rs P0.rows,by have:=P0.cnt;lia,fun _ _ _ _ _ _ h=>h,fun _ _ _ _=>trivial,fun _ _ _ _ _ _ _=>trivial,fun _ _ _ _ _=>trivial,fun r n G W sG hrG _ next=>?_,fun qr o H' s' hq ho ro=>?_⟩
 ·refine⟨_,rfl,_,rfl,r,np,ss,rfl,hrG,(t2.trans (.of sG)) _ _ hnp,_,rfl,?_⟩
  cases e:fP ss r with
  |true =>
   refine bE rfl ⟨az _,fun l hl=>?_⟩;exact next l [] _ (aA hl _) aB trivial (.inl ⟨e,rfl⟩) (az _)
  |false =>
   refine aV (by decide) ⟨_,rfl,lK,fun l hl=>?_⟩;have s2:=aA hl (.lst [.ref r.p]);exact next l [r] _ s2 aB ⟨dF.ts (.of s2) _ hrG,trivial⟩ (.inr ⟨e,rfl⟩) (af _)
 refine⟨dE,fun r0 hr0=>?_⟩;have s3:=aA hr0 (.tup [.ref pk,.ref qr]);exact k r0 pk pr qr ss o _ ((oH.of s1).trans (o2.trans (.of (s'.trans s3)))) (hT2.same (s'.trans s3)) hp aB (s3 _ _ hq) (aP.ts (.of s3) _ ho) nds (mY rs 0 ro)
theorem bV0  : eF P w K mg base "in_both" "in_both" cK0 1 ["one","other"] spBoth:=by
 refine fF ["one","other","both","name"] fun H Q nd hr h=>?_
 obtain⟨a,b,ka,kb,n,m,rfl,nab,Da,Db,hn,k⟩:=h;have hu:=jL hr;refine⟨_,(dJ 2 nd mO
  (aF (wV (bK1 (pv 0)) (eT 3 nd)
  (aE (bC (aY0 (aX3 hu (pv 3) (pv 1))) (aE (pdp hu (pv 2) (pv 3) yU)) aS)))
  (aE (aK (pv 2))))),?_⟩
 refine fun d hd=>?_
 have s1:=aA hd (.dK []);have D1:Dk (aL H d (.dK [])) d [] 0:=Dk.new aB;obtain⟨kvs,ha,r1,r2,r3⟩:=Da.ex;have nda:a≠d:=aJ ha hd;have ha1:=s1 _ _ ha;have Db1:=Db.at (s1 b);generalize aL H d (.dK [])=H1 at s1 D1 ha1 Db1 ⊢;refine⟨_,rfl,a,kvs,rfl,ha1,fun o=>?_⟩;have f2:∀c u,H c=some u->c≠a->aL H1 a (.frz o (.dK kvs)) c=some u:=fun c u e nc=>(aG nc).trans (s1 _ _ e)
 have D2:Dk (aL H1 a (.frz o (.dK kvs))) d [] 0:=D1.at fun u e=>(aG nda.symm).trans e
 have Db2:Dk (aL H1 a (.frz o (.dK kvs))) b kb m:=Db1.at fun u e=>(aG nab.symm).trans e
 have ha2:aL H1 a (.frz o (.dK kvs)) a=some (.frz o (.dK kvs)):=aB;generalize aL H1 a (.frz o (.dK kvs))=H2 at f2 D2 Db2 ha2 ⊢;have ndb:d≠b:=by
  obtain⟨q,e,_⟩:=Db.ex;exact(aJ e hd).symm
 refine aP6 (d:=a) (o:=o) (kvs:=kvs) (fun i σ G=>∃v3,σ=[some (.ref a),some (.ref b),some (.ref d),v3]/\(∀c u,H c=some u->c≠a->G c=some u)/\Dk G d ((aL4 (kvs.take i)).filter fun x=>decide (x∈kb)) i/\Dk G b kb m/\G a=some (.frz o (.dK kvs)))
  ⟨_,rfl,f2,D2,Db2,ha2⟩ (by rintro i σ G _ ⟨_,_,_,_,_,e⟩;exact e) ?_ ?_
 ·rintro D' i ky v σ G hv ⟨v3,rfl,f3,D3,Db3,ha3⟩;have hi:=(aq.mp hv).1;obtain⟨x,hx⟩:=r2 _ (bj hv);have hx:ky=Sum.inr x:=hx;subst hx;have en:aL4 (kvs.take (i+1))=aL4 (kvs.take i)++[x]:=by unfold aL4;rw[aY hv,gv];rfl
  obtain⟨ov,g1,g2⟩:=Db3.get x;refine⟨_,rfl,_,rfl,b,ov,rfl,g1,_,rfl,?_⟩;rw[g2,en,im]
  by_cases c:x∈kb
  ·refine bE (ai c) ?_;obtain⟨ob,p1,p2,qq,rfl⟩:=D3.put (by lia) x (.bl true);refine⟨_,rfl,_,rfl,d,_,rfl,p1,_,rfl,fun c u e nc=>?_,?_,Db3.at fun u e=>(aG ndb.symm).trans e,(aG nda).trans ha3⟩
   ·rw[aG (aJ e hd)];exact f3 c u e nc
   ·rw[dk (p:=fun x=>decide (x∈kb)) (ai c)];exact p2
  ·refine aV (by simpa using c) ⟨_,rfl,f3,?_,Db3,ha3⟩;rw[dm (p:=fun x=>decide (x∈kb)) (by simpa using c)]
   simpa using D3.more (iq i)
 ·rintro σ G ⟨v3,rfl,f3,D3,Db3,ha3⟩;refine⟨_,rfl,k d G f3 hd ((D3.ext fun x=>?_).more r3)⟩;rw[cq,fj,fj,aV8,r1 x]
theorem bU7(C_RnA:Cl P w K mg base 2 spRangeA "range_is_amiss"):eF P w K mg base "range_faults" "range_faults" cJ0 3 ["steps"] spRangeF:=by
 refine fF ["steps"] fun H Q nd hr h=>?_
 obtain⟨ls,zs,rs,rfl,SH,k⟩:=h;refine⟨_,(aE (aK (cH ["word","row","number"] [none,none,none] (bW (pv 0)) (fun _ _ _ _=>(cD0 K (n:=3) rfl (aZ (eT 0) (aZ (eT 1) (aZ (eT 2) eY))))) (fun _ _ _ _=>(lW (PW.pt (gM (eG bR (pv 0) aI) (fY (fE (bM C_RnA hr (aM (pv 1))))))))) (fun _ _ _ _=>(aW (aC (pv 2) (aC aD (aM aI)))))))),?_⟩;obtain⟨h1,t1,hR,hc⟩:=SH;have zl:=t1.length;have tl:=dM rs 0;refine⟨_,rfl,ls,rfl,⟨_,bA.of h1⟩,cS (K:=K) (a:=ls) (xs:=zs) (fun i ys σ G=>aO H G/\(∃v1 v2 v3,σ=[v1,v2,v3])/\cV (lM G) ys (((bU 0 rs).take i).filterMap rgF))
  (fC (by lia)) ⟨aO.refl _,⟨_,_,_,rfl⟩,trivial⟩ (by rintro i ys σ G ⟨_,_,e⟩;rw[e.length];exact cj (om _ _) (by rw[dj];lia)) (by rintro i ys σ G _ ⟨e,_⟩;exact bA.of (e _ _ h1)) ?_ ?_⟩
 ·rintro i v ys σ G hv ⟨s2,⟨v1,v2,v3,rfl⟩,tw⟩;obtain⟨s,hs,q,rfl,hq⟩:=gF t1 hv;have hrs:=eI rs 0 hR s (bj hs);rw[bM2 hs];refine⟨q,_,rfl,aQ.of (s2 _ _ hq),rfl,_,_,rfl,_,_,rfl,_,_,rfl,rfl,?_⟩;refine⟨_,rfl,rfl,_,rfl,?_⟩
  by_cases c:s.1="row"
  ·refine bE (by rw[c];exact ai rfl) ⟨_,rfl,s.2.1,rfl,dF.ts (.of s2) _ hrs,_,rfl,?_⟩
   cases ha:s.2.1.ams with
   |true =>
    refine bE rfl ⟨_,rfl,by show 3<=sizeLine;decide,fun t ht=>⟨s2.trans (aA ht _),⟨_,_,_,rfl⟩,cV.append (tw.mono fun _ _ z=>lM.ts (.of (aA ht _)) z) ?_⟩⟩;rw[show rgF s=some ((s.2.2:Int),0) by unfold rgF;rw[br c,br ha]];exact⟨⟨t,rfl,by rw[cT9];exact aB⟩,trivial⟩
   |false =>
    refine aV (by decide) ⟨s2,⟨_,_,_,rfl⟩,?_⟩;rw[show rgF s=none by unfold rgF;rw[br c,ay (by rw[ha];exact bt)]]
    simpa using tw
  ·refine aV (fun z=>c (by have z:=ae z;injection z)) (aV (by decide) ⟨s2,⟨_,_,_,rfl⟩,?_⟩);rw[vM c]
   simpa using tw
 ·rintro ys σ G ⟨s2,_,tw⟩ l hl;rw[zl,cq,kX] at tw;exact k l ys _ (s2.trans (aA hl _)) (s2.free hl) aB (tw.mono fun _ _ z=>lM.ts (.of (aA hl _)) z)
theorem bX3(C_SeN:Cl P w K mg base 1 spSetsN "sets_name")(C_Bth:Cl P w K mg base 1 spBoth "in_both")(C_Ask:Cl P w K mg base 3 spAsked "names_asked")(m_all:mg "all"=none)(m_dict:mg "dict"=none):eF P w K mg base "unknown_faults" "unknown_faults" cO2 4 ["steps"] spUnkF:=by
 refine fF ["steps","faults","known","kept","word","row","number","ahead"] fun H Q nd hr h=>?_
 obtain⟨ls,zs,rs,rfl,SH,k⟩:=h;have hu:=jL hr;refine⟨_,(dJ 1 nd (bJ bX)
  (dJ 2 nd mO
  (dJ 3 nd (bJ bX)
  (aF (wV (bW (pv 0)) (iP rfl (aZ (eT 4 nd) (aZ (eT 5 nd) (aZ (eT 6 nd) eY))))
  (aE (bC (eG bR (pv 4) aI) (aF (mR (bC (pC (fE (sU aV7 m_all PyProof.Rows.boot_all (aM (cH ["name","known"] [none,some 2] (bW (bM C_Ask hr (aM (pv 5)))) (fun _ _ _ _=>(eT 0)) (fun _ _ _ _=>eA) (fun _ _ _ _=>(cA6 (aX3 hu (pv 0) (pv 1))))))))) (aE (bP (dA av de dh bT (pv 1) (aM (aW (aC (pv 6) (aC aD (aM aI)))))))) aS))
  (aF (mR (bC (fE (bM C_SeN hr (aM (pv 5)))) (aE (pdp hu (pv 2) (bL aH (pv 5) aD) yU)) aS))
  (aE (bC (eG bR (bL aH (pv 5) aD) aI) (aE (bP (dA av de dh bT (pv 3) (aM (zJ aB0 m_dict PyProof.Rows.boot_dict (aM (pv 2))))))) aS)))) (aE (bC (eG bR (pv 4) aI) (dJ 7 nd (iT av fq fw iU (pv 3))
  (aF (bP (dA av de dh bT (pv 3) (aM (pv 2))))
  (aE (psz 2 nd (pv 7))))) (aE (bC (eG bR (bL aH (pv 5) aD) aI) (aE (psz 2 nd (bM C_Bth hr (aC (iT av fq fw iU (pv 3)) (aM (pv 2)))))) aS)))))))
  (aE (aK (pv 1))))))),?_⟩
 obtain⟨h1,t1,hR,hc⟩:=SH;have zl:=t1.length;have tl:=dM rs 0;have full:=sL rs 0 [] [] [];refine⟨az _,fun lf hlf=>?_⟩;obtain⟨HA,e0,sA,gA⟩:=nV hlf (.lst []);rw[e0];clear e0;refine fun kd hkd=>?_
 have hkd0:=sA.free hkd;have sB:=sA.trans (aA hkd (.dK []));have gB:=aA hkd (.dK []) _ _ gA;have dB:Dk (aL HA kd (.dK [])) kd [] 0:=Dk.new aB;generalize aL HA kd (.dK [])=HB at sB gB dB ⊢;refine⟨az _,fun lk hlk=>?_⟩;have hlk0:=sB.free hlk;have nfk:lf≠lk:=aJ gB hlk;have sC:=sB.trans (aA hlk (.lst []));have gC:=aA hlk (.lst []) _ _ gB;have dC:=dB.at (aA hlk (.lst []) kd);have kC:aL HB lk (.lst []) lk=some (.lst []):=aB;generalize aL HB lk (.lst [])=HC at sC gC dC kC ⊢;refine⟨_,rfl,ls,rfl,⟨_,bA.of (sC _ _ h1)⟩,dQ (K:=K) (a:=ls) (xs:=zs) (fun i σ G=>∃(kd:Addr) (ads:List Addr) (fz:List V) (F:List Ft) (kn:List Str) (kp:List (List Str)) (v4 v5 v6 v7:Option V),σ=[some (.ref ls),some (.ref lf),some (.ref kd),some (.ref lk),v4,v5,v6,v7]/\aO H G/\G lf=some (.lst fz)/\cV (lM G) fz F/\G lk=some (.lst (ads.reverse.map V.ref))/\(kd::ads).Nodup/\(∀a∈kd::ads,H a=none)/\qD G i (kd::ads) (kn::kp)/\dH gZ ((bU 0 rs).take i) ([],[],[])=some (F,kn,kp))
  ⟨kd,[],[],[],[],[],_,_,_,_,rfl,sC,gC,trivial,kC,by simp,fun a ha=>by rw[List.mem_singleton.mp ha];exact hkd0,⟨dC,trivial⟩,rfl⟩ (by rintro i σ G _ ⟨_,_,_,_,_,_,_,_,_,_,_,e,_⟩;exact bA.of (e _ _ h1)) ?_ ?_⟩
 ·rintro D' N i hN v σ G hv ⟨kd,ads,fz,F,kn,kp,v4,v5,v6,v7,rfl,s3,gf,tF,gk,nd,fr,DL,hrun⟩;obtain⟨s,hs,q,rfl,hq0⟩:=gF t1 hv;have hi:=(aq.mp hs).1;obtain⟨⟨F',kn',kp'⟩,e1,e2⟩:=wP gZ full hs hrun;have kl:=mM (fun st:USt=>st.2.2.length) cI3 _ _ _ hrun;have fl:=mM (fun st:USt=>st.1.length) bW4 _ _ _ hrun;have lF:=tF.length;simp only[List.length_nil,List.length_take] at kl fl;have al:=DL.len;simp only[List.length_cons] at al;have kl:kp.length<=i:=by lia
  have hq:=s3 _ _ hq0;have hrs0:=eI rs 0 hR s (bj hs);have hw:=dF.wd _ hrs0;have hrs:=dF.ts (.of s3) s.2.1 hrs0;refine⟨q,_,rfl,aQ.of hq,rfl,_,_,rfl,_,_,rfl,_,_,rfl,rfl,?_⟩;refine⟨_,rfl,rfl,_,rfl,?_⟩;have dks:=DL.is;have nlk:∀a∈kd::ads,a≠lk:=fun a ha z=>by
   obtain⟨w,e⟩:=dks a ha;rw[z,gk] at e;cases e
  have nlf:∀a∈kd::ads,a≠lf:=fun a ha z=>by
   obtain⟨w,e⟩:=dks a ha;rw[z,gf] at e;cases e
  unfold gZ at e1
  by_cases c:s.1="row"
  ·rw[br c] at e1;refine bE (by rw[c];exact ai rfl) ?_;refine⟨fun σ' G'=>∃fz',σ'=[some (.ref ls),some (.ref lf),some (.ref kd),some (.ref lk),some (.str s.1),some (.ref s.2.1.p),some (.int s.2.2),v7]/\aO H G'/\G' lf=some (.lst fz')/\cV (lM G') fz' (F++unk s.2.2 kn s.2.1.asked)/\G' lk=some (.lst (ads.reverse.map V.ref))/\qD G' i (kd::ads) (kn::kp),?_,?_⟩
   ·refine⟨_,rfl,s.2.1,rfl,hrs,fun rq H4 s4 h4=>⟨rq,rfl,⟨_,bA.of h4⟩,?_⟩⟩;have DL4:=DL.at (af _) fun a _ o e=>s4 _ _ e
    have al':s.2.1.asked.length<=9000000:=aO2 hrs0;refine cS (K:=K) (a:=rq) (xs:=s.2.1.asked.map V.str) (fun j ys σ G'=>G'=H4/\(∃v,σ=[v,some (.ref kd)])/\ys=(s.2.1.asked.take j).map fun y=>V.bl (decide (y∈kn)))
     (fC (by rw[aa];exact al')) ⟨rfl,⟨_,rfl⟩,rfl⟩ (by rintro j ys σ G' ⟨_,_,e⟩;rw[e,aa,dj];lia) (by rintro j ys σ G' _ ⟨e,_⟩;rw[e];exact bA.of h4) ?_ ?_
    ·rintro j v ys σ G' hv ⟨rfl,⟨v',rfl⟩,rfl⟩;obtain⟨y,rfl,hy⟩:=mV hv;obtain⟨ov,g1,g2⟩:=DL4.1.get y;refine⟨_,rfl,_,rfl,kd,ov,rfl,g1,rfl,⟨_,rfl⟩,?_⟩;rw[g2,aY hy,bo];rfl
    rintro ys σ G' ⟨rfl,_,rfl⟩ l5 hl5;rw[aa,cq];have s5:=s4.trans (aA hl5 (.lst (s.2.1.asked.map fun y=>V.bl (decide (y∈kn)))));have h5:aL G' l5 (.lst (s.2.1.asked.map fun y=>V.bl (decide (y∈kn)))) l5=some (.lst ((s.2.1.asked.map fun y=>decide (y∈kn)).map V.bl)):=by rw[aB,mq];rfl
    generalize aL G' l5 (.lst (s.2.1.asked.map fun y=>V.bl (decide (y∈kn))))=G5 at s5 h5 ⊢;refine⟨l5,_,rfl,bA.of h5,_,rfl,?_⟩;have DL5:=DL.at (af _) fun a _ o e=>s5 _ _ e
    have tF5:=tF.mono fun _ _ z=>lM.ts (.of s5) z
    have gf5:=s5 _ _ gf;have gk5:=s5 _ _ gk
    by_cases ca:∀y∈s.2.1.asked,y∈kn
    ·refine aV (by rw[aK0.mpr ca];decide) ⟨fz,rfl,s3.trans s5,gf5,?_,gk5,DL5⟩;unfold unk;rw[br ca,dw];exact tF5
    ·refine bE (by rw[show(s.2.1.asked.map fun y=>decide (y∈kn)).all id=false from Bool.eq_false_iff.mpr fun z=>ca (aK0.mp z)];rfl) ?_;refine⟨_,rfl,.inl ⟨rfl,_,bA.of gf5⟩,_,rfl,by show 3<=sizeLine;decide,fun t ht=>?_⟩;have s6:=aA ht (.tup [.int s.2.2,.int 1,.str "unknown"]);have e6:lM (aL G5 t (.tup [.int s.2.2,.int 1,.str "unknown"])) (.ref t) ((s.2.2:Int),1):=⟨t,rfl,by rw[cT1];exact aB⟩
     have s36:=(s3.trans s5).trans s6;have gf6:=s6 _ _ gf5;have gk6:=s6 _ _ gk5;have DL6:=DL5.at (af _) fun a _ o e=>s6 _ _ e
     have tF6:=tF5.mono fun _ _ z=>lM.ts (.of s6) z
     generalize aL G5 t (.tup [.int s.2.2,.int 1,.str "unknown"])=G6 at s6 e6 s36 gf6 gk6 DL6 tF6 ⊢;refine⟨lf,_,_,rfl,rfl,gf6,fC (by lia),fz++[.ref t],rfl,bI s36 hlf,aB,?_,(aG nfk.symm).trans gk6,DL6.at (af _) fun a ha o e=>(aG (nlf a ha)).trans e⟩;unfold unk;rw[ay ca];exact cV.append (tF6.mono fun _ _ z=>lM.ts (TS.lst gf6) z) ⟨e6.ts (TS.lst gf6),trivial⟩
   rintro σ1 G5 ⟨fz1,rfl,s35,gf5,tF5,gk5,DL5⟩;refine⟨fun σ' G'=>σ'=[some (.ref ls),some (.ref lf),some (.ref kd),some (.ref lk),some (.str s.1),some (.ref s.2.1.p),some (.int s.2.2),v7]/\aO H G'/\G' lf=some (.lst fz1)/\cV (lM G') fz1 (F++unk s.2.2 kn s.2.1.asked)/\G' lk=some (.lst (ads.reverse.map V.ref))/\qD G' (i+1) (kd::ads) ((kn++s.2.1.sets.toList)::kp),?_,?_⟩
   ·refine⟨_,rfl,s.2.1,rfl,dF.ts (.of s35) s.2.1 hrs0,_,rfl,?_⟩
    cases hst:s.2.1.sets with
    |none =>
     refine aV (by simp) ⟨rfl,s35,gf5,tF5,gk5,?_⟩;show qD G5 (i+1) (kd::ads) ((kn++[])::kp);rw[dw];exact DL5.at (iq _) fun a _ o e=>e
    |some x =>
     refine bE rfl ?_;obtain⟨us,hus⟩:=aI5 (dF.ts (.of s35) s.2.1 hrs0) hst;obtain⟨ob,p1,p2,qq,rfl⟩:=DL5.1.put (by lia) x (.bl true);obtain⟨w0,d0⟩:=DL5.is kd ao;refine⟨_,rfl,_,rfl,s.2.1.p,_,_,.str x,rfl,rfl,aQ.of hus,at1,kd,_,rfl,p1,rfl,?_,?_,tF5.mono fun _ _ z=>lM.ts (fun c ys e=>(aG (fQ e d0 (by intro z;cases z))).trans e) z,?_,p2,?_⟩
     ·intro b u e;rw[aG (aJ e (fr kd ao))];exact s35 b u e
     ·rw[aG (nlf kd ao).symm];exact gf5
     ·rw[aG (nlk kd ao).symm];exact gk5
     ·refine qD.at (iq i) DL5.2 fun a ha o e=>?_
      have:a≠kd:=fun z=>(du.mp nd).1 (by rw[<-z];exact ha)
      rw[aG this];exact e
   ·rintro σ' G' ⟨rfl,s6,gf6,tF6,gk6,DL6⟩;refine⟨_,rfl,s.2.1.p,_,_,.str s.2.1.w,rfl,rfl,aQ.of (dF.ts (.of s6) s.2.1 hrs0).at,iV,rfl,_,rfl,?_⟩;unfold tG at e1;rw[bS1 hw]
    cases hb:jY s.2.1 with
    |false =>
     rw[hb] at e1
     cases e1
     exact aV (by decide) (hN _ _ ⟨kd,ads,_,_,_,_,_,_,_,_,rfl,s6,gf6,tF6,gk6,nd,fr,DL6,e2⟩)
    |true =>
     rw[hb] at e1
     cases e1
     refine bE rfl ?_;obtain⟨kvs,z1,z2⟩:=DL6.1.ex;refine⟨_,rfl,.inl ⟨rfl,_,bA.of gk6⟩,_,rfl,kd,kvs,rfl,z1,fun d7 hd7=>?_⟩;have f7:=s6.free hd7;have s7:=aA hd7 (.dK kvs);have D7:Dk (aL G' d7 (.dK kvs)) d7 (kn++s.2.1.sets.toList) (i+1):=⟨kvs,aB,z2⟩
     have n7:d7∉kd::ads:=fun m=>by
      obtain⟨w,e⟩:=DL6.is d7 m;rw[e] at hd7;cases hd7
     have n7k:d7≠lk:=(aJ gk6 hd7).symm;have DL7:=DL6.at (af _) fun a _ o e=>s7 _ _ e
     have gf7:=s7 _ _ gf6;have tF7:=tF6.mono fun _ _ z=>lM.ts (.of s7) z
     have gk7:=s7 _ _ gk6;have s67:=s6.trans s7;generalize aL G' d7 (.dK kvs)=G7 at s7 D7 DL7 gf7 tF7 gk7 s67 ⊢;refine⟨lk,_,_,rfl,rfl,gk7,fC (by rw[aa,fh];lia),?_⟩;refine(hN _ _ ⟨kd,d7::ads,_,_,_,_,_,_,_,_,rfl,bI s67 hlk0,(aG nfk).trans gf7,tF7.mono fun _ _ z=>lM.ts (TS.lst gk7) z,?_,?_,?_,?_,e2⟩)
     ·rw[aB,dr,bo];rfl
     ·rw[du] at nd ⊢;refine⟨fun m=>?_,du.mpr ⟨fun m=>n7 (ak _ m),nd.2⟩⟩;rcases bw.mp m with e|e
      ·exact n7 (by rw[<-e];exact ao)
      ·exact nd.1 e
     ·intro a ha;rcases bw.mp ha with e|e
      ·exact fr a (by rw[e];exact ao)
      ·rcases bw.mp e with e|e
       ·rw[e];exact f7
       ·exact fr a (ak _ e)
     ·refine⟨DL7.1.at fun o e=>(aG (nlk kd ao)).trans e,D7.at fun o e=>(aG n7k).trans e,qD.at (af _) DL7.2 fun a ha o e=>(aG (nlk a (ak _ ha))).trans e⟩
  ·rw[ay c] at e1;refine aV (fun z=>c (by have z:=ae z;injection z)) ?_;refine⟨_,rfl,rfl,_,rfl,?_⟩
   by_cases c2:s.1="else"
   ·rw[br c2] at e1;refine bE (by rw[c2];exact ai rfl) ?_
    cases kp with
    |nil=>cases e1
    |cons a0 r0 =>
    have e1:some (F,a0,kn::r0)=some (F',kn',kp'):=e1;injection e1 with e1
    injection e1 with q0 e1
    injection e1 with q1 q2
    subst q0 q1 q2;obtain⟨ad,bN,rfl,Da,Dr⟩:=DL.2.cons;have er:(ad::bN).reverse.map V.ref=bN.reverse.map V.ref++[V.ref ad]:=by rw[dr,bo];rfl
    rw[er] at gk;refine⟨_,rfl,.inl ⟨rfl,_,bA.of gk⟩,lk,_,V.ref ad,rfl,rfl,gk,by simp,?_⟩;rw[gy];have s4:=bI (ys:=bN.reverse.map V.ref) s3 hlk0;have g4:aL G lk (.lst (bN.reverse.map V.ref)) lk=some (.lst (bN.reverse.map V.ref)):=aB;have gf4:aL G lk (.lst (bN.reverse.map V.ref)) lf=_:=(aG nfk).trans gf;have tF4:=tF.mono fun _ _ z=>lM.ts (TS.lst (ys:=bN.reverse.map V.ref) gk) z
    have DL4:qD (aL G lk (.lst (bN.reverse.map V.ref))) i (kd::ad::bN) (kn::a0::r0):=DL.at (af _) fun a ha o e=>(aG (nlk a ha)).trans e
    generalize aL G lk (.lst (bN.reverse.map V.ref))=G4 at s4 g4 gf4 tF4 DL4 ⊢;refine⟨_,rfl,.inl ⟨rfl,_,bA.of g4⟩,_,rfl,lk,_,_,rfl,rfl,g4,fC (by rw[aa,fh];simp only[List.length_cons] at al kl;lia),?_⟩;refine⟨_,rfl,hN _ _ ⟨ad,kd::bN,_,_,_,_,_,_,_,_,rfl,bI s4 hlk0,(aG nfk).trans gf4,tF4.mono fun _ _ z=>lM.ts (TS.lst g4) z,?_,?_,?_,?_,e2⟩⟩
    ·rw[aB,dr,bo];rfl
    ·exact(List.Perm.swap kd ad bN).nodup_iff.mpr nd |> fun z=>z
    ·intro a ha;refine fr a ?_;rcases bw.mp ha with e|e
     ·rw[e];simp
     ·rcases bw.mp e with e|e
      ·rw[e];simp
      ·simp[e]
    ·have DL5:qD (aL G4 lk (.lst (bN.reverse.map V.ref++[V.ref kd]))) (i+1) (kd::ad::bN) (kn::a0::r0):=DL4.at (iq _) fun a ha o e=>(aG (nlk a ha)).trans e
     exact⟨DL5.2.1,DL5.1,DL5.2.2⟩
   ·rw[ay c2] at e1;refine aV (fun z=>c2 (by have z:=ae z;injection z)) ?_;refine⟨_,rfl,s.2.1.p,_,_,.str s.2.1.w,rfl,rfl,aQ.of hrs.at,iV,rfl,_,rfl,?_⟩;rw[bS1 hw]
    cases hb:jY s.2.1 with
    |false =>
     rw[hb] at e1
     cases e1
     exact aV (by decide) (hN _ _ ⟨kd,ads,_,_,_,_,_,_,_,_,rfl,s3,gf,tF,gk,nd,fr,DL.at (iq _) fun a _ o e=>e,e2⟩)
    |true =>
     rw[hb] at e1;refine bE rfl ?_
     cases kp with
     |nil=>cases e1
     |cons a0 r0 =>
     have e1:some (F,kn.filter (fun x=>decide (x∈a0)),r0)=some (F',kn',kp'):=e1;injection e1 with e1
     injection e1 with q0 e1
     injection e1 with q1 q2
     subst q0 q1 q2;obtain⟨ad,bN,rfl,Da,Dr⟩:=DL.2.cons;have er:(ad::bN).reverse.map V.ref=bN.reverse.map V.ref++[V.ref ad]:=by rw[dr,bo];rfl
     rw[er] at gk;refine⟨_,rfl,.inl ⟨rfl,_,bA.of gk⟩,lk,_,V.ref ad,rfl,rfl,gk,by simp,?_⟩;rw[gy];have s4:=bI (ys:=bN.reverse.map V.ref) s3 hlk0;have g4:aL G lk (.lst (bN.reverse.map V.ref)) lk=some (.lst (bN.reverse.map V.ref)):=aB;have gf4:aL G lk (.lst (bN.reverse.map V.ref)) lf=_:=(aG nfk).trans gf;have tF4:=tF.mono fun _ _ z=>lM.ts (TS.lst (ys:=bN.reverse.map V.ref) gk) z
     have DL4:qD (aL G lk (.lst (bN.reverse.map V.ref))) i (kd::ad::bN) (kn::a0::r0):=DL.at (af _) fun a ha o e=>(aG (nlk a ha)).trans e
     have nka:=nlk ad (by simp);have nfa:=nlf ad (by simp);generalize aL G lk (.lst (bN.reverse.map V.ref))=G4 at s4 g4 gf4 tF4 DL4 ⊢;have nd2:=du.mp nd;have nd3:=du.mp nd2.2;refine⟨_,rfl,ad,kd,a0,kn,i,i,rfl,fun z=>nd2.1 (by rw[<-z];simp),DL4.2.1,DL4.1,by lia,fun d5 H5 f5 fd5 D5=>?_⟩;have n5:∀a∈bN,d5≠a:=fun a ha z=>by
      obtain⟨w,e⟩:=DL4.is a (by simp[ha]);rw[z,e] at fd5;cases fd5
     obtain⟨w0,d0⟩:=DL4.is ad (by simp);refine(hN _ _ ⟨d5,bN,_,_,_,_,_,_,_,_,rfl,fun b u e=>?_,f5 _ _ gf4 nfa.symm,tF4.mono fun _ _ z=>lM.ts (fun c ys e=>f5 _ _ e (fQ e d0 (by intro z;cases z))) z,f5 _ _ g4 nka.symm,?_,fun a ha=>?_,⟨(D5.more (iq _)).ext fun x=>by simp only[List.mem_filter,decide_eq_true_eq];exact And.comm,qD.at (iq _) DL4.2.2 fun a ha o e=>f5 _ _ e fun z=>nd3.1 (by rw[<-z];exact ha)⟩,e2⟩)
     ·exact f5 _ _ (s4 _ _ e) (aJ e (fr ad (by simp)))
     ·exact du.mpr ⟨fun m=>n5 d5 m rfl,nd3.2⟩
     ·rcases bw.mp ha with e|e
      ·rw[e];exact s4.free fd5
      ·exact fr a (by simp[e])
 ·rintro σ G ⟨kd,ads,fz,F,kn,kp,v4,v5,v6,v7,rfl,s3,gf,tF,gk,nd,fr,DL,hrun⟩;rw[zl,cq,full] at hrun
  cases hrun
  exact⟨_,rfl,k lf fz G s3 hlf gf tF⟩
theorem bT4(C_Bgn:Cl P w K mg base 1 spBegins "begins_rows"):eF P w K mg base "tells_faults" "tells_faults" cQ3 4 ["steps"] spTelF:=by
 refine fF ["steps","faults","counts","word","row","number","inner","other"] fun H Q nd hr h=>?_
 obtain⟨ls,zs,rs,rfl,SH,hT,_,k⟩:=h;refine⟨_,(dJ 1 nd (bJ bX)
  (dJ 2 nd (bJ (aM aD))
  (aF (wV (bW (pv 0)) (iP rfl (aZ (eT 3 nd) (aZ (eT 4 nd) (aZ (eT 5 nd) eY))))
  (aE (bC (fE (bM C_Bgn hr (aC (pv 3) (aM (pv 4))))) (aE (bP (dA av de dh bT (pv 2) (aM aD)))) (aE (bC (eG bR (bL aH (pv 4) aD) aI) (aE (vE (pv 2) pJ rK aD uV sD)) (aE (bC (PW.pt (gM (eG bR (pv 3) aI) (fY (eG bR (bL aH (pv 4) aD) aI)))) (dJ 6 nd (iT av fq fw iU (pv 2))
  (aE (vE (pv 2) pJ rK (aN fW (bL aH (pv 4) aD) (pv 6)) uV sD))) (aE (bC (eG bR (pv 3) aI) (dJ 7 nd (iT av fq fw iU (pv 2))
  (dJ 6 nd (iT av fq fw iU (pv 2))
  (aF (vE (pv 2) pJ rK (pv 6) uV sD)
  (aE (bC (eG bR8 (pv 6) (pv 7)) (aE (bP (dA av de dh bT (pv 1) (aM (aW (aC (pv 5) (aC aD (aM aI)))))))) aS))))) aS)))))))))
  (aE (aK (pv 1)))))),?_⟩
 obtain⟨h1,t1,hR,hc⟩:=SH;have zl:=t1.length;have tl:=dM rs 0;have full:=rD rs 0 [] 0 [] (aP.wd rs hR);refine⟨az _,fun lf hlf=>?_⟩;obtain⟨HA,e0,sA,gA⟩:=nV hlf (.lst []);rw[e0];clear e0;refine⟨lK,fun lc hlc=>?_⟩;have hlc0:=sA.free hlc;have nfc:lf≠lc:=aJ gA hlc;have sB:=sA.trans (aA hlc (.lst [.int 0]));have gB:=aA hlc (.lst [.int 0]) _ _ gA;have cB:aL HA lc (.lst [.int 0]) lc=some (.lst (([0]:List Int).reverse.map V.int)):=aB;generalize aL HA lc (.lst [.int 0])=HB at sB gB cB ⊢;refine⟨_,rfl,ls,rfl,⟨_,bA.of (sB _ _ h1)⟩,dQ (K:=K) (a:=ls) (xs:=zs) (fun i σ G=>∃(fz:List V) (F:List Ft) (st:List Int) (v3 v4 v5 v6 v7:Option V),σ=[some (.ref ls),some (.ref lf),some (.ref lc),v3,v4,v5,v6,v7]/\aO H G/\G lf=some (.lst fz)/\cV (lM G) fz F/\G lc=some (.lst (st.reverse.map V.int))/\dH gD ((bU 0 rs).take i) ([],[0])=some (F,st))
  ⟨[],[],[0],_,_,_,_,_,rfl,sB,gB,trivial,cB,rfl⟩ (by rintro i σ G _ ⟨_,_,_,_,_,_,_,_,_,e,_⟩;exact bA.of (e _ _ h1)) ?_ ?_⟩
 ·rintro D' N i hN v σ G hv ⟨fz,F,st,v3,v4,v5,v6,v7,rfl,s3,gf,tF,gc,hrun⟩;obtain⟨s,hs,q,rfl,hq0⟩:=gF t1 hv;have hi:=(aq.mp hs).1;obtain⟨⟨F',st'⟩,e1,e2⟩:=wP gD full hs hrun;have sl:=mM (fun st:TSt=>st.2.length) cQ5 _ _ _ hrun;have fl:=mM (fun st:TSt=>st.1.length) cG1 _ _ _ hrun;have lF:=tF.length;simp only[List.length_nil,List.length_cons,List.length_take] at sl fl;have hT0:=kM rs 0 hT s (bj hs);have hrs0:=eI rs 0 hR s (bj hs);have hw:=dF.wd _ hrs0;refine⟨q,_,rfl,aQ.of (s3 _ _ hq0),rfl,_,_,rfl,_,_,rfl,_,_,rfl,rfl,?_⟩;refine⟨_,rfl,_,rfl,s,rfl,dF.ts (.of s3) s.2.1 hrs0,fun G1 s4=>⟨_,rfl,?_⟩⟩;have s5:=s3.trans s4;have gf1:=s4 _ _ gf;have gc1:=s4 _ _ gc;have tF1:=tF.mono fun _ _ z=>lM.ts (.of s4) z
  have hrs:=dF.ts (.of s5) s.2.1 hrs0;have sz:(st.reverse.map V.int).length<sizeLine:=by rw[aa,fh];exact fC (by lia)
  unfold gD at e1
  by_cases c1:eN s=true
  ·rw[br c1] at e1
   cases e1
   refine bE c1 ⟨_,rfl,.inl ⟨rfl,_,bA.of gc1⟩,lc,_,_,rfl,rfl,gc1,sz,?_⟩;refine(hN _ _ ⟨fz,F,0::st,_,_,_,_,_,rfl,bI s5 hlc0,(aG nfc).trans gf1,tF1.mono fun _ _ z=>lM.ts (TS.lst gc1) z,?_,e2⟩);rw[aB,dr,bo];rfl
  rw[ay c1] at e1;refine aV c1 ?_;refine⟨_,rfl,s.2.1.p,_,_,.str s.2.1.w,rfl,rfl,aQ.of hrs.at,iV,rfl,_,rfl,?_⟩;rw[cN5 hw]
  by_cases c2:qO s.2.1=true
  ·rw[br c2] at e1;refine bE c2 ?_
   cases st with
   |nil=>cases e1
   |cons c0 r0 =>
   cases e1
   have er:(c0::r0).reverse.map V.int=r0.reverse.map V.int++[V.int c0]:=by rw[dr,bo];rfl
   rw[er] at gc1;refine⟨_,rfl,lc,_,_,rfl,rfl,bA.of gc1,_,_,rfl,rfl,lc,_,_,rfl,rfl,gc1,?_⟩;refine(hN _ _ ⟨fz,F,(c0+1)::r0,_,_,_,_,_,rfl,bI s5 hlc0,(aG nfc).trans gf1,tF1.mono fun _ _ z=>lM.ts (TS.lst gc1) z,?_,e2⟩);rw[aB,dr,bo];rfl
  rw[ay c2] at e1;refine aV c2 ?_;refine⟨_,rfl,rfl,_,rfl,?_⟩
  by_cases c3:s.1="end"
  ·rw[br c3] at e1;refine bE (by rw[c3];exact ai rfl) ?_;refine⟨_,rfl,s.2.1.p,_,_,.str s.2.1.w,rfl,rfl,aQ.of hrs.at,iV,rfl,_,rfl,?_⟩;obtain⟨w0,r,n⟩:=s;have c3:w0="end":=c3;subst c3;have e1:xT r n (F,st)=some (F',st'):=e1;have hT0:aK4 r:=hT0;have hrs:dF G1 r:=hrs;generalize hP:(("end": Str),r,n).2.1.p=P
   cases r with
   |times p pb m b =>
    obtain rfl:p=P:=hP;refine bE (ai rfl) ?_
    match st,e1,gc1,sl,e2 with
    |i0::c0::r0,e1,gc1,sl,e2 =>
    have e1:some (F,(c0+m*i0)::r0)=some (F',st'):=e1;have bd:0<=m/\m<=9:=⟨hT0.1,hT0.2.1⟩
    ·cases e1
     have er:(i0::c0::r0).reverse.map V.int=(r0.reverse.map V.int++[V.int c0])++[V.int i0]:=by simp
     rw[er] at gc1;refine⟨_,rfl,.inl ⟨rfl,_,bA.of gc1⟩,lc,_,.int i0,rfl,rfl,gc1,by simp,?_⟩;rw[gy];have s6:=bI (ys:=r0.reverse.map V.int++[V.int c0]) s5 hlc0;have g6:aL G1 lc (.lst (r0.reverse.map V.int++[V.int c0])) lc=some (.lst (r0.reverse.map V.int++[V.int c0])):=aB;have gf6:aL G1 lc (.lst (r0.reverse.map V.int++[V.int c0])) lf=_:=(aG nfc).trans gf1;have h6:=TS.lst (ys:=r0.reverse.map V.int++[V.int c0]) gc1 _ _ hrs.1;have tF6:=tF1.mono fun _ _ z=>lM.ts (TS.lst (ys:=r0.reverse.map V.int++[V.int c0]) gc1) z
     generalize aL G1 lc (.lst (r0.reverse.map V.int++[V.int c0]))=G6 at s6 g6 gf6 h6 tF6 ⊢;refine⟨_,rfl,lc,_,_,rfl,rfl,bA.of g6,_,rfl,p,_,_,.int m,rfl,rfl,aQ.of h6,rfl,_,rfl,_,_,rfl,rfl,.inl ⟨by lia,by lia⟩,_,_,rfl,rfl,lc,_,_,rfl,rfl,g6,?_⟩;refine(hN _ _ ⟨fz,F,(c0+m*i0)::r0,_,_,_,_,_,rfl,bI s6 hlc0,(aG nfc).trans gf6,tF6.mono fun _ _ z=>lM.ts (TS.lst g6) z,?_,e2⟩);rw[aB,dr,bo];rfl
   |when p pa pb t a b =>
    obtain rfl:p=P:=hP;refine aV (fun z=>wWT (ae z)) ?_;refine⟨_,rfl,rfl,_,rfl,?_⟩;refine bE (ai rfl) ?_
    match st,e1,gc1,sl,e2 with
    |o0::i0::c0::r0,e1,gc1,sl,e2 =>
    have e1:some (F++(if i0=o0 then [] else [((n:Int),2)]),(c0+i0)::r0)=some (F',st'):=e1;injection e1 with e1
    injection e1 with q1 q2
    subst q1 q2;have er:(o0::i0::c0::r0).reverse.map V.int=((r0.reverse.map V.int++[V.int c0])++[V.int i0])++[V.int o0]:=by simp
    rw[er] at gc1;refine⟨_,rfl,.inl ⟨rfl,_,bA.of gc1⟩,lc,_,.int o0,rfl,rfl,gc1,by simp,?_⟩;rw[gy];have s6:=bI (ys:=r0.reverse.map V.int++[V.int c0]++[V.int i0]) s5 hlc0;have g6:aL G1 lc (.lst (r0.reverse.map V.int++[V.int c0]++[V.int i0])) lc=some (.lst (r0.reverse.map V.int++[V.int c0]++[V.int i0])):=aB;have gf6:aL G1 lc (.lst (r0.reverse.map V.int++[V.int c0]++[V.int i0])) lf=_:=(aG nfc).trans gf1;have tF6:=tF1.mono fun _ _ z=>lM.ts (TS.lst (ys:=r0.reverse.map V.int++[V.int c0]++[V.int i0]) gc1) z
    generalize aL G1 lc (.lst (r0.reverse.map V.int++[V.int c0]++[V.int i0]))=G6 at s6 g6 gf6 tF6 ⊢;refine⟨_,rfl,.inl ⟨rfl,_,bA.of g6⟩,lc,_,.int i0,rfl,rfl,g6,by simp,?_⟩;rw[gy];have s7:=bI (ys:=r0.reverse.map V.int++[V.int c0]) s6 hlc0;have g7:aL G6 lc (.lst (r0.reverse.map V.int++[V.int c0])) lc=some (.lst (r0.reverse.map V.int++[V.int c0])):=aB;have gf7:aL G6 lc (.lst (r0.reverse.map V.int++[V.int c0])) lf=_:=(aG nfc).trans gf6;have tF7:=tF6.mono fun _ _ z=>lM.ts (TS.lst (ys:=r0.reverse.map V.int++[V.int c0]) g6) z
    generalize aL G6 lc (.lst (r0.reverse.map V.int++[V.int c0]))=G7 at s7 g7 gf7 tF7 ⊢;refine⟨_,rfl,lc,_,_,rfl,rfl,bA.of g7,_,rfl,_,_,rfl,rfl,lc,_,_,rfl,rfl,g7,?_⟩;have g8:aL G7 lc (.lst (r0.reverse.map V.int++[V.int (c0+i0)])) lc=some (.lst (((c0+i0)::r0).reverse.map V.int)):=by rw[aB,dr,bo];rfl
    have s8:=bI (ys:=r0.reverse.map V.int++[V.int (c0+i0)]) s7 hlc0;have gf8:aL G7 lc (.lst (r0.reverse.map V.int++[V.int (c0+i0)])) lf=_:=(aG nfc).trans gf7;have tF8:=tF7.mono fun _ _ z=>lM.ts (TS.lst (ys:=r0.reverse.map V.int++[V.int (c0+i0)]) g7) z
    generalize aL G7 lc (.lst (r0.reverse.map V.int++[V.int (c0+i0)]))=G8 at s8 g8 gf8 tF8 ⊢;refine⟨_,rfl,_,rfl,rfl,_,rfl,?_⟩
    by_cases bd:i0=o0
    ·refine aV (by simp[bd]) ?_;rw[br bd,dw] at e2;exact(hN _ _ ⟨fz,F,_,_,_,_,_,_,rfl,s8,gf8,tF8,g8,e2⟩)
    ·refine bE (by simp[bd]) ?_;rw[ay bd] at e2;refine⟨_,rfl,.inl ⟨rfl,_,bA.of gf8⟩,_,rfl,by show 3<=sizeLine;decide,fun tt htt=>?_⟩;have s9:=aA htt (.tup [.int n,.int 2,.str "tells"]);have e9:lM (aL G8 tt (.tup [.int n,.int 2,.str "tells"])) (.ref tt) ((n:Int),2):=⟨tt,rfl,by rw[cS2];exact aB⟩
     have s89:=s8.trans s9;have gf9:=s9 _ _ gf8;have g9:=s9 _ _ g8;have tF9:=tF8.mono fun _ _ z=>lM.ts (.of s9) z
     generalize aL G8 tt (.tup [.int n,.int 2,.str "tells"])=G9 at s9 e9 s89 gf9 g9 tF9 ⊢;refine⟨lf,_,_,rfl,rfl,gf9,fC (by lia),hN _ _ ⟨fz++[.ref tt],_,_,_,_,_,_,_,rfl,bI s89 hlf,aB,?_,(aG nfc.symm).trans g9,e2⟩⟩;exact cV.append (tF9.mono fun _ _ z=>lM.ts (TS.lst gf9) z) ⟨e9.ts (TS.lst gf9),trivial⟩
   |thr p w x vs am=>cases e1
   |lt p x t=>cases e1
   |tell p t=>cases e1
  ·rw[ay c3] at e1
   cases e1
   refine aV (fun z=>c3 (by have z:=ae z;injection z)) ?_;refine aV (by decide) ?_;refine⟨_,rfl,rfl,_,rfl,?_⟩;refine aV (fun z=>c3 (by have z:=ae z;injection z)) ?_;exact(hN _ _ ⟨_,_,_,_,_,_,_,_,rfl,s5,gf1,tF1,gc1,e2⟩)
 ·rintro σ G ⟨fz,F,st,v3,v4,v5,v6,v7,rfl,s3,gf,tF,gc,hrun⟩;rw[zl,cq,full] at hrun
  cases hrun
  exact⟨_,rfl,k lf fz G s3 hlf gf tF⟩
theorem bZ6{tM:Tok}(m_MOST_KINDS:mg "MOST_KINDS"=some (.int 3 tM))(m_len:mg "len"=none)(m_set:mg "set"=none):eF P w K mg base "look_at_kinds" "look_at_kinds" cP6 2 ["kinds"] spKindsL:=by
 refine fF ["kinds"] fun H Q nd hr h=>?_
 obtain⟨p,ks,rfl,hp,k1,k3,nd,k⟩:=h;have hr1:dI 1 _:=hr.mono (by decide);refine⟨_,(aF (bC (pC (aV4 xQ xQ aD (sU bO m_len fk (aM (pv 0))) (aI4 (v:= .int 3) (by rfl) m_MOST_KINDS ⟨_,rfl⟩))) fS aS)
  (aE (bC (eG rE (sU (aM3 P w) m_len fk (aM (zJ (aP4 P w hr1) m_set PyProof.Rows.boot_set (aM (pv 0))))) (sU bO m_len fk (aM (pv 0)))) fS aS))),?_⟩
 refine⟨_,rfl,p,_,rfl,.inr (aQ.of hp),_,_,rfl,rfl,_,rfl,bE (by rw[aa];simp only[decide_eq_true_eq];lia) ⟨_,_,rfl,rfl,_,rfl,aV (by rw[aa,ai (by lia)];decide) ?_⟩⟩;have em:ks.map V.str=(ks.map fun x=>(Sum.inr x:Key)).map kV:=by rw[mq];rfl
 refine⟨_,rfl,p,ks.map (fun x=>(Sum.inr x:Key)),rfl,by rw[<-em];exact aQ.of hp,by rw[aa];lia,fun a ha=>?_⟩;have s1:=aA ha (xB P w a (ks.map fun x=>(Sum.inr x:Key)));refine⟨a,_,rfl,aB,_,rfl,p,_,rfl,.inr (aQ.of (s1 _ _ hp)),_,_,rfl,rfl,_,rfl,aV ?_ (k _ s1)⟩;rw[aZ0 (aD9 nd),aa,aa];simp
theorem cC5(C_Lkk:Cl P w K mg base 2 spKindsL "look_at_kinds")(C_Sts:Cl P w K mg base 3 spSteps "steps_of")(C_TlF:Cl P w K mg base 4 spTelF "tells_faults")(C_RnF:Cl P w K mg base 3 spRangeF "range_faults")(C_UnF:Cl P w K mg base 4 spUnkF "unknown_faults")(m_min:mg "min"=none)(m_any:mg "any"=none):eF P w K mg base "look" "look" cQ4 5 ["program"] spLookL:=by
 refine fF ["program","steps","faults","fault"] fun H Q nd hr h=>?_
 obtain⟨p,ks,rs,m,rfl,P0,ndk,k⟩:=h;refine⟨_,(aF (bP (bM C_Lkk hr (aM (bL aH (pv 0) aD))))
  (dJ 1 nd (bM C_Sts hr (aM (bL aH (pv 0) aD)))
  (dJ 2 nd (aN gN (aN gN (bM C_RnF hr (aM (pv 1))) (bM C_UnF hr (aM (pv 1)))) (bM C_TlF hr (aM (pv 1))))
  (aF (bC (iW (pv 2) (fun _=>rfl)) fS aS)
  (aF (bC (pC (fE (sU aW9 m_any PyProof.Rows.boot_any (aM (cH ["step"] [none] (bW (pv 1)) (fun _ _ _ _=>(eT 0)) (fun _ _ _ _=>eA) (fun _ _ _ _=>(uX bR (bL (sQ K) (bL (sQ K) (pv 0) aD) aD) aI))))))) fS aS)
  (aE (aK yU))))))),?_⟩
 obtain⟨pk,pr,hp,hk,hpr⟩:=P0.ex;have tl:=dM rs 0;have m4:=P0.m4;obtain⟨k2,hsc⟩:=P0.sc;have c4:bS rs<=4000:=by have:=P0.cnt;lia
 have c0:=P0.cnt;refine⟨_,rfl,p,_,_,.ref pk,rfl,rfl,aQ.of hp,rfl,pk,ks,rfl,hk,P0.k1,P0.k3,ndk,fun H1 s1=>?_⟩;refine⟨_,rfl,p,_,_,.ref pr,rfl,rfl,aQ.of (s1 _ _ hp),rfl,pr,rs,rfl,s1 _ _ hpr,aP.ts (.of s1) rs P0.rows,c4,fun ls zs H2 s2 _ h2 t2=>?_⟩;have SH:lY H2 ls zs rs:=⟨h2,t2,aP.ts (.of (s1.trans s2)) rs P0.rows,c4⟩
 have zl:=t2.length;refine⟨_,rfl,ls,zs,rs,rfl,SH,fun r3 u3 H3 s3 _ h3 w3=>?_⟩;rw[iI.rf 0 hsc] at w3;obtain rfl:=wF w3;refine⟨_,rfl,ls,zs,rs,rfl,SH.same s3,fun r4 u4 H4 s4 _ h4 w4=>?_⟩;rw[(iI.uf 0 [] hsc fun y hy=>absurd hy bc).1] at w4;obtain rfl:=wF w4;refine⟨r3,r4,_,_,rfl,rfl,s4 _ _ h3,h4,az _,fun l5 hl5=>?_⟩;have s5:=s4.trans (aA hl5 (.lst ([]++[])));have h5:aL H4 l5 (.lst ([]++[])) l5=some (.lst []):=aB;generalize aL H4 l5 (.lst ([]++[]))=H5 at s5 h5 ⊢;refine⟨_,rfl,ls,zs,rs,rfl,(SH.same s3).same s5,P0.tk.tim,cj P0.dp (by decide),fun r6 u6 H6 s6 _ h6 w6=>?_⟩;rw[cD.tf 0 P0.tk] at w6;obtain rfl:=wF w6;refine⟨l5,r6,_,_,rfl,rfl,s6 _ _ h5,h6,az _,fun l7 hl7=>?_⟩;have s7:=s3.trans (s5.trans (s6.trans (aA hl7 (.lst ([]++[])))));have h7:aL H6 l7 (.lst ([]++[])) l7=some (.lst []):=aB;generalize aL H6 l7 (.lst ([]++[]))=H7 at s7 h7 ⊢;refine⟨_,rfl,_,.inl ⟨_,bA.of h7,rfl⟩,aV (by decide) ?_⟩
 obtain⟨h8,t8,hR8,_⟩:=SH.same s7;refine⟨_,rfl,ls,rfl,⟨_,bA.of h8⟩,cS (K:=K) (a:=ls) (xs:=zs) (fun i ys σ G=>G=H7/\(∃v,σ=[v])/\ys=(((bU 0 rs).take i).map fun s:Stp=>decide (s.2.1.w="tell")).map V.bl)
  (fC (by lia)) ⟨rfl,⟨_,rfl⟩,rfl⟩ (by rintro i ys σ G ⟨_,_,e⟩;rw[e,aa,aa,dj];lia) (by rintro i ys σ G _ ⟨e,_⟩;rw[e];exact bA.of h8) ?_ ?_⟩
 ·rintro i v ys σ G hv ⟨rfl,⟨v',rfl⟩,rfl⟩;obtain⟨s,hs,q,rfl,hq⟩:=gF t8 hv;have hrs:=eI rs 0 hR8 s (bj hs);refine⟨_,rfl,q,_,_,.ref s.2.1.p,rfl,rfl,aQ.of hq,rfl,s.2.1.p,_,_,.str s.2.1.w,rfl,rfl,aQ.of hrs.at,iV,rfl,rfl,⟨_,rfl⟩,?_⟩;rw[aY hs,bo,bo];rw[show decide (V.str s.2.1.w=V.str "tell")=decide (s.2.1.w="tell") from by simp];rfl
 rintro ys σ G ⟨rfl,_,rfl⟩ l9 hl9;rw[zl,cq];refine⟨l9,_,rfl,bA.of aB,_,rfl,?_⟩;refine aV ?_ (k _ (s1.trans (s2.trans (s7.trans (aA hl9 _)))));obtain⟨s,ms,es⟩:=aN1 (rs:=rs) (P0.t1);have:(((bU 0 rs).map fun s:Stp=>decide (s.2.1.w="tell")).any id)=true:=by
  rw[List.any_map,my];exact⟨s,ms,ai es⟩
 rw[this]
 decide
theorem bP5  : eF P w K mg base "_law_lowest" "_law_lowest" bQ7 1 ["_law_top","_law_bottom"] spLow:=by
 refine fF ["_law_top","_law_bottom","_law_one","_law_other"] fun H Q nd hr h=>?_
 obtain⟨a,b,rfl,ha,hb,hz,k⟩:=h;refine⟨_,(aF (aS4 (i:=2) (j:=3) rfl nd rfl rfl (by decide) rfl rfl (aC (pv 0) (aM (pv 1))) rfl)
  (aF (hJ jg (eG jJ (pv 3) aD)
  (aE (aS4 (i:=2) (j:=3) rfl nd rfl rfl (by decide) rfl rfl (aC (pv 3) (aM (aN iE (pv 2) (pv 3)))) rfl)))
  (aE (aK (aW (aC (aN xP (pv 0) (pv 2)) (aM (aN xP (pv 1) (pv 2))))))))),?_⟩
 have g0:0<gI a b:=vI hb;have g1:gI a b<2^200*2^200:=Int.lt_of_le_of_lt (bS6 hb) hz;refine⟨_,rfl,_,rfl,_,_,rfl,?_⟩;refine⟨fun j σ H1=>H1=H/\∃(x y:Int),σ=[some (.int a),some (.int b),some (.int x),some (.int y)]/\0<=x/\0<=y/\gI x y=gI a b/\j=y.toNat,⟨_,rfl,a,b,rfl,ha,by lia,rfl,rfl⟩,?_⟩;rintro j σ H1 ⟨rfl,x,y,rfl,hx,hy,hg,rfl⟩;refine⟨_,rfl,_,_,rfl,rfl,_,rfl,?_⟩;refine oE (fun c=>?_) (fun c=>?_)
 ·have yp:0<y:=ae c;refine⟨fun σ' H'=>H'=H1/\σ'=[some (.int a),some (.int b),some (.int y),some (.int (x % y))],fun σ' H' ⟨e1,e2⟩=>⟨(x % y).toNat,?_,e1,y,x % y,e2,hy,jp _ (by lia),(wZ hx yp).trans hg,rfl⟩,?_⟩
  ·have:=jw x yp;have:=jp x (show y≠0 by lia);lia
  ·exact⟨_,rfl,_,rfl,_,rfl,_,_,rfl,rfl,yp,_,_,rfl,rfl,rfl⟩
 ·have y0:y=0:=by
   have:¬0<y:=fun z=>c (ai z)
   lia
  subst y0;rw[aI9 hx] at hg;subst hg;exact⟨_,rfl,_,rfl,_,_,rfl,rfl,⟨g0,g1⟩,_,rfl,_,rfl,_,_,rfl,rfl,⟨g0,g1⟩,dE,fun p hp=>k p hp⟩
theorem bB7(C_LLow:Cl P w K mg base 1 spLow "_law_lowest")(C_Draw:Cl P w K mg base 1 spDraw "_law_draw"):eF P w K mg base "_law_steepness" "_law_steepness" aS8 2 ["_law_deal_here","_law_most"] spStpE:=by
 refine fF ["_law_deal_here","_law_most","_law_q"] fun H Q nd hr h=>?_
 obtain⟨d,l,m,rfl,D,hm,k⟩:=h;refine⟨_,(dJ 2 nd (aN cL aD (bM C_Draw hr (aC (pv 0) (aM aD))))
  (aE (aK (bM C_LLow hr (aC (aN cL aD (bM C_Draw hr (aC (pv 0) (aM (bL eJ (bJ (aC (aN gL (pv 2) aD) (aM (aN sR (pv 2) aD)))) (aN gL (pv 1) aD)))))) (aM (pv 2))))))),?_⟩
 refine⟨_,rfl,d,l,8,rfl,D,by decide,by decide,fun x H1 x0 x1 D1 o1=>⟨_,_,rfl,rfl,?_⟩⟩;refine⟨_,rfl,_,rfl,_,_,rfl,rfl,_,rfl,_,_,rfl,rfl,⟨by decide,by decide⟩,dE,fun p hp=>?_⟩;refine⟨_,rfl,_,_,rfl,rfl,?_⟩;obtain⟨v,hv,v0,v1,vx,v2⟩:∃v:Int,mE [V.int (2+x-1),V.int ((2+x) / 2)] (m-1)=some (.int v)/\0<v/\v<=8/\v<=x+1/\(m=2->2*v<=2+x):=by
  rcases hm with rfl|rfl
  ·exact⟨2+x-1,rfl,by lia,by lia,by lia,fun z=>absurd z (by decide)⟩
  ·exact⟨(2+x) / 2,rfl,by lia,by lia,by lia,fun _=>by lia⟩
 refine⟨p,_,_,_,rfl,rfl,bA.of aB,hv,?_⟩;refine⟨d,l,v,rfl,D1.same (aA hp _),v0,by lia,fun y H2 y0 y1 D2 o2=>⟨_,_,rfl,rfl,?_⟩⟩;refine⟨_,rfl,1+y,2+x,rfl,by lia,by lia,uh (show 2+x<16 by lia) (by decide),fun r hr'=>?_⟩;obtain⟨c1,c2⟩:=bL6 (x:=x) (y:=y) (by lia) (by lia) (by lia) (by lia);exact k r _ _ _ (D2.same (aA hr' _)) (o1.trans ((fH.of (aA hp _)).trans (o2.trans (fH.of (aA hr' _))))) aB c1 (fun z=>c2 (by have:=v2 z;lia))
theorem aT1(C_Draw:Cl P w K mg base 1 spDraw "_law_draw")(m_tuple:mg "tuple"=none)(m_range:mg "range"=none):eF P w K mg base "_law_sum" "_law_sum" bD1 2 ["_law_deal_here","_law_many"] spSumE:=by
 refine fF ["_law_deal_here","_law_many"] fun H Q nd hr h=>?_
 obtain⟨d,l,m,rfl,D,m0,m3,k⟩:=h;refine⟨_,(aE (aK (zJ bV m_tuple eh (aM (cH ["_law_k","_law_deal_here"] [none,some 0] (dL (by rfl) m_range (aM (pv 1))) (fun _ _ _ _=>(eT 0)) (fun _ _ _ _=>eA) (fun _ _ _ _=>(bM C_Draw hr (aC (pv 1) (aM aD))))))))),?_⟩;refine⟨_,rfl,m,rfl,by lia,by lia,fU (n:=m.toNat) (fun i ys σ G=>dR G d l/\fH d l H G/\(∃v,σ=[v,some (.ref d)])/\∃ws:List Int,ys=ws.map V.int/\ws.length=i/\∀y∈ws,0<=y/\y<=3) (aR (by lia)) ⟨D,fH.refl _,⟨_,rfl⟩,[],rfl,rfl,fun _ z=>nomatch z⟩ (by rintro i ys σ G ⟨_,_,_,ws,e,hl,_⟩;rw[e,aa];lia) ?_ ?_⟩
 ·rintro i ys σ G hi ⟨D1,o1,⟨v,rfl⟩,ws,rfl,hl,hb⟩;refine⟨_,rfl,d,l,4,rfl,D1,by decide,by decide,fun x H3 x0 x1 D3 o3=>⟨D3,o1.trans o3,⟨_,rfl⟩,ws++[x],by rw[bo];rfl,by rw[ap,hl];rfl,fun y hy=>?_⟩⟩;rcases bu.mp hy with z|z
  ·exact hb y z
  ·rw[au.mp z];lia
 ·rintro ys σ G ⟨D1,o1,_,ws,rfl,hl,hb⟩ p hp;exact⟨p,_,rfl,.inl ⟨bA.of aB,fun u hu'=>k u ws _ (D1.same ((aA hp _).trans (aA hu' _))) (o1.trans (fH.of ((aA hp _).trans (aA hu' _)))) aB hl hb⟩⟩
theorem aS7(C_Draw:Cl P w K mg base 1 spDraw "_law_draw")(C_Stp46:Cl P w K mg base 2 spStpE "_law_steepness")(C_Sum46:Cl P w K mg base 2 spSumE "_law_sum")(m_tuple:mg "tuple"=none)(m_max:mg "max"=none)(m_range:mg "range"=none):eF P w K mg base "_law_throw" "_law_throw" aR8 3 ["_law_deal_here","_law_scene","_law_x"] spThrE:=by
 refine fF ["_law_deal_here","_law_scene","_law_x","_law_form","_law_many","_law_low","_law_high","_law_sums","_law_mark"] fun H Q nd hr h=>?_
 obtain⟨d,l,sc,nl,kd,wd,rm,bb,xs,x,rfl,W,k⟩:=h;have hu:=jL hr;refine⟨_,(dJ 3 nd (bM C_Draw hr (aC (pv 0) (aM aD)))
  (dJ 4 nd (zU hu (pv 1) aI)
  (dJ 5 nd (bM C_Draw hr (aC (pv 0) (aM (zU hu (pv 1) aI))))
  (dJ 6 nd (aN cL (pv 5) (bM C_Draw hr (aC (pv 0) (aM (aN cL (zU hu (pv 1) aI) aD)))))
  (aF (bC (eG rE (pv 3) aD) (aE (aK (aW (aC aI (aC (pv 2) (aC (bM C_Sum46 hr (aC (pv 0) (aM (pv 4)))) (aC (bM C_Stp46 hr (aC (pv 0) (aM aD))) (aC (pv 5) (aM (pv 6)))))))))) aS)
  (aF (bC (eG bR (pv 3) aD) (aE (aK (aW (aC aI (aC (pv 2) (aC (bM C_Sum46 hr (aC (pv 0) (aM (pv 4)))) (aC (bM C_Draw hr (aC (pv 0) (aM aD))) (aC (pv 5) (aM (pv 6)))))))))) aS)
  (dJ 7 nd (zJ bV m_tuple eh (aM (cH ["_law_k","_law_deal_here","_law_many"] [none,some 0,some 4] (dL (by rfl) m_range (aM (aN cL aD (bM C_Draw hr (aC (pv 0) (aM aD)))))) (fun _ _ _ _=>(eT 0)) (fun _ _ _ _=>eA) (fun _ _ _ _=>(bM C_Sum46 hr (aC (pv 1) (aM (pv 2))))))))
  (aF (bC (eG rE (pv 3) aD) (aE (aK (aW (aC aI (aC (pv 2) (aC (pv 7) (aC (bM C_Stp46 hr (aC (pv 0) (aM aD))) (aC (pv 5) (aM (pv 6)))))))))) aS)
  (dJ 6 nd (sU (uQ rfl) m_max qh (aC (pv 6) (aM (aN cL (pv 5) aD))))
  (dJ 8 nd (aN cL (pv 5) (bM C_Draw hr (aC (pv 0) (aM (aN cL (aN gL (pv 6) (pv 5)) aD)))))
  (aE (aK (aW (aC aI (aC (pv 2) (aC (pv 8) (aC (bM C_Stp46 hr (aC (pv 0) (aM aD))) (aC (bM C_Stp46 hr (aC (pv 0) (aM aD))) (aC (pv 7) (aC (pv 5) (aM (pv 6)))))))))))))))))))))),?_⟩
 have w1:=W.w1;have w2:=W.w2;have m0:=W.m1;have m3:=W.m2;refine⟨_,rfl,d,l,8,rfl,W.deal,by decide,by decide,fun fo H1 f0 f1 D1 o1=>?_⟩;have W1:=W.out D1 o1;refine⟨_,rfl,sc,_,rfl,W1.gKinds,?_⟩;refine⟨_,rfl,_,rfl,sc,_,rfl,W1.gWide,d,l,wd,rfl,D1,by lia,by lia,fun lo H2 a0 a1 D2 o2=>?_⟩;have W2:=W1.out D2 o2;refine⟨_,rfl,_,rfl,_,rfl,sc,_,rfl,W2.gWide,_,_,rfl,rfl,d,l,wd+1,rfl,D2,by lia,by lia,fun u H3 b0 b1 D3 o3=>⟨_,_,rfl,rfl,?_⟩⟩;have oA:=o1.trans (o2.trans o3);refine⟨_,rfl,_,_,rfl,rfl,_,rfl,?_⟩
 by_cases c0:fo<4
 ·refine bE (ai c0) ?_;refine⟨_,rfl,_,rfl,_,rfl,d,l,kd,rfl,D3,by lia,m3,fun p4 ws4 H4 D4 o4 h4 n4 b4=>⟨_,rfl,d,l,1,rfl,D4,.inl rfl,fun p5 a5 b5 H5 D5 o5 h5 c5 _=>⟨_,rfl,_,rfl,by show 6<=sizeLine;decide,fun p hp=>?_⟩⟩⟩;have s6:=aA hp (.tup [.str "ladder",.str x,.ref p4,.ref p5,.int lo,.int (lo+u)]);exact k p "ladder" _ ⟨[.ref p4,.ref p5,.int lo,.int (lo+u)],.lad a5 b5 lo (lo+u),[ws4],kd.toNat⟩ _ (D5.same s6) (oA.trans (o4.trans (o5.trans (fH.of s6)))) aB ⟨rfl,rfl,c5,⟨p4,ws4,p5,rfl,rfl,s6 _ _ (TS.out D4 o5 _ _ h4),s6 _ _ h5⟩,⟨af 1,by show 1<=4;decide,fun ws hws=>by rw[au.mp hws];exact⟨n4,b4⟩⟩⟩ (db (by lia)) (ie (by lia))
 refine aV (fun z=>c0 (ae z)) ?_;refine⟨_,rfl,rfl,_,rfl,?_⟩
 by_cases c1:fo=4
 ·refine bE (by rw[c1];exact ai rfl) ?_;refine⟨_,rfl,_,rfl,_,rfl,d,l,kd,rfl,D3,by lia,m3,fun p4 ws4 H4 D4 o4 h4 n4 b4=>⟨_,rfl,d,l,5,rfl,D4,by decide,by decide,fun y H5 y0 y1 D5 o5=>⟨_,rfl,_,rfl,by show 6<=sizeLine;decide,fun p hp=>?_⟩⟩⟩;have s6:=aA hp (.tup [.str "flat",.str x,.ref p4,.int y,.int lo,.int (lo+u)]);exact k p "flat" _ ⟨[.ref p4,.int y,.int lo,.int (lo+u)],.fla y lo (lo+u),[ws4],kd.toNat⟩ _ (D5.same s6) (oA.trans (o4.trans (o5.trans (fH.of s6)))) aB ⟨rfl,rfl,⟨y0,by lia⟩,⟨p4,ws4,rfl,rfl,s6 _ _ (TS.out D4 o5 _ _ h4)⟩,⟨af 1,by show 1<=4;decide,fun ws hws=>by rw[au.mp hws];exact⟨n4,b4⟩⟩⟩ (db (by lia)) (ie (by lia))
 refine aV (fun z=>c1 (by have z:=ae z;injection z)) ?_;refine⟨_,rfl,d,l,3,rfl,D3,by decide,by decide,fun n4 H4 e0 e1 D4 o4=>⟨_,_,rfl,rfl,?_⟩⟩;have oB:=oA.trans o4;refine⟨1+n4,rfl,by lia,by lia,fU (n:=(1+n4).toNat) (fun i ys σ G=>dR G d l/\fH d l H G/\(∃v,σ=[v,some (.ref d),some (.int kd)])/\∃wss:List (List Int),cV (pU G) ys wss/\wss.length=i/\∀ws∈wss,ws.length=kd.toNat/\∀y∈ws,0<=y/\y<=3) (aR (by lia)) ⟨D4,oB,⟨_,rfl⟩,[],trivial,rfl,fun _ z=>nomatch z⟩ (by rintro i ys σ G ⟨_,_,_,wss,e,hl,_⟩;rw[e.length];lia) ?_ ?_⟩
 ·rintro i ys σ G hi ⟨D5,o5,⟨v,rfl⟩,wss,tw,hl,hS⟩;refine⟨_,rfl,_,rfl,d,l,kd,rfl,D5,by lia,m3,fun p6 ws6 H6 D6 o6 h6 n6 b6=>⟨D6,o5.trans o6,⟨_,rfl⟩,wss++[ws6],cV.append (tw.mono fun _ _ z=>z.ts (TS.out D5 o6)) ⟨⟨p6,rfl,h6⟩,trivial⟩,by rw[ap,hl];rfl,fun ws hws=>?_⟩⟩;rcases bu.mp hws with e|e
  ·exact hS ws e
  ·rw[au.mp e];exact⟨n6,b6⟩
 rintro ys σ G ⟨D5,o5,_,wss,tw,hl,hS⟩ lx hlx;refine⟨lx,ys,rfl,.inl ⟨bA.of aB,fun t6 ht6=>?_⟩⟩;have s6:=(aA hlx (.lst ys)).trans (aA ht6 (.tup ys));have D6:=D5.same s6;have o6:=o5.trans (fH.of (d:=d) (l:=l) s6);have gt6:aL (aL G lx (.lst ys)) t6 (.tup ys) t6=some (.tup ys):=aB;have tw6:=tw.mono fun _ _ z=>pU.ts (.of s6) z
 have wt:∀(vs:List V) (T:zV),aZ8 ⟨vs,T,wss,kd.toNat⟩:=fun vs T=>⟨by show 1<=wss.length;lia,by show wss.length<=4;lia,hS⟩
 generalize aL (aL G lx (.lst ys)) t6 (.tup ys)=H6 at D6 o6 gt6 tw6 ⊢;refine⟨_,rfl,_,_,rfl,rfl,_,rfl,?_⟩
 by_cases c2:fo<7
 ·refine bE (ai c2) ?_;refine⟨_,rfl,_,rfl,_,rfl,d,l,1,rfl,D6,.inl rfl,fun p7 a7 b7 H7 D7 o7 h7 c7 _=>⟨_,rfl,_,rfl,by show 6<=sizeLine;decide,fun p hp=>?_⟩⟩;have s8:=aA hp (.tup [.str "choose",.str x,.ref t6,.ref p7,.int lo,.int (lo+u)]);have t67:=(TS.out D6 o7).trans (.of s8);exact k p "choose" _ ⟨[.ref t6,.ref p7,.int lo,.int (lo+u)],.cho a7 b7 lo (lo+u),wss,kd.toNat⟩ _ (D7.same s8) (o6.trans (o7.trans (fH.of s8))) aB ⟨rfl,rfl,c7,⟨t6,ys,p7,rfl,t67 _ _ gt6,tw6.mono fun _ _ z=>pU.ts t67 z,s8 _ _ h7⟩,wt _ _⟩ (db (by lia)) (ie (by lia))
 refine aV (fun z=>c2 (ae z)) ?_;refine⟨_,rfl,_,rfl,_,_,rfl,rfl,_,_,rfl,?_⟩;obtain⟨h2,e2,b1',b2'⟩:∃h2:Int,(if lo+1 > lo+u then lo+1 else lo+u)=h2/\lo<h2/\h2<=lo+9:=⟨_,rfl,by split<;>lia,by split<;>lia⟩
 rw[e2];refine⟨_,rfl,_,rfl,_,rfl,_,rfl,_,_,rfl,rfl,_,_,rfl,rfl,d,l,_,rfl,D6,by lia,by lia,fun mk H7 g0 g1 D7 o7=>⟨_,_,rfl,rfl,?_⟩⟩;refine⟨_,rfl,_,rfl,_,rfl,d,l,1,rfl,D7,.inl rfl,fun p8 a8 b8 H8 D8 o8 h8 c8 _=>⟨_,rfl,d,l,2,rfl,D8,.inr rfl,fun p9 a9 b9 H9 D9 o9 h9 c9 q9=>⟨_,rfl,_,rfl,_,rfl,by show 8<=sizeLine;decide,fun p hp=>?_⟩⟩⟩;have s10:=aA hp (.tup [.str "first",.str x,.int (lo+mk),.ref p8,.ref p9,.ref t6,.int lo,.int h2]);have t69:=(TS.out D6 o7).trans ((TS.out D7 o8).trans ((TS.out D8 o9).trans (.of s10)));exact k p "first" _ ⟨[.int (lo+mk),.ref p8,.ref p9,.ref t6,.int lo,.int h2],.fst a8 b8 a9 b9 (lo+mk) lo h2,wss,kd.toNat⟩ _ (D9.same s10) (o6.trans (o7.trans (o8.trans (o9.trans (fH.of s10))))) aB ⟨rfl,rfl,⟨c8,c9,by lia,by lia⟩,⟨t6,ys,p8,p9,rfl,t69 _ _ gt6,tw6.mono fun _ _ z=>pU.ts t69 z,((TS.out D8 o9).trans (.of s10)) _ _ h8,s10 _ _ h9⟩,wt _ _⟩ (db (by have:=q9 rfl;lia)) (ie (by lia))
theorem bD5(n:Nat)(C_Trm46:Cl P w K mg base (n+1) (rJ n) "_law_term")(C_Draw:Cl P w K mg base 1 spDraw "_law_draw")(m_len:mg "len"=none):eF P w K mg base "_law_term" "_law_term" aT4 (n+1+1) ["_law_deal_here","_law_known","_law_room"] (rJ (n+1)):=by
 refine fF ["_law_deal_here","_law_known","_law_room","_law_half","_law_one"] fun H Q nd hr h=>?_
 obtain⟨d,l,kn,ks,room,rfl,D,hk,nk,lk,r1,r2,k⟩:=h;refine⟨_,(aF (bC (gR (PW.pt (aF4 (eG rE (pv 2) aD) (vR (eG bR (bM C_Draw hr (aC (pv 0) (aM aD))) aD))))) (aF (bC (gR (PW.pt (gM (eG jJ (sU bO m_len fk (aM (pv 1))) aD) (fY (eG jJ (bM C_Draw hr (aC (pv 0) (aM aD))) aD))))) (aE (aK (aW (aC aI (aM (bL eJ (pv 1) (bM C_Draw hr (aC (pv 0) (aM (sU bO m_len fk (aM (pv 1)))))))))))) aS)
  (aE (aK (aW (aC aI (aM (bL eJ (bJ (aC (bM C_Draw hr (aC (pv 0) (aM aD))) (aM (bM C_Draw hr (aC (pv 0) (aM aD)))))) (bM C_Draw hr (aC (pv 0) (aM aD)))))))))) aS)
  (dJ 3 nd (aN sR (aN gL (pv 2) aD) aD)
  (dJ 4 nd (bM C_Trm46 hr (aC (pv 0) (aC (pv 1) (aM (pv 3)))))
  (aE (aK (aW (aC aI (aC (bL aB2 aI (bM C_Draw hr (aC (pv 0) (aM aD)))) (aC (pv 4) (aM (bM C_Trm46 hr (aC (pv 0) (aC (pv 1) (aM (pv 3))))))))))))))),?_⟩
 refine⟨fun b G=>dR G d l/\fH d l H G/\(b=false->3<=room),?_,?_⟩
 ·refine⟨_,rfl,_,_,rfl,rfl,_,rfl,?_⟩
  by_cases c1:room<3
  ·exact bE (ai c1) ⟨D,fH.refl _,fun z=>nomatch z⟩
  ·refine aV (by simpa using c1) ⟨_,rfl,d,l,3,rfl,D,by decide,by decide,fun x H1 x0 x1 D1 o1=>⟨rfl,_,rfl,D1,o1,fun _=>by lia⟩⟩
 rintro b G ⟨D1,o1,hb⟩;have hk1:=bB D hk nk o1
 cases b with
 |false =>
  refine aV (by simp) ?_;have c1:=hb rfl
  cases n with
  |zero=>exact absurd r2 (by simp only[cap];lia)
  |succ n =>
  simp only[cap] at r2;refine⟨_,rfl,_,_,rfl,rfl,_,_,rfl,rfl,⟨by decide,by decide⟩,?_⟩;refine⟨_,rfl,_,rfl,_,rfl,d,l,kn,ks,(room-1) / 2,rfl,D1,hk1,nk,lk,by lia,by lia,fun t1 H3 D3 o3 h3 ok3 nm3 sz3=>?_⟩;have hk3:=bB D1 hk1 nk o3;refine⟨_,rfl,d,l,5,rfl,D3,by decide,by decide,fun y H4 y0 y1 D4 o4=>?_⟩;obtain⟨c,hc,hs⟩:=cA1 y0 y1;have hk4:=bB D3 hk3 nk o4;refine⟨_,y,c,rfl,rfl,by decide,hc,_,rfl,_,rfl,_,rfl,_,rfl,d,l,kn,ks,(room-1) / 2,rfl,D4,hk4,nk,lk,by lia,by lia,fun t2 H5 D5 o5 h5 ok5 nm5 sz5=>⟨by show 4<=sizeLine;decide,fun p hp=>?_⟩⟩;have s6:=aA hp (.tup [.str "op",.str ⟨#[c]⟩,.ref t1.p,.ref t2.p]);have t15:=(TS.out D3 o4).trans ((TS.out D4 o5).trans (.of s6));refine k (.op p ⟨#[c]⟩ t1 t2) _ (D5.same s6) (o1.trans (o3.trans (o4.trans (o5.trans (.of s6))))) ⟨aB,h3.ts t15,h5.ts (.of s6)⟩ ⟨hs,ok3,ok5⟩ (fun z hz=>?_) ?_
  ·rcases bu.mp hz with q|q
   ·exact nm3 z q
   ·exact nm5 z q
  ·simp only[Tm.size];lia
 |true =>
  refine bE rfl ?_;refine⟨fun b G'=>dR G' d l/\fH d l H G'/\(b=true->0<ks.length),?_,?_⟩
  ·refine⟨_,rfl,kn,_,rfl,.inl (bA.of hk1),_,_,rfl,rfl,_,rfl,?_⟩
   by_cases c:(0:Int)<((ks.map V.str).length:Int)
   ·refine bE (ai c) ⟨_,rfl,d,l,4,rfl,D1,by decide,by decide,fun x H2 x0 x1 D2 o2=>⟨_,_,rfl,rfl,_,rfl,D2,o1.trans o2,fun _=>by rw[aa] at c;lia⟩⟩
   ·exact aV (by simpa using c) ⟨D1,o1,fun z=>nomatch z⟩
  rintro b G2 ⟨D2,o2,hb2⟩;have hk2:=bB D hk nk o2
  cases b with
  |true =>
   have kp:=hb2 rfl;refine bE rfl ?_;refine⟨_,rfl,_,rfl,_,rfl,kn,_,rfl,.inl (bA.of hk2),d,l,_,rfl,D2,by rw[aa];lia,by rw[aa];lia,fun x H3 x0 x1 D3 o3=>?_⟩;obtain⟨v,hv,ha⟩:=aY6 x0 x1;obtain⟨y,rfl,hy⟩:=mV hv;refine⟨kn,_,_,.str y,rfl,rfl,bA.of (bB D2 hk2 nk o3),ha,dE,fun p hp=>?_⟩;have s4:=aA hp (.tup [.str "name",.str y]);refine k (.nam p y) _ (D3.same s4) (o2.trans (o3.trans (.of s4))) aB trivial (fun z hz=>?_) (by simp only[Tm.size];lia);rw[au.mp hz];exact bj hy
  |false =>
   refine aV (by simp) ?_;refine⟨_,rfl,d,l,4,rfl,D2,by decide,by decide,fun x H3 x0 x1 D3 o3=>?_⟩;refine⟨_,rfl,d,l,1000,rfl,D3,by decide,by decide,fun y H4 y0 y1 D4 o4=>⟨dE,fun l0 hl0=>?_⟩⟩;have n0:=(kI D4 hl0).2;obtain⟨H5,e0,s5,h5⟩:=nV hl0 (.lst [.int x,.int y]);rw[e0];clear e0;refine⟨_,rfl,d,l,2,rfl,D4.same s5,by decide,by decide,fun z H6 z0 z1 D6 o6=>?_⟩;obtain⟨w,hw,w0,w1⟩:∃w:Int,mE [V.int x,V.int y] z=some (.int w)/\0<=w/\w<1000:=by
    have:z=0\/z=1:=by lia
    rcases this with rfl|rfl
    ·exact⟨x,rfl,x0,by lia⟩
    ·exact⟨y,rfl,y0,y1⟩
   refine⟨l0,_,_,.int w,rfl,rfl,bA.of (bB (D4.same s5) h5 n0 o6),hw,dE,fun p hp=>?_⟩;have s7:=aA hp (.tup [.str "num",.int w]);exact k (.num p w) _ (D6.same s7) (o2.trans (o3.trans (o4.trans ((fH.of s5).trans (o6.trans (.of s7)))))) aB ⟨w0,w1⟩ (fun z hz=>absurd hz bc) (by simp only[Tm.size];lia)
theorem bH3(C_Draw:Cl P w K mg base 1 spDraw "_law_draw")(C_Thw46:Cl P w K mg base 3 spThrE "_law_throw")(C_Trm46:Cl P w K mg base 4 (rJ 3) "_law_term")(m_len:mg "len"=none):eF P w K mg base "_law_set_row" "_law_set_row" bS0 5 ["_law_deal_here","_law_scene","_law_known"] spSetE:=by
 refine fF ["_law_deal_here","_law_scene","_law_known","_law_x"] fun H Q nd hr h=>?_
 obtain⟨d,l,sc,nl,kn,kd,wd,rm,bb,xs,ks,rfl,W0,hk,nk,lk,k⟩:=h;have hu:=jL hr;refine⟨_,(dJ 3 nd (bL eJ (zU hu (pv 1) aI) (bM C_Draw hr (aC (pv 0) (aM (sU bO m_len fk (aM (zU hu (pv 1) aI)))))))
  (aF (bC (gR (PW.pt (gM (eG aU1 (zU hu (pv 1) aI) (zU hu (pv 1) aI)) (fY (eG jJ (bM C_Draw hr (aC (pv 0) (aM aD))) aD))))) (aF (pdp hu (pv 1) aI (aN gL (zU hu (pv 1) aI) (zU hu (pv 1) aI)))
  (aE (aK (aW (aC (bM C_Thw46 hr (aC (pv 0) (aC (pv 1) (aM (pv 3))))) (aC aD (aM (aN gN (pv 2) (bJ (aM (pv 3))))))))))) aS)
  (aE (aK (aW (aC (aW (aC aI (aC (pv 3) (aM (bM C_Trm46 hr (aC (pv 0) (aC (pv 2) (aM aD)))))))) (aC aD (aM (aN gN (pv 2) (bJ (aM (pv 3)))))))))))),?_⟩
 have x1:=W0.x1;have x2:=W0.x2;refine⟨_,rfl,sc,_,rfl,W0.gNames,?_⟩;refine⟨_,rfl,_,rfl,sc,_,rfl,W0.gNames,nl,_,rfl,.inl (bA.of W0.nms),d,l,_,rfl,W0.deal,by rw[aa];lia,by rw[aa];lia,fun y H1 y0 y1 D1 o1=>?_⟩;obtain⟨v,hv,ha⟩:=aY6 y0 y1;obtain⟨x,rfl,hx⟩:=mV hv;have W1:=W0.out D1 o1;have hk1:=bB W0.deal hk nk o1;refine⟨nl,_,_,.str x,rfl,rfl,bA.of W1.nms,ha,?_⟩;have gr:=W1.gRoom;have gb:=W1.gBy;refine⟨fun b G=>We G d l sc nl kd wd xs rm bb/\fH d l H G/\(b=true->bb<=rm),?_,?_⟩
 ·refine⟨_,rfl,sc,_,rfl,gr,_,rfl,sc,_,rfl,gb,_,_,rfl,rfl,_,rfl,?_⟩;refine oE (fun c=>⟨_,rfl,d,l,4,rfl,D1,by decide,by decide,fun x H2 x0 x1 D2 o2=>⟨_,_,rfl,rfl,_,rfl,W1.out D2 o2,o1.trans o2,fun _=>ae c⟩⟩) (fun _=>⟨W1,o1,fun z=>nomatch z⟩)
 rintro b G ⟨W2,o2,hbm⟩;have hk2:=bB W0.deal hk nk o2;have oo2:=eX.out (sc:=sc) o2
 cases b with
 |true =>
  refine bE rfl ?_;have gr2:=W2.gRoom;have gb2:=W2.gBy;have hbm:=hbm rfl;refine⟨_,rfl,sc,_,rfl,gr2,_,rfl,sc,_,rfl,gb2,_,_,rfl,rfl,?_⟩;obtain⟨H3,p3,W3,o3⟩:=W2.pRoom (rm-bb) (by lia);have hk3:=W2.keep hk2 nk o3;refine⟨_,rfl,sc,_,rfl,p3,?_⟩;refine⟨_,rfl,_,rfl,_,rfl,d,l,sc,nl,kd,wd,rm-bb,bb,xs,x,rfl,W3,fun p w us dd H4 D4 o4 h4 ok4 am4 kd4=>?_⟩;have W4:=W3.out D4 o4;have hk4:=bB W3.deal hk3 nk o4;refine⟨_,rfl,_,rfl,lK,fun l5 hl5=>?_⟩;obtain⟨H5,e0,s5,h5⟩:=nV hl5 (.lst [.str x]);rw[e0];clear e0;refine⟨kn,l5,_,_,rfl,rfl,s5 _ _ hk4,h5,cu (aR (by rw[aa];show _+1<=_;lia)),fun l6 hl6=>?_⟩;have s6:=s5.trans (aA hl6 (.lst (ks.map V.str++[.str x])));have h6:aL H5 l6 (.lst (ks.map V.str++[.str x])) l6=some (.lst ((ks++[x]).map V.str)):=by rw[aB,bo];rfl
  have oA:=oo2.trans (o3.trans (eX.out (sc:=sc) o4));have f6:H l6=none:=oA.fresh W4.all (s5.free hl6);generalize aL H5 l6 (.lst (ks.map V.str++[.str x]))=H6 at s6 h6 ⊢;refine⟨by show 3<=sizeLine;decide,fun q hq=>?_⟩;have s7:=s6.trans (aA hq (.tup [.ref p,.int 0,.ref l6]));exact k q l6 (.thr p w x us dd) x (rm-bb) _ (W4.same s7) (by have e:lV (.thr p w x us dd)=1:=rfl;rw[e];lia) (oA.trans (.of s7)) aB ⟨s7 _ _ h4,ok4.ts (.of s7)⟩ (.inl ⟨p,w,us,dd,rfl,am4,kd4⟩) (bj hx) f6 ((aA hq _) _ _ h6)
 |false =>
  refine aV (by simp) ?_;refine⟨_,rfl,_,rfl,_,rfl,d,l,kn,ks,7,rfl,W2.deal,hk2,nk,by lia,by decide,by decide,fun t H4 D4 o4 h4 ok4 nm4 sz4=>⟨by show 3<=sizeLine;decide,fun p hp=>?_⟩⟩;have s5:=aA hp (.tup [.str "let",.str x,.ref t.p]);have h5:aL H4 p (.tup [.str "let",.str x,.ref t.p]) p=some (.tup [.str "let",.str x,.ref t.p]):=aB;have W4:=W2.out D4 o4;have hk4:=bB W2.deal hk2 nk o4;generalize aL H4 p (.tup [.str "let",.str x,.ref t.p])=H5 at s5 h5 ⊢;refine⟨_,rfl,_,rfl,lK,fun l6 hl6=>?_⟩;have s6:=s5.trans (aA hl6 (.lst [.str x]));have h6:aL H5 l6 (.lst [.str x]) l6=some (.lst [.str x]):=aB;have h56:=aA hl6 (.lst [.str x]) _ _ h5;generalize aL H5 l6 (.lst [.str x])=H6 at s6 h6 h56 ⊢;refine⟨kn,l6,_,_,rfl,rfl,s6 _ _ hk4,h6,cu (aR (by rw[aa];show _+1<=_;lia)),fun l7 hl7=>?_⟩;have s7:=s6.trans (aA hl7 (.lst (ks.map V.str++[.str x])));have h7:aL H6 l7 (.lst (ks.map V.str++[.str x])) l7=some (.lst ((ks++[x]).map V.str)):=by rw[aB,bo];rfl
  have h57:=aA hl7 (.lst (ks.map V.str++[.str x])) _ _ h56;have oA:=oo2.trans (eX.out (sc:=sc) o4);have f7:H l7=none:=oA.fresh W4.all (s6.free hl7);generalize aL H6 l7 (.lst (ks.map V.str++[.str x]))=H7 at s7 h7 h57 ⊢;refine⟨by show 3<=sizeLine;decide,fun q hq=>?_⟩;have s8:=s7.trans (aA hq (.tup [.ref p,.int 0,.ref l7]));exact k q l7 (.lt p x t) x rm _ (W4.same s8) (by have e:lV (.lt p x t)=0:=rfl;rw[e];lia) (oA.trans (.of s8)) aB ⟨aA hq _ _ _ h57,h4.ts (.of s8),ok4,by lia⟩ (.inr ⟨p,t,rfl,nm4,by lia⟩) (bj hx) f7 ((aA hq _) _ _ h7)
theorem bA2(m:Nat)(C_Trm46:Cl P w K mg base 4 (rJ 3) "_law_term")(C_Rws46:Cl P w K mg base (7+3*m) (oK m) "_law_rows")(C_Draw:Cl P w K mg base 1 spDraw "_law_draw")(C_SetR:Cl P w K mg base 5 spSetE "_law_set_row")(m_range:mg "range"=none)(m_len:mg "len"=none)(m_int:mg "int"=none)(m_tuple:mg "tuple"=none):eF P w K mg base "_law_when" "_law_when" aR7 (7+3*m+1) ["_law_deal_here","_law_scene","_law_known","_law_deep"] (aA7 (m+1)):=by
 refine fF ["_law_deal_here","_law_scene","_law_known","_law_deep","_law_term_here","_law_one","_law_tells","_law_first","_law_other","_law_second","_law_row_here","_law_no","_law_k"] fun H Q nd hr h=>?_
 obtain⟨d,l,sc,nl,kn,kd,wd,rm,bb,xs,ks,deep,rfl,W0,hk,nk,lk,hm,hd,k⟩:=h;have hu:=jL hr;refine⟨_,(dJ 4 nd (bM C_Trm46 hr (aC (pv 0) (aC (pv 2) (aM aD))))
  (aF (rC (bM C_Rws46 hr (aC (pv 0) (aC (pv 1) (aC (pv 2) (aC (aN cL (pv 3) aD) (aM (aN cL aD (zJ pG m_int qj (aM (sK (uX bR (pv 3) aD) (kN (uX bR (bM C_Draw hr (aC (pv 0) (aM aD))) aD)))))))))))) (iP rfl (aZ (eT 5 nd) (aZ (eT 6 nd) (aZ (eT 7 nd) eY)))))
  (dJ 8 nd (bJ bX)
  (dJ 9 nd (pv 2)
  (aF (mR (bC (eG bR (bM C_Draw hr (aC (pv 0) (aM aD))) aD) (aF (rC (bM C_SetR hr (aC (pv 0) (aC (pv 1) (aM (pv 2))))) (iP rfl (aZ (eT 10 nd) (aZ (eT 11 nd) (aZ (eT 9 nd) eY)))))
  (aE (bP (dA av de dh bT (pv 8) (aM (pv 10)))))) aS))
  (aF (wV (dL (by rfl) m_range (aM (pv 6))) (eT 12 nd)
  (aE (bP (dA av de dh bT (pv 8) (aM (aW (aC aI (aM (bM C_Trm46 hr (aC (pv 0) (aC (pv 9) (aM aD))))))))))))
  (aF (pdp hu (pv 1) aI (aN gL (zU hu (pv 1) aI) (sU bO m_len fk (aM (pv 8)))))
  (aE (aK (aW (aC (aW (aC aI (aC (pv 4) (aC (pv 5) (aM (zJ bV m_tuple eh (aM (pv 8)))))))) (aC (pv 6) (aM (cH ["_law_x","_law_second"] [none,some 9] (bW (pv 7)) (fun _ _ _ _=>(eT 0)) (fun _ _ _ _=>(lW (eG (inK K) (pv 0) (pv 1)))) (fun _ _ _ _=>(pv 0)))))))))))))))),?_⟩
 have lk1:=mW (m+1);refine⟨_,rfl,_,rfl,d,l,kn,ks,5,rfl,W0.deal,hk,nk,by lia,by decide,by decide,fun t H1 D1 o1 h1 ok1 nm1 sz1=>?_⟩;have W1:=W0.out D1 o1;have hk1:=bB W0.deal hk nk o1;refine⟨_,rfl,_,rfl,_,rfl,_,rfl,_,_,rfl,rfl,bC6 rfl rfl D1 fun e H2 D2 o2 he=> .inr ⟨_,rfl,_,_,rfl,rfl,?_⟩⟩;have W2:=W1.out D2 o2;have hk2:=bB D1 hk1 nk o2;have oA:=(eX.out (sc:=sc) o1).trans (eX.out (sc:=sc) o2);obtain⟨n,hn,n1,n2,n3⟩:∃n:Nat,(1:Int)+(if e=true then 1 else 0)=(n:Int)/\1<=n/\n<=2/\(m=0->n<=1):=by
  cases e with
  |true=>exact⟨2,rfl,by decide,by decide,fun z=>by have:=he rfl;lia⟩
  |false=>exact⟨1,rfl,by decide,by decide,fun _=>af _⟩
 obtain⟨c1,c2,c3⟩:=bF2 hm n2 n3;refine⟨d,l,sc,nl,kn,kd,wd,rm,bb,xs,ks,deep+1,n,by show [_,_,_,_,V.int (1+if e=true then 1 else 0)]=_;rw[hn],W2,hk2,nk,by lia,by lia,by lia,by lia,fun z=>by lia,fun p3 pr3 kn3 rs3 k3 t3 r3 H3 W3 ld3 o3 h3 hp3 hr3 b3 q3 hk3=>?_⟩;refine⟨p3,_,rfl,aQ.of h3,rfl,_,_,rfl,_,_,rfl,_,_,rfl,rfl,?_⟩;have hkk3:=W2.keep hk2 nk o3;have n3l:kn3≠l:=by
  rcases q3 with z|z
  ·rw[z];exact nk
  ·exact(W2.new z).2.1
 have h13:=(h1.ts (TS.out D1 o2)).ts (W2.ts o3);have oB:=oA.trans o3;clear h1 hk1 hk2 D1 D2 o1 o2 o3 W1 h3;refine⟨az _,fun lo hlo=>?_⟩;obtain⟨_,nlo,_,nln⟩:=W3.new hlo;have l0:=oB.fresh W3.all hlo;have n3o:kn3≠lo:=aJ hk3 hlo;have nko:kn≠lo:=aJ hkk3 hlo;obtain⟨H4,e0,s4,g4⟩:=nV hlo (.lst []);rw[e0];clear e0;have W4:=W3.same s4;have oC:=oB.trans (eX.of s4);have hk4:=s4 _ _ hk3;have hkk4:=s4 _ _ hkk3;have h14:=h13.ts (.of s4);have hp4:=s4 _ _ hp3;have hr4:=aP.ts (.of s4) _ hr3;clear h13 hp3 hr3 hk3 hkk3 s4 W3 oA oB;refine⟨_,rfl,?_⟩;refine⟨fun σ' G=>∃(kn2:Addr) (k2:List Str) (bs:List Rw) (rr:Int) (v10 v11:Option V),σ'=[some (.ref d),some (.ref sc),some (.ref kn),some (.int deep),some (.ref t.p),some (.ref pr3),some (.int t3),some (.ref kn3),some (.ref lo),some (.ref kn2),v10,v11,none]/\We G d l sc nl kd wd xs rr bb/\bb*(iA bs:Int)+rr<=r3/\eX [d,l,sc] H G/\TS H4 G/\G kn3=some (.lst (k3.map V.str))/\G lo=some (.lst (bG bs))/\aP G bs/\sW kd ks xs bs k2 0 0 1/\kn2≠l/\kn2≠lo/\G kn2=some (.lst (k2.map V.str)),?_,?_⟩
 ·refine⟨_,rfl,d,l,2,rfl,W4.deal,by decide,by decide,fun y H5 _ _ D5 o5=>⟨rfl,_,rfl,?_⟩⟩;have W5:=W4.out D5 o5;have g5:=bB W4.deal g4 nlo o5;have hk5:=bB W4.deal hk4 n3l o5;have hkk5:=bB W4.deal hkk4 nk o5;have oD:=oC.trans (eX.out (sc:=sc) o5);have t5:=TS.out W4.deal o5;refine oE (fun _=>?_) (fun _=>⟨kn,ks,[],r3,_,_,rfl,W5,by have e:iA []=0:=rfl;rw[e];lia,oD,t5,hk5,g5,trivial,sW.nil.mono (by decide),nk,nko,hkk5⟩);refine⟨_,rfl,_,rfl,_,rfl,d,l,sc,nl,kn,kd,wd,r3,bb,xs,ks,rfl,W5,hkk5,nk,by lia,fun p6 kn6 r6 x6 rr6 H6 W6 ld6 o6 h6 hr6 s6 m6 f6 hk6=>?_⟩;refine⟨p6,_,rfl,aQ.of h6,rfl,_,_,rfl,_,_,rfl,_,_,rfl,rfl,?_⟩;have g6:=W5.keep g5 nlo o6;have hk36:=W5.keep hk5 n3l o6;have n6l:=(W5.new f6).2.1;have n6o:kn6≠lo:=(aJ g5 f6).symm;refine⟨_,rfl,.inl ⟨rfl,_,bA.of g6⟩,_,rfl,lo,_,_,rfl,rfl,g6,by show 0<sizeLine;decide,?_⟩;have tN:=TS.lst (ys:=bG [r6]) g6;exact⟨kn6,_,[r6],rr6,_,_,rfl,W6.lst (zs:=bG [r6]) g6 nlo nln,by have e:iA [r6]=lV r6:=Nat.add_zero _;rw[e];exact ld6,(oD.trans o6).new l0,(t5.trans (W5.ts o6)).trans tN,(aG n3o).trans hk36,aB,⟨dF.ts tN r6 hr6,trivial⟩,sW.nil.snoc (s6.row m6),n6l,n6o,(aG n6o).trans hk6⟩
 rintro σ' G ⟨kn2,k2,bs,rr,v10,v11,rfl,W5,ld5,o5,t5,hk5,g5,hb5,b5,n2l,n2o,hk25⟩;have t30:=b3.t0;have t31:=b3.t1;have sl5:=iI.len bs b5.sc;have ct5:=b5.ct;simp only[lN] at ct5;refine⟨_,rfl,t3,rfl,by lia,by lia,jR (n:=t3.toNat) (fun i σ G=>∃(bs:List Rw) (v12:Option V),σ=[some (.ref d),some (.ref sc),some (.ref kn),some (.int deep),some (.ref t.p),some (.ref pr3),some (.int t3),some (.ref kn3),some (.ref lo),some (.ref kn2),v10,v11,v12]/\We G d l sc nl kd wd xs rr bb/\bb*(iA bs:Int)+rr<=r3/\eX [d,l,sc] H G/\TS H4 G/\G kn3=some (.lst (k3.map V.str))/\G lo=some (.lst (bG bs))/\aP G bs/\sW kd ks xs bs k2 (i:Int) 0 (i+1)/\G kn2=some (.lst (k2.map V.str)))
  ⟨bs,_,rfl,W5,ld5,o5,t5,hk5,g5,hb5,b5,hk25⟩ ?_ ?_⟩
 ·rintro D' N i hN σ G7 hi ⟨bs,v12,rfl,W7,ld7,o7,t7,hk7,g7,hb7,b7,hk27⟩;have ct7:=b7.ct;simp only[lN] at ct7;have ln:=iL bs;refine⟨_,rfl,.inl ⟨rfl,_,bA.of g7⟩,_,rfl,_,rfl,d,l,kn2,k2,5,rfl,W7.deal,hk27,n2l,by lia,by decide,by decide,fun t8 H8 D8 o8 h8 ok8 nm8 sz8=>⟨dE,fun p hp=>?_⟩⟩;have W8:=W7.out D8 o8;have g8:=bB W7.deal g7 nlo o8;have hk8:=bB W7.deal hk7 n3l o8;have hk28:=bB W7.deal hk27 n2l o8;obtain⟨H9,e0,s9,g9⟩:=nV hp (.tup [.str "tell",.ref t8.p]);rw[e0];clear e0;refine⟨lo,_,_,rfl,rfl,s9 _ _ g8,by rw[bD];exact aR (by lia),?_⟩;have tN:=TS.lst (ys:=bG bs++[.ref p]) (s9 _ _ g8);have tA:=((TS.out W7.deal o8).trans (.of s9)).trans tN;refine(hN _ _ ⟨bs++[.tell p t8],_,rfl,(W8.same s9).lst (zs:=bG bs++[.ref p]) (s9 _ _ g8) nlo nln,by rw[nA];exact ld7,((o7.trans (eX.out (sc:=sc) o8)).trans (eX.of s9)).new l0,t7.trans tA,(aG n3o).trans (s9 _ _ hk8),by rw[aB,dW];rfl,aP.app (qs:=[.tell p t8]) (aP.ts tA _ hb7) ⟨⟨tN _ _ g9,h8.ts ((TS.of s9).trans tN),ok8,by lia⟩,trivial⟩,?_,(aG n2o).trans (s9 _ _ hk28)⟩)
  exact b7.snoc (aX2 nm8 (by lia))
 rintro σ G7 ⟨bs,v12,rfl,W7,ld7,o7,t7,hk7,g7,hb7,b7,hk27⟩;have ct7:=b7.ct;simp only[lN] at ct7;have ln:=iL bs;obtain⟨lf,gl⟩:=W7.gLeft;refine⟨_,rfl,sc,_,rfl,gl,_,rfl,lo,_,rfl,.inl (bA.of g7),_,_,rfl,rfl,?_⟩;obtain⟨H8,p8,W8,o8⟩:=W7.pLeft (lf-((bG bs).length:Int));refine⟨_,rfl,sc,_,rfl,p8,?_⟩;have g8:=W7.keep g7 nlo o8;have hk8:=W7.keep hk7 n3l o8;have hk28:=W7.keep hk27 n2l o8;have t8:=t7.trans (W7.ts o8);refine⟨_,rfl,_,rfl,_,rfl,lo,_,rfl,.inl ⟨bA.of g8,fun pb hpb=>⟨by show 4<=sizeLine;decide,fun q hq=>?_⟩⟩⟩;have s9:=(aA hpb (.tup (bG bs))).trans (aA hq (.tup [.str "when",.ref t.p,.ref pr3,.ref pb]));have gb9:=aA hq (.tup [.str "when",.ref t.p,.ref pr3,.ref pb]) _ _ (show aL H8 pb (.tup (bG bs)) pb=_ from aB);have gq9:aL (aL H8 pb (.tup (bG bs))) q (.tup [.str "when",.ref t.p,.ref pr3,.ref pb]) q=some (.tup [.str "when",.ref t.p,.ref pr3,.ref pb]):=aB;generalize aL (aL H8 pb (.tup (bG bs))) q (.tup [.str "when",.ref t.p,.ref pr3,.ref pb])=H9 at s9 gb9 gq9 ⊢
 have l3:=iI.len rs3 b3.sc;have c3':=b3.ct;refine⟨_,rfl,_,rfl,kn3,rfl,⟨_,bA.of (s9 _ _ hk8)⟩,cS (K:=K) (a:=kn3) (xs:=k3.map V.str) (fun i ys σ G=>G=H9/\(∃v,σ=[v,some (.ref kn2)])/\ys=((k3.take i).filter fun x=>decide (x∈k2)).map V.str)
  (aR (by rw[aa];lia)) ⟨rfl,⟨_,rfl⟩,rfl⟩ (fun i ys σ G ⟨_,_,e⟩=>by
   rw[e,aa];exact cj (ja _ _) (by rw[dj];lia)) (by rintro i ys σ G _ ⟨e,_⟩;rw[e];exact bA.of (s9 _ _ hk8)) ?_ ?_⟩
 ·rintro i v ys σ G hv ⟨rfl,⟨v',rfl⟩,rfl⟩;obtain⟨x,rfl,hx⟩:=mV hv;refine⟨_,rfl,_,rfl,kn2,_,rfl,.inl (bA.of (s9 _ _ hk28)),rfl,dD _,_,rfl,?_⟩;have ei:wN (V.str x) (k2.map V.str)=decide (x∈k2):=dN _ _;rw[aY hx,im,bo]
  by_cases c:x∈k2
  ·refine bE (ei.trans (ai c)) ⟨_,rfl,rfl,⟨_,rfl⟩,?_⟩;rw[dk (p:=fun x=>decide (x∈k2)) (ai c)];rfl
  ·refine aV (fun z=>c (ae (ei.symm.trans z))) ⟨rfl,⟨_,rfl⟩,?_⟩;rw[dm (p:=fun x=>decide (x∈k2)) (by simpa using c)];simp
 rintro ys σ G ⟨rfl,_,rfl⟩ l10 hl10;rw[aa,cq];refine⟨by show 3<=sizeLine;decide,fun p hp=>?_⟩;have s10:=aA hl10 (.lst ((k3.filter fun x=>decide (x∈k2)).map V.str));have s11:=aA hp (.tup [.ref q,.int t3,.ref l10]);have sA:=s9.trans (s10.trans s11);have tA:=(t8.trans (.of sA))
 have oF:=(o7.trans o8).trans (eX.of sA);refine k p l10 (.when q pr3 pb t rs3 bs) _ t3 rr _ (W8.same sA) (by have e:lV (.when q pr3 pb t rs3 bs)=iA rs3+iA bs:=rfl;rw[e,uz,Int.mul_add];lia) oF aB ⟨(s10.trans s11) _ _ gq9,h14.ts tA,⟨ok1,by lia⟩,tA _ _ hp4,(s10.trans s11) _ _ gb9,aP.ts tA _ hr4,aP.ts ((W7.ts o8).trans (.of sA)) _ hb7⟩ ?_ ?_ (s11 _ _ aB)
 ·exact sW.when b3 (by rw[ie t30] at b7;exact b7) (by lia) hm n2 n3 nm1 (by lia)
 ·exact(o7.trans o8).fresh W8.all (s9.free hl10)
theorem bC1(m:Nat)(C_Draw:Cl P w K mg base 1 spDraw "_law_draw")(C_Whn46:Cl P w K mg base (5+3*m) (aA7 m) "_law_when")(C_Rws46:Cl P w K mg base (4+3*m) (bS5 m) "_law_rows")(C_SetR:Cl P w K mg base 5 spSetE "_law_set_row")(C_Trm46:Cl P w K mg base 4 (rJ 3) "_law_term")(m_int:mg "int"=none):eF P w K mg base "_law_row" "_law_row" bC3 (5+3*m+1) ["_law_deal_here","_law_scene","_law_known","_law_deep"] (vP m):=by
 refine fF ["_law_deal_here","_law_scene","_law_known","_law_deep","_law_form","_law_k","_law_rows_here","_law_tells"] fun H Q nd hr h=>?_
 obtain⟨d,l,sc,nl,kn,kd,wd,rm,bb,xs,ks,deep,rfl,W0,hk,nk,lk,hm,hd,hbb,k⟩:=h;have hu:=jL hr;refine⟨_,(aF (pdp hu (pv 1) aI (aN gL (zU hu (pv 1) aI) aD))
  (dJ 4 nd (bM C_Draw hr (aC (pv 0) (aM aD)))
  (aF (bC (gR (PW.pt (gM (eG bR (pv 4) aD) (gM (eG rE (pv 3) aD) (fY (eG jJ (zU hu (pv 1) aI) (bL eJ (bJ (aC aD (aM aD))) (zJ pG m_int qj (aM (uX jJ (pv 3) aD)))))))))) (aE (aK (bM C_Whn46 hr (aC (pv 0) (aC (pv 1) (aC (pv 2) (aM (pv 3)))))))) aS)
  (aF (bC (gR (PW.pt (gM (eG bR (pv 4) aD) (gM (eG bR (pv 3) aD) (fY (eG jJ (zU hu (pv 1) aI) aD)))))) (dJ 5 nd (aN cL aD (bM C_Draw hr (aC (pv 0) (aM aD))))
  (aF (pdp hu (pv 1) aI (pv 5))
  (aF (rC (bM C_Rws46 hr (aC (pv 0) (aC (pv 1) (aC (pv 2) (aC aD (aM (aN cL aD (bM C_Draw hr (aC (pv 0) (aM aD)))))))))) (iP rfl (aZ (eT 6 nd) (aZ (eT 7 nd) (aZ (eT 2 nd) eY)))))
  (aF (pdp hu (pv 1) aI aD)
  (aE (aK (aW (aC (aW (aC aI (aC (pv 5) (aM (pv 6))))) (aC (aN fW (pv 5) (pv 7)) (aM (pv 2))))))))))) aS)
  (aF (bC (eG rE (pv 4) aD) (aE (aK (bM C_SetR hr (aC (pv 0) (aC (pv 1) (aM (pv 2))))))) aS)
  (aE (aK (aW (aC (aW (aC aI (aM (bM C_Trm46 hr (aC (pv 0) (aC (pv 2) (aM aD))))))) (aC aD (aM (pv 2)))))))))))),?_⟩
 have rp:=mW m;obtain⟨lf,gl⟩:=W0.gLeft;refine⟨_,rfl,sc,_,rfl,gl,_,_,rfl,rfl,?_⟩;obtain⟨H1,p1,W1,o1⟩:=W0.pLeft (lf-1);refine⟨_,rfl,sc,_,rfl,p1,?_⟩;have hk1:=W0.keep hk nk o1;refine⟨_,rfl,d,l,10,rfl,W1.deal,by decide,by decide,fun fo H2 f0 f1 D2 o2=>?_⟩;have W2:=W1.out D2 o2;have hk2:=bB W1.deal hk1 nk o2;have oA:=o1.trans (eX.out (sc:=sc) o2);clear p1 gl W0 W1 D2 hk hk1 o2;refine⟨fun b G=>We G d l sc nl kd wd xs rm bb/\eX [d,l,sc] H2 G/\(b=true->deep<2),?_,?_⟩
 ·refine⟨_,rfl,rfl,_,rfl,?_⟩;refine oE (fun _=>⟨_,rfl,_,_,rfl,rfl,_,rfl,?_⟩) (fun _=>⟨W2,eX.refl _,fun z=>nomatch z⟩)
  by_cases c:deep<2
  ·obtain⟨lf,gl⟩:=W2.gLeft;refine bE (ai c) ⟨_,rfl,sc,_,rfl,gl,dE,fun l0 hl0=>⟨_,rfl,_,_,rfl,rfl,.inr ⟨_,rfl,?_⟩⟩⟩;have h0:aL H2 l0 (.lst [.int 3,.int 6]) l0=some (.lst [.int 3,.int 6]):=aB;have s0:=aA hl0 (.lst [.int 3,.int 6]);generalize aL H2 l0 (.lst [.int 3,.int 6])=H3 at s0 h0 ⊢;obtain⟨v,hv⟩:∃v:Int,mE [V.int 3,V.int 6] (if decide (deep > 0)=true then 1 else 0)=some (.int v):=by
    split
    ·exact⟨6,rfl⟩
    ·exact⟨3,rfl⟩
   exact⟨l0,_,_,.int v,rfl,rfl,bA.of h0,hv,_,_,rfl,rfl,_,rfl,W2.same s0,eX.of s0,fun _=>c⟩
  ·exact aV (by simpa using c) ⟨W2,eX.refl _,fun z=>nomatch z⟩
 rintro b H3 ⟨W3,o3,hb⟩;have hk3:=W2.keep hk2 nk o3;have oB:=oA.trans o3
 cases b with
 |true =>
  refine bE rfl ?_;have d2:=hb rfl
  cases m with
  |zero=>exact absurd d2 (by lia)
  |succ m =>
  exact⟨_,rfl,_,rfl,_,rfl,_,rfl,d,l,sc,nl,kn,kd,wd,rm,bb,xs,ks,deep,rfl,W3,hk3,nk,lk,by lia,by lia,fun p kn' r k2 tells r2 H' W' ld' o' h' hr' b' f' hk'=>k p kn' r k2 tells r2 H' W' ld' (oB.trans o') h' hr' b' (.inr (oB.fresh W3.all f')) hk'⟩
 |false =>
 refine aV (by simp) ?_;clear hb;refine⟨fun b G=>We G d l sc nl kd wd xs rm bb/\G=H3/\(b=true->deep=0),?_,?_⟩
 ·refine⟨_,rfl,rfl,_,rfl,?_⟩;refine oE (fun _=>⟨_,rfl,rfl,_,rfl,?_⟩) (fun _=>⟨W3,rfl,fun z=>nomatch z⟩)
  by_cases c:deep=0
  ·obtain⟨lf,gl⟩:=W3.gLeft;exact bE (by rw[c];exact ai rfl) ⟨_,rfl,sc,_,rfl,gl,_,_,rfl,rfl,_,rfl,W3,rfl,fun _=>c⟩
  ·exact aV (fun z=>c (by have z:=ae z;injection z)) ⟨W3,rfl,fun z=>nomatch z⟩
 rintro b G ⟨_,rfl,hb⟩
 cases b with
 |true =>
  refine bE rfl ?_;have d0:=hb rfl;obtain rfl:m=2:=by lia
  obtain rfl:=hbb rfl;refine⟨_,rfl,d,l,3,rfl,W3.deal,by decide,by decide,fun y H4 y0 y1 D4 o4=>⟨_,_,rfl,rfl,?_⟩⟩;have W4:=W3.out D4 o4;have hk4:=bB W3.deal hk3 nk o4;obtain⟨H5,p5,W5,o5⟩:=W4.pBy (1+y) (by lia);refine⟨_,rfl,_,rfl,sc,_,rfl,p5,?_⟩;have hk5:=W4.keep hk4 nk o5;refine⟨_,rfl,_,rfl,_,rfl,_,rfl,d,l,2,rfl,W5.deal,by decide,by decide,fun z H6 z0 z1 D6 o6=>⟨_,_,rfl,rfl,?_⟩⟩;have W6:=W5.out D6 o6;have hk6:=bB W5.deal hk5 nk o6;have oC:=oB.trans ((eX.out (sc:=sc) o4).trans (o5.trans (eX.out (sc:=sc) o6)));obtain⟨n,hn,n1,n2⟩:∃n:Nat,1+z=(n:Int)/\1<=n/\n<=2:=⟨(1+z).toNat,by lia,by lia,by lia⟩
  simp only[lN] at lk;refine⟨d,l,sc,nl,kn,kd,wd,rm,1+y,xs,ks,1,n,by show [_,_,_,_,V.int (1+z)]=_;rw[hn],W6,hk6,nk,by simp only[lN];lia,by decide,by lia,by decide,fun z=>absurd z (by decide),fun p7 pr7 kn7 rs7 k7 t7 r7 H7 W7 ld7 o7 h7 hp7 hr7 b7 q7 hk7=>?_⟩;refine⟨p7,_,rfl,aQ.of h7,rfl,_,_,rfl,_,_,rfl,_,_,rfl,rfl,?_⟩;obtain⟨H8,p8,W8,o8⟩:=W7.pBy 1 (by decide);refine⟨_,rfl,sc,_,rfl,p8,?_⟩;have n7l:kn7≠l:=by
   rcases q7 with z|z
   ·rw[z];exact nk
   ·exact(W6.new z).2.1
  have hk8:=W7.keep hk7 n7l o8;refine⟨_,rfl,_,rfl,by show 3<=sizeLine;decide,fun q hq=>⟨_,rfl,_,rfl,_,_,rfl,rfl,?_,_,rfl,by show 3<=sizeLine;decide,fun p hp=>?_⟩⟩
  ·exact .inl ⟨by lia,by lia⟩
  have s9:=aA hq (.tup [.str "times",.int (1+y),.ref pr7]);have s10:=aA hp (.tup [.ref q,.int ((1+y)*t7),.ref kn7]);have sA:=s9.trans s10;have tA:=(W7.ts o8).trans (.of sA);refine k p kn7 (.times q pr7 (1+y) rs7) k7 _ r7 _ (W8.same sA) (by have e:lV (.times q pr7 (1+y) rs7)=(1+y).toNat*iA rs7:=rfl;rw[e,qx,ie (by lia),vj];exact ld7) ((oC.trans (o7.trans o8)).trans (eX.of sA)) aB ⟨s10 _ _ aB,tA _ _ hp7,aP.ts tA _ hr7⟩ (sW.times b7 n2 (by lia) (by lia)) ?_ (sA _ _ hk8);rcases q7 with z|z
  ·exact .inl z
  ·exact .inr (oC.fresh W6.all z)
 |false =>
 refine aV (by simp) ?_;refine⟨_,rfl,_,_,rfl,rfl,_,rfl,?_⟩;refine oE (fun _=>?_) (fun _=>?_)
 ·exact⟨_,rfl,_,rfl,_,rfl,d,l,sc,nl,kn,kd,wd,rm,bb,xs,ks,rfl,W3,hk3,nk,by lia,fun p kn' r x r2 H' W' ld' o' h' hr' s' m' f' hk'=>k p kn' r _ 0 r2 H' W' ld' (oB.trans o') h' hr' (s'.row m') (.inr (oB.fresh W3.all f')) hk'⟩
 ·refine⟨_,rfl,_,rfl,d,l,kn,ks,7,rfl,W3.deal,hk3,nk,by lia,by decide,by decide,fun t H4 D4 o4 h4 ok4 nm4 sz4=>⟨dE,fun q hq=>⟨_,rfl,by show 3<=sizeLine;decide,fun p hp=>?_⟩⟩⟩;have s9:=aA hq (.tup [.str "tell",.ref t.p]);have s10:=aA hp (.tup [.ref q,.int 1,.ref kn]);have sA:=s9.trans s10;exact k p kn (.tell q t) ks 1 rm _ ((W3.out D4 o4).same sA) (by have e:lV (.tell q t)=0:=rfl;rw[e];lia) ((oB.trans (eX.out (sc:=sc) o4)).trans (eX.of sA)) aB ⟨s10 _ _ aB,h4.ts (.of sA),ok4,by lia⟩ (aX2 nm4 (by lia)) (.inl rfl) (sA _ _ (bB W3.deal hk3 nk o4))
theorem aS2(m:Nat)(C_Row46:Cl P w K mg base (6+3*m) (aT2 (m+1)) "_law_row")(m_range:mg "range"=none)(m_tuple:mg "tuple"=none):eF P w K mg base "_law_rows" "_law_rows" bC5 (6+3*m+1) ["_law_deal_here","_law_scene","_law_known","_law_deep","_law_many"] (oK m):=by
 refine fF ["_law_deal_here","_law_scene","_law_known","_law_deep","_law_many","_law_found","_law_tells","_law_k","_law_row_here","_law_more"] fun H Q nd hr h=>?_
 obtain⟨d,l,sc,nl,kn,kd,wd,rm,bb,xs,ks,deep,n,rfl,W0,hk,nk,lk,hm,hn,hd,hbb,k⟩:=h;have hu:=jL hr;refine⟨_,(dJ 5 nd (bJ bX)
  (dJ 6 nd aD
  (aF (wV (dL (by rfl) m_range (aM (pv 4))) (eT 7 nd)
  (aE (bC (eG jJ (zU hu (pv 1) aI) aD) (aF (rC (bM C_Row46 hr (aC (pv 0) (aC (pv 1) (aC (pv 2) (aM (pv 3)))))) (iP rfl (aZ (eT 8 nd) (aZ (eT 9 nd) (aZ (eT 2 nd) eY)))))
  (aF (bP (dA av de dh bT (pv 5) (aM (pv 8))))
  (aE (psz 6 nd (aN cL (pv 6) (pv 9)))))) aS)))
  (aE (aK (aW (aC (zJ bV m_tuple eh (aM (pv 5))) (aC (pv 6) (aM (pv 2)))))))))),?_⟩
 have rp:=mW m;refine⟨az _,fun lo hlo=>?_⟩;obtain⟨_,nlo,_,nln⟩:=W0.new hlo;have nko:kn≠lo:=aJ hk hlo;obtain⟨H1,e0,s1,g1⟩:=nV hlo (.lst []);rw[e0];clear e0;have R12:lN m<=12:=by
  rcases m with _|_|m<;>simp only[lN]<;>lia
 refine⟨_,rfl,n,rfl,by lia,by lia,jR (n:=(n:Int).toNat) (fun i σ G=>∃(knc:Addr) (kc:List Str) (rs:List Rw) (tl rr:Int) (v7 v8 v9:Option V),σ=[some (.ref d),some (.ref sc),some (.ref knc),some (.int deep),some (.int n),some (.ref lo),some (.int tl),v7,v8,v9]/\We G d l sc nl kd wd xs rr bb/\bb*(iA rs:Int)+rr<=rm/\eX [d,l,sc] H G/\G lo=some (.lst (bG rs))/\aP G rs/\sW kd ks xs rs kc tl m i/\(knc=kn\/H knc=none)/\knc≠l/\knc≠lo/\G knc=some (.lst (kc.map V.str)))
  ⟨kn,ks,[],0,rm,_,_,_,rfl,W0.same s1,by have e:iA []=0:=rfl;rw[e];lia,eX.of s1,g1,trivial,sW.nil,.inl rfl,nk,nko,s1 _ _ hk⟩ ?_ ?_⟩
 ·rintro D' N i hN σ G hi ⟨knc,kc,rs,tl,rr,v7,v8,v9,rfl,W2,ld2,o2,g2,hr2,b2,q2,n2l,n2o,hk2⟩;have i1:i+1<=n:=by lia
  have mul1:(i+1)*lN m<=n*lN m:=jd _ i1;have mul2:(i+1)*lN m=i*lN m+lN m:=oo _ _;have sl:=iI.len rs b2.sc;have ct:=b2.ct;have ln:=iL rs;obtain⟨lf,gl⟩:=W2.gLeft;refine⟨_,rfl,sc,_,rfl,gl,_,_,rfl,rfl,_,rfl,?_⟩;refine oE (fun _=>?_) (fun _=>(hN _ _ ⟨knc,kc,rs,tl,rr,_,_,_,rfl,W2,ld2,o2,g2,hr2,b2.mono (by lia),q2,n2l,n2o,hk2⟩));refine⟨_,rfl,_,rfl,_,rfl,_,rfl,d,l,sc,nl,knc,kd,wd,rr,bb,xs,kc,deep,rfl,W2,hk2,n2l,by lia,hm,hd,hbb,fun p3 kn3 r3 k3 t3 rr3 H3 W3 ld3 o3 h3 hr3 b3 q3 hk3=>?_⟩;refine⟨p3,_,rfl,aQ.of h3,rfl,_,_,rfl,_,_,rfl,_,_,rfl,rfl,?_⟩;have g3:=W2.keep g2 nlo o3;have n3l:kn3≠l:=by
   rcases q3 with z|z
   ·rw[z];exact n2l
   ·exact(W2.new z).2.1
  have n3o:kn3≠lo:=by
   rcases q3 with z|z
   ·rw[z];exact n2o
   ·exact(aJ g2 z).symm
  refine⟨_,rfl,.inl ⟨rfl,_,bA.of g3⟩,_,rfl,lo,_,_,rfl,rfl,g3,by rw[bD];exact aR (by lia),?_⟩;have tN:=TS.lst (ys:=bG rs++[.ref r3.p]) g3;have hR:=aP.app (qs:=[r3]) (aP.ts ((W2.ts o3).trans tN) rs hr2) ⟨dF.ts tN r3 hr3,trivial⟩;refine⟨_,rfl,_,rfl,_,_,rfl,rfl,?_⟩;refine(hN _ _ ⟨kn3,k3,rs++[r3],tl+t3,rr3,_,_,_,rfl,W3.lst (zs:=bG rs++[.ref r3.p]) g3 nlo nln,by rw[nA,show iA [r3]=lV r3 from Nat.add_zero _,uz,Int.mul_add];lia,(o2.trans o3).new hlo,by rw[aB,dW];rfl,hR,b2.snoc b3,?_,n3l,n3o,(aG n3o).trans hk3⟩);rcases q3 with z|z
  ·rw[z];exact q2
  ·exact .inr (o2.fresh W2.all z)
 rintro σ G ⟨knc,kc,rs,tl,rr,v7,v8,v9,rfl,W2,ld2,o2,g2,hr2,b2,q2,n2l,n2o,hk2⟩;refine⟨_,rfl,lo,_,rfl,.inl ⟨bA.of g2,fun t ht=>⟨_,rfl,_,rfl,by show 3<=sizeLine;decide,fun p hp=>?_⟩⟩⟩;have s9:=aA ht (.tup (bG rs));have s10:=aA hp (.tup [.ref t,.int tl,.ref knc]);have sA:=s9.trans s10;exact k p t knc rs kc tl rr _ (W2.same sA) ld2 (o2.trans (eX.of sA)) aB (s10 _ _ aB) (aP.ts (.of sA) _ hr2) b2 q2 (sA _ _ hk2)
theorem bE5(C_Rws46:Cl P w K mg base 13 (oK 2) "_law_rows")(C_Draw:Cl P w K mg base 1 spDraw "_law_draw")(C_Trm46:Cl P w K mg base 4 (rJ 3) "_law_term")(m_len:mg "len"=none)(m_tuple:mg "tuple"=none):eF P w K mg base "_law_program" "_law_program" aR9 14 ["_law_deal_here","_law_kinds","_law_names_here","_law_room"] spPrgE:=by
 refine fF ["_law_deal_here","_law_kinds","_law_names_here","_law_room","_law_scene","_law_rows_here","_law_tells","_law_known"] fun H Q nd hr h=>?_
 obtain⟨d,l,kl,nl,ks,xs,rfl,D,hk,nk,k1,k3,hn,nn,x1,x9,k⟩:=h;refine⟨_,(dJ 4 nd (aG9 (fN aI (sU bO m_len fk (aM (pv 1))) (fN aI (pv 2) (fN aI (pv 3) (fN aI aD (fN aI aD (fN aI aD aG0)))))) rfl rfl (by decide) (by decide))
  (aF (rC (bM C_Rws46 hr (aC (pv 0) (aC (pv 4) (aC (bJ bX) (aC aD (aM (aN cL aD (bM C_Draw hr (aC (pv 0) (aM aD)))))))))) (iP rfl (aZ (eT 5 nd) (aZ (eT 6 nd) (aZ (eT 7 nd) eY)))))
  (aE (aK (aW (aC (zJ bV m_tuple eh (aM (pv 1))) (aM (aN qJ (pv 5) (aW (aM (aW (aC aI (aM (bM C_Trm46 hr (aC (pv 0) (aC (pv 7) (aM aD))))))))))))))))),?_⟩
 refine fun sc hsc=>⟨_,rfl,kl,_,rfl,.inl (bA.of (aA hsc (.dK []) _ _ hk)),_,rfl,_,rfl,aB,iR ks.length nl 6 1 9 3,by rw[aa];rfl,by show 6<=15;decide,?_⟩
 rw[bH6,tR (acc:=[]) (more:=iR ks.length nl 6 1 9 3) (show tO.Nodup from sM)];have s1:=aA hsc (.dK ([]++iR ks.length nl 6 1 9 3));have h1:aL H sc (.dK ([]++iR ks.length nl 6 1 9 3)) sc=some (.dK (iR ks.length nl 6 1 9 3)):=aB;generalize aL H sc (.dK ([]++iR ks.length nl 6 1 9 3))=H1 at s1 h1 ⊢;have W1:We H1 d l sc nl ks.length 3 xs 6 1:=⟨D.same s1,⟨_,h1⟩,s1 _ _ hn,(kI D hsc).1,nn,x1,x9,by lia,by lia,by decide,by decide,by decide,by decide⟩
 have hk1:=s1 _ _ hk;refine⟨_,rfl,_,rfl,az _,fun kn hkn=>?_⟩;have nkn:=(W1.new hkn).2.1;have s2:=aA hkn (.lst []);have h2:aL H1 kn (.lst []) kn=some (.lst (([]:List Str).map V.str)):=aB;generalize aL H1 kn (.lst [])=H2 at s2 h2 ⊢;have W2:=W1.same s2;refine⟨_,rfl,d,l,6,rfl,W2.deal,by decide,by decide,fun y H3 y0 y1 D3 o3=>⟨_,_,rfl,rfl,?_⟩⟩;have W3:=W2.out D3 o3;have hk3:=bB W2.deal (s2 _ _ hk1) nk o3;have h3:=bB W2.deal h2 nkn o3;have oA:=(fH.of (d:=d) (l:=l) (s1.trans s2)).trans o3;obtain⟨n,hn',n6⟩:∃n:Nat,1+y=(n:Int)/\n<=6:=⟨(1+y).toNat,by lia,by lia⟩
 refine⟨d,l,sc,nl,kn,ks.length,3,6,1,xs,[],0,n,by show [_,_,_,_,V.int (1+y)]=_;rw[hn'],W3,h3,nkn,by simp only[lN,List.length_nil];lia,by decide,n6,by decide,fun _=>rfl,fun p4 pr4 kn4 rs4 k4 t4 r4 H4 W4 ld4 o4 h4 hp4 hr4 b4 q4 hk4=>?_⟩;refine⟨p4,_,rfl,aQ.of h4,rfl,_,_,rfl,_,_,rfl,_,_,rfl,rfl,?_⟩;have hkl4:=W3.keep hk3 nk o4;have n4l:kn4≠l:=by
  rcases q4 with z|z
  ·rw[z];exact nkn
  ·exact(W3.new z).2.1
 have oB:=bN1 oA hsc o4;have ct:=b4.ct;simp only[lN] at ct;have sl:=iI.len rs4 b4.sc;have ln:=iL rs4;simp only[List.length_nil] at sl;refine⟨_,rfl,kl,_,rfl,.inl ⟨bA.of hkl4,fun kt hkt=>?_⟩⟩;obtain⟨H5,e0,s5,h5⟩:=nV hkt (.tup (ks.map V.str));rw[e0];clear e0;refine⟨_,rfl,_,rfl,_,rfl,d,l,kn4,k4,7,rfl,W4.deal.same s5,s5 _ _ hk4,n4l,by lia,by decide,by decide,fun t6 H6 D6 o6 h6 ok6 nm6 sz6=>⟨dE,fun q hq=>⟨lK,fun u hu'=>?_⟩⟩⟩;have t56:=TS.out (W4.deal.same s5) o6;have s7:=aA hq (.tup [.str "tell",.ref t6.p]);have s8:=aA hu' (.tup [.ref q]);have hq8:aL (aL H6 q (.tup [.str "tell",.ref t6.p])) u (.tup [.ref q]) q=_:=s8 _ _ aB;have hu8:aL (aL H6 q (.tup [.str "tell",.ref t6.p])) u (.tup [.ref q]) u=some (.tup [.ref q]):=aB;have s78:=s7.trans s8;generalize aL (aL H6 q (.tup [.str "tell",.ref t6.p])) u (.tup [.ref q])=H8 at s78 hq8 hu8 ⊢;refine⟨pr4,u,_,_,rfl,rfl,(t56.trans (.of s78)) _ _ (s5 _ _ hp4),hu8,by rw[bD];exact cu (aR (by show _+1<=_;lia)),fun pr H9 s9 h9=>⟨dE,fun p hp=>?_⟩⟩
 have s10:=aA hp (.tup [.ref kt,.ref pr]);have sA:=s78.trans (s9.trans s10);have tA:=t56.trans (.of sA);have e9:bG rs4++[V.ref q]=bG (rs4++[.tell q t6]):=by rw[dW];rfl
 rw[e9] at h9;have g:RwE ks.length k4 xs (.tell q t6) k4 1 2:=aX2 nm6 (by lia);have b:=b4;have cl:=(iI.app (ks:=[]) b4.sc g.sc).clo;have r0:=W4.r0;have nm:∀y∈pH (rs4++[.tell q t6]),y∈xs:=fun x hx=>by
  rcases cl.1 x hx with e|e
  ·cases e
  ·rw[wC] at e;rcases bu.mp e with e|e
   ·exact b4.st x e
   ·exact g.st x e
 refine k p (rs4++[.tell q t6]) _ (D6.same sA) ((oB.trans (.of s5)).trans (o6.trans (.of sA))) ⟨⟨kt,pr,aB,tA _ _ h5,s10 _ _ h9⟩,aP.app (qs:=[.tell q t6]) (aP.ts ((TS.of s5).trans tA) _ hr4) ⟨⟨(s9.trans s10) _ _ hq8,h6.ts (.of sA),ok6,by lia⟩,trivial⟩,?_,⟨_,iI.app (ks:=[]) b4.sc g.sc⟩,cD.app b4.tk ⟨g.tk,trivial⟩,?_,k1,k3,vN b4.dp g.dp,jS.app b4.tz ⟨g.tz,trivial⟩,(Few.len x9).sub nm,by decide⟩ (b4.kd.app g.kd) (by rw[nA,show iA [.tell q t6]=0 from rfl];lia) nm
 ·rw[mQ];simp only[bS,Rw.cnt];lia
 ·have t0:=b4.t0;rw[rN,b4.tl];simp only[fB,zQ];lia
theorem bC4(C_Draw:Cl P w K mg base 1 spDraw "_law_draw")(m_range:mg "range"=none)(m_len:mg "len"=none)(m_int:mg "int"=none):eF P w K mg base "_law_names" "_law_names" bA6 2 ["_law_deal_here","_law_many"] spNamesE:=by
 refine fF ["_law_deal_here","_law_many","_law_letters","_law_kept","_law_core","_law_at","_law_turn","_law_found","_law_k","_law_name"] fun H Q nd hr h=>?_
 obtain⟨d,l,m,rfl,D,m0,m9,k⟩:=h;refine⟨_,(@aF _ _ _ _ _ (psz 2 nd aI)
  (@aF _ _ _ _ _ (@kQ _ _ 3 _ _ _ _ nd rfl (ji rfl) (@aW _ _ _ _ _ (@aC _ _ _ _ _ aI (@aC _ _ _ _ _ aI (@aC _ _ _ _ _ aI (@aC _ _ _ _ _ aI (@aC _ _ _ _ _ aI (@aC _ _ _ _ _ aI (@aC _ _ _ _ _ aI (@aC _ _ _ _ _ aI (@aC _ _ _ _ _ aI (@aC _ _ _ _ _ aI (@aC _ _ _ _ _ aI (@aC _ _ _ _ _ aI bX rfl) rfl) rfl) rfl) rfl) rfl) rfl) rfl) rfl) rfl) rfl) rfl)) rfl (ji rfl))
  (@aF _ _ _ _ _ (psz 4 nd (dA PySem.F.plainAttrs_str PySem.F.slot_str_join PySem.F.type_str_join bQ0 aI (aM (cH ["_law_k","_law_letters","_law_deal_here"] [none,some 2,some 0] (dL (by rfl) m_range (aM (bM C_Draw hr (aC (pv 0) (aM aD))))) (fun _ _ _ _=>(eT 0)) (fun _ _ _ _=>eA) (fun _ _ _ _=>(bL aB2 (pv 1) (bM C_Draw hr (aC (pv 2) (aM aD)))))))))
  (@aF _ _ _ _ _ (psz 5 nd (bM C_Draw hr (aC (pv 0) (aM (aN cL (sU vK m_len fk (aM (pv 4))) aD)))))
  (@aF _ _ _ _ _ (psz 6 nd (bM C_Draw hr (aC (pv 0) (aM aD))))
  (@aF _ _ _ _ _ (psz 7 nd (bJ bX))
  (@aF _ _ _ _ _ (wV (dL (by rfl) m_range (aM (pv 1))) (eT 8 nd)
  (dJ 9 nd (aN lX (aN lX (fK aS3 (pv 4) iN (fX (pv 5))) (bL aB2 (pv 2) (aN iE (aN cL (pv 6) (aN fW aD (pv 8))) aD))) (fK aS3 (pv 4) (fX (pv 5)) iN))
  (aE (bP (dA av de dh bT (pv 7) (aM (aN lX (pv 9) (aN aE5 aI (zJ pG m_int qj (aM (uX cY (pv 9) (pv 3))))))))))))
  (@aE _ _ _ (aK (pv 7)))))))))),?_⟩
 refine⟨by show 12<=sizeLine;decide,fun t ht=>?_⟩;have D0:=D.same (aA ht (.tup [.str "kinds",.str "ladder",.str "flat",.str "choose",.str "first",.str "let",.str "tell",.str "when",.str "else",.str "times",.str "end",.str "of"]));have o0:=fH.of (d:=d) (l:=l) (aA ht (.tup [.str "kinds",.str "ladder",.str "flat",.str "choose",.str "first",.str "let",.str "tell",.str "when",.str "else",.str "times",.str "end",.str "of"]));have h0:aL H t (.tup [.str "kinds",.str "ladder",.str "flat",.str "choose",.str "first",.str "let",.str "tell",.str "when",.str "else",.str "times",.str "end",.str "of"]) t=some (.tup (aG3.map V.str)):=aB;have f0:= @aO.free _ _ (aA ht (.tup [.str "kinds",.str "ladder",.str "flat",.str "choose",.str "first",.str "let",.str "tell",.str "when",.str "else",.str "times",.str "end",.str "of"]));generalize aL H t (.tup [.str "kinds",.str "ladder",.str "flat",.str "choose",.str "first",.str "let",.str "tell",.str "when",.str "else",.str "times",.str "end",.str "of"])=H0 at D0 o0 h0 f0 ⊢
 have k:∀(p:Addr) (ws:List Str) (a b:Str) (tn:Int) (H':Hp),dR H' d l->fH d l H0 H'->H0 p=none->H' p=some (.lst (ws.map V.str))->ws.length=m.toNat->a.length+b.length<=6->aL7 a b tn ws->Q (.ref p) H':=fun p ws a b tn H' D' o' f'=>k p ws a b tn H' D' (o0.trans o') (f0 f')
 clear o0 f0;refine⟨rfl,_,rfl,d,l,7,rfl,D0,by decide,by decide,fun n0 H1 n1 n2 D1 o1=>⟨n0,rfl,by lia,by lia,?_⟩⟩;refine fU (fun i ys σ G=>dR G d l/\fH d l H0 G/\(∃v,σ=[v,some (.str "abcdefghijklmnopqrstuvwxyz"),some (.ref d)])/\∃zs:List Str,ys=zs.map V.str/\zs.length=i/\∀z∈zs,z.length=1) (aR (by lia)) ⟨D1,o1,⟨_,rfl⟩,[],rfl,rfl,fun _ z=>nomatch z⟩
  (by rintro i ys σ G ⟨_,_,_,zs,e,e2,_⟩;rw[e,aa];lia) ?_ ?_
 ·rintro i ys σ G hi ⟨D2,o2,⟨v,rfl⟩,zs,rfl,hl,h1⟩;refine⟨_,rfl,_,rfl,d,l,26,rfl,D2,by decide,by decide,fun r H3 r0 r1 D3 o3=>?_⟩;obtain⟨c,hc⟩:=bT1 (z:="abcdefghijklmnopqrstuvwxyz") r0 r1;refine⟨_,r,c,rfl,rfl,by decide,hc,D3,o2.trans o3,⟨_,rfl⟩,zs++[⟨#[c]⟩],by rw[bo];rfl,by rw[ap,hl];rfl,fun z hz=>?_⟩;rcases bu.mp hz with q|q
  ·exact h1 z q
  ·have e:z=⟨#[c]⟩:=by simpa using q
   rw[e];rfl
 rintro ys σ H2 ⟨D2,o2,_,zs,rfl,hl,h1⟩ p hp;have hsm:=zB h1;refine⟨_,p,zs,rfl,rfl,bA.of aB,by rw[hsm];show zs.length+zs.length*0<=_;lia,?_⟩;have hj:=bF4 "" zs;rw[hsm] at hj;have e0:("": Str).length=0:=rfl;rw[e0] at hj;have D3:=D2.same (aA hp (.lst (zs.map V.str)));have o3:=o2.trans (fH.of (d:=d) (l:=l) (aA hp (.lst (zs.map V.str))));have h03:=aA hp (.lst (zs.map V.str)) _ _ (TS.out D0 o2 _ _ h0);generalize aL H2 p (.lst (zs.map V.str))=H3 at D3 o3 h03 ⊢;generalize Txt.join "" zs=cr at hj ⊢;have c6:cr.length<=6:=by lia
 have cz:cr.length<=sizeLine:=cu (aR (by lia));refine⟨_,rfl,_,rfl,cr,rfl,cz,_,_,rfl,rfl,d,l,_,rfl,D3,by lia,by lia,fun at' H4 a0 a1 D4 o4=>?_⟩;refine⟨_,rfl,d,l,26,rfl,D4,by decide,by decide,fun tn' H5 b0 b1 D5 o5=>?_⟩;have oA:=o3.trans (o4.trans o5);refine⟨az _,fun lf hlf=>?_⟩;have nf:=aM7 D5 oA hlf;have L6:pK (aL H5 lf (.lst [])) d l lf []:=pK.new D5 hlf;have o6:=oA.trans (fH.of (d:=d) (l:=l) (aA hlf (.lst [])));have t5:=aA hlf (.lst []) _ _ (TS.out D4 o5 _ _ (TS.out D3 o4 _ _ h03));generalize aL H5 lf (.lst [])=H6 at L6 o6 t5 ⊢;refine⟨_,rfl,m,rfl,by lia,by lia,jR (n:=m.toNat) (fun i σ G=>∃(ws:List Str) (v7 v8:Option V),σ=[some (.ref d),some (.int m),some (.str "abcdefghijklmnopqrstuvwxyz"),some (.ref t),some (.str cr),some (.int at'),some (.int tn'),some (.ref lf),v7,v8]/\pK G d l lf (ws.map V.str)/\fH d l H0 G/\G t=some (.tup (aG3.map V.str))/\ws.length=i/\aL7 (Txt.slice cr none (some at')) (Txt.slice cr (some at') none) tn' ws)
  ⟨[],_,_,rfl,L6,o6,t5,rfl,fun _ _ z=>nomatch z⟩ ?_ ?_⟩
 ·rintro D' N i hN σ G hi ⟨ws,v7,v8,rfl,L7,o7,t7,hw,hb⟩;have hc:=bP7 tn' i;generalize hlt:aK1 tn' i=c at hc;have t1:=oh cr none (some at');have t2:=oh cr (some at') none;have q26:(0:Int)<26:=by decide
  have z1:(Txt.slice cr none (some at')).length+(⟨#[c]⟩:Str).length<=7:=by show _+1<=7;lia
  have z2:(Txt.slice cr none (some at')++(⟨#[c]⟩:Str)).length<=7:=by rw[ni];exact z1
  refine⟨_,rfl,_,rfl,_,rfl,cr,rfl,cz,_,rfl,_,rfl,_,rfl,_,_,rfl,rfl,.inl ⟨by decide,by decide⟩,_,_,rfl,rfl,_,_,rfl,rfl,q26,_,_,c,rfl,rfl,by decide,hc,_,_,rfl,rfl,cj z1 (by decide),_,rfl,_,rfl,_,rfl,cr,rfl,cz,_,_,rfl,rfl,cu (aR (by lia)),?_⟩;have z3:(Txt.slice cr none (some at')++(⟨#[c]⟩:Str)++Txt.slice cr (some at') none).length<=13:=by rw[ni];lia
  have ew:Txt.slice cr none (some at')++(⟨#[c]⟩:Str)++Txt.slice cr (some at') none=zO (Txt.slice cr none (some at')) (Txt.slice cr (some at') none) tn' i:=by rw[<-hlt];rfl
  generalize Txt.slice cr none (some at')++(⟨#[c]⟩:Str)++Txt.slice cr (some at') none=wd at z3 ew ⊢;refine⟨_,rfl,.inl ⟨rfl,_,bA.of L7.lst⟩,_,rfl,_,rfl,_,rfl,t,_,rfl,.inr (aQ.of t7),rfl,oI aG3,.inr ⟨_,rfl,?_⟩⟩;have qe:=aZ7;have fin:∀w':Str,(w'=wd\/w'=wd++"q")->N [some (.ref d),some (.int m),some (.str "abcdefghijklmnopqrstuvwxyz"),some (.ref t),some (.str cr),some (.int at'),some (.int tn'),some (.ref lf),some (.int (0+(i:Int))),some (.str wd)] (aL G lf (.lst (ws.map V.str++[.str w']))):=fun w' hw' =>
   hN _ _ ⟨ws++[w'],_,_,rfl,by rw[bo];exact L7.app _,bN3 o7 nf,TS.lst L7.lst _ _ t7,by rw[ap,hw];rfl,aM2 hb hw (by rw[ew] at hw';exact hw')⟩
  generalize wN (V.str wd) (aG3.map V.str)=kb
  cases kb with
  |true=>exact⟨_,_,rfl,rfl,rfl,.inr rfl,_,_,rfl,rfl,by show _+1<=_;exact cu (aR (by lia)),lf,_,_,rfl,rfl,L7.lst,aR (by rw[aa];lia),fin _ (.inr rfl)⟩
  |false=>exact⟨_,_,rfl,rfl,rfl,.inl rfl,_,_,rfl,rfl,by show _+0<=_;exact cu (aR (by lia)),lf,_,_,rfl,rfl,L7.lst,aR (by rw[aa];lia),fin _ (.inl (aZ2 wd))⟩
 ·rintro σ G ⟨ws,v7,v8,rfl,L7,o7,_,hw,hb⟩;have t1:=bO3 c6 a0 a1;exact⟨_,rfl,k lf ws _ _ _ G L7.deal o7 nf L7.lst hw (by lia) hb⟩
theorem cG4(C_Sts:Cl P w K mg base 3 spSteps "steps_of")(C_Bgn:Cl P w K mg base 1 spBegins "begins_rows")(m_tuple:mg "tuple"=none)(m_len:mg "len"=none):bV2 P w K mg base "rebuilt" "rebuilt" cM5 105 103 ["rows","change"] spRb:=by
 refine cT0 ["rows","change","blocks","word","row","number","many","inner"] (fun Λ cv H Q nd hr hg hz h=>?_) (by intro _ _ _ _ _ _ h;first|(cases h;subst_vars;rfl)|((repeat obtain⟨_,h⟩:=h);subst_vars;rfl));obtain⟨p,f,rs,Chg,Rq,rfl,hp,hR,hc,mono,rq0,rqW,rqT,hch,k⟩:=h;obtain rfl:=V.ref.inj (dt (show some (V.ref f)=some (V.ref _) from hg));refine⟨_,(dJ 2 nd (bJ (aM (bJ bX)))
  (aF (wV (bW (bM C_Sts hr (aM (pv 0)))) (iP rfl (aZ (eT 3 nd) (aZ (eT 4 nd) (aZ (eT 5 nd) eY))))
  (aE (bC (fE (bM C_Bgn hr (aC (pv 3) (aM (pv 4))))) (aE (bP (dA av de dh bT (pv 2) (aM (bJ bX))))) (aE (bC (eG bR (pv 3) aI) (aE (bP (dA av eu fc dP (bL eJ (pv 2) pJ) (aM (cQ7 (i:=1) Λ hz hr (aC (pv 4) (aM (pv 5)))))))) (dJ 6 nd (sU bO m_len fk (aM (fK vO (pv 4) (fX aD) iN)))
  (dJ 7 nd (zJ bV m_tuple eh (aM (cH ["block"] [none] (bW (fK wL (pv 2) (fX (bD6 aA3 (pv 6))) iN)) (fun _ _ _ _=>(eT 0)) (fun _ _ _ _=>eA) (fun _ _ _ _=>(zJ (cD5 K) m_tuple eh (aM (pv 0)))))))
  (dJ 2 nd (fK wL (pv 2) iN (fX (bD6 aA3 (pv 6))))
  (aE (bP (dA av eu fc dP (bL eJ (pv 2) pJ) (aM (cQ7 (i:=1) Λ hz hr (aC (aN qJ (fK vO (pv 4) iN (fX aD)) (pv 7)) (aM (pv 5))))))))))))))))
  (aE (aK (zJ bV m_tuple eh (aM (bL eJ (pv 2) aD))))))),?_⟩
 refine⟨az _,fun a0 ha0=>⟨lK,fun lb0 hlb0=>?_⟩⟩;have s0:=(aA ha0 (.lst [])).trans (aA hlb0 (.lst [.ref a0]));have ga0:=aA hlb0 (.lst [.ref a0]) _ _ (show aL H a0 (.lst []) a0=some (.lst []) from aB);have gl0:aL (aL H a0 (.lst [])) lb0 (.lst [.ref a0]) lb0=some (.lst [.ref a0]):=aB;have n0:a0≠lb0:=aJ (show aL H a0 (.lst []) a0=some (.lst []) from aB) hlb0;have fl0:H lb0=none:=(aA ha0 (.lst [])).free hlb0;generalize aL (aL H a0 (.lst [])) lb0 (.lst [.ref a0])=H0 at s0 ga0 gl0 ⊢;refine⟨_,rfl,p,rs,rfl,s0 _ _ hp,aP.ts (.of s0) rs hR,hc,fun ls zs H2 s2 f2 h2 t2=>?_⟩;have s02:=s0.trans s2;have hR2:=aP.ts (.of s02) rs hR;have wd:=aP.wd rs hR;have zl:=t2.length;have sl:=dM rs 0;have nl1:ls≠a0:=(aJ ga0 f2).symm;have nl2:ls≠lb0:=(aJ gl0 f2).symm;have ga2:=s2 _ _ ga0;have gl2:=s2 _ _ gl0;have tsO:∀{G:Hp},eX [a0,lb0] H2 G->TS H2 G:=fun {G} o q xs e=>o q _ e fun z=>by
  simp only[List.mem_cons,List.not_mem_nil,or_false] at z;rcases z with z|z
  ·rw[z,ga2] at e;cases e
  ·rw[z,gl2] at e;cases e
 have smO:∀{G:Hp},eX [a0,lb0] H2 G->aO H G:=fun {G} o q u e=>o q _ (s02 _ _ e) fun z=>by
  simp only[List.mem_cons,List.not_mem_nil,or_false] at z;rcases z with z|z
  ·rw[z,ha0] at e;cases e
  ·rw[z,fl0] at e;cases e
 have lsO:∀{G:Hp},eX [a0,lb0] H2 G->G ls=some (.lst zs):=fun {G} o=>o _ _ h2 fun z=>by
  simp only[List.mem_cons,List.not_mem_nil,or_false] at z;exact z.elim nl1 nl2
 refine⟨ls,rfl,⟨_,bA.of h2⟩,dQ (K:=K) (a:=ls) (xs:=zs) (fun i σ G=>∃(lb:Addr) (as:List Addr) (c:BSt) (v3 v4 v5 v6 v7:Option V),σ=[some (.ref p),some (.ref f),some (.ref lb),v3,v4,v5,v6,v7]/\eX [a0,lb0] H2 G/\G lb=some (.lst (as.reverse.map V.ref))/\(lb::as).Nodup/\(∀b∈lb::as,b∈[a0,lb0]\/H2 b=none)/\mH G i as c/\gP (Chg G) ((bU 0 rs).take i) [[]] c/\dH bd ((bU 0 rs).take i) 1=some c.length/\c.length<=i+1)
  ⟨lb0,[a0],[[]],_,_,_,_,_,rfl,eX.refl _,gl2,by simp[n0.symm],fun b hb=> .inl (by simpa [or_comm] using hb),⟨⟨ga2,trivial,af _⟩,trivial⟩,rfl,rfl,af _⟩ (by rintro i σ G _ ⟨_,_,_,_,_,_,_,_,_,o,_⟩;exact bA.of (lsO o)) ?_ ?_⟩
 ·have rm:∀{G G':Hp}{l:List Stp}{c d:BSt},TS G G'->gP (Chg G) l c d->gP (Chg G') l c d:=fun t r=>r.mono fun n r o=>mono _ _ n r o t
  rintro D' N i hN v σ G hv ⟨lb,as,c,v3,v4,v5,v6,v7,rfl,oG,gb,nd1,fr,bk,run,dp,cl⟩;obtain⟨s,hs,q,rfl,hq⟩:=gF t2 hv;have il:=(aq.mp hs).1;have hrs:=dF.ts (tsO oG) _ (eI rs 0 hR2 s (bj hs));obtain⟨m',bm,bm2⟩:=wP bd (lD rs 0 1 wd (af _)) hs dp;refine⟨q,_,rfl,aQ.of (tsO oG _ _ hq),rfl,_,_,rfl,_,_,rfl,_,_,rfl,rfl,?_⟩;refine⟨_,rfl,_,rfl,s,rfl,hrs,fun G1 s1=>⟨_,rfl,?_⟩⟩;have oG:=oG.trans (eX.of s1);have gb:=s1 _ _ gb;have bk:=bk.at (.of s1) (af _) fun a _ o e=>s1 a o e
  have hrs:=dF.ts (.of s1) _ hrs;have run:=rm (.of s1) run;clear s1;have etk:=aY hs;obtain⟨nla,nda⟩:=du.mp nd1;have bl:=bk.len
  by_cases co:eN s=true
  ·refine bE co ⟨_,rfl,.inl ⟨rfl,_,bA.of gb⟩,az _,fun a ha=>?_⟩;have sa:=aA ha (.lst []);have nba:=aJ gb ha;have fa:=aJ9 oG ha;have ga:aL G1 a (.lst []) a=some (.lst []):=aB;generalize aL G1 a (.lst [])=G2 at sa ga ⊢;refine⟨lb,_,_,rfl,rfl,sa _ _ gb,by rw[aa,fh];exact fC (by lia),?_⟩;have tN:=TS.lst (ys:=as.reverse.map V.ref++[.ref a]) (sa _ _ gb);have em:m'=c.length+1:=by
    unfold bd at bm;rw[br co] at bm;exact(dt bm).symm
   have naa:a∉as:=fun z=>by
    obtain⟨o,e⟩:=bk.mem a z;rw[ha] at e;cases e
   refine(hN _ _ ⟨lb,a::as,[]::c,_,_,_,_,_,rfl,vQ (oG.trans (eX.of sa)) (fr lb ao),by rw[aB,dr,bo];rfl,?_,fun b hb=>?_,⟨⟨(aG nba.symm).trans ga,trivial,az _⟩,bk.at ((TS.of sa).trans tN) (iq i) fun b hb o e=>(aG fun z=>nla (by rw[<-z];exact hb)).trans (sa _ _ e)⟩,?_,?_,by rw[bx];lia⟩)
   ·rw[du,du];exact⟨fun z=>by
     rcases bw.mp z with z|z
     ·exact nba z
     ·exact nla z,naa,nda⟩
   ·rcases bw.mp hb with z|z
    ·rw[z];exact fr lb ao
    ·rcases bw.mp z with z|z
     ·rw[z];exact fa
     ·exact fr b (ak _ z)
   ·rw[etk];exact(rm ((TS.of sa).trans tN) run).snoc (by unfold gJ;rw[br co])
   ·rw[bm2,em,bx]
  ·refine aV co ⟨_,rfl,rfl,_,rfl,?_⟩
   by_cases cr:s.1="row"
   ·refine bE (by rw[cr];exact ai rfl) ?_;have bm:=bm;unfold bd at bm;rw[ay co,br cr] at bm;obtain⟨B,st,rfl⟩:∃B st,c=B::st:=by
     cases c with
     |nil=>rw[ay (by decide)] at bm;cases bm
     |cons B st=>exact⟨B,st,rfl⟩
    rw[br (by rw[bx];lia)] at bm;obtain⟨a,as',rfl⟩:∃a as',as=a::as':=by
     cases as with
     |nil=>exact bk.elim
     |cons a as'=>exact⟨a,as',rfl⟩
    obtain⟨⟨ga,hB,lB⟩,bk⟩:=bk;refine⟨_,rfl,lb,_,_,.ref a,rfl,rfl,bA.of gb,by rw[dr,bo];exact qA,.inl ⟨rfl,_,bA.of ga⟩,rfl,_,rfl,_,rfl,_,_,rfl,hch s.2.1 s.2.2 G1 _ (smO oG) hrs (rq0 _ (by rw[<-eZ rs 0];exact jh (fj.mpr ⟨bj hs,ai cr⟩)) _ (.of (smO oG))) fun l o G2 s2' hl hro hcg lo=>?_⟩;refine⟨a,l,_,_,rfl,rfl,s2' _ _ ga,hl,by rw[bD,bD];exact cu (fC (by lia)),?_⟩;have tN:=TS.lst (ys:=bG B++bG o) (s2' _ _ ga);have nba:lb≠a:=fun z=>nla (by rw[z];exact ao)
    refine(hN _ _ ⟨lb,a::as',(B++o)::st,_,_,_,_,_,rfl,vQ (oG.trans (eX.of s2')) (fr a (ak _ ao)),(aG nba).trans (s2' _ _ gb),nd1,fr,⟨⟨by rw[aB,dW],aP.app (aP.ts ((TS.of s2').trans tN) _ hB) (aP.ts tN _ hro),by rw[ap];lia⟩,bk.at ((TS.of s2').trans tN) (iq i) fun b hb o e=>(aG fun z=>(du.mp nda).1 (by rw[<-z];exact hb)).trans (s2' _ _ e)⟩,?_,?_,by rw[bx] at cl ⊢;lia⟩)
    ·rw[etk];exact(rm ((TS.of s2').trans tN) run).snoc (by unfold gJ;rw[ay co,br cr];exact⟨B,st,o,rfl,mono _ _ _ _ _ tN hcg,rfl⟩)
    ·rw[bm2, <-bm,bx,bx]
   ·refine aV (fun z=>cr (by have z:=ae z;injection z)) ?_;obtain⟨Bs,B,st,x,y,us,rfl,lB,hu2,em,hp',mk⟩:=bE0 hrs co cr bm;obtain⟨xs',ys',rfl,bk1,bk2⟩:=bk.split;obtain⟨a,as',rfl⟩:∃a as',ys'=a::as':=by
     cases ys' with
     |nil=>exact bk2.elim
     |cons a as'=>exact⟨a,as',rfl⟩
    have bk1r:=bk1.rev;rw[List.reverse_reverse] at bk1r;have zlen:(xs'.reverse.map V.ref).length=us.length:=by rw[aa,bk1r.len,lB]
    have u1:1<=us.length:=by lia
    have gb:G1 lb=some (.lst ((a::as').reverse.map V.ref++xs'.reverse.map V.ref)):=by rw[gb,rj,bo]
    refine⟨_,rfl,_,rfl,s.2.1.p,_,rfl,aQ.of hp',cS0,fun t ht=>?_⟩;rw[cR5];obtain⟨G2,e0,st,gt⟩:=nV ht (.tup us);rw[e0];clear e0;refine⟨t,us,rfl,.inr (aQ.of gt),?_⟩;refine⟨_,rfl,_,rfl,_,rfl,_,rfl,lb,_,rfl,bA.of (st _ _ gb),fun l6 hl6=>?_⟩;rw[bK7 zlen u1];have s6:=st.trans (aA hl6 (.lst (xs'.reverse.map V.ref)));have g6:aL G2 l6 (.lst (xs'.reverse.map V.ref)) l6=some (.lst (xs'.reverse.map V.ref)):=aB;generalize aL G2 l6 (.lst (xs'.reverse.map V.ref))=G6 at s6 g6 ⊢;refine⟨l6,rfl,⟨_,bA.of g6⟩,cS (K:=K) (a:=l6) (xs:=xs'.reverse.map V.ref) (fun j ys σ G'=>aO G6 G'/\(∃v,σ=[v])/\cV (aA2 G') ys (Bs.take j))
     (aR (by lia)) ⟨aO.refl _,⟨_,rfl⟩,trivial⟩ (by rintro j ys σ G' ⟨_,_,e⟩;rw[e.length,dj];lia) (by rintro j ys σ G' _ ⟨e,_⟩;exact bA.of (e _ _ g6)) ?_ ?_⟩
    ·rintro j v ys σ G' hv ⟨sG,⟨v',rfl⟩,tw⟩;rw[di] at hv;obtain⟨b,hb,rfl⟩:=vc.mp hv;obtain⟨B',hB',gB,rB,_⟩:=bk1r.get hb;refine⟨_,rfl,b,_,rfl,.inl ⟨bA.of ((s6.trans sG) _ _ gB),fun t' ht'=>?_⟩⟩;have sn:=aA ht' (.tup (bG B'));refine⟨sG.trans sn,⟨_,rfl⟩,?_⟩;rw[aY hB'];exact aI7 ⟨t',rfl,aB,aP.ts (.of (s6.trans (sG.trans sn))) _ rB⟩ (tw.mono fun _ _ z=>z.ts (.of sn))
    rintro ys σ G7 ⟨sG,_,tw⟩ l7 hl7;rw[zlen, <-lB,cq] at tw;have yl:=tw.length;refine⟨l7,_,rfl,.inl ⟨bA.of aB,fun u hu'=>?_⟩⟩;have s8:=s6.trans (sG.trans ((aA hl7 (.lst ys)).trans (aA hu' (.tup ys))));have tw:=tw.mono fun _ _ z=>aA2.ts (.of ((aA hl7 (.lst ys)).trans (aA hu' (.tup ys)))) z
    have gu:aL (aL G7 l7 (.lst ys)) u (.tup ys) u=some (.tup ys):=aB;generalize aL (aL G7 l7 (.lst ys)) u (.tup ys)=G8 at s8 tw gu ⊢;refine⟨_,rfl,_,rfl,_,rfl,_,rfl,lb,_,rfl,bA.of (s8 _ _ gb),fun lb2 hlb2=>?_⟩;rw[aO3 zlen u1];have s9:=aA hlb2 (.lst ((a::as').reverse.map V.ref));have g9:aL G8 lb2 (.lst ((a::as').reverse.map V.ref)) lb2=some (.lst ((a::as').reverse.map V.ref)):=aB;have f9:=aJ9 (oG.trans (eX.of s8)) hlb2;have s19:=s8.trans s9;have nmem:∀b∈a::as',b≠lb2:=fun b hb z=>by
     obtain⟨o,e⟩:=bk2.mem b hb;rw[z] at e;rw[s8 _ _ e] at hlb2;cases hlb2
    have tw:=tw.mono fun _ _ z=>aA2.ts (.of s9) z
    have gu:=s9 _ _ gu;generalize aL G8 lb2 (.lst ((a::as').reverse.map V.ref))=G9 at s9 g9 s19 tw gu ⊢;obtain⟨⟨ga,hB,lBn⟩,bk3⟩:=bk2;obtain⟨u0,ur,rfl⟩:∃u0 ur,us=u0::ur:=by
     cases us with
     |nil=>exact absurd u1 (by decide)
     |cons u0 ur=>exact⟨u0,ur,rfl⟩
    refine⟨_,rfl,lb2,_,_,.ref a,rfl,rfl,bA.of g9,by rw[dr,bo];exact qA,.inl ⟨rfl,_,bA.of (s19 _ _ ga)⟩,rfl,?_⟩;refine⟨_,rfl,_,rfl,s.2.1.p,_,rfl,aQ.of (s19 _ _ hp'),cK1,fun t2 ht2=>?_⟩;rw[cR1];have s10:=aA ht2 (.tup [x,y]);refine⟨_,rfl,t2,u,_,_,rfl,rfl,aB,s10 _ _ gu,by show 2+_<=_;exact cu (aR (by lia)),fun qn G11 s11 h11=>⟨_,rfl,_,_,rfl,?_⟩⟩;have sB:=s19.trans (s10.trans s11);obtain⟨r',rfl,hr',rqE,mk'⟩:=mk qn ys G11 h11 (tw.mono fun _ _ z=>z.ts (.of (s10.trans s11))) (.of sB);refine hch r' s.2.2 G11 _ (smO (oG.trans (eX.of sB))) hr' (rqE (Rq G11) (rqW G11) (rqT G11)) fun l o G12 s12 hl hro hcg lo=>?_
    have sC:=sB.trans s12;refine⟨a,l,_,_,rfl,rfl,sC _ _ ga,hl,by rw[bD,bD];exact cu (fC (by lia)),?_⟩;have tN:=TS.lst (ys:=bG B++bG o) (sC _ _ ga);have nd2:=(jf.mp nda).2.1;refine(hN _ _ ⟨lb2,a::as',(B++o)::_,_,_,_,_,_,rfl,vQ (oG.trans (eX.of sC)) (fr a (ak _ (be _ ao))),(aG (nmem a ao).symm).trans ((s10.trans (s11.trans s12)) _ _ g9),du.mpr ⟨fun z=>nmem lb2 z rfl,nd2⟩,fun b hb=>?_,⟨⟨by rw[aB,dW],aP.app (aP.ts ((TS.of sC).trans tN) _ hB) (aP.ts tN _ hro),by rw[ap];lia⟩,bk3.at ((TS.of sC).trans tN) (iq i) fun b hb o e=>(aG fun z=>(du.mp nd2).1 (by rw[<-z];exact hb)).trans (sC _ _ e)⟩,?_,?_,?_⟩)
    ·rcases bw.mp hb with z|z
     ·rw[z];exact f9
     ·exact fr b (ak _ (be _ z))
    ·rw[etk];exact(rm ((TS.of sC).trans tN) run).snoc (mk' _ o (mono _ _ _ _ _ tN hcg))
    ·rw[bm2,em];rfl
    ·rw[ap] at cl;rw[bx] at cl ⊢;lia
 ·rintro σ G ⟨lb,as,c,v3,v4,v5,v6,v7,rfl,oG,gb,nd1,fr,bk,run,dp,cl⟩;rw[zl,cq] at run;have run2:=run;obtain⟨o,_,rfl⟩:=jD rs 0 wd run
  match as,bk with
  |[a],⟨⟨ga,hB,_⟩,_⟩ =>
   exact⟨_,rfl,lb,_,_,.ref a,rfl,rfl,bA.of gb,rfl,a,_,rfl,.inl ⟨bA.of ga,fun q hq=>by
    obtain⟨o',ro',e⟩:=jD rs 0 wd (run2.mono fun n r u=>mono _ (aL G q (.tup (bG ([]++o)))) n r u (.of (aA hq _)))
    cases e
    exact k q o _ ((smO oG).trans (aA hq _)) aB (aP.ts (.of (aA hq _)) _ hB) ro'⟩⟩
theorem bC9(n:Nat)(C_Flt46:Cl P w K mg base (n+1) (aI8 n) "_law_flat"):eF P w K mg base "_law_flat" "_law_flat" bB4 (n+1+1) ["_law_rows_here"] (aI8 (n+1)):=by
 refine fF ["_law_rows_here","_law_found","_law_row_here"] fun H Q nd hr h=>?_
 obtain⟨p,rs,rfl,hp,hR,hd,hc,k⟩:=h;refine⟨_,(dJ 1 nd (bJ bX)
  (aF (wV (vC (pv 0)) (eT 2 nd)
  (aF (bP (dA av de dh bT (pv 1) (aM (pv 2))))
  (aF (mR (bC (eG bR (bL aH (pv 2) aD) aI) (aE (bP (dA av eu fc dP (pv 1) (aM (aN gN (bM C_Flt46 hr (aM (bL aH (pv 2) aD))) (bM C_Flt46 hr (aM (bL aH (pv 2) aD)))))))) aS))
  (aE (mR (bC (eG bR (bL aH (pv 2) aD) aI) (aE (bP (dA av eu fc dP (pv 1) (aM (bM C_Flt46 hr (aM (bL aH (pv 2) aD))))))) aS))))))
  (aE (aK (pv 1))))),?_⟩
 refine⟨az _,fun lo hlo=>?_⟩;obtain⟨H1,e0,s1,g1⟩:=nV hlo (.lst []);rw[e0];clear e0;have pne:p≠lo:=aJ hp hlo;have t1:∀{G:Hp},mG lo H1 G->TS H G:=fun {G} b q ys e=>b q _ (s1 _ _ e) (fun z=>by rw[z,hlo] at e;cases e)
 have pl:=fM;have tot:∀n,(cU (rs.take n)).length<=900:=fun n=>by
  have:cU rs=cU (rs.take n)++cU (rs.drop n):=by rw[<-jQ,ke]
  have h2:=eo List.length this;rw[ap,pl] at h2;lia
 refine⟨_,rfl,p,rfl,⟨_,aQ.of (s1 _ _ hp)⟩,zL (K:=K) (a:=p) (xs:=bG rs) (fun i σ G=>∃v2,σ=[some (.ref p),some (.ref lo),v2]/\mG lo H1 G/\G lo=some (.lst (bG (cU (rs.take i)))))
  ⟨_,rfl,mG.refl,g1⟩ (by rintro i σ G _ ⟨_,_,b,_⟩;exact aQ.of (t1 b _ _ hp)) ?_ ?_⟩
 ·rintro D' N i hN v σ G hv ⟨v2,rfl,b1,g2⟩;obtain⟨r,hr0,rfl⟩:=bH2 hv;have hm:=bj hr0;have hR2:=aP.ts (t1 b1) rs hR;have hrr:=aP.mem hR2 r hm;have hdr:r.dp<=n:=cj (zW hm) hd;have e1:cU (rs.take (i+1))=cU (rs.take i)++eU r:=by rw[aY hr0,jQ];simp[cU]
  have t1':=tot (i+1);have t0:=tot i;rw[e1,ap] at t1';have lR:(bG (cU (rs.take i))).length<=900:=by rw[bD];exact t0
  refine⟨_,rfl,.inl ⟨rfl,_,bA.of g2⟩,_,rfl,lo,_,_,rfl,rfl,g2,aR (by lia),?_⟩;have tN:=TS.lst (ys:=bG (cU (rs.take i))++[.ref r.p]) g2;have g3:aL G lo (.lst (bG (cU (rs.take i))++[.ref r.p])) lo=some (.lst (bG (cU (rs.take i)++[r]))):=by rw[aB,dW];rfl
  have b3:=b1.trans (mG.upd (d:=lo) (o:= .lst (bG (cU (rs.take i))++[.ref r.p])));have hrr3:=dF.ts tN r hrr;generalize aL G lo (.lst (bG (cU (rs.take i))++[.ref r.p]))=G3 at g3 b3 hrr3 ⊢;clear b1 g2 tN hrr hR2;have ext:∀{G:Hp}{l:Addr}{L:List Rw}(b:mG lo H1 G),G lo=some (.lst (bG L))->∀zs,mG lo H1 (aL G lo (.lst (bG L++zs))):=fun b _ zs=>b.trans mG.upd
  refine⟨fun σ' G'=>∃L:List Rw,σ'=[some (.ref p),some (.ref lo),some (.ref r.p)]/\mG lo H1 G'/\G' lo=some (.lst (bG (cU (rs.take i)++L)))/\(r.w="when"->L=eU r)/\(r.w≠"when"->L=[r]),?_,?_⟩
  ·refine⟨_,rfl,r.p,_,_,.str r.w,rfl,rfl,aQ.of hrr3.at,iV,rfl,_,rfl,?_⟩
   cases r with
   |when q pa pb t a b =>
    refine bE (ai rfl) ?_;simp only[eU,List.length_cons,List.length_append] at t1';simp only[Rw.dp] at hdr
    cases n with
    |zero=>exact absurd hdr (by lia)
    |succ n =>
    have ca:=fM a;have cb:=fM b;refine⟨_,rfl,.inl ⟨rfl,_,bA.of g3⟩,_,rfl,q,_,_,.ref pa,rfl,rfl,aQ.of hrr3.1,rfl,pa,a,rfl,hrr3.2.2.2.1,hrr3.2.2.2.2.2.1,by lia,by lia,fun l4 H4 s4 h4=>?_⟩;refine⟨_,rfl,q,_,_,.ref pb,rfl,rfl,aQ.of (s4 _ _ hrr3.1),rfl,pb,b,rfl,s4 _ _ hrr3.2.2.2.2.1,aP.ts (.of s4) _ hrr3.2.2.2.2.2.2,by lia,by lia,fun l5 H5 s5 h5=>?_⟩;refine⟨l4,l5,_,_,rfl,rfl,s5 _ _ h4,h5,by rw[bD,bD];exact cu (aR (by lia)),fun l6 hl6=>?_⟩;have s6:=s4.trans (s5.trans (aA hl6 (.lst (bG (cU a)++bG (cU b)))));refine⟨lo,l6,_,_,rfl,rfl,s6 _ _ g3,aB,by rw[ap,bD,bD,bD,ap];exact cu (aR (by simp only[List.length_cons,List.length_nil];lia)),?_⟩;refine⟨eU (.when q pa pb t a b),rfl,(b3.trans (mG.of s6)).trans mG.upd,?_,fun _=>rfl,fun z=>absurd rfl z⟩;rw[aB, <-dW, <-dW];simp[eU]
   |times q pb m b =>
    exact aV (fun z=>absurd (ae z) (by show ¬(V.str "times"=V.str "when");decide)) ⟨[_],rfl,b3,g3,fun z=>absurd z (show ¬("times": Str)="when" by decide),fun _=>rfl⟩
   |lt q x t=>exact aV (fun z=>absurd (ae z) (by show ¬(V.str "let"=V.str "when");decide)) ⟨[_],rfl,b3,g3,fun z=>absurd z (show ¬("let": Str)="when" by decide),fun _=>rfl⟩
   |tell q t=>exact aV (fun z=>absurd (ae z) (by show ¬(V.str "tell"=V.str "when");decide)) ⟨[_],rfl,b3,g3,fun z=>absurd z (show ¬("tell": Str)="when" by decide),fun _=>rfl⟩
   |thr q w x us am =>
    have hw:w≠"when":=fun z=>absurd hrr3.2.w (by rw[z];decide)
    exact aV (fun z=>hw (by have z:=ae z;injection z)) ⟨[_],rfl,b3,g3,fun z=>absurd z hw,fun _=>rfl⟩
  ·rintro σ' G4 ⟨L,rfl,b4,g4,w1,w2⟩;have hrr4:=aP.mem (aP.ts (t1 b4) rs hR) r hm;rw[e1] at hN;refine⟨fun σ' G'=>σ'=[some (.ref p),some (.ref lo),some (.ref r.p)]/\mG lo H1 G'/\G' lo=some (.lst (bG (cU (rs.take i)++eU r))),?_,?_⟩
   ·refine⟨_,rfl,r.p,_,_,.str r.w,rfl,rfl,aQ.of hrr4.at,iV,rfl,_,rfl,?_⟩
    cases r with
    |when q pa pb t a b =>
     rw[w1 rfl] at g4;exact aV (fun z=>absurd (ae z) (by show ¬(V.str "when"=V.str "times");decide)) ⟨rfl,b4,g4⟩
    |times q pb m b =>
     refine bE (ai rfl) ?_;rw[w2 (show ¬("times": Str)="when" by decide)] at g4;simp only[eU,List.length_cons] at t1';simp only[Rw.dp] at hdr
     cases n with
     |zero=>exact absurd hdr (by lia)
     |succ n =>
     have cb:=fM b;refine⟨_,rfl,.inl ⟨rfl,_,bA.of g4⟩,_,rfl,q,_,_,.ref pb,rfl,rfl,aQ.of hrr4.1,rfl,pb,b,rfl,hrr4.2.1,hrr4.2.2,by lia,by lia,fun l5 H5 s5 h5=>?_⟩;refine⟨lo,l5,_,_,rfl,rfl,s5 _ _ g4,h5,by rw[bD,bD,ap];exact cu (aR (by simp only[List.length_cons,List.length_nil];lia)),?_⟩;refine⟨rfl,(b4.trans (mG.of s5)).trans mG.upd,?_⟩;rw[aB, <-dW];simp[eU]
    |lt q x t =>
     rw[w2 (show ¬("let": Str)="when" by decide)] at g4;exact aV (fun z=>absurd (ae z) (by show ¬(V.str "let"=V.str "times");decide)) ⟨rfl,b4,g4⟩
    |tell q t =>
     rw[w2 (show ¬("tell": Str)="when" by decide)] at g4;exact aV (fun z=>absurd (ae z) (by show ¬(V.str "tell"=V.str "times");decide)) ⟨rfl,b4,g4⟩
    |thr q w x us am =>
     rw[w2 (fun z=>absurd hrr4.2.w (by rw[show w="when" from z];decide))] at g4;exact aV (fun z=>absurd hrr4.2.w (by have z:=ae z;injection z with z;rw[show w="times" from z];decide)) ⟨rfl,b4,g4⟩
   ·rintro σ' G5 ⟨rfl,b5,g5⟩;exact(hN _ _ ⟨_,rfl,b5,g5⟩)
 ·rintro σ G ⟨v2,rfl,b1,g2⟩;rw[bD,cq] at g2;exact⟨_,rfl,k lo G (b1.same s1 hlo) g2⟩
theorem bY1(n:Nat)(C_AIn:Cl P w K mg base (n+1) (aH9 n) "_law_asked_in"):eF P w K mg base "_law_asked_in" "_law_asked_in" cM4 (n+1+1) ["_law_term_here"] (aH9 (n+1)):=by
 refine fF ["_law_term_here"] fun H Q nd hr h=>?_
 obtain⟨t,rfl,ht,h7,hn,k⟩:=h;refine⟨_,(aF (bC (eG bR (bL aH (pv 0) aD) aI) (aE (aK (bJ (aM (bL aH (pv 0) aD))))) aS)
  (aF (bC (eG bR (bL aH (pv 0) aD) aI) (aE (aK (aN gN (bM C_AIn hr (aM (bL aH (pv 0) aD))) (bM C_AIn hr (aM (bL aH (pv 0) aD)))))) aS)
  (aE (aK (bJ bX))))),?_⟩
 refine⟨_,rfl,t.p,_,_,.str t.w,rfl,rfl,aQ.of ht.at,iV,rfl,_,rfl,?_⟩;generalize hP:t.p=P
 cases t with
 |nam p x =>
  obtain rfl:p=P:=hP;refine bE (ai rfl) ?_;exact⟨_,rfl,p,_,_,.str x,rfl,rfl,aQ.of ht,rfl,lK,fun l hl=>k l _ (aA hl _) aB⟩
 |num p m =>
  obtain rfl:p=P:=hP;refine aV (fun z=>wMN (ae z)) ?_;refine⟨_,rfl,p,_,_,.str "num",rfl,rfl,aQ.of ht,rfl,rfl,_,rfl,?_⟩;refine aV (fun z=>cL3 (ae z)) ?_;exact⟨az _,fun l hl=>k l _ (aA hl _) aB⟩
 |op p s a b =>
  obtain rfl:p=P:=hP;refine aV (fun z=>wOM (ae z)) ?_;refine⟨_,rfl,p,_,_,.str "op",rfl,rfl,aQ.of ht.1,rfl,rfl,_,rfl,?_⟩;refine bE (ai rfl) ?_;have a1:=a.size_pos;have b1:=b.size_pos;have an:=a.names_len;have bn:=b.names_len;simp only[Tm.size] at h7 hn
  cases n with
  |zero=>exact absurd hn (by lia)
  |succ n =>
  refine⟨_,rfl,p,_,_,.ref a.p,rfl,rfl,aQ.of ht.1,rfl,a,rfl,ht.2.1,by lia,by lia,fun r1 H1 s1 h1=>?_⟩;refine⟨_,rfl,p,_,_,.ref b.p,rfl,rfl,aQ.of (s1 _ _ ht.1),rfl,b,rfl,ht.2.2.ts (.of s1),by lia,by lia,fun r2 H2 s2 h2=>?_⟩;refine⟨r1,r2,_,_,rfl,rfl,s2 _ _ h1,h2,cu (fC (by rw[aa,aa];lia)),fun l hl=>k l _ (s1.trans (s2.trans (aA hl _))) ?_⟩;rw[aB, <-bo];rfl
theorem cF5(C_Flt46:Cl P w K mg base 6 (aI8 5) "_law_flat")(C_AIn:Cl P w K mg base 8 (aH9 7) "_law_asked_in")(m_range:mg "range"=none)(m_len:mg "len"=none):eF P w K mg base "_law_wanted" "_law_wanted" cI1 9 ["_law_program_here"] spWan:=by
 refine fF ["_law_program_here","_law_rows_here","_law_found","_law_row_here","_law_turn"] fun H Q nd hr h=>?_
 obtain⟨p,xs,rs,rfl,P0,hsm,k⟩:=h;have hr1:dI 1 _:=hr.mono (by decide);refine⟨_,(dJ 1 nd (bM C_Flt46 hr (aM (bL aH (pv 0) aD)))
  (dJ 2 nd (bJ bX)
  (aF (wV (bW (pv 1)) (eT 3 nd)
  (aE (bC (eG cY (bL aH (pv 3) aD) (aW (aC aI (aM aI)))) (aE (psz 2 nd (aN gN (pv 2) (bM C_AIn hr (aM (bL aH (pv 3) aD)))))) aS)))
  (aF (wV (dL (by rfl) m_range (aM (sU bO m_len fk (aM (pv 1))))) (eT 4 nd)
  (aE (wV (bW (pv 1)) (eT 3 nd)
  (aE (bC (gR (PW.pt (gM (eG bR (bL aH (pv 3) aD) aI) (fY (eG cY (bL aH (pv 3) aD) (pv 2)))))) (aE (psz 2 nd (aN gN (pv 2) (cH ["_law_x","_law_found"] [none,some 2] (bW (bM C_AIn hr (aM (bL aH (pv 3) aD)))) (fun _ _ _ _=>(eT 0)) (fun _ _ _ _=>(lW (eG (cT8 K) (pv 0) (pv 1)))) (fun _ _ _ _=>(pv 0)))))) aS)))))
  (aE (aK (pv 2))))))),?_⟩
 have f13:(cU rs).length<=1300:=by rw[fM];exact P0.cnt
 have okf:=P0.ok;have c0:=hsm;have hdp:=P0.dp;rw[jU] at hdp;obtain⟨v0,pr,hp,hpr⟩:=P0.ex;refine⟨_,rfl,p,_,_,.ref pr,rfl,rfl,aQ.of hp,rfl,pr,rs,rfl,hpr,P0.rows,cj hdp (by decide),c0,fun r1 H1 s1 h1=>?_⟩;have rH:=aP.ts (.of s1) _ (aP.flat rs P0.rows);unfold OkL at okf;generalize cU rs=fl at f13 okf h1 rH k;refine⟨az _,fun lf hlf=>?_⟩;obtain⟨H2,e0,s2,h2⟩:=nV hlf (.lst []);rw[e0];clear e0;refine⟨_,rfl,r1,rfl,⟨_,bA.of (s2 _ _ h1)⟩,dQ (K:=K) (a:=r1) (xs:=bG fl) (fun i σ G=>∃(lf:Addr) (v3 v4:Option V),σ=[some (.ref p),some (.ref r1),some (.ref lf),v3,v4]/\aO H1 G/\G lf=some (.lst (((fl.take i).flatMap Rw.told).map V.str)))
  ⟨lf,_,_,rfl,s2,h2⟩ (by rintro i σ G _ ⟨_,_,_,_,e,_⟩;exact bA.of (e _ _ h1)) ?_ ?_⟩
 ·rintro D' N i hN v σ G hv ⟨lf,v3,v4,rfl,s5,h5⟩;obtain⟨r,rfl,hr0⟩:=lI hv;have mr:=bj hr0;have il:=(aq.mp hr0).1;have hr1:=dF.ts (.of s5) r (rH.mem r mr);have tl:=lH (fl:=fl.take i) (fun r hr=>okf r (km hr));rw[dj] at tl;refine⟨_,rfl,r.p,_,_,.str r.w,rfl,rfl,aQ.of hr1.at,iV,dE,fun t2 ht2=>?_⟩;have s6:=aA ht2 (.tup [.str "tell",.str "when"]);refine⟨t2,[.str "tell",.str "when"],rfl,.inr (aQ.of aB),rfl,by decide,_,rfl,?_⟩;generalize aL G t2 (.tup [.str "tell",.str "when"])=G6 at s6 ⊢;have ei:wN (V.str r.w) [.str "tell",.str "when"]=decide (r.w∈(["tell","when"]:List Str)):=dN _ ["tell","when"];rw[aF1 hr0] at hN
  by_cases c:r.w∈(["tell","when"]:List Str)
  ·refine bE (ei.trans (ai c)) ?_;obtain⟨t,vs,hrow,htm,etm,etl⟩:=bT6 (dF.ts (.of s6) r hr1) c;have okt:=okf r mr t (by rw[etm];exact au.mpr rfl);have nl:=t.names_len;refine⟨_,rfl,_,rfl,r.p,_,_,.ref t.p,rfl,rfl,aQ.of hrow,at1,t,rfl,htm,okt.1,okt.1,fun q H7 s7 h7=>?_⟩;refine⟨lf,q,_,_,rfl,rfl,(s6.trans s7) _ _ h5,h7,cu (rT (by rw[aa,aa];lia)),fun l8 hl8=>(hN _ _ ⟨l8,_,_,rfl,s5.trans (s6.trans (s7.trans (aA hl8 _))),?_⟩)⟩;rw[aB,etl,bo]
  ·refine aV (fun z=>c (ae (ei.symm.trans z))) ?_;refine(hN _ _ ⟨lf,_,_,rfl,s5.trans s6,?_⟩);rw[yL c,dw];exact s6 _ _ h5
 rintro σ G ⟨lf,v3,v4,rfl,s5,h5⟩;rw[bD,cq] at h5;refine⟨_,rfl,r1,_,rfl,.inl (bA.of (s5 _ _ h1)),_,rfl,by lia,by rw[bD];lia,jR (n:=(bG fl).length) (fun i σ G=>∃(lf:Addr) (v3 v4:Option V),σ=[some (.ref p),some (.ref r1),some (.ref lf),v3,v4]/\aO H1 G/\G lf=some (.lst ((iH fl i).map V.str)))
  ⟨lf,_,_,rfl,s5,h5⟩ ?_ ?_⟩
 ·rintro D' N i hN σ G' hi ⟨lf,v3,v4,rfl,s6,h6⟩;rw[bD] at hi;have rl:=yI okf i;have rl2:(i+1)*(7*fl.length)<=1300*(7*fl.length):=jd _ (by lia);refine⟨_,rfl,r1,rfl,⟨_,bA.of (s6 _ _ h1)⟩,dQ (K:=K) (a:=r1) (xs:=bG fl) (fun j σ G=>∃(lf:Addr) (v3:Option V),σ=[some (.ref p),some (.ref r1),some (.ref lf),v3,some (.int (0+(i:Int)))]/\aO H1 G/\G lf=some (.lst ((rnd (fl.take j) (iH fl i)).map V.str)))
   ⟨lf,_,rfl,s6,h6⟩ (by rintro j σ G _ ⟨_,_,_,e,_⟩;exact bA.of (e _ _ h1)) ?_ ?_⟩
  ·rintro D2 N2 j hN2 v σ G7 hv ⟨lf,v3,rfl,s7,h7⟩;obtain⟨r,rfl,hr0⟩:=lI hv;have mr:=bj hr0;have jl:=(aq.mp hr0).1;have hr1:=dF.ts (.of s7) r (rH.mem r mr);have rl3:=vS (fl.take j) (iH fl i) fun r hr=>okf r (km hr)
   rw[dj] at rl3;rw[aZ1 hr0] at hN2;generalize rnd (fl.take j) (iH fl i)=F at h7 rl3 hN2 ⊢;refine⟨fun b G'=>G'=G7/\(b=true->∃p x t,r= .lt p x t/\x∈F)/\(b=false->st1 F r=F),?_,?_⟩
   ·refine⟨_,rfl,r.p,_,_,.str r.w,rfl,rfl,aQ.of hr1.at,iV,rfl,_,rfl,?_⟩
    by_cases c:r.w="let"
    ·refine bE (by rw[c];exact ai rfl) ?_;obtain⟨p',x,t,rfl⟩:=bF8 hr1 c;refine⟨_,rfl,p',_,_,.str x,rfl,rfl,aQ.of hr1.1,at1,_,rfl,lf,_,rfl,.inl (bA.of h7),rfl,dD _,_,rfl,rfl,fun z=>⟨p',x,t,rfl,ae ((dN _ _).symm.trans z)⟩,fun z=>?_⟩;have z:=xp ((dN _ _).symm.trans z);exact ay z
    ·refine aV (fun z=>c (by have z:=ae z;injection z)) ⟨rfl,(fun z=>absurd z (by decide)),fun _=>?_⟩
     cases r with
     |lt p x t=>exact absurd rfl c
     |_=>rfl
   rintro b G' ⟨rfl,hb1,hb2⟩
   cases b with
   |false =>
    refine aV (by simp) ?_;rw[hb2 rfl] at hN2;exact hN2 _ _ ⟨lf,_,rfl,s7,h7⟩
   |true =>
    refine bE rfl ?_;obtain⟨p',x,t,rfl,hx⟩:=hb1 rfl;have okt:=okf _ mr t (au.mpr rfl);have nl:=t.names_len;rw[show st1 F (.lt p' x t)=F++t.names.filter (fun x=> !decide (x∈F)) from br hx] at hN2;have nf:=ja (fun x=> !decide (x∈F)) t.names;refine⟨_,rfl,_,rfl,p',_,_,.ref t.p,rfl,rfl,aQ.of hr1.1,rfl,t,rfl,hr1.2.1,okt.1,okt.1,fun q H8 s8 h8=>⟨q,rfl,⟨_,bA.of h8⟩,cS (K:=K) (a:=q) (xs:=t.names.map V.str) (fun i ys σ G=>G=H8/\(∃v,σ=[v,some (.ref lf)])/\ys=((t.names.take i).filter fun x=> !decide (x∈F)).map V.str)
     (fC (by rw[aa];lia)) ⟨rfl,⟨_,rfl⟩,rfl⟩ (fun i ys σ G ⟨_,_,e⟩=>by
      rw[e,aa];exact cj (ja _ _) (by rw[dj];lia)) (by rintro i ys σ G _ ⟨e,_⟩;rw[e];exact bA.of h8) ?_ ?_⟩⟩
    ·rintro i v ys σ G hv ⟨rfl,⟨v',rfl⟩,rfl⟩;obtain⟨y,rfl,hy⟩:=mV hv;refine⟨_,rfl,_,rfl,lf,_,rfl,.inl (bA.of (s8 _ _ h7)),rfl,dD _,_,rfl,?_⟩;rw[rV,aY hy,im,bo]
     by_cases c:(!decide (y∈F))=true
     ·refine bE c ⟨_,rfl,rfl,⟨_,rfl⟩,?_⟩;rw[dk (p:=fun x=> !decide (x∈F)) c];rfl
     ·refine aV c ⟨rfl,⟨_,rfl⟩,?_⟩;rw[dm (p:=fun x=> !decide (x∈F)) c];simp
    rintro ys σ G9 ⟨rfl,_,rfl⟩ l9 hl9;rw[aa,cq];generalize t.names.filter (fun x=> !decide (x∈F))=nz at nf hN2 ⊢;obtain⟨H9,e0,s9,h9⟩:=nV hl9 (.lst (nz.map V.str));rw[e0];clear e0;refine⟨lf,l9,_,_,rfl,rfl,(s8.trans s9) _ _ h7,h9,cu (rT (by rw[aa,aa];lia)),fun l10 hl10=>hN2 _ _ ⟨l10,_,rfl,s7.trans (s8.trans (s9.trans (aA hl10 _))),?_⟩⟩;rw[aB,bo]
  ·rintro σ G7 ⟨lf,v3,rfl,s7,h7⟩;rw[bD,cq] at h7;exact(hN _ _ ⟨lf,_,_,rfl,s7,h7⟩)
 ·rintro σ G' ⟨lf,v3,v4,rfl,s6,h6⟩;rw[bD] at h6;have don:=aL5 fl;generalize iH fl fl.length=F at h6 don;exact⟨_,rfl,k lf F _ (s1.trans s6) h6 don⟩
theorem bT2(n:Nat)(C_Lef:Cl P w K mg base (n+1) (aI2 n) "_law_left")(m_tuple:mg "tuple"=none):eF P w K mg base "_law_left" "_law_left" cH3 (n+1+1) ["_law_rows_here","_law_wanted_here"] (aI2 (n+1)):=by
 refine fF ["_law_rows_here","_law_wanted_here","_law_found","_law_row_here"] fun H Q nd hr h=>?_
 obtain⟨p,wl,ws,rs,rfl,hp,hR,hd,hc,hwl,k⟩:=h;have hr1:dI 1 _:=hr.mono (by lia);refine⟨_,(dJ 2 nd (bJ bX)
  (aF (wV (vC (pv 0)) (eT 3 nd)
  (aE (bC (eG bR (bL aH (pv 3) aD) aI) (aE (bP (dA av de dh bT (pv 2) (aM (aN qJ (fK vO (pv 3) iN (fX aD)) (aW (aC (bM C_Lef hr (aC (bL aH (pv 3) aD) (aM (pv 1)))) (aM (bM C_Lef hr (aC (bL aH (pv 3) aD) (aM (pv 1)))))))))))) (aE (bC (eG bR (bL aH (pv 3) aD) aI) (aE (bP (dA av de dh bT (pv 2) (aM (aN qJ (fK vO (pv 3) iN (fX aD)) (aW (aM (bM C_Lef hr (aC (bL aH (pv 3) aD) (aM (pv 1))))))))))) (aE (bC (gR (PW.pt (aF4 (eG bR (bL aH (pv 3) aD) aI) (vR (eG cY (bL aH (pv 3) aD) (pv 1)))))) (aE (bP (dA av de dh bT (pv 2) (aM (pv 3))))) aS)))))))
  (aE (aK (zJ bV m_tuple eh (aM (pv 2))))))),?_⟩
 refine⟨az _,fun lo hlo=>?_⟩;obtain⟨H1,e0,s1,g1⟩:=nV hlo (.lst []);rw[e0];clear e0;have t0:∀{G:Hp},mG lo H1 G->aO H G:=fun {G} b=>b.same s1 hlo
 refine⟨_,rfl,p,rfl,⟨_,aQ.of (s1 _ _ hp)⟩,zL (K:=K) (a:=p) (xs:=bG rs) (fun i σ G=>∃(v3:Option V) (o:List Rw),σ=[some (.ref p),some (.ref wl),some (.ref lo),v3]/\mG lo H1 G/\G lo=some (.lst (bG o))/\aP G o/\fJ ws (rs.take i) o/\o.length<=i)
  ⟨_,[],rfl,mG.refl,g1,trivial,by unfold fJ;rfl,af _⟩ (by rintro i σ G _ ⟨_,_,_,b,_⟩;exact aQ.of (t0 b _ _ hp)) ?_ ?_⟩
 ·rintro D' N i hN v σ G hv ⟨v3,o,rfl,b1,g2,ho,tr,ol⟩;obtain⟨r,hr0,rfl⟩:=bH2 hv;have hm:=bj hr0;have s0:=t0 b1;have hr1:=aP.mem (aP.ts (.of s0) rs hR) r hm;have hw1:=s0 _ _ hwl;have hdr:r.dp<=n:=cj (zW hm) hd;have cm:=qC hm;have il:=(aq.mp hr0).1;have rl:=iL rs;have lim:(bG o).length+1<=sizeLine:=cu (aR (by rw[bD];lia));have put:∀(q:Rw) (G':Hp),aO G G'->dF G' q->fP ws r=false->eE ws r q->N [some (V.ref p),some (.ref wl),some (.ref lo),some (.ref r.p)] (aL G' lo (.lst (bG o++[.ref q.p]))):=fun q G' s hq i0 tq=>by
   have tN:=TS.lst (ys:=bG o++[.ref q.p]) (s _ _ g2);refine hN _ _ ⟨_,o++[q],rfl,(b1.trans (mG.of s)).trans mG.upd,by rw[aB,dW];rfl,aP.app (aP.ts ((TS.of s).trans tN) _ ho) ⟨hq.ts tN,trivial⟩,?_,by rw[ap];exact Nat.succ_le_succ ol⟩;rw[aY hr0];exact qG tr (.inr ⟨i0,q,tq,rfl⟩)
  refine⟨_,rfl,r.p,_,_,.str r.w,rfl,rfl,aQ.of hr1.at,iV,rfl,_,rfl,?_⟩
  cases r with
  |when q pa pb t x y =>
   refine bE (ai rfl) ?_;simp only[Rw.dp] at hdr;simp only[Rw.cnt] at cm;obtain⟨hq0,h2,h3,h4,h5,h6,h7⟩:=hr1
   cases n with
   |zero=>exact absurd hdr (by lia)
   |succ n =>
   refine⟨_,rfl,.inl ⟨rfl,_,bA.of g2⟩,_,rfl,_,rfl,q,_,rfl,aQ.of hq0,by show ¬(HT.sIx 4 0 none=0/\HT.sIx 4 4 (some 2)=4);decide,fun c5 hc5=>?_⟩;obtain⟨s5,h5'⟩:=nwX hc5 (.tup [.str "when",.ref t.p]);refine⟨_,rfl,q,_,_,.ref pa,rfl,rfl,aQ.of (s5 _ _ hq0),rfl,_,rfl,pa,wl,ws,x,rfl,s5 _ _ h4,aP.ts (.of s5) _ h6,by lia,by lia,s5 _ _ hw1,fun q1 o1 H4 s4 g4 r4 t4=>?_⟩;have s54:=s5.trans s4;refine⟨_,rfl,q,_,_,.ref pb,rfl,rfl,aQ.of (s54 _ _ hq0),rfl,_,rfl,pb,wl,ws,y,rfl,s54 _ _ h5,aP.ts (.of s54) _ h7,by lia,by lia,s54 _ _ hw1,fun q2 o2 H6 s6 g6 r6 t6=>⟨dE,fun c7 hc7=>?_⟩⟩;obtain⟨s7,h7'⟩:=nwX hc7 (.tup [.ref q1,.ref q2]);refine⟨c5,c7,[.str "when",.ref t.p],[.ref q1,.ref q2],rfl,rfl,s7 _ _ (s6 _ _ (s4 _ _ h5')),h7',by show 4<=_;decide,fun c8 H8 s8 h8=>?_⟩;have s78:=s7.trans s8;have sZ:=s54.trans (s6.trans s78);exact⟨lo,_,_,rfl,rfl,sZ _ _ g2,lim,put (.when c8 q1 q2 t o1 o2) H8 sZ ⟨h8,h2.ts (.of sZ),h3,(s6.trans s78) _ _ g4,s78 _ _ g6,aP.ts (.of (s6.trans s78)) _ r4,aP.ts (.of s78) _ r6⟩ rfl (by unfold eE;exact⟨_,_,_,_,_,rfl,t4,t6⟩)⟩
  |times q pb z y =>
   refine aV (fun z=>absurd (ae z) (by show ¬(V.str "times"=V.str "when");decide)) ?_;refine⟨_,rfl,q,_,_,.str "times",rfl,rfl,aQ.of hr1.at,iV,rfl,_,rfl,?_⟩;refine bE (ai rfl) ?_;simp only[Rw.dp] at hdr;simp only[Rw.cnt] at cm;obtain⟨hq0,h5,h7⟩:=hr1
   cases n with
   |zero=>exact absurd hdr (by lia)
   |succ n =>
   refine⟨_,rfl,.inl ⟨rfl,_,bA.of g2⟩,_,rfl,_,rfl,q,_,rfl,aQ.of hq0,by show ¬(HT.sIx 3 0 none=0/\HT.sIx 3 3 (some 2)=3);decide,fun c5 hc5=>?_⟩;obtain⟨s5,h5'⟩:=nwX hc5 (.tup [.str "times",.int z]);refine⟨_,rfl,q,_,_,.ref pb,rfl,rfl,aQ.of (s5 _ _ hq0),rfl,_,rfl,pb,wl,ws,y,rfl,s5 _ _ h5,aP.ts (.of s5) _ h7,by lia,by lia,s5 _ _ hw1,fun q2 o2 H6 s6 g6 r6 t6=>⟨lK,fun c7 hc7=>?_⟩⟩;obtain⟨s7,h7'⟩:=nwX hc7 (.tup [.ref q2]);refine⟨c5,c7,[.str "times",.int z],[.ref q2],rfl,rfl,s7 _ _ (s6 _ _ h5'),h7',by show 3<=_;decide,fun c8 H8 s8 h8=>?_⟩;have s78:=s7.trans s8;have sZ:=s5.trans (s6.trans s78);exact⟨lo,_,_,rfl,rfl,sZ _ _ g2,lim,put (.times c8 q2 z o2) H8 sZ ⟨h8,s78 _ _ g6,aP.ts (.of s78) _ r6⟩ rfl (by unfold eE;exact⟨_,_,_,rfl,t6⟩)⟩
  |tell q t =>
   refine aV (fun z=>absurd (ae z) (by show ¬(V.str "tell"=V.str "when");decide)) ?_;refine⟨_,rfl,q,_,_,.str "tell",rfl,rfl,aQ.of hr1.at,iV,rfl,_,rfl,?_⟩;refine aV (fun z=>absurd (ae z) (by show ¬(V.str "tell"=V.str "times");decide)) ?_;refine⟨fun b G'=>b=true/\G'=G,?_,?_⟩
   ·exact⟨_,rfl,q,_,_,.str "tell",rfl,rfl,aQ.of hr1.at,iV,rfl,_,rfl,bE (ai rfl) ⟨rfl,rfl⟩⟩
   rintro b G' ⟨rfl,rfl⟩;exact bE rfl ⟨_,rfl,.inl ⟨rfl,_,bA.of g2⟩,_,rfl,lo,_,_,rfl,rfl,g2,lim,put (.tell q t) _ (aO.refl _) hr1 rfl (by unfold eE;rfl)⟩
  |lt q x t =>
   refine aV (fun z=>absurd (ae z) (by show ¬(V.str "let"=V.str "when");decide)) ?_;refine⟨_,rfl,q,_,_,.str "let",rfl,rfl,aQ.of hr1.at,iV,rfl,_,rfl,?_⟩;refine aV (fun z=>absurd (ae z) (by show ¬(V.str "let"=V.str "times");decide)) ?_;have skip:fP ws (.lt q x t)=true->fJ ws (rs.take (i+1)) o:=fun i0=>by
    rw[aY hr0];have z:=qG tr (.inl ⟨i0,rfl⟩);rw[dw] at z;exact z
   refine⟨fun b G'=>b=decide (x∈ws)/\G'=G,?_,?_⟩
   ·refine⟨_,rfl,q,_,_,.str "let",rfl,rfl,aQ.of hr1.at,iV,rfl,_,rfl,?_⟩;refine aV (fun z=>absurd (ae z) (by show ¬(V.str "let"=V.str "tell");decide)) ?_;exact⟨_,rfl,q,_,_,.str x,rfl,rfl,aQ.of hr1.1,at1,_,rfl,wl,_,rfl,.inl (bA.of hw1),rfl,dD _,_,rfl,dN _ _,rfl⟩
   rintro b G' ⟨rfl,rfl⟩
   by_cases m:x∈ws
   ·exact bE (ai m) ⟨_,rfl,.inl ⟨rfl,_,bA.of g2⟩,_,rfl,lo,_,_,rfl,rfl,g2,lim,put (.lt q x t) _ (aO.refl _) hr1 (by simp[fP,Rw.sets,m]) (by unfold eE;rfl)⟩
   ·exact aV (fun z=>m (ae z)) (hN _ _ ⟨_,o,rfl,b1,g2,ho,skip (by simp[fP,Rw.sets,m]),pc ol⟩)
  |thr q w x us am =>
   refine aV (fun z=>absurd hr1.2.w (by have z:=ae z;injection z with z;rw[show w="when" from z];decide)) ?_;refine⟨_,rfl,q,_,_,.str w,rfl,rfl,aQ.of hr1.at,iV,rfl,_,rfl,?_⟩;refine aV (fun z=>absurd hr1.2.w (by have z:=ae z;injection z with z;rw[show w="times" from z];decide)) ?_;have skip:fP ws (.thr q w x us am)=true->fJ ws (rs.take (i+1)) o:=fun i0=>by
    rw[aY hr0];have z:=qG tr (.inl ⟨i0,rfl⟩);rw[dw] at z;exact z
   refine⟨fun b G'=>b=decide (x∈ws)/\G'=G,?_,?_⟩
   ·refine⟨_,rfl,q,_,_,.str w,rfl,rfl,aQ.of hr1.at,iV,rfl,_,rfl,?_⟩;refine aV (fun z=>absurd hr1.2.w (by have z:=ae z;injection z with z;rw[show w="tell" from z];decide)) ?_;exact⟨_,rfl,q,_,_,.str x,rfl,rfl,aQ.of hr1.1,at1,_,rfl,wl,_,rfl,.inl (bA.of hw1),rfl,dD _,_,rfl,dN _ _,rfl⟩
   rintro b G' ⟨rfl,rfl⟩
   by_cases m:x∈ws
   ·exact bE (ai m) ⟨_,rfl,.inl ⟨rfl,_,bA.of g2⟩,_,rfl,lo,_,_,rfl,rfl,g2,lim,put (.thr q w x us am) _ (aO.refl _) hr1 (by simp[fP,Rw.sets,m]) (by unfold eE;rfl)⟩
   ·exact aV (fun z=>m (ae z)) (hN _ _ ⟨_,o,rfl,b1,g2,ho,skip (by simp[fP,Rw.sets,m]),pc ol⟩)
 ·rintro σ G ⟨v3,o,rfl,b1,g2,ho,tr,ol⟩;rw[bD,cq] at tr;refine⟨_,rfl,lo,_,rfl,.inl ⟨bA.of g2,fun q hq=>?_⟩⟩;have s2:=aA hq (.tup (bG o));exact k q o _ ((t0 b1).trans s2) aB (aP.ts (.of s2) _ ho) tr
theorem bT9{Lx:bK5}(C_Deal:Cl P w K mg base 1 (aE0 K) "_law_deal")(C_Nms46:Cl P w K mg base 2 spNamesE "_law_names")(C_Prg46:Cl P w K mg base 14 spPrgE "_law_program")(C_Trm:Cl P w K mg base 106 (aT5 Lx) "trimmed")(C_Draw:Cl P w K mg base 1 spDraw "_law_draw")(C_Lok:Cl P w K mg base 5 spLookL "look")(C_Idl:Cl P w K mg base 6 spIdle "idle")(C_Pri:Cl P w K mg base 10 (bD7 K) "price")(C_Lef:Cl P w K mg base 5 (aI2 4) "_law_left")(C_Wan:Cl P w K mg base 9 spWan "_law_wanted")(m_range:mg "range"=none)(m_len:mg "len"=none):eF P w K mg base "law" "law" aQ2 121 ["_law_script"] (nL K Lx):=by
 refine fF ["_law_script","_law_deal_here","_law_kinds","_law_program_here","_law_found"] fun H Q nd hr h=>?_
 obtain⟨a,ns,rfl,hS,hlen,hT,k⟩:=h;have hr2:dI 2 _:=hr.mono (by decide);refine⟨_,(dJ 1 nd (bM C_Deal hr (aC (pv 0) (aM aD)))
  (dJ 2 nd (bM C_Nms46 hr (aC (pv 1) (aM (aN cL aD (bM C_Draw hr (aC (pv 1) (aM aD)))))))
  (dJ 3 nd (bM C_Prg46 hr (aC (pv 1) (aC (pv 2) (aC (bM C_Nms46 hr (aC (pv 1) (aM (aN cL aD (bM C_Draw hr (aC (pv 1) (aM aD))))))) (aM aD)))))
  (dJ 4 nd (bM C_Trm hr (aM (pv 3)))
  (aF (bC (gR (PW.pt (aF4 (eG (oS hr) (pv 4) (aW (aC (bL aH (pv 3) aD) (aM (bM C_Lef hr (aC (bL aH (pv 3) aD) (aM (bM C_Wan hr (aM (pv 3)))))))))) (vR (eG bL8 (bM C_Lok hr (aM (pv 4))) yU))))) fS aS)
  (aF (bC (gR (PW.pt (aF4 (eG (oS hr) (bM C_Idl hr (aM (pv 4))) (aW bX)) (vR (eG (oS hr) (bM C_Trm hr (aM (pv 4))) (pv 4)))))) fS aS)
  (aF (bC (eG (aE6 hr) (cH ["_law_kind","_law_found"] [none,some 4] (dL (by rfl) m_range (aM (sU bO m_len fk (aM (pv 2))))) (fun _ _ _ _=>(eT 0)) (fun _ _ _ _=>eA) (fun _ _ _ _=>(bM C_Pri hr (aC (pv 1) (aM (pv 0)))))) (cH ["_law_kind","_law_program_here"] [none,some 3] (dL (by rfl) m_range (aM (sU bO m_len fk (aM (pv 2))))) (fun _ _ _ _=>(eT 0)) (fun _ _ _ _=>eA) (fun _ _ _ _=>(bM C_Pri hr (aC (pv 1) (aM (pv 0))))))) fS aS)
  (aE (aK (uX (aO7 hr) (bM C_Trm hr (aM (pv 3))) (pv 4))))))))))),?_⟩
 refine⟨_,rfl,a,ns,0,rfl,hS,hlen,by decide,by decide,fun d l H1 fd fl D1 s1=>?_⟩;have e1:=s1 _ _ hT;refine⟨_,rfl,_,rfl,d,l,3,rfl,D1,by decide,by decide,fun y H2 y0 y1 D2 o2=>⟨_,_,rfl,rfl,d,l,1+y,rfl,D2,by lia,by lia,fun kl ws A B tn H3 D3 o3 f3 h3 wl ab wa=>?_⟩⟩;refine⟨_,rfl,_,rfl,_,rfl,_,rfl,d,l,5,rfl,D3,by decide,by decide,fun z H4 z0 z1 D4 o4=>⟨_,_,rfl,rfl,d,l,2+z,rfl,D4,by lia,by lia,fun nl xs A' B' tn' H5 D5 o5 f5 h5 xl ab' wa'=>?_⟩⟩;have nkl:=(kI D2 f3).2;have nnl:=(kI D4 f5).2;have g5:=bB D4 (bB D3 h3 nkl o4) nkl o5;refine⟨d,l,kl,nl,ws,xs,rfl,D5,g5,nkl,by lia,by lia,h5,nnl,by lia,by lia,fun p rs H6 D6 o6 P1 kd ld nm=>?_⟩;have e6:=kW D5 (kW D4 (kW D3 (kW D2 (kW D1 e1 o2) o3) o4) o5) o6;have g6:=bB D5 g5 nkl o6;have ndk:=bQ1 wa (by lia);have P0:=P1.prg kd ld nm (by lia);obtain⟨pk,pr,hp,hpk,hpr⟩:=P1.ex;refine⟨_,rfl,p,xs,rs,rfl,.inl e6,P0,fun r pk' pr' qr ss o H7 o7 t7 hp' hr hq ho nds tr=>?_⟩
 obtain⟨rfl,rfl⟩:pk=pk'/\pr=pr':=by
  have e:=hp.symm.trans hp';injection e with e;injection e with e;injection e with e1 e;injection e1 with e1;injection e with e2 e;injection e2 with e2
  exact⟨e1,e2⟩
 have T7:TS H6 H7:=o7.ts e6;have hp:=T7 _ _ hp;have hpk:=T7 _ _ hpk;have hpr:=T7 _ _ hpr;have P1:=P1.ts T7;have P0:=P0.ts T7;have g7:=o7 _ _ g6 (fQ e6 g6 (by intro z;cases z)).symm;clear D6 D5 D4 D3 D2 D1 e1 s1 o2 o3 o4 o5 o6 h3 h5 f3 f5 g5 g6 hp' o7 T7 hT hS;have PL:=aS0 P1 hp hpk hr hq ho nds tr;have PO:=aY8 P0 hp (fun _ e=>e) hr hq ho tr;have dp:=P1.dp;have dq:=PL.dp;have c0:=P1.cnt;have non:∀q∈cU o,fP ss q=false:=fun q hq=>let⟨_,_,_,z⟩:=rZ tr hq;z
 refine⟨fun b G=>b=false/\aO H7 G,?_,?_⟩
 ·refine⟨_,rfl,_,rfl,p,_,_,.ref pk,rfl,rfl,aQ.of hp,rfl,_,rfl,p,_,_,.ref pr,rfl,rfl,aQ.of hp,rfl,_,rfl,p,xs,rs,rfl,P0,by lia,fun wl ws' H8 s8 hwl hw=>⟨pr,wl,ws',rs,rfl,s8 _ _ hpr,aP.ts (.of s8) _ P0.rows,cj dp (by decide),by lia,hwl,fun q o2 H9 s9 hq9 ho9 tr2=>⟨dE,fun c hc=>?_⟩⟩⟩;have s0:=aA hc (.tup [.ref pk,.ref q]);have s90:=s9.trans s0;have s80:=s8.trans s90;have rn:=lE tr (jC (fun x=>(hw x).trans (nds.mem x).symm) tr2);refine⟨r,c,_,_,14,rfl,rfl,aQ.of (s80 _ _ hr),aQ.of aB,.cons (.inl (.inr (.inr ⟨pk,rfl,rfl⟩))) (.cons (.inr ⟨qr,q,_,_,rfl,rfl,s80 _ _ hq,s0 _ _ hq9,vU (fR o) rn (aP.ts (.of s80) _ ho) (aP.ts (.of s80) _ ho) (aP.ts (.of s0) _ ho9) PL.tz dq⟩) .nil),by decide,_,rfl,aV (by decide) ?_⟩;refine⟨_,rfl,r,ws,o,1,rfl,PL.ts (.of s80),ndk,fun G s=>⟨true,true,rfl,rfl,?_⟩⟩;exact⟨_,rfl,rfl,s80.trans s⟩
 rintro b G ⟨rfl,s1⟩;refine aV (by decide) ?_;have hp:=s1 _ _ hp;have hpk:=s1 _ _ hpk;have hr:=s1 _ _ hr;have hq:=s1 _ _ hq;have ho:=aP.ts (.of s1) _ ho;have t7:=t7.same s1;have g7:=s1 _ _ g7;have P1:=P1.ts (.of s1);have P0:=P0.ts (.of s1);have PL:=PL.ts (.of s1);have PO:=PO.ts (.of s1);clear hpr s1;refine⟨fun b G'=>b=false/\TS G G'/\tE G' Lx.P Lx.pos Lx.q/\G' kl=some (.lst (ws.map V.str)),?_,?_⟩
 ·refine⟨_,rfl,r,xs,o,rfl,PO,fun t ss2 H8 s8 ht nds2=>⟨az _,fun c hc=>?_⟩⟩;obtain rfl:=nds2.eq (aA6 tr nds);rw[aN3 non] at ht;have s0:=aA hc (.tup []);have s80:=s8.trans s0;refine⟨t,c,[],[],1,rfl,rfl,aQ.of (s0 _ _ ht),aQ.of aB,.nil,by decide,_,rfl,aV (by decide) ?_⟩;have tT:=t7.same s80;obtain⟨ps,eP⟩:=tT.is;refine⟨_,rfl,r,xs,o,rfl,tT,PO.ts (.of s80),fun r2 pk2 pr2 qr2 ss3 o3 H9 o9 t9 hp2 hr2 hq2 ho3 nds3 tr3=>?_⟩;obtain rfl:=nds3.eq (aA6 tr nds);have T9:TS _ H9:=o9.ts eP;have T:=(TS.of s80).trans T9;obtain⟨rfl,rfl⟩:pk=pk2/\qr=pr2:=by
   have e:=(s80 _ _ hr).symm.trans hp2;injection e with e;injection e with e;injection e with e1 e;injection e1 with e1;injection e with e2 e;injection e2 with e2
   exact⟨e1,e2⟩
  refine⟨_,rfl,r2,r,_,_,14,rfl,rfl,aQ.of hr2,aQ.of (T _ _ hr),.cons (.inl (.inr (.inr ⟨pk,rfl,rfl⟩))) (.cons (.inr ⟨qr2,qr,_,_,rfl,rfl,hq2,T _ _ hq,vU (sN tr3 non) (fR o) (aP.ts T _ ho) ho3 (aP.ts T _ ho) PL.tz dq⟩) .nil),by decide,_,rfl,rfl,T,t9,o9 _ _ (s80 _ _ g7) (fQ eP (s80 _ _ g7) (by intro z;cases z)).symm⟩
 rintro b G2 ⟨rfl,T,t2,g2⟩;refine aV (by decide) ?_;have hp:=T _ _ hp;have hpk:=T _ _ hpk;have hr:=T _ _ hr;have hq:=T _ _ hq;have ho:=aP.ts T _ ho;have P1:=P1.ts T;have P0:=P0.ts T;have PO:=PO.ts T;clear T t7 g7;have NO:=PO.kn0 hr hpk;have N0:=P0.kn0 hp hpk;refine⟨_,rfl,kl,_,rfl,.inl (bA.of g2),_,rfl,by lia,by rw[aa];lia,fU (n:=(ws.map V.str).length) (fun i us σ G=>aO G2 G/\(∃v,σ=[v,some (.ref r)])/\cV (dU K G) us ((List.range i).map fun k=>jT ss k o)) (aR (by rw[aa];lia)) ⟨aO.refl _,⟨_,rfl⟩,trivial⟩ (by rintro i us σ G ⟨_,_,e⟩;rw[e.length,aa,su];exact af _) ?_ ?_⟩
 ·rintro i us σ G hi ⟨s,⟨v,rfl⟩,tw⟩;rw[oj];refine⟨_,rfl,_,rfl,r,xs,o,i,ws.length,rfl,PO.ts (.of s),NO.ts (.of s),by rw[aa] at hi;exact hi,fun H' ss2 v s' nds2 pr=>⟨s.trans s',⟨_,rfl⟩,?_⟩⟩;obtain rfl:=nds2.eq (aA6 tr nds);rw[uy,bo];exact cV.append (tw.mono fun _ _ z=>dU.s s' z) ⟨pr,trivial⟩
 rintro us σ G3 ⟨s3,_,tw⟩ l1 hl1;have s30:=aA hl1 (.lst us);have s23:=s3.trans s30;have tw:=tw.mono fun _ _ z=>dU.s s30 z
 have hl1:aL G3 l1 (.lst us) l1=some (.lst us):=aB;have g3:=s23 _ _ g2;have P0:=P0.ts (.of s23);have N0:=N0.ts (.of s23);have hr:=s23 _ _ hr;have hq:=s23 _ _ hq;have hp:=s23 _ _ hp;have ho:=aP.ts (.of s23) _ ho;have t2:=t2.same s23;have PL:=PL;generalize aL G3 l1 (.lst us)=G4 at *;clear s3 s30 s23 NO PO;refine⟨_,rfl,kl,_,rfl,.inl (bA.of g3),_,rfl,by lia,by rw[aa];lia,fU (n:=(ws.map V.str).length) (fun i us σ G=>aO G4 G/\(∃v,σ=[v,some (.ref p)])/\cV (dU K G) us ((List.range i).map fun k=>jT ss k rs)) (aR (by rw[aa];lia)) ⟨aO.refl _,⟨_,rfl⟩,trivial⟩ (by rintro i us σ G ⟨_,_,e⟩;rw[e.length,aa,su];exact af _) ?_ ?_⟩
 ·rintro i us σ G hi ⟨s,⟨v,rfl⟩,tw⟩;rw[oj];refine⟨_,rfl,_,rfl,p,xs,rs,i,ws.length,rfl,P0.ts (.of s),N0.ts (.of s),by rw[aa] at hi;exact hi,fun H' ss2 v s' nds2 pr=>⟨s.trans s',⟨_,rfl⟩,?_⟩⟩;obtain rfl:=nds2.eq nds;rw[uy,bo];exact cV.append (tw.mono fun _ _ z=>dU.s s' z) ⟨pr,trivial⟩
 rintro us2 σ G5 ⟨s5,_,tw2⟩ l2 hl2;have s50:=aA hl2 (.lst us2);have s45:=s5.trans s50;have tw2:=tw2.mono fun _ _ z=>dU.s s50 z
 have tw:=tw.mono fun _ _ z=>dU.s s45 z
 have ep:(fun k=>jT ss k o)=fun k=>jT ss k rs:=funext fun k=>oN tr P0.rows dX
 rw[ep] at tw;refine⟨l1,l2,us,us2,2,rfl,rfl,bA.of (s45 _ _ hl1),bA.of aB,aH0 tw tw2,by decide,_,rfl,aV (by decide) ?_⟩;have tT:=t2.same s45;obtain⟨ps,eP⟩:=tT.is;refine⟨_,rfl,p,xs,rs,rfl,tT,P0.ts (.of s45),fun r2 pk2 pr2 qr2 ss3 o3 H9 o9 t9 hp2 hr2 hq2 ho3 nds3 tr3=>?_⟩;obtain rfl:=nds3.eq nds;have T9:TS _ H9:=o9.ts eP;have T:=(TS.of s45).trans T9;obtain rfl:pk=pk2:=by
  have e:=(s45 _ _ hp).symm.trans hp2;injection e with e;injection e with e;injection e with e1 e;injection e1
 exact⟨_,rfl,r2,r,_,_,14,rfl,rfl,aQ.of hr2,aQ.of (T _ _ hr),.cons (.inl (.inr (.inr ⟨pk,rfl,rfl⟩))) (.cons (.inr ⟨qr2,qr,_,_,rfl,rfl,hq2,T _ _ hq,vU (lE tr tr3) (fR o) (aP.ts T _ ho) ho3 (aP.ts T _ ho) PL.tz dq⟩) .nil),by decide,k _⟩
end
theorem all_mk{l:W.OpenLaw}{w:World}{K:W.Frag}{h:Heap}{mg:Str->Option Value}{fa:Addr}{cc Pt:Addr}{xcT xcF xcG xcH:Addr}{odT odF odG odH:Option Addr}{itsT itsF itsG itsH:Array Value}{nT nF nG nH:Nat}{slT slF slG slH:Array (Option Value)}{tkA:Tok}(X:K.In h)(G:h.Ns mainGlobals mg)(hfa:mg "law"=some (.ref fa))
  (t1:TopAt K "has_one_sum" cQ8)
  (t2:TopAt K "place_of_sums" cP8)
  (t3:TopAt K "sums_of" cI9)
  (t4:TopAt K "parts_of" cM2)
  (t5:TopAt K "names_in" cQ9)
  (t6:TopAt K "sets_name" cI4)
  (t7:TopAt K "names_asked" cL8)
  (t8:TopAt K "as_steps" cL9)
  (t9:TopAt K "inner_steps" cG9)
  (t10:TopAt K "steps_of" cP5)
  (t11:TopAt K "begins_rows" cI2)
  (t12:TopAt K "rebuilt" cM5)
  (t13:TopAt K "is_row" cP9)
  (t14:TopAt K "parts_right_in" cK6)
  (t15:TopAt K "places_right_in" cN9)
  (t16:TopAt K "places_of" cO7)
  (t17:TopAt K "rows_in" cH7)
  (t18:TopAt K "names_behind" cN8)
  (t19:TopAt K "needed" cO8)
  (t20:TopAt K "is_idle" cP2)
  (t21:TopAt K "idle" cQ6)
  (t22:TopAtT K "trimmed" aC7 cc)
  (t23:TopAt K "first_is_amiss" cP0)
  (t24:TopAt K "range_is_amiss" cM1)
  (t25:TopAt K "range_faults" cJ0)
  (t26:TopAt K "in_both" cK0)
  (t27:TopAt K "unknown_faults" cO2)
  (t28:TopAt K "tells_faults" cQ3)
  (t29:TopAt K "look_at_kinds" cP6)
  (t30:TopAt K "look" cQ4)
  (t31:TopAt K "common_divisor" cJ8)
  (t32:TopAt K "lowest" cJ6)
  (t33:TopAt K "added" cK2)
  (t34:TopAt K "times" cI8)
  (t35:TopAt K "minus" aU9)
  (t36:TopAt K "power" cK8)
  (t37:TopAt K "less" cM0)
  (t38:TopAt K "far_tail" cL4)
  (t39:TopAt K "tail_of" bR4)
  (t40:TopAt K "turned_power" cH8)
  (t41:TopAt K "price_of_throw" cQ2)
  (t42:TopAt K "price_of_row" cI7)
  (t43:TopAt K "price_behind" cJ5)
  (t44:TopAt K "greatest" cO1)
  (t45:TopAt K "greatest_of" cH1)
  (t46:TopAt K "price_made" cQ0)
  (t47:TopAt K "prices_of" cO0)
  (t48:TopAt K "price" cM8)
  (t49:TopAt K "_law_deal" aX7)
  (t50:TopAt K "_law_draw" bC0)
  (t51:TopAt K "_law_lowest" bQ7)
  (t52:TopAt K "_law_steepness" aS8)
  (t53:TopAt K "_law_names" bA6)
  (t54:TopAt K "_law_sum" bD1)
  (t55:TopAt K "_law_throw" aR8)
  (t56:TopAt K "_law_term" aT4)
  (t57:TopAt K "_law_set_row" bS0)
  (t58:TopAt K "_law_when" aR7)
  (t59:TopAt K "_law_row" bC3)
  (t60:TopAt K "_law_rows" bC5)
  (t61:TopAt K "_law_program" aR9)
  (t62:TopAt K "_law_flat" bB4)
  (t63:TopAt K "_law_asked_in" cM4)
  (t64:TopAt K "_law_wanted" cI1)
  (t65:TopAt K "_law_left" cH3)
  (t66:TopAt K "law" aQ2)
  (z_reversed:W.nsIn K mainGlobals "reversed"=some none)
  (z_tuple:W.nsIn K mainGlobals "tuple"=some none)
  (z_len:W.nsIn K mainGlobals "len"=some none)
  (z_isinstance:W.nsIn K mainGlobals "isinstance"=some none)
  (z_str:W.nsIn K mainGlobals "str"=some none)
  (z_list:W.nsIn K mainGlobals "list"=some none)
  (z_range:W.nsIn K mainGlobals "range"=some none)
  (z_zip:W.nsIn K mainGlobals "zip"=some none)
  (z_sorted:W.nsIn K mainGlobals "sorted"=some none)
  (z_enumerate:W.nsIn K mainGlobals "enumerate"=some none)
  (z_all:W.nsIn K mainGlobals "all"=some none)
  (z_dict:W.nsIn K mainGlobals "dict"=some none)
  (z_set:W.nsIn K mainGlobals "set"=some none)
  (z_min:W.nsIn K mainGlobals "min"=some none)
  (z_any:W.nsIn K mainGlobals "any"=some none)
  (z_max:W.nsIn K mainGlobals "max"=some none)
  (z_int:W.nsIn K mainGlobals "int"=some none)
  (qT:W.nsIn K mainGlobals "THROWS"=some (some (.ref xcT)))
  (uT:K.lookup xcT=some ⟨.type "tuple",odT,.seq itsT nT,slT⟩)
  (vT:bH (cN.map V.str) itsT.toList)
  (qF:W.nsIn K mainGlobals "FREE"=some (some (.ref xcF)))
  (uF:K.lookup xcF=some ⟨.type "tuple",odF,.seq itsF nF,slF⟩)
  (vF:bH [V.ref xcG,V.ref xcH] itsF.toList)
  (uG:K.lookup xcG=some ⟨.type "tuple",odG,.seq itsG nG,slG⟩)
  (vG:bH [V.int 1,V.int 1] itsG.toList)
  (uH:K.lookup xcH=some ⟨.type "tuple",odH,.seq itsH nH,slH⟩)
  (vH:bH [V.int 0,V.int 1] itsH.toList)
  (qK:W.nsIn K mainGlobals "MOST_KINDS"=some (some (.int 3 tkA))) :
  ∃fd:FuncData,(∀(s:Shared) (v:Value),BindsTo s fd ⟨[v],[]⟩ [("_law_script",v)])/\∀base:Heap,K.In base->base.Ns mainGlobals mg->aB1 base mg cc Pt->nX l.prog w K mg base wU 121 fa fd ["_law_script"] (nL K (bK2 Pt)):=by
 obtain⟨_,la,oc,od,kV,dc,pm,an,cd,ct,sl,lk,lc,lp⟩:=t66
 cases hfa.symm.trans (W.mg_of X G la)
 refine⟨W.fnOf "law" "law" (cC aQ2) (bQ aQ2) (aU aQ2) .none kV dc pm an cd ct,fun s v=> .of_eq rfl,fun base _ _ LB0=>?_⟩;have Z:Zx l.prog w K mg base:= .of X G;have y_reversed:=Z.no _ z_reversed;have y_tuple:=Z.no _ z_tuple;have y_len:=Z.no _ z_len;have y_isinstance:=Z.no _ z_isinstance;have y_str:=Z.no _ z_str;have y_list:=Z.no _ z_list;have y_range:=Z.no _ z_range;have y_zip:=Z.no _ z_zip;have y_sorted:=Z.no _ z_sorted;have y_enumerate:=Z.no _ z_enumerate;have y_all:=Z.no _ z_all;have y_dict:=Z.no _ z_dict;have y_set:=Z.no _ z_set;have y_min:=Z.no _ z_min;have y_any:=Z.no _ z_any;have y_max:=Z.no _ z_max;have y_int:=Z.no _ z_int;have mT:=Z.ns _ _ qT;have zT:itsT.size<=sizeLine:=by
  have e:=vT.length;have e2:itsT.size=4:=by rw[<-jt];simpa [cN] using e.symm
  rw[e2]
  decide
 have hT:∀H,aQ K H xcT (cN.map V.str):=fun H=> .inr ⟨_,itsT,nT,uT,rfl,rfl,zT,vT⟩
 have mF:=Z.ns _ _ qF;have zz:∀{vs:List V}{its:Array Value},bH vs its.toList->vs.length<=2->its.size<=sizeLine:=fun {vs its} v l=>by
  have e:=v.length;rw[<-jt, <-e];exact cj l (by decide)
 have hF:∀H,aQ K H xcF [.ref xcG,.ref xcH]/\cP K H xcG (1,1)/\cP K H xcH (0,1):=fun H=>⟨.inr ⟨_,itsF,nF,uF,rfl,rfl,zz vF (by show 2<=2;decide),vF⟩,.inr ⟨_,itsG,nG,uG,rfl,rfl,zz vG (by show 2<=2;decide),vG⟩,.inr ⟨_,itsH,nH,uH,rfl,rfl,zz vH (by show 2<=2;decide),vH⟩⟩
 have mK:=Z.ns _ _ qK;have C1:=Z.c1 t1 (cF8);have C2:=Z.c1 t2 (bU0);have C3:=Z.c1 t3 (bX8 C2 C1);have C4:=Z.c1 t4 (cG6);have C5:=Z.c1 t5 (bZ4 C4);have C6:=Z.c1 t6 (cA2 mT hT);have C7:=Z.c1 t7 (cG2 C5);have C8:=Z.c1 t8 (cE7);have C9:=Z.c1 t9 (cF2 C8);have C10:=Z.c1 t10 (cA8 C8 C9 y_reversed);have C11:=Z.c2 t11 (bY5);have C12:=Z.z2 t12 (cG4 C10 C11 y_tuple y_len);have C13:=Z.c1 t13 (cC2 y_isinstance y_str y_len);have C14:=Z.c1 t14 (cE0 C13 y_list);have C15:=Z.c2 t15 (bU3 C14 y_range y_len);have C16:=Z.c1 t16 (bT8 C15 C14 y_list y_reversed y_zip);have C17:=Z.c1 t17 (cC7 C10);have C18:=Z.c1 t18 (bZ7 C7);have C19:=Z.c1 t19 (bV8 C17 C18 C7 y_tuple y_sorted);have C20:=Z.c2 t20 (bW6 C6);have C21:=Z.c1 t21 (cE8 C19 C20 C17 y_tuple y_enumerate);have C22:=Z.t1 t22 (bU4 C12 C19 C20 LB0);have C23:=Z.c1 t23 (bY6);have C24:=Z.c1 t24 (cG3 mT hT C23);have C25:=Z.c1 t25 (bU7 C24);have C26:=Z.c2 t26 (bV0);have C27:=Z.c1 t27 (bX3 C6 C26 C7 y_all y_dict)
 have C28:=Z.c1 t28 (bT4 C11);have C29:=Z.c1 t29 (bZ6 mK y_len y_set);have C30:=Z.c1 t30 (cC5 C29 C10 C28 C25 C27 y_min y_any);have C31:=Z.c2 t31 (cG5);have C32:=Z.c2 t32 (bT3 C31);have C33:=Z.c2 t33 (cC6 C32);have C34:=Z.c2 t34 (bX0 C32);have C35:=Z.c2 t35 (aQ3 C32);have C36:=Z.c2 t36 (bV5 y_range);have C37:=Z.c2 t37 (cC3);have C38:=Z.c2 t38 (bX6 C34 C36);have C39:=Z.c2 t39 (bL7 C35 C38);have C40:=Z.c2 t40 (cF6 C36);have C41:=Z.c2 t41 (cD9 mF hF C34 C40 C32 C39 C3 y_max y_min);have C42:=Z.c2 t42 (cE2 mT hT mF hF C41);have C43:=Z.c1 t43 (bW7 mF hF C34 C33);have C44:=Z.c1 t44 (cA4 C37);have C45:=Z.c1 t45 (cD7 C44);have C46:=Z.c2 t46 (bZ5 mF hF C36 C13 C43 C45 C34);have C47:=Z.c2 t47 (bW9 mT hT mF hF C19 C16 C13 C20 C42 C46 C14 C15);have C48:=Z.c2 t48 (cF4 C47);have C49:=Z.c2 t49 (fun F=>bJ5 F y_max y_reversed y_list);have C50:=Z.c2 t50 (fun F=>bP2 F y_len);have C51:=Z.c2 t51 (bP5);have C52:=Z.c2 t52 (bB7 C51 C50)
 have C53:=Z.c2 t53 (bC4 C50 y_range y_len y_int);have C54:=Z.c2 t54 (aT1 C50 y_tuple y_range);have C55:=Z.c3 t55 (aS7 C50 C52 C54 y_tuple y_max y_range);have R56:∀n,Cl l.prog w K mg base (n+1) (rJ n) "_law_term":=fun n=>by
  induction n with
  |zero=>exact Z.c3 (p1:="_law_deal_here") (p2:="_law_known") (p3:="_law_room") t56 okn
  |succ n ih=>exact Z.c3 t56 (bD5 n ih C50 y_len)
 have C56:=R56 3;have C57:=Z.c3 t57 (bH3 C50 C55 C56 y_len);have R60:∀m,Cl l.prog w K mg base (5+3*m) (aA7 m) "_law_when"/\Cl l.prog w K mg base (4+3*m) (bS5 m) "_law_rows":=fun m=>by
  induction m with
  |zero=>exact⟨Z.c4 (p1:="_law_deal_here") (p2:="_law_scene") (p3:="_law_known") (p4:="_law_deep") t58 okn,Z.c5 (p1:="_law_deal_here") (p2:="_law_scene") (p3:="_law_known") (p4:="_law_deep") (p5:="_law_many") t60 okn⟩
  |succ m ih =>
   have r0:=Z.c4 t59 (bC1 m C50 ih.1 ih.2 C57 C56 y_int);have e1:5+3*m+1=6+3*m:=by lia
   have r1:Cl l.prog w K mg base (6+3*m) (aT2 (m+1)) "_law_row":=by rw[<-e1];exact r0
   have s0:=Z.c5 t60 (aS2 m r1 y_range y_tuple);have e2:6+3*m+1=7+3*m:=by lia
   have s1:Cl l.prog w K mg base (7+3*m) (oK m) "_law_rows":=by rw[<-e2];exact s0
   have w0:=Z.c4 t58 (bA2 m C56 s1 C50 C57 y_range y_len y_int y_tuple);have e3:7+3*m+1=5+3*(m+1):=by lia
   have e4:7+3*m=4+3*(m+1):=by lia
   exact⟨by rw[<-e3];exact w0,by rw[<-e4];exact s1⟩
 have C60:=(R60 3).2;have C61:=Z.c4 t61 (bE5 C60 C50 C56 y_len y_tuple);have R62:∀n,Cl l.prog w K mg base (n+1) (aI8 n) "_law_flat":=fun n=>by
  induction n with
  |zero=>exact Z.c1 (p1:="_law_rows_here") t62 okn
  |succ n ih=>exact Z.c1 t62 (bC9 n ih)
 have C62:=R62 5;have R63:∀n,Cl l.prog w K mg base (n+1) (aH9 n) "_law_asked_in":=fun n=>by
  induction n with
  |zero=>exact Z.c1 (p1:="_law_term_here") t63 okn
  |succ n ih=>exact Z.c1 t63 (bY1 n ih)
 have C63:=R63 7;have C64:=Z.c1 t64 (cF5 C62 C63 y_range y_len);have R65:∀n,Cl l.prog w K mg base (n+1) (aI2 n) "_law_left":=fun n=>by
  induction n with
  |zero=>exact Z.c2 (p1:="_law_rows_here") (p2:="_law_wanted_here") t65 okn
  |succ n ih=>exact Z.c2 t65 (bT2 n ih y_tuple)
 have C65:=R65 4;exact bT9 C49 C53 C61 C22 C50 C30 C21 C48 C65 C64 y_range y_len (aD3 lk lc lp)
open PySem PySem.W L2
theorem walk{l:W.OpenLaw}{q:Program}{loose:List Str}{XP:(Str->Option Value)->Heap->Prop}{YP:World->Heap->Prop}{d:DefRec}{K:Params->W.Frag}{c Pt:Addr}(hn:l.most=some 63)(hdf:d.params.defaults=[])
  (hY:∀(w:World) (h:Heap),YP w h->(K w.params).In h/\∀P∈[Pt],h.get? P=some (tabObj #[]))
  (hK:∀w:World,noTabs (K w.params)=true) (hH:∀w:World,codeHdIn (K w.params) c Pt=true)
  (F:∀(w:World) (mg:Str->Option Value) (fa:Addr) (h:Heap),(K w.params).In h->h.Ns mainGlobals mg->mg d.name=some (.ref fa) ->
   ∃fd:FuncData,(∀(s:Shared) (u:Value),BindsTo s fd ⟨[u],[]⟩ [("_law_script",u)])/\∀base:Heap,(K w.params).In base->base.Ns mainGlobals mg->aB1 base mg c Pt->nX l.prog w (K w.params) mg base wU 121 fa fd ["_law_script"] (nL (K w.params) (bK2 Pt))) :
  W.WalkO q loose XP YP l.row.toRowW d [] (fun f vs=>PySem.call f vs):=
 L2.walkT_of (n:=63) (k:=121) (x:="_law_script") (ts:=[(c,Pt)]) (sp:=fun w=>nL (K w.params) (bK2 Pt)) hn (by decide) hdf ⟨rfl,by decide,by decide,rfl⟩ (fun w h Y=>hY w h Y) hK
  (fun w q hq=>by rw[au.mp hq];exact hH w)
  (fun w mg fa h a b e=>let⟨fd,x,y⟩:=F w mg fa h a b e;⟨fd,x,fun base k m L=>y base k m (L _ (au.mpr rfl))⟩)
  (fun w H a ns hl hO hS=>⟨a,ns,rfl,hS,hl,hO.1 _ (au.mpr rfl),fun _=>rfl⟩)
end Mine
open PySem PySem.W PyProof.Rows
namespace PySem.W.Fast
def tw10015879608253582553:=0
def tw10024717584650280407:=0
def tw10101647530478104482:=0
def tw10137885403819245156:=0
def tw10161024751577031241:=0
def tw10181403970841452896:=0
def tw10194461475113856599:=0
def tw10228666434792093181:=0
def tw10275709763037412220:=0
def tw10309037167092915602:=0
def tw10384497885025337722:=0
def tw1043824687411827304:=0
def tw10543524871423239419:=0
def tw10564501462549680119:=0
def tw10577007005576576636:=0
def tw1059013450611723985:=0
def tw10608078597276553180:=0
def tw10623136349716229092:=0
def tw10693986934837945121:=0
def tw10711976179676107668:=0
def tw1073606388798547750:=0
def tw1074424924467414053:=0
def tw10805450131313950683:=0
def tw10841318915737312771:=0
def tw10873752624283903902:=0
def tw10888949093646044778:=0
def tw10900725244730916299:=0
def tw109060692613032529:=0
def tw10936535294498491544:=0
def tw10995286754129791229:=0
def tw11021595798322360971:=0
def tw1103707530035670067:=0
def tw11109562924173253316:=0
def tw11141006883049983415:=0
def tw11150156439240143347:=0
def tw11226020681413487780:=0
def tw11249348788466791036:=0
def tw11250727566842155239:=0
def tw1125738840457434250:=0
def tw11316309152202943812:=0
def tw11400434285785585231:=0
def tw11410144609009482057:=0
def tw11445086935335977342:=0
def tw11491717610034771392:=0
def tw11629153481718032996:=0
def tw11669175172731885488:=0
def tw11993746793336447276:=0
def tw11998167451707836946:=0
def tw12007567355927800568:=0
def tw12044932781462208084:=0
def tw12079897629236827098:=0
def tw12081520113232386185:=0
def tw12109158920365601412:=0
def tw12166378488500615082:=0
def tw12172260768607679045:=0
def tw12184202353250835734:=0
def tw12197536438815051871:=0
def tw12199387978506083793:=0
def tw12206186687551957474:=0
def tw12213595290913873467:=0
def tw12418884844566635507:=0
def tw12485213937774255864:=0
def tw12576115023492695833:=0
def tw12620096773748623995:=0
def tw12637283901750133673:=0
def tw12638041699613466382:=0
def tw12657409042546012516:=0
def tw12738359832381066150:=0
def tw12766056203037726979:=0
def tw12786568062703113145:=0
def tw12825629027218651634:=0
def tw12875980717713345419:=0
def tw12918837321342040705:=0
def tw12953867432794135134:=0
def tw12992195079566618644:=0
def tw13014463432772987041:=0
def tw13029175708867978342:=0
def tw13033393719514957281:=0
def tw13087542508144607636:=0
def tw1311044743865793597:=0
def tw13186919939389285616:=0
def tw13279639130803247750:=0
def tw13282744607473888744:=0
def tw13293699982803264443:=0
def tw13362626101897137592:=0
def tw13368663000309155510:=0
def tw13392239803030675578:=0
def tw13455613867405522438:=0
def tw13458656584500143966:=0
def tw13687833691919057763:=0
def tw13769283972738310770:=0
def tw13777113825525182516:=0
def tw13789554637545072182:=0
def tw13803426779213621182:=0
def tw13820841227587978855:=0
def tw1385915369459423491:=0
def tw1386696376554961053:=0
def tw139050523947195164:=0
def tw13928083425597087302:=0
def tw1396255797498037730:=0
def tw14010019125112688026:=0
def tw14011419931102604306:=0
def tw14040474392267008051:=0
def tw14055332004712395030:=0
def tw14067803635092708593:=0
def tw14070480215341245967:=0
def tw14070878077126168514:=0
def tw14123645494162744031:=0
def tw14247919374038850672:=0
def tw1429187428690633633:=0
def tw14413702765324153218:=0
def tw14435506936381810124:=0
def tw14490807971632110501:=0
def tw14524667292303693530:=0
def tw14564770798882846357:=0
def tw14567102477350736733:=0
def tw14574117089823960309:=0
def tw14614936385138199105:=0
def tw14658736377339327845:=0
def tw14792596318824074434:=0
def tw14950450745888118226:=0
def tw14960433985527905794:=0
def tw149645981465210341:=0
def tw14972001312836706476:=0
def tw15114517808728600466:=0
def tw15141893771929341324:=0
def tw15161526677996777129:=0
def tw15166605428862817729:=0
def tw15276179140938432390:=0
def tw15334930644897256663:=0
def tw15344677033918228841:=0
def tw15350338103999342316:=0
def tw1535333137959020919:=0
def tw15374175108491163000:=0
def tw15411285030344561003:=0
def tw15492998740505040487:=0
def tw15535990833983760826:=0
def tw15549944662346479379:=0
def tw15556669777006001720:=0
def tw15669583388866758296:=0
def tw15753997930893981879:=0
def tw15759846568195470379:=0
def tw15764792025464153415:=0
def tw1578717595647357550:=0
def tw15801179963609428127:=0
def tw15877864717380018740:=0
def tw15928489692551246153:=0
def tw15976592396818399849:=0
def tw15977230681691107163:=0
def tw15995033852477452569:=0
def tw15997318627537210919:=0
def tw16052756303225113322:=0
def tw16077515074256345157:=0
def tw16084025737981990186:=0
def tw16122138570032535977:=0
def tw16132779540036385572:=0
def tw16135258855014485868:=0
def tw16150667583826341908:=0
def tw16177346800825389487:=0
def tw16335114062391361912:=0
def tw16340295906602634413:=0
def tw16345395747965297698:=0
def tw1635696310582086337:=0
def tw16370831126518761459:=0
def tw16439187827391788673:=0
def tw16625334253352439633:=0
def tw16689379861953361697:=0
def tw16761758755623671603:=0
def tw16761864218854517418:=0
def tw16770741351228942945:=0
def tw16836681602122055281:=0
def tw17005858282499571840:=0
def tw17032677748547114143:=0
def tw17098087879075724812:=0
def tw17104923345361609569:=0
def tw17146540231016275084:=0
def tw17151462651849465066:=0
def tw17181419691412004039:=0
def tw17223186288140331877:=0
def tw17306986572155152037:=0
def tw17352742349729555045:=0
def tw17433978622479183975:=0
def tw17448782173346042580:=0
def tw17497042425181306357:=0
def tw17698422172924882803:=0
def tw17760706940022338992:=0
def tw1785604766365942924:=0
def tw17983503449377583999:=0
def tw1803488891890367161:=0
def tw18040172076815690865:=0
def tw18050753060320874156:=0
def tw18079575533170584455:=0
def tw18097706942100550301:=0
def tw18106189684735418706:=0
def tw18186869211389037690:=0
def tw18195240657107801773:=0
def tw18202981127832678297:=0
def tw18255950497341810904:=0
def tw18258776789627572522:=0
def tw18329572532797123236:=0
def tw18381482374577417808:=0
def tw18443955242904131156:=0
def tw189230663292840335:=0
def tw1970199631161287054:=0
def tw1991229149116035843:=0
def tw208372535821712642:=0
def tw2142091217418186809:=0
def tw2194810433991153287:=0
def tw2196774665250138094:=0
def tw2266307823465467673:=0
def tw226676985650472372:=0
def tw2279796470425394794:=0
def tw231184214265228621:=0
def tw233340595399416460:=0
def tw2353029917385080282:=0
def tw2363987272501904088:=0
def tw2396957775724795635:=0
def tw24088794278050103:=0
def tw2413893580525184471:=0
def tw2414527940809412572:=0
def tw2476997105842913395:=0
def tw2482748946455820358:=0
def tw252457724795650388:=0
def tw2545386664927337166:=0
def tw2556817230052623037:=0
def tw2595444662745900785:=0
def tw2607086920735929046:=0
def tw2618672118976952813:=0
def tw2668605910614387810:=0
def tw2851255033302475267:=0
def tw291383359615032599:=0
def tw297838681490725725:=0
def tw29784095203138759:=0
def tw3016470061344050447:=0
def tw3053793181342411627:=0
def tw3306609811589272558:=0
def tw3393229469348576027:=0
def tw3394106213333474207:=0
def tw3401954199180186872:=0
def tw3404607581956166142:=0
def tw341958022663980261:=0
def tw3437985349531469174:=0
def tw3446910179280722461:=0
def tw3551549557835502020:=0
def tw3576296805772751477:=0
def tw3625748693123361572:=0
def tw3634471192860315355:=0
def tw3669004207442548846:=0
def tw370871119560915692:=0
def tw3803712650041212057:=0
def tw3813601663308348205:=0
def tw3814638548326186770:=0
def tw3898296694470855400:=0
def tw4041032140029022827:=0
def tw4063914500774308886:=0
def tw40915197485527777:=0
def tw4124394743322645708:=0
def tw4185331442837146363:=0
def tw4240405986003926726:=0
def tw4252756289312340881:=0
def tw4254329139877602334:=0
def tw4285581064748892401:=0
def tw4292037034374254986:=0
def tw4294304633317627848:=0
def tw436103918066926046:=0
def tw4458456387053768308:=0
def tw4516905789566666483:=0
def tw4599921818492839643:=0
def tw4601852173409575801:=0
def tw4675771061327159775:=0
def tw4708735747180391775:=0
def tw4713101062894232772:=0
def tw4796222059533223644:=0
def tw4803382373515944941:=0
def tw4887562177785268763:=0
def tw4932096522542214332:=0
def tw4959116086057039390:=0
def tw4989918865549389816:=0
def tw5023460083926439473:=0
def tw5043031618775989199:=0
def tw5044169522059446459:=0
def tw5101652903393848009:=0
def tw5118935338985367653:=0
def tw5176934373921521263:=0
def tw5230158206597145119:=0
def tw523095399476492242:=0
def tw5261261865687253125:=0
def tw528206791021689581:=0
def tw5289790928175472507:=0
def tw5318077915238874289:=0
def tw5366370595940582423:=0
def tw5369101685604752463:=0
def tw5397836018293989219:=0
def tw5428905547006527442:=0
def tw5503569525016632613:=0
def tw5606229849061084078:=0
def tw5685590719973687121:=0
def tw568636841650548053:=0
def tw5693929943079463169:=0
def tw5719841558982026002:=0
def tw5728692403354778755:=0
def tw5747230447992163539:=0
def tw5749100439632283754:=0
def tw5761391287077275779:=0
def tw588256204026889389:=0
def tw5908610488474870548:=0
def tw5911633193501888116:=0
def tw5950054170692997902:=0
def tw6179075506751302544:=0
def tw6189982442364896300:=0
def tw6213836939878761165:=0
def tw6214856491206503292:=0
def tw6259054670583841299:=0
def tw6261665430674677464:=0
def tw6284024473847284434:=0
def tw6319247427751140451:=0
def tw6342967095519935148:=0
def tw6353827448290543095:=0
def tw6381674128009773558:=0
def tw6397319436264626427:=0
def tw6404668642933692521:=0
def tw6422388072617328038:=0
def tw6479870504409903415:=0
def tw6542538954720246592:=0
def tw6554215573700827404:=0
def tw6559040388412993237:=0
def tw6560104821901259292:=0
def tw661923726587260297:=0
def tw6627185174250988588:=0
def tw6641074887599186773:=0
def tw6668493850249786455:=0
def tw6710092015822997048:=0
def tw6758810329482622637:=0
def tw6771634051301865617:=0
def tw6772570986245276926:=0
def tw6829090632485848180:=0
def tw6839662496758402195:=0
def tw6848440133730228343:=0
def tw6872756789890940570:=0
def tw6890508178436735539:=0
def tw6905205570480137859:=0
def tw6958779953580479387:=0
def tw707513887944217426:=0
def tw7083200541764375516:=0
def tw7098882552951380981:=0
def tw7167227797782521091:=0
def tw7208854049313801612:=0
def tw7352043583810315263:=0
def tw7431143397163608896:=0
def tw7460369825047104892:=0
def tw7535234630432306593:=0
def tw7547208305193348665:=0
def tw7576161470420254655:=0
def tw7615198029434263004:=0
def tw7632972440069150055:=0
def tw763814354701465064:=0
def tw7652588216875350101:=0
def tw7665408101121188988:=0
def tw7691502009046410753:=0
def tw7698458696510857998:=0
def tw7721852911842710653:=0
def tw7729016451883046336:=0
def tw7737859964063931329:=0
def tw7771539921657655501:=0
def tw7830912142113932766:=0
def tw7852785654175802095:=0
def tw7890309587394521597:=0
def tw7913006443011765496:=0
def tw7913311013517028676:=0
def tw7942045292314127774:=0
def tw7949537036719737349:=0
def tw798666948581854992:=0
def tw8003598013403337870:=0
def tw800444259754522690:=0
def tw8032428619013943628:=0
def tw8056822845352201133:=0
def tw8066685390348526581:=0
def tw8100231201568373889:=0
def tw8178456508567316192:=0
def tw8181724424098550332:=0
def tw8221704952714924912:=0
def tw8254819000819113554:=0
def tw8303260311993969162:=0
def tw8318289573935544255:=0
def tw8338638155576031758:=0
def tw8356649896408633299:=0
def tw8362328677400636021:=0
def tw8378633920909853545:=0
def tw8432830171494871946:=0
def tw8489259891954629758:=0
def tw8509785542696621411:=0
def tw8517126548808666089:=0
def tw8561719188101135631:=0
def tw8564819768226339665:=0
def tw8620886453278697175:=0
def tw8643690495750815696:=0
def tw8678196077719971608:=0
def tw8692091075194257031:=0
def tw8716850394165858585:=0
def tw8746471167797237090:=0
def tw874668605770665698:=0
def tw8777888765252330353:=0
def tw8802405077910406604:=0
def tw8820529145614668234:=0
def tw9005212299426842645:=0
def tw9020357484663839654:=0
def tw9132236946187535736:=0
def tw9188888687244203768:=0
def tw9204401086029285749:=0
def tw9222173071427315385:=0
def tw9236245624775393941:=0
def tw927525458445038918:=0
def tw9314415903346900918:=0
def tw9430954149168593434:=0
def tw945821230037794711:=0
def tw9551136212970185464:=0
def tw9551197905138079986:=0
def tw9562121922818911607:=0
def tw961488530237124295:=0
def tw9702621052641719061:=0
def tw9752327301909915488:=0
def tw9784124867190100492:=0
def tw9801859442080583493:=0
def tw9814867828535075149:=0
end PySem.W.Fast
set_option maxRecDepth 100000 in
set_option maxHeartbeats 0 in
theorem PySem.Challenge.cw_pairedthrows_k49_trimmed_holds : PySem.Challenge.rw_pairedthrows_k49_trimmed.Holds := by
  w_on;o_law;k_head;(case hw=>w_witness2)
  k_fill
  refine' Mine.walk (l:=PySem.Challenge.rw_pairedthrows_k49_trimmed) rfl rfl (fun w h Y=>⟨PySem.W.km_in_of Y,PySem.W.km_tabs_of Y⟩) (fun _=>by kernel_rfl) ?H ?F
  case F =>
    intro w mg fa h KX G hmg
    refine' Mine.all_mk KX G hmg ?a0 ?a1 ?a2 ?a3 ?a4 ?a5 ?a6 ?a7 ?a8 ?a9 ?a10 ?a11 ?a12 ?a13 ?a14 ?a15 ?a16 ?a17 ?a18 ?a19 ?a20 ?a21 ?a22 ?a23 ?a24 ?a25 ?a26 ?a27 ?a28 ?a29 ?a30 ?a31 ?a32 ?a33 ?a34 ?a35 ?a36 ?a37 ?a38 ?a39 ?a40 ?a41 ?a42 ?a43 ?a44 ?a45 ?a46 ?a47 ?a48 ?a49 ?a50 ?a51 ?a52 ?a53 ?a54 ?a55 ?a56 ?a57 ?a58 ?a59 ?a60 ?a61 ?a62 ?a63 ?a64 ?a65 ?a66 ?a67 ?a68 ?a69 ?a70 ?a71 ?a72 ?a73 ?a74 ?a75 ?a76 ?a77 ?a78 ?a79 ?a80 ?a81 ?a82 ?a83 ?a84 ?a85 ?a86 ?a87 ?a88 ?a89 ?a90 ?a91 ?a92 ?a93
    case a66|a67|a68|a69|a70|a71|a72|a73|a74|a75|a76|a77|a78|a79|a80|a81|a82|a83|a84=>k_is
    case a85=>exact .cons ⟨_,rfl⟩ (.cons ⟨_,rfl⟩ (.cons ⟨_,rfl⟩ (.cons ⟨_,rfl⟩ (.nil))))
    case a86|a87=>k_is
    case a88=>exact .cons rfl (.cons rfl .nil)
    case a89=>k_is
    case a90=>exact .cons ⟨_,rfl⟩ (.cons ⟨_,rfl⟩ (.nil))
    case a91=>k_is
    case a92=>exact .cons ⟨_,rfl⟩ (.cons ⟨_,rfl⟩ (.nil))
    case a93=>k_is
    case a0|a1|a2|a3|a4|a5|a6|a7|a8|a9|a10|a11|a12|a13|a14|a15|a16|a17|a18|a19|a20=>apply L2.TopAt.of<;>k_is
    case a21=>apply L2.TopAtT.of<;>k_is
    case a22|a23|a24|a25|a26|a27|a28|a29|a30|a31|a32|a33|a34|a35|a36|a37|a38|a39|a40|a41|a42|a43|a44|a45|a46|a47|a48|a49|a50|a51|a52|a53|a54|a55|a56|a57|a58|a59|a60|a61|a62|a63|a64|a65=>apply L2.TopAt.of<;>k_is
  case H => exact fun _ => by kernel_rfl
