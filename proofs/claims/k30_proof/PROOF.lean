import PyProof.Rows.All
import Wide.All
import OpenK.AllK
import Wide.FinOn
import Lean
import PyProof.EqAt
import PyProof.EqKinds
import PyProof.TupleCall
import KE.KDictOf
import PyProof.AttrMissHeap
import KE.KSortTup
import PyProof.Rows.InDataRows
import KE.KRevSl
import PyProof.Rows.SetFrom
import PyProof.Rows.SortStr
import KE.KDictLaws
import PyProof.DictWalks
import PyProof.DictItems
import KE.KDictList
import KE.KPairComp
import PyProof.Rows.Range3
import PyProof.AutoListH
import PySem.Challenge.RW_pairedthrows_k30_pairings_and_sets_looke
set_option Elab.async false
set_option linter.all false
set_option maxRecDepth 100000
local macro_rules|`(tactic|omega)=>`(tactic|lia)
local macro_rules|`(def $i:declId $s:optDeclSig $v:declVal)=>`(noncomputable def $i:declId $s:optDeclSig $v:declVal)
noncomputable section
namespace L2
open PySem PySem.Spec PyProof.Rows
def aa:=@wpAny_bind
def ac:=@wpAny_pure
def af:=@List.length_map
def ag:=@Heap.get?_push_of_some
def aj:=@List.getElem?_eq_getElem
def ak:=@Nat.le_refl
def am:=@decide_eq_true
def ao:=@if_neg
def ap:=@List.mem_map
def aq:=@Heap.get?_push_size
def ar:=@List.map_cons
def au:=@List.mem_cons_self
def az:=@Heap.lt_size
def ba:=@List.mem_cons_of_mem
def bb:=@if_pos
def bc:=@of_decide_eq_true
def be:=@List.take_length
def bf:=@List.getElem?_map
def bg:=@List.map_map
def bh:=@List.not_mem_nil
def bi:=@List.mem_cons
def bj:=@List.map_append
def bn:=@Nat.lt_of_lt_of_le
def bo:=@List.mem_of_getElem?
def bp:=@List.size_toArray
def bq:=@List.getElem?_eq_some_iff
def bu:=@decide_eq_false
def bv:=@Nat.ne_of_lt
def bw:=@List.mem_singleton
def bz:=@Nat.zero_le
def cb:=@List.length_append
def cf:=@List.mem_append
def cg:=@congrArg
def cj:=@Nat.le_trans
def ck:=@Bool.false_ne_true
def cp:=@wpAny_holding
def cq:=@List.length_take
def cr:=@wpAny_call_entry
def cu:=@List.mem_append_right
def cv:=@Int.mul_nonneg
def cw:=@List.eraseIdx_sublist
def cy:=@Int.toNat_natCast
def da:=@Option.some.inj
def db:=@wpAny_callSpecial?_slot
def de:=@List.map_congr_left
def di:=@wpAny_dictEntries
def dk:=@Nat.lt_irrefl
def dm:=@Nat.lt_of_le_of_lt
def dq:=@PySem.F.plainAttrs_list
def dt:=@wpAny_dictEpoch
def dw:=@Bool.false_and
def dy:=@List.length_cons
def dz:=@List.all_eq_true
def ed:=@List.sum_cons
def eh:=@Bool.eq_false_iff
def eo:=@Array.getElem?_toList
def eu:=@decide_eq_decide
def fb:=@Bool.and_eq_true
def ff:=@wpAny_mono
def fh:=@PySem.boot_len
def fi:=@List.mem_filter
def fj:=@Array.length_toList
def fk:=@wpAny_newObj_type
def fu:=@wpAny_field
def fw:=@Paired.length
def fx:=@wpAny_seqItems
def fy:=@wpAny_setField_rec
def ge:=@Option.map_eq_some_iff
def gf:=@Int.mul_le_mul_of_nonneg_left
def gh:=@PySem.W.kia_one
def gi:=@PyProof.Rows.callWith_type1
def gj:=@Int.lt_of_le_of_lt
def gk:=@Int.eq_ofNat_of_zero_le
def gm:=@Nat.lt_succ_self
def gr:=@True.intro
def gu:=@List.any_eq_true
def gw:=@List.mem_of_mem_take
def gy:=@Calls.callWith_builtin
def gz:=@PyProof.Rows.boot_list
def ia:=@PyProof.Rows.boot_dict
def ib:=@wpAny_truthy_bool
def ic:=@wpAny_pyIter_list
def ie:=@List.getElem_of_mem
def ig:=@List.nodup_cons
def ii:=@Array.getElem?_eq_getElem
def ij:=@Int.mul_le_mul_of_nonneg_right
def ik:=@wpAny_notOrdered_dict
def im:=@Int.mul_ediv_cancel_left
def io:=@List.eraseIdx_cons_succ
def ip:=@List.length_eq_zero_iff
def iq:=@List.filter_cons_of_neg
def ir:=@Bool.eq_iff_iff
def iu:=@wpAny_specialOf
def iw:=@Int.mul_lt_mul_of_pos_right
def iz:=@Nat.sub_lt_sub_left
def ja:=@Heap.get?_update_ne
def jb:=@wpAny_rule
def jc:=@Array.perm_iff_toList_perm
def jd:=@Heap.get?_update_self
def je:=@List.length_filter_le
def jf:=@F.slot_dict_valueiterator_next
def jg:=@wpAny_typeNameOfWhole_itemiter
def jh:=@List.filter_nil
def ji:=@Bool.true_and
def jj:=@wpAny_typeNameOfWhole_keyiter
def jk:=@wpAny_typeNameOfWhole_valiter
def jn:=@F.slot_dict_itemiterator_next
def jo:=@PySem.F.plainAttrs_dict
def jp:=@List.filter_cons_of_pos
def jq:=@PySem.mem_of_lookup
def jr:=@List.length_reverse
def jt:=@Or.inl
def ju:=@Heap.SameBut.update
def jv:=@wpAny_forIn_list
def jw:=@wpAny_isInstance
def jx:=@List.getElem_mem
def jy:=@F.slot_dict_keyiterator_next
def jz:=@Int.le_refl
def kb:=@List.take_of_length_le
def kc:=@Prod.mk.inj
def kd:=@Calls.spliced_cons
def ke:=@wpAny_Call_Name_kw
def kg:=@List.map_nil
def kh:=@wpAny_typeOf
def ki:=@Int.le_trans
def kj:=@Code.quiet_builtin
def km:=@Obj.data_mapFields
def ko:=@wpAny_passesOwn
def kr:=@List.foldl_cons
def ku:=@Array.mem_of_getElem?
def kw:=@List.take_append_drop
def lg:=@Int.emod_nonneg
def lh:=@wpAny_attempt
def mf:=@Int.dvd_trans
def mh:=@Int.dvd_mul_right
def mi:=@List.pairwise_iff_getElem
def mj:=@List.mem_of_find?_eq_some
def mo:=@Heap.size_push
def mq:=@wpAny_setField
def my:=@Nat.le_of_lt
def nc:=@Nat.ne_of_gt
def nh:=@wpAny_Call_method0_late
def nj:=@PyProof.Rows.boot_tuple
def nu:=@List.mem_filterMap
def nv:=@List.append_nil
def ny:=@List.sum_append
def oh:=@Int.lt_of_lt_of_le
def oj:=@codeAny_builtin
def on:=@PassesOwn.never
def oq:=@List.filter_append
def ot:=@Int.emod_lt_of_pos
def ou:=@wpAny_pyNext_list_item
def ow:=@Int.mul_pos
def ox:=@Array.getElem?_eq_none
def oy:=@Calls.spliced_nil
def oz:=@wpAny_pyNext_list_end
def pb:=@List.nodup_nil
def pc:=@builtinLookup_eq_fast
def pf:=@wpAny_fieldsOf
def ph:=@List.Pairwise.sublist
def pi:=@PySem.F.slot_list_pop
def pj:=@PySem.F.type_list_pop
def pk:=@PyProof.Rows.boot_int
def pp:=@call_meets
def pq:=@Array.toArray_toList
def pz:=@Nat.le_add_right
def qb:=@List.any_cons
def qd:=@Int.lt_of_mul_lt_mul_right
def qe:=@strLen_append
def qf:=@sizeLine_eq
def qg:=@beq_eq_false_iff_ne
def qh:=@PySem.evalArgs_none
def qi:=@Int.ediv_mul_cancel
def qj:=@List.map_eq_nil_iff
def qk:=@List.of_mem_zip
def ql:=@List.drop_eq_getElem_cons
def qm:=@tupleKind_room_in1
def qo:=@PySem.F.args_tuple_add_2
def qp:=@Int.le_of_lt
def qr:=@Int.mul_comm
def qt:=@List.pairwise_cons
def qu:=@slot_listiter_next
def qw:=@List.all_map
def qy:=@PySem.F.slot_dict_values
def qz:=@PySem.F.slot_list_insert
def rc:=@Int.add_zero
def re:=@List.filterMap_cons_some
def rf:=@PySem.F.slot_list_append
def rg:=@PySem.F.type_list_append
def rh:=@List.mem_range
def rl:=@PySem.F.entry_tuple_add
def rm:=@Option.isSome_map
def rq:=@List.reverse_cons
def sj:=@List.nodup_append
def su:=@eqIsQuiet_byValue
def sw:=@PySem.F.slot_tuple_add
def sx:=@Heap.get?_update_other
def sy:=@wpAny_letGo
def tf:=@wpAny_isOneOf_itemiter
def tj:=@wpAny_standAt
def tq:=@Int.mul_assoc
def ub:=@List.getElem_inj
def uc:=@F.args_dict_valueiterator_next_1
def ud:=@PySem.F.slot_dict_get
def ue:=@PySem.F.slot_tuple_lt
def uf:=@Obj.isFreed_of_fields
def ug:=@wpAny_isOneOf_valiter
def uh:=@PyProof.Rows.boot_all
def ui:=@List.eraseIdxIfInBounds_toArray
def uj:=@F.entry_dict_valueiterator_next
def um:=@F.args_dict_itemiterator_next_1
def uo:=@List.mem_append_left
def uq:=@wpAny_execs_nil
def ur:=@Array.mem_toList_iff
def ut:=@Option.map_some
def uw:=@Calls.evalArgs_plain
def ux:=@Nat.not_lt
def uy:=@typeLookup_type
def uz:=@Int.ediv_nonneg
def vb:=@F.kt_typeCall_dict_1
def vc:=@F.slot_zip_next
def vd:=@List.mem_iff_getElem
def vf:=@F.args_dict_keyiterator_next_1
def vg:=@Int.zero_add
def vh:=@F.entry_dict_itemiterator_next
def vi:=@Int.lt_trans
def vj:=@Nat.min_le_left
def vk:=@List.filterMap_cons
def vn:=@List.filter_sublist
def vo:=@callType_codes
def vt:=@isSubtype_stop
def wa:=@Int.mul_le_mul
def wc:=@Bool.and_false
def we:=@assignInOrder_cons
def wf:=@wpAny_pyIter_tuple
def wg:=@List.zip_cons_cons
def wj:=@F.args_dict_init_2
def wn:=@Array.getD_eq_getD_getElem?
def wo:=@of_decide_eq_false
def wq:=@Array.forIn_toList
def wt:=@List.find?_eq_none
def wu:=@Calls.Name_function_global
def wv:=@Int.fdiv_eq_ediv_of_nonneg
def ww:=@List.nodup_iff_pairwise_ne
def wx:=@List.length_eraseIdx_of_lt
def wz:=@List.Pairwise.nil
def xa:=@Nat.lt_succ_of_lt
def xb:=@F.entry_dict_init
def xc:=@Obj.cls_mapFields
def xf:=@List.pairwise_map
def xg:=@List.length_range
def xh:=@wpAny_pyIter_slot
def xi:=@decide_eq_true_eq
def xj:=@List.foldl_append
def xk:=@List.getElem?_zip_eq_some
def xm:=@Calls.call_function_entry
def xo:=@Option.isSome_iff_exists
def xp:=@wpAny_Dict_empty
def xq:=@noFill_tuple_add
def xr:=@List.length_drop
def xt:=@wpAny_comprehension_free
def xu:=@PyProof.noPylong_of_log2
def xw:=@Prod.ext
def xx:=@entryFor_of_tree
def xy:=@F.kt_called_dict
def xz:=@kt_code_dict_new
def ya:=@PyProof.Rows.countIn_ge0
def yb:=@PySem.F.type_dict_values
def yc:=@PySem.F.type_list_insert
def yd:=@wpAny_pyNext_tuple_item
def ye:=@PySem.F.args_dict_get_3
def yf:=@PySem.F.args_tuple_lt_2
def yg:=@Int.mul_ediv_mul_of_pos
def yh:=@Int.natCast_dvd_natCast
def yi:=@F.slot_dict_values_iter
def yj:=@PySem.F.slot_dict_items
def ym:=@List.pairwise_singleton
def yn:=@Int.natCast_mul
def yo:=@get?_update_seq
def yq:=@Sum.inl.inj
def yr:=@List.getElem?_set_self
def yt:=@wpAny_pyNext_tuple_end
def yu:=@PySem.W.cellsFrom_some
def yw:=@wpAny_Assign_Subscript
def yx:=@PySem.F.entry_dict_get
def yy:=@PySem.F.entry_tuple_lt
def yz:=@subscriptTail_builtinR
def zc:=@Int.pow_add
def zd:=@Int.one_mul
def ze:=@F.slot_dict_items_iter
def zf:=@List.find?_cons_of_pos
def zg:=@List.find?_cons_of_neg
def zh:=@Option.map_eq_none_iff
def zi:=@PyProof.Rows.boot_repr
def zj:=@wpAny_isTrue_Compare1
def zn:=@List.getElem?_eq_none
def zr:=@wpAny_tryCatch
def zt:=@wpAny_newTuple
def zu:=@wpAny_isOneOf_keyiter
def zv:=@isSubtype_tuple_tuple
def zw:=@List.take_zero
def zx:=@PySem.F.slot_dict_pop
def zy:=@PyProof.Rows.boot_max
def aAa:=@PyProof.Rows.boot_any
def aAb:=@List.getElem?_set_ne
def aAc:=@List.length_dropLast
def aAd:=@wpAny_updateSeq_pair
def aAe:=@SeqAt.EqAt.int_tuple
def aAf:=@SeqAt.EqAt.str_tuple
def aAg:=@SeqAt.EqAt.tuple_int
def aAh:=@wpAny_pyIter_valiter
def aAi:=@Int.mul_ediv_cancel'
def aAj:=@List.mem_of_mem_drop
def aAk:=@Obj.data_mapDictKeys
def aAl:=@seq_tuple_add
def aAm:=@wpAny_onRaise
def aAn:=@listUpdate_at
def aAo:=@PyProof.Rows.lt_int
def aAp:=@entry_listiter_next
def aAq:=@Nat.mul_le_mul_left
def aAr:=@codeAny_mono
def aAs:=@wpAny_setItem_heap
def aAt:=@SeqAt.EqAt.int_int
def aAu:=@concat_meets
def aAv:=@seqIndex_neg
def aAw:=@Or.inr
def aAx:=@sub_AttributeError
def aAy:=@wpAny_dictSet_heap
def aAz:=@args_listiter_next
def aBa:=@wpAny_pyHash_tuple
def aBb:=@slot_dict_contains
def aBc:=@Paired.snoc
def aBd:=@seqIndex_of
def aBe:=@Nat.le_succ
def aBf:=@Nat.log2_lt
def aBg:=@seqEpoch_at
def aBh:=@Int.add_mul
def aBi:=@List.map_id
end L2
namespace L2
open PySem PySem.Spec PyProof.Rows
abbrev Key:=Sum Int Str
def eL:Key->Value->Bool
 |.inl k,v=>Value.isInt k v
 |.inr x,v=>Value.isStrOf x v
def bT7 (w:World):Key->Int
 |.inl k=>hashInt k
 |.inr x=>hashStr w x
theorem aY:∀ {k:Key}{v:Value},eL k v=true->(∃ i t,k=Sum.inl i/\v=Value.int i t)\/(∃ x t,k=Sum.inr x/\v=Value.str x t)
 |.inl i,v,h=>by
  obtain ⟨t,e⟩:=Value.isInt_shape (k:=i) (v:=v) h
  exact .inl ⟨i,t,rfl,e⟩
 |.inr x,v,h=>by
  obtain ⟨t,e⟩:=Value.isStrOf_shape (x:=x) (v:=v) h
  exact .inr ⟨x,t,rfl,e⟩
theorem aF3 (i:Int) (t:Tok):eL (.inl i) (.int i t)=true:=by simp [eL,Value.isInt]
theorem aC8 (x:Str) (t:Tok):eL (.inr x) (.str x t)=true:=by simp [eL,Value.isStrOf]
theorem bI3 (a b:Int):decide ((Sum.inl a:Key)=Sum.inl b)=(a == b):=by
 by_cases e:a=b
 ·subst e;simp
 ·have h:¬ (Sum.inl a:Key)=Sum.inl b:=fun q=>e (yq q)
  rw [bu h]
  exact (qg.mpr e).symm
theorem bC1 (a b:Str):decide ((Sum.inr a:Key)=Sum.inr b)=decide (a=b):=by
 by_cases e:a=b
 ·subst e;simp
 ·have h:¬ (Sum.inr a:Key)=Sum.inr b:=fun q=>e (Sum.inr.inj q)
  rw [bu h,bu e]
theorem bF3 (a:Int) (b:Str):decide ((Sum.inl a:Key)=Sum.inr b)=false:=bu (fun q=>nomatch q)
theorem bF6 (a:Str) (b:Int):decide ((Sum.inr a:Key)=Sum.inl b)=false:=bu (fun q=>nomatch q)
def bB (prog:Program) (w:World):PySem.KeyKind prog w Key where
 is:=eL
 hash:=bT7 w
 inj:=fun v a b ha hb=>by
  rcases aY ha with ⟨i,t,rfl,rfl⟩ | ⟨x,t,rfl,rfl⟩
  ·rcases aY hb with ⟨j,u,rfl,e⟩ | ⟨y,u,rfl,e⟩
   ·injection e with e1 _;rw [e1]
   ·exact nomatch e
  ·rcases aY hb with ⟨j,u,rfl,e⟩ | ⟨y,u,rfl,e⟩
   ·exact nomatch e
   ·injection e with e1 _;rw [e1]
 byValue:=fun k v h=>by
  rcases aY h with ⟨i,t,rfl,rfl⟩ | ⟨x,t,rfl,rfl⟩ <;> rfl
 pyHash:=fun hv h=>by
  rcases aY hv with ⟨i,t,rfl,rfl⟩ | ⟨x,t,rfl,rfl⟩
  ·exact wpAny_pyHash_int h
  ·exact wpAny_pyHash_str h
 eqBool:=fun hu hv h=>by
  rcases aY hu with ⟨i,t,rfl,rfl⟩ | ⟨x,t,rfl,rfl⟩
  ·rcases aY hv with ⟨j,u,rfl,rfl⟩ | ⟨y,u,rfl,rfl⟩
   ·rw [bI3] at h;exact wpAny_eqBool_int h
   ·rw [bF3] at h;exact SeqAt.EqAt.int_str i t y u _ _ _ _ h
  ·rcases aY hv with ⟨j,u,rfl,rfl⟩ | ⟨y,u,rfl,rfl⟩
   ·rw [bF6] at h;exact SeqAt.EqAt.str_int x t j u _ _ _ _ h
   ·rw [bC1] at h;exact wpAny_eqBool_str h
 «strs» :=fun k x t v h=>by
  rcases aY h with ⟨i,u,rfl,e⟩ | ⟨y,u,rfl,e⟩
  ·exact nomatch e
  ·injection e with e1 _
   subst e1
   cases v <;> rfl
theorem wR (prog:Program) (w:World) (i:Int) (t:Tok):(bB prog w).is (.inl i) (.int i t)=true:=aF3 i t
theorem vD (prog:Program) (w:World) (x:Str) (t:Tok):(bB prog w).is (.inr x) (.str x t)=true:=aC8 x t
inductive V where
 |non | bl (b:Bool) | int (i:Int) | str (x:Str) | byt (b:Array UInt8) | flt (b:UInt64) | ref (a:Addr) | ty (n:String)
 deriving DecidableEq
def bA:V->Value->Prop
 |.non,u=>u=Value.none
 |.bl b,u=>u=Value.bool b
 |.int i,u=>∃ t,u=Value.int i t
 |.str x,u=>∃ t,u=Value.str x t
 |.byt b,u=>∃ t,u=Value.bytes b t
 |.flt b,u=>∃ t,u=Value.float b t
 |.ref a,u=>u=Value.ref a
 |.ty n,u=>u=Value.type n
abbrev aZ:List V->List Value->Prop:=Paired bA
theorem aZ.length {xs:List V}{us:List Value}(r:aZ xs us):xs.length=us.length:=fw r
theorem aZ.get:∀ {xs:List V}{us:List Value}{i:Nat}{x:V},aZ xs us->xs[i]?=some x->∃ u,us[i]?=some u/\bA x u
 |_,_,_,_,.nil,e=>by simp at e
 |_,_,0,_,.cons r _,e=>by simp at e;subst e;exact ⟨_,rfl,r⟩
 |_,_,i+1,x,.cons _ t,e=>by
  obtain ⟨u,h1,h2⟩:=aZ.get (i:=i) (x:=x) t (by simpa using e)
  exact ⟨u,by simpa using h1,h2⟩
theorem aZ.set {x:V}{u:Value}(r:bA x u):∀ {xs:List V}{us:List Value}(i:Nat),aZ xs us->aZ (xs.set i x) (us.set i u)
 |_,_,_,.nil=> .nil
 |_,_,0,.cons _ t=> .cons r t
 |_,_,i+1,.cons q t=> .cons q (aZ.set r i t)
theorem aZ.append:∀ {xs ys:List V}{us ws:List Value},aZ xs us->aZ ys ws->aZ (xs++ys) (us++ws)
 |_,_,_,_,.nil,s=>s
 |_,_,_,_,.cons r t,s=> .cons r (aZ.append t s)
theorem aZ.take:∀ {xs:List V}{us:List Value}(n:Nat),aZ xs us->aZ (xs.take n) (us.take n)
 |_,_,0,_=> .nil
 |_,_,_+1,.nil=> .nil
 |_,_,n+1,.cons r t=> .cons r (aZ.take n t)
theorem aZ.drop:∀ {xs:List V}{us:List Value}(n:Nat),aZ xs us->aZ (xs.drop n) (us.drop n)
 |_,_,0,r=>r
 |_,_,_+1,.nil=> .nil
 |_,_,n+1,.cons _ t=>aZ.drop n t
def lS:Option V->Option Value->Prop
 |some v,some u=>bA v u
 |none,none=>True
 |_,_=>False
def KV {κ: Type}:List (κ×V)->List (κ×Value)->Prop:=Paired fun (p:κ×V) (q:κ×Value)=>p.1=q.1/\bA p.2 q.2
def kV:Key->V
 |.inl i=> .int i
 |.inr x=> .str x
inductive HO where
 |lst (xs:List V)
 |tup (xs:List V)
 |dK (kvs:List (Key×V)) | dT (kvs:List (List Key×V))
 |set (S:Int->Bool) (n:Nat)
 |ins (C dx:Addr) (fs:List (Str×V))
 |own (x:Addr)
 |xd (fs:List (Str×V))
 |met (f x:Addr)
 |rng (lo hi:Int)
 |frz (o:Obj) (u:HO)
 |tbl (ps:Array Value)
 |ext (φ: Heap->Prop)
abbrev Hp:=Addr->Option HO
def aJ (H:Hp) (a:Addr) (o:HO):Hp:=fun b=>if b=a then some o else H b
theorem aC {H:Hp}{a:Addr}{o:HO}:aJ H a o a=some o:=by unfold aJ;rw [bb rfl]
theorem aE {H:Hp}{a b:Addr}{o:HO}(h:b≠a):aJ H a o b=H b:=by unfold aJ;rw [ao h]
theorem aB6 {H:Hp}{a:Addr}{o u:HO}:aJ (aJ H a o) a u=aJ H a u:=by
 funext b;unfold aJ;split <;> rfl
theorem cF {H:Hp}{a b:Addr}{o u:HO}(h:H a=some o) (h':H b=some u) (d:o≠u):a≠b:=by
 intro e;subst e;rw [h] at h';exact d (da h')
theorem aH {H:Hp}{a b:Addr}{o:HO}(h:H a=some o) (h':H b=none):a≠b:=by
 intro e;subst e;rw [h] at h';cases h'
def jY (h:Heap) (a:Addr) (its:Array Value):Prop:=∃ o,h.get? a=some o/\o.cls= .type "tuple"/\∃ n,o.data= .seq its n/\o.dict=none
theorem jY.is {h:Heap}{a:Addr}{its:Array Value}(x:jY h a its):IsTup h a its:=let ⟨o,e,c,n,d,_⟩:=x;⟨o,e,c,n,d⟩
theorem jY.new (h:Heap) (its:Array Value):jY (h.push { cls:= .type "tuple",data:= .seq its }) h.objs.size its:=⟨_,aq _ rfl,rfl,_,rfl,rfl⟩
section
variable (P:Program) (w:World)
def bD (H:Hp) (h:Heap) (a:Addr):HO->Prop
 |.lst xs=>xs.length<=sizeLine/\∃ (its:List Value) (n:Nat),aZ xs its/\h.get? a=some { cls:= .type "list",data:= .seq its.toArray n }
 |.tup xs=>xs.length<=sizeLine/\∃ its:List Value,aZ xs its/\jY h a its.toArray
 |.dK kvs=>kvs.length<=sizeLine/\(a == sysModules)=false/\∃ vs,KV kvs vs/\h.DictOf (bB P w) a vs
 |.dT kvs=>kvs.length<=sizeLine/\(a == sysModules)=false/\∃ xs:List (List Key×Addr×Value),
   Paired (fun (p:List Key×V) (q:List Key×Addr×Value)=>p.1=q.1/\H q.2.1=some (.tup (p.1.map kV))/\bA p.2 q.2.2) kvs xs /\
   ∃ o es ep,h.get? a=some o/\o.ExactDict/\o.data= .dict es ep/\es.toList=xs.map (entryOfKey (tupleKind (bB P w)))/\(xs.map (·.1)).Nodup
 |.set S n=>h.SetOf (intKind P w) a S n
 |.ins C dx fs=>H dx=some (.own a)/\fs.length<=1000/\dx≠a/\h.get? a=some (PySem.W.instObj C dx) /\
   ∃ mA,h.Ns1 dx mA/\(∀ f,lS (fs.lookup f) (mA f))/\PySem.Within mA (fs.map (·.1))
 |.own _=>∃ o,h.get? a=some o
 |.xd fs=>∃ mA,h.Ns1 a mA/\∀ f,lS (fs.lookup f) (mA f)
 |.rng lo hi=>∃ t u v,h.get? a=some { cls:= .type "range",data:= .fields #[.int lo t,.int hi u,.int 1 v] }
 |.frz o u=>h.get? a=some o/\bD H h a u
 |.tbl ps=>h.get? a=some { cls:= .none,data:= .fields ps }
 |.met f x=>h.get? a=some (PySem.W.methodObj (.ref f) (.ref x))
 |.ext φ=>φ h/\(∃ o,h.get? a=some o)/\∀ h1 h2:Heap,φ h1->(∀ o,h1.get? a=some o->h2.get? a=some o)->φ h2
def iQ (H:Hp) (h:Heap):Prop:=∀ a o,H a=some o->bD P w H h a o
end
section
variable {P:Program}{w:World}{H H':Hp}{h h':Heap}{a:Addr}{o:HO}
theorem bD.lt (x:bD P w H h a o):a < h.objs.size:=by
 cases o with
 |lst xs=>obtain ⟨_,_,_,_,e⟩:=x;exact az e
 |tup xs=>obtain ⟨_,_,_,p⟩:=x;exact p.is.lt
 |dK kvs=>obtain ⟨_,_,_,_,o,_,_,e,_⟩:=x;exact az e
 |dT kvs=>obtain ⟨_,_,_,_,o,_,_,e,_⟩:=x;exact az e
 |set S n=>obtain ⟨o,_,_,_,e,_⟩:=x;exact az e
 |ins C dx fs=>obtain ⟨_,_,_,e,_⟩:=x;exact az e
 |own y=>obtain ⟨_,e⟩:=x;exact az e
 |xd fs=>obtain ⟨_,⟨_,_,_,e,_⟩,_⟩:=x;exact az e
 |rng lo hi=>obtain ⟨_,_,_,e⟩:=x;exact az e
 |frz ob u=>obtain ⟨e,_⟩:=x;exact az e
 |tbl ps=>exact az (show h.get? a=some _ from x)
 |met f y=>exact az (show h.get? a=some _ from x)
 |ext φ=>obtain ⟨_,⟨_,e⟩,_⟩:=x;exact az e
theorem Paired.mapP {α β: Type}{F G:α->β->Prop}:∀ {l₁:List α}{l₂:List β},Paired F l₁ l₂->(∀ a b,F a b->G a b)->Paired G l₁ l₂
 |_,_,.nil,_=> .nil
 |_,_,.cons r t,f=> .cons (f _ _ r) (Paired.mapP t f)
theorem bD.stay (x:bD P w H h a o) (k:∀ b u,(b=a\/H b=some (.own a))->h.get? b=some u->h'.get? b=some u)
  (ho:∀ b,H b=some (.own a)->H' b=some (.own a)) (ht:∀ b xs,H b=some (.tup xs)->H' b=some (.tup xs)):bD P w H' h' a o:=by
 induction o with
 |lst xs=>obtain ⟨z,its,n,r,e⟩:=x;exact ⟨z,its,n,r,k _ _ (.inl rfl) e⟩
 |tup xs=>obtain ⟨z,its,r,ob,e,c⟩:=x;exact ⟨z,its,r,ob,k _ _ (.inl rfl) e,c⟩
 |dK kvs=>obtain ⟨z,y,vs,r,ob,es,ep,e,c⟩:=x;exact ⟨z,y,vs,r,ob,es,ep,k _ _ (.inl rfl) e,c⟩
 |dT kvs =>
  obtain ⟨z,y,xs,r,ob,es,ep,e,c⟩:=x
  exact ⟨z,y,xs,Paired.mapP r fun p q z=>⟨z.1,ht _ _ z.2.1,z.2.2⟩,ob,es,ep,k _ _ (.inl rfl) e,c⟩
 |set S n=>obtain ⟨ob,es,ep,t,e,c⟩:=x;exact ⟨ob,es,ep,t,k _ _ (.inl rfl) e,c⟩
 |ins C dx fs =>
  obtain ⟨d,z,ne,e,mA,⟨od,es,ep,e2,c⟩,r⟩:=x
  exact ⟨ho _ d,z,ne,k _ _ (.inl rfl) e,mA,⟨od,es,ep,k _ _ (.inr d) e2,c⟩,r⟩
 |own y=>obtain ⟨ob,e⟩:=x;exact ⟨ob,k _ _ (.inl rfl) e⟩
 |xd fs=>obtain ⟨mA,⟨od,es,ep,e,c⟩,r⟩:=x;exact ⟨mA,⟨od,es,ep,k _ _ (.inl rfl) e,c⟩,r⟩
 |rng lo hi=>obtain ⟨t,u,v,e⟩:=x;exact ⟨t,u,v,k _ _ (.inl rfl) e⟩
 |frz ob u ih=>obtain ⟨e,q⟩:=x;exact ⟨k _ _ (.inl rfl) e,ih q⟩
 |tbl ps =>
  have e:h.get? a=some { cls:= .none,data:= .fields ps }:=x
  show h'.get? a=some { cls:= .none,data:= .fields ps }
  exact k a _ (.inl rfl) e
 |met f y =>
  have e:h.get? a=some (PySem.W.methodObj (.ref f) (.ref y)):=x
  show h'.get? a=some (PySem.W.methodObj (.ref f) (.ref y))
  exact k a _ (.inl rfl) e
 |ext φ=>obtain ⟨p,⟨o,e⟩,st⟩:=x;exact ⟨st _ _ p fun o q=>k _ _ (.inl rfl) q,⟨o,k _ _ (.inl rfl) e⟩,st⟩
theorem iQ.lt (x:iQ P w H h) (e:H a=some o):a < h.objs.size:=(x a o e).lt
theorem iQ.fresh (x:iQ P w H h) (e:h.objs.size<=a):H a=none:=by
 cases q:H a with
 |none=>rfl
 |some u=>exact absurd (bn (x.lt q) e) (dk _)
theorem iQ.kept (x:iQ P w H h) (k:∀ b u,h.get? b=some u->h'.get? b=some u):iQ P w H h':=fun a o e =>
 (x a o e).stay (fun b u _ q=>k b u q) (fun _ q=>q) fun _ _ q=>q
theorem iQ.laid (x:iQ P w H h) (k:∀ b u,h.get? b=some u->h'.get? b=some u) (hp:h.objs.size<=a) (new:bD P w (aJ H a o) h' a o):iQ P w (aJ H a o) h':=fun b u e=>by
 have hn:=x.fresh hp
 by_cases hb:b=a
 ·subst hb;rw [aC] at e;cases e;exact new
 ·rw [aE hb] at e
  exact (x b u e).stay (fun c v _ q=>k c v q) (fun c q=>by rw [aE (aH q hn)];exact q) fun c xs q=>by rw [aE (aH q hn)];exact q
end
def Rd (H:Hp) (a:Addr) (u:HO):Prop:=H a=some u\/∃ o,H a=some (.frz o u)
theorem Rd.ok {P:Program}{w:World}{H:Hp}{h:Heap}{a:Addr}{u:HO}(r:Rd H a u) (x:iQ P w H h):bD P w H h a u:=by
 rcases r with r | ⟨o,r⟩
 ·exact x a u r
 ·obtain ⟨_,q⟩:=x a _ r
  exact q
def Mut:Option HO->Prop
 |some (.lst _)=>True
 |some (.dK _)=>True
 |some (.dT _)=>True
 |some (.set _ _)=>True
 |some (.ins _ _ _)=>True
 |some (.ext _)=>True
 |_=>False
section
variable {P:Program}{w:World}{H:Hp}{h h':Heap}{x e:Addr}{o':HO}
theorem iQ.write (ok:iQ P w H h) (mu:Mut (H x)) (he:e=x\/H e=some (.own x)) (k:∀ b u,b≠e->h.get? b=some u->h'.get? b=some u) (heo:∃ u,h'.get? e=some u)
  (new:bD P w (aJ H x o') h' x o'):iQ P w (aJ H x o') h':=fun b u q=>by
 have nown:∀ c y,H c=some (.own y)->c≠x:=fun c y r z=>by subst z;rw [r] at mu;exact mu
 have ntup:∀ c xs,H c=some (.tup xs)->c≠x:=fun c xs r z=>by subst z;rw [r] at mu;exact mu
 by_cases hb:b=x
 ·subst hb;rw [aC] at q;cases q;exact new
 ·rw [aE hb] at q
  by_cases hbe:b=e
  ·have q':H b=some (.own x):=by
    rcases he with z | z
    ·exact absurd (hbe.trans z) hb
    ·rw [hbe];exact z
   rw [q] at q';cases q'
   obtain ⟨v,hv⟩:=heo
   exact ⟨v,by rw [hbe];exact hv⟩
  ·refine (ok b u q).stay (fun c v hc r=>k c v ?_ r) (fun c r=>by rw [aE (nown c b r)];exact r) fun c xs r=>by rw [aE (ntup c xs r)];exact r
   rcases hc with rfl | hc
   ·exact hbe
   ·rintro rfl
    rcases he with z | z
    ·exact nown c b hc z
    ·rw [hc] at z;cases z;exact hb rfl
end
structure Un (fs ex:List Addr) (H H':Hp) (h h':Heap):Prop where
 keep:∀ b o,h.get? b=some o->H b=none->b∉fs->b∉ex->h'.get? b=some o
 slot:∀ b o,h.get? b=some o->H b=none->b∈fs->b∉ex->∃ sl,h'.get? b=some { o with slots:=sl }
 free:∀ b o,h.get? b=some o->H b=none->b∉ex->H' b=none
 there:∀ b o,h.get? b=some o->b∉ex->∃ o',h'.get? b=some o'
 tups:∀ b xs,H b=some (.tup xs)->H' b=some (.tup xs)
 frzs:∀ b o u,H b=some (.frz o u)->H' b=some (.frz o u)
 tbls:∀ b ps,H b=some (.tbl ps)->∃ more,H' b=some (.tbl (ps++more))
section
variable {fs fs' ex ex':List Addr}{H H1 H2:Hp}{h h1 h2 h':Heap}{a x e:Addr}{o:HO}
theorem Un.any (u:Un fs ex H H1 h h1) {b:Addr}{ob:Obj}(q:h.get? b=some ob) (n:H b=none) (hx:b∉ex):∃ sl,h1.get? b=some { ob with slots:=sl }:=by
 by_cases hb:b∈fs
 ·exact u.slot b ob q n hb hx
 ·exact ⟨ob.slots,u.keep b ob q n hb hx⟩
theorem Un.kept (k:∀ b u,h.get? b=some u->h'.get? b=some u):Un fs ex H H h h' :=
 ⟨fun b ob q _ _ _=>k b ob q,fun b ob q _ _ _=>⟨ob.slots,k b ob q⟩,fun _ _ _ n _=>n,fun b ob q _=>⟨ob,k b ob q⟩,fun _ _ q=>q,fun _ _ _ q=>q,fun _ ps q=>⟨#[],by rw [q];simp⟩⟩
theorem Un.refl:Un fs ex H H h h:=Un.kept fun _ _ q=>q
theorem Un.laid (k:∀ b u,h.get? b=some u->h'.get? b=some u) (hp:h.objs.size<=a) (hn:H a=none):Un fs ex H (aJ H a o) h h' where
 keep:=fun b u q _ _ _=>k b u q
 slot:=fun b u q _ _ _=>⟨u.slots,k b u q⟩
 free:=fun b u q n _=>by rw [aE (bv (bn (az q) hp))];exact n
 there:=fun b u q _=>⟨u,k b u q⟩
 tups:=fun b xs q=>by rw [aE (aH q hn)];exact q
 frzs:=fun b u xs q=>by rw [aE (aH q hn)];exact q
 tbls:=fun b ps q=>⟨#[],by rw [aE (aH q hn),q];simp⟩
theorem Un.write (mu:Mut (H x)) (he:e=x\/H e=some (.own x)) (k:∀ b u,b≠e->h.get? b=some u->h'.get? b=some u) (heo:∃ u,h'.get? e=some u):Un fs ex H (aJ H x o) h h':=by
 have hx:∀ b,H b=none->b≠x:=fun b n z=>by subst z;rw [n] at mu;exact mu
 have hb:∀ b,H b=none->b≠e:=fun b n z=>by
  subst z
  rcases he with r | r
  ·exact hx b n r
  ·rw [n] at r;cases r
 have hm:∀ b u,H b=some u->¬ Mut (some u)->b≠x:=fun b u q nm z=>by subst z;rw [q] at mu;exact nm mu
 refine ⟨fun b u q n _ _=>k b u (hb b n) q,fun b u q n _ _=>⟨u.slots,k b u (hb b n) q⟩,fun b u q n _=>by rw [aE (hx b n)];exact n,fun b u q _=>?_,
  fun b xs q=>by rw [aE (hm b _ q fun z=>z)];exact q,fun b u xs q=>by rw [aE (hm b _ q fun z=>z)];exact q,fun b ps q=>⟨#[],by rw [aE (hm b _ q fun z=>z),q];simp⟩⟩
 by_cases hbe:b=e
 ·subst hbe;exact heo
 ·exact ⟨u,k b u hbe q⟩
end
def trk (h:Heap) (H:Hp):List Addr:=(List.range h.objs.size).filter fun a=>(H a).isSome
def tU (h:Heap) (H:Hp):Heap:=PySem.W.hideAll h (trk h H)
theorem aG9 (h:Heap) (H:Hp):(tU h H).objs.size=h.objs.size:=PySem.W.hideAll_size _ _
theorem aL3 {h:Heap}{H:Hp}{b:Addr}{o:Obj}(e:h.get? b=some o) (n:H b=none):(tU h H).get? b=some o :=
 PySem.W.hideAll_get _ e fun hm=>by
  have q:(H b).isSome=true:=(fi.mp hm).2
  rw [n] at q;simp at q
theorem aW0 {h:Heap}{H:Hp}{b:Addr}{o:Obj}(e:(tU h H).get? b=some o):h.get? b=some o/\H b=none:=by
 have e':h.get? b=some o:=PySem.W.of_hideAll (trk h H) e
 refine ⟨e',?_⟩
 cases q:H b with
 |none=>rfl
 |some x =>
  have hm:b∈trk h H:=fi.mpr ⟨rh.mpr (az e'),by simp [q]⟩
  have z:(tU h H).get? b=none:=PySem.W.hideAll_none (trk h H) hm
  rw [z] at e;cases e
def aW1 (g h:Heap) (L:Addr):List (Addr×Obj):=(List.range h.objs.size).filterMap fun a=>if a=L\/(g.get? a).isSome=true then none else (h.get? a).map fun o=>(a,o)
def rest (g h:Heap) (L d:Addr):List (Addr×Obj):=(aW1 g h L).filter fun p=>decide (p.1≠d)
structure Mod (K:PySem.W.Frag) (mg:Str->Option Value) (base:Heap):Prop where
 kin:K.In base
 glob:base.Ns mainGlobals mg
 blt:∃ mb,base.Ns builtinsNs mb/\∀ x:Str,x≠"__name__"->mb x=bootBuiltins x
 nolimit:base.NoLimit
structure Cx where
 prog:Program
 w:World
 K:PySem.W.Frag
 mg:Str->Option Value
 base:Heap
 A:Around
 N:List Str
 s₀:Shared
 H₀:Hp
 env:Env
 outer:List Env
 stack:List Env
 ex:List Addr
 fn:Str->Bool
 calm:Bool
 pn:List (Addr×Obj)
 xe:Value->Shared->Prop
def zW (l:List Env):List Addr:=l.filterMap (·.frame)
abbrev Cx.fs (X:Cx):List Addr:=zW X.outer
def Vis (sc:Scope) (x:Str):Prop:=sc.names.lookup x=some .local\/sc.names.lookup x=some .cell\/sc.names.lookup x=some .free
def Loc (sc:Scope) (x:Str):Prop:=sc.names.lookup x=some .local\/sc.names.lookup x=some .cell
def bT4 (env:Env) (h:Heap) (m:Str->Option Value) (x:Str) (u:Value):Prop :=
 (env.kindOf x=some .local/\m x=some u)\/((env.kindOf x=some .cell\/env.kindOf x=some .free)/\∃ c,env.cells.lookup x=some c/\h.IsCell c (some u))
structure Cx.Ok (X:Cx):Prop where
 mod:Mod X.K X.mg X.base
 kind:X.env.scope.kind= .function
 glob:X.env.globals=mainGlobals
 blt:X.env.builtins=builtinsNs
 above:X.s₀.heap.objs.size<=X.env.locals
 inj:∀ x y c,X.env.cells.lookup x=some c->X.env.cells.lookup y=some c->x=y
 has:∀ x,(X.env.kindOf x=some .cell\/X.env.kindOf x=some .free)->∃ c,X.env.cells.lookup x=some c
 cab:∀ x c,X.fn x=true->X.env.cells.lookup x=some c->X.s₀.heap.objs.size<=c
 hd:X.calm=true->X.A.handled=none
 frames:X.A.frames=some X.stack
 stk:X.stack=X.outer\/(X.stack=X.env :: X.outer/\X.env.frame=some X.env.locals)
 exf:∀ b∈X.ex,b≠X.env.locals/\∀ x c,X.env.cells.lookup x=some c->c≠b
 bs:∀ b o,X.base.get? b=some o->X.s₀.heap.get? b=some o/\X.H₀ b=none
 bsz:X.base.objs.size<=X.s₀.heap.objs.size
 noex:∀ b o,X.base.get? b=some o->b∉X.ex
 exfs:∀ b∈X.ex,b∉X.fs
 funs:X.s₀.heap.FunFrames X.base X.outer
 frf:∀ b∈X.fs,X.H₀ b=none
structure aN (X:Cx) (pins:List (Addr×Obj)) (σ: List (Option V)) (H:Hp) (s:Shared):Prop where
 ok:X.Ok
 os:s.os=X.s₀.os
 bare:AllBare s.gens
 base:Un X.fs X.ex X.H₀ H X.s₀.heap s.heap
 loc:∃ m,s.heap.Ns X.env.locals m/\∀ (i:Nat) (x:Str) (v:V),X.N[i]?=some x->σ[i]?=some (some v)->Vis X.env.scope x->∃ u,bA v u/\bT4 X.env s.heap m x u
 cell:∀ x c,X.env.cells.lookup x=some c->∃ v,s.heap.IsCell c v
 free:H X.env.locals=none
 freeC:∀ x c,X.env.cells.lookup x=some c->H c=none
 pin:∀ p∈X.pn++pins,s.heap.get? p.1=some p.2/\H p.1=none/\p.1≠X.env.locals/\p.1∉X.fs/\∀ v,p.2.data≠ .cell v
 hok:iQ X.prog X.w H s.heap
 len:σ.length=X.N.length
section
variable {X:Cx}{pins:List (Addr×Obj)}{σ: List (Option V)}{H H':Hp}{s:Shared}{h':Heap}
theorem Cx.Ok.nofr (ok:X.Ok) {b:Addr}{o:Obj}(e:X.base.get? b=some o):b∉X.fs:=fun hb=>by
 have:=(ok.funs.mem hb).1
 rw [e] at this;cases this
theorem aN.bs (I:aN X pins σ H s):∀ b o,X.base.get? b=some o->s.heap.get? b=some o/\H b=none:=fun b o e =>
 ⟨I.base.keep b o (I.ok.bs b o e).1 (I.ok.bs b o e).2 (I.ok.nofr e) (I.ok.noex b o e),I.base.free b o (I.ok.bs b o e).1 (I.ok.bs b o e).2 (I.ok.noex b o e)⟩
theorem aN.bk (I:aN X pins σ H s):∀ b o,X.base.get? b=some o->s.heap.get? b=some o:=fun b o e=>(I.bs b o e).1
theorem aN.mod (I:aN X pins σ H s):Mod X.K X.mg X.base:=I.ok.mod
theorem aN.kIn (I:aN X pins σ H s):X.K.In s.heap:=I.ok.mod.kin.keeps I.bk
theorem aN.lt (I:aN X pins σ H s):X.env.locals < s.heap.objs.size:=let ⟨_,hn,_⟩:=I.loc;hn.lt
theorem aN.sz (I:aN X pins σ H s):X.s₀.heap.objs.size<=s.heap.objs.size:=cj I.ok.above (my I.lt)
theorem aN.nofs (I:aN X pins σ H s) {a:Addr}(h:s.heap.objs.size<=a):a∉X.fs:=fun hb=>by
 obtain ⟨_,o,ho,_⟩:=I.ok.funs.mem hb
 exact absurd (bn (az ho) (cj I.sz h)) (dk _)
theorem aN.cne (I:aN X pins σ H s):∀ x c,X.env.cells.lookup x=some c->c≠X.env.locals:=fun x c e z=>by
 obtain ⟨v,o,ho,hd⟩:=I.cell x c e
 obtain ⟨m,⟨o',es,ep,ho',hd',_⟩,_⟩:=I.loc
 rw [z,ho'] at ho;cases ho;rw [hd'] at hd;cases hd
theorem aN.funs (I:aN X pins σ H s):s.heap.FunFrames X.base X.outer:=by
 have all:∀ (l:List Env),(∀ b∈zW l,b∈X.fs)->X.s₀.heap.FunFrames X.base l->s.heap.FunFrames X.base l:=by
  intro l
  induction l with
  |nil=>intro _ _;trivial
  |cons env r ih =>
   intro hs hl
   obtain ⟨hk,⟨L,o,hf,hn,ho,hd⟩,hr⟩:=hl
   have hL:L∈X.fs:=hs L (by unfold zW;rw [vk,hf];exact au)
   obtain ⟨sl,e⟩:=I.base.slot L o ho (I.ok.frf L hL) hL fun z=>I.ok.exfs L z hL
   exact ⟨hk,⟨L,_,hf,hn,e,hd⟩,ih (fun b hb=>hs b (by unfold zW;rw [vk,hf];exact ba _ hb)) hr⟩
 exact all X.outer (fun _ hb=>hb) I.ok.funs
theorem aN.stack (I:aN X pins σ H s):s.heap.FunFrames X.base X.stack:=by
 rcases I.ok.stk with e | ⟨e,hf⟩
 ·rw [e];exact I.funs
 ·rw [e]
  obtain ⟨m,hn,_⟩:=I.loc
  refine .cons (by rw [I.ok.kind];decide) hf hn ?_ I.funs
  exact Heap.get?_none_of_le (cj I.ok.bsz I.ok.above)
theorem aN.stkSub (I:aN X pins σ H s):∀ b∈zW X.stack,b∈X.env.locals :: X.fs:=fun b hb=>by
 rcases I.ok.stk with e | ⟨e,hf⟩
 ·rw [e] at hb;exact ba _ hb
 ·rw [e] at hb
  unfold zW at hb
  rw [vk,hf] at hb
  exact hb
theorem aN.stkFree (I:aN X pins σ H s):∀ b∈zW X.stack,H b=none:=fun b hb=>by
 rcases bi.mp (I.stkSub b hb) with e | hb
 ·rw [e];exact I.free
 ·obtain ⟨_,o,ho,_⟩:=I.ok.funs.mem hb
  exact I.base.free b o ho (I.ok.frf b hb) fun z=>I.ok.exfs b z hb
theorem aN.step {g':Array GenState}{t':Nat}{d':Drawn}{ch:List Addr}(I:aN X pins σ H s)
  (hch:∀ b∈ch,(b∈X.ex\/X.s₀.heap.objs.size<=b)/\b≠X.env.locals/\(∀ x c,X.env.cells.lookup x=some c->c≠b)/\∀ p∈X.pn++pins,p.1≠b)
  (keep:∀ b o,b≠X.env.locals->b∉X.fs->b∉ch->s.heap.get? b=some o->H b=none->h'.get? b=some o)
  (slot:∀ b o,b≠X.env.locals->b∈X.fs->b∉ch->s.heap.get? b=some o->H b=none->∃ sl,h'.get? b=some { o with slots:=sl }) (free:∀ b o,b∉ch->s.heap.get? b=some o->H b=none->H' b=none)
  (there:∀ b o,b∉ch->s.heap.get? b=some o->∃ o',h'.get? b=some o')
  (tups:∀ b xs,H b=some (.tup xs)->H' b=some (.tup xs)) (frzs:∀ b o u,H b=some (.frz o u)->H' b=some (.frz o u)) (tbls:∀ b ps,H b=some (.tbl ps)->∃ more,H' b=some (.tbl (ps++more)))
  (ns:∀ m,s.heap.Ns X.env.locals m->h'.Ns X.env.locals m) (hok:iQ X.prog X.w H' h') (hg:AllBare g') :
  aN X pins σ H' { s with heap:=h',gens:=g',drawn:=d',toks:=t' }:=by
 have neL:∀ b o,X.s₀.heap.get? b=some o->b≠X.env.locals:=fun b o e=>bv (bn (az e) I.ok.above)
 have neC:∀ b o,X.s₀.heap.get? b=some o->b∉X.ex->b∉ch:=fun b o e hx hb=>by
  rcases (hch b hb).1 with z | z
  ·exact hx z
  ·exact absurd (bn (az e) z) (dk _)
 have cellK:∀ x c,X.env.cells.lookup x=some c->∀ v,s.heap.IsCell c v->h'.IsCell c v:=fun x c e v ⟨o,ho,hd⟩=>by
  have nch:c∉ch:=fun z=>(hch c z).2.2.1 x c e rfl
  by_cases hc:c∈X.fs
  ·obtain ⟨sl,q⟩:=slot c o (I.cne x c e) hc nch ho (I.freeC x c e)
   exact ⟨_,q,hd⟩
  ·exact ⟨o,keep c o (I.cne x c e) hc nch ho (I.freeC x c e),hd⟩
 refine ⟨I.ok,I.os,hg,⟨fun b o e n hb hx=>?_,fun b o e n hb hx=>?_,fun b o e n hx=>?_,fun b o e hx=>?_,fun b xs e=>tups b xs (I.base.tups b xs e),fun b o xs e=>frzs b o xs (I.base.frzs b o xs e),fun b ps e=>?_⟩,?_,fun x c e=>?_,?_,fun x c e=>?_,fun p hp=>?_,hok,I.len⟩
 ·exact keep b o (neL b o e) hb (neC b o e hx) (I.base.keep b o e n hb hx) (I.base.free b o e n hx)
 ·obtain ⟨sl,e1⟩:=I.base.slot b o e n hb hx
  obtain ⟨sl',e2⟩:=slot b _ (neL b o e) hb (neC b o e hx) e1 (I.base.free b o e n hx)
  exact ⟨sl',e2⟩
 ·obtain ⟨o',e1⟩:=I.base.there b o e hx
  exact free b o' (neC b o e hx) e1 (I.base.free b o e n hx)
 ·obtain ⟨o',e1⟩:=I.base.there b o e hx
  exact there b o' (neC b o e hx) e1
 ·obtain ⟨m1,e1⟩:=I.base.tbls b ps e
  obtain ⟨m2,e2⟩:=tbls b _ e1
  exact ⟨m1++m2,by rw [e2,Array.append_assoc]⟩
 ·obtain ⟨m,hn,hl⟩:=I.loc
  refine ⟨m,ns m hn,fun i x v e1 e2 e3=>?_⟩
  obtain ⟨u,r,l⟩:=hl i x v e1 e2 e3
  refine ⟨u,r,?_⟩
  rcases l with l | ⟨k,c,e,z⟩
  ·exact .inl l
  ·exact .inr ⟨k,c,e,cellK x c e _ z⟩
 ·obtain ⟨v,z⟩:=I.cell x c e
  exact ⟨v,cellK x c e v z⟩
 ·obtain ⟨m,⟨o,_,_,ho,_⟩,_⟩:=I.loc
  exact free _ o (fun z=>(hch _ z).2.1 rfl) ho I.free
 ·obtain ⟨v,o,ho,hd⟩:=I.cell x c e
  exact free c o (fun z=>(hch c z).2.2.1 x c e rfl) ho (I.freeC x c e)
 ·obtain ⟨e,n,ne,nf,d⟩:=I.pin p hp
  have nch:p.1∉ch:=fun z=>(hch p.1 z).2.2.2 p hp rfl
  exact ⟨keep p.1 p.2 ne nf nch e n,free p.1 p.2 nch e n,ne,nf,d⟩
theorem aN.un {t':Nat}(I:aN X pins σ H s) (u:Un X.fs [] H H' s.heap h') (hok:iQ X.prog X.w H' h'):aN X pins σ H' { s with heap:=h',toks:=t' }:=by
 obtain ⟨m,⟨o,es,ep,ho,r⟩,_⟩:=id I.loc
 obtain ⟨sl,hL⟩:=u.any ho I.free (by simp)
 exact I.step (g':=s.gens) (d':=s.drawn) (ch:=[]) (fun _ z=>nomatch z) (fun b o _ hb _ e n=>u.keep b o e n hb (by simp)) (fun b o _ hb _ e n=>u.slot b o e n hb (by simp)) (fun b o _ e n=>u.free b o e n (by simp)) (fun b o _ e=>u.there b o e (by simp)) u.tups u.frzs u.tbls (fun m' hm=>by
  obtain ⟨o',es',ep',ho',r'⟩:=hm
  rw [ho] at ho';cases ho'
  exact ⟨_,es',ep',hL,r'⟩) hok I.bare
theorem aN.call {g':Array GenState}{t':Nat}{d':Drawn}{ch:List Addr}(I:aN X pins σ H s) (u:Un (zW X.stack) ch H H' s.heap h') (hok:iQ X.prog X.w H' h') (hg:AllBare g')
  (hch:∀ b∈ch,(b∈X.ex\/X.s₀.heap.objs.size<=b)/\b≠X.env.locals/\(∀ x c,X.env.cells.lookup x=some c->c≠b)/\∀ p∈X.pn++pins,p.1≠b) :
  aN X pins σ H' { s with heap:=h',gens:=g',drawn:=d',toks:=t' }:=by
 obtain ⟨m,⟨o,es,ep,ho,r⟩,_⟩:=id I.loc
 obtain ⟨sl,hL⟩:=u.any ho I.free fun z=>(hch _ z).2.1 rfl
 exact I.step (ch:=ch) hch (fun b o hL hb hc e n=>u.keep b o e n (fun z=>(bi.mp (I.stkSub b z)).elim hL hb) hc) (fun b o _ _ hc e n=>u.any e n hc) (fun b o hc e n=>u.free b o e n hc) (fun b o hc e=>u.there b o e hc) u.tups u.frzs u.tbls (fun m' hm=>by
  obtain ⟨o',es',ep',ho',r'⟩:=hm
  rw [ho] at ho';cases ho'
  exact ⟨_,es',ep',hL,r'⟩) hok hg
theorem aN.turned {t':Nat}{it:Addr}(I:aN X pins σ H s) (k:∀ b o,b≠it->s.heap.get? b=some o->h'.get? b=some o) (hn:H it=none) (hL:it≠X.env.locals)
  (h1:it∈X.ex\/X.s₀.heap.objs.size<=it) (h2:∀ x c,X.env.cells.lookup x=some c->c≠it) (h3:∀ p∈X.pn++pins,p.1≠it):aN X pins σ H { s with heap:=h',toks:=t' }:=by
 have nit:∀ b u,H b=some u->b≠it:=fun b u e z=>by rw [z,hn] at e;cases e
 refine I.step (g':=s.gens) (d':=s.drawn) (ch:=[it]) (fun b hb=>?_) (fun b o _ _ hc e _=>k b o (fun z=>hc (by simp [z])) e) (fun b o _ _ hc e _=>⟨o.slots,k b o (fun z=>hc (by simp [z])) e⟩) (fun _ _ _ _ n=>n)
  (fun b o hc e=>⟨o,k b o (fun z=>hc (by simp [z])) e⟩) (fun _ _ e=>e) (fun _ _ _ e=>e) (fun b ps e=>⟨#[],by rw [e];simp⟩) (fun m hm=>?_) (fun b u e=>?_) I.bare
 ·have e:b=it:=by simpa using hb
  subst e
  exact ⟨h1,hL,h2,h3⟩
 ·obtain ⟨o,es,ep,ho,r⟩:=hm
  exact ⟨o,es,ep,k _ o (Ne.symm hL) ho,r⟩
 ·refine (I.hok b u e).stay (fun c v hc q=>k c v ?_ q) (fun _ q=>q) fun _ _ q=>q
  rcases hc with z | z
  ·rw [z];exact nit b u e
  ·exact nit c _ z
theorem aN.tok (I:aN X pins σ H s) (t:Nat):aN X pins σ H { s with toks:=t }:=I.un (h':=s.heap) (t':=t) Un.refl I.hok
theorem aN.kept {t':Nat}(I:aN X pins σ H s) (k:∀ b u,s.heap.get? b=some u->h'.get? b=some u):aN X pins σ H { s with heap:=h',toks:=t' }:=I.un (Un.kept k) (I.hok.kept k)
theorem aN.laid {a:Addr}{o:HO}{t':Nat}(I:aN X pins σ H s) (k:∀ b u,s.heap.get? b=some u->h'.get? b=some u) (hp:s.heap.objs.size<=a) (new:bD X.prog X.w (aJ H a o) h' a o) :
  aN X pins σ (aJ H a o) { s with heap:=h',toks:=t' }:=I.un (Un.laid k hp (I.hok.fresh hp)) (I.hok.laid k hp new)
theorem aN.write {x e:Addr}{o:HO}{t':Nat}(I:aN X pins σ H s) (mu:Mut (H x)) (he:e=x\/H e=some (.own x)) (k:∀ b u,b≠e->s.heap.get? b=some u->h'.get? b=some u) (heo:∃ u,h'.get? e=some u)
  (new:bD X.prog X.w (aJ H x o) h' x o):aN X pins σ (aJ H x o) { s with heap:=h',toks:=t' }:=I.un (Un.write mu he k heo) (I.hok.write mu he k heo new)
theorem aN.pins_of {pins':List (Addr×Obj)}(I:aN X pins σ H s) (h:∀ p∈pins',s.heap.get? p.1=some p.2/\H p.1=none/\p.1≠X.env.locals/\p.1∉X.fs/\∀ v,p.2.data≠ .cell v):aN X pins' σ H s :=
 ⟨I.ok,I.os,I.bare,I.base,I.loc,I.cell,I.free,I.freeC,fun p hp=>(cf.mp hp).elim (fun z=>I.pin p (uo _ z)) (h p),I.hok,I.len⟩
theorem uN {N:List Str}(hN:N.Nodup) {i j:Nat}{x:Str}(a:N[i]?=some x) (b:N[j]?=some x):i=j:=by
 obtain ⟨h1,e1⟩:=bq.mp a
 obtain ⟨h2,e2⟩:=bq.mp b
 exact (ub hN).mp (e1.trans e2.symm)
theorem sN {M:Model}{A:Around}{E:Value->Shared->Prop}{i:Nat}{x:Str}{v:V}{u:Value}{Q:Unit->Shared->Prop}(I:aN X pins σ H s) (hN:X.N.Nodup) (hi:X.N[i]?=some x) (hx:Loc X.env.scope x) (r:bA v u)
  (h:∀ s',aN X pins (σ.set i (some v)) H s'->(∃ a,Heap.SameBut a s.heap s'.heap/\(a=X.env.locals\/X.env.cells.lookup x=some a))->Q () s') (hf:X.fn x=true\/X.env.scope.names.lookup x=some .local:=by first | exact .inl rfl | exact .inr rfl | assumption):wpAny M A (storeName X.env x u) Q E s:=by
 obtain ⟨m,hn,hl⟩:=id I.loc
 have hcls:(X.env.scope.kind == .class || (X.env.scope.kind == .module && X.env.locals != X.env.globals))=false:=by rw [I.ok.kind];rfl
 have hiσ: i < σ.length:=by rw [I.len];exact (bq.mp hi).1
 have cne:=I.cne
 have tracked:∀ {a:Addr}{h':Heap},(∃ o,s.heap.get? a=some o/\H a=none)->Heap.SameBut a s.heap h'->iQ X.prog X.w H h':=fun {a h'} ha hs b ob e=>by
  obtain ⟨_,_,hfree⟩:=ha
  refine (I.hok b ob e).stay (fun c w' hc q=>(hs.2 c ?_).trans q) (fun _ q=>q) fun _ _ q=>q
  rintro rfl
  rcases hc with rfl | hc
  ·rw [hfree] at e;cases e
  ·rw [hfree] at hc;cases hc
 rcases hx with hk | hk
 ·refine wpAny_storeName_local hk hn (fun h' hn' hs=>?_) hcls
  obtain ⟨oL,_,_,hoL,_⟩:=id hn
  refine h _ ⟨I.ok,I.os,I.bare,⟨fun b o e n hb hx=>?_,fun b o e n hb hx=>?_,I.base.free,fun b o e hx=>?_,I.base.tups,I.base.frzs,I.base.tbls⟩,⟨_,hn',fun j y v' e1 e2 e3=>?_⟩,fun y c e=>?_,I.free,I.freeC,fun p hp=>?_,tracked ⟨oL,hoL,I.free⟩ hs,by simpa using I.len⟩ ⟨_,hs,.inl rfl⟩
  ·exact (hs.2 b (bv (bn (az e) I.ok.above))).trans (I.base.keep b o e n hb hx)
  ·obtain ⟨sl,e1⟩:=I.base.slot b o e n hb hx
   exact ⟨sl,(hs.2 b (bv (bn (az e) I.ok.above))).trans e1⟩
  ·obtain ⟨o',e1⟩:=I.base.there b o e hx
   exact ⟨o',(hs.2 b (bv (bn (az e) I.ok.above))).trans e1⟩
  ·by_cases hj:j=i
   ·subst hj
    rw [hi] at e1;cases e1
    rw [yr hiσ] at e2
    cases e2
    exact ⟨u,r,.inl ⟨hk,by simp⟩⟩
   ·rw [aAb (Ne.symm hj)] at e2
    obtain ⟨u',r',q⟩:=hl j y v' e1 e2 e3
    refine ⟨u',r',?_⟩
    rcases q with ⟨k,e⟩ | ⟨k,c,e,z⟩
    ·refine .inl ⟨k,?_⟩
     have:y≠x:=fun e=>hj (uN hN e1 (e ▸ hi))
     simp [this,e]
    ·exact .inr ⟨k,c,e,z.sameBut hs (cne y c e)⟩
  ·obtain ⟨w',z⟩:=I.cell y c e
   exact ⟨w',z.sameBut hs (cne y c e)⟩
  ·obtain ⟨e,n,ne,nf,d⟩:=I.pin p hp
   exact ⟨(hs.2 p.1 ne).trans e,n,ne,nf,d⟩
 ·have hfn:X.fn x=true:=by
   rcases hf with z | z
   ·exact z
   ·rw [z] at hk;cases hk
  obtain ⟨c,hc⟩:=I.ok.has x (.inl hk)
  obtain ⟨w',z⟩:=I.cell x c hc
  refine wpAny_storeName_cell I.ok.kind hk hc z (fun h' hc' hs=>?_)
  obtain ⟨oc,hoc,hocd⟩:=id z
  refine h { s with heap:=h' } ⟨I.ok,I.os,I.bare,⟨fun b o e n hb hx=>?_,fun b o e n hb hx=>?_,I.base.free,fun b o e hx=>?_,I.base.tups,I.base.frzs,I.base.tbls⟩,⟨m,hn.sameBut hs (Ne.symm (cne x c hc)),fun j y v' e1 e2 e3=>?_⟩,fun y c' e=>?_,I.free,I.freeC,fun p hp=>?_,tracked ⟨oc,hoc,I.freeC x c hc⟩ hs,by simpa using I.len⟩ ⟨c,hs,.inr hc⟩
  ·exact (hs.2 b (bv (bn (az e) (I.ok.cab x c hfn hc)))).trans (I.base.keep b o e n hb hx)
  ·obtain ⟨sl,e1⟩:=I.base.slot b o e n hb hx
   exact ⟨sl,(hs.2 b (bv (bn (az e) (I.ok.cab x c hfn hc)))).trans e1⟩
  ·obtain ⟨o',e1⟩:=I.base.there b o e hx
   exact ⟨o',(hs.2 b (bv (bn (az e) (I.ok.cab x c hfn hc)))).trans e1⟩
  ·by_cases hj:j=i
   ·subst hj
    rw [hi] at e1;cases e1
    rw [yr hiσ] at e2
    cases e2
    exact ⟨u,r,.inr ⟨.inl hk,c,hc,hc'⟩⟩
   ·rw [aAb (Ne.symm hj)] at e2
    obtain ⟨u',r',q⟩:=hl j y v' e1 e2 e3
    refine ⟨u',r',?_⟩
    rcases q with q | ⟨k,c',e,z'⟩
    ·exact .inl q
    ·refine .inr ⟨k,c',e,z'.sameBut hs ?_⟩
     rintro rfl
     exact hj (uN hN e1 (I.ok.inj _ _ _ e hc ▸ hi))
  ·by_cases hcc:c'=c
   ·subst hcc;exact ⟨_,hc'⟩
   ·obtain ⟨w2,z2⟩:=I.cell y c' e
    exact ⟨w2,z2.sameBut hs hcc⟩
  ·obtain ⟨e,n,ne,nf,d⟩:=I.pin p hp
   refine ⟨(hs.2 p.1 ?_).trans e,n,ne,nf,d⟩
   intro q
   rw [q,hoc] at e
   have q':oc=p.2:=da e
   exact d w' (by rw [<- q'];exact hocd)
theorem lH {M:Model}{A:Around}{E:Value->Shared->Prop}{i:Nat}{x:Str}{v:V}{u:Value}{Q:Unit->Shared->Prop}(I:aN X pins σ H s) (hN:X.N.Nodup) (hi:X.N[i]?=some x) (hx:Loc X.env.scope x) (r:bA v u)
  (h:∀ s',aN X pins (σ.set i (some v)) H s'->Q () s') (hf:X.fn x=true\/X.env.scope.names.lookup x=some .local:=by first | exact .inl rfl | exact .inr rfl | assumption):wpAny M A (storeName X.env x u) Q E s :=
 sN I hN hi hx r (fun s' I' _=>h s' I') hf
theorem aN.call' {s':Shared}{ch:List Addr}(I:aN X pins σ H s) (ho:s'.os=s.os) (u:Un (zW X.stack) ch H H' s.heap s'.heap) (hok:iQ X.prog X.w H' s'.heap) (hg:AllBare s'.gens)
  (hch:∀ b∈ch,(b∈X.ex\/X.s₀.heap.objs.size<=b)/\b≠X.env.locals/\(∀ x c,X.env.cells.lookup x=some c->c≠b)/\∀ p∈X.pn++pins,p.1≠b):aN X pins σ H' s':=by
 obtain ⟨h',g',d',t',o'⟩:=s'
 have e:o'=s.os:=ho
 subst e
 exact I.call (g':=g') (t':=t') (d':=d') u hok hg hch
end
abbrev XK:=Value->Option Addr->Hp->Prop
abbrev St:=List (Option V)
abbrev VK:=V->Hp->Prop
abbrev TE:=St->Hp->VK->Prop
abbrev TT:=St->Hp->(Bool->Hp->Prop)->Prop
abbrev TA:=St->Hp->(List V->Hp->Prop)->Prop
structure pZ where
 nx:St->Hp->Prop
 rt:VK
 bk:St->Hp->Prop:=fun _ _=>False
 ct:St->Hp->Prop:=fun _ _=>False
abbrev TS:=pZ->St->Hp->Prop
def EP (X:Cx) (pins:List (Addr×Obj)) (σ: St) (Q:VK) (u:Value) (s':Shared):Prop:=∃ v H',aN X pins σ H' s'/\bA v u/\Q v H'
def TP (X:Cx) (pins:List (Addr×Obj)) (σ: St) (Q:Bool->Hp->Prop) (b:Bool) (s':Shared):Prop:=∃ H',aN X pins σ H' s'/\Q b H'
def AP (X:Cx) (pins:List (Addr×Obj)) (σ: St) (Q:List V->Hp->Prop) (us:List Value) (s':Shared):Prop:=∃ vs H',aN X pins σ H' s'/\aZ vs us/\Q vs H'
def SP (X:Cx) (pins:List (Addr×Obj)) (D:pZ) (f:Flow) (s':Shared):Prop :=
 match f with
 |.next=>∃ σ' H',aN X pins σ' H' s'/\D.nx σ' H'
 |.brk=>∃ σ' H',aN X pins σ' H' s'/\D.bk σ' H'
 |.cont=>∃ σ' H',aN X pins σ' H' s'/\D.ct σ' H'
 |.ret u=>∃ v σ' H',aN X pins σ' H' s'/\bA v u/\D.rt v H'
def PE (X:Cx) (e:Expr) (t:TE):Prop :=
 ∀ (pins:List (Addr×Obj)) (s:Shared) (σ: St) (H:Hp) (Q:VK),aN X pins σ H s->t σ H Q->wpAny (model X.prog X.w) X.A (eval e X.env) (EP X pins σ Q) X.xe s
def PT (X:Cx) (e:Expr) (t:TT):Prop :=
 ∀ (pins:List (Addr×Obj)) (s:Shared) (σ: St) (H:Hp) (Q:Bool->Hp->Prop),aN X pins σ H s->t σ H Q->wpAny (model X.prog X.w) X.A (isTrue e X.env (eval e X.env)) (TP X pins σ Q) X.xe s
def PW (X:Cx) (e:Expr) (t:TT):Prop :=
 ∀ (whole:Sem Value) (pins:List (Addr×Obj)) (s:Shared) (σ: St) (H:Hp) (Q:Bool->Hp->Prop),aN X pins σ H s->t σ H Q->wpAny (model X.prog X.w) X.A (isTrue e X.env whole) (TP X pins σ Q) X.xe s
theorem PW.pt {X:Cx}{e:Expr}{t:TT}(h:PW X e t):PT X e t:=h _
def PA (X:Cx) (es:List Expr) (t:TA):Prop :=
 ∀ (pos:Pos) (pins:List (Addr×Obj)) (s:Shared) (σ: St) (H:Hp) (Q:List V->Hp->Prop),aN X pins σ H s->t σ H Q->wpAny (model X.prog X.w) X.A (spliced (backTo pos (starEach es X.env))) (AP X pins σ Q) X.xe s
def PS (X:Cx) (st:Stmt) (t:TS):Prop :=
 ∀ (pins:List (Addr×Obj)) (s:Shared) (σ: St) (H:Hp) (D:pZ),aN X pins σ H s->t D σ H->wpAny (model X.prog X.w) X.A (exec st X.env) (SP X pins D) X.xe s
def vV (X:Cx) (st:List Stmt) (t:TS):Prop :=
 ∀ (pins:List (Addr×Obj)) (s:Shared) (σ: St) (H:Hp) (D:pZ),aN X pins σ H s->t D σ H->wpAny (model X.prog X.w) X.A (execs st X.env) (SP X pins D) X.xe s
theorem cI {α: Type}{t:Sem α}{Q Q':α->Shared->Prop}{M:Model}{A:Around}{E:Value->Shared->Prop}{s:Shared}(h:wpAny M A t Q E s) (hQ:∀ a s,Q a s->Q' a s):wpAny M A t Q' E s:=ff h hQ fun _ _ x=>x
section
variable {X:Cx}
def bQ0 (i:Nat):TE:=fun σ H Q=>∃ v,σ[i]?=some (some v)/\Q v H
def tC (v:V):TE:=fun _ H Q=>Q v H
theorem bK0 {i:Nat}{x:Str}{pos:Pos}(hN:X.N[i]?=some x) (hv:Vis X.env.scope x) (hd:(x == ("__debug__": Str))=false:=by decide) (hcd:(x == ("__classdict__": Str))=false:=by decide):PE X (.Name x pos) (bQ0 i):=by
 intro pins s σ H Q I h
 obtain ⟨v,e,h⟩:=h
 obtain ⟨m,hn,hl⟩:=I.loc
 obtain ⟨u,r,l⟩:=hl i x v hN e hv
 have fin:EP X pins σ Q u s:=⟨v,H,I,r,h⟩
 rcases l with ⟨hk,hm⟩ | ⟨hk,c,hc,hcell⟩
 ·exact wpAny_Name (wpAny_loadName_local I.ok.kind hk hn hm fin) hd
 ·rcases hk with hk | hk
  ·exact wpAny_Name (wpAny_loadName_cell I.ok.kind hk hc hcell fin) hd
  ·exact wpAny_Name (wpAny_loadName_free I.ok.kind hk hc hcell fin hcd) hd
theorem aD {i j pos}:PE X (.Constant (.int i) j pos) (tC (.int i)):=fun _ _ _ H _ I h=>wpAny_Constant_int ⟨.int i,H,I.tok _,⟨_,rfl⟩,h⟩
theorem gO {b j pos}:PE X (.Constant (.bool b) j pos) (tC (.bl b)):=fun _ _ _ H _ I h=>Constant_bool ⟨.bl b,H,I,rfl,h⟩
theorem dH {x j pos}:PE X (.Constant (.str x) j pos) (tC (.str x)):=fun _ _ _ H _ I h=>Calls.Constant_str ⟨.str x,H,I.tok _,⟨_,rfl⟩,h⟩
def Gl (X:Cx) (x:Str):Prop:=X.env.kindOf x=some .globalImplicit
theorem aU0 {E:Value->Shared->Prop}{pins:List (Addr×Obj)}{s:Shared}{σ: St}{H:Hp}{x:Str}{u:Value}{pos:Pos}{Q:Value->Shared->Prop}(I:aN X pins σ H s) (hg:Gl X x) (hm:X.mg x=some u) (h:Q u s)
  (hd:(x == ("__debug__": Str))=false:=by decide):wpAny (model X.prog X.w) X.A (eval (.Name x pos) X.env) Q E s :=
 wu I.ok.kind hg (Calls.loadGlobal_global (by rw [I.ok.glob];exact I.mod.glob.keeps I.bk) hm h) hd
theorem iS {E:Value->Shared->Prop}{pins:List (Addr×Obj)}{s:Shared}{σ: St}{H:Hp}{x:Str}{u:Value}{pos:Pos}{Q:Value->Shared->Prop}(I:aN X pins σ H s) (hg:Gl X x) (hm:X.mg x=none) (hv:bootBuiltins x=some u) (h:Q u s)
  (hn:x≠"__name__":=by decide) (hd:(x == ("__debug__": Str))=false:=by decide):wpAny (model X.prog X.w) X.A (eval (.Name x pos) X.env) Q E s:=by
 obtain ⟨mb,h1,h2⟩:=I.mod.blt
 exact wu I.ok.kind hg (Calls.loadGlobal_builtin (by rw [I.ok.glob];exact I.mod.glob.keeps I.bk) hm (by rw [I.ok.blt];exact h1.keeps I.bk) ((h2 x hn).trans hv) h) hd
theorem aS4 {x:Str}{v:V}{u:Value}{pos:Pos}(hg:Gl X x) (hm:X.mg x=none) (hv:bootBuiltins x=some u) (r:bA v u) (hn:x≠"__name__":=by decide) (hd:(x == ("__debug__": Str))=false:=by decide):PE X (.Name x pos) (tC v) :=
 fun _ _ _ H _ I h=>iS I hg hm hv ⟨v,H,I,r,h⟩ hn hd
variable {a b:Expr}{ta tb:TE}{pos:Pos}
def PC (X:Cx) (op:CmpOp) (a b:Expr) (t:TE):Prop :=
 ∀ (pins:List (Addr×Obj)) (s:Shared) (σ: St) (H:Hp) (Q:VK),aN X pins σ H s->t σ H Q ->
  wpAny (model X.prog X.w) X.A (eval a X.env) (fun v s₁=>wpAny (model X.prog X.w) X.A (eval b X.env) (fun u s₂=>wpAny (model X.prog X.w) X.A (compareOp op v u) (EP X pins σ Q) X.xe s₂) X.xe s₁) X.xe s
theorem vU (b:Expr) {op:CmpOp}(h:op≠ .In) (h2:op≠ .NotIn):behindInMarks op b=false:=by
 have e1:(op == CmpOp.In)=false:=by cases op <;> first | rfl | exact absurd rfl h
 have e2:(op == CmpOp.NotIn)=false:=by cases op <;> first | rfl | exact absurd rfl h2
 cases b <;> simp [behindInMarks,e1,e2]
def tB (t:TE):TT:=fun σ H Q=>t σ H fun x H1=>∃ c,x= .bl c/\Q c H1
theorem aM0 {op:CmpOp}{t:TE}(h:PC X op a b t) (h1:behindInMarks op b=false:=by first | exact vU _ (by decide) (by decide) | rfl):PE X (.Compare a [op] [b] pos) t:=fun pins s σ H Q I hw=>wpAny_Compare1 (h pins s σ H Q I hw) h1
theorem zH {op:CmpOp}{t:TE}(h:PC X op a b t) (h1:behindInMarks op b=false:=by first | exact vU _ (by decide) (by decide) | rfl):PT X (.Compare a [op] [b] pos) (tB t):=by
 intro pins s σ H Q I hw
 refine zj (cI (h pins s σ H _ I hw) fun v s1 h1=>cI h1 fun u s2 h2=>cI h2 fun c s3 ⟨x,H1,I1,r1,q1⟩=>?_) h1
 obtain ⟨d,rfl,q⟩:=q1
 cases r1
 exact ib ⟨H1,I1,q⟩
theorem gR {e:Expr}{t:TE}(h:PE X e t) (he:∀ whole,isTrue e X.env whole=(do let v <- whole;standAt e.pos;holding [v] (truthy v)):=by intro _;rfl):PT X e (tB t):=by
 intro pins s σ H Q I hw
 refine isTrue_plain (cI (h pins s σ H _ I hw) fun v s1 ⟨x,H1,I1,r1,q1⟩=>?_) (he _)
 obtain ⟨d,rfl,q⟩:=q1
 cases r1
 exact ib ⟨H1,I1,q⟩
variable {tA tB':TT}{rest:List Expr}
def bU2 (t u:TT):TT:=fun σ H Q=>t σ H fun c H1=>if c=true then u σ H1 Q else Q false H1
def tOr (t u:TT):TT:=fun σ H Q=>t σ H fun c H1=>if c=true then Q true H1 else u σ H1 Q
def bS1 (t:TT):TT:=fun σ H Q=>t σ H fun c H1=>Q (!c) H1
theorem iI (ha:PT X a tA):PW X (.BoolOp .And [a] pos) tA:=by
 intro wh pins s σ H Q I h
 refine isTrue_and (cI (ha pins s σ H Q I h) fun c s1 e=>?_)
 cases c with
 |true=>exact isTrue_and_nil e
 |false=>exact e
theorem tS (ha:PT X a tA):PW X (.BoolOp .Or [a] pos) tA:=by
 intro wh pins s σ H Q I h
 refine isTrue_or (cI (ha pins s σ H Q I h) fun c s1 e=>?_)
 cases c with
 |false=>exact isTrue_or_nil e
 |true=>exact e
theorem kB (ha:PT X a tA) (hb:PW X (.BoolOp .And (b :: rest) pos) tB'):PW X (.BoolOp .And (a :: b :: rest) pos) (bU2 tA tB'):=by
 intro wh pins s σ H Q I h
 refine isTrue_and (cI (ha pins s σ H _ I h) fun c s1 ⟨H1,I1,q1⟩=>?_)
 cases c with
 |true=>exact hb wh pins s1 σ H1 Q I1 q1
 |false=>exact ⟨H1,I1,q1⟩
theorem wH (ha:PT X a tA) (hb:PW X (.BoolOp .Or (b :: rest) pos) tB'):PW X (.BoolOp .Or (a :: b :: rest) pos) (tOr tA tB'):=by
 intro wh pins s σ H Q I h
 refine isTrue_or (cI (ha pins s σ H _ I h) fun c s1 ⟨H1,I1,q1⟩=>?_)
 cases c with
 |true=>exact ⟨H1,I1,q1⟩
 |false=>exact hb wh pins s1 σ H1 Q I1 q1
theorem tP (ha:PT X a tA):PT X (.UnaryOp .Not a pos) (bS1 tA):=by
 intro pins s σ H Q I h
 exact isTrue_not (ha pins s σ H (fun c H1=>Q (!c) H1) I h)
def bP6 (ta tb:TE):TE:=fun σ H Q=>ta σ H fun x H1=>∃ c,x= .bl c/\if c=true then tb σ H1 Q else Q (.bl false) H1
def bQ7 (ta:TE):TE:=fun σ H Q=>ta σ H fun x H1=>∃ c,x= .bl c/\Q (.bl (!c)) H1
theorem aL7 {op} {t:TE}(h:PE X a t):PE X (.BoolOp op [a] pos) t:=fun pins s σ H Q I hw=>BoolOp_one (h pins s σ H Q I hw)
theorem aP8 (ha:PE X a ta) (hb:PE X (.BoolOp .And (b :: rest) pos) tb):PE X (.BoolOp .And (a :: b :: rest) pos) (bP6 ta tb):=by
 intro pins s σ H Q I h
 refine BoolOp_and (cI (ha pins s σ H _ I h) fun v s1 ⟨x,H1,I1,r1,q1⟩=>?_)
 obtain ⟨c,rfl,q1⟩:=q1
 cases r1
 refine ib ?_
 cases c with
 |true=>exact hb pins s1 σ H1 Q I1 q1
 |false=>exact ⟨.bl false,H1,I1,rfl,q1⟩
theorem aM6 (ha:PE X a ta):PE X (.UnaryOp .Not a pos) (bQ7 ta):=by
 intro pins s σ H Q I h
 refine UnaryOp_ (cI (ha pins s σ H _ I h) fun v s1 ⟨x,H1,I1,r1,q1⟩=>?_)
 obtain ⟨c,rfl,q1⟩:=q1
 cases r1
 exact not_of (ib ⟨.bl (!c),H1,I1,rfl,q1⟩)
end
def bK (K:PySem.W.Frag) (H:Hp) (a:Addr) (xs:List V):Prop :=
 Rd H a (.lst xs) \/
  ∃ (o:Obj) (its:Array Value) (n:Nat),K.lookup a=some o/\o.cls= .type "list"/\o.dict=none/\o.data= .seq its n/\its.size<=sizeLine/\aZ xs its.toList
def aV (K:PySem.W.Frag) (H:Hp) (a:Addr) (xs:List V):Prop :=
 Rd H a (.tup xs) \/
  ∃ (o:Obj) (its:Array Value) (n:Nat),K.lookup a=some o/\o.cls= .type "tuple"/\o.data= .seq its n/\its.size<=sizeLine/\aZ xs its.toList
def bT2:Value->Option V
 |.none=>some .non
 |.bool b=>some (.bl b)
 |.int i _=>some (.int i)
 |.str x _=>some (.str x)
 |.bytes b _=>some (.byt b)
 |.float b _=>some (.flt b)
 |.ref a=>some (.ref a)
 |.type n=>some (.ty n)
 |_=>none
theorem bA.abs {x:V}{u:Value}(r:bA x u):bT2 u=some x:=by
 cases x with
 |non=>cases r;rfl
 |bl _=>cases r;rfl
 |int _=>obtain ⟨t,rfl⟩:=r;rfl
 |str _=>obtain ⟨t,rfl⟩:=r;rfl
 |byt _=>obtain ⟨t,rfl⟩:=r;rfl
 |flt _=>obtain ⟨t,rfl⟩:=r;rfl
 |ref _=>cases r;rfl
 |ty _=>cases r;rfl
theorem bA.inj {x y:V}{u:Value}(r:bA x u) (q:bA y u):x=y:=da (r.abs.symm.trans q.abs)
theorem aZ.inj:∀ {xs ys:List V}{us:List Value},aZ xs us->aZ ys us->xs=ys
 |_,_,_,.nil,.nil=>rfl
 |_,_,_,.cons r t,.cons r' t'=>by rw [r.inj r',aZ.inj t t']
section
variable {X:Cx}{pins:List (Addr×Obj)}{σ: St}{H:Hp}{s:Shared}{a:Addr}{xs ys:List V}
theorem bK.of {K:PySem.W.Frag}(h:H a=some (.lst xs)):bK K H a xs:= .inl (.inl h)
theorem aV.of {K:PySem.W.Frag}(h:H a=some (.tup xs)):aV K H a xs:= .inl (.inl h)
theorem aN.list (I:aN X pins σ H s) (h:bK X.K H a xs):∃ its:List Value,aZ xs its/\PlainL s.heap a its.toArray/\xs.length<=sizeLine:=by
 rcases h with h | ⟨o,its,n,hk,hc,hd,hs,hz,r⟩
 ·obtain ⟨z,its,n,r,e⟩:=h.ok I.hok
  exact ⟨its,r,⟨_,n,e,rfl,rfl,rfl⟩,z⟩
 ·refine ⟨its.toList,r,⟨o,n,I.kIn a o hk,hc,hd,by simpa using hs⟩,?_⟩
  have e:=r.length
  simp only [Array.length_toList] at e
  omega
theorem aN.tuple (I:aN X pins σ H s) (h:aV X.K H a xs):∃ its:List Value,aZ xs its/\IsTup s.heap a its.toArray/\xs.length<=sizeLine:=by
 rcases h with h | ⟨o,its,n,hk,hc,hs,hz,r⟩
 ·obtain ⟨z,its,r,p⟩:=h.ok I.hok
  exact ⟨its,r,p.is,z⟩
 ·refine ⟨its.toList,r,⟨o,I.kIn a o hk,hc,n,by simpa using hs⟩,?_⟩
  have e:=r.length
  simp only [Array.length_toList] at e
  omega
theorem aN.list_inj (I:aN X pins σ H s) (h:bK X.K H a xs) (h':bK X.K H a ys):xs=ys:=by
 obtain ⟨its,r,⟨o,n,e,_,_,d⟩,_⟩:=I.list h
 obtain ⟨its',r',⟨o',n',e',_,_,d'⟩,_⟩:=I.list h'
 rw [e] at e';cases e'
 rw [d] at d'
 injection d' with d1 _
 have:its=its':=by simpa using cg Array.toList d1
 subst this
 exact r.inj r'
theorem aN.tuple_inj (I:aN X pins σ H s) (h:aV X.K H a xs) (h':aV X.K H a ys):xs=ys:=by
 obtain ⟨its,r,⟨o,e,_,n,d⟩,_⟩:=I.tuple h
 obtain ⟨its',r',⟨o',e',_,n',d'⟩,_⟩:=I.tuple h'
 rw [e] at e';cases e'
 rw [d] at d'
 injection d' with d1 _
 have:its=its':=by simpa using cg Array.toList d1
 subst this
 exact r.inj r'
end
abbrev Cx.wish (X:Cx) (E:Value->Shared->Prop):Cx:={ X with xe:=E }
abbrev Cx.nox (X:Cx):Cx:=X.wish fun _ _=>False
theorem Cx.Ok.wish {X:Cx}(ok:X.Ok) (E:Value->Shared->Prop):(X.wish E).Ok :=
 ⟨ok.mod,ok.kind,ok.glob,ok.blt,ok.above,ok.inj,ok.has,ok.cab,ok.hd,ok.frames,ok.stk,ok.exf,ok.bs,ok.bsz,ok.noex,ok.exfs,ok.funs,ok.frf⟩
theorem Cx.Ok.unwish {X:Cx}{E:Value->Shared->Prop}(ok:(X.wish E).Ok):X.Ok :=
 ⟨ok.mod,ok.kind,ok.glob,ok.blt,ok.above,ok.inj,ok.has,ok.cab,ok.hd,ok.frames,ok.stk,ok.exf,ok.bs,ok.bsz,ok.noex,ok.exfs,ok.funs,ok.frf⟩
section
variable {X:Cx}{pins:List (Addr×Obj)}{σ: St}{H:Hp}{s:Shared}{E:Value->Shared->Prop}
theorem aN.wish (I:aN X pins σ H s) (E:Value->Shared->Prop):aN (X.wish E) pins σ H s:=⟨I.ok.wish E,I.os,I.bare,I.base,I.loc,I.cell,I.free,I.freeC,I.pin,I.hok,I.len⟩
theorem aN.unwish (I:aN (X.wish E) pins σ H s):aN X pins σ H s:=⟨I.ok.unwish,I.os,I.bare,I.base,I.loc,I.cell,I.free,I.freeC,I.pin,I.hok,I.len⟩
theorem SP.unwish {D:pZ}{f:Flow}{s':Shared}(h:SP (X.wish E) pins D f s'):SP X pins D f s':=by
 cases f with
 |next=>obtain ⟨σ',H',I,q⟩:=h;exact ⟨σ',H',I.unwish,q⟩
 |brk=>obtain ⟨σ',H',I,q⟩:=h;exact ⟨σ',H',I.unwish,q⟩
 |cont=>obtain ⟨σ',H',I,q⟩:=h;exact ⟨σ',H',I.unwish,q⟩
 |ret u=>obtain ⟨v,σ',H',I,r,q⟩:=h;exact ⟨v,σ',H',I.unwish,r,q⟩
theorem vV.nox {st:List Stmt}{t:TS}(h:vV X.nox st t):vV X st t:=fun pins s σ H D I hw =>
 ff (h pins s σ H D (I.wish _) hw) (fun _ _ q=>q.unwish) fun _ _ z=>False.elim z
end
section
variable {X:Cx}{st:Stmt}{rest:List Stmt}{t u:TS}{e:Expr}{te:TE}{pos:Pos}
def tNext:TS:=fun D σ H=>D.nx σ H
def bR6 (t u:TS):TS:=fun D σ H=>t { D with nx:=u D } σ H
theorem aS:vV X [] tNext:=fun _ _ σ H _ I h=>uq ⟨σ,H,I,h⟩
theorem aG (h1:PS X st t) (h2:vV X rest u):vV X (st :: rest) (bR6 t u):=by
 intro pins s σ H D I h
 refine wpAny_execs_cons (cI (h1 pins s σ H { D with nx:=u D } I h) fun f s1 q=>?_)
 cases f with
 |next =>
  obtain ⟨σ',H',I',q⟩:=q
  exact h2 pins s1 σ' H' D I' q
 |ret v=>exact q
 |brk=>exact q
 |cont=>exact q
theorem aF (h1:PS X st t):vV X [st] t:=by
 intro pins s σ H D I h
 refine wpAny_execs_cons (cI (h1 pins s σ H D I h) fun f s1 q=>?_)
 cases f with
 |next=>exact uq q
 |ret v=>exact q
 |brk=>exact q
 |cont=>exact q
theorem aN.quiet {pins:List (Addr×Obj)}{σ: St}{H:Hp}{s:Shared}(I:aN X pins σ H s):interactive X.env=false:=by simp [interactive,I.ok.kind]
def bO8 (te:TE):TS:=fun D σ H=>te σ H fun _ H1=>D.nx σ H1
theorem gG (he:PE X e te) (hs:swapsWith e none pos.line X.env=pure false:=by rfl):PS X (.Expr e pos) (bO8 te):=by
 intro pins s σ H D I h
 exact wpAny_Expr_any (cI (he pins s σ H _ I h) fun v s1 ⟨x,H1,I1,r1,q1⟩=>⟨σ,H1,I1,q1⟩) I.quiet hs
def bU4 (te:TE):TS:=fun D σ H=>te σ H D.rt
theorem aQ (he:PE X e te):PS X (.Return (some e) pos) (bU4 te):=by
 intro pins s σ H D I h
 exact wpAny_Return_some (cI (he pins s σ H _ I h) fun v s1 ⟨x,H1,I1,r1,q1⟩=>⟨x,σ,H1,I1,r1,q1⟩)
def bT0 (c:TT) (t u:TS):TS:=fun D σ H=>c σ H fun b H1=>if b=true then t D σ H1 else u D σ H1
theorem bN {c:Expr}{a b:List Stmt}{tc:TT}(hc:PT X c tc) (ha:vV X a t) (hb:vV X b u):PS X (.If c a b pos) (bT0 tc t u):=by
 intro pins s σ H D I h
 refine wpAny_If (cI (hc pins s σ H _ I h) fun d s1 ⟨H1,I1,q1⟩=>?_)
 cases d with
 |true=>exact ha pins s1 σ H1 D I1 q1
 |false=>exact hb pins s1 σ H1 D I1 q1
end
abbrev TG:=V->St->Hp->(St->Hp->Prop)->Prop
abbrev TGs:=List V->St->Hp->(St->Hp->Prop)->Prop
def PG (X:Cx) (target:Expr) (t:TG):Prop :=
 ∀ (pins:List (Addr×Obj)) (s:Shared) (σ: St) (H:Hp) (v:V) (u:Value) (Q:St->Hp->Prop),aN X pins σ H s->bA v u->t v σ H Q ->
  wpAny (model X.prog X.w) X.A (assign target X.env u) (fun _ s'=>∃ σ' H',aN X pins σ' H' s'/\Q σ' H') X.xe s
def PGs (X:Cx) (ts:List Expr) (t:TGs):Prop :=
 ∀ (pins:List (Addr×Obj)) (s:Shared) (σ: St) (H:Hp) (vs:List V) (us:List Value) (Q:St->Hp->Prop),aN X pins σ H s->aZ vs us->t vs σ H Q ->
  wpAny (model X.prog X.w) X.A (assignInOrder ((assignEach ts X.env).map (·.2)) us) (fun _ s'=>∃ σ' H',aN X pins σ' H' s'/\Q σ' H') X.xe s
abbrev TSet:=V->V->V->Hp->(Hp->Prop)->Prop
def bR4 (X:Cx) (t:TSet):Prop :=
 ∀ (pins:List (Addr×Obj)) (s:Shared) (σ: St) (H:Hp) (o i v:V) (ov iv u:Value) (Q:Hp->Prop),aN X pins σ H s->bA o ov->bA i iv->bA v u->t o i v H Q ->
  wpAny (model X.prog X.w) X.A (setItem ov iv u) (fun _ s'=>∃ H',aN X pins σ H' s'/\Q H') X.xe s
section
variable {X:Cx}{pos:Pos}
def rK (i:Nat):TG:=fun v σ H Q=>Q (σ.set i (some v)) H
theorem nR {i:Nat}{x:Str}(hN:X.N.Nodup) (hi:X.N[i]?=some x) (hx:Loc X.env.scope x) (hf:X.fn x=true\/X.env.scope.names.lookup x=some .local:=by first | exact .inl rfl | exact .inr rfl | assumption):PG X (.Name x pos) (rK i):=by
 intro pins s σ H v u Q I r h
 exact wpAny_assign_Name (lH I hN hi hx r (fun s' I'=>⟨_,H,I',h⟩) hf)
def gNil:TGs:=fun vs σ H Q=>vs=[]/\Q σ H
def bL2 (t:TG) (u:TGs):TGs:=fun vs σ H Q=>∃ v r,vs=v :: r/\t v σ H fun σ' H'=>u r σ' H' Q
theorem bG:PGs X [] gNil:=by
 intro pins s σ H vs us Q I r h
 obtain ⟨e,h⟩:=h
 subst e
 cases r
 exact assignInOrder_nil ⟨σ,H,I,h⟩
theorem aL {e:Expr}{es:List Expr}{t:TG}{u:TGs}(h1:PG X e t) (h2:PGs X es u)
  (hs:(assignEach (e :: es) X.env).map (·.2)=assign e X.env :: (assignEach es X.env).map (·.2):=by rfl):PGs X (e :: es) (bL2 t u):=by
 intro pins s σ H vs us Q I r h
 obtain ⟨v,vr,e1,h⟩:=h
 subst e1
 cases r with
 |cons r rr =>
  rw [hs]
  refine we (cI (h1 pins s σ H _ _ _ I r h) fun _ s1 ⟨σ1,H1,I1,q1⟩=>?_)
  exact h2 pins s1 σ1 H1 _ _ Q I1 rr q1
def bQ5 (K:PySem.W.Frag) (n:Nat) (t:TGs):TG:=fun v σ H Q=>∃ a xs,v= .ref a/\aV K H a xs/\xs.length=n/\t xs σ H Q
theorem eU {es:List Expr}{k:Nat}{t:TGs}{n:Nat}(hc:X.calm=true) (h:PGs X es t)
  (hn:(assignEach es X.env).length=n:=by rfl) (hst:(assignEach es X.env).findIdx? (·.1)=none:=by rfl):PG X (.Tuple es k pos) (bQ5 X.K n t):=by
 intro pins s σ H v u Q I r hw
 obtain ⟨a,xs,e1,hq,hl,hw⟩:=hw
 subst e1
 cases r
 obtain ⟨its,rv,ht,hz⟩:=I.tuple hq
 refine assign_Tuple_tuple (I.ok.hd hc) ht (by simp [hn, <- hl,rv.length]) hst fun h' hx=>?_
 have I1:aN X pins σ H { s with heap:=h' }:=I.kept (t':=s.toks) fun b o e=>hx b o (bv (az e)) e
 exact h pins _ σ H xs _ Q I1 (by simpa using rv) hw
def bV0 (to ti:TE) (t:TSet):TG:=fun v σ H Q=>to σ H fun o H1=>ti σ H1 fun i H2=>t o i v H2 fun H3=>Q σ H3
theorem aL9 {o i:Expr}{to ti:TE}{t:TSet}(ho:PE X o to) (hi:PE X i ti) (hs:bR4 X t)
  (ha:∀ v,assign (.Subscript o i pos) X.env v=(do
   let ov <- holding [v] (eval o X.env)
   let iv <- holding [v,ov] (eval i X.env)
   standAt pos
   holding [v,ov,iv] (setItem ov iv v)
   release [v,ov,iv] []):=by intro _;rfl):PG X (.Subscript o i pos) (bV0 to ti t):=by
 intro pins s σ H v u Q I r h
 rw [ha]
 refine aa (cp (cI (ho pins s σ H _ I h) fun ov s1 ⟨x,H1,I1,r1,q1⟩=>?_))
 refine aa (cp (cI (hi pins s1 σ H1 _ I1 q1) fun iv s2 ⟨y,H2,I2,r2,q2⟩=>?_))
 refine aa (tj (aa (cp (cI (hs pins s2 σ H2 x y v ov iv u _ I2 r1 r2 r q2) fun _ s3 ⟨H3,I3,q3⟩=>?_))))
 exact wpAny_release ⟨σ,H3,I3,q3⟩
def aI1 (te:TE) (g:TG):TS:=fun D σ H=>te σ H fun x H1=>g x σ H1 D.nx
theorem jZ {tg e:Expr}{te:TE}{g:TG}(he:PE X e te) (hg:PG X tg g) (hs:swapsWithSole [tg] e pos.line X.env=pure false:=by rfl) (hw:swappedStores [tg] e X.env=pure none:=by rfl)
  (h1:(assignEach [tg] X.env).map (·.2)=[assign tg X.env]:=by rfl):PS X (.Assign [tg] e pos) (aI1 te g):=by
 intro pins s σ H D I h
 refine wpAny_Assign_stores (cI (he pins s σ H _ I h) fun v s1 ⟨x,H1,I1,r1,q1⟩=>?_) hs hw
 rw [h1]
 exact cI (hg pins s1 σ H1 x v _ I1 r1 q1) fun _ s2 q=>q
theorem kN {i:Nat}{x:Str}{e:Expr}{te:TE}{pos':Pos}(hN:X.N.Nodup) (hi:X.N[i]?=some x) (hx:Loc X.env.scope x) (he:PE X e te) (hs:swapsWith e (some (.Name x pos')) pos.line X.env=pure false:=by rfl) (hf:X.fn x=true\/X.env.scope.names.lookup x=some .local:=by first | exact .inl rfl | exact .inr rfl | assumption) :
  PS X (.Assign [.Name x pos'] e pos) (aI1 te (rK i)):=by
 intro pins s σ H D I h
 refine wpAny_Assign_Name (cI (he pins s σ H _ I h) fun v s1 ⟨y,H1,I1,r1,q1⟩=>?_) hs
 exact lH I1 hN hi hx r1 (fun s2 I2=>⟨_,H1,I2,q1⟩) hf
def bU3 (i j:Nat) (ta:TA):TS:=fun D σ H=>ta σ H fun vs H1=>∃ v w,vs=[v,w]/\D.nx ((σ.set i (some v)).set j (some w)) H1
theorem yO {i j:Nat}{x y:Str}{a b:Expr}{ta:TA}{px py pt:Pos}{kt k2 pt2} (hc:X.calm=true) (hN:X.N.Nodup) (hi:X.N[i]?=some x) (hj:X.N[j]?=some y) (hij:i≠j)
  (hx:X.env.scope.names.lookup x=some .local) (hy:X.env.scope.names.lookup y=some .local) (ha:PA X [a,b] ta)
  (hw:swappedStores [.Tuple [.Name x px,.Name y py] kt pt] (.Tuple [a,b] k2 pt2) X.env=pure (some [x,y]))
  (hs:swapsWithSole [.Tuple [.Name x px,.Name y py] kt pt] (.Tuple [a,b] k2 pt2) pos.line X.env=pure false:=by rfl) :
  PS X (.Assign [.Tuple [.Name x px,.Name y py] kt pt] (.Tuple [a,b] k2 pt2) pos) (bU3 i j ta):=by
 intro pins s σ H D I h
 rw [exec_Assign_arm]
 refine aa (tj ?_)
 rw [hs]
 refine aa (ac ?_)
 rw [ao (by decide)]
 refine aa (Tuple_ (cI (ha _ pins s σ H _ I h) fun us s1 ⟨vs,H1,I1,r1,q1⟩=>?_))
 obtain ⟨v,w,e1,q1⟩:=q1
 subst e1
 obtain ⟨u1,u2,rfl,rv,rw'⟩:∃ u1 u2,us=[u1,u2]/\bA v u1/\bA w u2:=by
  cases r1 with
  |cons p q =>
   cases q with
   |cons p' q' =>
    cases q'
    exact ⟨_,_,rfl,p,p'⟩
 refine fk ?_ (by show 2<=sizeLine;decide)
 have I2:aN X pins σ H1 { s1 with heap:=s1.heap.push { cls:= .type "tuple",data:= .seq [u1,u2].toArray } }:=I1.kept (t':=s1.toks) fun b o e=>ag _ e
 rw [hw]
 refine aa (ac ?_)
 show wpAny (model X.prog X.w) X.A (do rule "assign.swapped-stores";let items <- unpackItems (.ref s1.heap.objs.size) 2 none;assignInOrder [fun v=>bindName X.env y v,fun v=>bindName X.env x v] items.reverse;pure Flow.next) _ _ _
 refine aa (jb (aa (unpackItems_tuple (items:= #[u1,u2]) (I.ok.hd hc) (IsTup.new s1.heap _) fun h' hx'=>?_)))
 have I3:=I2.kept (h':=h') (t':=s1.toks) fun b o e=>hx' b o (bv (az e)) e
 show wpAny _ _ (assignInOrder [fun v=>bindName X.env y v,fun v=>bindName X.env x v] [u2,u1] >>= fun _=>pure Flow.next) _ _ _
 refine aa (we (wpAny_bindName (lH I3 hN hj (.inl hy) rw' (fun s2 I4=>?_) (.inr hy))))
 refine we (wpAny_bindName (lH I4 hN hi (.inl hx) rv (fun s3 I5=>assignInOrder_nil (ac ?_)) (.inr hx)))
 rw [List.set_comm _ _ (Ne.symm hij)] at I5
 exact ⟨_,H1,I5,q1⟩
def bD1 (c:TT) (tb:TS):TS:=fun D σ H=>∃ W:Nat->St->Hp->Prop,(∃ m,W m σ H)/\∀ m σ H,W m σ H ->
 c σ H fun b H1=>if b=true then ∃ N:St->Hp->Prop,(∀ σ' H',N σ' H'->∃ m',m' < m/\W m' σ' H')/\tb { D with nx:=N,ct:=N,bk:=D.nx } σ H1 else D.nx σ H1
theorem lF {c:Expr}{body:List Stmt}{tc:TT}{tb:TS}(hp:PassesOwn (model X.prog X.w) X.A X.env X.xe) (hc:PT X c tc) (hb:vV X body tb):PS X (.While c body [] pos) (bD1 tc tb):=by
 intro pins s σ H D I h
 obtain ⟨W,⟨m0,w0⟩,turn⟩:=h
 refine wpAny_While (codeAny_whileLoop (fun n s'=>∃ σ' H',aN X pins σ' H' s'/\W n σ' H') ?_ m0 ⟨σ,H,I,w0⟩)
 rintro n s1 ⟨σ1,H1,I1,w1⟩
 refine ko hp (cI (hc pins s1 σ1 H1 _ I1 (turn n σ1 H1 w1)) fun b s2 ⟨H2,I2,q2⟩=>?_)
 cases b with
 |true =>
  obtain ⟨N,hN,q2⟩:=q2
  rw [bb rfl]
  refine ko hp (cI (hb pins s2 σ1 H2 _ I2 q2) fun f s3 q3=>?_)
  cases f with
  |next =>
   obtain ⟨σ3,H3,I3,n3⟩:=q3
   obtain ⟨m',hm,w3⟩:=hN σ3 H3 n3
   exact ⟨m',hm,σ3,H3,I3,w3⟩
  |cont =>
   obtain ⟨σ3,H3,I3,n3⟩:=q3
   obtain ⟨m',hm,w3⟩:=hN σ3 H3 n3
   exact ⟨m',hm,σ3,H3,I3,w3⟩
  |brk=>exact q3
  |ret v=>exact q3
 |false =>
  rw [ao ck]
  exact uq ⟨σ1,H2,I2,q2⟩
end
structure It where
 go:Nat->Hp->Prop
 yld:Nat->Hp->V->Hp->Prop
 stop:Nat->Hp->Prop
def iO (X:Cx) (pins:List (Addr×Obj)) (H:Hp) (b:Addr):Prop :=
 H b=none/\b≠X.env.locals/\b∉X.fs/\(b∈X.ex\/X.s₀.heap.objs.size<=b)/\(∀ x c,X.env.cells.lookup x=some c->c≠b)/\∀ p∈X.pn++pins,p.1≠b
theorem aN.fpOk {X:Cx}{pins:List (Addr×Obj)}{σ: St}{H H':Hp}{s:Shared}{b:Addr}(I:aN X pins σ H s) (hb:s.heap.objs.size<=b) (hn:H' b=none):iO X pins H' b:=by
 refine ⟨hn,nc (bn I.lt hb),I.nofs hb,.inr (cj I.sz hb),fun x c e z=>?_,fun p hp z=>?_⟩
 ·obtain ⟨v,q⟩:=I.cell x c e
  exact absurd (bn q.lt (by rw [z];exact hb)) (dk _)
 ·exact absurd (bn (az (I.pin p hp).1) (by rw [z];exact hb)) (dk _)
structure uP (P:Program) (w:World) (K:PySem.W.Frag) (tg:Expr) (J:It) (fp:List Addr) (it:Addr) (tn:Nat->Heap->Prop):Prop where
 mem:it∈fp
 obj:∀ i h,tn i h->∀ b∈fp,∃ o,h.get? b=some o/\∀ v,o.data≠ .cell v
 keep:∀ i h h',tn i h->(∀ b∈fp,∀ o,h.get? b=some o->h'.get? b=some o)->tn i h'
 item:∀ (X:Cx),X.prog=P->X.w=w->X.K=K->X.calm=true->∀ (i:Nat) (pins:List (Addr×Obj)) (s:Shared) (σ: St) (H:Hp) (E:Value->Shared->Prop),aN X pins σ H s->(∀ b∈fp,iO X pins H b)->tn i s.heap->J.go i H ->
  wpAny (model P w) X.A (pyNext (.ref it)) (fun r s1=>∃ u,r=some u /\
   wpAny (model P w) X.A (letOwnedTupleGo tg (.ref it) u) (fun _ s2=>∃ x H',aN X pins σ H' s2/\bA x u/\J.yld i H x H'/\tn (i+1) s2.heap/\∀ b∈fp,H' b=none) E s1) E s
 done:∀ (X:Cx),X.prog=P->X.w=w->X.K=K->X.calm=true->∀ (i:Nat) (pins:List (Addr×Obj)) (s:Shared) (σ: St) (H:Hp) (E:Value->Shared->Prop),aN X pins σ H s->(∀ b∈fp,iO X pins H b)->tn i s.heap->J.stop i H ->
  wpAny (model P w) X.A (pyNext (.ref it)) (fun r s1=>r=none/\aN X pins σ H s1) E s
 self:∀ (A:Around) (i:Nat) (s:Shared) (Q:Value->Shared->Prop) (E:Value->Shared->Prop),tn i s.heap->Q (.ref it) s->wpAny (model P w) A (pyIter (.ref it)) Q E s
abbrev TI:=St->Hp->(It->Hp->Prop)->Prop
def PIE (X:Cx) (pins:List (Addr×Obj)) (σ: St) (tg:Expr) (R:It->Hp->Prop) (itv:Value) (s2:Shared):Prop :=
 ∃ (it:Addr) (fp:List Addr) (tn:Nat->Heap->Prop) (J:It) (H':Hp),itv= .ref it/\aN X pins σ H' s2/\uP X.prog X.w X.K tg J fp it tn/\tn 0 s2.heap/\(∀ b∈fp,iO X pins H' b)/\R J H'
def PI (X:Cx) (tg iter:Expr) (wi:TI):Prop :=
 ∀ (pins:List (Addr×Obj)) (s:Shared) (σ: St) (H:Hp) (R:It->Hp->Prop),aN X pins σ H s->wi σ H R ->
  wpAny (model X.prog X.w) X.A (eval iter X.env) (fun v s1=>wpAny (model X.prog X.w) X.A (pyIter v) (PIE X pins σ tg R) X.xe s1) X.xe s
theorem go_of {M : Model}{A : Around}{E : Value -> Shared -> Prop}{s : Shared}{tg : Expr}{it : Addr}{u : Value}{o : Obj}{n : String}{vs : Array Value}{Q : Unit -> Shared -> Prop}(ho : s.heap.get? it = some o) (hc : o.cls = .type n) (hd : o.data = .fields vs)
    (hn : ["enumerate", "zip", "dict_itemiterator", "dict_reverseitemiterator", "odict_iterator", "itertools.zip_longest", "itertools.pairwise"].contains n = false) (hQ : Q () s) : wpAny M A (letOwnedTupleGo tg (.ref it) u) Q E s := by
  unfold letOwnedTupleGo
  cases tg <;> first
    | exact ac hQ
    | (cases u <;> first
        | exact ac hQ
        | (refine aa (wpAny_load ho ?_)
           rw [hc, hd]
           show wpAny M A (if (["enumerate", "zip", "dict_itemiterator", "dict_reverseitemiterator", "odict_iterator", "itertools.zip_longest", "itertools.pairwise"].contains n && vs[0]? == some (rawInt _)) = true then _ else _) Q E s
           rw [ao (by intro h; rw [hn, dw] at h; cases h)]
           exact ac hQ))
def Itl (K:PySem.W.Frag) (a:Addr):It :=
 ⟨fun i H=>∃ xs x,bK K H a xs/\xs[i]?=some x,fun i H x H'=>H'=H/\∀ xs,bK K H a xs->xs[i]?=some x,fun i H=>∃ xs,bK K H a xs/\xs.length<=i⟩
def Itt (K:PySem.W.Frag) (a:Addr):It :=
 ⟨fun i H=>∃ xs x,aV K H a xs/\xs[i]?=some x,fun i H x H'=>H'=H/\∀ xs,aV K H a xs->xs[i]?=some x,fun i H=>∃ xs,aV K H a xs/\xs.length<=i⟩
def Itr (lo:Int) (n:Nat):It:=⟨fun i _=>i < n,fun i H x H'=>H'=H/\x= .int (lo+i),fun i _=>n<=i⟩
theorem aD4 {P:Program}{w:World}{K:PySem.W.Frag}{tg:Expr}(a it:Addr):uP P w K tg (Itl K a) [it] it (fun i h=>h.IsListIter it a i) where
 mem:=by simp
 obj:=fun i h st b hb=>by
  have e:b=it:=by simpa using hb
  subst e
  obtain ⟨o,e,c,d⟩:=st
  exact ⟨o,e,fun v z=>by rw [d] at z;cases z⟩
 keep:=fun i h h' st k=>st.at fun o e=>k it (by simp) o e
 item:=by
  intro X hP hw hK hc i pins s σ H E I hf st hg
  subst hP hw hK
  obtain ⟨xs,x,hq,hx⟩:=hg
  obtain ⟨its,rv,p,hz⟩:=I.list hq
  obtain ⟨u,hu,ru⟩:=rv.get hx
  obtain ⟨f0,f1,f2,f3,f4,f5⟩:=hf it (by simp)
  refine ou st p.isList (x:=u) (by simpa using hu) fun h' st' sb=>?_
  have I1:aN X pins σ H { s with heap:=h' }:=I.turned (t':=s.toks) (fun b o hb e=>(sb.2 b hb).trans e) f0 f1 f3 f4 f5
  obtain ⟨o,e,c,d⟩:=id st'
  exact ⟨u,rfl,go_of (s:={ s with heap:=h' }) e c d (by decide) ⟨x,H,I1,ru,⟨rfl,fun ys hy=>by rw [I.list_inj hy hq];exact hx⟩,st',fun b hb=>(hf b hb).1⟩⟩
 done:=by
  intro X hP hw hK hc i pins s σ H E I hf st hg
  subst hP hw hK
  obtain ⟨xs,hq,hx⟩:=hg
  obtain ⟨its,rv,p,hz⟩:=I.list hq
  obtain ⟨f0,f1,f2,f3,f4,f5⟩:=hf it (by simp)
  have hl:=rv.length
  exact oz (I.ok.hd hc) st p.isList (by simp;omega) fun h' eb=>⟨rfl,I.turned (t':=s.toks) (fun b o hb e=>eb b o hb e) f0 f1 f3 f4 f5⟩
 self:=fun _ _ _ _ _ st h=>wpAny_pyIter_listiter st h
theorem yL {P:Program}{w:World}{K:PySem.W.Frag}{tg:Expr}(a it:Addr):uP P w K tg (Itt K a) [it] it (fun i h=>h.IsTupleIter it a i) where
 mem:=by simp
 obj:=fun i h st b hb=>by
  have e:b=it:=by simpa using hb
  subst e
  obtain ⟨o,e,c,d⟩:=st
  exact ⟨o,e,fun v z=>by rw [d] at z;cases z⟩
 keep:=fun i h h' st k=>st.at fun o e=>k it (by simp) o e
 item:=by
  intro X hP hw hK hc i pins s σ H E I hf st hg
  subst hP hw hK
  obtain ⟨xs,x,hq,hx⟩:=hg
  obtain ⟨its,rv,p,hz⟩:=I.tuple hq
  obtain ⟨u,hu,ru⟩:=rv.get hx
  obtain ⟨f0,f1,f2,f3,f4,f5⟩:=hf it (by simp)
  refine yd st (show s.heap.IsTuple a its.toArray from p) (x:=u) (by simpa using hu) fun h' st' sb=>?_
  have I1:aN X pins σ H { s with heap:=h' }:=I.turned (t':=s.toks) (fun b o hb e=>(sb.2 b hb).trans e) f0 f1 f3 f4 f5
  obtain ⟨o,e,c,d⟩:=id st'
  exact ⟨u,rfl,go_of (s:={ s with heap:=h' }) e c d (by decide) ⟨x,H,I1,ru,⟨rfl,fun ys hy=>by rw [I.tuple_inj hy hq];exact hx⟩,st',fun b hb=>(hf b hb).1⟩⟩
 done:=by
  intro X hP hw hK hc i pins s σ H E I hf st hg
  subst hP hw hK
  obtain ⟨xs,hq,hx⟩:=hg
  obtain ⟨its,rv,p,hz⟩:=I.tuple hq
  obtain ⟨f0,f1,f2,f3,f4,f5⟩:=hf it (by simp)
  have hl:=rv.length
  exact yt (I.ok.hd hc) st (show s.heap.IsTuple a its.toArray from p) (by simp;omega) fun h' eb=>⟨rfl,I.turned (t':=s.toks) (fun b o hb e=>eb b o hb e) f0 f1 f3 f4 f5⟩
 self:=fun _ _ _ _ _ st h=>wpAny_pyIter_tupleiter st h
theorem xR {P:Program}{w:World}{K:PySem.W.Frag}{tg:Expr}(it:Addr) (lo:Int) (n:Nat):uP P w K tg (Itr lo n) [it] it (fun i h=>IsRangeIter h it (lo+(i:Nat) * 1) ((n:Int) - (i:Nat)) 1) where
 mem:=by simp
 obj:=fun i h st b hb=>by
  have e:b=it:=by simpa using hb
  subst e
  exact ⟨_,st,fun v z=>by
   have z':Data.fields _=Data.cell v:=z
   cases z'⟩
 keep:=fun i h h' st k=>k it (by simp) _ st
 item:=by
  intro X hP hw hK hc i pins s σ H E I hf st hg
  subst hP hw hK
  obtain ⟨f0,f1,f2,f3,f4,f5⟩:=hf it (by simp)
  have W:=Walks.range (prog:=X.prog) (w:=X.w) (I.ok.hd hc) it lo 1 n
  refine W.item i s _ _ hg st fun v h' tk hv st' kk=>?_
  obtain ⟨t,rfl⟩:=hv
  have I1:aN X pins σ H { s with heap:=h',toks:=tk }:=I.turned (fun b o hb e=>kk b o (by simpa using hb) e) f0 f1 f3 f4 f5
  refine ⟨_,rfl,go_of (s:={ s with heap:=h',toks:=tk }) (n:="range_iterator") st' rfl rfl (by decide) ⟨.int (lo+i),H,I1,⟨t,?_⟩,⟨rfl,rfl⟩,st',fun b hb=>(hf b hb).1⟩⟩
  rw [Int.mul_one]
 done:=by
  intro X hP hw hK hc i pins s σ H E I hf st hg
  subst hP hw hK
  obtain ⟨f0,f1,f2,f3,f4,f5⟩:=hf it (by simp)
  exact wpAny_pyNext_range_end (I.ok.hd hc) st (by have:n<=i:=hg;omega) fun h' eb=>⟨rfl,I.turned (t':=s.toks) (fun b o hb e=>eb b o hb e) f0 f1 f3 f4 f5⟩
 self:=fun _ _ _ _ _ st h=>wpAny_pyIter_rangeiter st h
section
variable {X:Cx}{tg:Expr}
def bL7 (K:PySem.W.Frag) (tl:TE):TI:=fun σ H R=>tl σ H fun x H1=>∃ a,x= .ref a/\(∃ xs,bK K H1 a xs)/\R (Itl K a) H1
def bU8 (K:PySem.W.Frag) (tl:TE):TI:=fun σ H R=>tl σ H fun x H1=>∃ a,x= .ref a/\(∃ xs,aV K H1 a xs)/\R (Itt K a) H1
theorem gP {l:Expr}{tl:TE}(hl:PE X l tl):PI X tg l (bL7 X.K tl):=by
 intro pins s σ H R I h
 refine cI (hl pins s σ H _ I h) fun v s1 ⟨x,H1,I1,r1,q1⟩=>?_
 obtain ⟨a,e,⟨xs,hq⟩,q⟩:=q1
 subst e
 cases r1
 obtain ⟨its,rv,p,hz⟩:=I1.list hq
 refine ic p.isList ?_
 refine ⟨s1.heap.objs.size,[s1.heap.objs.size],_,_,H1,rfl,I1.kept (t':=s1.toks) fun b o e=>ag _ e,aD4 a _,⟨_,aq _ rfl,rfl,rfl⟩,fun b hb=>?_,q⟩
 have e:b=s1.heap.objs.size:=by simpa using hb
 subst e
 exact I1.fpOk (ak _) (I1.hok.fresh (ak _))
theorem cT {l:Expr}{tl:TE}(hl:PE X l tl):PI X tg l (bU8 X.K tl):=by
 intro pins s σ H R I h
 refine cI (hl pins s σ H _ I h) fun v s1 ⟨x,H1,I1,r1,q1⟩=>?_
 obtain ⟨a,e,⟨xs,hq⟩,q⟩:=q1
 subst e
 cases r1
 obtain ⟨its,rv,p,hz⟩:=I1.tuple hq
 refine wf (show s1.heap.IsTuple a its.toArray from p) ?_
 refine ⟨s1.heap.objs.size,[s1.heap.objs.size],_,_,H1,rfl,I1.kept (t':=s1.toks) fun b o e=>ag _ e,yL a _,⟨_,aq _ rfl,rfl,rfl⟩,fun b hb=>?_,q⟩
 have e:b=s1.heap.objs.size:=by simpa using hb
 subst e
 exact I1.fpOk (ak _) (I1.hok.fresh (ak _))
theorem vN {pins:List (Addr×Obj)}{σ: St}{H:Hp}{s:Shared}{R:It->Hp->Prop}{E:Value->Shared->Prop}{lo hi:Int}{t u v:Tok}{tk:Nat}(I:aN X pins σ H s) (h1: -(2 ^ 62)<=lo) (h2:lo < 2 ^ 62) (h3: -(2 ^ 62)<=hi) (h4:hi < 2 ^ 62)
  (q:R (Itr lo (hi - lo).toNat) H):wpAny (model X.prog X.w) X.A (pyIter (.ref s.heap.objs.size)) (PIE X pins σ tg R) E { s with heap:=s.heap.push { cls:= .type "range",data:= .fields #[.int lo t,.int hi u,.int 1 v] },toks:=tk }:=by
 refine wpAny_pyIter_range (IsRange.new ..) (small_one h1 h2 h3 h4) ?_
 have I1:aN X pins σ H { s with heap:=s.heap.push { cls:= .type "range",data:= .fields #[.int lo t,.int hi u,.int 1 v] },toks:=tk }:=I.kept fun b o e=>ag _ e
 refine ⟨(s.heap.push { cls:= .type "range",data:= .fields #[.int lo t,.int hi u,.int 1 v] }).objs.size,[(s.heap.push { cls:= .type "range",data:= .fields #[.int lo t,.int hi u,.int 1 v] }).objs.size],_,_,H,rfl,
  I1.kept (t':=tk) fun b o e=>ag _ e,xR _ lo (hi - lo).toNat,?_,fun b hb=>?_,q⟩
 ·have e1:lo+((0:Nat):Int) * 1=lo:=by simp
  have e2:(((hi - lo).toNat:Nat):Int) - ((0:Nat):Int)=Builtin.Range.rangeSize lo hi 1:=by rw [rangeSize_one];split <;> omega
  show IsRangeIter _ _ (lo+((0:Nat):Int) * 1) ((((hi - lo).toNat:Nat):Int) - ((0:Nat):Int)) 1
  rw [e1,e2]
  exact aq _ rfl
 ·have e:b=(s.heap.push { cls:= .type "range",data:= .fields #[.int lo t,.int hi u,.int 1 v] }).objs.size:=by simpa using hb
  subst e
  exact I1.fpOk (ak _) (I1.hok.fresh (ak _))
def bM9 (ta:TA):TI:=fun σ H R=>ta σ H fun vs H1=>∃ j:Int,vs=[.int j]/\ -(2 ^ 62)<=j/\j < 2 ^ 62/\R (Itr 0 j.toNat) H1
def bO3 (ta:TA):TI:=fun σ H R=>ta σ H fun vs H1=>∃ i j:Int,vs=[.int i,.int j]/\(-(2 ^ 62)<=i/\i < 2 ^ 62/\ -(2 ^ 62)<=j/\j < 2 ^ 62)/\R (Itr i (j - i).toNat) H1
theorem hV {a:Expr}{ta:TA}{p pos:Pos}(hg:Gl X "range") (hm:X.mg "range"=none) (ha:PA X [a] ta) (hs:starEach [a] X.env=[(false,eval a X.env)]:=by rfl):PI X tg (.Call (.Name "range" p) [a] [] pos) (bM9 ta):=by
 intro pins s σ H R I h
 refine Call_ (iS I hg hm boot_range (gi (cI (ha pos pins s σ H _ I h) fun us s1 ⟨vs,H1,I1,r1,q1⟩=>?_) hs rfl))
 obtain ⟨j,e,q1,q2,q⟩:=q1
 subst e
 cases r1 with
 |cons r rr =>
  cases rr
  obtain ⟨t,rfl⟩:=r
  exact call_range_1 (vN I1 (by omega) (by omega) q1 q2 (by simpa using q))
theorem aF1 {a b:Expr}{ta:TA}{p pos:Pos}(hg:Gl X "range") (hm:X.mg "range"=none) (ha:PA X [a,b] ta) (hs:starEach [a,b] X.env=[(false,eval a X.env),(false,eval b X.env)]:=by rfl) (hs2:starEach [b] X.env=[(false,eval b X.env)]:=by rfl) :
  PI X tg (.Call (.Name "range" p) [a,b] [] pos) (bO3 ta):=by
 intro pins s σ H R I h
 refine Call_ (iS I hg hm boot_range (gi (cI (ha pos pins s σ H _ I h) fun us s1 ⟨vs,H1,I1,r1,q1⟩=>?_) (by rw [hs,hs2]) (by rw [hs2];rfl)))
 obtain ⟨i,j,e,⟨q1,q2,q3,q4⟩,q⟩:=q1
 subst e
 cases r1 with
 |cons r rr =>
  cases rr with
  |cons r' rr =>
   cases rr
   obtain ⟨t,rfl⟩:=r
   obtain ⟨t',rfl⟩:=r'
   exact call_range_2 (vN I1 q1 q2 q3 q4 q)
def bM2 (wi:TI) (g:TG) (tb:TS):TS:=fun D σ H=>wi σ H fun J H1=>∃ W:Nat->Nat->St->Hp->Prop,(∃ m,W 0 m σ H1)/\∀ i m σ H,W i m σ H ->
 (J.stop i H/\D.nx σ H)\/(J.go i H/\∃ N:St->Hp->Prop,(∀ σ' H',N σ' H'->∃ m',m' < m/\W (i+1) m' σ' H')/\∀ x H',J.yld i H x H'->g x σ H' fun σ2 H2=>tb { D with nx:=N,ct:=N,bk:=D.nx } σ2 H2)
def gB (fp:List Addr) (h:Heap):List (Addr×Obj):=fp.filterMap fun b=>(h.get? b).map fun o=>(b,o)
theorem fV {fp:List Addr}{h:Heap}{b:Addr}{o:Obj}(hb:b∈fp) (e:h.get? b=some o):(b,o)∈gB fp h:=nu.mpr ⟨b,hb,by rw [e];rfl⟩
theorem rQ {fp:List Addr}{h:Heap}{p:Addr×Obj}(hp:p∈gB fp h):p.1∈fp/\h.get? p.1=some p.2:=by
 obtain ⟨b,hb,e⟩:=nu.mp hp
 cases q:h.get? b with
 |none=>rw [q] at e;cases e
 |some o =>
  rw [q] at e
  have e':(b,o)=p:=da e
  subst e'
  exact ⟨hb,q⟩
theorem aN.pinned {pins:List (Addr×Obj)}{σ: St}{H:Hp}{s:Shared}{fp:List Addr}(I:aN X pins σ H s) (hf:∀ b∈fp,iO X pins H b) (ho:∀ b∈fp,∃ o,s.heap.get? b=some o/\∀ v,o.data≠ .cell v):aN X (pins++gB fp s.heap) σ H s :=
 I.pins_of fun p hp=>(cf.mp hp).elim (fun z=>I.pin p (cu _ z)) fun z=>by
  obtain ⟨hb,e⟩:=rQ z
  obtain ⟨f0,f1,f2,_⟩:=hf p.1 hb
  obtain ⟨o,e',d⟩:=ho p.1 hb
  rw [e] at e';cases e'
  exact ⟨e,f0,f1,f2,d⟩
theorem aN.unpinned {pins pl:List (Addr×Obj)}{σ: St}{H:Hp}{s:Shared}(I:aN X (pins++pl) σ H s):aN X pins σ H s:=I.pins_of fun p hp=>I.pin p (cu _ (uo _ hp))
theorem aK3 {iter:Expr}{body:List Stmt}{wi:TI}{g:TG}{tb:TS}{pos:Pos}(hp:PassesOwn (model X.prog X.w) X.A X.env X.xe) (hc:X.calm=true) (hi:PI X tg iter wi) (hg:PG X tg g) (hb:vV X body tb)
  (hs:∀ x,foldedSetIterable iter X.env x=pure x:=by intro _;rfl):PS X (.For tg iter body [] pos) (bM2 wi g tb):=by
 intro pins s σ H D I h
 refine wpAny_For (cI (hi pins s σ H _ I h) fun v s1 h1=>cI h1 fun itv s2 h2=>?_) hs
 obtain ⟨it,fp,tn,J,H2,e,I2,T,st2,f2,W,⟨m0,w0⟩,turn⟩:=h2
 subst e
 have stat:∀ {H':Hp},(∀ b∈fp,H' b=none)->∀ b∈fp,iO X pins H' b:=fun hn b hb=>⟨hn b hb,(f2 b hb).2⟩
 refine codeAny_forLoop_any (fun n s'=>∃ i σ' H',aN X pins σ' H' s'/\tn i s'.heap/\(∀ b∈fp,H' b=none)/\W i n σ' H') ?_ m0 ⟨0,σ,H2,I2,st2,fun b hb=>(f2 b hb).1,w0⟩
 rintro n s3 ⟨i,σ3,H3,I3,st3,fr3,w3⟩
 rcases turn i n σ3 H3 w3 with ⟨stop,qn⟩ | ⟨go,N,hN,step⟩
 ·refine ko hp (cI (T.done X rfl rfl rfl hc i pins s3 σ3 H3 X.xe I3 (stat fr3) st3 stop) fun r s4 ⟨hr,I4⟩=>?_)
  subst hr
  exact uq ⟨σ3,H3,I4,qn⟩
 ·refine ko hp (cI (T.item X rfl rfl rfl hc i pins s3 σ3 H3 X.xe I3 (stat fr3) st3 go) fun r s4 ⟨u,hr,h4⟩=>?_)
  subst hr
  refine ko hp (cI h4 fun _ s5 ⟨x,H5,I5,r5,y5,st5,fr5⟩=>?_)
  have I5':=I5.pinned (stat fr5) (T.obj _ _ st5)
  refine ko hp (cI (hg _ s5 σ3 H5 x u _ I5' r5 (step x H5 y5)) fun _ s6 ⟨σ6,H6,I6,q6⟩=>?_)
  refine ko hp (cI (hb _ s6 σ6 H6 _ I6 q6) fun f s7 q7=>?_)
  have again:∀ {σ7:St}{H7:Hp},aN X (pins++gB fp s5.heap) σ7 H7 s7->N σ7 H7->∃ m,m < n/\∃ i σ' H',aN X pins σ' H' s7/\tn i s7.heap/\(∀ b∈fp,H' b=none)/\W i m σ' H':=fun {σ7 H7} I7 n7=>by
   obtain ⟨m',hm,w7⟩:=hN σ7 H7 n7
   refine ⟨m',hm,i+1,σ7,H7,I7.unpinned,T.keep _ _ _ st5 fun b hb o e=>(I7.pin (b,o) (cu _ (cu _ (fV hb e)))).1,fun b hb=>?_,w7⟩
   obtain ⟨o,e,d⟩:=T.obj _ _ st5 b hb
   exact (I7.pin (b,o) (cu _ (cu _ (fV hb e)))).2.1
  cases f with
  |next=>obtain ⟨σ7,H7,I7,n7⟩:=q7;exact again I7 n7
  |cont=>obtain ⟨σ7,H7,I7,n7⟩:=q7;exact again I7 n7
  |brk=>obtain ⟨σ7,H7,I7,q7⟩:=q7;exact ⟨σ7,H7,I7.unpinned,q7⟩
  |ret v=>obtain ⟨x7,σ7,H7,I7,r7,q7⟩:=q7;exact ⟨x7,σ7,H7,I7.unpinned,r7,q7⟩
end
theorem pU {K:PySem.W.Frag}{a:Addr}{xs:List V}{g:TG}{tb:TS}{D:pZ}{σ: St}{H:Hp}(Pv:Nat->St->Hp->Prop) (h0:Pv 0 σ H) (hl:∀ i σ H,i<=xs.length->Pv i σ H->bK K H a xs)
  (hs:∀ i x σ H,xs[i]?=some x->Pv i σ H->g x σ H fun σ2 H2=>tb { D with nx:=Pv (i+1),ct:=Pv (i+1),bk:=D.nx } σ2 H2) (hd:∀ σ H,Pv xs.length σ H->D.nx σ H) :
  ∃ W:Nat->Nat->St->Hp->Prop,(∃ m,W 0 m σ H)/\∀ i m σ H,W i m σ H ->
   ((Itl K a).stop i H/\D.nx σ H)\/((Itl K a).go i H/\∃ N:St->Hp->Prop,(∀ σ' H',N σ' H'->∃ m',m' < m/\W (i+1) m' σ' H')/\∀ x H',(Itl K a).yld i H x H'->g x σ H' fun σ2 H2=>tb { D with nx:=N,ct:=N,bk:=D.nx } σ2 H2):=by
 refine ⟨fun i m σ H=>m=xs.length - i/\i<=xs.length/\Pv i σ H,⟨xs.length,by simp,bz _,h0⟩,?_⟩
 rintro i m σ H ⟨rfl,hi,p⟩
 have q:=hl i σ H hi p
 by_cases hlt:i < xs.length
 ·refine .inr ⟨⟨xs,xs[i],q,by simp [hlt]⟩,Pv (i+1),fun σ' H' p'=>⟨xs.length - (i+1),iz hlt (gm i),rfl,hlt,p'⟩,fun x H' y=>?_⟩
  obtain ⟨e,y⟩:=y
  subst e
  exact hs i x σ _ (y xs q) p
 ·have e:i=xs.length:=by omega
  subst e
  exact .inl ⟨⟨xs,q,ak _⟩,hd σ H p⟩
theorem jI {K:PySem.W.Frag}{a:Addr}{xs:List V}{g:TG}{tb:TS}{D:pZ}{σ: St}{H:Hp}(Pv:Nat->St->Hp->Prop) (h0:Pv 0 σ H) (hl:∀ i σ H,i<=xs.length->Pv i σ H->aV K H a xs)
  (hs:∀ i x σ H,xs[i]?=some x->Pv i σ H->g x σ H fun σ2 H2=>tb { D with nx:=Pv (i+1),ct:=Pv (i+1),bk:=D.nx } σ2 H2) (hd:∀ σ H,Pv xs.length σ H->D.nx σ H) :
  ∃ W:Nat->Nat->St->Hp->Prop,(∃ m,W 0 m σ H)/\∀ i m σ H,W i m σ H ->
   ((Itt K a).stop i H/\D.nx σ H)\/((Itt K a).go i H/\∃ N:St->Hp->Prop,(∀ σ' H',N σ' H'->∃ m',m' < m/\W (i+1) m' σ' H')/\∀ x H',(Itt K a).yld i H x H'->g x σ H' fun σ2 H2=>tb { D with nx:=N,ct:=N,bk:=D.nx } σ2 H2):=by
 refine ⟨fun i m σ H=>m=xs.length - i/\i<=xs.length/\Pv i σ H,⟨xs.length,by simp,bz _,h0⟩,?_⟩
 rintro i m σ H ⟨rfl,hi,p⟩
 have q:=hl i σ H hi p
 by_cases hlt:i < xs.length
 ·refine .inr ⟨⟨xs,xs[i],q,by simp [hlt]⟩,Pv (i+1),fun σ' H' p'=>⟨xs.length - (i+1),iz hlt (gm i),rfl,hlt,p'⟩,fun x H' y=>?_⟩
  obtain ⟨e,y⟩:=y
  subst e
  exact hs i x σ _ (y xs q) p
 ·have e:i=xs.length:=by omega
  subst e
  exact .inl ⟨⟨xs,q,ak _⟩,hd σ H p⟩
theorem rF {lo:Int}{n:Nat}{g:TG}{tb:TS}{D:pZ}{σ: St}{H:Hp}(Pv:Nat->St->Hp->Prop) (h0:Pv 0 σ H)
  (hs:∀ i σ H,i < n->Pv i σ H->g (.int (lo+i)) σ H fun σ2 H2=>tb { D with nx:=Pv (i+1),ct:=Pv (i+1),bk:=D.nx } σ2 H2) (hd:∀ σ H,Pv n σ H->D.nx σ H) :
  ∃ W:Nat->Nat->St->Hp->Prop,(∃ m,W 0 m σ H)/\∀ i m σ H,W i m σ H ->
   ((Itr lo n).stop i H/\D.nx σ H)\/((Itr lo n).go i H/\∃ N:St->Hp->Prop,(∀ σ' H',N σ' H'->∃ m',m' < m/\W (i+1) m' σ' H')/\∀ x H',(Itr lo n).yld i H x H'->g x σ H' fun σ2 H2=>tb { D with nx:=N,ct:=N,bk:=D.nx } σ2 H2):=by
 refine ⟨fun i m σ H=>m=n - i/\i<=n/\Pv i σ H,⟨n,by simp,bz _,h0⟩,?_⟩
 rintro i m σ H ⟨rfl,hi,p⟩
 by_cases hlt:i < n
 ·refine .inr ⟨hlt,Pv (i+1),fun σ' H' p'=>⟨n - (i+1),iz hlt (gm i),rfl,hlt,p'⟩,fun x H' y=>?_⟩
  obtain ⟨e,y⟩:=y
  subst e y
  exact hs i σ _ hlt p
 ·have e:i=n:=by omega
  subst e
  exact .inl ⟨ak _,hd σ H p⟩
abbrev R2:=V->V->Hp->VK->Prop
def iV (X:Cx) (f:Value->Value->Sem Value) (r:R2):Prop :=
 ∀ (pins:List (Addr×Obj)) (s:Shared) (σ: St) (H:Hp) (x y:V) (v u:Value) (Q:VK),aN X pins σ H s->bA x v->bA y u->r x y H Q ->
  wpAny (model X.prog X.w) X.A (f v u) (EP X pins σ Q) X.xe s
def UnR (X:Cx) (f:Value->Sem Value) (r:V->Hp->VK->Prop):Prop :=
 ∀ (pins:List (Addr×Obj)) (s:Shared) (σ: St) (H:Hp) (x:V) (v:Value) (Q:VK),aN X pins σ H s->bA x v->r x H Q ->
  wpAny (model X.prog X.w) X.A (f v) (EP X pins σ Q) X.xe s
def cB (X:Cx) (f:Value) (r:List V->Hp->VK->Prop):Prop :=
 ∀ (pins:List (Addr×Obj)) (s:Shared) (σ: St) (H:Hp) (xs:List V) (us:List Value) (Q:VK),aN X pins σ H s->aZ xs us->r xs H Q ->
  wpAny (model X.prog X.w) X.A (call f us) (EP X pins σ Q) X.xe s
def tOp (r:R2) (ta tb:TE):TE:=fun σ H Q=>ta σ H fun x H1=>tb σ H1 fun y H2=>r x y H2 Q
def tUn (r:V->Hp->VK->Prop) (ta:TE):TE:=fun σ H Q=>ta σ H fun x H1=>r x H1 Q
def rI (C:Int->Int->Prop) (g:Int->Int->V):R2:=fun x y H Q=>∃ i j,x= .int i/\y= .int j/\C i j/\Q (g i j) H
def rI0 (g:Int->Int->V):R2:=fun x y H Q=>∃ i j,x= .int i/\y= .int j/\Q (g i j) H
def rU (g:Int->V):V->Hp->VK->Prop:=fun x H Q=>∃ i,x= .int i/\Q (g i) H
section
variable {X:Cx}{a b c:Expr}{ta tb tc:TE}{pos:Pos}
theorem bB3 (ha:PE X a ta) (hb:PE X b tb) {pins:List (Addr×Obj)}{s:Shared}{σ: St}{H:Hp}{R:V->V->Hp->Prop}(I:aN X pins σ H s)
  (h:ta σ H fun x H1=>tb σ H1 fun y H2=>R x y H2) {Q:Value->Shared->Prop}{f:Value->Value->Sem Value}
  (hf:∀ v u s2 x y H2,aN X pins σ H2 s2->bA x v->bA y u->R x y H2->wpAny (model X.prog X.w) X.A (f v u) Q X.xe s2) :
  wpAny (model X.prog X.w) X.A (eval a X.env) (fun v s₁=>wpAny (model X.prog X.w) X.A (eval b X.env) (fun u s₂=>wpAny (model X.prog X.w) X.A (f v u) Q X.xe s₂) X.xe s₁) X.xe s:=by
 refine cI (ha pins s σ H _ I h) fun v s1 ⟨x,H1,I1,r1,q1⟩=>?_
 refine cI (hb pins s1 σ H1 _ I1 q1) fun u s2 ⟨y,H2,I2,r2,q2⟩=>?_
 exact hf v u s2 x y H2 I2 r1 r2 q2
theorem aO {op:Operator}{r:R2}(ho:iV X (binaryOp op) r) (ha:PE X a ta) (hb:PE X b tb):PE X (.BinOp a op b pos) (tOp r ta tb):=by
 intro pins s σ H Q I h
 exact wpAny_BinOp (bB3 ha hb I h fun v u s2 x y H2 I2 rx ry q=>ho pins s2 σ H2 x y v u Q I2 rx ry q)
theorem bO5 {op:UnaryOp}{r:V->Hp->VK->Prop}(ho:UnR X (unaryOp op) r) (ha:PE X a ta):PE X (.UnaryOp op a pos) (tUn r ta):=by
 intro pins s σ H Q I h
 exact UnaryOp_ (cI (ha pins s σ H _ I h) fun v s1 ⟨x,H1,I1,r1,q1⟩=>ho pins s1 σ H1 x v Q I1 r1 q1)
theorem opI {f:Value->Value->Sem Value}{C:Int->Int->Prop}{g:Int->Int->Int}
  (rule:∀ (i j:Int) (t u:Tok) (s:Shared) (Q:Value->Shared->Prop) (E:Value->Shared->Prop),C i j->Q (.int (g i j) s.toks) { s with toks:=s.toks+1 }->wpAny (model X.prog X.w) X.A (f (.int i t) (.int j u)) Q E s) :
  iV X f (rI C fun i j=> .int (g i j)):=by
 intro pins s σ H x y v u Q I rx ry h
 obtain ⟨i,j,rfl,rfl,hc,q⟩:=h
 obtain ⟨t,rfl⟩:=rx
 obtain ⟨t',rfl⟩:=ry
 exact rule i j t t' s _ _ hc ⟨.int (g i j),H,I.tok _,⟨_,rfl⟩,q⟩
theorem bQ4 {f:Value->Value->Sem Value}{g:Int->Int->Int}
  (rule:∀ (i j:Int) (t u:Tok) (s:Shared) (Q:Value->Shared->Prop) (E:Value->Shared->Prop),Q (.int (g i j) s.toks) { s with toks:=s.toks+1 }->wpAny (model X.prog X.w) X.A (f (.int i t) (.int j u)) Q E s) :
  iV X f (rI0 fun i j=> .int (g i j)):=by
 intro pins s σ H x y v u Q I rx ry h
 obtain ⟨i,j,rfl,rfl,q⟩:=h
 obtain ⟨t,rfl⟩:=rx
 obtain ⟨t',rfl⟩:=ry
 exact rule i j t t' s _ _ ⟨.int (g i j),H,I.tok _,⟨_,rfl⟩,q⟩
theorem bF4 {f:Value->Value->Sem Value}{g:Int->Int->Bool}
  (rule:∀ (i j:Int) (t u:Tok) (s:Shared) (Q:Value->Shared->Prop) (E:Value->Shared->Prop),Q (.bool (g i j)) s->wpAny (model X.prog X.w) X.A (f (.int i t) (.int j u)) Q E s) :
  iV X f (rI0 fun i j=> .bl (g i j)):=by
 intro pins s σ H x y v u Q I rx ry h
 obtain ⟨i,j,rfl,rfl,q⟩:=h
 obtain ⟨t,rfl⟩:=rx
 obtain ⟨t',rfl⟩:=ry
 exact rule i j t t' s _ _ ⟨.bl (g i j),H,I,rfl,q⟩
def bS2 (i j:Int):Prop:=0<=j/\j<=1000000/\i.natAbs < 2 ^ 64
def bG4 (i j:Int):Prop:=(-(2 ^ 64) < i/\i < 2 ^ 64)\/(-(2 ^ 64) < j/\j < 2 ^ 64)
theorem bG4.ok {i j:Int}(h:bG4 i j):IntMulOk i j:=by
 rcases h with ⟨h1,h2⟩ | ⟨h1,h2⟩
 ·exact .of_left (intBits_le_64 h1 h2)
 ·exact .of_right (intBits_le_64 h1 h2)
theorem dZ:iV X (binaryOp .Add) (rI0 fun i j=> .int (i+j)):=bQ4 fun _ _ _ _ _ _ _ q=>add_int q
theorem mR:iV X (binaryOp .Sub) (rI0 fun i j=> .int (i - j)):=bQ4 fun _ _ _ _ _ _ _ q=>sub_int q
theorem iR:iV X (binaryOp .Mult) (rI bG4 fun i j=> .int (i * j)):=opI fun _ _ _ _ _ _ _ hc q=>mul_int q hc.ok
theorem gS:iV X (binaryOp .Mod) (rI (fun _ j=>0 < j) fun i j=> .int (i % j)):=opI fun i j _ _ _ _ _ hc q=>by
 have h1:(0:Int) < j:=hc
 exact mod_int' (by omega) (by rw [Int.fmod_eq_emod_of_nonneg i (by omega)];exact q)
theorem mC:iV X (binaryOp .Pow) (rI bS2 fun i j=> .int (i ^ j.toNat)):=opI fun _ _ _ _ _ _ _ hc q=>pow_int_small hc.1 hc.2.1 hc.2.2 q
theorem unI {f:Value->Sem Value}{g:Int->Int}
  (rule:∀ (i:Int) (t:Tok) (s:Shared) (Q:Value->Shared->Prop) (E:Value->Shared->Prop),Q (.int (g i) s.toks) { s with toks:=s.toks+1 }->wpAny (model X.prog X.w) X.A (f (.int i t)) Q E s) :
  UnR X f (rU fun i=> .int (g i)):=by
 intro pins s σ H x v Q I rx h
 obtain ⟨i,rfl,q⟩:=h
 obtain ⟨t,rfl⟩:=rx
 exact rule i t s _ _ ⟨.int (g i),H,I.tok _,⟨_,rfl⟩,q⟩
theorem bJ5:UnR X (unaryOp .USub) (rU fun i=> .int (-i)):=unI fun _ _ _ _ _ q=>neg_int q
end
def bK8:V->V->Bool
 |.non,.non=>true | .non,.int _=>true | .int _,.non=>true | .non,.bl _=>true | .bl _,.non=>true | .non,.str _=>true | .str _,.non=>true
 |.int _,.int _=>true | .bl _,.bl _=>true | .str _,.str _=>true | .byt _,.byt _=>true
 |.int _,.str _=>true | .str _,.int _=>true | .bl _,.str _=>true | .str _,.bl _=>true
 |_,_=>false
def rEq:R2:=fun x y H Q=>bK8 x y=true/\Q (.bl (decide (x=y))) H
def rNe:R2:=fun x y H Q=>bK8 x y=true/\Q (.bl (!decide (x=y))) H
theorem aC3 {i j:Int}:decide (V.int i=V.int j)=(i == j):=by
 rw [ir]
 simp
theorem aR8 {i j:Bool}:decide (V.bl i=V.bl j)=(i == j):=by
 rw [ir]
 simp
theorem aC4 {i j:Str}:decide (V.str i=V.str j)=(i == j):=by
 rw [ir]
 simp
theorem aB0 {i j:Array UInt8}:decide (V.byt i=V.byt j)=(i.toList == j.toList):=by
 rw [ir]
 cases i
 cases j
 simp
section
variable {X:Cx}{a b c:Expr}{ta tb tc:TE}{pos:Pos}
theorem bM {pins:List (Addr×Obj)}{σ: St}{H:Hp}{s:Shared}{Q:VK}{k k':Bool}(I:aN X pins σ H s) (q:Q (.bl k) H) (e:k=k'):EP X pins σ Q (.bool k') s:=by
 subst e
 exact ⟨.bl k,H,I,rfl,q⟩
theorem dW:iV X (compareOp .Eq) rEq:=by
 intro pins s σ H x y v u Q I rx ry h
 obtain ⟨hs,q⟩:=h
 cases x with
 |non =>
  cases rx
  cases y with
  |non=>cases ry;exact PySem.EqNone.eq_none_none (bM I q (by simp))
  |bl j=>cases ry;exact PySem.EqNone.eq_none_bool (bM I q (by simp))
  |int j=>obtain ⟨t',rfl⟩:=ry;exact PySem.EqNone.eq_none_int (bM I q (by simp))
  |str j=>obtain ⟨t',rfl⟩:=ry;exact PySem.EqNone.eq_none_str (bM I q (by simp))
  |_=>exact absurd (show false=true from hs) ck
 |bl i =>
  cases rx
  cases y with
  |non=>cases ry;exact PySem.EqNone.eq_bool_none (bM I q (by simp))
  |bl j=>cases ry;exact eq_bool (bM I q aR8)
  |str j=>obtain ⟨t',rfl⟩:=ry;exact PySem.EqMixed.eq_bool_str (bM I q (by simp))
  |_=>exact absurd (show false=true from hs) ck
 |int i =>
  obtain ⟨t,rfl⟩:=rx
  cases y with
  |non=>cases ry;exact PySem.EqNone.eq_int_none (bM I q (by simp))
  |int j=>obtain ⟨t',rfl⟩:=ry;exact eq_int (bM I q aC3)
  |str j=>obtain ⟨t',rfl⟩:=ry;exact PySem.EqMixed.eq_int_str (bM I q (by simp))
  |_=>exact absurd (show false=true from hs) ck
 |str i =>
  obtain ⟨t,rfl⟩:=rx
  cases y with
  |non=>cases ry;exact PySem.EqNone.eq_str_none (bM I q (by simp))
  |bl j=>cases ry;exact PySem.EqMixed.eq_str_bool (bM I q (by simp))
  |int j=>obtain ⟨t',rfl⟩:=ry;exact PySem.EqMixed.eq_str_int (bM I q (by simp))
  |str j=>obtain ⟨t',rfl⟩:=ry;exact eq_str (bM I q aC4)
  |_=>exact absurd (show false=true from hs) ck
 |byt i =>
  obtain ⟨t,rfl⟩:=rx
  cases y with
  |byt j=>obtain ⟨t',rfl⟩:=ry;exact PySem.W.eq_bytes (bM I q aB0)
  |_=>exact absurd (show false=true from hs) ck
 |_=>cases y <;> exact absurd (show false=true from hs) ck
theorem aO2:iV X (compareOp .NotEq) rNe:=by
 intro pins s σ H x y v u Q I rx ry h
 obtain ⟨hs,q⟩:=h
 cases x with
 |non =>
  cases rx
  cases y with
  |non=>cases ry;exact PySem.EqNone.ne_none_none (bM I q (by simp))
  |bl j=>cases ry;exact PySem.EqNone.ne_none_bool (bM I q (by simp))
  |int j=>obtain ⟨t',rfl⟩:=ry;exact PySem.EqNone.ne_none_int (bM I q (by simp))
  |str j=>obtain ⟨t',rfl⟩:=ry;exact PySem.EqNone.ne_none_str (bM I q (by simp))
  |_=>exact absurd (show false=true from hs) ck
 |bl i =>
  cases rx
  cases y with
  |non=>cases ry;exact PySem.EqNone.ne_bool_none (bM I q (by simp))
  |bl j=>cases ry;exact ne_bool (bM I q (cg not aR8))
  |str j=>obtain ⟨t',rfl⟩:=ry;exact PySem.EqMixed.ne_bool_str (bM I q (by simp))
  |_=>exact absurd (show false=true from hs) ck
 |int i =>
  obtain ⟨t,rfl⟩:=rx
  cases y with
  |non=>cases ry;exact PySem.EqNone.ne_int_none (bM I q (by simp))
  |int j=>obtain ⟨t',rfl⟩:=ry;exact ne_int (bM I q (cg not aC3))
  |str j=>obtain ⟨t',rfl⟩:=ry;exact PySem.EqMixed.ne_int_str (bM I q (by simp))
  |_=>exact absurd (show false=true from hs) ck
 |str i =>
  obtain ⟨t,rfl⟩:=rx
  cases y with
  |non=>cases ry;exact PySem.EqNone.ne_str_none (bM I q (by simp))
  |bl j=>cases ry;exact PySem.EqMixed.ne_str_bool (bM I q (by simp))
  |int j=>obtain ⟨t',rfl⟩:=ry;exact PySem.EqMixed.ne_str_int (bM I q (by simp))
  |str j=>obtain ⟨t',rfl⟩:=ry;exact ne_str (bM I q (cg not aC4))
  |_=>exact absurd (show false=true from hs) ck
 |byt i =>
  obtain ⟨t,rfl⟩:=rx
  cases y with
  |byt j=>obtain ⟨t',rfl⟩:=ry;exact PySem.W.ne_bytes (bM I q (cg not aB0))
  |_=>exact absurd (show false=true from hs) ck
 |_=>cases y <;> exact absurd (show false=true from hs) ck
theorem nA:iV X (compareOp .Lt) (rI0 fun i j=> .bl (decide (i < j))):=bF4 fun _ _ _ _ _ _ _ q=>lt_int q
theorem iM:iV X (compareOp .Gt) (rI0 fun i j=> .bl (decide (j < i))):=bF4 fun _ _ _ _ _ _ _ q=>gt_int q
theorem bL5:iV X (compareOp .GtE) (rI0 fun i j=> .bl (decide (j<=i))):=bF4 fun _ _ _ _ _ _ _ q=>ge_int q
theorem mG (b:Expr) {op:CmpOp}(h:op≠ .In:=by decide) (h2:op≠ .NotIn:=by decide):behindInMarks op b=false:=by
 have e1:(op == CmpOp.In)=false:=by cases op <;> first | rfl | exact absurd rfl h
 have e2:(op == CmpOp.NotIn)=false:=by cases op <;> first | rfl | exact absurd rfl h2
 cases b <;> simp [behindInMarks,e1,e2]
theorem aY5 {op:CmpOp}{r:R2}(ho:iV X (compareOp op) r) (ha:PE X a ta) (hb:PE X b tb) (hm:behindInMarks op b=false):PE X (.Compare a [op] [b] pos) (tOp r ta tb):=by
 intro pins s σ H Q I h
 exact wpAny_Compare1 (bB3 ha hb I h fun v u s2 x y H2 I2 rx ry q=>ho pins s2 σ H2 x y v u Q I2 rx ry q) hm
def bA8 (t:TE):TT:=fun σ H Q=>t σ H fun x H'=>∃ k,x= .bl k/\Q k H'
theorem kX {op:CmpOp}{r:R2}(ho:iV X (compareOp op) r) (ha:PE X a ta) (hb:PE X b tb) (hm:behindInMarks op b=false):PT X (.Compare a [op] [b] pos) (bA8 (tOp r ta tb)):=by
 intro pins s σ H Q I h
 refine zj (cI (ha pins s σ H _ I h) fun v s1 ⟨x,H1,I1,r1,q1⟩=>cI (hb pins s1 σ H1 _ I1 q1) fun u s2 ⟨y,H2,I2,r2,q2⟩ =>
  cI (ho pins s2 σ H2 x y v u _ I2 r1 r2 q2) fun c s3 ⟨z,H3,I3,r3,k,e,q3⟩=>?_) hm
 subst e
 cases r3
 exact ib ⟨H3,I3,q3⟩
theorem tD:(sizeLine:Nat) < 2 ^ 63:=by rw [qf];decide
theorem eW {x:V}{us:List Value}(r:aZ [x] us):∃ u,us=[u]/\bA x u:=by
 cases r with
 |cons r1 r2=>cases r2;exact ⟨_,rfl,r1⟩
theorem mY {x y:V}{us:List Value}(r:aZ [x,y] us):∃ u w',us=[u,w']/\bA x u/\bA y w':=by
 cases r with
 |cons r1 r2 =>
  cases r2 with
  |cons r3 r4=>cases r4;exact ⟨_,_,rfl,r1,r3⟩
theorem aC6 (hc:X.calm=true):cB X (.builtin "max") (fun xs H Q=>∃ i j,xs=[.int i,.int j]/\Q (.int (if j > i then j else i)) H):=by
 intro pins s σ H xs us Q I r h
 obtain ⟨i,j,rfl,q⟩:=h
 obtain ⟨u,w',rfl,⟨t,rfl⟩,⟨t',rfl⟩⟩:=mY r
 refine max_two_ints (I.ok.hd hc) fun h' tk k=>⟨_,H,I.kept k,?_,q⟩
 by_cases hj:j > i
 ·rw [bb hj,bb hj];exact ⟨_,rfl⟩
 ·rw [ao hj,ao hj];exact ⟨_,rfl⟩
theorem jF:cB X (.type "int") (fun xs H Q=>(∃ i,xs=[.int i]/\Q (.int i) H)\/∃ k,xs=[.bl k]/\Q (.int (if k then 1 else 0)) H):=by
 intro pins s σ H xs us Q I r h
 rcases h with ⟨i,rfl,q⟩ | ⟨k,rfl,q⟩
 ·obtain ⟨u,rfl,t,rfl⟩:=eW r
  exact call_int_int ⟨.int i,H,I,⟨_,rfl⟩,q⟩
 ·obtain ⟨u,rfl,r1⟩:=eW r
  cases r1
  exact call_int_bool ⟨.int (if k then 1 else 0),H,I.tok _,⟨_,rfl⟩,q⟩
end
structure bE7 (h:Heap) (x dx C:Addr) (mA:Str->Option Value):Prop where
 obj:h.get? x=some (PySem.W.instObj C dx)
 ns:h.Ns1 dx mA
 ne:dx≠x
theorem aF2 {h:Heap}{dx:Addr}{mA:Str->Option Value}(n:h.Ns1 dx mA):∃ od,h.get? dx=some od/\∀ name,PySem.W.lookIn name od=some (mA name):=by
 obtain ⟨o,es,ep,ho,hd,hk,_,hm⟩:=n
 refine ⟨o,ho,fun name=>?_⟩
 have e:=hm name
 unfold nsFind findBy at e
 rw [<- Array.find?_toList] at e
 unfold PySem.W.lookIn
 rw [hd]
 dsimp only
 split
 ·rename_i y q
  rw [q] at e
  exact cg some e
 ·rename_i q
  rw [q] at e
  have a:es.toList.any (·.refKey)=false:=by
   rw [List.any_eq_false]
   intro y hy
   obtain ⟨z,t,hkey⟩:=hk y (ur.mp hy)
   simp [DictEntry.refKey,hkey]
  have a':¬ es.toList.any (·.refKey)=true:=by rw [a];exact ck
  rw [ao a']
  exact cg some e
theorem bE7.look {h:Heap}{x dx C:Addr}{mA:Str->Option Value}(I:bE7 h x dx C mA):∃ od,PySem.W.InstAt h x (PySem.W.instObj C dx) C (some od)/\∀ name,PySem.W.lookIn name od=some (mA name) :=
 let ⟨od,ho,hl⟩:=aF2 I.ns
 ⟨od,⟨I.obj,rfl,rfl,ho⟩,hl⟩
section
variable {prog:Program}{w:World}{A:Around}{E:Value->Shared->Prop}{s:Shared}{K:PySem.W.Frag}{x dx C f:Addr}{mA:Str->Option Value}{name:Str}{v:Value}
end
theorem lS.some_of {v:V}{o:Option Value}(r:lS (some v) o):∃ u,o=some u/\bA v u:=by
 cases o with
 |none=>exact (show False from r).elim
 |some u=>exact ⟨u,rfl,r⟩
section
variable {P:Program}{w:World}{H H':Hp}{h h':Heap}{a C dx:Addr}{fs fs':List (Str×V)}
theorem aT1 (hok:iQ P w H h) (e:H a=some (.ins C dx fs)):∃ mA,bE7 h a dx C mA/\(∀ f,lS (fs.lookup f) (mA f))/\PySem.Within mA (fs.map (·.1))/\fs.length<=1000/\H dx=some (.own a):=by
 obtain ⟨d,z,ne,ob,mA,n,r,q⟩:=(show bD P w H h a (.ins C dx fs) from hok a _ e)
 exact ⟨mA,⟨ob,n,ne⟩,r,q,z,d⟩
end
structure Cls (K:PySem.W.Frag) (C:Addr):Prop where
 pg:PySem.W.plainGet K C Str.empty=true
 hd:PySem.W.hasDictIn K C=true
 po:PySem.W.plainOver K C=true
 sa:PySem.W.findIn K (.ref C) "__setattr__"=some (some (.builtin "object.__setattr__"))
theorem Cls.get {K:PySem.W.Frag}{C:Addr}(c:Cls K C) (f:Str):PySem.W.plainGet K C f=true:=c.pg
section
variable {X:Cx}{pins:List (Addr×Obj)}{σ: St}{H:Hp}{s:Shared}{a C dx:Addr}{fs:List (Str×V)}{f:Str}{v:V}{A:Around}{E:Value->Shared->Prop}
end
section
variable {X:Cx}{o e value:Expr}{f:Str}{pos pos' tpos:Pos}{ta tv:TE}
end
section
variable {X:Cx}{pins:List (Addr×Obj)}{σ: St}{H:Hp}{s:Shared}{A:Around}{E:Value->Shared->Prop}{Q:Value->Shared->Prop}{c:Value}{b:Bool}
inductive mI (K:PySem.W.Frag) (H:Hp):V->Value->Prop where
 |non:mI K H .non (.type "NoneType")
 |bl (x:Bool):mI K H (.bl x) (.type "bool")
 |int (i:Int):mI K H (.int i) (.type "int")
 |str (x:Str):mI K H (.str x) (.type "str")
 |flt (x:UInt64):mI K H (.flt x) (.type "float")
 |lst {a:Addr}{xs:List V}(e:H a=some (.lst xs)):mI K H (.ref a) (.type "list")
 |frz {a:Addr}{o:Obj}{xs:List V}(e:H a=some (.frz o (.lst xs))):mI K H (.ref a) (.type "list")
 |tup {a:Addr}{xs:List V}(e:H a=some (.tup xs)):mI K H (.ref a) (.type "tuple")
 |dK {a:Addr}{kvs:List (Key×V)}(e:H a=some (.dK kvs)):mI K H (.ref a) (.type "dict")
 |dT {a:Addr}{kvs:List (List Key×V)}(e:H a=some (.dT kvs)):mI K H (.ref a) (.type "dict")
 |ins {a C dx:Addr}{fs:List (Str×V)}(e:H a=some (.ins C dx fs)) (cl:Cls K C) (ha:PySem.W.findIn K (.ref C) "__class__"=some (some (.builtin "object.__class__")))
   (hn:PySem.W.specialIn K (.builtin "object.__class__") "__get__"=some (some (.builtin "getset_descriptor.__get__"))) (htk:PySem.W.takesIn K (.builtin "object.__class__")=some true)
   (hm:PySem.W.mroIn K C (.type "object")=some true):mI K H (.ref a) (.ref C)
theorem aE1 {x:V}{u t:Value}(I:aN X pins σ H s) (rx:bA x u) (ty:mI X.K H x t) (e:PySem.W.kitOne X.K t c=some b) (h:∀ tk,Q (.bool b) { s with toks:=tk }) :
  wpAny (model X.prog X.w) A (call (.builtin "isinstance") [u,c]) Q E s:=by
 cases ty with
 |non=>cases (show u=Value.none from rx);exact gh PySem.W.kitx_none I.kIn gr e (fun z=>nomatch z) h
 |bl y=>cases (show u=Value.bool y from rx);exact gh PySem.W.kitx_bool I.kIn gr e (fun z=>nomatch z) h
 |int i=>obtain ⟨t,q⟩:=(show ∃ t,u=Value.int i t from rx);cases q;exact gh PySem.W.kitx_int I.kIn gr e (fun z=>nomatch z) h
 |str y=>obtain ⟨t,q⟩:=(show ∃ t,u=Value.str y t from rx);cases q;exact gh PySem.W.kitx_str I.kIn gr e (fun z=>nomatch z) h
 |flt y=>obtain ⟨t,q⟩:=(show ∃ t,u=Value.float y t from rx);cases q;exact gh PySem.W.kitx_float I.kIn gr e (fun z=>nomatch z) h
 |@lst a xs ea =>
  cases (show u=Value.ref a from rx)
  obtain ⟨_,_,n,_,h1⟩:=(show bD X.prog X.w H s.heap a (.lst xs) from I.hok a _ ea)
  exact gh PySem.W.kitx_list I.kIn ⟨_,h1,rfl⟩ e (fun z=>nomatch z) h
 |@frz a ob xs ea =>
  cases (show u=Value.ref a from rx)
  obtain ⟨_,_,_,n,_,h1⟩:=(show bD X.prog X.w H s.heap a (.frz ob (.lst xs)) from I.hok a _ ea)
  exact gh PySem.W.kitx_list I.kIn ⟨_,h1,rfl⟩ e (fun z=>nomatch z) h
 |@tup a xs ea =>
  cases (show u=Value.ref a from rx)
  obtain ⟨_,_,_,p⟩:=(show bD X.prog X.w H s.heap a (.tup xs) from I.hok a _ ea)
  obtain ⟨o,h1,h2,_⟩:=p
  exact gh PySem.W.kitx_tuple I.kIn ⟨o,h1,h2⟩ e (fun z=>nomatch z) h
 |@dK a kvs ea =>
  cases (show u=Value.ref a from rx)
  obtain ⟨_,_,vs,_,p⟩:=(show bD X.prog X.w H s.heap a (.dK kvs) from I.hok a _ ea)
  obtain ⟨o,es,ep,h1,h2,_⟩:=p
  exact gh PySem.W.kitx_dict I.kIn ⟨o,h1,h2.1⟩ e (fun z=>nomatch z) h
 |@dT a kvs ea =>
  cases (show u=Value.ref a from rx)
  obtain ⟨_,_,xs,_,o,es,ep,h1,h2,_⟩:=(show bD X.prog X.w H s.heap a (.dT kvs) from I.hok a _ ea)
  exact gh PySem.W.kitx_dict I.kIn ⟨o,h1,h2.1⟩ e (fun z=>nomatch z) h
 |@ins a C dx fs ea cl ha hn htk hm =>
  cases (show u=Value.ref a from rx)
  obtain ⟨mA,O,_⟩:=aT1 I.hok ea
  obtain ⟨od,J,_⟩:=O.look
  exact gh (PySem.W.kitx_own (cl.get _) cl.hd ha hn htk hm) I.kIn J e (fun z=>nomatch z) h
end
structure bW (k:Nat) (A:Around):Prop where
 hd:A.handled=none
 dp:A.depth+3 * k+5 < recursionLimit
 un:A.units+16 * k+200 < cLine
 gd:A.guards=some []
theorem bW.mono {j k:Nat}{A:Around}(r:bW k A) (h:j<=k):bW j A:=⟨r.hd,by have:=r.dp;omega,by have:=r.un;omega,r.gd⟩
theorem bW.deeper {k:Nat}{A:Around}(r:bW (k+1) A) (env:Env):bW k (A.deeper env) :=
 ⟨r.hd,by have:=r.dp;show A.depth+1+3 * k+5 < _;omega,by have:=r.un;show A.units+3+16 * k+200 < _;omega,r.gd⟩
theorem bW.depth {k:Nat}{A:Around}(r:bW k A):A.depth < recursionLimit:=by have:=r.dp;omega
theorem bW.units {k:Nat}{A:Around}(r:bW k A):A.units+64 < cLine:=by have:=r.un;omega
def tNil:TA:=fun _ H Q=>Q [] H
def bB2 (ta:TE) (tr:TA):TA:=fun σ H Q=>ta σ H fun x H1=>tr σ H1 fun xs H2=>Q (x :: xs) H2
section
variable {X:Cx}{e:Expr}{es:List Expr}{te:TE}{t:TA}{pos:Pos}
theorem fZ:PA X [] tNil:=fun _ _ _ _ H Q I h=>oy ⟨[],H,I,.nil,h⟩
theorem aA (ha:PE X e te) (hr:PA X es t) (hs:starEach (e :: es) X.env=(false,eval e X.env) :: starEach es X.env:=by rfl):PA X (e :: es) (bB2 te t):=by
 intro pos pins s σ H Q I h
 rw [hs]
 show wpAny _ _ (spliced ((false,eval e X.env) :: backTo pos (starEach es X.env))) _ _ s
 refine kd (cI (ha pins s σ H _ I h) fun u s1 ⟨x,H1,I1,r1,q1⟩=>?_)
 exact cI (hr pos pins s1 σ H1 _ I1 q1) fun us s2 ⟨xs,H2,I2,r2,q2⟩=>⟨x :: xs,H2,I2,.cons r1 r2,q2⟩
def bS3 (t:TA):TE:=fun σ H Q=>t σ H fun xs H1=>xs.length<=sizeLine/\∀ p,H1 p=none->Q (.ref p) (aJ H1 p (.tup xs))
def bT9 (t:TA):TE:=fun σ H Q=>t σ H fun xs H1=>xs.length<=sizeLine/\∀ p,H1 p=none->Q (.ref p) (aJ H1 p (.lst xs))
theorem aX {x1} (h:PA X es t):PE X (.Tuple es x1 pos) (bS3 t):=by
 intro pins s σ H Q I hq
 refine wpAny_Tuple_spliced (cI (h pos pins s σ H _ I hq) fun us s1 ⟨xs,H1,I1,r,z,q⟩=>⟨by rw [<- r.length];exact z,?_⟩)
 have hf:H1 s1.heap.objs.size=none:=I1.hok.fresh (ak _)
 refine ⟨.ref s1.heap.objs.size,aJ H1 s1.heap.objs.size (.tup xs),I1.laid (t':=s1.toks) (fun b u e=>ag _ e) (ak _) ?_,rfl,q _ hf⟩
 exact ⟨z,us,r,⟨_,aq _ rfl,rfl,_,rfl,rfl⟩⟩
theorem dM (h:PA X es t):PE X (.List es pos) (bT9 t):=by
 intro pins s σ H Q I hq
 refine wpAny_List_spliced (cI (h pos pins s σ H _ I hq) fun us s1 ⟨xs,H1,I1,r,z,q⟩=>⟨by rw [<- r.length];exact z,?_⟩)
 have hf:H1 s1.heap.objs.size=none:=I1.hok.fresh (ak _)
 refine ⟨.ref s1.heap.objs.size,aJ H1 s1.heap.objs.size (.lst xs),I1.laid (t':=s1.toks) (fun b u e=>ag _ e) (ak _) ?_,rfl,q _ hf⟩
 exact ⟨z,us,0,r,aq _ rfl⟩
end
abbrev Sp:=List V->Hp->VK->XK->Prop
abbrev CXT:=List Env->Hp->Shared->XK->Value->Shared->Prop
structure aY3 (P:Program) (w:World) (K:PySem.W.Frag) (mg:Str->Option Value) (base:Heap) (A:Around) (outer:List Env) (s:Shared) (H:Hp):Prop where
 frames:A.frames=some outer
 mod:Mod K mg base
 bs:∀ b o,base.get? b=some o->s.heap.get? b=some o/\H b=none
 bsz:base.objs.size<=s.heap.objs.size
 funs:s.heap.FunFrames base outer
 frf:∀ b∈zW outer,H b=none
 hok:iQ P w H s.heap
 bare:AllBare s.gens
def CE (outer:List Env) (P:Program) (w:World) (H:Hp) (s:Shared) (Q:VK) (u:Value) (s':Shared):Prop :=
 ∃ v H',s'.os=s.os/\AllBare s'.gens/\Un (zW outer) [] H H' s.heap s'.heap/\iQ P w H' s'.heap/\bA v u/\Q v H'
def CR (CX:CXT) (outer:List Env) (P:Program) (w:World) (H:Hp) (s:Shared) (Q:VK) (E:XK) (r:Result) (s':Shared):Prop :=
 match r with
 |.ok (.ret u)=>CE outer P w H s Q u s'
 |.ok _=>False
 |.error e=>CX outer H s E e s'
structure nF (P:Program) (w:World) (K:PySem.W.Frag) (mg:Str->Option Value) (base:Heap) (CX:CXT) (k:Nat) (f:Addr) (fd:FuncData) (ps:List Str) (sp:Sp):Prop where
 len:∀ vs H Q E,sp vs H Q E->vs.length=ps.length
 run:∀ (A:Around) (outer:List Env) (s:Shared) (H:Hp) (args:Args) (us:List Value) (vs:List V) (Q:VK) (E:XK),bW k A->aY3 P w K mg base A outer s H->BindsTo s fd args (ps.zip us)->aZ vs us->sp vs H Q E ->
  codeAny (model P w) A (.call (.ref f) args) (CR CX outer P w H s Q E) s
section
variable {X:Cx}{pins:List (Addr×Obj)}{σ: St}{H:Hp}{s s':Shared}
theorem aN.env0 (I:aN X pins σ H s):aY3 X.prog X.w X.K X.mg X.base X.A X.stack s H :=
 ⟨I.ok.frames,I.ok.mod,I.bs,cj I.ok.bsz I.sz,I.stack,I.stkFree,I.hok,I.bare⟩
theorem aN.after {Q:VK}{u:Value}(I:aN X pins σ H s) (h:CE X.stack X.prog X.w H s Q u s'):EP X pins σ Q u s':=by
 obtain ⟨v,H',os,bare,un,hok,r,q⟩:=h
 obtain ⟨hh,g,d,t,os'⟩:=s'
 obtain rfl:os'=s.os:=os
 exact ⟨v,H',I.call (h':=hh) (g':=g) (d':=d) (t':=t) (ch:=[]) un hok bare (fun b z=>absurd z (by simp)),r,q⟩
end
def aZ7 (sp:Sp) (dvs:List V) (E:XK) (t:TA):TE:=fun σ H Q=>t σ H fun vs H1=>sp (vs++dvs) H1 Q E
def gX (K:PySem.W.Frag) (fd:FuncData) (ps:List Str) (ds:List Value):Prop :=
 ∀ (s:Shared) (us:List Value),K.In s.heap->(us++ds).length=ps.length->BindsTo s fd ⟨us,[]⟩ (ps.zip (us++ds))
theorem gX.all {K:PySem.W.Frag}{fd:FuncData}{ps:List Str}(h:∀ us:List Value,us.length=ps.length->bindArgs fd ⟨us,[]⟩=pure (ps.zip us)):gX K fd ps []:=fun s us _ hl=>by
 rw [nv] at hl ⊢
 exact .of_eq (h us hl)
def xP (CX:CXT) (X:Cx) (E:XK):Prop:=∀ (pins:List (Addr×Obj)) (σ: St) (H:Hp) (s:Shared) (e:Value) (s':Shared),aN X pins σ H s->CX X.stack H s E e s'->X.xe e s'
section
variable {X:Cx}{CX:CXT}{k:Nat}{f C:Addr}{fd:FuncData}{ps:List Str}{sp:Sp}{dvs:List V}{ds:List Value}{E:XK}{x m:Str}{p pos apos:Pos}{e o:Expr}{es:List Expr}{ta:TE}{t:TA}
theorem bJ6 {pins:List (Addr×Obj)}{σ: St}{H:Hp}{s:Shared}{Q:VK}{us:List Value}{vs:List V}(F:nF X.prog X.w X.K X.mg X.base CX k f fd ps sp) (hr:bW k X.A) (hb:gX X.K fd ps ds) (hd:aZ dvs ds) (hx:xP CX X E)
  (I:aN X pins σ H s) (r:aZ vs us) (h:sp (vs++dvs) H Q E):wpAny (model X.prog X.w) X.A (call (.ref f) us) (EP X pins σ Q) X.xe s:=by
 have r2:aZ (vs++dvs) (us++ds):=r.append hd
 have hl:(us++ds).length=ps.length:=by rw [<- r2.length];exact F.len _ _ _ _ h
 refine wpAny_call (aAr (F.run X.A X.stack s H ⟨us,[]⟩ (us++ds) (vs++dvs) Q E hr I.env0 (hb s us I.kIn hl) r2 h) fun r s' hq=>?_)
 cases r with
 |error e=>exact hx pins σ H s e s' I hq
 |ok fl =>
  cases fl with
  |ret u=>exact I.after hq
  |next=>exact False.elim hq
  |brk=>exact False.elim hq
  |cont=>exact False.elim hq
theorem aV9 (F:nF X.prog X.w X.K X.mg X.base CX k f fd ps sp) (hr:bW k X.A) (hg:Gl X x) (hm:X.mg x=some (.ref f)) (hk:PySem.W.keepIn X.K (.ref f)=true) (hb:gX X.K fd ps ds) (hd:aZ dvs ds) (hx:xP CX X E)
  (ha:PA X (e :: es) t) (hdb:(x == ("__debug__": Str))=false:=by decide) (he:starEach (e :: es) X.env=(false,eval e X.env) :: starEach es X.env:=by rfl) (hpl:(backTo pos (starEach es X.env)).any (·.1)=false:=by rfl) :
  PE X (.Call (.Name x p) (e :: es) [] pos) (aZ7 sp dvs E t):=by
 intro pins s σ H Q I h
 refine ke (aU0 I hg hm ?_ hdb)
 refine PySem.W.callWith_K (h₀:=X.base) I.ok.mod.kin hk (cI (ha pos pins s σ H _ I h) fun us s1 ⟨vs,H1,I1,r,q⟩=>⟨I1.kIn,?_⟩) he hpl
 exact bJ6 F hr hb hd hx I1 r q
end
section
variable {X:Cx}{CX:CXT}{k:Nat}{f C:Addr}{fd:FuncData}{ps ks:List Str}{sp:Sp}{E:XK}{x m:Str}{p pos apos kpos:Pos}{e o:Expr}{es:List Expr}{kws:List Keyword}{te ta:TE}{t tk:TA}{nm:Option Str}
variable {g:List Value->List Value->List Value}{gV:List V->List V->List V}
end
structure jB (N P:List Str) (sc:Scope):Prop where
 kind:sc.kind= .function
 co:sc.isCoroutine=false
 gen:sc.isGenerator=false
 nd:N.Nodup
 pre:N.take P.length=P
 par:∀ x∈P,sc.names.lookup x=some .local\/sc.names.lookup x=some .cell
 nofree:∀ y∈sc.names,y.2≠ .free
theorem rR {kindOf:Str->Option NameKind}{x:Str}:∀ {binds:List (Str×Value)}{m:Str->Option Value},(∀ v,(x,v)∉binds)->bindL kindOf binds m x=m x
 |[],_,_=>rfl
 |(n,v) :: r,m,h=>by
  unfold bindL
  rw [rR fun w hw=>h w (ba _ hw)]
  split
  ·have:x≠n:=by rintro rfl;exact h v au
   simp [this]
  ·rfl
theorem rS {kindOf:Str->Option NameKind}{x:Str}:∀ {binds:List (Str×Value)}{m:Str->Option Value},(∀ v,(x,v)∉binds)->bindC kindOf binds m x=m x
 |[],_,_=>rfl
 |(n,v) :: r,m,h=>by
  unfold bindC
  rw [rS fun w hw=>h w (ba _ hw)]
  split
  ·rfl
  ·have:x≠n:=by rintro rfl;exact h v au
   simp [this]
theorem sO {kindOf:Str->Option NameKind}{x:Str}{v:Value}:∀ {P:List Str}{vs:List Value}{i:Nat}{m:Str->Option Value},P.Nodup->P[i]?=some x->vs[i]?=some v->kindOf x=some .local ->
  bindL kindOf (P.zip vs) m x=some v
 |[],_,_,_,_,h,_,_=>by simp at h
 |_ :: _,[],_,_,_,_,h,_=>by simp at h
 |p :: P,w :: vs,0,m,nd,h1,h2,hk=>by
  simp at h1 h2;subst h1;subst h2
  show bindL kindOf ((p,w) :: P.zip vs) m p=_
  unfold bindL
  rw [rR fun v hv=>(ig.mp nd).1 (qk hv).1,bb hk]
  simp
 |p :: P,w :: vs,i+1,m,nd,h1,h2,hk=>by
  show bindL kindOf ((p,w) :: P.zip vs) m x=_
  unfold bindL
  exact sO (i:=i) (ig.mp nd).2 (by simpa using h1) (by simpa using h2) hk
theorem qV {kindOf:Str->Option NameKind}{x:Str}{v:Value}:∀ {P:List Str}{vs:List Value}{i:Nat}{m:Str->Option Value},P.Nodup->P[i]?=some x->vs[i]?=some v->kindOf x≠some .local ->
  bindC kindOf (P.zip vs) m x=some v
 |[],_,_,_,_,h,_,_=>by simp at h
 |_ :: _,[],_,_,_,_,h,_=>by simp at h
 |p :: P,w :: vs,0,m,nd,h1,h2,hk=>by
  simp at h1 h2;subst h1;subst h2
  show bindC kindOf ((p,w) :: P.zip vs) m p=_
  unfold bindC
  rw [rS fun v hv=>(ig.mp nd).1 (qk hv).1,ao hk]
  simp
 |p :: P,w :: vs,i+1,m,nd,h1,h2,hk=>by
  show bindC kindOf ((p,w) :: P.zip vs) m x=_
  unfold bindC
  exact qV (i:=i) (ig.mp nd).2 (by simpa using h1) (by simpa using h2) hk
def lZ (N:List Str) (vs:List V):St:=vs.map some++List.replicate (N.length - vs.length) none
def zE (CX:CXT) (P:Program) (w:World) (K:PySem.W.Frag) (mg:Str->Option Value) (base:Heap) (N:List Str) (qual:Str) (scope:Scope) (f:Addr) (cd:Value) (A:Around) (outer:List Env) (s:Shared) (H:Hp) (E:XK):Cx where
 prog:=P
 w:=w
 K:=K
 mg:=mg
 base:=base
 A:=A.deeper (envOfC qual scope s.heap.objs.size f cd)
 N:=N
 s₀:=s
 H₀:=H
 env:=envOfC qual scope s.heap.objs.size f cd
 outer:=outer
 stack:=envOfC qual scope s.heap.objs.size f cd :: outer
 ex:=[]
 calm:=true
 fn:=fun _=>true
 pn:=[]
 xe:=fun e s'=>wpAny (model P w) (A.deeper (envOfC qual scope s.heap.objs.size f cd)) (leaving (envOfC qual scope s.heap.objs.size f cd) e) (fun _ s''=>CX outer H s E e s'') (fun e' s''=>CX outer H s E e' s'') s'
theorem wE {sc:Scope}{n:Nat}{x:Str}(h:sc.names.lookup x=some .cell):∃ c,(cellsFrom n sc.names []).lookup x=some c:=by
 have q:=yu sc.names n [] (.inl h)
 exact xo.mp q
theorem aF0 {CX:CXT}{P:Program}{w:World}{K:PySem.W.Frag}{mg:Str->Option Value}{base:Heap}{N ps:List Str}{qual:Str}{scope:Scope}{f:Addr}{cd:Value}{A:Around}{outer:List Env}{s s1:Shared}{H:Hp}{E:XK}{us:List Value}{vs:List V}
  (S:jB N ps scope) (hd:A.handled=none) (e0:aY3 P w K mg base A outer s H) (hl:vs.length=ps.length) (r:aZ vs us)
  (x:InCallC s s.heap.objs.size (bindL (envOfC qual scope s.heap.objs.size f cd).kindOf (ps.zip us) fun _=>none) (cellsFrom (s.heap.objs.size+1) scope.names []) (bindC (envOfC qual scope s.heap.objs.size f cd).kindOf (ps.zip us) fun _=>none) s1) :
  aN (zE CX P w K mg base N qual scope f cd A outer s H E) [] (lZ N vs) H s1:=by
 have hpl:ps.length<=N.length:=by have:=cg List.length S.pre;rw [cq] at this;omega
 obtain ⟨h1,tk,rfl,hk⟩:=x.done
 have noA:∀ b:Addr,b∉(zE CX P w K mg base N qual scope f cd A outer s H E).ex:=fun b z=>absurd (show b∈([]:List Addr) from z) (by simp)
 refine ⟨⟨e0.mod,S.kind,rfl,rfl,ak _,fun y z c h1 h2=>?_,fun y hy=>?_,fun y c _ h=>?_,fun _=>hd,Around.frames_deeper e0.frames,.inr ⟨rfl,rfl⟩,fun b z=>absurd z (noA b),e0.bs,e0.bsz,fun b _ _=>noA b,fun b z=>absurd z (noA b),e0.funs,e0.frf⟩,
  rfl,e0.bare,Un.kept hk,⟨_,x.toInCall.ns,fun i y v h1 h2 h3=>?_⟩,fun y c h=>⟨_,x.cell y c h⟩,e0.hok.fresh (ak _),fun y c h=>?_,fun p hp=>absurd (show p∈([]:List (Addr×Obj)) from hp) (by simp),e0.hok.kept hk,?_⟩
 ·exact name_of_addr x.apart (jq h1) (jq h2)
 ·have hy:scope.names.lookup y=some .cell\/scope.names.lookup y=some .free:=hy
  rcases hy with hy | hy
  ·exact wE hy
  ·exact absurd rfl (S.nofree _ (jq hy))
 ·exact my (x.above y c (jq h))
 ·have hi:i < vs.length:=by
   unfold lZ at h2
   by_cases hi:i < vs.length
   ·exact hi
   ·rw [List.getElem?_append_right (by simpa using hi)] at h2
    rw [List.getElem?_replicate] at h2
    split at h2 <;> cases h2
  have ha:vs[i]?=some v:=by
   unfold lZ at h2
   rw [List.getElem?_append_left (by simpa using hi),bf] at h2
   cases e:vs[i]? with
   |none=>rw [e] at h2;cases h2
   |some a=>rw [e] at h2;cases h2;rfl
  obtain ⟨u,hu,rv⟩:=r.get ha
  have hp:ps[i]?=some y:=by
   rw [<- S.pre,List.getElem?_take_of_lt (by omega)];exact h1
  have ndP:ps.Nodup:=by rw [<- S.pre];exact S.nd.sublist (List.take_sublist _ _)
  refine ⟨u,rv,?_⟩
  rcases S.par y (bo hp) with k | k
  ·exact .inl ⟨k,sO ndP hp hu k⟩
  ·obtain ⟨c,e⟩:=wE (n:=s.heap.objs.size+1) k
   refine .inr ⟨.inl k,c,e,?_⟩
   have q:=x.cell y c e
   rw [qV ndP hp hu (by show scope.names.lookup y≠_;rw [k];decide)] at q
   exact q
 ·exact e0.hok.fresh (my (x.above y c (jq h)))
 ·unfold lZ
  show _=N.length
  rw [cb,af,List.length_replicate]
  omega
theorem bL0 {CX:CXT}{P:Program}{w:World}{K:PySem.W.Frag}{mg:Str->Option Value}{base:Heap}{k:Nat}{f:Addr}{name qual:Str}{params:Arguments}{body:List Stmt}{scope:Scope}{dV kV doc pm cdv ct oc:Value}{an od:Option Addr}
  {osl:Array (Option Value)}{N ps:List Str}{sp:Sp}(lk:K.lookup f=some ⟨oc,od,.func (PySem.W.fnOf name qual params body scope dV kV doc pm an cdv ct),osl⟩) (hcd:PySem.W.codeIn K cdv qual=true) (S:jB N ps scope)
  (len:∀ vs H Q E,sp vs H Q E->vs.length=ps.length)
  (hbody:∀ (A:Around) (outer:List Env) (s:Shared) (H:Hp) (vs:List V) (Q:VK) (E:XK),bW k (A.deeper (envOfC qual scope s.heap.objs.size f cdv))->sp vs H Q E ->
   ∃ t,vV (zE CX P w K mg base N qual scope f cdv A outer s H E) body t/\t { nx:=fun _ H'=>Q .non H',rt:=Q } (lZ N vs) H) :
  nF P w K mg base CX (k+1) f (PySem.W.fnOf name qual params body scope dV kV doc pm an cdv ct) ps sp:=by
 refine ⟨len,fun A outer s H args us vs Q E hr e0 hb r hsp=>?_⟩
 have hl:=len _ _ _ _ hsp
 have KX:K.In s.heap:=e0.mod.kin.keeps fun b o e=>(e0.bs b o e).1
 have lim:s.heap.NoLimit:=e0.mod.nolimit.keeps fun b o e=>(e0.bs b o e).1
 have hkind:∀ y∈ps.zip us,scope.names.lookup y.1=some .local\/(scope.names.lookup y.1=some .cell/\((cellsFrom (s.heap.objs.size+1) scope.names []).lookup y.1).isSome=true):=fun ⟨n,v⟩ hy=>by
  rcases S.par n (qk hy).1 with q | q
  ·exact .inl q
  ·exact .inr ⟨q,yu _ _ _ (.inl q)⟩
 refine codeAny_call_function hr.depth (KX _ _ lk) rfl S.co S.gen rfl (PySem.W.codeRec_of KX hcd) (hb _ _ _ _ ?_)
 refine wpAny_newFunctionEnv_cells S.kind hkind fun env he s1 x=>?_
 subst he
 refine ⟨lim.keeps x.toInCall.keep,codeAny_func ?_⟩
 obtain ⟨t,ht,hq⟩:=hbody A outer s H vs Q E (hr.deeper _) hsp
 have I:aN (zE CX P w K mg base N qual scope f cdv A outer s H E) [] (lZ N vs) H s1:=aF0 S hr.hd e0 hl r x
 refine ff (ht [] s1 (lZ N vs) H _ I hq) (fun fl s' hs=>?_) fun e s' hs=>hs
 have fin:∀ {σ':St}{H':Hp}{v:V}{u:Value},aN (zE CX P w K mg base N qual scope f cdv A outer s H E) [] σ' H' s'->bA v u->Q v H'->CE outer P w H s Q u s' :=
  fun {σ' H' v u} J rv q=>⟨v,H',J.os,J.bare,J.base,J.hok,rv,q⟩
 cases fl with
 |ret u =>
  obtain ⟨v,σ',H',J,rv,q⟩:=hs
  exact fin J rv q
 |next =>
  obtain ⟨σ',H',J,q⟩:=hs
  exact fin (v:=V.non) (u:=Value.none) J rfl q
 |brk =>
  obtain ⟨_,_,_,q⟩:=hs
  exact False.elim q
 |cont =>
  obtain ⟨_,_,_,q⟩:=hs
  exact False.elim q
section
variable {X:Cx}{x:Str}{p pos:Pos}{e:Expr}{es:List Expr}{t:TA}{id T:String}{r:List V->Hp->VK->Prop}
def tCB (r:List V->Hp->VK->Prop) (t:TA):TE:=fun σ H Q=>t σ H fun vs H1=>r vs H1 Q
theorem pX (hc:cB X (.builtin id) r) (hg:Gl X x) (hm:X.mg x=none) (hv:bootBuiltins x=some (.builtin id)) (ha:PA X (e :: es) t) (hn:x≠"__name__":=by decide) (hdb:(x == ("__debug__": Str))=false:=by decide)
  (he:starEach (e :: es) X.env=(false,eval e X.env) :: starEach es X.env:=by rfl) (hpl:(backTo pos (starEach es X.env)).any (·.1)=false:=by rfl):PE X (.Call (.Name x p) (e :: es) [] pos) (tCB r t):=by
 intro pins s σ H Q I h
 refine ke (iS I hg hm hv ?_ hn hdb)
 exact PyProof.Rows.callWith_builtin1 (cI (ha pos pins s σ H _ I h) fun us s1 ⟨vs,H1,I1,r1,q1⟩=>hc pins s1 σ H1 vs us Q I1 r1 q1) he hpl
theorem aG8 (hc:cB X (.type T) r) (hg:Gl X x) (hm:X.mg x=none) (hv:bootBuiltins x=some (.type T)) (ha:PA X (e :: es) t) (hn:x≠"__name__":=by decide) (hdb:(x == ("__debug__": Str))=false:=by decide)
  (he:starEach (e :: es) X.env=(false,eval e X.env) :: starEach es X.env:=by rfl) (hpl:(backTo pos (starEach es X.env)).any (·.1)=false:=by rfl):PE X (.Call (.Name x p) (e :: es) [] pos) (tCB r t):=by
 intro pins s σ H Q I h
 refine ke (iS I hg hm hv ?_ hn hdb)
 exact gi (cI (ha pos pins s σ H _ I h) fun us s1 ⟨vs,H1,I1,r1,q1⟩=>hc pins s1 σ H1 vs us Q I1 r1 q1) he hpl
end
section
variable {κ: Type} [DecidableEq κ]
def bZ (kvs:List (κ×V)) (k:κ):Option V:=(kvs.find? fun kv=>decide (kv.1=k)).map (·.2)
def bF (kvs:List (κ×V)) (k:κ) (v:V):List (κ×V) :=
 if (kvs.any fun kv=>decide (kv.1=k))=true then kvs.map (fun kv=>if kv.1=k then (kv.1,v) else kv) else kvs++[(k,v)]
theorem vI {k:κ}:bZ ([]:List (κ×V)) k=none:=rfl
theorem bL {p:κ×V}{r:List (κ×V)}{k:κ}(e:p.1=k):bZ (p :: r) k=some p.2:=by simp [bZ,List.find?_cons,e]
theorem bC {p:κ×V}{r:List (κ×V)}{k:κ}(e:¬ p.1=k):bZ (p :: r) k=bZ r k:=by simp [bZ,List.find?_cons,e]
theorem eR (k:κ):∀ kvs:List (κ×V),(kvs.any fun kv=>decide (kv.1=k))=(bZ kvs k).isSome
 |[]=>rfl
 |p :: r=>by
  rw [qb]
  by_cases e:p.1=k
  ·simp only [bL e,decide_eq_true e,Bool.true_or,Option.isSome_some]
  ·rw [bC e,bu e,Bool.false_or];exact eR k r
theorem uO (k j:κ) (y:V):∀ kvs:List (κ×V),bZ (kvs.map fun kv=>if kv.1=k then (kv.1,y) else kv) j=(bZ kvs j).map fun x=>if j=k then y else x
 |[]=>rfl
 |p :: r=>by
  have ih:=uO k j y r
  rw [ar]
  by_cases h:p.1=k
  ·rw [bb h]
   by_cases e:p.1=j
   ·rw [bL (p:=(p.1,y)) e,bL e,ut,bb (e.symm.trans h)]
   ·rw [bC (p:=(p.1,y)) e,bC e,ih]
  ·rw [ao h]
   by_cases e:p.1=j
   ·rw [bL (p:=p) e,bL e,ut,ao (fun z=>h (e.trans z))]
   ·rw [bC (p:=p) e,bC e,ih]
theorem sQ (k j:κ) (y:V):∀ kvs:List (κ×V),bZ kvs k=none->bZ (kvs++[(k,y)]) j=if j=k then some y else bZ kvs j
 |[],_=>by
  by_cases e:k=j
  ·rw [bb e.symm];exact bL (p:=(k,y)) e
  ·rw [ao (fun z=>e z.symm)];exact bC (p:=(k,y)) e
 |p :: r,hn=>by
  rw [List.cons_append]
  have hk:¬ p.1=k:=fun z=>by rw [bL z] at hn;cases hn
  rw [bC hk] at hn
  have ih:=sQ k j y r hn
  by_cases e:p.1=j
  ·rw [bL e,bL e,ao (fun z=>hk (e.trans z))]
  ·rw [bC e,bC e,ih]
theorem iX (kvs:List (κ×V)) (k j:κ) (y:V):bZ (bF kvs k y) j=if j=k then some y else bZ kvs j:=by
 unfold bF
 by_cases a:(kvs.any fun kv=>decide (kv.1=k))=true
 ·rw [bb a,uO]
  rw [eR] at a
  by_cases e:j=k
  ·obtain ⟨x,hx⟩:=xo.mp a
   rw [bb e,e,hx,ut,bb rfl]
  ·rw [ao e]
   cases bZ kvs j with
   |none=>rfl
   |some x=>rw [ut,ao e]
 ·rw [ao a]
  refine sQ k j y kvs ?_
  rw [eR] at a
  cases q:bZ kvs k with
  |none=>rfl
  |some x=>rw [q] at a;exact (a rfl).elim
theorem dI (kvs:List (κ×V)) (k:κ) (v:V):(bF kvs k v).length<=kvs.length+1:=by
 unfold bF
 split
 ·rw [af];omega
 ·rw [cb,dy,List.length_nil];omega
theorem lP {kvs:List (κ×V)}{k:κ}(v:V) (h:bZ kvs k=none):bF kvs k v=kvs++[(k,v)]:=by
 unfold bF
 rw [eR,h]
 exact ao (by decide)
theorem lS.isSome_eq {o:Option V}{u:Option Value}(r:lS o u):o.isSome=u.isSome:=by
 cases o with
 |none=>cases u with
  |none=>rfl
  |some _=>exact (show False from r).elim
 |some _=>cases u with
  |none=>exact (show False from r).elim
  |some _=>rfl
theorem lS.getD {o:Option V}{u:Option Value}{d:V}{d':Value}(r:lS o u) (rd:bA d d'):bA (o.getD d) (u.getD d'):=by
 cases o with
 |none=>cases u with
  |none=>exact rd
  |some _=>exact (show False from r).elim
 |some _=>cases u with
  |none=>exact (show False from r).elim
  |some _=>exact r
theorem KV.val {kvs:List (κ×V)}{vs:List (κ×Value)}(r:KV kvs vs) (k:κ):lS (bZ kvs k) (valueAt vs k):=by
 unfold KV at r
 induction r with
 |nil=>exact gr
 |@cons p q ps qs h t ih =>
  obtain ⟨h1,h2⟩:=h
  by_cases e:p.1=k
  ·have e':q.1=k:=h1.symm.trans e
   have b:valueAt (q :: qs) k=some q.2:=by simp [valueAt,List.find?_cons,e']
   rw [bL e,b];exact h2
  ·have e':¬ q.1=k:=fun z=>e (h1.trans z)
   have b:valueAt (q :: qs) k=valueAt qs k:=by simp [valueAt,List.find?_cons,e']
   rw [bC e,b];exact ih
theorem KV.any {kvs:List (κ×V)}{vs:List (κ×Value)}(r:KV kvs vs) (k:κ):(kvs.any fun kv=>decide (kv.1=k))=vs.any fun kv=>decide (kv.1=k):=by
 unfold KV at r
 induction r with
 |nil=>rfl
 |cons h t ih=>rw [qb,qb,ih,h.1]
theorem KV.repl {kvs:List (κ×V)}{vs:List (κ×Value)}(r:KV kvs vs) (k:κ) {y:V}{u:Value}(ry:bA y u) :
  KV (kvs.map fun kv=>if kv.1=k then (kv.1,y) else kv) (vs.map fun kv=>if kv.1=k then (kv.1,u) else kv):=by
 unfold KV at r ⊢
 induction r with
 |nil=>exact .nil
 |@cons p q ps qs h t ih =>
  rw [ar,ar]
  refine .cons ?_ ih
  obtain ⟨h1,h2⟩:=h
  by_cases e:p.1=k
  ·rw [bb e,bb (h1.symm.trans e)];exact ⟨h1,ry⟩
  ·rw [ao e,ao (fun z=>e (h1.trans z))];exact ⟨h1,h2⟩
theorem KV.put {kvs:List (κ×V)}{vs:List (κ×Value)}(r:KV kvs vs) (k:κ) {y:V}{u:Value}(ry:bA y u):KV (bF kvs k y) (stored vs k u):=by
 unfold bF stored
 rw [r.any k]
 by_cases e:(vs.any fun kv=>decide (kv.1=k))=true
 ·rw [bb e,bb e];exact r.repl k ry
 ·rw [ao e,ao e];exact aBc r ⟨rfl,ry⟩
theorem KV.length {kvs:List (κ×V)}{vs:List (κ×Value)}(r:KV kvs vs):kvs.length=vs.length:=fw r
end
theorem mU {P:Program}{w:World}{k:Key}{u:Value}(r:bA (kV k) u):(bB P w).is k u=true:=by
 cases k with
 |inl i=>obtain ⟨t,e⟩:=(show ∃ t,u=Value.int i t from r);subst e;exact wR P w i t
 |inr x=>obtain ⟨t,e⟩:=(show ∃ t,u=Value.str x t from r);subst e;exact vD P w x t
theorem sF {P:Program}{w:World}:∀ {ks:List Key}{us:List Value},aZ (ks.map kV) us->ItemsAre (bB P w) ks us
 |[],_,r=>by rw [kg] at r;cases r;exact .nil
 |k :: ks,_,r=>by
  rw [ar] at r
  cases r with
  |cons h t=>exact .cons (mU h) (sF t)
abbrev KT (H:Hp):List (List Key×V)->List (List Key×Addr×Value)->Prop:=Paired fun p q=>p.1=q.1/\H q.2.1=some (.tup (p.1.map kV))/\bA p.2 q.2.2
theorem KT.val {H:Hp}{kvs:List (List Key×V)}{xs:List (List Key×Addr×Value)}(r:KT H kvs xs) (k:List Key):lS (bZ kvs k) ((atKey xs k).map (·.2)):=by
 induction r with
 |nil=>exact gr
 |@cons p q ps qs h t ih =>
  obtain ⟨h1,_,h2⟩:=h
  by_cases e:p.1=k
  ·have e':q.1=k:=h1.symm.trans e
   have b:atKey (q :: qs) k=some q.2:=by simp [atKey,List.find?_cons,e']
   rw [bL e,b];exact h2
  ·have e':¬ q.1=k:=fun z=>e (h1.trans z)
   have b:atKey (q :: qs) k=atKey qs k:=by simp [atKey,List.find?_cons,e']
   rw [bC e,b];exact ih
theorem KT.repl {H:Hp}{kvs:List (List Key×V)}{xs:List (List Key×Addr×Value)}(r:KT H kvs xs) (k:List Key) {y:V}{u:Value}(ry:bA y u) :
  KT H (kvs.map fun kv=>if kv.1=k then (kv.1,y) else kv) (xs.map (putAt k u)):=by
 induction r with
 |nil=>exact .nil
 |@cons p q ps qs h t ih =>
  rw [ar,ar]
  refine .cons ?_ ih
  obtain ⟨h1,h2,h3⟩:=h
  unfold putAt
  by_cases e:p.1=k
  ·rw [bb e,bb (h1.symm.trans e)];exact ⟨h1,h2,ry⟩
  ·rw [ao e,ao (fun z=>e (h1.trans z))];exact ⟨h1,h2,h3⟩
theorem KT.put {H:Hp}{kvs:List (List Key×V)}{xs:List (List Key×Addr×Value)}(r:KT H kvs xs) (k:List Key) {b:Addr}{y:V}{u:Value}(hb:H b=some (.tup (k.map kV))) (ry:bA y u) :
  KT H (bF kvs k y) (storedH xs k b u):=by
 have e:(kvs.any fun kv=>decide (kv.1=k))=(atKey xs k).isSome:=by
  rw [eR,(r.val k).isSome_eq,rm]
 unfold bF storedH
 rw [e]
 by_cases q:(atKey xs k).isSome=true
 ·rw [bb q,bb q];exact r.repl k ry
 ·rw [ao q,ao q];exact aBc r ⟨rfl,hb,ry⟩
theorem KT.keeps {H H':Hp}{kvs:List (List Key×V)}{xs:List (List Key×Addr×Value)}(r:KT H kvs xs) (ht:∀ b ys,H b=some (.tup ys)->H' b=some (.tup ys)):KT H' kvs xs :=
 Paired.mapP r fun _ _ z=>⟨z.1,ht _ _ z.2.1,z.2.2⟩
section
variable {P:Program}{w:World}{H:Hp}{h:Heap}{a:Addr}
theorem aB2 {u:HO}(ok:iQ P w H h) (e:Rd H a u):bD P w H h a u:=e.ok ok
theorem mZ {kvs:List (Key×V)}(ok:iQ P w H h) (e:Rd H a (.dK kvs)):kvs.length<=sizeLine/\(a == sysModules)=false/\∃ vs,KV kvs vs/\h.DictOf (bB P w) a vs :=
 show bD P w H h a (.dK kvs) from aB2 ok e
theorem aP9 {kvs:List (Key×V)}(ok:iQ P w H h) (e:H a=some (.dK kvs)):kvs.length<=sizeLine/\(a == sysModules)=false/\∃ vs,KV kvs vs/\h.DictOf (bB P w) a vs:=mZ ok (.inl e)
theorem mP {ks:List Key}(ok:iQ P w H h) (e:H a=some (.tup (ks.map kV))):(tupleKind (bB P w)).is h ks a:=by
 obtain ⟨_,its,r,o,h1,h2,n,h3,_⟩:=(show bD P w H h a (.tup (ks.map kV)) from ok a _ e)
 exact ⟨o,its.toArray,n,h1,h2,h3,by simpa using sF r⟩
theorem mX {kvs:List (List Key×V)}(ok:iQ P w H h) (e:Rd H a (.dT kvs)):kvs.length<=sizeLine/\(a == sysModules)=false /\
  ∃ xs,KT H kvs xs/\h.DictOfH (tupleKind (bB P w)) a xs:=by
 obtain ⟨z,y,xs,r,o,es,ep,h1,h2,h3,h4,h5⟩:=(show bD P w H h a (.dT kvs) from aB2 ok e)
 refine ⟨z,y,xs,r,o,es,ep,h1,h2,h3,h4,fun x hx=>?_,h5⟩
 have all:∀ {l:List (List Key×V)}{m:List (List Key×Addr×Value)},KT H l m->∀ x∈m,(tupleKind (bB P w)).is h x.1 x.2.1:=by
  intro l m q
  induction q with
  |nil=>intro x hx;exact nomatch hx
  |@cons p q ps qs hq t ih =>
   intro x hx
   rcases bi.mp hx with e | hx
   ·subst e
    exact mP ok (by rw [<- hq.1];exact hq.2.1)
   ·exact ih x hx
 exact all r x hx
theorem aZ5 {kvs:List (List Key×V)}(ok:iQ P w H h) (e:H a=some (.dT kvs)):kvs.length<=sizeLine/\(a == sysModules)=false /\
  ∃ xs,KT H kvs xs/\h.DictOfH (tupleKind (bB P w)) a xs:=mX ok (.inl e)
end
def fL (H:Hp) (a:Addr) (y:V) (r:Option V):Prop :=
 (∃ kvs k,Rd H a (.dK kvs)/\y=kV k/\r=bZ kvs k)\/∃ kvs k b,Rd H a (.dT kvs)/\y= .ref b/\H b=some (.tup (k.map kV))/\r=bZ kvs k
def iT (H:Hp) (a:Addr) (y v:V) (H':Hp):Prop :=
 (∃ kvs k,H a=some (.dK kvs)/\y=kV k/\kvs.length < sizeLine/\H'=aJ H a (.dK (bF kvs k v))) \/
 ∃ kvs k b,H a=some (.dT kvs)/\y= .ref b/\H b=some (.tup (k.map kV))/\kvs.length < sizeLine/\H'=aJ H a (.dT (bF kvs k v))
theorem fL.k {H:Hp}{a:Addr}{kvs:List (Key×V)}{k:Key}(e:H a=some (.dK kvs)):fL H a (kV k) (bZ kvs k):= .inl ⟨kvs,k,.inl e,rfl,rfl⟩
theorem fL.t {H:Hp}{a b:Addr}{kvs:List (List Key×V)}{k:List Key}(e:H a=some (.dT kvs)) (eb:H b=some (.tup (k.map kV))):fL H a (.ref b) (bZ kvs k):= .inr ⟨kvs,k,b,.inl e,rfl,eb,rfl⟩
theorem iT.k {H:Hp}{a:Addr}{kvs:List (Key×V)}{k:Key}{v:V}(e:H a=some (.dK kvs)) (hl:kvs.length < sizeLine):iT H a (kV k) v (aJ H a (.dK (bF kvs k v))):= .inl ⟨kvs,k,e,rfl,hl,rfl⟩
theorem iT.t {H:Hp}{a b:Addr}{kvs:List (List Key×V)}{k:List Key}{v:V}(e:H a=some (.dT kvs)) (eb:H b=some (.tup (k.map kV))) (hl:kvs.length < sizeLine) :
  iT H a (.ref b) v (aJ H a (.dT (bF kvs k v))):= .inr ⟨kvs,k,b,e,rfl,eb,hl,rfl⟩
section
variable {X:Cx}{pins:List (Addr×Obj)}{σ: St}{H:Hp}{s:Shared}{a:Addr}{y v:V}{u r:Value}{o:Option V}{A:Around}{E:Value->Shared->Prop}
theorem aN.big (I:aN X pins σ H s):sysModules < s.heap.objs.size:=by
 have h:mainGlobals < s.heap.objs.size:=(I.mod.glob.keeps I.bk).lt
 exact Nat.lt_trans (by decide) h
theorem aG6 {Q:Value->Shared->Prop}(hu:A.units+1 < cLine) (I:aN X pins σ H s) (g:fL H a y (some v)) (ry:bA y u) (h:∀ w' s',aN X pins σ H s'->bA v w'->Q w' s') :
  wpAny (model X.prog X.w) A (getItem (.ref a) u) Q E s:=by
 rcases g with ⟨kvs,k,e,ey,l⟩ | ⟨kvs,k,b,e,ey,eb,l⟩
 ·subst ey
  obtain ⟨z,hd,vs,rel,dd⟩:=mZ I.hok e
  obtain ⟨w',hw,rw'⟩:=lS.some_of (v:=v) (o:=valueAt vs k) (by rw [l];exact rel.val k)
  exact wpAny_getItem_of (mU ry) dd.mapOf hw (h w' _ (I.tok _) rw')
 ·subst ey
  cases (show u=Value.ref b from ry)
  obtain ⟨z,hd,xs,rel,dd⟩:=mX I.hok e
  obtain ⟨w',hw,rw'⟩:=lS.some_of (v:=v) (o:=(atKey xs k).map (·.2)) (by rw [l];exact rel.val k)
  obtain ⟨p,hp,hp2⟩:=ge.mp hw
  refine wpAny_getItem_heap (qm hu) (mP I.hok eb) dd hp ?_
  rw [hp2]
  exact h w' _ (I.tok _) rw'
theorem bI9 {Q:Value->Shared->Prop}(hu:A.units+1 < cLine) (I:aN X pins σ H s) (g:fL H a y o) (ry:bA y u) (h:∀ s',aN X pins σ H s'->Q (.bool o.isSome) s') :
  wpAny (model X.prog X.w) A (compareOp .In u (.ref a)) Q E s:=by
 rcases g with ⟨kvs,k,e,ey,l⟩ | ⟨kvs,k,b,e,ey,eb,l⟩
 ·subst ey
  obtain ⟨z,hd,vs,rel,dd⟩:=mZ I.hok e
  refine wpAny_in_of (mU ry) hd dd.mapOf ?_
  rw [<- (rel.val k).isSome_eq, <- l]
  exact h _ (I.tok _)
 ·subst ey
  cases (show u=Value.ref b from ry)
  obtain ⟨z,hd,xs,rel,dd⟩:=mX I.hok e
  refine wpAny_in_heap (qm hu) (mP I.hok eb) hd dd ?_
  have q:=(rel.val k).isSome_eq
  rw [rm] at q
  rw [<- q, <- l]
  exact h _ (I.tok _)
theorem iB {h':Heap}{t':Nat}{ob:HO}(I:aN X pins σ H s) (mu:Mut (H a)) (hs:Heap.SameBut a s.heap h') (he:∃ q,h'.get? a=some q) (new:bD X.prog X.w (aJ H a ob) h' a ob) :
  aN X pins σ (aJ H a ob) { s with heap:=h',toks:=t' } :=
 I.write (x:=a) (e:=a) mu (.inl rfl) (fun b q hb z=>(hs.2 b hb).trans z) he new
theorem xX {P:Program}{w:World}{H':Hp}{h':Heap}{kvs:List (Key×V)}{vs:List (Key×Value)}(z:kvs.length<=sizeLine) (hd:(a == sysModules)=false) (rel:KV kvs vs) (dd:h'.DictOf (bB P w) a vs) :
  bD P w H' h' a (.dK kvs):=⟨z,hd,vs,rel,dd⟩
theorem rD {H':Hp}{Q:Unit->Shared->Prop}(hu:A.units+1 < cLine) (I:aN X pins σ H s) (g:iT H a y v H') (ry:bA y u) (rv:bA v r) (h:∀ s',aN X pins σ H' s'->Q () s') :
  wpAny (model X.prog X.w) A (setItem (.ref a) u r) Q E s:=by
 rcases g with ⟨kvs,k,e,ey,l,eH⟩ | ⟨kvs,k,b,e,ey,eb,l,eH⟩
 ·subst ey eH
  obtain ⟨z,hd,vs,rel,dd⟩:=aP9 I.hok e
  have hz:vs.length<=sizeLine:=by rw [<- rel.length];exact z
  have hl:(bF kvs k v).length<=sizeLine:=by have:=dI kvs k v;omega
  refine wpAny_setItem_pairs (hsz:=hz) (mU ry) dd fun h' dd' hs=>h _ ?_
  have he:∃ q,h'.get? a=some q:=let ⟨q,_,_,hq,_⟩:=dd';⟨q,hq⟩
  exact iB I (by rw [e];exact gr) hs he (xX hl hd (rel.put k rv) dd')
 ·subst ey eH
  cases (show u=Value.ref b from ry)
  obtain ⟨z,hd,xs,rel,dd⟩:=aZ5 I.hok e
  have hz:xs.length<=sizeLine:=by rw [<- fw rel];exact z
  have hl:(bF kvs k v).length<=sizeLine:=by have:=dI kvs k v;omega
  refine aAs (hsz:=hz) (qm hu) (mP I.hok eb) dd fun h' dd' hs=>h _ ?_
  obtain ⟨q,es,ep,hq,h2,h3,h4,_,h5⟩:=dd'
  refine iB I (by rw [e];exact gr) hs ⟨q,hq⟩ ⟨hl,hd,_,(rel.put k eb rv).keeps fun c ys ec=>?_,q,es,ep,hq,h2,h3,h4,h5⟩
  rw [aE (cF ec e (fun z=>nomatch z))]
  exact ec
end
section
variable {X:Cx}{pins:List (Addr×Obj)}{σ: St}{H:Hp}{s:Shared}{a:Addr}{kvs:List (Key×V)}{k:Key}{u:Value}{A:Around}{E:Value->Shared->Prop}
end
def bF2 (i:Expr):Prop:=∀ ov iv,subscripted i false ov iv=operate [ov,iv] (getItem ov iv)
theorem aW5 {prog:Program}{w:World}{A:Around}{E:Value->Shared->Prop}{s:Shared}{env:Env}{value slice:Expr}{pos:Pos}{T id:String}{Q:Value->Shared->Prop}
  (hl:typeLookup (.type T) "__getitem__"=pure (some (.builtin id))) (hs:bF2 slice)
  (h:wpAny (model prog w) A (eval value env) (fun o s₁=>wpAny (model prog w) A (eval slice env) (fun i s₂=>s₂.TypeIs o T/\wpAny (model prog w) A (getItem o i) Q E s₂) E s₁) E s) :
  wpAny (model prog w) A (eval (.Subscript value slice pos) env) Q E s:=by
 refine Subscript_ (ff h (fun o s₁ h₁=>ff h₁ (fun i s₂ h₂=>?_) fun _ _ x=>x) fun _ _ x=>x)
 obtain ⟨hT,h₂⟩:=h₂
 unfold subscriptTail
 refine aa ?_
 rw [getitemInPython_of_ne hT.not_modules]
 refine aa (iu hT hl ?_)
 have fin:wpAny (model prog w) A (subscripted slice false o i) (fun r s₃=>wpAny (model prog w) A (letTemporaryGo value o r >>= fun _=>pure r) Q E s₃) E s₂:=by
  rw [hs o i]
  exact wpAny_operating (ff h₂ (fun r s₃ h₃=>aa (wpAny_letTemporaryGo (ac h₃))) fun _ _ x=>x)
 first
  |exact ac (aa fin)
  |exact aa (ac (aa fin))
  |exact aa fin
theorem vK {X:Cx}{pins:List (Addr×Obj)}{σ: St}{H:Hp}{s:Shared}{a:Addr}{y:V}{o:Option V}(I:aN X pins σ H s) (g:fL H a y o):s.TypeIs (.ref a) "dict":=by
 rcases g with ⟨kvs,k,e,_,_⟩ | ⟨kvs,k,b,e,_,_,_⟩
 ·obtain ⟨_,_,vs,_,dd⟩:=mZ I.hok e
  exact dd.typeIs
 ·obtain ⟨_,_,xs,_,dd⟩:=mX I.hok e
  exact dd.typeIs
def bB0 (td ty:TE):TE:=fun σ H Q=>td σ H fun x H1=>ty σ H1 fun y H2=>∃ a v,x= .ref a/\fL H2 a y (some v)/\Q v H2
def bR9 (ty td:TE):TE:=fun σ H Q=>ty σ H fun y H1=>td σ H1 fun x H2=>∃ a o,x= .ref a/\fL H2 a y o/\Q (.bl o.isSome) H2
def bA9 (td ty tv:TE):TS:=fun D σ H=>tv σ H fun v H1=>td σ H1 fun x H2=>ty σ H2 fun y H3=>∃ a H4,x= .ref a/\iT H3 a y v H4/\D.nx σ H4
section
variable {X:Cx}{o i e value:Expr}{pos pos' tpos:Pos}{td ty tv:TE}
theorem gL (hu:X.A.units+1 < cLine) (ho:PE X o td) (hi:PE X i ty) (hs:bF2 i):PE X (.Subscript o i pos) (bB0 td ty):=by
 intro pins s σ H Q I h
 refine aW5 PySem.F.slot_dict_getitem.lookup hs (cI (ho pins s σ H _ I h) fun u s1 ⟨x,H1,I1,rx,q1⟩=>cI (hi pins s1 σ H1 _ I1 q1) fun iv s2 ⟨y,H2,I2,ry,a,v,ex,g,q2⟩=>?_)
 subst ex
 obtain rfl:u=Value.ref a:=rx
 exact ⟨vK I2 g,aG6 hu I2 g ry fun w' s3 I3 rw'=>⟨v,H2,I3,rw',q2⟩⟩
theorem xK (hu:X.A.units+1 < cLine) (hi:PE X i ty) (ho:PE X o td):PC X .In i o (bR9 ty td):=by
 intro pins s σ H Q I h
 refine cI (hi pins s σ H _ I h) fun iv s1 ⟨y,H1,I1,ry,q1⟩=>cI (ho pins s1 σ H1 _ I1 q1) fun u s2 ⟨x,H2,I2,rx,a,ov,ex,g,q2⟩=>?_
 subst ex
 obtain rfl:u=Value.ref a:=rx
 exact bI9 hu I2 g ry fun s3 I3=>⟨.bl ov.isSome,H2,I3,rfl,q2⟩
theorem nJ (hu:X.A.units+1 < cLine) (ho:PE X o td) (hi:PE X i ty) (hv:PE X value tv) (hs:swapsWith value (some (.Subscript o i pos')) pos.line X.env=pure false) :
  PS X (.Assign [.Subscript o i pos'] value pos) (bA9 td ty tv):=by
 intro pins s σ H D I h
 refine yw (cI (hv pins s σ H _ I h) fun r s1 ⟨v,H1,I1,rv,q1⟩=>cI (ho pins s1 σ H1 _ I1 q1) fun u s2 ⟨x,H2,I2,rx,q2⟩=>cI (hi pins s2 σ H2 _ I2 q2) fun iv s3 ⟨y,H3,I3,ry,a,H4,ex,g,q3⟩=>?_) hs
 subst ex
 obtain rfl:u=Value.ref a:=rx
 exact rD hu I3 g ry rv fun s4 I4=>⟨σ,H4,I4,q3⟩
end
theorem lQ {P:Program}{w:World}{H:Hp}(h:Heap) (hb:sysModules < h.objs.size):bD P w H (h.push { cls:= .type "dict",data:= .dict #[] }) h.objs.size (.dK []) :=
 ⟨bz _,qg.mpr (Ne.symm (bv hb)),[],.nil,Heap.DictOf.new h⟩
theorem nZ {P:Program}{w:World}{H:Hp}(h:Heap) (hb:sysModules < h.objs.size):bD P w H (h.push { cls:= .type "dict",data:= .dict #[] }) h.objs.size (.dT []) :=
 ⟨bz _,qg.mpr (Ne.symm (bv hb)),[],.nil,_, #[],0,aq _ rfl,⟨rfl,rfl,rfl⟩,rfl,rfl,pb⟩
def tDNewK:TE:=fun _ H Q=>∀ p,H p=none->Q (.ref p) (aJ H p (.dK []))
def tDNewT:TE:=fun _ H Q=>∀ p,H p=none->Q (.ref p) (aJ H p (.dT []))
section
variable {X:Cx}{pos:Pos}
theorem aQ5:PE X (.Dict [] [] pos) tDNewK:=fun pins s σ H Q I h =>
 xp ⟨.ref s.heap.objs.size,_,I.laid (a:=s.heap.objs.size) (o:= .dK []) (t':=s.toks) (fun _ _ q=>ag _ q) (ak _) (lQ s.heap I.big),rfl,h _ (I.hok.fresh (ak _))⟩
theorem aQ4:PE X (.Dict [] [] pos) tDNewT:=fun pins s σ H Q I h =>
 xp ⟨.ref s.heap.objs.size,_,I.laid (a:=s.heap.objs.size) (o:= .dT []) (t':=s.toks) (fun _ _ q=>ag _ q) (ak _) (nZ s.heap I.big),rfl,h _ (I.hok.fresh (ak _))⟩
end
def xA:List (TE×TE)->St->Hp->(List (V×V)->Hp->Prop)->Prop
 |[],_,H,Q=>Q [] H
 |(tk,tv) :: r,σ,H,Q=>tk σ H fun x H1=>tv σ H1 fun y H2=>xA r σ H2 fun ps H3=>Q ((x,y) :: ps) H3
abbrev VV:List (V×V)->List (Value×Value)->Prop:=Paired fun p q=>bA p.1 q.1/\bA p.2 q.2
def PPs (X:Cx) (pos:Pos) (keys:List (Option Expr)) (values:List Expr) (trs:List (TE×TE)):Prop :=
 ∀ (pins:List (Addr×Obj)) (s:Shared) (σ: St) (H:Hp) (Q:List (V×V)->Hp->Prop),aN X pins σ H s->xA trs σ H Q ->
  wpAny (model X.prog X.w) X.A (evalPairs (pairTrees keys values X.env pos)) (fun vs s'=>∃ ps H',aN X pins σ H' s'/\VV ps vs/\Q ps H') X.xe s
theorem aU3 {X:Cx}{pos:Pos}:PPs X pos [] [] []:=fun pins s σ H Q I h=>pairTrees_nil_walk ⟨[],H,I,.nil,h⟩
theorem qF {X:Cx}{pos:Pos}{k v:Expr}{ks:List (Option Expr)}{vs:List Expr}{tk tv:TE}{trs:List (TE×TE)}(hk:PE X k tk) (hv:PE X v tv) (hr:PPs X pos ks vs trs) :
  PPs X pos (some k :: ks) (v :: vs) ((tk,tv) :: trs):=fun pins s σ H Q I h =>
 pairTrees_cons_walk (cI (hk pins s σ H _ I h) fun u s1 ⟨x,H1,I1,rx,q1⟩=>cI (hv pins s1 σ H1 _ I1 q1) fun w2 s2 ⟨y,H2,I2,ry,q2⟩ =>
  cI (hr pins s2 σ H2 _ I2 q2) fun ws s3 ⟨ps,H3,I3,rel,q3⟩=>⟨(x,y) :: ps,H3,I3,.cons ⟨rx,ry⟩ rel,q3⟩)
def iY (kvs more:List (Key×V)):List (Key×V):=more.foldl (fun acc kv=>bF acc kv.1 kv.2) kvs
theorem KV.merge:∀ {more:List (Key×V)}{rs:List (Key×Value)}{kvs:List (Key×V)}{vs:List (Key×Value)},KV more rs->KV kvs vs->KV (iY kvs more) (merged vs rs):=by
 intro more rs kvs vs r
 unfold KV at r
 induction r generalizing kvs vs with
 |nil=>intro q;exact q
 |@cons p q ps qs h t ih =>
  intro r0
  have e:KV (bF kvs p.1 p.2) (stored vs q.1 q.2):=by
   have:=r0.put p.1 h.2
   rw [<- h.1];exact this
  exact ih e
theorem jQ:∀ (more kvs:List (Key×V)),(iY kvs more).length<=kvs.length+more.length
 |[],kvs=>by show kvs.length<=kvs.length+0;omega
 |p :: r,kvs=>by
  have h1:=jQ r (bF kvs p.1 p.2)
  have h2:=dI kvs p.1 p.2
  show (iY (bF kvs p.1 p.2) r).length<=_
  rw [dy];omega
theorem pN {P:Program}{w:World}:∀ {kvs:List (Key×V)}{ws:List (Value×Value)},VV (kvs.map fun kv=>(kV kv.1,kv.2)) ws->∃ rs,Carries (bB P w) ws rs/\KV kvs rs
 |[],_,r=>by rw [kg] at r;cases r;exact ⟨[],gr,.nil⟩
 |p :: kvs,_,r=>by
  rw [ar] at r
  cases r with
  |@cons a b as bs h t =>
   obtain ⟨rs,c,q⟩:=pN (P:=P) (w:=w) t
   obtain ⟨b1,b2⟩:=b
   exact ⟨(p.1,b2) :: rs,⟨mU h.1,rfl,c⟩,.cons ⟨rfl,h.2⟩ q⟩
def bP4 (trs:List (TE×TE)):TE:=fun σ H Q=>∀ p,H p=none->xA trs σ (aJ H p (.dK [])) fun ps H2=>H2 p=some (.dK [])/\∃ kvs:List (Key×V),ps=kvs.map (fun kv=>(kV kv.1,kv.2))/\kvs.length<=15/\Q (.ref p) (aJ H2 p (.dK (iY [] kvs)))
theorem aS9 {X:Cx}{pos:Pos}{keys:List (Option Expr)}{values:List Expr}{trs:List (TE×TE)}(h:PPs X pos keys values trs) (hall:keys.all (·.isSome)=true) (hl:keys.length=values.length) (h0:keys≠[])
  (h15:keys.length<=15):PE X (.Dict keys values pos) (bP4 trs):=by
 intro pins s σ H Q I q
 have hn:=I.hok.fresh (ak s.heap.objs.size)
 have I1:=I.laid (a:=s.heap.objs.size) (o:= .dK []) (h':=s.heap.push { cls:= .type "dict",data:= .dict #[] }) (t':=s.toks) (fun _ _ q=>ag _ q) (ak _) (lQ s.heap I.big)
 refine wpAny_Dict_walk (knd:=bB X.prog X.w) hall hl h0 h15 (cI (h pins _ σ _ _ I1 (q _ hn)) fun ws s2 ⟨ps,H2,I2,rel,e,kvs,ep,lk,q2⟩=>?_)
 subst ep
 obtain ⟨rs,c,rk⟩:=pN (P:=X.prog) (w:=X.w) rel
 obtain ⟨z,hd,vs0,r0,dd⟩:=aP9 I2.hok e
 cases r0
 refine ⟨rs,c,dd,fun h' dd' hs=>⟨.ref s.heap.objs.size,_,?_,rfl,q2⟩⟩
 have hz:(iY [] kvs).length<=sizeLine:=by
  have h1:=jQ kvs []
  rw [List.length_nil] at h1
  rw [qf];omega
 have he:∃ q,h'.get? s.heap.objs.size=some q:=let ⟨q,_,_,hq,_⟩:=dd';⟨q,hq⟩
 exact iB I2 (by rw [e];exact gr) hs he (xX hz hd (rk.merge .nil) dd')
structure M1 (X:Cx) (o:Expr) (m:Str) (apos:Pos) (e:Expr) (cpos:Pos):Prop where
 base:attributeBase o m X.env (eval o X.env)=eval o X.env
 few:((backTo cpos (starEach [e] X.env)).all (fun x=> !x.1) && (backToKw cpos (keywordEach [] X.env)).all (fun x=>x.1.isSome)
  && decide (([e]:List Expr).length+([]:List Keyword).length+(if ([]:List Keyword).isEmpty then 0 else 1) < 30))=true
 line:(apos.endLine == cpos.line)=true
 trees:backTo cpos (starEach [e] X.env)=[(false,eval e X.env)]
structure M2 (X:Cx) (o:Expr) (m:Str) (apos:Pos) (e f:Expr) (cpos:Pos):Prop where
 base:attributeBase o m X.env (eval o X.env)=eval o X.env
 few:((backTo cpos (starEach [e,f] X.env)).all (fun x=> !x.1) && (backToKw cpos (keywordEach [] X.env)).all (fun x=>x.1.isSome)
  && decide (([e,f]:List Expr).length+([]:List Keyword).length+(if ([]:List Keyword).isEmpty then 0 else 1) < 30))=true
 line:(apos.endLine == cpos.line)=true
 trees:backTo cpos (starEach [e,f] X.env)=[(false,eval e X.env),(false,eval f X.env)]
def IsD (H:Hp) (a:Addr):Prop:=(∃ kvs,Rd H a (.dK kvs))\/∃ kvs,Rd H a (.dT kvs)
theorem bI4 {X:Cx}{pins:List (Addr×Obj)}{σ: St}{H:Hp}{s:Shared}{a:Addr}(I:aN X pins σ H s) (d:IsD H a) :
  s.TypeIs (.ref a) "dict"/\(∀ b,Value.ref a= .ref b->∃ ob,s.heap.get? b=some ob/\ob.dict=none)/\(a == sysModules)=false:=by
 rcases d with ⟨kvs,e⟩ | ⟨kvs,e⟩
 ·obtain ⟨_,hd,vs,_,dd⟩:=mZ I.hok e
  refine ⟨dd.typeIs,fun b q=>?_,hd⟩
  cases q
  obtain ⟨ob,_,_,h1,h2,_⟩:=dd
  exact ⟨ob,h1,h2.2.1⟩
 ·obtain ⟨_,hd,xs,_,dd⟩:=mX I.hok e
  refine ⟨dd.typeIs,fun b q=>?_,hd⟩
  cases q
  obtain ⟨ob,_,_,h1,h2,_⟩:=dd
  exact ⟨ob,h1,h2.2.1⟩
section
variable {X:Cx}{pins:List (Addr×Obj)}{σ: St}{H:Hp}{s:Shared}{a:Addr}{y d:V}{u r:Value}{o:Option V}{A:Around}{E:Value->Shared->Prop}
theorem bG9 {Q:Value->Shared->Prop}(hu:A.units+1 < cLine) (I:aN X pins σ H s) (g:fL H a y o) (ry:bA y u) (rd:bA d r) (h:∀ w' s',aN X pins σ H s'->bA (o.getD d) w'->Q w' s') :
  wpAny (model X.prog X.w) A (call (.builtin "dict.get") [.ref a,u,r]) Q E s:=by
 rcases g with ⟨kvs,k,e,ey,l⟩ | ⟨kvs,k,b,e,ey,eb,l⟩
 ·subst ey
  obtain ⟨z,hd,vs,rel,dd⟩:=mZ I.hok e
  refine call_meetsIn ud dd.typeIs yx (ye _ _ _) (meets_dict_get_default (bB X.prog X.w) a (mU ry) hd r) ⟨_,dd.mapOf,h _ _ (I.tok _) ?_⟩
  rw [l]
  exact (rel.val k).getD rd
 ·subst ey
  cases (show u=Value.ref b from ry)
  obtain ⟨z,hd,xs,rel,dd⟩:=mX I.hok e
  refine call_meetsIn ud dd.typeIs yx (ye _ _ _) (meetsH_dict_get_default (tupleKind (bB X.prog X.w)) a b hd r) ⟨qm hu,k,xs,mP I.hok eb,dd,h _ _ (I.tok _) ?_⟩
  rw [l]
  exact (rel.val k).getD rd
end
def bC4 (td ty tx:TE):TE:=fun σ H Q=>td σ H fun x H1=>∃ a,x= .ref a/\IsD H1 a/\ty σ H1 fun y H2=>tx σ H2 fun z H3=>∃ o,fL H3 a y o/\Q (o.getD z) H3
section
variable {X:Cx}{o e f:Expr}{apos cpos:Pos}{td ty tx:TE}
theorem gA (hu:X.A.units+1 < cLine) (ho:PE X o td) (he:PE X e ty) (hf:PE X f tx) (m:M2 X o "get" apos e f cpos):PE X (.Call (.Attribute o "get" apos) [e,f] [] cpos) (bC4 td ty tx):=by
 intro pins s σ H Q I h
 refine wpAny_Call_method m.base m.few m.line jo ud PySem.F.type_dict_get (cI (ho pins s σ H _ I h) fun u s1 ⟨x,H1,I1,rx,a,ex,d,q1⟩=>?_)
 subst ex
 obtain rfl:u=Value.ref a:=rx
 obtain ⟨t1,t2,_⟩:=bI4 I1 d
 refine ⟨t1,t2,?_⟩
 rw [m.trees]
 refine gy rfl (uw (kd (cI (he pins s1 σ H1 _ I1 q1) fun iv s2 ⟨y,H2,I2,ry,q2⟩ =>
  kd (cI (hf pins s2 σ H2 _ I2 q2) fun fv s3 ⟨z,H3,I3,rz,ov,g,q3⟩=>oy ?_))))
 exact bG9 hu I3 g ry rz fun w' s4 I4 rw'=>⟨_,H3,I4,rw',q3⟩
end
section
variable {X:Cx}{pins:List (Addr×Obj)}{σ: St}{H:Hp}{s:Shared}{a:Addr}{kvs:List (Key×V)}{A:Around}{E:Value->Shared->Prop}
end
section
variable {X:Cx}{pins:List (Addr×Obj)}{σ: St}{H:Hp}{s:Shared}{a:Addr}{y:V}{u:Value}{A:Around}{E:Value->Shared->Prop}
end
end L2
namespace HT
open PySem PyProof.Rows
def lexLt:List Int->List Int->Bool
 |[],[]=>false
 |[],_ :: _=>true
 |_ :: _,[]=>false
 |x :: xs,y :: ys=>if x=y then lexLt xs ys else decide (x < y)
theorem lexLt_cons (x y:Int) (xs ys:List Int):lexLt (x :: xs) (y :: ys)=if x=y then lexLt xs ys else decide (x < y):=rfl
theorem lexLt_nil_nil:lexLt [] []=false:=rfl
theorem qG (y:Int) (ys:List Int):lexLt [] (y :: ys)=true:=rfl
theorem oV (x:Int) (xs:List Int):lexLt (x :: xs) []=false:=rfl
theorem aR0 (A:Around) (s:Shared) (a:Int) (t:Tok) (c:Int) (u:Tok):∃ e,SeqAt.EqAt A s (.int a t) (.int c u) e/\(e=true↔a=c) :=
 ⟨(a == c),SeqAt.EqAt.int_int a t c u,by simp⟩
theorem aK7 (A:Around) (s:Shared) (a:Int) (t:Tok) (c:Int) (u:Tok) (prog:Program) (w:World) (E:Value->Shared->Prop) (Q:Value->Shared->Prop) (h:Q (.bool (decide (a < c))) s) :
  wpAny (model prog w) A (richCompare .Lt (.int a t) (.int c u)) Q E s :=
 (PyProof.Rows.lt_int h:wpAny (model prog w) A (compareOp .Lt (.int a t) (.int c u)) Q E s)
section
open PySem.SeqAt
open PySem.AutoSeq1 (wpAny_loadPart')
open PySem.MeetsSeq PySem.MeetsSeq2 PySem.MeetsSeq3
theorem jW (l b:Addr) (items items2:Array Value) (n n2:Nat) (dd dd2:Option Addr) (sl sl2:Array (Option Value)) (ns ms:List Int) (hi:IntsAre items.toList ns) (hj:IntsAre items2.toList ms) :
  Meets (Builtin.«tuple.__lt__» ⟨[.ref l,.ref b],[]⟩)
   (fun _ R s=>s.heap.get? l=some { cls:= .type "tuple",dict:=dd,data:= .seq items n,slots:=sl }/\s.heap.get? b=some { cls:= .type "tuple",dict:=dd2,data:= .seq items2 n2,slots:=sl2 } /\
    R (.ok (.ret (.bool (lexLt ns ms)))) s) :=
 .of_wp fun prog w A R s h=>by
  obtain ⟨hp,g,d,tk,os⟩:=s;obtain ⟨hl,hb,h⟩:=h
  have f2:=AutoSeq1.sub_tuple_tuple
  have z1:items.size=ns.length:=by rw [<- hi.length];simp
  have z2:items2.size=ms.length:=by rw [<- hj.length];simp
  wp_walk using wpAny_loadPart' hl,wpAny_loadPart' hb,wpAny_forIn_list _ (fun rest b s'=>b.1=none/\s'=⟨hp,g,d,tk,os⟩/\∃ (vs ws:List Value) (ns' ms':List Int),rest=vs.zip ws /\
   IntsAre vs ns'/\IntsAre ws ms'/\ns'.length+items2.size=ms'.length+items.size/\R (.ok (.ret (.bool (lexLt ns' ms')))) ⟨hp,g,d,tk,os⟩) _
  case turn =>
   rintro ⟨y,x⟩ rest b s' ⟨hb',rfl,vs,ws,ns',ms',hz,hvi,hwi,hlen,hR⟩
   cases hvi with
   |nil=>rw [List.zip_nil_left] at hz;cases hz
   |cons a t hvi' =>
    cases hwi with
    |nil=>rw [List.zip_nil_right] at hz;cases hz
    |cons c u hwi' =>
     rw [List.zip_cons_cons] at hz
     injection hz with hyx hrest
     injection hyx with hy hx
     subst hy hx
     rw [lexLt_cons] at hR
     simp only [List.length_cons] at hlen
     obtain ⟨e,he,hiff⟩:=aR0 A.in1 ⟨hp,g,d,tk,os⟩ a t c u
     refine wpAny_bind (he prog w _ _ ?_)
     cases e with
     |true =>
      rw [if_pos (hiff.mp rfl)] at hR
      wp_walk
      exact ⟨rfl,rfl,_,_,_,_,hrest,hvi',hwi',by omega,hR⟩
     |false =>
      rw [if_neg (fun q=>absurd (hiff.mpr q) Bool.false_ne_true)] at hR
      have hri:=aK7 A.in1 ⟨hp,g,d,tk,os⟩ a t c u prog w
      wp_walk using hri
      exact ⟨_,rfl,by simpa using hR⟩
  case fin =>
   rintro ⟨b1,b2⟩ s' ⟨hb',rfl,vs,ws,ns',ms',hz,hvi,hwi,hlen,hR⟩
   simp only at hb'
   subst hb'
   have hv:lexLt ns' ms'=decide (items.size < items2.size):=by
    cases hvi with
    |nil =>
     cases hwi with
     |nil =>
      simp only [List.length_nil] at hlen
      rw [lexLt_nil_nil]
      exact (decide_eq_false (by omega)).symm
     |cons c u hw =>
      simp only [List.length_nil,List.length_cons] at hlen
      rw [qG]
      exact (decide_eq_true (by omega)).symm
    |cons a t hv =>
     cases hwi with
     |nil =>
      simp only [List.length_nil,List.length_cons] at hlen
      rw [oV]
      exact (decide_eq_false (by omega)).symm
     |cons c u hw =>
      rw [List.zip_cons_cons] at hz
      cases hz
   rw [hv] at hR
   wp_walk
   exact ⟨_,rfl,by simpa [Builtin.Tuple.tupleCompareSizes] using hR⟩
  case h =>
   exact ⟨rfl,rfl,items.toList,items2.toList,ns,ms,rfl,hi,hj,by omega,h⟩
end
section
variable {prog:Program}{w:World}{A:Around}{E:Value->Shared->Prop}{s:Shared}
theorem lt_tupInts {l b:Addr}{items items2:Array Value}{ns ms:List Int}{Q:Value->Shared->Prop}(hl:IsTup s.heap l items) (hb:IsTup s.heap b items2) (hi:IntsAre items.toList ns) (hj:IntsAre items2.toList ms)
  (hu:A.units < cLine) (h:Q (.bool (lexLt ns ms)) s):wpAny (model prog w) A (compareOp .Lt (.ref l) (.ref b)) Q E s:=by
 obtain ⟨⟨cls,dd,data,sl⟩,ho,hc,n,hd⟩:=id hl
 obtain ⟨⟨cls2,dd2,data2,sl2⟩,ho2,hc2,n2,hd2⟩:=id hb
 simp only at hc hd hc2 hd2
 subst hc hd hc2 hd2
 exact richCompare_meets_room (op:= .Lt) ⟨_,ho,rfl⟩ ⟨_,ho2,rfl⟩ PySem.F.slot_tuple_lt PySem.F.entry_tuple_lt (PySem.F.args_tuple_lt_2 _ _) (jW l b items items2 n n2 dd dd2 sl sl2 ns ms hi hj)
  ⟨ho,ho2,show Value.bool (lexLt ns ms)≠Value.notImplemented/\Q (.bool (lexLt ns ms)) s from ⟨(fun x=>nomatch x),h⟩⟩ hu
theorem cat_tup {t b:Addr}{vs ws:List Value}{Q:Value->Shared->Prop}(ht:IsTup s.heap t vs.toArray) (hb:IsTup s.heap b ws.toArray) (hv:vs≠[])
  (h1:ws=[]->Q (.ref t) s) (h2:ws≠[]->Q (.ref s.heap.objs.size) { s with heap:=s.heap.push { cls:= .type "tuple",data:= .seq (vs++ws).toArray } })
  (hsz:vs.length+ws.length<=sizeLine):wpAny (model prog w) A (binaryOp .Add (.ref t) (.ref b)) Q E s:=by
 obtain ⟨⟨cls,dd,data,sl⟩,ho,hc,n,hd⟩:=id ht
 obtain ⟨⟨cls2,dd2,data2,sl2⟩,ho2,hc2,n2,hd2⟩:=id hb
 simp only at hc hd hc2 hd2
 subst hc hd hc2 hd2
 have e:vs.toArray++ws.toArray=(vs++ws).toArray:=by simp
 by_cases hw:ws=[]
 ·exact concat_meets ⟨_,ho,rfl⟩ ⟨_,ho2,rfl⟩ noFill_tuple_add seq_tuple_add PySem.F.slot_tuple_add PySem.F.entry_tuple_add (PySem.F.args_tuple_add_2 _ _)
   (tuple_addW1 t b vs.toArray ws.toArray n n2 dd dd2 sl sl2 (by simpa using hv) (by simp [hw])) ⟨ho,ho2,h1 hw⟩
 ·refine concat_meets ⟨_,ho,rfl⟩ ⟨_,ho2,rfl⟩ noFill_tuple_add seq_tuple_add PySem.F.slot_tuple_add PySem.F.entry_tuple_add (PySem.F.args_tuple_add_2 _ _)
   (tuple_addW2 t b vs.toArray ws.toArray n n2 dd dd2 sl sl2 (by simpa using hv) (by simpa using hw) (by rw [List.size_toArray,List.size_toArray];exact hsz)) ⟨ho,ho2,?_⟩
  rw [e]
  exact h2 hw
def sIx (n d:Nat):Option Int->Nat
 |none=>d
 |some v=>if v < 0 then (v+(n:Int)).toNat else min v.toNat n
end
end HT
namespace L2
open PySem PySem.Spec PyProof.Rows
abbrev TO:=St->Hp->(Option Int->Hp->Prop)->Prop
def PO (X:Cx) (e:Option Expr) (t:TO):Prop :=
 ∀ (pins:List (Addr×Obj)) (s:Shared) (σ: St) (H:Hp) (Q:Option Int->Hp->Prop),aN X pins σ H s->t σ H Q ->
  wpAny (model X.prog X.w) X.A (evalPart e X.env) (fun u s'=>∃ o H',aN X pins σ H' s'/\IsPart u o/\Q o H') X.xe s
def bM6 (t:TE):TO:=fun σ H Q=>t σ H fun x H1=>∃ i,x= .int i/\Q (some i) H1
theorem iH {ns:List Int}:∀ {us:List Value},aZ (ns.map V.int) us->IntsAre us ns:=by
 induction ns with
 |nil=>intro us r;rw [kg] at r;cases r;exact .nil
 |cons n ns ih =>
  intro us r
  rw [ar] at r
  cases r with
  |cons r1 r2 =>
   obtain ⟨t,e⟩:=r1
   subst e
   exact .cons n t (ih r2)
section
variable {X:Cx}{e:Expr}{te:TE}{lo hi:Option Expr}{tl th:TO}{pos p2:Pos}
theorem aB9 (h:PE X e te):PO X (some e) (bM6 te):=by
 intro pins s σ H Q I hw
 rw [evalPart_some]
 refine cI (h pins s σ H _ I hw) fun u s1 ⟨x,H1,I1,r1,q1⟩=>?_
 obtain ⟨i,rfl,q⟩:=q1
 obtain ⟨t,rfl⟩:=r1
 exact ⟨some i,H1,I1,.int i t,q⟩
def SlR (X:Cx) (r:V->Option Int->Option Int->Hp->VK->Prop):Prop :=
 ∀ (pins:List (Addr×Obj)) (s:Shared) (σ: St) (H:Hp) (x:V) (v vl vu:Value) (lo hi:Option Int) (sl:Addr) (Q:VK),aN X pins σ H s->bA x v->s.heap.IsSliceOf sl vl vu .none->IsPart vl lo->IsPart vu hi->r x lo hi H Q ->
  ∃ T id,typeLookup (.type T) "__getitem__"=pure (some (.builtin id))/\s.TypeIs v T/\wpAny (model X.prog X.w) X.A (getItem v (.ref sl)) (EP X pins σ Q) X.xe s
def tSl (r:V->Option Int->Option Int->Hp->VK->Prop) (te:TE) (tl th:TO):TE:=fun σ H Q=>te σ H fun x H1=>tl σ H1 fun l H2=>th σ H2 fun u H3=>r x l u H3 Q
theorem aO8 {r:V->Option Int->Option Int->Hp->VK->Prop}(hr:SlR X r) (he:PE X e te) (hl:PO X lo tl) (hu:PO X hi th):PE X (.Subscript e (.Slice lo hi none p2) pos) (tSl r te tl th):=by
 intro pins s σ H Q I h
 refine Subscript_ (cI (he pins s σ H _ I h) fun v s1 ⟨x,H1,I1,r1,q1⟩=>?_)
 refine wpAny_Slice (cI (hl pins s1 σ H1 _ I1 q1) fun vl s2 ⟨l,H2,I2,pl,q2⟩=>cI (hu pins s2 σ H2 _ I2 q2) fun vu s3 ⟨u,H3,I3,pu,q3⟩=>?_)
 rw [evalPart_none]
 refine ac ?_
 have I4:aN X pins σ H3 { s3 with heap:=s3.heap.push { cls:= .type "slice",data:= .fields #[vl,vu,.none] } }:=I3.kept (t':=s3.toks) fun b ob q=>ag _ q
 obtain ⟨T,id,hT,ht,hg⟩:=hr pins { s3 with heap:=s3.heap.push { cls:= .type "slice",data:= .fields #[vl,vu,.none] } } σ H3 x v vl vu l u s3.heap.objs.size Q I4 r1 (Heap.IsSliceOf.new ..) pl pu q3
 show wpAny (model X.prog X.w) X.A (subscriptTail e (.Slice lo hi none p2) v (.ref s3.heap.objs.size)) (EP X pins σ Q) X.xe { s3 with heap:=s3.heap.push { cls:= .type "slice",data:= .fields #[vl,vu,.none] } }
 exact tail_any (ops:=[.ref s3.heap.objs.size,v]) ht hT hg (by with_unfolding_all rfl)
def uC (xs:List V) (lo hi:Option Int):List V:=(xs.drop (HT.sIx xs.length 0 lo)).take (HT.sIx xs.length xs.length hi - HT.sIx xs.length 0 lo)
theorem wQ (xs:List V) (lo hi:Option Int):(uC xs lo hi).length<=xs.length:=by
 unfold uC
 rw [cq,xr]
 omega
def bL9 (K:PySem.W.Frag):R2:=fun x y H Q=>∃ a b ns ms,x= .ref a/\y= .ref b/\aV K H a (ns.map V.int)/\aV K H b (ms.map V.int)/\Q (.bl (HT.lexLt ns ms)) H
theorem bE1 (hu:X.A.units < cLine):iV X (compareOp .Lt) (bL9 X.K):=by
 intro pins s σ H x y v u Q I rx ry h
 obtain ⟨a,b,ns,ms,rfl,rfl,ha,hb,q⟩:=h
 cases rx
 cases ry
 obtain ⟨its,r1,p1,_⟩:=I.tuple ha
 obtain ⟨its2,r2,p2,_⟩:=I.tuple hb
 have i1:IntsAre its.toArray.toList ns:=iH r1
 have i2:IntsAre its2.toArray.toList ms:=iH r2
 exact HT.lt_tupInts p1 p2 i1 i2 hu ⟨.bl (HT.lexLt ns ms),H,I,rfl,q⟩
def bK7 (K:PySem.W.Frag):R2:=fun x y H Q=>∃ a b xs ys,x= .ref a/\y= .ref b/\aV K H a xs/\aV K H b ys/\xs≠[]/\xs.length+ys.length<=sizeLine /\
 (ys=[]->Q (.ref a) H)/\(ys≠[]->∀ p,H p=none->Q (.ref p) (aJ H p (.tup (xs++ys))))
theorem aZ.nil_iff {xs:List V}{us:List Value}(r:aZ xs us):us=[]↔xs=[]:=by
 cases r with
 |nil=>simp
 |cons _ _=>simp
theorem aX9:iV X (binaryOp .Add) (bK7 X.K):=by
 intro pins s σ H x y v u Q I rx ry h
 obtain ⟨a,b,xs,ys,rfl,rfl,ha,hb,hx,hz,q1,q2⟩:=h
 cases rx
 cases ry
 obtain ⟨its,r1,p1,_⟩:=I.tuple ha
 obtain ⟨its2,r2,p2,_⟩:=I.tuple hb
 refine HT.cat_tup p1 p2 (fun z=>hx (r1.nil_iff.mp z)) (fun z=>⟨.ref a,H,I,rfl,q1 (r2.nil_iff.mp z)⟩) (fun z=>?_) (by rw [<- r1.length, <- r2.length];exact hz)
 refine ⟨.ref s.heap.objs.size,_,I.laid (t':=s.toks) (o:= .tup (xs++ys)) (fun b ob q=>ag _ q) (ak _) ?_,rfl,q2 (fun w=>z (r2.nil_iff.mpr w)) _ (I.hok.fresh (ak _))⟩
 exact ⟨by rw [cb];exact hz,_,r1.append r2,jY.new _ _⟩
end
def ixN (n:Nat) (i:Int):Option Nat:=if 0<=i then (if i < n then some i.toNat else none) else if -(n:Int)<=i then some (i+n).toNat else none
def uJ {α: Type}(xs:List α) (i:Int):Option α:=(ixN xs.length i).bind fun j=>xs[j]?
theorem lC {n:Nat}{i:Int}{j:Nat}(h:ixN n i=some j):seqIndex? i n=some j/\j < n/\ -(n:Int)<=i/\i < n:=by
 unfold ixN at h
 by_cases h0:0<=i
 ·rw [bb h0] at h
  by_cases h1:i < n
  ·rw [bb h1] at h
   have e:i.toNat=j:=da h
   exact ⟨by rw [aBd h0 h1,e],by omega,by omega,h1⟩
  ·rw [ao h1] at h;cases h
 ·rw [ao h0] at h
  by_cases h1: -(n:Int)<=i
  ·rw [bb h1] at h
   have e:(i+n).toNat=j:=da h
   exact ⟨by rw [aAv (by omega) h1,e],by omega,h1,by omega⟩
  ·rw [ao h1] at h;cases h
theorem zZ {α: Type}{xs:List α}{i:Int}{v:α}(h:uJ xs i=some v):∃ j,seqIndex? i xs.length=some j/\xs[j]?=some v/\j < xs.length/\ -(xs.length:Int)<=i/\i < xs.length:=by
 unfold uJ at h
 cases e:ixN xs.length i with
 |none=>rw [e] at h;cases h
 |some j =>
  rw [e] at h
  obtain ⟨h1,h2,h3,h4⟩:=lC e
  exact ⟨j,h1,h,h2,h3,h4⟩
theorem lJ {α: Type}{xs:List α}{j:Nat}{v:α}(h:xs[j]?=some v):uJ xs (j:Int)=some v:=by
 have hj:j < xs.length:=(bq.mp h).1
 have e:ixN xs.length (j:Int)=some j:=by
  unfold ixN
  rw [bb (by omega),bb (by omega)];simp
 unfold uJ;rw [e];exact h
def zS (b:Expr):Prop:=∀ o i,subscripted b false o i=operate [o,i] (getItem o i)
def IxR (X:Cx) (r:R2):Prop :=
 ∀ (value slice:Expr) (pins:List (Addr×Obj)) (s:Shared) (σ: St) (H:Hp) (x y:V) (v u:Value) (Q:VK),aN X pins σ H s->bA x v->bA y u->r x y H Q ->
  subscripted slice false v u=operate [v,u] (getItem v u)->wpAny (model X.prog X.w) X.A (subscriptTail value slice v u) (EP X pins σ Q) X.xe s
def MtR (X:Cx) (id:String) (r:V->List V->Hp->VK->Prop):Prop :=
 ∀ (pins:List (Addr×Obj)) (s:Shared) (σ: St) (H:Hp) (x:V) (xs:List V) (v:Value) (us:List Value) (Q:VK),aN X pins σ H s->bA x v->aZ xs us->r x xs H Q ->
  wpAny (model X.prog X.w) X.A (call (.builtin id) (v :: us)) (EP X pins σ Q) X.xe s
section
variable {X:Cx}{a b:Expr}{ta tb:TE}{pos:Pos}
theorem bN1 {r:R2}(hr:IxR X r) (ha:PE X a ta) (hb:PE X b tb) (hs:zS b):PE X (.Subscript a b pos) (tOp r ta tb):=by
 intro pins s σ H Q I h
 exact Subscript_ (bB3 ha hb I h fun v u s2 x y H2 I2 rx ry q=>hr a b pins s2 σ H2 x y v u Q I2 rx ry q (hs _ _))
def bT5 (K:PySem.W.Frag):R2:=fun x y H Q=>∃ p xs i v,x= .ref p/\y= .int i/\bK K H p xs/\uJ xs i=some v/\Q v H
def bO9 (K:PySem.W.Frag):R2:=fun x y H Q=>∃ p xs i v,x= .ref p/\y= .int i/\aV K H p xs/\uJ xs i=some v/\Q v H
theorem cN:IxR X (bT5 X.K):=by
 intro value slice pins s σ H x y v u Q I rx ry h hs
 obtain ⟨p,xs,i,z,rfl,rfl,hq,he,q⟩:=h
 cases rx
 obtain ⟨t,rfl⟩:=ry
 obtain ⟨its,r,pl,hz⟩:=I.list hq
 obtain ⟨j,h1,h2,h3,h4,h5⟩:=zZ he
 obtain ⟨w,ew,rw'⟩:=r.get h2
 have hl:=r.length
 have hn:=tD
 have fin:EP X pins σ Q w s:=⟨z,H,I,rw',q⟩
 by_cases h0:0<=i
 ·have hj:i.toNat=j:=by
   rw [aBd h0 h5] at h1
   exact da h1
  exact item_listR pl.isList h0 (by omega) (by rw [hj];simpa using ew) fin hs
 ·have hj:(i+(its.toArray.size:Int)).toNat=j:=by
   rw [aAv (by omega) h4] at h1
   rw [bp, <- hl]
   exact da h1
  exact yz (x:=w) pl.isList.typeIs slot_list_getitem.lookup
   (wpAny_getItem_list_neg (Q:=fun r s'=>r=w/\EP X pins σ Q r s') pl.isList (by omega) (by rw [bp] <;> omega) (by omega) (by rw [hj];simpa using ew) ⟨rfl,fin⟩) hs
theorem aM:IxR X (bO9 X.K):=by
 intro value slice pins s σ H x y v u Q I rx ry h hs
 obtain ⟨p,xs,i,z,rfl,rfl,hq,he,q⟩:=h
 cases rx
 obtain ⟨t,rfl⟩:=ry
 obtain ⟨its,r,pl,hz⟩:=I.tuple hq
 obtain ⟨j,h1,h2,h3,h4,h5⟩:=zZ he
 obtain ⟨w,ew,rw'⟩:=r.get h2
 have hl:=r.length
 have hn:=tD
 have fin:EP X pins σ Q w s:=⟨z,H,I,rw',q⟩
 exact yz (x:=w) pl.typeIs slot_tuple_getitem.lookup
  (getItem_tuple (j:=j) (Q:=fun r s'=>r=w/\EP X pins σ Q r s') pl (by omega) (by omega) (by rw [bp, <- hl];exact h1) (by simpa using ew) ⟨rfl,fin⟩) hs
theorem yU (its:List Value) (n j:Nat) (u:Value):Obj.mapSeq (·.setIfInBounds j u) { cls:= .type "list",data:= .seq its.toArray n }={ cls:= .type "list",data:= .seq (its.set j u).toArray n }:=by
 simp [Obj.mapSeq]
theorem aN.lst {pins:List (Addr×Obj)}{σ: St}{H:Hp}{s:Shared}{p:Addr}{xs:List V}(I:aN X pins σ H s) (h:H p=some (.lst xs)) :
  ∃ (its:List Value) (n:Nat),aZ xs its/\s.heap.get? p=some { cls:= .type "list",data:= .seq its.toArray n }/\xs.length<=sizeLine:=by
 obtain ⟨z,its,n,r,e⟩:=I.hok p _ h
 exact ⟨its,n,r,e,z⟩
theorem aN.lstUpd {pins:List (Addr×Obj)}{σ: St}{H:Hp}{s:Shared}{p:Addr}{xs ys:List V}{its its':List Value}{n n':Nat}{f:Obj->Obj}(I:aN X pins σ H s) (h:H p=some (.lst xs))
  (ho:s.heap.get? p=some { cls:= .type "list",data:= .seq its.toArray n }) (hf:f { cls:= .type "list",data:= .seq its.toArray n }={ cls:= .type "list",data:= .seq its'.toArray n' }) (r:aZ ys its') (hz:ys.length<=sizeLine) (t:Nat) :
  aN X pins σ (aJ H p (.lst ys)) { s with heap:=s.heap.update p f,toks:=t }:=by
 have e:(s.heap.update p f).get? p=some { cls:= .type "list",data:= .seq its'.toArray n' }:=by
  rw [jd f ho (by rw [hf] <;> rfl),hf]
 refine I.write (x:=p) (e:=p) (by rw [h];trivial) (.inl rfl) (fun b u hb q=>(sx _ _ (Ne.symm hb)).trans q) ⟨_,e⟩ ?_
 exact ⟨hz,its',n',r,e⟩
def rSetL:V->V->V->Hp->(Hp->Prop)->Prop:=fun o i v H Q=>∃ p xs k j,o= .ref p/\i= .int k/\H p=some (.lst xs)/\ixN xs.length k=some j/\Q (aJ H p (.lst (xs.set j v)))
theorem uS:bR4 X rSetL:=by
 intro pins s σ H o i v ov iv u Q I ro ri rv h
 obtain ⟨p,xs,k,j,rfl,rfl,hp,hj,q⟩:=h
 cases ro
 obtain ⟨t,rfl⟩:=ri
 obtain ⟨its,n,r,ho,hz⟩:=I.lst hp
 obtain ⟨h1,h2,h3,h4⟩:=lC hj
 have hl:=r.length
 have hn:=tD
 have I':aN X pins σ (aJ H p (.lst (xs.set j v))) { s with heap:=s.heap.update p (Obj.mapSeq (·.setIfInBounds j u)) } :=
  I.lstUpd hp ho (yU its n j u) (r.set rv j) (by rw [List.length_set];exact hz) s.toks
 by_cases h0:0<=k
 ·have hk:k.toNat=j:=by
   rw [aBd h0 h4] at h1
   exact da h1
  exact PySem.W.ki_setAt ho h0 (by omega) (by rw [bp, <- hl];exact h4) (by rw [hk];exact ⟨_,I',q⟩)
 ·have hk:(k+(its.toArray.size:Int)).toNat=j:=by
   rw [aAv (by omega) h3] at h1
   rw [bp, <- hl]
   exact da h1
  exact PySem.W.ki_setBack ho (by omega) (by rw [bp, <- hl];exact h3) (by omega) (by rw [hk];exact ⟨_,I',q⟩)
theorem uD (lo hi:Option Int) (n:Nat):(sliceBounds lo hi none n).1=((HT.sIx n 0 lo:Nat):Int)/\(sliceBounds lo hi none n).2.1=((HT.sIx n n hi:Nat):Int)/\(sliceBounds lo hi none n).2.2=1:=by
 refine ⟨?_,?_,rfl⟩
 ·cases lo with
  |none=>simp [sliceBounds,HT.sIx]
  |some i =>
   simp only [sliceBounds,HT.sIx,Option.getD_none,show (1:Int) > 0 by decide,if_true]
   by_cases h:i < 0
   ·simp only [h,if_true] <;> omega
   ·simp only [h,if_false] <;> omega
 ·cases hi with
  |none=>simp [sliceBounds,HT.sIx]
  |some i =>
   simp only [sliceBounds,HT.sIx,Option.getD_none,show (1:Int) > 0 by decide,if_true]
   by_cases h:i < 0
   ·simp only [h,if_true] <;> omega
   ·simp only [h,if_false] <;> omega
theorem qN (its:List Value) (lo hi:Option Int):slicePick its.toArray lo hi none=((its.drop (HT.sIx its.length 0 lo)).take (HT.sIx its.length its.length hi - HT.sIx its.length 0 lo)).toArray:=by
 obtain ⟨h1,h2,h3⟩:=uD lo hi its.toArray.size
 unfold slicePick
 rw [h1,h2,h3]
 simp only [sliceRange_one,pick_run,List.size_toArray] <;> rfl
def bT6 (K:PySem.W.Frag):V->Option Int->Option Int->Hp->VK->Prop:=fun x lo hi H Q=>∃ a xs,x= .ref a/\bK K H a xs/\∀ p,H p=none->Q (.ref p) (aJ H p (.lst (uC xs lo hi)))
theorem aX2:SlR X (bT6 X.K):=by
 intro pins s σ H x v vl vu lo hi sl Q I rx hs pl pu h
 obtain ⟨a,xs,rfl,hx,q⟩:=h
 cases rx
 obtain ⟨its,r,ht,hz⟩:=I.list hx
 have hlen:=r.length
 refine ⟨"list",_,slot_list_getitem.lookup,ht.isList.typeIs,?_⟩
 refine wpAny_getItem_list_slice ht.isList hs pl pu .none (by simp) ?_ (by rw [List.size_toArray] <;> omega)
 rw [qN, <- hlen]
 refine ⟨.ref s.heap.objs.size,_,I.laid (t':=s.toks) (o:= .lst (uC xs lo hi)) (fun b ob q=>ag _ q) (ak _) ?_,rfl,q _ (I.hok.fresh (ak _))⟩
 exact ⟨cj (wQ xs lo hi) hz,_,0,(r.drop (HT.sIx xs.length 0 lo)).take (HT.sIx xs.length xs.length hi - HT.sIx xs.length 0 lo),aq _ rfl⟩
theorem bJ:cB X (.builtin "len") (fun xs H Q=>∃ p ys,xs=[.ref p]/\(bK X.K H p ys\/aV X.K H p ys)/\Q (.int ys.length) H):=by
 intro pins s σ H xs us Q I r h
 obtain ⟨p,ys,rfl,hq,q⟩:=h
 obtain ⟨u,rfl,rx⟩:=eW r
 cases rx
 have hn:=tD
 rcases hq with hq | hq
 ·obtain ⟨its,r',pl,hz⟩:=I.list hq
  have hlen:=r'.length
  exact Calls.call_len_list pl.isList (by simp only [List.size_toArray] <;> omega) ⟨.int ys.length,H,I.tok _,⟨s.toks+1,by rw [bp,hlen]⟩,q⟩
 ·obtain ⟨its,r',pl,hz⟩:=I.tuple hq
  have hlen:=r'.length
  exact len_tuple pl (by simp only [List.size_toArray] <;> omega) ⟨.int ys.length,H,I.tok _,⟨s.toks+1,by rw [bp,hlen]⟩,q⟩
theorem cB.or {f:Value}{r r':List V->Hp->VK->Prop}(h:cB X f r) (h':cB X f r'):cB X f (fun xs H Q=>r xs H Q\/r' xs H Q):=by
 intro pins s σ H xs us Q I rs q
 rcases q with q | q
 ·exact h pins s σ H xs us Q I rs q
 ·exact h' pins s σ H xs us Q I rs q
theorem fQ:cB X (.type "list") (fun xs H Q=>∃ p ys,xs=[.ref p]/\(bK X.K H p ys\/aV X.K H p ys)/\∀ l,H l=none->Q (.ref l) (aJ H l (.lst ys))):=by
 intro pins s σ H xs us Q I r h
 obtain ⟨p,ys,rfl,hq,q⟩:=h
 obtain ⟨u,rfl,rx⟩:=eW r
 cases rx
 have fin:∀ (its:List Value),aZ ys its->ys.length<=sizeLine->∀ (h':Heap) (c':Nat),(∀ b o',s.heap.get? b=some o'->h'.get? b=some o') ->
   h'.get? s.heap.objs.size=some { cls:= .type "list",dict:=none,data:= .seq its.toArray c',slots:= #[] }->EP X pins σ Q (.ref s.heap.objs.size) { s with heap:=h' }:=fun its r' hz h' c' kp e =>
  ⟨.ref s.heap.objs.size,_,I.laid (t':=s.toks) kp (ak _) (show bD X.prog X.w _ h' _ (.lst ys) from ⟨hz,its,c',r',e⟩),rfl,q _ (I.hok.fresh (ak _))⟩
 rcases hq with hq | hq
 ·obtain ⟨its,r',pl,hz⟩:=I.list hq
  have hlen:=r'.length
  obtain ⟨o,ho,hc,n,hd⟩:=pl.isList
  exact call_list_seq p (.inl rfl) ho hc hd (fun h' c' kp e=>fin its r' hz h' c' kp e) (by simp only [List.size_toArray] <;> omega)
 ·obtain ⟨its,r',pl,hz⟩:=I.tuple hq
  have hlen:=r'.length
  obtain ⟨o,ho,hc,n,hd⟩:=pl
  exact call_list_seq p (.inr rfl) ho hc hd (fun h' c' kp e=>fin its r' hz h' c' kp e) (by simp only [List.size_toArray] <;> omega)
theorem fI:cB X (.type "tuple") (fun xs H Q=>∃ p ys,xs=[.ref p]/\((bK X.K H p ys/\∀ l,H l=none->Q (.ref l) (aJ H l (.tup ys)))\/(aV X.K H p ys/\Q (.ref p) H))):=by
 intro pins s σ H xs us Q I r h
 obtain ⟨p,ys,rfl,h⟩:=h
 obtain ⟨u,rfl,rx⟩:=eW r
 cases rx
 rcases h with ⟨hq,q⟩ | ⟨hq,q⟩
 ·obtain ⟨its,r',pl,hz⟩:=I.list hq
  have hlen:=r'.length
  refine call_tuple_list pl.isList (fun h' kp=>?_) (by simp only [List.size_toArray] <;> omega)
  have I1:aN X pins σ H { s with heap:=h' }:=I.kept (t':=s.toks) kp
  have I2:aN X pins σ (aJ H h'.objs.size (.tup ys)) { s with heap:=h'.push { cls:= .type "tuple",data:= .seq its.toArray } } :=
   I1.laid (t':=s.toks) (fun b o e=>ag _ e) (ak _) (show bD X.prog X.w _ _ _ (.tup ys) from ⟨hz,its,r',jY.new _ _⟩)
  exact ⟨.ref h'.objs.size,_,I2,rfl,q _ (I1.hok.fresh (ak _))⟩
 ·obtain ⟨its,r',pl,hz⟩:=I.tuple hq
  exact call_tuple_same pl ⟨.ref p,H,I,rfl,q⟩
def tyV (K:PySem.W.Frag) (T:String) (x:V) (H:Hp):Prop:=match x with
 |.str _=>T="str"
 |.int _=>T="int"
 |.ref p=>(T="list"/\∃ xs,bK K H p xs)\/(T="tuple"/\∃ o,K.lookup p=some o/\o.cls= .type "tuple"/\o.dict=none) \/
   (T="dict"/\((∃ kvs,H p=some (.dK kvs))\/∃ kvs,H p=some (.dT kvs)))\/(T="set"/\∃ S n,H p=some (.set S n))
 |_=>False
theorem aN7 {pins:List (Addr×Obj)}{σ: St}{H:Hp}{s:Shared}{T:String}{x:V}{v:Value}(I:aN X pins σ H s) (r:bA x v) (ty:tyV X.K T x H) :
  s.TypeIs v T/\∀ a,v= .ref a->∃ ob,s.heap.get? a=some ob/\ob.dict=none:=by
 cases x with
 |str z =>
  obtain ⟨t,rfl⟩:=r
  cases (show T="str" from ty)
  exact ⟨typeIs_str s z t,fun _ e=>nomatch e⟩
 |int i =>
  obtain ⟨t,rfl⟩:=r
  cases (show T="int" from ty)
  exact ⟨typeIs_int s i t,fun _ e=>nomatch e⟩
 |ref p =>
  cases r
  rcases ty with ⟨rfl,xs,hq⟩ | ⟨rfl,o,hk,hc,hd⟩ | ⟨rfl,hk⟩ | ⟨rfl,S,n,hk⟩
  ·obtain ⟨its,_,pl,_⟩:=I.list hq
   refine ⟨pl.isList.typeIs,fun a e=>?_⟩
   cases e
   obtain ⟨o,n,e,c,hd,_⟩:=pl
   exact ⟨o,e,hd⟩
  ·refine ⟨⟨o,I.kIn p o hk,hc⟩,fun a e=>?_⟩
   cases e
   exact ⟨o,I.kIn _ o hk,hd⟩
  ·have z:∃ o,s.heap.get? p=some o/\o.ExactDict:=by
    rcases hk with ⟨kvs,hk⟩ | ⟨kvs,hk⟩
    ·obtain ⟨_,_,_,_,o,_,_,e,ex,_⟩:=I.hok p _ hk
     exact ⟨o,e,ex⟩
    ·obtain ⟨_,_,_,_,o,_,_,e,ex,_⟩:=I.hok p _ hk
     exact ⟨o,e,ex⟩
   obtain ⟨o,e,ex⟩:=z
   refine ⟨⟨o,e,ex.1⟩,fun a e2=>?_⟩
   cases e2
   exact ⟨o,e,ex.2.1⟩
  ·obtain ⟨o,_,_,_,e,ex,_⟩:=I.hok p _ hk
   refine ⟨⟨o,e,ex.1⟩,fun a e2=>?_⟩
   cases e2
   exact ⟨o,e,ex.2.1⟩
 |_=>exact False.elim ty
def bU6 (K:PySem.W.Frag) (T:String) (r:V->List V->Hp->VK->Prop) (to:TE):TE:=fun σ H Q=>to σ H fun x H1=>tyV K T x H1/\r x [] H1 Q
def tBM (K:PySem.W.Frag) (T:String) (r:V->List V->Hp->VK->Prop) (to:TE) (t:TA):TE:=fun σ H Q=>to σ H fun x H1=>tyV K T x H1/\t σ H1 fun xs H2=>r x xs H2 Q
variable {o e:Expr}{es:List Expr}{to:TE}{t:TA}{name:Str}{apos cpos:Pos}{T id:String}{r:V->List V->Hp->VK->Prop}
theorem aH9 (pa:PlainAttrs T) (slot:Slot T name id) (hty:typeOf (.builtin id)=pure (.type "method_descriptor")) (hm:MtR X id r) (ho:PE X o to)
  (hbase:attributeBase o name X.env (eval o X.env)=eval o X.env:=by rfl) (hline:(apos.endLine == cpos.line)=true:=by rfl):PE X (.Call (.Attribute o name apos) [] [] cpos) (bU6 X.K T r to):=by
 intro pins s σ H Q I h
 refine nh hbase hline (cI (ho pins s σ H _ I h) fun v s1 ⟨x,H1,I1,r1,ty,q1⟩=>?_)
 obtain ⟨h1,h2⟩:=aN7 I1 r1 ty
 exact ⟨T,id,pa,slot,hty,h1,h2,gy rfl (qh (hm pins s1 σ H1 x [] v [] Q I1 r1 .nil q1))⟩
theorem mT (pa:PlainAttrs T) (slot:Slot T name id) (hty:typeOf (.builtin id)=pure (.type "method_descriptor")) (hm:MtR X id r) (ho:PE X o to) (ha:PA X (e :: es) t)
  (hbase:attributeBase o name X.env (eval o X.env)=eval o X.env:=by rfl)
  (hfew:((backTo cpos (starEach (e :: es) X.env)).all (fun x=> !x.1) && (backToKw cpos (keywordEach [] X.env)).all (fun x=>x.1.isSome)
   && decide ((e :: es).length+([]:List Keyword).length+(if ([]:List Keyword).isEmpty then 0 else 1) < 30))=true:=by rfl)
  (hline:(apos.endLine == cpos.line)=true:=by rfl) (hs:starEach (e :: es) X.env=(false,eval e X.env) :: starEach es X.env:=by rfl) (hplain:(backTo cpos (starEach es X.env)).any (·.1)=false:=by rfl) :
  PE X (.Call (.Attribute o name apos) (e :: es) [] cpos) (tBM X.K T r to t):=by
 intro pins s σ H Q I h
 refine wpAny_Call_method_late hbase hfew hline rfl (cI (ho pins s σ H _ I h) fun v s1 ⟨x,H1,I1,r1,ty,q1⟩=>?_)
 obtain ⟨h1,h2⟩:=aN7 I1 r1 ty
 refine ⟨T,id,pa,slot,hty,h1,h2,?_⟩
 have hA:=ha cpos pins s1 σ H1 _ I1 q1
 rw [hs] at hA ⊢
 refine gy (by show (false || (backTo cpos (starEach es X.env)).any (·.1))=false;rw [hplain] <;> rfl) (uw ?_)
 exact cI hA fun us s2 ⟨vs,H2,I2,r2,q2⟩=>hm pins s2 σ H2 x vs v us Q I2 r1 r2 q2
end
def MtM (X:Cx) (id:String) (r:V->List V->Hp->VK->Prop):Prop :=
 ∀ (pins:List (Addr×Obj)) (s:Shared) (σ: St) (H:Hp) (x:V) (xs:List V) (v:Value) (us:List Value) (Q:VK),aN X pins σ H s->bA x v->aZ xs us->r x xs H Q ->
  wpAny (model X.prog X.w) X.A (call (.builtin id) (v :: us)) (EP X pins σ Q) X.xe s
theorem aZ.one:∀ {x:V}{us:List Value},aZ [x] us->∃ u,us=[u]/\bA x u
 |_,_,.cons r .nil=>⟨_,rfl,r⟩
theorem aZ.zero:∀ {us:List Value},aZ [] us->us=[]
 |_,.nil=>rfl
theorem aZ.dropLast {xs:List V}{us:List Value}(h:aZ xs us):aZ xs.dropLast us.dropLast:=by
 induction h with
 |nil=>exact .nil
 |cons r t ih =>
  cases t with
  |nil=>exact .nil
  |cons q t'=>exact .cons r ih
theorem aZ.eraseIdx:∀ {xs:List V}{us:List Value}(i:Nat),aZ xs us->aZ (xs.eraseIdx i) (us.eraseIdx i)
 |_,_,_,.nil=> .nil
 |_,_,0,.cons _ t=>t
 |_,_,i+1,.cons r t=> .cons r (aZ.eraseIdx i t)
theorem aZ.reverse {xs:List V}{us:List Value}(h:aZ xs us):aZ xs.reverse us.reverse:=by
 induction h with
 |nil=>exact .nil
 |cons r t ih=>rw [rq,rq];exact aZ.append ih (.cons r .nil)
theorem zI {α: Type}(l:List α):l.eraseIdx (l.length - 1)=l.dropLast:=by
 induction l with
 |nil=>rfl
 |cons a r ih =>
  cases r with
  |nil=>rfl
  |cons b r =>
   have e:(a :: b :: r).length - 1=((b :: r).length - 1)+1:=by
    rfl
   rw [e,io,ih]
   all_goals rfl
theorem rW {α: Type}:∀ (l:List α) (i:Nat),(l.eraseIdx i).length<=l.length
 |[],_=>ak _
 |_ :: _,0=>aBe _
 |_ :: r,i+1=>Nat.succ_le_succ (rW r i)
section
variable {X:Cx}{pins:List (Addr×Obj)}{σ: St}{H:Hp}{s:Shared}{l b:Addr}{xs ys zs:List V}
theorem aN.lset {its its':List Value}{n:Nat}{f:Array Value->Array Value}{t':Nat}(I:aN X pins σ H s) (hH:H l=some (.lst xs))
  (e:s.heap.get? l=some { cls:= .type "list",data:= .seq its.toArray n }) (hf:f its.toArray=its'.toArray) (hv:aZ ys its') (hz:ys.length<=sizeLine) :
  aN X pins σ (aJ H l (.lst ys)) { s with heap:=s.heap.update l (Obj.mapSeq f),toks:=t' }:=by
 have q:=PySem.IsL.update e f
 rw [hf] at q
 refine I.write (x:=l) (e:=l) (by rw [hH];exact trivial) (.inl rfl) (fun b' u hb hu=>(sx s.heap (Obj.mapSeq f) (Ne.symm hb)).trans hu) ⟨_,q⟩ ?_
 exact ⟨hz,its',_,hv,q⟩
theorem aN.lnew {its:List Value}{t':Nat}(I:aN X pins σ H s) (hv:aZ ys its) (hz:ys.length<=sizeLine) :
  aN X pins σ (aJ H s.heap.objs.size (.lst ys)) { s with heap:=s.heap.push { cls:= .type "list",data:= .seq its.toArray },toks:=t' } :=
 I.laid (fun _ _ q=>ag _ q) (ak _) ⟨hz,its,0,hv,aq _ rfl⟩
theorem aN.fresh (I:aN X pins σ H s):H s.heap.objs.size=none:=I.hok.fresh (ak _)
theorem aN.lstM (I:aN X pins σ H s) (hH:H l=some (.lst xs)):xs.length<=sizeLine/\∃ (its:List Value) (n:Nat),aZ xs its/\xs.length=its.length/\s.heap.get? l=some { cls:= .type "list",data:= .seq its.toArray n }:=by
 obtain ⟨z,its,n,r,e⟩:=I.hok l _ hH
 exact ⟨z,its,n,r,r.length,e⟩
end
section
variable {X:Cx}
def rAppend:V->List V->Hp->VK->Prop:=fun x vs H Q=>∃ l xs y,x= .ref l/\vs=[y]/\H l=some (.lst xs)/\xs.length < sizeLine/\Q .non (aJ H l (.lst (xs++[y])))
theorem mH:MtM X "list.append" rAppend:=by
 intro pins s σ H x vs v us Q I rx rv h
 obtain ⟨l,xs,y,rfl,rfl,hH,hz,q⟩:=h
 cases rx
 obtain ⟨u,rfl,ru⟩:=rv.one
 obtain ⟨z,its,n,r,hl,e⟩:=I.lstM hH
 refine pp F.slot_list_append ⟨_,e,rfl⟩ F.entry_list_append (F.args_list_append_2 _ _) (PySem.list_append l its.toArray n u (by rw [bp];omega)) ⟨e,?_⟩
 refine ⟨.non,_,I.lset (its':=its++[u]) hH e (by simp) (r.append (.cons ru .nil)) ?_,rfl,q⟩
 rw [cb,List.length_singleton]
 omega
def rPop:V->List V->Hp->VK->Prop:=fun x vs H Q=>∃ l xs y,x= .ref l/\vs=[]/\H l=some (.lst xs)/\xs[xs.length - 1]?=some y/\Q y (aJ H l (.lst xs.dropLast))
theorem bH7:MtM X "list.pop" rPop:=by
 intro pins s σ H x vs v us Q I rx rv h
 obtain ⟨l,xs,y,rfl,rfl,hH,hy,q⟩:=h
 cases rx
 have hus:=rv.zero
 subst hus
 obtain ⟨z,its,n,r,hl,e⟩:=I.lstM hH
 obtain ⟨u,hu,ru⟩:=r.get hy
 have hy':its.toArray[its.toArray.size - 1]?=some u:=by
  show its.toArray[its.length - 1]?=some u
  rw [<- eo, <- hl]
  exact hu
 refine pp F.slot_list_pop ⟨_,e,rfl⟩ F.entry_list_pop (F.args_list_pop_1 _) (MeetsSeq.list_pop_last l its.toArray n u hy' (by rw [bp];omega)) ⟨e,?_⟩
 refine ⟨y,_,I.lset (its':=its.dropLast) hH e ?_ r.dropLast ?_,ru,q⟩
 ·show its.toArray.eraseIdxIfInBounds (its.toArray.size - 1)=its.dropLast.toArray
  rw [bp,ui,zI]
 ·rw [aAc]
  omega
def rPopAt:V->List V->Hp->VK->Prop:=fun x vs H Q=>∃ l xs i k y,x= .ref l/\vs=[.int i]/\H l=some (.lst xs)/\ -(2 ^ 63)<=i/\i < 2 ^ 63/\seqIndex? i xs.length=some k/\xs[k]?=some y/\Q y (aJ H l (.lst (xs.eraseIdx k)))
theorem pS:MtM X "list.pop" rPopAt:=by
 intro pins s σ H x vs v us Q I rx rv h
 obtain ⟨l,xs,i,k,y,rfl,rfl,hH,h1,h2,hk,hy,q⟩:=h
 cases rx
 obtain ⟨u,rfl,ru⟩:=rv.one
 obtain ⟨t,rfl⟩:=ru
 obtain ⟨z,its,n,r,hl,e⟩:=I.lstM hH
 obtain ⟨w,hw,rw'⟩:=r.get hy
 refine pp F.slot_list_pop ⟨_,e,rfl⟩ F.entry_list_pop (F.args_list_pop_2 _ _)
  (MeetsSeq.list_pop_at l its.toArray n i t k w (fitsIndex_both h1 h2) (by rw [bp, <- hl];exact hk) (by rw [<- eo];exact hw) (by rw [bp];omega)) ⟨e,?_⟩
 refine ⟨y,_,I.lset (its':=its.eraseIdx k) hH e ?_ (r.eraseIdx k) ?_,rw',q⟩
 ·show its.toArray.eraseIdxIfInBounds k=(its.eraseIdx k).toArray
  rw [ui]
 ·have:=rW xs k
  omega
def rReverse:V->List V->Hp->VK->Prop:=fun x vs H Q=>∃ l xs,x= .ref l/\vs=[]/\H l=some (.lst xs)/\Q .non (aJ H l (.lst xs.reverse))
theorem yN:MtM X "list.reverse" rReverse:=by
 intro pins s σ H x vs v us Q I rx rv h
 obtain ⟨l,xs,rfl,rfl,hH,q⟩:=h
 cases rx
 have hus:=rv.zero
 subst hus
 obtain ⟨z,its,n,r,hl,e⟩:=I.lstM hH
 refine pp F.slot_list_reverse ⟨_,e,rfl⟩ F.entry_list_reverse (F.args_list_reverse_1 _) (AutoSeq1.list_reverse_list_0 l its.toArray n (by rw [bp];omega)) ⟨e,?_⟩
 refine ⟨.non,_,I.lset (its':=its.reverse) hH e (by simp) r.reverse ?_,rfl,q⟩
 rw [jr]
 omega
def rCat:R2:=fun x y H Q=>∃ l b xs zs,x= .ref l/\y= .ref b/\H l=some (.lst xs)/\H b=some (.lst zs)/\xs.length+zs.length<=sizeLine/\∀ p,H p=none->Q (.ref p) (aJ H p (.lst (xs++zs)))
theorem bD8:iV X (binaryOp .Add) rCat:=by
 intro pins s σ H x y v u Q I rx ry h
 obtain ⟨l,b,xs,zs,rfl,rfl,hH,hB,hz,q⟩:=h
 cases rx
 cases ry
 obtain ⟨z,its,n,r,hl,e⟩:=I.lstM hH
 obtain ⟨z2,its2,n2,r2,hl2,e2⟩:=I.lstM hB
 refine PySem.P.add_list e e2 ?_ (by rw [bp,bp];omega)
 have ea:its.toArray++its2.toArray=(its++its2).toArray:=by simp
 rw [ea]
 exact ⟨.ref _,_,I.lnew (t':=s.toks) (r.append r2) (by rw [cb];omega),rfl,q _ I.fresh⟩
end
section
variable {prog:Program}{w:World}{A:Around}{E:Value->Shared->Prop}{s:Shared}
end
section
variable {X:Cx}
end
end L2
namespace Att
open PySem PySem.W PySem.Calls PyProof.Rows
theorem nE {P:Params}{h:Heap}:∀ (ns:List Int) (vs:List Value),WellAll P h vs (ns.map WData.int)->IntsAre vs ns:=by
 intro ns
 induction ns with
 |nil =>
  intro vs w
  rw [List.map_nil] at w
  cases w
  exact .nil
 |cons n ns ih =>
  intro vs w
  rw [List.map_cons] at w
  cases w with
  |cons a b =>
   cases a
   exact .cons _ _ (ih _ b)
theorem aD8 {l:OpenLaw}{n:Nat}(hn:l.most=some n) {P:Params}{h:Heap}{args:List WData}{vals:List Value}
  (hpre:l.row.toRowW.claim.pre args=true) (hwl:WellAll P h vals args) :
  ∃ a vs ns,vals=[Value.ref a]/\args=[WData.list (ns.map WData.int)]/\h.get? a=some { cls:= .type "list",data:= .seq vs.toArray }/\IntsAre vs ns/\ns.length<=n:=by
 have hsh:WShape.hasAll [] args [.list .int]=true:=(pre_splitW hpre).1
 have hc:l.pre.holds [] { args:=args }=true:=(pre_splitW hpre).2
 obtain ⟨d,r,rfl,h1,h2⟩:=hasAllW_cons hsh
 obtain rfl:=hasAllW_nil h2
 obtain ⟨xs,rfl,h3⟩:=hasW_list h1
 obtain ⟨ns,rfl⟩:=items_int h3
 have hlen:ns.length<=n:=by
  unfold OpenLaw.pre at hc
  have h4:(WTm.not (.lt (.lit (.int (n:Int))) (.len (.arg 0)))).holds [] { args:=[.list (ns.map .int)] }=true:=by
   have h4:=(holds_andW hc).1
   rw [hn] at h4
   exact h4
  have h5:=condW_of h4 (w_not (w_lt w_lit (w_len_list (w_arg rfl))))
  rw [List.length_map] at h5
  refine Nat.le_of_not_lt fun q=>?_
  have q':(n:Int) < ((ns.length:Nat):Int):=by omega
  first
   |(rw [decide_eq_true q'] at h5;exact absurd h5 (by decide))
   |(simp at h5;omega)
 cases hwl with
 |cons w1 w2 =>
  cases w2
  cases w1 with
  |list ho hall=>exact ⟨_,_,ns,rfl,rfl,ho,nE ns _ hall,hlen⟩
theorem aF5 (l:OpenLaw) (args:List WData):l.row.toRowW.claim.post args (.bool true) args=true :=
 postW_of (r:=l.row.toRowW) (X:=(true == true))
  (show WShape.has [] (.bool true) .bool=true by first | rfl | decide | simp [WShape.has,WShape.arms,WShape.armsAll])
  (show (WTm.eq .res (.lit (.bool true))).value [] { args:=args,res:=some (.bool true),after:=args }=some (.bool (true == true)) from w_eq_bool (w_res rfl) w_lit) rfl
theorem attach_call {l:OpenLaw}{n:Nat}{q:Program}{loose:List Str}{XP:(Str->Option Value)->Heap->Prop}{YP:World->Heap->Prop}{d:DefRec}
  (hn:l.most=some n) (hdf:d.params.defaults=[])
  (call:∀ (w:World) (s₀ s₁:Shared) (mg mb:Str->Option Value) (fa:Addr) (o:Obj) (pm cd doc:Value) (a:Addr) (vs:List Value) (ns:List Int),
   Ground q loose [] XP w s₀ mg mb s₁.heap->YP w s₁.heap ->
   s₁.heap.get? fa=some o->o.data= .func (docDef d.name d.params d.body d.scope pm cd doc)->s₁.heap.CodeRec cd d.name->mg d.name=some (.ref fa) ->
   s₁.heap.get? a=some { cls:= .type "list",data:= .seq vs.toArray }->IntsAre vs ns->ns.length<=n->s₁.gens= #[] ->
   codeAny (model l.prog w) callerA (.call (.ref fa) ⟨[.ref a],[]⟩) (fun r s'=>r= .ok (.ret (.bool true))/\OldK s₁.heap s'.heap/\s'.os=s₁.os/\AllBare s'.gens) s₁) :
  WalkO q loose XP YP l.row.toRowW d [] (fun f vs=>PySem.call f vs):=by
 intro w s₀ s₁ mg mb G Y fa o pm cd doc dV kV ho hd hcd hD hmg hg args vals as hpre hlay hrd hwl hlo
 obtain rfl:dV= .none:=Dflts.none hD hdf
 obtain rfl:kV= .none:=Dflts.noKw hD
 obtain ⟨a,vs,ns,rfl,rfl,hobj,hints,hlen⟩:=aD8 hn hpre hwl
 refine enter_call (codeAny_mono (call w s₀ s₁ mg mb fa o pm cd doc a vs ns G Y ho (fd_plain hd) hcd hmg hobj hints hlen hg) fun r s' hq=>?_)
 obtain ⟨rfl,h2,h3,h4⟩:=hq
 exact ⟨.inl ⟨.bool true,.bool true,[],rfl,fun _=>rfl,.bool true,aF5 l _,fun _=>⟨List.Pairwise.nil,fun _ hm=>(nomatch hm)⟩⟩,h2,h3,h4⟩
section
variable {prog:Program}{w:World}{A:Around}{E:Value->Shared->Prop}{s:Shared}{K:Frag}
def bS7 (h:Heap) (L d:Addr):List (Addr×Obj):=(List.range h.objs.size).filterMap fun a=>if a=L\/a=d then none else (h.get? a).map fun o=>(a,o)
end
end Att
namespace L2
open PySem PySem.Spec PyProof.Rows
theorem sK:∀ {vs:List Value}{ns:List Int},IntsAre vs ns->aZ (ns.map V.int) vs
 |_,_,.nil=> .nil
 |_,_,.cons n t h=> .cons ⟨t,rfl⟩ (sK h)
def bH3 (H:Hp):Prop:=∀ b,H b=none\/∃ o xs,H b=some (.frz o (.lst xs))
theorem aI8 {P:Program}{w:World}{K:PySem.W.Frag}{mg mb:Str->Option Value}{CX:CXT}{k:Nat}{fa a:Addr}{fd:FuncData}{x:Str}{sp:Sp}{s₁:Shared}{vs:List Value}{ns:List Int}
  (KX:K.In s₁.heap) (hns:s₁.heap.Ns mainGlobals mg) (hb:s₁.heap.Ns builtinsNs mb) (hbb:∀ x:Str,x≠"__name__"->mb x=bootBuiltins x) (hlim:s₁.heap.NoLimit) (hg:s₁.gens= #[])
  (ha:s₁.heap.get? a=some { cls:= .type "list",data:= .seq vs.toArray }) (hi:IntsAre vs ns) (hl:ns.length<=sizeLine) (hr:bW k callerA)
  (F:∀ base:Heap,K.In base->base.Ns mainGlobals mg->nF P w K mg base CX k fa fd [x] sp) (hbind:∀ (s:Shared) (u:Value),BindsTo s fd ⟨[u],[]⟩ [(x,u)])
  (hsp:∀ H:Hp,bH3 H->bK K H a (ns.map V.int)->sp [.ref a] H (fun v _=>v= .bl true) fun _ _ _=>False)
  (hCX:∀ H e s',CX [] H s₁ (fun _ _ _=>False) e s'->False) :
  codeAny (model P w) callerA (.call (.ref fa) ⟨[.ref a],[]⟩) (fun r s'=>r= .ok (.ret (.bool true))/\OldK s₁.heap s'.heap/\s'.os=s₁.os/\AllBare s'.gens) s₁:=by
 have rv:=sK hi
 have lenV:=hi.length
 have core:∀ H:Hp,bH3 H->bK K H a (ns.map V.int)->iQ P w H s₁.heap->(∀ b,H b≠none->b=a)->(H a≠none->K.lookup a=none) ->
   codeAny (model P w) callerA (.call (.ref fa) ⟨[.ref a],[]⟩) (fun r s'=>r= .ok (.ret (.bool true))/\OldK s₁.heap s'.heap/\s'.os=s₁.os/\AllBare s'.gens) s₁:=by
  intro H hO hS hok hA hK
  have base_of:∀ {b:Addr}{o:Obj},s₁.heap.get? b=some o->H b=none->(tU s₁.heap H).get? b=some o:=fun e n=>aL3 e n
  have noA:∀ {b:Addr}{o:Obj}{es:Array DictEntry}{ep:Nat},s₁.heap.get? b=some o->o.data= .dict es ep->H b=none:=fun {b o es ep} e d=>by
   cases q:H b with
   |none=>rfl
   |some u =>
    have e':b=a:=hA b (by rw [q];simp)
    subst e'
    rw [ha] at e;cases e
    have d':Data.seq vs.toArray _=Data.dict es ep:=d
    cases d'
  have nsK:∀ {b:Addr}{m:Str->Option Value},s₁.heap.Ns b m->(tU s₁.heap H).Ns b m:=fun {b m} ⟨o,es,ep,e,d,r⟩=>⟨o,es,ep,base_of e (noA e d),d,r⟩
  have hKb:K.In (tU s₁.heap H):=fun b o e=>base_of (KX b o e) (by
   cases q:H b with
   |none=>rfl
   |some u =>
    have e':b=a:=hA b (by rw [q];simp)
    subst e'
    rw [hK (by rw [q];simp)] at e;cases e)
  have hM:Mod K mg (tU s₁.heap H):=⟨hKb,nsK hns,⟨mb,nsK hb,hbb⟩,let ⟨mc,h1,h2⟩:=hlim;⟨mc,nsK h1,h2⟩⟩
  have e0:aY3 P w K mg (tU s₁.heap H) callerA [] s₁ H:=⟨rfl,hM,fun b o e=>aW0 e,Nat.le_of_eq (aG9 _ _),trivial,fun b hb=>absurd (show b∈([]:List Addr) from hb) (by simp),hok,.of_eq hg⟩
  refine aAr ((F _ hKb (nsK hns)).run callerA [] s₁ H ⟨[.ref a],[]⟩ [.ref a] [.ref a] _ _ hr e0 (hbind s₁ (.ref a)) (.cons rfl .nil) (hsp H hO hS)) fun r s' h=>?_
  cases r with
  |error e=>exact (hCX H e s' h).elim
  |ok fl =>
   cases fl with
   |next=>exact False.elim h
   |brk=>exact False.elim h
   |cont=>exact False.elim h
   |ret u =>
    obtain ⟨v,H',os,bare,un,hok',r',q⟩:=h
    have q':v= .bl true:=q
    subst q'
    obtain rfl:u=Value.bool true:=r'
    refine ⟨rfl,OldK.of_keep fun b o e=>?_,os,bare⟩
    cases q:H b with
    |none=>exact un.keep b o e q (by intro z;exact absurd (show b∈([]:List Addr) from z) (by simp)) (by simp)
    |some u =>
     rcases hO b with z | ⟨ob,xs,z⟩
     ·rw [q] at z;cases z
     ·have z2:=un.frzs b ob _ z
      obtain ⟨e1,_⟩:=hok b _ z
      obtain ⟨e2,_⟩:=hok' b _ z2
      rw [e] at e1;cases e1
      exact e2
 cases hk:K.lookup a with
 |some o =>
  have e:=KX a o hk
  rw [ha] at e
  cases e
  refine core (fun _=>none) (fun _=> .inl rfl) (.inr ⟨_,vs.toArray,_,hk,rfl,rfl,rfl,by rw [bp,lenV];exact hl,by simpa using rv⟩) (fun b u z=>by have z':(none:Option HO)=some u:=z;cases z') (fun b z=>absurd rfl z) fun z=>absurd rfl z
 |none =>
  refine core (fun b=>if b=a then some (.frz { cls:= .type "list",data:= .seq vs.toArray } (.lst (ns.map V.int))) else none) (fun b=>?_) (.inl (.inr ⟨{ cls:= .type "list",data:= .seq vs.toArray },bb rfl⟩)) (fun b u z=>?_) (fun b z=>?_) fun _=>hk
  ·by_cases hb:b=a
   ·exact .inr ⟨_,_,bb hb⟩
   ·exact .inl (ao hb)
  ·by_cases hb:b=a
   ·have z':=(bb hb).symm.trans z
    cases z'
    subst hb
    exact ⟨ha,by rw [af];exact hl,vs,_,rv,ha⟩
   ·have z':=(ao hb).symm.trans z
    cases z'
  ·by_cases hb:b=a
   ·exact hb
   ·exact absurd (ao hb) z
theorem walk_of {l:PySem.W.OpenLaw}{n k:Nat}{q:Program}{loose:List Str}{XP:(Str->Option Value)->Heap->Prop}{YP:World->Heap->Prop}{d:DefRec}{K:Params->PySem.W.Frag}{CX:World->CXT}{sp:World->Sp}{x:Str}
  (hn:l.most=some n) (hn2:n<=sizeLine) (hdf:d.params.defaults=[]) (hr:bW k callerA)
  (hY:∀ (w:World) (h:Heap),YP w h->(K w.params).In h)
  (F:∀ (w:World) (mg:Str->Option Value) (fa:Addr) (h:Heap),(K w.params).In h->h.Ns mainGlobals mg->mg d.name=some (.ref fa) ->
   ∃ fd:FuncData,(∀ (s:Shared) (u:Value),BindsTo s fd ⟨[u],[]⟩ [(x,u)]) /\
    ∀ base:Heap,(K w.params).In base->base.Ns mainGlobals mg->nF l.prog w (K w.params) mg base (CX w) k fa fd [x] (sp w))
  (hsp:∀ (w:World) (H:Hp) (a:Addr) (ns:List Int),ns.length<=n->bH3 H->bK (K w.params) H a (ns.map V.int)->sp w [.ref a] H (fun v _=>v= .bl true) fun _ _ _=>False)
  (hCX:∀ (w:World) (H:Hp) (s:Shared) (e:Value) (s':Shared),CX w [] H s (fun _ _ _=>False) e s'->False) :
  PySem.W.WalkO q loose XP YP l.row.toRowW d [] (fun f vs=>PySem.call f vs):=by
 refine Att.attach_call hn hdf fun w s₀ s₁ mg mb fa o pm cd doc a vs ns G Y ho hd hcd hmg hobj hints hlen hg=>?_
 have KX:=hY w _ Y
 obtain ⟨fd,hb,hF⟩:=F w mg fa _ KX G.T.g hmg
 exact aI8 KX G.T.g G.T.b G.T.builtins G.T.nolimit hg hobj hints (cj hlen hn2) hr hF hb (fun H hO hS=>hsp w H a ns hlen hO hS) fun H e s'=>hCX w H s₁ e s'
def cA (s:Stmt):Arguments:=match s with
 |.FunctionDef _ a _ _ _ _ _ _ _ _=>a
 |_=>{ posonlyargs:=[],args:=[],vararg:=none,kwonlyargs:=[],kw_defaults:=[],kwarg:=none,defaults:=[] }
def bS (s:Stmt):List Stmt:=match s with
 |.FunctionDef _ _ b _ _ _ _ _ _ _=>b
 |_=>[]
def aW (s:Stmt):Scope:=match s with
 |.FunctionDef _ _ _ _ _ _ sc _ _ _=>sc
 |_=>{ kind:= .function,names:=[],isGenerator:=false,isCoroutine:=false }
abbrev CX0:CXT:=fun _ _ _ _ _ _=>False
abbrev E0:XK:=fun _ _ _=>False
theorem bR3 {X:Cx}:xP CX0 X E0:=fun _ _ _ _ _ _ _ h=>h.elim
structure qM (K:PySem.W.Frag) (x qual:Str) (st:Stmt) (f:Addr) (fd:FuncData):Prop where
 ex:∃ (oc:Value) (od:Option Addr) (kV doc pm:Value) (an:Option Addr) (cdv ct:Value) (osl:Array (Option Value)),
  fd=PySem.W.fnOf x qual (cA st) (bS st) (aW st) .none kV doc pm an cdv ct/\K.lookup f=some ⟨oc,od,.func fd,osl⟩/\PySem.W.codeIn K cdv qual=true
 kp:PySem.W.keepIn K (.ref f)=true
section
variable {P:Program}{w:World}{K:PySem.W.Frag}{mg:Str->Option Value}{base:Heap}
theorem qM.ok {x qual:Str}{st:Stmt}{f:Addr}{fd:FuncData}{N ps:List Str}{k:Nat}{sp:Sp}(F:qM K x qual st f fd) (S:jB N ps (aW st)) (len:∀ vs H Q E,sp vs H Q E->vs.length=ps.length)
  (hbody:∀ (cdv:Value) (A:Around) (outer:List Env) (s:Shared) (H:Hp) (vs:List V) (Q:VK) (E:XK),bW k (A.deeper (envOfC qual (aW st) s.heap.objs.size f cdv))->sp vs H Q E ->
   ∃ t,vV (zE CX0 P w K mg base N qual (aW st) f cdv A outer s H E).nox (bS st) t/\t { nx:=fun _ H'=>Q .non H',rt:=Q } (lZ N vs) H):nF P w K mg base CX0 (k+1) f fd ps sp:=by
 obtain ⟨oc,od,kV,doc,pm,an,cdv,ct,osl,rfl,lk,hcd⟩:=F.ex
 refine bL0 lk hcd S len fun A outer s H vs Q E hr hsp=>?_
 obtain ⟨t,h,q⟩:=hbody cdv A outer s H vs Q E hr hsp
 exact ⟨t,h.nox,q⟩
theorem qM.binds {x qual:Str}{st:Stmt}{f:Addr}{fd:FuncData}{ps:List Str}(F:qM K x qual st f fd)
  (h:∀ (kV doc pm:Value) (an:Option Addr) (cdv ct:Value) (us:List Value),us.length=ps.length->bindArgs (PySem.W.fnOf x qual (cA st) (bS st) (aW st) .none kV doc pm an cdv ct) ⟨us,[]⟩=pure (ps.zip us)):gX K fd ps []:=by
 obtain ⟨oc,od,kV,doc,pm,an,cdv,ct,osl,rfl,lk,hcd⟩:=F.ex
 exact .all (h kV doc pm an cdv ct)
theorem aI4 {x qual:Str}{st:Stmt}{f:Addr}{oc:Value}{od an:Option Addr}{osl:Array (Option Value)}{kV doc pm cdv ct:Value}(l:K.lookup f=some ⟨oc,od,.func (PySem.W.fnOf x qual (cA st) (bS st) (aW st) .none kV doc pm an cdv ct),osl⟩)
  (c:PySem.W.codeIn K cdv qual=true) (k:PySem.W.keepIn K (.ref f)=true):qM K x qual st f (PySem.W.fnOf x qual (cA st) (bS st) (aW st) .none kV doc pm an cdv ct):=⟨⟨oc,od,kV,doc,pm,an,cdv,ct,osl,rfl,l,c⟩,k⟩
end
theorem iU {A:Around}{k:Nat}(hr:bW k A):A.units+1 < cLine:=dm (Nat.add_le_add_left (by decide:1<=64) _) hr.units
theorem aK {n:Nat}(h:n<=1000):n < sizeLine:=dm h (by decide)
section
variable {X:Cx}
theorem pv (i:Nat) {x:Str}{pos:Pos}(hN:X.N[i]?=some x:=by rfl) (hv:Vis X.env.scope x:=by first | exact jt rfl | exact aAw (jt rfl) | exact aAw (aAw rfl)) (hd:(x == ("__debug__": Str))=false:=by decide)
  (hcd:(x == ("__classdict__": Str))=false:=by decide):PE X (.Name x pos) (bQ0 i):=bK0 hN hv hd hcd
end
theorem bM3 {A B:Prop}(h:B):if false=true then A else B:=by
 rw [ao ck]
 exact h
theorem fH {c A B:Prop} [Decidable c] (h1:c->A) (h2:¬ c->B):if c then A else B:=by
 by_cases h:c
 ·rw [bb h]
  exact h1 h
 ·rw [ao h]
  exact h2 h
theorem bO1 {c A B:Prop} [Decidable c] (hc:c) (h:B):if (!decide c)=true then A else B:=by
 rw [am hc]
 exact bM3 h
def aT (H H':Hp):Prop:=∀ b o,H b=some o->H' b=some o
theorem aT.refl (H:Hp):aT H H:=fun _ _ h=>h
theorem aT.trans {H H1 H2:Hp}(a:aT H H1) (b:aT H1 H2):aT H H2:=fun c o h=>b c o (a c o h)
theorem aT.free {H H':Hp}(e:aT H H') {l:Addr}(h:H' l=Option.none):H l=Option.none:=by
 cases q:H l with
 |none=>rfl
 |some o =>
  rw [e l o q] at h
  cases h
theorem aT.seq {K:PySem.W.Frag}{H H':Hp}{a:Addr}{xs:List V}(e:aT H H') (h:bK K H a xs):bK K H' a xs:=by
 rcases h with (h | ⟨o,h⟩) | h
 ·exact .inl (.inl (e _ _ h))
 ·exact .inl (.inr ⟨o,e _ _ h⟩)
 ·exact .inr h
section
variable {κ: Type} [DecidableEq κ]
theorem aA5 {kvs:List (κ×V)}{k:κ}{v:V}(h:bZ kvs k=some v):k∈kvs.map (·.1):=by
 have q:(kvs.any fun kv=>decide (kv.1=k))=true:=by
  rw [eR,h]
  all_goals rfl
 obtain ⟨p,hp,e⟩:=gu.mp q
 exact ap.mpr ⟨p,hp,bc e⟩
end
end L2
set_option maxHeartbeats 4000000
namespace L2
open PySem PySem.Spec PyProof.Rows
def tK (env:Env) (names:List (Str×NameKind)):List (Str×Addr) :=
 names.foldl (fun cs y=>if y.2 == NameKind.free then (y.1,(env.cells.lookup y.1).getD 0) :: cs else cs) []
theorem aN3 {env:Env}:∀ (names:List (Str×NameKind)) (cs:List (Str×Addr)),(∀ y∈names,y.2= .free->∃ c,env.cells.lookup y.1=some c) ->
  (forIn names cs fun (y:Str×NameKind) (r:List (Str×Addr))=>(if y.2 == NameKind.free then (do let a <- cellOf env y.1;pure (ForInStep.yield ((y.1,a) :: r))) else pure (ForInStep.yield r):Sem (ForInStep (List (Str×Addr))))) =
   pure (names.foldl (fun cs y=>if y.2 == NameKind.free then (y.1,(env.cells.lookup y.1).getD 0) :: cs else cs) cs)
 |[],cs,_=>rfl
 |(n,k) :: r,cs,h=>by
  have ih:=fun cs'=>aN3 (env:=env) r cs' fun y hy=>h y (ba _ hy)
  rw [List.forIn_cons,kr]
  by_cases hk:k= .free
  ·subst hk
   obtain ⟨c,hc⟩:=h (n,.free) au rfl
   have e:cellOf env n=pure c:=by unfold cellOf;rw [hc]
   simp only [beq_self_eq_true,if_true,e,pure_bind,hc,Option.getD_some]
   exact ih _
  ·have hb:(k == NameKind.free)=false:=by simpa using hk
   simp only [hb,Bool.false_eq_true,if_false,pure_bind]
   exact ih _
theorem pF {scope:Scope}{env:Env}(h:∀ y∈scope.names,y.2= .free->∃ c,env.cells.lookup y.1=some c):closureFor scope env=pure (tK env scope.names):=by
 unfold closureFor
 have e:=aN3 (env:=env) scope.names [] h
 simp only [] at e ⊢
 refine Eq.trans ?_ (cg (fun m:Sem (List (Str×Addr))=>m >>= fun cs=>pure cs) e)
 rfl
theorem aI6 {env:Env}{x:Str}{c:Addr}:∀ (names:List (Str×NameKind)) (cs:List (Str×Addr)),(∀ y∈names,y.2= .free->∃ c,env.cells.lookup y.1=some c) ->
  (names.foldl (fun cs y=>if y.2 == NameKind.free then (y.1,(env.cells.lookup y.1).getD 0) :: cs else cs) cs).lookup x=some c->cs.lookup x=some c\/env.cells.lookup x=some c
 |[],_,_,e=> .inl e
 |(n,k) :: r,cs,h,e=>by
  rw [kr] at e
  have ih:=aI6 r _ (fun y hy=>h y (ba _ hy)) e
  rcases ih with q | q
  ·by_cases hk:k= .free
   ·subst hk
    obtain ⟨c',hc⟩:=h (n,.free) au rfl
    simp only [beq_self_eq_true,if_true,hc,Option.getD_some,List.lookup_cons] at q
    cases hx:x == n with
    |true =>
     rw [hx] at q
     have:x=n:=by simpa using hx
     subst this
     simp only [Option.some.injEq] at q
     subst q
     exact .inr hc
    |false =>
     rw [hx] at q
     exact .inl q
   ·have hb:(k == NameKind.free)=false:=by simpa using hk
    simp only [hb,Bool.false_eq_true,if_false] at q
    exact .inl q
  ·exact .inr q
theorem yG {env:Env}{x:Str}:∀ (names:List (Str×NameKind)) (cs:List (Str×Addr)),((x,NameKind.free)∈names\/∃ c,cs.lookup x=some c) ->
  ∃ c,(names.foldl (fun cs y=>if y.2 == NameKind.free then (y.1,(env.cells.lookup y.1).getD 0) :: cs else cs) cs).lookup x=some c
 |[],_,e=>by rcases e with e | e;exact absurd e (by simp);exact e
 |(n,k) :: r,cs,e=>by
  rw [kr]
  refine yG r _ ?_
  rcases e with e | ⟨c,e⟩
  ·rcases bi.mp e with z | z
   ·cases z
    right
    simp only [beq_self_eq_true,if_true,List.lookup_cons]
    exact ⟨_,rfl⟩
   ·exact .inl z
  ·right
   by_cases hk:k= .free
   ·subst hk
    simp only [beq_self_eq_true,if_true,List.lookup_cons]
    cases hx:x == n with
    |true=>exact ⟨_,rfl⟩
    |false=>exact ⟨c,e⟩
   ·have hb:(k == NameKind.free)=false:=by simpa using hk
    simp only [hb,Bool.false_eq_true,if_false]
    exact ⟨c,e⟩
theorem lR {env:Env}{x:Str}:∀ {names:List (Str×NameKind)},(∀ y∈names,y.2≠ .cell) ->
  ((names.map fun (n,k)=>if (k == NameKind.free && env.scope.kind == .function && env.kindOf n == some .cell) then (n,NameKind.cell) else (n,k)).lookup x=some .cell \/
   (names.map fun (n,k)=>if (k == NameKind.free && env.scope.kind == .function && env.kindOf n == some .cell) then (n,NameKind.cell) else (n,k)).lookup x=some .free)->(x,NameKind.free)∈names
 |[],_,h=>by simp at h
 |(n,k) :: r,hc,h=>by
  have ih:= @lR env x r fun y hy=>hc y (ba _ hy)
  have hk:=hc (n,k) au
  simp only [List.map_cons] at h
  by_cases cc:(k == NameKind.free && env.scope.kind == .function && env.kindOf n == some .cell)=true
  ·rw [bb cc] at h
   have kf:k= .free:=by
    simp only [Bool.and_eq_true,beq_iff_eq] at cc
    exact cc.1.1
   subst kf
   simp only [List.lookup_cons] at h
   cases hx:x == n with
   |true =>
    have:x=n:=by simpa using hx
    subst this
    exact au
   |false=>rw [hx] at h;exact ba _ (ih h)
  ·rw [ao cc] at h
   simp only [List.lookup_cons] at h
   cases hx:x == n with
   |true =>
    rw [hx] at h
    have:x=n:=by simpa using hx
    subst this
    rcases h with h | h
    ·simp only [Option.some.injEq] at h
     exact absurd h hk
    ·simp only [Option.some.injEq] at h
     subst h
     exact au
   |false=>rw [hx] at h;exact ba _ (ih h)
abbrev aK5 (ifs:List Expr) (env:Env):Sem Bool:=forIn ifs true fun c r =>
 if r=true then do
  let ok <- isTrue c env (eval c env)
  pure (ForInStep.yield ok)
 else pure (ForInStep.yield r)
def aO7 (X:Cx) (ifs:List Expr) (t:TT):Prop :=
 ∀ (pins:List (Addr×Obj)) (s:Shared) (σ: St) (H:Hp) (Q:Bool->Hp->Prop),aN X pins σ H s->t σ H Q ->
  wpAny (model X.prog X.w) X.A (aK5 ifs X.env) (TP X pins σ Q) X.xe s
def tYes:TT:=fun _ H Q=>Q true H
theorem eB {X:Cx}:aO7 X [] tYes:=fun _ _ _ H _ I h=>wpAny_tests_nil ⟨H,I,h⟩
theorem iZ {X:Cx}{c:Expr}{t:TT}(h:PT X c t):aO7 X [c] t:=fun pins s σ H Q I q=>wpAny_tests_one (h pins s σ H Q I q)
abbrev yF:Value->Shared->Prop:=fun _ _=>False
theorem aE8 {prog:Program}{w:World}{A:Around}{R:Result->Shared->Prop}{s0:Shared}{elt target iter:Expr}{ifs:List Expr}{scope:Scope}{pos:Pos}{it acc:Value}{env:Env}(W:Nat->Shared->Prop)
  (one:∀ k t,W k t->wpAny (model prog w) A (pyNext it) (fun r t1=>match r with
   |none=>R (.ok .next) t1
   |some v=>wpAny (model prog w) A (letOwnedTupleGo target it v) (fun _ t2=>wpAny (model prog w) A (assign target env v) (fun _ t3=>wpAny (model prog w) A (aK5 ifs env) (fun ok t4 =>
     if ok=true then wpAny (model prog w) A (eval elt env) (fun x t5=>wpAny (model prog w) A (call (.builtin "list.append") [acc,x]) (fun _ t6=>∃ j,j < k/\W j t6) yF t5) yF t4
     else ∃ j,j < k/\W j t4) yF t3) yF t2) yF t1) yF t)
  (k0:Nat) (h0:W k0 s0):codeAny (model prog w) A (.compLoop (.ListComp elt [⟨target,iter,ifs,0⟩] scope pos) 0 it acc env) R s0:=by
 refine codeAny_loop rfl W (fun k t hW=>?_) k0 h0
 refine wpAny_noted (m:=compTurn (.ListComp elt [⟨target,iter,ifs,0⟩] scope pos) 0 it acc env) ?_
 have no:∀ {P:Prop}{e:Value}{t:Shared},yF e t->P:=fun z=>z.elim
 rw [compTurn_list]
 refine aa (tj (aa (ff (one k t hW) (fun r t1 q1=>?_) fun _ _=>no)))
 match r with
 |none=>exact ac q1
 |some v =>
  refine aa (ff q1 (fun _ t2 q2=>aa (ff q2 (fun _ t3 q3=>aa (ff q3 (fun ok t4 q4=>?_) fun _ _=>no)) fun _ _=>no)) fun _ _=>no)
  match ok with
  |false=>exact ac ⟨rfl,q4⟩
  |true =>
   rw [bb rfl] at q4
   refine aa (aa (ff q4 (fun x t5 q5=>aa (ff q5 (fun _ t6 q6=>?_) fun _ _=>no)) fun _ _=>no))
   exact ac (ac ⟨rfl,q6⟩)
def vX (ix:List (Option Nat)) (σ: St):St:=ix.map fun o=>o.bind fun j=>σ[j]?.join
theorem aO6 {ix:List (Option Nat)}{σ: St}{i:Nat}{v:V}(h:(vX ix σ)[i]?=some (some v)):∃ j,ix[i]?=some (some j)/\σ[j]?=some (some v):=by
 unfold vX at h
 rw [bf] at h
 cases e:ix[i]? with
 |none=>rw [e] at h;cases h
 |some o =>
  rw [e] at h
  cases o with
  |none=>cases h
  |some j =>
   have h:some (σ[j]?.join)=some (some v):=h
   refine ⟨j,rfl,?_⟩
   cases q:σ[j]? with
   |none=>rw [q] at h;cases h
   |some z=>rw [q] at h;cases h;rfl
def tJ (N:List Str) (sc scope:Scope) (N':List Str) (ix:List (Option Nat)):Bool :=
 ix.length == N'.length && (ix.zip N').all (fun p=>match p.1 with | none=>true | some j=>N[j]? == some p.2 && scope.names.lookup p.2 == some NameKind.free) &&
 scope.names.all (fun y=>y.2 != NameKind.cell && (y.2 != NameKind.free || sc.names.lookup y.1 == some NameKind.cell || sc.names.lookup y.1 == some NameKind.free) && (y.2 != NameKind.local || scope.names.lookup y.1 == some NameKind.local)) &&
 scope.kind == ScopeKind.function
structure fY (N:List Str) (sc scope:Scope) (N':List Str) (ix:List (Option Nat)):Prop where
 len:ix.length=N'.length
 at_:∀ (i j:Nat) (x:Str),ix[i]?=some (some j)->N'[i]?=some x->N[j]?=some x/\scope.names.lookup x=some .free
 nocell:∀ y∈scope.names,y.2≠ .cell
 free:∀ y∈scope.names,y.2= .free->sc.names.lookup y.1=some .cell\/sc.names.lookup y.1=some .free
 loc:∀ y∈scope.names,y.2= .local->scope.names.lookup y.1=some .local
 kind:scope.kind= .function
theorem fY.of {N:List Str}{sc scope:Scope}{N':List Str}{ix:List (Option Nat)}(h:tJ N sc scope N' ix=true):fY N sc scope N' ix:=by
 unfold tJ at h
 simp only [Bool.and_eq_true,beq_iff_eq,List.all_eq_true] at h
 obtain ⟨⟨⟨h1,h2⟩,h3⟩,h4⟩:=h
 refine ⟨h1,fun i j x a b=>?_,fun y hy e=>?_,fun y hy e=>?_,fun y hy e=>?_,h4⟩
 ·have hm:(some j,x)∈ix.zip N':=bo (i:=i) (by rw [xk];exact ⟨a,b⟩)
  have q:=h2 _ hm
  simp only [Bool.and_eq_true,beq_iff_eq] at q
  exact q
 ·have q:=h3 y hy
  simp only [Bool.and_eq_true,bne_iff_ne,ne_eq] at q
  exact q.1.1 e
 ·have q:=(h3 y hy).1.2
  rw [e] at q
  simpa using q
 ·have q:=(h3 y hy).2
  rw [e] at q
  simpa using q
def bY (X:Cx) (N':List Str) (scope:Scope) (C:Addr) (s₂:Shared) (H₂:Hp) (fp:List Addr):Cx where
 prog:=X.prog
 w:=X.w
 K:=X.K
 mg:=X.mg
 base:=X.base
 A:=X.A
 N:=N'
 s₀:=s₂
 H₀:=H₂
 env:=compEnvC scope (tK X.env scope.names) C X.env
 outer:=X.stack
 stack:=X.stack
 ex:=fp
 fn:=fun _=>false
 calm:=X.calm
 pn:=[]
 xe:=fun _ _=>False
section
variable {X:Cx}{N':List Str}{ix:List (Option Nat)}{scope:Scope}{pins:List (Addr×Obj)}{σ: St}{H₂:Hp}{s₂:Shared}{fp:List Addr}{C:Addr}
theorem fY.cells (S:fY X.N X.env.scope scope N' ix) (I:aN X pins σ H₂ s₂):∀ y∈scope.names,y.2= .free->∃ c,X.env.cells.lookup y.1=some c:=fun y hy e=>I.ok.has y.1 (S.free y hy e)
theorem fY.get (S:fY X.N X.env.scope scope N' ix) (I:aN X pins σ H₂ s₂) {x:Str}{c:Addr}(h:(tK X.env scope.names).lookup x=some c):X.env.cells.lookup x=some c:=by
 rcases aI6 scope.names [] (S.cells I) h with q | q
 ·exact absurd q (by simp)
 ·exact q
theorem aG2 (S:fY X.N X.env.scope scope N' ix) (I:aN X pins σ H₂ s₂) (hf:∀ b∈fp,iO X pins H₂ b) (hC:s₂.heap.objs.size<=C) (hfC:∀ b∈fp,b < s₂.heap.objs.size):(bY X N' scope C s₂ H₂ fp).Ok where
 mod:=I.ok.mod
 kind:=S.kind
 glob:=I.ok.glob
 blt:=I.ok.blt
 above:=hC
 inj:=fun x y c a b=>I.ok.inj x y c (S.get I a) (S.get I b)
 has:=fun x h=>yG scope.names [] (.inl (lR S.nocell h))
 cab:=fun x c h=>by cases h
 hd:=I.ok.hd
 frames:=I.ok.frames
 stk:= .inl rfl
 exf:=fun b hb=>⟨bv (bn (hfC b hb) hC),fun x c e=>(hf b hb).2.2.2.2.1 x c (S.get I e)⟩
 bs:=I.bs
 bsz:=cj I.ok.bsz I.sz
 noex:=fun b o e hb=>by
  rcases (hf b hb).2.2.2.1 with z | z
  ·exact I.ok.noex b o e z
  ·exact absurd (bn (az e) (cj I.ok.bsz z)) (dk _)
 exfs:=fun b hb hm=>by
  rcases bi.mp (I.stkSub b hm) with z | z
  ·exact (hf b hb).2.1 z
  ·exact (hf b hb).2.2.1 z
 funs:=I.stack
 frf:=I.stkFree
theorem yP (S:fY X.N X.env.scope scope N' ix) (I:aN X pins σ H₂ s₂) (hf:∀ b∈fp,iO X pins H₂ b) (hfC:∀ b∈fp,b < s₂.heap.objs.size) {D:Addr}{h₁:Heap}{tk:Nat}{m:Str->Option Value}{ob:Obj}
  (hC:s₂.heap.objs.size<=C) (hD:s₂.heap.objs.size<=D) (hDC:D≠C) (old:∀ b o,s₂.heap.get? b=some o->h₁.get? b=some o) (hn:h₁.Ns C m) (hob:h₁.get? D=some ob) (hd:∀ v,ob.data≠ .cell v) :
  aN (bY X N' scope C s₂ H₂ fp) [(D,ob)] (vX ix σ) H₂ { s₂ with heap:=h₁,toks:=tk }:=by
 have fr:∀ a,s₂.heap.objs.size<=a->H₂ a=none:=fun a ha=>I.hok.fresh ha
 have cOf:∀ x c,(tK X.env scope.names).lookup x=some c->X.env.cells.lookup x=some c:=fun x c e=>S.get I e
 refine ⟨aG2 S I hf hC hfC,rfl,I.bare,Un.kept old,⟨m,hn,fun i x v e1 e2 e3=>?_⟩,fun x c e=>?_,fr C hC,fun x c e=>I.freeC x c (cOf x c e),fun p hp=>?_,I.hok.kept old,?_⟩
 ·obtain ⟨j,q1,q2⟩:=aO6 e2
  obtain ⟨n1,n2⟩:=S.at_ i j x q1 e1
  have hm:(x,NameKind.free)∈scope.names:=jq n2
  have hv:Vis X.env.scope x:=by
   rcases S.free _ hm rfl with z | z
   ·exact .inr (.inl z)
   ·exact .inr (.inr z)
  obtain ⟨m0,_,hl⟩:=I.loc
  obtain ⟨u,r,l⟩:=hl j x v n1 q2 hv
  refine ⟨u,r,?_⟩
  have hne:¬ X.env.kindOf x=some .local:=fun z=>by
   have z:X.env.scope.names.lookup x=some .local:=z
   rcases S.free _ hm rfl with y | y
   ·rw [y] at z;cases z
   ·rw [y] at z;cases z
  rcases l with ⟨k,_⟩ | ⟨k,c,e,z⟩
  ·exact absurd k hne
  ·obtain ⟨c',hc'⟩:=yG (env:=X.env) (x:=x) scope.names [] (.inl hm)
   have hc'':=cOf x c' hc'
   rw [e] at hc''
   cases hc''
   have kk:(bY X N' scope C s₂ H₂ fp).env.kindOf x=some .cell\/(bY X N' scope C s₂ H₂ fp).env.kindOf x=some .free:=by
    rcases e3 with y | y | y
    ·exfalso
     have:∀ {names:List (Str×NameKind)},names.lookup x=some .free ->
      (names.map fun (n,k)=>if (k == NameKind.free && X.env.scope.kind == .function && X.env.kindOf n == some .cell) then (n,NameKind.cell) else (n,k)).lookup x=some .local->False:=by
      intro names
      induction names with
      |nil=>intro a;simp at a
      |cons p r ih =>
       obtain ⟨n,k⟩:=p
       intro a b
       simp only [List.map_cons] at b
       simp only [List.lookup_cons] at a
       cases hx:x == n with
       |true =>
        rw [hx] at a
        simp only [Option.some.injEq] at a
        subst a
        split at b
        ·simp [List.lookup_cons,hx] at b
        ·simp [List.lookup_cons,hx] at b
       |false =>
        rw [hx] at a
        split at b
        ·simp only [List.lookup_cons,hx] at b;exact ih a b
        ·simp only [List.lookup_cons,hx] at b;exact ih a b
     exact this n2 y
    ·exact .inl y
    ·exact .inr y
   obtain ⟨oc,ho,hod⟩:=z
   exact .inr ⟨kk,c,hc',oc,old _ _ ho,hod⟩
 ·obtain ⟨v,o,ho,hod⟩:=I.cell x c (cOf x c e)
  exact ⟨v,o,old _ _ ho,hod⟩
 ·have hp:p∈[(D,ob)]:=hp
  have e:p=(D,ob):=by simpa using hp
  subst e
  refine ⟨hob,fr D hD,hDC,fun hb=>?_,hd⟩
  have hb:D∈zW X.stack:=hb
  rcases bi.mp (I.stkSub D hb) with z | z
  ·exact absurd I.lt (by rw [<- z];exact ux.mpr hD)
  ·exact I.nofs hD z
 ·show (vX ix σ).length=N'.length
  unfold vX
  rw [af,S.len]
theorem yJ (I:aN X pins σ H₂ s₂) (hf:∀ b∈fp,iO X pins H₂ b) {pins':List (Addr×Obj)}{σ':St}{H':Hp}{s':Shared}{D:Addr}{ys:List V}{its:List Value}(hC:s₂.heap.objs.size<=C) (hD:s₂.heap.objs.size<=D)
  (J:aN (bY X N' scope C s₂ H₂ fp) pins' σ' H' s') (hn:H' D=none) (hl:s'.heap.PlainList D its.toArray) (r:aZ ys its) (hz:ys.length<=sizeLine):aN X pins σ (aJ H' D (.lst ys)) s':=by
 have sb:Un (zW X.stack) fp H₂ H' s₂.heap s'.heap:=J.base
 have nD:∀ b u,H' b=some u->b≠D:=fun b u e=>aH e hn
 refine I.call' (ch:=fp) J.os ⟨sb.keep,sb.slot,fun b o e n hx=>?_,sb.there,fun b xs e=>?_,fun b o u e=>?_,fun b ps e=>?_⟩ (fun b u e=>?_) J.bare (fun b hb=>?_)
 ·rw [aE (bv (bn (az e) hD))]
  exact sb.free b o e n hx
 ·have q:=sb.tups b xs e
  rw [aE (nD b _ q)];exact q
 ·have q:=sb.frzs b o u e
  rw [aE (nD b _ q)];exact q
 ·obtain ⟨more,q⟩:=sb.tbls b ps e
  exact ⟨more,by rw [aE (nD b _ q)];exact q⟩
 ·by_cases hb:b=D
  ·subst hb
   rw [aC] at e
   cases e
   obtain ⟨n,hg⟩:=hl
   exact ⟨hz,its,n,r,hg⟩
  ·rw [aE hb] at e
   exact (J.hok b u e).stay (fun c v _ q=>q) (fun c q=>by rw [aE (nD c _ q)];exact q) fun c xs q=>by rw [aE (nD c _ q)];exact q
 ·obtain ⟨_,f1,_,f3,f4,f5⟩:=hf b hb
  exact ⟨f3,f1,f4,f5⟩
end
def oQ (J:It) (g:TG) (tc:TT) (te:TE) (Kf:List V->Hp->Prop) (σ0:St) (H1:Hp):Prop :=
 ∃ W:Nat->Nat->List V->St->Hp->Prop,(∃ m,W 0 m [] σ0 H1)/\∀ i m ys σ' H',W i m ys σ' H'->ys.length < sizeLine /\
  ((J.stop i H'/\Kf ys H')\/(J.go i H'/\∃ N:List V->St->Hp->Prop,(∀ ys' σ2 H2,N ys' σ2 H2->∃ m',m' < m/\W (i+1) m' ys' σ2 H2)/\∀ x H'',J.yld i H' x H''->g x σ' H'' fun σ2 H2=>tc σ2 H2 fun b H3 =>
   if b=true then te σ2 H3 fun y H4=>N (ys++[y]) σ2 H4 else N ys σ2 H3))
def aY7 (wi:TI) (ix:List (Option Nat)) (g:TG) (tc:TT) (te:TE):TE:=fun σ H Q =>
 wi σ H fun J H1=>oQ J g tc te (fun ys H'=>∀ l,H' l=none->Q (.ref l) (aJ H' l (.lst ys))) (vX ix σ) H1
section
variable {X:Cx}{tg elt iter:Expr}{ifs:List Expr}{scope:Scope}{pos:Pos}{N':List Str}{ix:List (Option Nat)}{wi:TI}{g:TG}{tc:TT}{te:TE}
def aV3 (X:Cx) (pins:List (Addr×Obj)) (σ: St) (Kf:List V->Hp->Prop) (acc:Value) (C:Addr) (s':Shared):Prop :=
 ∃ D H' ys,acc= .ref D/\H' D=none/\aN X pins σ (aJ H' D (.lst ys)) s'/\(∃ m,s'.heap.Ns C m)/\H' C=none/\D≠C/\C≠X.env.locals/\X.s₀.heap.objs.size<=C/\(∀ x c,X.env.cells.lookup x=some c->c≠C)/\(∀ p∈X.pn++pins,p.1≠C)/\Kf ys H'
theorem rN {pins:List (Addr×Obj)}{s₂:Shared}{σ: St}{H₂:Hp}{it:Addr}{fp:List Addr}{tn:Nat->Heap->Prop}{J:It}{Kf:List V->Hp->Prop}{RR:Value->Addr->Result->Shared->Prop}{E:Value->Shared->Prop}
  (S:fY X.N X.env.scope scope N' ix) (hc:X.calm=true)
  (hg:∀ C s₂ H₂ fp,PG (bY X N' scope C s₂ H₂ fp) tg g) (ht:∀ C s₂ H₂ fp,aO7 (bY X N' scope C s₂ H₂ fp) ifs tc) (he:∀ C s₂ H₂ fp,PE (bY X N' scope C s₂ H₂ fp) elt te)
  (I2:aN X pins σ H₂ s₂) (T:uP X.prog X.w X.K tg J fp it tn) (st2:tn 0 s₂.heap) (f2:∀ b∈fp,iO X pins H₂ b) (w:oQ J g tc te Kf (vX ix σ) H₂)
  (hR:∀ acc C s',aV3 X pins σ Kf acc C s'->RR acc C (.ok .next) s') :
  wpAny (model X.prog X.w) X.A (newList []) (fun acc s₃=>wpAny (model X.prog X.w) X.A (newFunctionEnv scope X.env.globals (tK X.env scope.names) [] X.env.qual none .none (some X.env)) (fun cenv s₄ =>
   codeAny (model X.prog X.w) X.A (.compStart (.ListComp elt [⟨tg,iter,ifs,0⟩] scope pos) 0 (.ref it) acc { cenv with scope:=relabel scope X.env }) (RR acc cenv.locals) s₄) E s₃) E s₂:=by
 obtain ⟨W,⟨m0,w0⟩,turn⟩:=w
 refine fk (wpAny_newFunctionEnv S.nocell (by intro y hy;simp at hy) (fun h₁ nsN sbN=>?_) S.kind)
 dsimp only at nsN sbN ⊢
 generalize eH:s₂.heap.push { cls:= .type "list",dict:=none,data:= .seq ([]:List Value).toArray }=G2 at nsN sbN ⊢
 have sizeC:G2.objs.size=s₂.heap.objs.size+1:=by rw [<- eH,mo]
 have neDC:s₂.heap.objs.size≠G2.objs.size:=by rw [sizeC];exact bv (gm _)
 have leC:s₂.heap.objs.size<=G2.objs.size:=by rw [sizeC];exact aBe _
 have older:∀ b,b < s₂.heap.objs.size->b≠G2.objs.size/\b≠s₂.heap.objs.size:=fun b hb=>⟨by rw [sizeC];exact bv (xa hb),bv hb⟩
 have keepOld:∀ b o,s₂.heap.get? b=some o->h₁.get? b=some o:=fun b o e=>sbN.extBut b o (older b (az e)).1 (ag _ (eH ▸ ag _ e))
 have accNew:h₁.PlainList s₂.heap.objs.size #[]:=⟨_,sbN.extBut _ _ neDC (ag _ (eH ▸ aq _ rfl))⟩
 generalize eC:G2.objs.size=C at *
 generalize eD:s₂.heap.objs.size=D at *
 have hfC:∀ b∈fp,b < s₂.heap.objs.size:=fun b hb=>by
  obtain ⟨o,e,_⟩:=T.obj 0 _ st2 b hb
  exact az e
 have hfD:∀ b∈fp,b≠D:=fun b hb=>by have:=hfC b hb;rw [eD] at this;exact bv this
 have hfC':∀ b∈fp,b≠C:=fun b hb=>by have:=hfC b hb;rw [eD] at this;exact bv (bn this leC)
 have geD:s₂.heap.objs.size<=D:=by rw [eD];exact ak _
 have geC:s₂.heap.objs.size<=C:=by rw [eD];exact leC
 obtain ⟨nn,hob⟩:=id accNew
 have J1:aN (bY X N' scope C s₂ H₂ fp) [] (vX ix σ) H₂ { s₂ with heap:=h₁,toks:=s₂.toks+([]:List (Str×Value)).length } :=
  (yP S I2 f2 hfC geC geD neDC keepOld nsN hob (fun v z=>by cases z)).pins_of (fun p hp=>absurd hp (by simp))
 have nfsD:D∉zW X.stack:=fun hb=>by
  rcases bi.mp (I2.stkSub D hb) with z | z
  ·exact absurd I2.lt (by rw [<- z];exact ux.mpr geD)
  ·exact I2.nofs geD z
 have cOf:∀ x c,(tK X.env scope.names).lookup x=some c->c≠D/\c≠C:=fun x c e=>by
  obtain ⟨v,z⟩:=I2.cell x c (S.get I2 e)
  have:=z.lt
  rw [eD] at this
  exact ⟨bv this,bv (bn this leC)⟩
 have fpk:∀ {pl:List (Addr×Obj)}{H':Hp},(∀ b∈fp,H' b=none)->(∀ p∈pl,p.1∉fp)->∀ b∈fp,iO (bY X N' scope C s₂ H₂ fp) pl H' b:=fun {pl H'} hn hp b hb =>
  ⟨hn b hb,hfC' b hb,fun z=>by
    rcases bi.mp (I2.stkSub b z) with q | q
    ·exact (f2 b hb).2.1 q
    ·exact (f2 b hb).2.2.1 q,
   .inl hb,fun x c e=>(f2 b hb).2.2.2.2.1 x c (S.get I2 e),fun p hp' z=>hp p (by simpa [bY] using hp') (by rw [z];exact hb)⟩
 have dpk:∀ {H':Hp},H' D=none->∀ b∈[D],iO (bY X N' scope C s₂ H₂ fp) [] H' b:=fun {H'} hn b hb=>by
  have e:b=D:=by simpa using hb
  subst e
  exact ⟨hn,neDC,nfsD,.inr geD,fun x c e=>(cOf x c e).1,fun p hp=>absurd hp (by simp [bY])⟩
 have loop:codeAny (model X.prog X.w) X.A (.compLoop (.ListComp elt [⟨tg,iter,ifs,0⟩] scope pos) 0 (.ref it) (.ref D) (compEnvC scope (tK X.env scope.names) C X.env)) (RR (.ref D) C) { s₂ with heap:=h₁,toks:=s₂.toks+([]:List (Str×Value)).length }:=by
  refine aE8 (fun n s'=>∃ i ys σ' H' its,aN (bY X N' scope C s₂ H₂ fp) [] σ' H' s'/\tn i s'.heap/\(∀ b∈fp,H' b=none)/\H' D=none/\s'.heap.PlainList D its.toArray/\aZ ys its/\W i n ys σ' H') ?_ m0
   ⟨0,[],_,H₂,[],J1,T.keep _ _ _ st2 fun b _ o e=>keepOld b o e,fun b hb=>(f2 b hb).1,I2.hok.fresh geD,accNew,.nil,w0⟩
  rintro n s3 ⟨i,ys,σ3,H3,its,I3,st3,fr3,dn3,pl3,rv3,w3⟩
  obtain ⟨nn3,hob3⟩:=id pl3
  have oD:∀ b∈[D],∃ o,s3.heap.get? b=some o/\∀ v,o.data≠ .cell v:=fun b hb=>by
   have e:b=D:=by simpa using hb
   subst e
   exact ⟨_,hob3,fun v z=>by cases z⟩
  have I3':aN (bY X N' scope C s₂ H₂ fp) (gB [D] s3.heap) σ3 H3 s3:=by
   have:=I3.pinned (dpk dn3) oD
   simpa using this
  have pD:(D,({ cls:= .type "list",data:= .seq its.toArray nn3 }:Obj))∈gB [D] s3.heap:=fV (by simp) hob3
  have npD:∀ p∈gB [D] s3.heap,p.1∉fp:=fun p hp z=>by
   have e:p.1=D:=by simpa using (rQ hp).1
   exact hfD _ z e
  obtain ⟨hys,tt⟩:=turn i n ys σ3 H3 w3
  rcases tt with ⟨stop,qn⟩ | ⟨go,N,hN,step⟩
  ·refine ff (T.done (bY X N' scope C s₂ H₂ fp) rfl rfl rfl hc i (gB [D] s3.heap) s3 σ3 H3 (fun _ _=>False) I3' (fpk fr3 npD) st3 stop) (fun r s4 ⟨hr,I4⟩=>?_) fun _ _ z=>z
   subst hr
   have g4:=(I4.pin _ (cu _ pD)).1
   refine hR _ _ _ ⟨D,H3,ys,rfl,dn3,yJ I2 f2 geC geD I4 dn3 ⟨nn3,g4⟩ rv3 (my hys),?_,?_,neDC,?_,?_,?_,?_,qn⟩
   ·obtain ⟨m,hm,_⟩:=I4.loc
    exact ⟨m,hm⟩
   ·exact I4.free
   ·exact nc (bn I2.lt geC)
   ·exact cj I2.sz geC
   ·intro x c e z
    obtain ⟨v,q⟩:=I2.cell x c e
    exact absurd (bn q.lt geC) (by rw [z];exact dk _)
   ·intro p hp z
    exact absurd (bn (az (I2.pin p hp).1) geC) (by rw [z];exact dk _)
  ·refine ff (T.item (bY X N' scope C s₂ H₂ fp) rfl rfl rfl hc i (gB [D] s3.heap) s3 σ3 H3 (fun _ _=>False) I3' (fpk fr3 npD) st3 go) (fun r s4 ⟨u,hr,h4⟩=>?_) fun _ _ z=>z
   subst hr
   refine ff h4 (fun _ s5 ⟨x,H5,I5,r5,y5,st5,fr5⟩=>?_) fun _ _ z=>z
   have I5':=I5.pinned (fpk fr5 npD) (T.obj _ _ st5)
   refine ff (hg C s₂ H₂ fp _ s5 σ3 H5 x u _ I5' r5 (step x H5 y5)) (fun _ s6 ⟨σ6,H6,I6,q6⟩=>?_) fun _ _ z=>z
   refine ff (ht C s₂ H₂ fp _ s6 σ6 H6 _ I6 q6) (fun b s7 ⟨H7,I7,q7⟩=>?_) fun _ _ z=>z
   have fin:∀ {s8:Shared}{σ8:St}{H8:Hp},aN (bY X N' scope C s₂ H₂ fp) (gB [D] s3.heap++gB fp s5.heap) σ8 H8 s8->s8.heap.get? D=some { cls:= .type "list",data:= .seq its.toArray nn3 }/\H8 D=none /\
     tn (i+1) s8.heap/\∀ b∈fp,H8 b=none:=fun {s8 σ8 H8} I8=>by
    have q:=I8.pin _ (cu _ (uo _ pD))
    refine ⟨q.1,q.2.1,T.keep _ _ _ st5 fun b hb o e=>(I8.pin (b,o) (cu _ (cu _ (fV hb e)))).1,fun b hb=>?_⟩
    obtain ⟨o,e,d⟩:=T.obj _ _ st5 b hb
    exact (I8.pin (b,o) (cu _ (cu _ (fV hb e)))).2.1
   cases b with
   |false =>
    obtain ⟨m',hm,w7⟩:=hN _ _ _ q7
    obtain ⟨a1,a2,a3,a4⟩:=fin I7
    exact ⟨m',hm,i+1,ys,σ6,H7,its,I7.pins_of fun p hp=>absurd hp (by simp),a3,a4,a2,⟨nn3,a1⟩,rv3,w7⟩
   |true =>
    refine ff (he C s₂ H₂ fp _ s7 σ6 H7 _ I7 q7) (fun v s8 ⟨y,H8,I8,r8,n8⟩=>?_) fun _ _ z=>z
    obtain ⟨m',hm,w8⟩:=hN _ _ _ n8
    obtain ⟨a1,a2,a3,a4⟩:=fin I8
    have hsz:its.toArray.size<=sizeLine:=by
     have:=rv3.length
     rw [bp]
     omega
    refine wpAny_list_append_plain (hsz:=hsz) ⟨nn3,a1⟩ fun h9 hl9 hs9=>?_
    have I9:aN (bY X N' scope C s₂ H₂ fp) [] σ6 H8 { s8 with heap:=h9 } :=
     (I8.pins_of (pins':=[]) fun p hp=>absurd hp (by simp)).turned (t':=s8.toks) (fun b o hb e=>(hs9.2 b hb).trans e) a2 neDC (.inr geD) (fun x c e=>(cOf x c e).1) fun p hp=>absurd hp (by simp [bY])
    refine ⟨m',hm,i+1,ys++[y],σ6,H8,its++[v],I9,T.keep _ _ _ a3 fun b hb o e=>(hs9.2 b (hfD b hb)).trans e,a4,a2,?_,rv3.append (.cons r8 .nil),w8⟩
    have e:(its++[v]).toArray=its.toArray.push v:=by simp
    rw [e];exact hl9
 exact codeAny_compStart_list loop (T.self _ 0 _ _ _ (T.keep _ _ _ st2 fun b _ o e=>keepOld b o e) loop)
theorem cG (N':List Str) (ix:List (Option Nat)) (hi:PI X tg iter wi) (hg:∀ C s₂ H₂ fp,PG (bY X N' scope C s₂ H₂ fp) tg g) (ht:∀ C s₂ H₂ fp,aO7 (bY X N' scope C s₂ H₂ fp) ifs tc)
  (he:∀ C s₂ H₂ fp,PE (bY X N' scope C s₂ H₂ fp) elt te) (S:tJ X.N X.env.scope scope N' ix=true:=by rfl) (hc:X.calm=true:=by rfl) (hs:∀ x,foldedSetIterable iter X.env x=pure x:=by intro _;rfl) :
  PE X (.ListComp elt [⟨tg,iter,ifs,0⟩] scope pos) (aY7 wi ix g tc te):=by
 intro pins s σ H Q I h
 have S:=fY.of S
 rw [eval_ListComp]
 refine xt (use:=none) (cl:=tK X.env scope.names) rfl hs (pF fun y hy e=>I.ok.has y.1 (S.free y hy e)) S.kind S.loc (cI (hi pins s σ H _ I h) fun xv s₁ h₁=>cI h₁ fun itv s₂ h₂=>?_)
 obtain ⟨it,fp,tn,J,H₂,rfl,I2,T,st2,f2,w⟩:=h₂
 refine rN (RR:=fun acc C=>compPost (model X.prog X.w) X.A X.xe none (EP X pins σ Q) acc C) S hc hg ht he I2 T st2 f2 w fun acc C s' ce=>?_
 obtain ⟨D,H',ys,rfl,dn,J',hm,cn,dc,c1,c2,c3,c4,kf⟩:=ce
 obtain ⟨m,hm⟩:=hm
 refine ⟨m,hm,fun h' hs'=>⟨.ref D,_,J'.turned (t':=s'.toks) (fun b o hb e=>(hs'.2 b hb).trans e) (by rw [aE dc.symm];exact cn) c1 (.inr c2) c3 c4,rfl,kf D dn⟩⟩
theorem jK (N':List Str) (ix:List (Option Nat)) {i:Nat}{x:Str}{pos' spos:Pos}(hN:X.N.Nodup) (hxi:X.N[i]?=some x) (hx:Loc X.env.scope x) (hi:PI X tg iter wi) (hg:∀ C s₂ H₂ fp,PG (bY X N' scope C s₂ H₂ fp) tg g) (ht:∀ C s₂ H₂ fp,aO7 (bY X N' scope C s₂ H₂ fp) ifs tc)
  (he:∀ C s₂ H₂ fp,PE (bY X N' scope C s₂ H₂ fp) elt te) (S:tJ X.N X.env.scope scope N' ix=true:=by rfl) (hc:X.calm=true:=by rfl) (hs:∀ x,foldedSetIterable iter X.env x=pure x:=by intro _;rfl)
  (hsw:swapsWith (.ListComp elt [⟨tg,iter,ifs,0⟩] scope pos) (some (.Name x pos')) spos.line X.env=pure true:=by rfl) (hf:X.fn x=true\/X.env.scope.names.lookup x=some .local:=by first | exact .inl rfl | exact .inr rfl | assumption) :
  PS X (.Assign [.Name x pos'] (.ListComp elt [⟨tg,iter,ifs,0⟩] scope pos) spos) (aI1 (aY7 wi ix g tc te) (rK i)):=by
 intro pins s σ H D I h
 have S:=fY.of S
 rw [exec_Assign_Name_used _ _ _ _ hsw]
 refine aa (tj (aa ?_))
 show wpAny _ X.A (do let _ <- comprehension (.ListComp elt [⟨tg,iter,ifs,0⟩] scope pos) scope X.env _ (newList []) false (eval iter X.env) (some (assign (.Name x pos') X.env))) _ _ s
 refine aa (ff (xt (use:=some (assign (.Name x pos') X.env)) (cl:=tK X.env scope.names) (Q:=fun _ s'=>SP X pins D .next s') rfl hs (pF fun y hy e=>I.ok.has y.1 (S.free y hy e)) S.kind S.loc
  (cI (hi pins s σ H _ I h) fun xv s₁ h₁=>cI h₁ fun itv s₂ h₂=>?_)) (fun _ s' hq=>ac (ac hq)) fun _ _ e=>e)
 obtain ⟨it,fp,tn,J,H₂,rfl,I2,T,st2,f2,w⟩:=h₂
 refine rN (RR:=fun acc C=>compPost (model X.prog X.w) X.A X.xe (some (assign (.Name x pos') X.env)) (fun _ s'=>SP X pins D .next s') acc C) S hc hg ht he I2 T st2 f2 w fun acc C s' ce=>?_
 obtain ⟨D',H',ys,rfl,dn,J',hm,cn,dc,c1,c2,c3,c4,kf⟩:=ce
 obtain ⟨m,hm⟩:=hm
 show wpAny _ X.A (assign (.Name x pos') X.env (.ref D')) _ _ _
 refine wpAny_assign_Name (sN (v:= .ref D') J' hN hxi hx rfl (fun s2 J2 hsb=>?_) hf)
 obtain ⟨a,hsb,ha⟩:=hsb
 have hCa:C≠a:=by
  rcases ha with z | z
  ·rw [z];exact c1
  ·exact (c3 x a z).symm
 refine ⟨m,hm.sameBut hsb hCa,fun h' hs'=>?_⟩
 exact ⟨_,_,J2.turned (t':=s2.toks) (fun b o hb e=>(hs'.2 b hb).trans e) (by rw [aE dc.symm];exact cn) c1 (.inr c2) c3 c4,kf D' dn⟩
theorem hE {K:PySem.W.Frag}{a:Addr}{xs:List V}{Kf:List V->Hp->Prop}{σ0:St}{H1:Hp}(Pv:Nat->List V->St->Hp->Prop) (hz:xs.length < sizeLine) (h0:Pv 0 [] σ0 H1) (hb:∀ i ys σ H,Pv i ys σ H->ys.length<=i) (hl:∀ i ys σ H,i<=xs.length->Pv i ys σ H->bK K H a xs)
  (hs:∀ i x ys σ H,xs[i]?=some x->Pv i ys σ H->g x σ H fun σ2 H2=>tc σ2 H2 fun b H3=>if b=true then te σ2 H3 fun y H4=>Pv (i+1) (ys++[y]) σ2 H4 else Pv (i+1) ys σ2 H3) (hd:∀ ys σ H,Pv xs.length ys σ H->Kf ys H):oQ (Itl K a) g tc te Kf σ0 H1:=by
 refine ⟨fun i m ys σ H=>m=xs.length - i/\i<=xs.length/\Pv i ys σ H,⟨xs.length,by simp,bz _,h0⟩,?_⟩
 rintro i m ys σ H ⟨rfl,hi,p⟩
 have q:=hl i ys σ H hi p
 refine ⟨dm (hb _ _ _ _ p) (dm hi hz),?_⟩
 by_cases hlt:i < xs.length
 ·refine .inr ⟨⟨xs,xs[i],q,by simp [hlt]⟩,Pv (i+1),fun ys' σ' H' p'=>⟨xs.length - (i+1),iz hlt (gm i),rfl,hlt,p'⟩,fun x H' y=>?_⟩
  obtain ⟨e,y⟩:=y
  subst e
  exact hs i x ys σ _ (y xs q) p
 ·have e:i=xs.length:=by omega
  subst e
  exact .inl ⟨⟨xs,q,ak _⟩,hd ys σ H p⟩
theorem cP {K:PySem.W.Frag}{a:Addr}{xs:List V}{Kf:List V->Hp->Prop}{σ0:St}{H1:Hp}(Pv:Nat->List V->St->Hp->Prop) (hz:xs.length < sizeLine) (h0:Pv 0 [] σ0 H1) (hb:∀ i ys σ H,Pv i ys σ H->ys.length<=i) (hl:∀ i ys σ H,i<=xs.length->Pv i ys σ H->aV K H a xs)
  (hs:∀ i x ys σ H,xs[i]?=some x->Pv i ys σ H->g x σ H fun σ2 H2=>tc σ2 H2 fun b H3=>if b=true then te σ2 H3 fun y H4=>Pv (i+1) (ys++[y]) σ2 H4 else Pv (i+1) ys σ2 H3) (hd:∀ ys σ H,Pv xs.length ys σ H->Kf ys H):oQ (Itt K a) g tc te Kf σ0 H1:=by
 refine ⟨fun i m ys σ H=>m=xs.length - i/\i<=xs.length/\Pv i ys σ H,⟨xs.length,by simp,bz _,h0⟩,?_⟩
 rintro i m ys σ H ⟨rfl,hi,p⟩
 have q:=hl i ys σ H hi p
 refine ⟨dm (hb _ _ _ _ p) (dm hi hz),?_⟩
 by_cases hlt:i < xs.length
 ·refine .inr ⟨⟨xs,xs[i],q,by simp [hlt]⟩,Pv (i+1),fun ys' σ' H' p'=>⟨xs.length - (i+1),iz hlt (gm i),rfl,hlt,p'⟩,fun x H' y=>?_⟩
  obtain ⟨e,y⟩:=y
  subst e
  exact hs i x ys σ _ (y xs q) p
 ·have e:i=xs.length:=by omega
  subst e
  exact .inl ⟨⟨xs,q,ak _⟩,hd ys σ H p⟩
theorem iE {lo:Int}{n:Nat}{Kf:List V->Hp->Prop}{σ0:St}{H1:Hp}(Pv:Nat->List V->St->Hp->Prop) (hz:n < sizeLine) (h0:Pv 0 [] σ0 H1) (hb:∀ i ys σ H,Pv i ys σ H->ys.length<=i)
  (hs:∀ i ys σ H,i < n->Pv i ys σ H->g (.int (lo+i)) σ H fun σ2 H2=>tc σ2 H2 fun b H3=>if b=true then te σ2 H3 fun y H4=>Pv (i+1) (ys++[y]) σ2 H4 else Pv (i+1) ys σ2 H3) (hd:∀ ys σ H,Pv n ys σ H->Kf ys H):oQ (Itr lo n) g tc te Kf σ0 H1:=by
 refine ⟨fun i m ys σ H=>m=n - i/\i<=n/\Pv i ys σ H,⟨n,by simp,bz _,h0⟩,?_⟩
 rintro i m ys σ H ⟨rfl,hi,p⟩
 refine ⟨dm (hb _ _ _ _ p) (dm hi hz),?_⟩
 by_cases hlt:i < n
 ·refine .inr ⟨hlt,Pv (i+1),fun ys' σ' H' p'=>⟨n - (i+1),iz hlt (gm i),rfl,hlt,p'⟩,fun x H' y=>?_⟩
  obtain ⟨e,y⟩:=y
  subst e y
  exact hs i ys σ _ hlt p
 ·have e:i=n:=by omega
  subst e
  exact .inl ⟨ak _,hd ys σ H p⟩
end
theorem aS1:typeLookup (.type "list_reverseiterator") "__len__"=pure none:=by rw [uy,pc];kernel_rfl
theorem aY1:typeLookup (.type "list_reverseiterator") "__length_hint__"=pure (some (.builtin "list_reverseiterator.__length_hint__")):=by rw [uy,pc];kernel_rfl
abbrev newL:Obj:={ cls:= .type "list",data:= .seq #[] }
section
variable {prog:Program}{w:World}{A:Around}{E:Value->Shared->Prop}{Q:Value->Shared->Prop}{s:Shared}{it p:Addr}{items:Array Value}
theorem vH (hh:A.handled=none) (ne:p≠it) (hi:s.heap.IsRevIter it p ((items.size:Int) - 1)) (hp:s.heap.IsList p items) (hz:items.size<=sizeLine)
  (k:∀ t got c,(∀ b o,b≠it->s.heap.get? b=some o->t.heap.get? b=some o)->t.gens=s.gens->t.os=s.os ->
   t.heap.get? s.heap.objs.size=some { cls:= .type "list",dict:=none,data:= .seq got c,slots:= #[] }->got.toList=items.toList.reverse->Q (.ref s.heap.objs.size) t) :
  wpAny (model prog w) A (call (.type "list") [.ref it]) Q E s:=by
 let W:=(Walks.listRev (prog:=prog) (w:=w) (A:=A.in1.in1) hh it p ne items).toS
 have st0:0<=items.size/\s.heap.IsRevIter it p ((items.size:Int) - 1 - ((0:Nat):Int))/\s.heap.IsList p items:=⟨bz _,by simpa using hi,hp⟩
 have itLt:it < s.heap.objs.size:=by
  obtain ⟨o,e,_⟩:=hi
  exact az e
 have pLt:p < s.heap.objs.size:=by
  obtain ⟨o,e,_⟩:=hp
  exact az e
 have fresh:s.heap.objs.size∉[it,p]:=fun m=>by
  rcases bi.mp m with z | z
  ·exact dk _ (z ▸ itLt)
  ·exact dk _ ((bw.mp z) ▸ pLt)
 have neS:s.heap.objs.size≠it:=fun z=>fresh (by rw [z];exact au)
 refine vo (Q₁:=fun o t=>o= .ref s.heap.objs.size/\t={ s with heap:=s.heap.push newL }) F.called_list (F.typeCall_list_1 _) F.entry_list_init (code_list_new _ ⟨rfl,rfl⟩) ?_
 rintro _ _ ⟨rfl,rfl⟩
 have hS:(s.heap.push newL).get? s.heap.objs.size=some newL:=aq _ rfl
 refine ⟨⟨_,hS,rfl⟩,F.args_list_init_2 _ _,?_⟩
 refine aa (m:=Builtin.List.listItems (.ref s.heap.objs.size)) (aa (fx hS rfl (ac ?_)))
 refine aa (m:=updateSeq s.heap.objs.size fun _=> #[]) (wpAny_updateSeq hS rfl (aa (sy ?_)))
 have hS2:=jd (Obj.mapSeq fun _=>(#[]:Array Value)) hS rfl
 have older:∀ b o,s.heap.get? b=some o->((s.heap.push newL).update s.heap.objs.size (Obj.mapSeq fun _=>(#[]:Array Value))).get? b=some o:=fun b o e =>
  (sx _ _ (nc (az e))).trans (ag _ e)
 have st1:=W.frame 0 s ((s.heap.push newL).update s.heap.objs.size (Obj.mapSeq fun _=>(#[]:Array Value))) s.toks st0 (ak _) fun b _ o e=>older b o e
 have ty:∀ i t,(fun (i:Nat) (t:Shared)=>i<=items.size/\t.heap.IsRevIter it p ((items.size:Int) - 1 - (i:Int))/\t.heap.IsList p items) i t->t.TypeIs (.ref it) "list_reverseiterator":=fun i t z=>z.2.1.typeIs
 unfold Builtin.List.listExtendWith
 refine aa (kh (ty 0 _ st1) ?_)
 have same:Builtin.List.listSameRef (.ref s.heap.objs.size) (.ref it)=false:=by simp [Builtin.List.listSameRef,neS]
 rw [ao (by rw [same];decide)]
 refine aa (W.self 0 _ _ _ st1 (aa (cp ?_)))
 unfold Builtin.List.listLengthHint
 refine aa (iu (ty 0 _ st1) aS1 ?_)
 refine aa (m:=specialOf (Value.ref it) (Str.ofString "__length_hint__")) (iu (ty 0 _ st1) aY1 ?_)
 generalize hid:("list_reverseiterator.__length_hint__": String)=id0
 wp_delta
 rw [show splitId id0=some ("list_reverseiterator","__length_hint__") from by subst hid;decide +kernel]
 subst hid
 refine aa (jw (b:=true) (ty 0 _ st1) (by rw [isSubtype_type];kernel_rfl) (ac ?_))
 rw [ao (by decide)]
 refine ac ⟨plainId_quiet F.plain_extend_loop _,codeAny_extend_loopS W hz _ fresh _ items.size 0 _ _ _ rfl (bz _) st1 hS2 (ItemsOf.nil _) fun t got c mv at' its=>⟨rfl,?_⟩⟩
 refine k t got c (fun b o hb e=>mv.heap b o (fun m=>?_) (older b o e)) mv.gens mv.os at' ?_
 ·rcases bi.mp m with z | z
  ·exact absurd (az e) (by rw [z];exact dk _)
  ·exact hb (bw.mp z)
 ·obtain ⟨len,each⟩:=its
  refine List.ext_getElem? fun j=>?_
  by_cases hj:j < items.size
  ·have g:got[j]?=some got[j]:=ii (by omega)
   rw [List.getElem?_reverse (by simpa using hj),eo,eo,g, <- each j _ g]
   simp
  ·rw [zn (by simp;omega),zn (by simp;omega)]
end
def aO1 (K:PySem.W.Frag) (te:TE):TE:=fun σ H Q=>te σ H fun x H1=>∃ a ys,x= .ref a/\bK K H1 a ys/\∀ l,H1 l=none->Q (.ref l) (aJ H1 l (.lst ys.reverse))
theorem oU {X:Cx}{e:Expr}{te:TE}{p1 p2 pos1 pos2:Pos}(he:PE X e te) (g1:Gl X "list") (m1:X.mg "list"=none) (g2:Gl X "reversed") (m2:X.mg "reversed"=none) (hc:X.calm=true:=by rfl)
  (hs1:starEach [.Call (.Name "reversed" p2) [e] [] pos2] X.env=[(false,eval (.Call (.Name "reversed" p2) [e] [] pos2) X.env)]:=by rfl) (hs2:starEach [e] X.env=[(false,eval e X.env)]:=by rfl) :
  PE X (.Call (.Name "list" p1) [.Call (.Name "reversed" p2) [e] [] pos2] [] pos1) (aO1 X.K te):=by
 intro pins s σ H Q I h
 refine ke (iS I g1 m1 gz ?_)
 refine gi ?_ hs1 rfl
 rw [hs1]
 refine kd (ke (iS I g2 m2 PyProof.Rows.boot_reversed ?_))
 refine gi ?_ hs2 rfl
 rw [hs2]
 refine kd (cI (he pins s σ H _ I h) fun u s1 ⟨x,H1,I1,r1,a,ys,ex,hq,q⟩=>oy ?_)
 subst ex
 cases r1
 obtain ⟨its,rv,pl,hz⟩:=I1.list hq
 have il:=pl.isList
 refine call_reversed_list il (oy ?_)
 have I2:aN X pins σ H1 { s1 with heap:=s1.heap.push (revObj a ((its.toArray.size:Int) - 1)) }:=I1.kept (t':=s1.toks) fun b o e=>ag _ e
 have aLt:a < s1.heap.objs.size:=by
  obtain ⟨o,e,_⟩:=il
  exact az e
 have len:=rv.length
 obtain ⟨f0,f1,f2,f3,f4,f5⟩:iO X pins H1 s1.heap.objs.size:=I1.fpOk (ak _) (I1.hok.fresh (ak _))
 refine vH (p:=a) (items:=its.toArray) (I.ok.hd hc) (bv aLt) ⟨_,aq _ rfl,rfl,rfl⟩ (il.at fun o e=>ag _ e) (by rw [bp];omega) ?_
 intro t got c keep gens os at' eg
 obtain ⟨D,eD⟩:∃ D,(s1.heap.push (revObj a ((its.toArray.size:Int) - 1))).objs.size=D:=⟨_,rfl⟩
 have hD:(s1.heap.push (revObj a ((its.toArray.size:Int) - 1))).objs.size<=D:=Nat.le_of_eq eD
 dsimp only at at' ⊢
 rw [eD] at at' ⊢
 have fD:H1 D=none:=I2.hok.fresh hD
 have neT:∀ b u,H1 b=some u->b≠s1.heap.objs.size:=fun b u e z=>by rw [z,f0] at e;cases e
 refine ⟨.ref D,aJ H1 D (.lst ys.reverse),I2.call' (ch:=[s1.heap.objs.size]) os ⟨fun b o e n _ hx=>keep b o (fun z=>hx (by simp [z])) e,fun b o e n _ hx=>⟨o.slots,keep b o (fun z=>hx (by simp [z])) e⟩,fun b o e n _=>?_,fun b o e hx=>⟨o,keep b o (fun z=>hx (by simp [z])) e⟩,fun b xs e=>?_,fun b o u e=>?_,fun b ps e=>⟨#[],?_⟩⟩ (fun b u e=>?_) (by rw [gens];exact I2.bare) (fun b hb=>?_),rfl,q D fD⟩
 ·rw [aE (fun z=>absurd (az e) (by rw [z];exact ux.mpr hD))];exact n
 ·rw [aE (aH e fD)];exact e
 ·rw [aE (aH e fD)];exact e
 ·rw [aE (aH e fD),e];simp
 ·by_cases hb:b=D
  ·subst hb
   rw [aC] at e
   cases e
   have at2:t.heap.get? b=some { cls:= .type "list",dict:=none,data:= .seq its.reverse.toArray c,slots:= #[] }:=by
    rw [at', <- pq (xs:=got),eg]
   exact ⟨by rw [jr];exact hz,its.reverse,c,aZ.reverse rv,at2⟩
  ·rw [aE hb] at e
   refine (I2.hok b u e).stay (fun c' v hc' q'=>keep c' v ?_ q') (fun c' q'=>by rw [aE (aH q' fD)];exact q') fun c' xs q'=>by rw [aE (aH q' fD)];exact q'
   rcases hc' with z | z
   ·rw [z];exact neT b u e
   ·exact neT c' _ z
 ·have z:b=s1.heap.objs.size:=by simpa using hb
  subst z
  exact ⟨f3,f1,f4,f5⟩
def bO6 (i j:Int):Prop:=0 < j/\j < 2 ^ 250
theorem aN9 {X:Cx}:iV X (binaryOp .FloorDiv) (rI bO6 fun i j=> .int (i / j)):=opI fun i j _ _ _ _ _ hc q=>by
 obtain ⟨h0,h1⟩:=hc
 refine floordiv_int (by omega) ?_ (.inl (xu ?_))
 ·rw [wv i (by omega)];exact q
 ·have h2:j.natAbs < 2 ^ 250:=by
   have e:((j.natAbs:Nat):Int)=j:=Int.natAbs_of_nonneg (by omega)
   have:((j.natAbs:Nat):Int) < ((2 ^ 250:Nat):Int):=by rw [e];exact_mod_cast h1
   exact Int.ofNat_lt.mp this
  have h3:j.natAbs≠0:=by omega
  have h4:j.natAbs.log2 < 250:=(aBf h3).mpr h2
  exact bn h4 (by decide)
def dF (sd n:Int) (l:Addr):List (Key×V):=[(.inr "seed",.int sd),(.inr "number",.int n),(.inr "left",.ref l)]
theorem ksn:¬ ((Sum.inr ("seed": Str):Key)=Sum.inr ("number": Str)):=by decide +kernel
theorem ksl:¬ ((Sum.inr ("seed": Str):Key)=Sum.inr ("left": Str)):=by decide +kernel
theorem knl:¬ ((Sum.inr ("number": Str):Key)=Sum.inr ("left": Str)):=by decide +kernel
theorem kns:¬ ((Sum.inr ("number": Str):Key)=Sum.inr ("seed": Str)):=by decide +kernel
theorem kls:¬ ((Sum.inr ("left": Str):Key)=Sum.inr ("seed": Str)):=by decide +kernel
theorem kln:¬ ((Sum.inr ("left": Str):Key)=Sum.inr ("number": Str)):=by decide +kernel
theorem aE0 (sd n:Int) (l:Addr):bZ (dF sd n l) (Sum.inr "seed": Key)=some (.int sd):=by unfold dF;rw [bL rfl]
theorem vM (sd n:Int) (l:Addr):bZ (dF sd n l) (Sum.inr "number": Key)=some (.int n):=by unfold dF;rw [bC ksn,bL rfl]
theorem aG5 (sd n:Int) (l:Addr):bZ (dF sd n l) (Sum.inr "left": Key)=some (.ref l):=by unfold dF;rw [bC ksl,bC knl,bL rfl]
theorem aK9 (sd n v:Int) (l:Addr):bF (dF sd n l) (Sum.inr "seed": Key) (.int v)=dF v n l:=by
 unfold bF dF
 simp
 exact ⟨fun z=>absurd (cg Sum.inr z) kns,fun z=>absurd (cg Sum.inr z) kls⟩
theorem xQ (sd n v:Int) (l:Addr):bF (dF sd n l) (Sum.inr "number": Key) (.int v)=dF sd v l:=by
 unfold bF dF
 simp
 exact ⟨fun z=>absurd (cg Sum.inr z) ksn,fun z=>absurd (cg Sum.inr z) kln⟩
structure bR (H:Hp) (d l:Addr) (sd n:Int) (ls:List Int):Prop where
 dc:H d=some (.dK (dF sd n l))
 lc:H l=some (.lst (ls.map V.int))
 s0:0<=sd
 s1:sd < 2147483647
 n0:0<=n
 l0:∀ x∈ls,0<=x
def cD (H:Hp) (d l:Addr):Prop:=∃ sd n ls,bR H d l sd n ls
theorem bR.ne {H:Hp}{d l:Addr}{sd n:Int}{ls:List Int}(D:bR H d l sd n ls):d≠l:=cF D.dc D.lc (by intro z;cases z)
def bP (d l:Addr) (H H':Hp):Prop:=∀ b o,H b=some o->b≠d->b≠l->H' b=some o
theorem bP.refl {d l:Addr}(H:Hp):bP d l H H:=fun _ _ e _ _=>e
theorem bP.trans {d l:Addr}{H H1 H2:Hp}(a:bP d l H H1) (b:bP d l H1 H2):bP d l H H2:=fun c o e h1 h2=>b c o (a c o e h1 h2) h1 h2
theorem bP.of {d l:Addr}{H H':Hp}(s:aT H H'):bP d l H H':=fun c o e _ _=>s c o e
theorem bP.upd_d {d l:Addr}{H:Hp}{o:HO}:bP d l H (aJ H d o):=fun b u e h1 _=>by rw [aE h1];exact e
theorem bP.upd_l {d l:Addr}{H:Hp}{o:HO}:bP d l H (aJ H l o):=fun b u e _ h1=>by rw [aE h1];exact e
theorem aB {H:Hp}{p:Addr}(h:H p=none) (o:HO):aT H (aJ H p o):=fun b u q=>by rw [aE (aH q h)];exact q
theorem bR.seed {H:Hp}{d l:Addr}{sd n:Int}{ls:List Int}(D:bR H d l sd n ls) {v:Int}(h0:0<=v) (h1:v < 2147483647):bR (aJ H d (.dK (dF v n l))) d l v n ls :=
 ⟨aC,by rw [aE D.ne.symm];exact D.lc,h0,h1,D.n0,D.l0⟩
theorem bR.number {H:Hp}{d l:Addr}{sd n:Int}{ls:List Int}(D:bR H d l sd n ls) {v:Int}(h0:0<=v):bR (aJ H d (.dK (dF sd v l))) d l sd v ls :=
 ⟨aC,by rw [aE D.ne.symm];exact D.lc,D.s0,D.s1,h0,D.l0⟩
theorem bR.left {H:Hp}{d l:Addr}{sd n:Int}{ls ls':List Int}(D:bR H d l sd n ls) (h:∀ x∈ls',0<=x):bR (aJ H l (.lst (ls'.map V.int))) d l sd n ls' :=
 ⟨by rw [aE D.ne];exact D.dc,aC,D.s0,D.s1,D.n0,h⟩
theorem bR.out {H H':Hp}{d l:Addr}{sd n:Int}{ls:List Int}(D:bR H d l sd n ls) (s:aT H H'):bR H' d l sd n ls:=⟨s _ _ D.dc,s _ _ D.lc,D.s0,D.s1,D.n0,D.l0⟩
theorem cD.same {H H':Hp}{d l:Addr}(D:cD H d l) (s:aT H H'):cD H' d l:=let ⟨sd,n,ls,q⟩:=D;⟨sd,n,ls,q.out s⟩
theorem bR.gs {H:Hp}{d l:Addr}{sd n:Int}{ls:List Int}(D:bR H d l sd n ls):fL H d (.str "seed") (some (.int sd)):=by rw [<- aE0 sd n l];exact fL.k (k:=Sum.inr "seed") D.dc
theorem bR.gn {H:Hp}{d l:Addr}{sd n:Int}{ls:List Int}(D:bR H d l sd n ls):fL H d (.str "number") (some (.int n)):=by rw [<- vM sd n l];exact fL.k (k:=Sum.inr "number") D.dc
theorem bR.gl {H:Hp}{d l:Addr}{sd n:Int}{ls:List Int}(D:bR H d l sd n ls):fL H d (.str "left") (some (.ref l)):=by rw [<- aG5 sd n l];exact fL.k (k:=Sum.inr "left") D.dc
theorem bR.ps {H:Hp}{d l:Addr}{sd n:Int}{ls:List Int}(D:bR H d l sd n ls) (v:Int):iT H d (.str "seed") (.int v) (aJ H d (.dK (dF v n l))):=by
 rw [<- aK9 sd n v l];exact iT.k (k:=Sum.inr "seed") D.dc (aK (by show 3<=1000;decide))
theorem bR.pn {H:Hp}{d l:Addr}{sd n:Int}{ls:List Int}(D:bR H d l sd n ls) (v:Int):iT H d (.str "number") (.int v) (aJ H d (.dK (dF sd v l))):=by
 rw [<- xQ sd n v l];exact iT.k (k:=Sum.inr "number") D.dc (aK (by show 3<=1000;decide))
def spDraw:Sp:=fun vs H Q _=>∃ (d l:Addr) (m:Int),vs=[.ref d,.int m]/\cD H d l/\0 < m/\m < 2 ^ 64 /\
 ∀ (r:Int) (H':Hp),0<=r->r < m->cD H' d l->bP d l H H'->Q (.int r) H'
def aR5 (K:PySem.W.Frag):Sp:=fun vs H Q _=>∃ (a:Addr) (ns:List Int) (b:Int),vs=[.ref a,.int b]/\bK K H a (ns.map V.int)/\ns.length<=63/\0<=b/\b<=1000 /\
 ∀ (d l:Addr) (H':Hp),H d=none->H l=none->cD H' d l->aT H H'->Q (.ref d) H'
theorem nI {ns:List Int}{i:Nat}{y:V}(h:(ns.map V.int)[i]?=some y):∃ z,y=V.int z/\ns[i]?=some z:=by
 rw [bf] at h
 cases e:ns[i]? with
 |none=>rw [e] at h;cases h
 |some z=>rw [e] at h;exact ⟨z,(da h).symm,rfl⟩
mutual
def eI (K:PySem.W.Frag) (H:Hp):PyData->V->Prop
 |.none,v=>v= .non
 |.bool b,v=>v= .bl b
 |.int i,v=>v= .int i
 |.str x,v=>v= .str x
 |.tuple ds,v=>∃ a vs,v= .ref a/\aV K H a vs/\qR K H ds vs
 |.list ds,v=>∃ a vs,v= .ref a/\bK K H a vs/\qR K H ds vs
 |.dict _,_=>False
def qR (K:PySem.W.Frag) (H:Hp):List PyData->List V->Prop
 |[],vs=>vs=[]
 |d :: ds,vs=>∃ v r,vs=v :: r/\eI K H d v/\qR K H ds r
end
section
variable {X:Cx}{pins:List (Addr×Obj)}{σ: St}{H:Hp}{s:Shared}
mutual
theorem eI.reads (I:aN X pins σ H s):∀ (d:PyData) (v:V) (u:Value),eI X.K H d v->bA v u->∃ as,Reads s.heap u d as
 |.none,v,u,h,r=>by
  have h:v= .non:=h
  subst h;cases r;exact ⟨_,.none⟩
 |.bool b,v,u,h,r=>by
  have h:v= .bl b:=h
  subst h;cases r;exact ⟨_,.bool b⟩
 |.int i,v,u,h,r=>by
  have h:v= .int i:=h
  subst h;obtain ⟨t,rfl⟩:=r;exact ⟨_,.int i t⟩
 |.str x,v,u,h,r=>by
  have h:v= .str x:=h
  subst h;obtain ⟨t,rfl⟩:=r;exact ⟨_,.str x t⟩
 |.tuple ds,v,u,h,r=>by
  obtain ⟨a,vs,rfl,hs,hl⟩:=h
  cases r
  obtain ⟨its,rv,⟨o,ho,hc,n,hd⟩,_⟩:=I.tuple hs
  obtain ⟨as,ra⟩:=qR.reads I ds vs its hl rv
  exact ⟨_,.tuple ho hc hd (by simpa using ra)⟩
 |.list ds,v,u,h,r=>by
  obtain ⟨a,vs,rfl,hs,hl⟩:=h
  cases r
  obtain ⟨its,rv,pl,_⟩:=I.list hs
  obtain ⟨o,ho,hc,n,hd⟩:=pl.isList
  obtain ⟨as,ra⟩:=qR.reads I ds vs its hl rv
  exact ⟨_,.list ho hc hd (by simpa using ra)⟩
 |.dict _,v,u,h,r=>h.elim
theorem qR.reads (I:aN X pins σ H s):∀ (ds:List PyData) (vs:List V) (us:List Value),qR X.K H ds vs->aZ vs us->∃ as,ReadsAll s.heap us ds as
 |[],vs,us,h,r=>by
  have h:vs=[]:=h
  subst h;cases r;exact ⟨_,.nil⟩
 |d :: ds,vs,us,h,r=>by
  obtain ⟨v,t,rfl,hd,ht⟩:=h
  cases r with
  |cons r1 r2 =>
   obtain ⟨as,ra⟩:=eI.reads I d v _ hd r1
   obtain ⟨bs,rb⟩:=qR.reads I ds t _ ht r2
   exact ⟨_,.cons ra rb⟩
end
end
section
variable {X:Cx}
def xN (K:PySem.W.Frag) (neg:Bool):R2:=fun x y H Q=>∃ d e,eI K H d x/\eI K H e y/\SeqAt.shaped d=true/\SeqAt.shaped e=true/\SeqAt.noMix d e=true/\Q (.bl (if neg then !Spec.same d e else Spec.same d e)) H
theorem yV {k:Nat}(hr:bW k X.A):iV X (compareOp .Eq) (xN X.K false):=by
 intro pins s σ H x y v u Q I rx ry h
 obtain ⟨d,e,hd,he,sd,se,mx,q⟩:=h
 obtain ⟨as,ra⟩:=eI.reads I d x v hd rx
 obtain ⟨bs,rb⟩:=eI.reads I e y u he ry
 exact eq_dataH_same ra rb sd se hr.units mx ⟨.bl _,H,I,rfl,q⟩
theorem uE {k:Nat}(hr:bW k X.A):iV X (compareOp .NotEq) (xN X.K true):=by
 intro pins s σ H x y v u Q I rx ry h
 obtain ⟨d,e,hd,he,sd,se,mx,q⟩:=h
 obtain ⟨as,ra⟩:=eI.reads I d x v hd rx
 obtain ⟨bs,rb⟩:=eI.reads I e y u he ry
 exact ne_dataH_same ra rb sd se hr.units mx ⟨.bl _,H,I,rfl,q⟩
theorem sS {K:PySem.W.Frag}{H:Hp}:∀ ns:List Int,qR K H (ns.map PyData.int) (ns.map V.int)
 |[]=>rfl
 |n :: r=>⟨_,_,rfl,rfl,sS r⟩
theorem pO:∀ ns:List Int,PyData.canLayAll0 (ns.map PyData.int)=true
 |[]=>rfl
 |_ :: r=>by simp [PyData.canLayAll0,PyData.canLay0,pO r]
theorem jX:∀ ns:List Int,PyData.depthAll (ns.map PyData.int)=0
 |[]=>rfl
 |_ :: r=>by simp [PyData.depthAll,PyData.depth,jX r]
theorem wO (ns:List Int):SeqAt.shaped (.tuple (ns.map PyData.int))=true:=by
 simp [SeqAt.shaped,PyData.canLay0,PyData.depth,pO,jX]
theorem kL:∀ ns ms:List Int,SeqAt.noMixAll (ns.map PyData.int) (ms.map PyData.int)=true
 |[],[]=>rfl
 |[],_ :: _=>rfl
 |_ :: _,[]=>rfl
 |_ :: r,_ :: t=>by simp [SeqAt.noMixAll,SeqAt.noMix,kL r t]
theorem mL:∀ ns ms:List Int,Spec.sameAll (ns.map PyData.int) (ms.map PyData.int)=decide (ns=ms)
 |[],[]=>by simp [Spec.sameAll]
 |[],_ :: _=>by simp [Spec.sameAll]
 |_ :: _,[]=>by simp [Spec.sameAll]
 |a :: r,b :: t=>by
  simp only [List.map_cons,Spec.sameAll,Spec.same,mL r t]
  by_cases h:a=b <;> by_cases h':r=t <;> simp [h,h']
theorem wC:cB X (.builtin "isinstance") (fun xs H Q=>∃ x n t b,xs=[x,.ty n]/\mI X.K H x t/\PySem.W.kitOne X.K t (.type n)=some b/\Q (.bl b) H):=by
 intro pins s σ H xs us Q I r h
 obtain ⟨x,n,t,b,rfl,ty,e,q⟩:=h
 obtain ⟨u,w',rfl,ru,rw'⟩:=mY r
 cases rw'
 exact aE1 I ru ty e fun tk=>⟨.bl b,H,I.tok tk,rfl,q⟩
theorem pM (hc:X.calm=true:=by rfl):cB X (.builtin "all") (fun xs H Q=>∃ (p:Addr) (bs:List Bool),xs=[.ref p]/\bK X.K H p (bs.map V.bl)/\Q (.bl (bs.all id)) H):=by
 intro pins s σ H xs us Q I r h
 obtain ⟨p,bs,rfl,hq,q⟩:=h
 obtain ⟨u,rfl,ru⟩:=eW r
 cases ru
 obtain ⟨its,rv,pl,hz⟩:=I.list hq
 have lp:p < s.heap.objs.size:=by
  obtain ⟨o,e,_⟩:=pl.isList
  exact az e
 refine call_all_walk (ic pl.isList ⟨s.heap.objs.size,_,_,_,_,_,fun i=>bs.getD i true,rfl,Walks.list (A:=X.A.in1) (I.ok.hd hc) s.heap.objs.size p (bv lp) its.toArray,⟨⟨_,aq _ rfl,rfl,rfl⟩,pl.isList.at fun o e=>ag _ e⟩,?_,?_⟩)
 ·intro i v s1 Q1 E1 hv hq1
  have hi:its[i]?=some v:=by simpa using hv
  have hl:=rv.length
  rw [af] at hl
  have hb:i < bs.length:=by
   have:=(bq.mp hi).1
   omega
  obtain ⟨u,hu,ru⟩:=rv.get (i:=i) (x:=V.bl bs[i]) (by rw [bf,aj hb];rfl)
  rw [hi] at hu
  cases hu
  cases ru
  have e:bs.getD i true=bs[i]:=by simp [List.getD,hb]
  dsimp only at hq1
  rw [e] at hq1
  exact ib hq1
 ·intro h' tk hk
  have kept:∀ b o,s.heap.get? b=some o->h'.get? b=some o:=fun b o e=>hk b o (by
   intro z
   have z:b=s.heap.objs.size:=by simpa using z
   exact absurd (az e) (by rw [z];exact dk _)) (ag _ e)
  refine ⟨.bl (bs.all id),H,I.kept kept,?_,q⟩
  show Value.bool _=Value.bool _
  have hl:=rv.length
  rw [af] at hl
  have e:((List.range its.toArray.size).all fun i=>bs.getD i true)=bs.all id:=by
   rw [bp, <- hl]
   clear q hq rv pl hk hz hl
   rw [ir,dz,dz]
   constructor
   ·intro h b hb
    obtain ⟨i,hi,e⟩:=ie hb
    have:=h i (rh.mpr hi)
    simp [List.getD,hi] at this
    rw [<- e];exact this
   ·intro h i hi
    have hi:=rh.mp hi
    simp [List.getD,hi]
    exact h _ (jx hi)
  rw [e]
end
section
variable {X:Cx}(K:PySem.W.Frag)
theorem bE6 (hK:X.K=K:=by rfl):IxR X (bO9 K):=by subst hK;exact aM
end
theorem cW {c A B:Prop} [Decidable c] (hc:c) (h:A):if c then A else B:=by rw [bb hc];exact h
theorem cM {c A B:Prop} [Decidable c] (hc:¬ c) (h:B):if c then A else B:=by rw [ao hc];exact h
section
variable {X:Cx}
theorem wZ (hc:X.calm=true:=by rfl):cB X (.builtin "any") (fun xs H Q=>∃ (p:Addr) (bs:List Bool),xs=[.ref p]/\bK X.K H p (bs.map V.bl)/\Q (.bl (bs.any id)) H):=by
 intro pins s σ H xs us Q I r h
 obtain ⟨p,bs,rfl,hq,q⟩:=h
 obtain ⟨u,rfl,ru⟩:=eW r
 cases ru
 obtain ⟨its,rv,pl,hz⟩:=I.list hq
 have lp:p < s.heap.objs.size:=by
  obtain ⟨o,e,_⟩:=pl.isList
  exact az e
 refine call_any_walk (ic pl.isList ⟨s.heap.objs.size,_,_,_,_,_,fun i=>bs.getD i false,rfl,Walks.list (A:=X.A.in1) (I.ok.hd hc) s.heap.objs.size p (bv lp) its.toArray,⟨⟨_,aq _ rfl,rfl,rfl⟩,pl.isList.at fun o e=>ag _ e⟩,?_,?_⟩)
 ·intro i v s1 Q1 E1 hv hq1
  have hi:its[i]?=some v:=by simpa using hv
  have hl:=rv.length
  rw [af] at hl
  have hb:i < bs.length:=by
   have:=(bq.mp hi).1
   omega
  obtain ⟨u,hu,ru⟩:=rv.get (i:=i) (x:=V.bl bs[i]) (by rw [bf,aj hb];rfl)
  rw [hi] at hu
  cases hu
  cases ru
  have e:bs.getD i false=bs[i]:=by simp [List.getD,hb]
  dsimp only at hq1
  rw [e] at hq1
  exact ib hq1
 ·intro h' tk hk
  have kept:∀ b o,s.heap.get? b=some o->h'.get? b=some o:=fun b o e=>hk b o (by
   intro z
   have z:b=s.heap.objs.size:=by simpa using z
   exact absurd (az e) (by rw [z];exact dk _)) (ag _ e)
  refine ⟨.bl (bs.any id),H,I.kept kept,?_,q⟩
  show Value.bool _=Value.bool _
  have hl:=rv.length
  rw [af] at hl
  have e:((List.range its.toArray.size).any fun i=>bs.getD i false)=bs.any id:=by
   rw [bp, <- hl]
   clear q hq rv pl hk hz hl
   rw [ir,gu,gu]
   constructor
   ·rintro ⟨i,hi,h⟩
    have hi:=rh.mp hi
    simp [List.getD,hi] at h
    exact ⟨_,jx hi,h⟩
   ·rintro ⟨b,hb,h⟩
    obtain ⟨i,hi,e⟩:=ie hb
    refine ⟨i,rh.mpr hi,?_⟩
    simp [List.getD,hi]
    rw [e];exact h
  rw [e]
theorem nG {es:List Expr}{k:Nat}{t:TGs}{n:Nat}{pos:Pos}(K:PySem.W.Frag) (hc:X.calm=true) (h:PGs X es t) (hK:X.K=K:=by rfl)
  (hn:(assignEach es X.env).length=n:=by rfl) (hst:(assignEach es X.env).findIdx? (·.1)=none:=by rfl):PG X (.Tuple es k pos) (bQ5 K n t):=by subst hK;exact eU hc h hn hst
theorem bS9 {k:Nat}(K:PySem.W.Frag) (hr:bW k X.A) (hK:X.K=K:=by rfl):iV X (compareOp .Eq) (xN K false):=by subst hK;exact yV hr
end
def eQ (p:Int×Int):PyData:= .tuple [.int p.1,.int p.2]
theorem zN:∀ ps:List (Int×Int),PyData.canLayAll0 (ps.map eQ)=true
 |[]=>rfl
 |_ :: r=>by simp [eQ,PyData.canLayAll0,PyData.canLay0,zN r]
theorem qW:∀ ps:List (Int×Int),PyData.depthAll (ps.map eQ)<=1
 |[]=>by decide
 |_ :: r=>by
  have:=qW r
  simp only [List.map_cons,eQ,PyData.depthAll,PyData.depth]
  omega
theorem oF (ps:List (Int×Int)):SeqAt.shaped (.tuple (ps.map eQ))=true:=by
 have h1:=zN ps
 have h2:=qW ps
 have h3:(PyData.tuple (ps.map eQ)).depth<=64:=by
  simp only [PyData.depth]
  (first | exact dm (by with_reducible assumption) (by decide +kernel) | omega)
 simp [SeqAt.shaped,PyData.canLay0,h1,h3]
def gK (i:Int):Prop:= -(2 ^ 250) < i/\i < 2 ^ 250
def bQ3 (i j:Int):Prop:=gK i/\gK j
theorem gK.bits {i:Int}(h:gK i):Builtin.Int.intBits i<=2 ^ 20:=by
 have h1:i.natAbs < 2 ^ 250:=by
  have:=h.1;have:=h.2;omega
 exact cj (PyProof.Rows.intBits_le h1) (by decide)
theorem gK.log {i:Int}(h:gK i):i.natAbs.log2 < 1920:=by
 have h1:i.natAbs < 2 ^ 250:=by
  have:=h.1;have:=h.2;omega
 by_cases c:i.natAbs=0
 ·rw [c];decide
 ·exact bn ((aBf c).mpr h1) (by decide)
theorem bU {X:Cx}:iV X (binaryOp .Mult) (rI bQ3 fun i j=> .int (i * j)):=opI fun _ _ _ _ _ _ _ hc q=>mul_int q (IntMulOk.of_bits hc.1.bits hc.2.bits)
section
variable {X:Cx}
def bA2 (K:PySem.W.Frag):List V->Hp->VK->Prop:=fun xs H Q=>∃ (d:PyData) (p:Addr),xs=[.ref p]/\eI K H d (.ref p)/\d.showable=true/\d.hasDict=false/\d.depth<=64/\d.shown.length<=sizeLine/\Q (.str d.shown) H
theorem zD {k:Nat}(hr:bW k X.A):cB X (.builtin "repr") (bA2 X.K):=by
 intro pins s σ H xs us Q I r h
 obtain ⟨d,p,rfl,hd,hs,hh,hdp,hz,q⟩:=h
 obtain ⟨u,rfl,ru⟩:=eW r
 cases ru
 obtain ⟨as,ra⟩:=eI.reads I d (.ref p) (.ref p) hd rfl
 refine repr_of_reads' ra hs (fun z=>by rw [hh] at z;cases z) hr.gd (by have:=hr.un;omega) (fun b o e=>e) (fun h' u tk hk=>⟨.str _,H,I.kept hk,⟨_,rfl⟩,q⟩) hz
end
def rJ (a b:Int):PyData:= .tuple [.int a,.int b]
theorem vG {K:PySem.W.Frag}{H:Hp}{p:Addr}{a b:Int}(h:H p=some (.tup [.int a,.int b])):eI K H (rJ a b) (.ref p):=⟨p,_,rfl,aV.of h,_,_,rfl,rfl,_,_,rfl,rfl,rfl⟩
section
variable {X:Cx}{pins:List (Addr×Obj)}{σ: St}{H:Hp}{s:Shared}{h':Heap}
theorem aN.turnedNew {T:Addr}{o:HO}{rs:List Addr}{t':Nat}(I:aN X pins σ H s) (hf:∀ b∈rs,iO X pins H b) (k:∀ b u,b∉rs->s.heap.get? b=some u->h'.get? b=some u)
  (hp:s.heap.objs.size<=T) (new:bD X.prog X.w (aJ H T o) h' T o):aN X pins σ (aJ H T o) { s with heap:=h',toks:=t' }:=by
 have fT:H T=none:=I.hok.fresh hp
 have nT:∀ b u,s.heap.get? b=some u->b≠T:=fun b u e z=>absurd (az e) (by rw [z];exact ux.mpr hp)
 have nrs:∀ b u,H b=some u->b∉rs:=fun b u e z=>by rw [(hf b z).1] at e;cases e
 refine I.step (g':=s.gens) (d':=s.drawn) (ch:=rs) (fun b hb=>⟨(hf b hb).2.2.2.1,(hf b hb).2.1,(hf b hb).2.2.2.2.1,(hf b hb).2.2.2.2.2⟩) (fun b u _ _ hc e _=>k b u hc e) (fun b u _ _ hc e _=>⟨u.slots,k b u hc e⟩)
  (fun b u _ e n=>by rw [aE (nT b u e)];exact n) (fun b u hc e=>⟨u,k b u hc e⟩) (fun b xs e=>by rw [aE (aH e fT)];exact e) (fun b u v e=>by rw [aE (aH e fT)];exact e)
  (fun b ps e=>⟨#[],by rw [aE (aH e fT),e];simp⟩) (fun m hm=>?_) (fun b u e=>?_) I.bare
 ·obtain ⟨u,es,ep,hu,r⟩:=hm
  exact ⟨u,es,ep,k _ u (fun z=>(hf _ z).2.1 rfl) hu,r⟩
 ·by_cases hb:b=T
  ·subst hb
   rw [aC] at e
   cases e
   exact new
  ·rw [aE hb] at e
   refine (I.hok b u e).stay (fun c v hc q=>k c v ?_ q) (fun c q=>by rw [aE (aH q fT)];exact q) fun c xs q=>by rw [aE (aH q fT)];exact q
   rcases hc with z | z
   ·rw [z];exact nrs b u e
   ·exact nrs c _ z
theorem aN.turnedL {rs:List Addr}{t':Nat}(I:aN X pins σ H s) (hf:∀ b∈rs,iO X pins H b) (k:∀ b u,b∉rs->s.heap.get? b=some u->h'.get? b=some u):aN X pins σ H { s with heap:=h',toks:=t' }:=by
 have nrs:∀ b u,H b=some u->b∉rs:=fun b u e z=>by rw [(hf b z).1] at e;cases e
 refine I.step (g':=s.gens) (d':=s.drawn) (ch:=rs) (fun b hb=>⟨(hf b hb).2.2.2.1,(hf b hb).2.1,(hf b hb).2.2.2.2.1,(hf b hb).2.2.2.2.2⟩) (fun b u _ _ hc e _=>k b u hc e) (fun b u _ _ hc e _=>⟨u.slots,k b u hc e⟩)
  (fun b u _ _ n=>n) (fun b u hc e=>⟨u,k b u hc e⟩) (fun b xs e=>e) (fun b u v e=>e) (fun b ps e=>⟨#[],by rw [e];simp⟩) (fun m hm=>?_) (fun b u e=>?_) I.bare
 ·obtain ⟨u,es,ep,hu,r⟩:=hm
  exact ⟨u,es,ep,k _ u (fun z=>(hf _ z).2.1 rfl) hu,r⟩
 ·refine (I.hok b u e).stay (fun c v hc q=>k c v ?_ q) (fun c q=>q) fun c xs q=>q
  rcases hc with z | z
  ·rw [z];exact nrs b u e
  ·exact nrs c _ z
end
section
variable {prog:Program}{w:World}{A:Around}{E:Value->Shared->Prop}{s:Shared}
end
section
variable {prog:Program}{w:World}{A:Around}{E:Value->Shared->Prop}{s:Shared}
end
section
variable {g:TG}{tc:TT}{te:TE}
end
section
variable {X:Cx}{tg:Expr}
end
theorem aC0 (ns:List Int):∀ j,j<=ns.length->preSum (fun i=>ns.getD i 0) j=(ns.take j).sum
 |0,_=>by simp [preSum]
 |j+1,h=>by
  have ih:=aC0 ns j (by omega)
  have e:ns[j]?=some ns[j]:=by simp [show j < ns.length by omega]
  have q:ns.take (j+1)=ns.take j++[ns[j]]:=by rw [List.take_succ,e];rfl
  rw [q,ny, <- ih]
  simp [preSum,List.getD,e]
section
variable {X:Cx}
theorem aO9 (hc:X.calm=true:=by rfl):cB X (.builtin "sum") (fun xs H Q=>∃ (p:Addr) (ns:List Int),xs=[.ref p]/\bK X.K H p (ns.map V.int)/\Q (.int ns.sum) H):=by
 intro pins s σ H xs us Q I r h
 obtain ⟨p,ns,rfl,hq,q⟩:=h
 obtain ⟨u,rfl,ru⟩:=eW r
 cases ru
 obtain ⟨its,rv,pl,hz⟩:=I.list hq
 have lp:p < s.heap.objs.size:=by
  obtain ⟨o,e,_⟩:=pl.isList
  exact az e
 have hl:=rv.length
 rw [af] at hl
 have val:∀ i v,its.toArray[i]?=some v->∃ t,v=Value.int (ns.getD i 0) t:=fun i v hv=>by
  have hi:its[i]?=some v:=by simpa using hv
  have hb:i < ns.length:=by
   have:=(bq.mp hi).1
   omega
  obtain ⟨u,hu,ru⟩:=rv.get (i:=i) (x:=V.int ns[i]) (by rw [bf,aj hb];rfl)
  rw [hi] at hu
  cases hu
  obtain ⟨t,e⟩:=ru
  exact ⟨t,by rw [e];simp [List.getD,hb]⟩
 refine call_sum_walkG (ic pl.isList ⟨s.heap.objs.size,_,_,_,_,_,fun i=>ns.getD i 0,rfl,Walks.list (A:=X.A.in1) (I.ok.hd hc) s.heap.objs.size p (bv lp) its.toArray,⟨⟨_,aq _ rfl,rfl,rfl⟩,pl.isList.at fun o e=>ag _ e⟩,?_,val,?_⟩)
 ·intro b hb
  rw [mo]
  rcases bi.mp hb with z | z
  ·rw [z];exact gm _
  ·have z:b=p:=by simpa using z
   rw [z];exact xa lp
 ·intro h' tk t' hk
  have kept:∀ b o,s.heap.get? b=some o->h'.get? b=some o:=fun b o e=>hk b o (by
   intro z
   have z:b=s.heap.objs.size:=by simpa using z
   exact absurd (az e) (by rw [z];exact dk _)) (ag _ e)
  refine ⟨.int ns.sum,H,I.kept kept,⟨t',?_⟩,q⟩
  rw [bp, <- hl,aC0 ns _ (ak _),be]
end
theorem kU:∀ {us:List Value}{ns:List Int},IntsAre us ns->aZ (ns.map V.int) us
 |_,_,.nil=> .nil
 |_,_,.cons n t r=> .cons ⟨t,rfl⟩ (kU r)
theorem zC {X:Cx}:cB X (.builtin "sorted") (fun xs H Q=>∃ (p:Addr) (ns:List Int),xs=[.ref p]/\bK X.K H p (ns.map V.int)/\ns.length < 64 /\
  ∀ ns':List Int,ns'.Perm ns->ns'.Pairwise (· <= ·)->∀ l,H l=none->Q (.ref l) (aJ H l (.lst (ns'.map V.int)))):=by
 intro pins s σ H xs us Q I r h
 obtain ⟨p,ns,rfl,hq,hz,q⟩:=h
 obtain ⟨u,rfl,ru⟩:=eW r
 cases ru
 obtain ⟨its,rv,pl,_⟩:=I.list hq
 have len:=rv.length
 rw [af] at len
 refine sorted_ints pl.isList (iH rv) (by omega) fun out ns' a1 a2 a3=>?_
 obtain ⟨e,he⟩:=sortedAll_at s.heap its out
 have le:s.heap.objs.size<=s.heap.objs.size+1:=aBe _
 refine ⟨.ref (s.heap.objs.size+1),_,I.laid (t':=s.toks) (o:= .lst (ns'.map V.int)) (fun b o z=>sortedAll_old z) le ?_,rfl,q ns' a2 a3 _ (I.hok.fresh le)⟩
 refine ⟨?_,out.toList,e,kU a1,by rw [pq];exact he⟩
 rw [af,a2.length_eq]
 exact my (aK (by omega))
theorem aL5 {κ: Type}:∀ {kvs:List (κ×V)}{vs:List (κ×Value)}{i:Nat}{k:κ}{v:V},KV kvs vs->kvs[i]?=some (k,v)->∃ u,vs[i]?=some (k,u)/\bA v u
 |_,_,_,_,_,.nil,e=>by simp at e
 |_,_,0,_,_,.cons r _,e=>by
  simp at e
  subst e
  obtain ⟨r1,r2⟩:=r
  exact ⟨_,by simp;exact xw r1.symm rfl,r2⟩
 |_,_,i+1,_,_,.cons _ r,e=>by
  obtain ⟨u,e1,e2⟩:=aL5 (i:=i) r (by simpa using e)
  exact ⟨u,by simpa using e1,e2⟩
section
variable {X:Cx}
variable {g:TG}{tc:TT}{te:TE}
end
open AutoSeq1 (wpAny_loadPart')
section
variable {prog:Program}{w:World}{A:Around}{E:Value->Shared->Prop}{s:Shared}
end
def bP9 (i j:Int):Prop:=0 < j/\j < 2 ^ 200 * 2 ^ 200
theorem kW {X:Cx}:iV X (binaryOp .FloorDiv) (rI bP9 fun i j=> .int (i / j)):=opI fun i j _ _ _ _ _ hc q=>by
 obtain ⟨h0,h1⟩:=hc
 refine floordiv_int (by (first | exact Int.ne_of_gt (by with_reducible assumption) | omega)) ?_ (.inl (xu ?_))
 ·rw [wv i (by (first | exact qp (by with_reducible assumption) | omega))];exact q
 ·have h2:j.natAbs < 2 ^ 200 * 2 ^ 200:=by omega
  rw [<- Nat.pow_add] at h2
  have h3:j.natAbs≠0:=by omega
  have h4:j.natAbs.log2 < 200+200:=(aBf h3).mpr h2
  exact bn h4 (by decide)
open PySem
theorem lay {H:Hp}{l:Addr}(h:H l=none) (o:HO):∃ H2,aJ H l o=H2/\aT H H2/\H2 l=some o:=⟨_,rfl,aB h o,aC⟩
theorem bQ9:1<=sizeLine:=by decide
theorem cE:2<=sizeLine:=by decide
end L2
namespace Mine
open PySem L2
def gI (a b:Int):Int:=(Nat.gcd a.toNat b.toNat:Nat)
def eZ (a b:Int):Int:=a / gI a b
def dY (a b:Int):Int:=b / gI a b
theorem tR {a b:Int}(hb:1<=b):0 < gI a b:=by
 have:0 < Nat.gcd a.toNat b.toNat:=Nat.gcd_pos_of_pos_right _ (by omega);unfold gI;omega
theorem bG0 {a b c:Int}(ha:0<=a) (hb:0<=b) (hc:0<=c):gI (c * a) (c * b)=c * gI a b:=by
 obtain ⟨x,rfl⟩:=gk ha;obtain ⟨y,rfl⟩:=gk hb;obtain ⟨z,rfl⟩:=gk hc;unfold gI;rw [<- yn, <- yn,cy,cy,cy,cy,Nat.gcd_mul_left,yn]
theorem aB5 {a b c:Int}(ha:0<=a) (hb:1<=b) (hc:1<=c):eZ (c * a) (c * b)=eZ a b/\dY (c * a) (c * b)=dY a b:=by
 unfold eZ dY;rw [bG0 ha (by omega) (by omega),yg _ _ (by omega),yg _ _ (by omega)];exact ⟨rfl,rfl⟩
theorem aR6 {a b c d:Int}(ha:0<=a) (hb:1<=b) (hc:0<=c) (hd:1<=d) (h:a * d=c * b):eZ a b=eZ c d/\dY a b=dY c d:=by
 have e1:=aB5 ha hb hd;have e2:=aB5 hc hd hb;have q1:d * a=b * c:=by rw [qr d a,h,qr]
 have q2:d * b=b * d:=qr _ _;rw [q1,q2] at e1;exact ⟨e1.1.symm.trans e2.1,e1.2.symm.trans e2.2⟩
theorem aA4 {a b:Int}(ha:0<=a):gI a b ∣ a:=by
 obtain ⟨x,rfl⟩:=gk ha;unfold gI;rw [cy];exact yh.mpr (Nat.gcd_dvd_left _ _)
theorem sW {a b:Int}(hb:0<=b):gI a b ∣ b:=by
 obtain ⟨x,rfl⟩:=gk hb;unfold gI;rw [cy];exact yh.mpr (Nat.gcd_dvd_right _ _)
theorem gY {a b:Int}(ha:0<=a) (hb:1<=b):eZ a b * b=a * dY a b:=by
 have h1:=qi (aA4 (b:=b) ha);have h2:=qi (sW (a:=a) (b:=b) (by omega));unfold eZ dY;generalize a / gI a b=x at h1 ⊢;generalize b / gI a b=y at h2 ⊢;rw [<- h1, <- h2];generalize gI (x * gI a b) (y * gI a b)=g
 grind
theorem cR {a b:Int}(ha:0<=a):0<=eZ a b:=uz ha (by unfold gI;omega)
theorem cK {a b:Int}(hb:1<=b):1<=dY a b:=by
 have h2:=qi (sW (a:=a) (b:=b) (by omega));have g:=tR (a:=a) hb;unfold dY;generalize b / gI a b=y at h2 ⊢
 by_cases z:0 < y
 ·omega
 ·have:=cv (show 0<= -y by omega) (qp g);rw [Int.neg_mul] at this;omega
theorem uB {a b:Int}(ha:0<=a) (hb:1<=b):eZ a b<=a:=Int.ediv_le_self _ ha
theorem aA3 {a b:Int}(hb:1<=b):dY a b<=b:=Int.ediv_le_self _ (by omega)
theorem aX6 {a b:Int}(ha:0<=a) (hb:1<=b):eZ (eZ a b) (dY a b)=eZ a b/\dY (eZ a b) (dY a b)=dY a b:=by
 have:=aR6 (cR (b:=b) ha) (cK (a:=a) hb) ha hb (by rw [gY ha hb]);exact this
def shD (p q:Int) (n:Nat):Int:=(q+p) * q ^ n
theorem vT {x y:Int}(hx:0<=x) (hy:0 < y):gI y (x % y)=gI x y:=by
 obtain ⟨m,rfl⟩:=gk hx;obtain ⟨n,rfl⟩:=gk (qp hy);unfold gI;rw [<- Int.natCast_emod,cy,cy,cy,Nat.gcd_comm m n,Nat.gcd_rec n m,Nat.gcd_comm]
theorem aA0 {x:Int}(hx:0<=x):gI x 0=x:=by
 unfold gI;simp;omega
theorem aZ3 {a b:Int}(hb:1<=b):gI a b<=b:=by
 have:Nat.gcd a.toNat b.toNat<=b.toNat:=Nat.gcd_le_right _ (by omega);unfold gI;omega
theorem fN {a b:Int}{m n:Nat}(a0:0<=a) (a1:a < 2 ^ m) (b0:0<=b) (b1:b < 2 ^ n):0<=a * b/\a * b < 2 ^ (m+n):=by
 refine ⟨cv a0 b0,?_⟩;rw [zc];have hp:(0:Int) < 2 ^ n:=Int.pow_pos (by decide);have h1:a * b<=a * 2 ^ n:=gf (qp b1) a0;have h2:a * 2 ^ n < 2 ^ m * 2 ^ n:=iw a1 hp;omega
def cC (H:Hp) (p:Addr) (a b:Int):Prop:=H p=some (.tup [.int a,.int b])
theorem qS (a b:Int):uJ [V.int a,V.int b] 0=some (.int a):=rfl
theorem nH (a b:Int):uJ [V.int a,V.int b] 1=some (.int b):=rfl
def eP (a b:Int):List V:=[.int (eZ a b),.int (dY a b)]
def jR (a:Int):Prop:=0<=a/\a < 2 ^ 180
theorem jR.below {a:Int}(h:jR a):gK a:=⟨by have:=h.1;omega,by have:=h.2;omega⟩
theorem bI6 {a b:Int}(ha:jR a) (hb:jR b) (h1:1<=b):jR (eZ a b)/\jR (dY a b):=by
 have q1:=cR (b:=b) ha.1;have q2:=cK (a:=a) h1;have q3:=uB ha.1 h1;have q4:=aA3 (a:=a) h1;have:=ha.2;have:=hb.2;exact ⟨⟨q1,by omega⟩,⟨by omega,by omega⟩⟩
theorem aX3 {H H':Hp}{d l p:Addr}{xs:List V}(D:cD H d l) (o:bP d l H H') (h:H p=some (.tup xs)):H' p=some (.tup xs):=by
 obtain ⟨sd,n,ls,D⟩:=D;exact o _ _ h (cF h D.dc (by intro z;cases z)) (cF h D.lc (by intro z;cases z))
def spGcd:Sp:=fun vs H Q _=>∃ a b:Int,vs=[.int a,.int b]/\0<=a/\0<=b/\Q (.int (gI a b)) H
def spLow:Sp:=fun vs H Q _=>∃ a b:Int,vs=[.int a,.int b]/\0<=a/\1<=b/\b < 2 ^ 200 * 2 ^ 200/\∀ p,H p=none->Q (.ref p) (aJ H p (.tup (eP a b)))
def spTimes:Sp:=fun vs H Q _=>∃ (p q:Addr) (a b c d:Int),vs=[.ref p,.ref q]/\cC H p a b/\cC H q c d/\jR a/\jR b/\jR c/\jR d/\1<=b/\1<=d/\∀ r,H r=none->Q (.ref r) (aJ H r (.tup (eP (a * c) (b * d))))
def aA6 (K:W.Frag):Sp:=fun vs H Q _=>∃ (a:Addr) (ns:List Int),vs=[.ref a]/\bK K H a (ns.map V.int)/\ns.length<=63/\∀ H',Q (.bl true) H'
def bX {α: Type}(R:V->α->Prop):List V->List α->Prop
 |[],[]=>True
 |v :: vs,a :: as=>R v a/\bX R vs as
 |_,_=>False
theorem bX.mono {α: Type}{R R':V->α->Prop}(h:∀ v a,R v a->R' v a):∀ {vs:List V}{as:List α},bX R vs as->bX R' vs as
 |[],[],_=>trivial
 |_ :: _,_ :: _,⟨e,r⟩=>⟨h _ _ e,bX.mono h r⟩
 |[],_ :: _,z=>z.elim
 |_ :: _,[],z=>z.elim
theorem bX.append {α: Type}{R:V->α->Prop}:∀ {vs ws:List V}{as bs:List α},bX R vs as->bX R ws bs->bX R (vs++ws) (as++bs)
 |[],_,[],_,_,r=>r
 |_ :: _,_,_ :: _,_,⟨e,r⟩,r2=>⟨e,bX.append r r2⟩
 |[],_,_ :: _,_,z,_=>z.elim
 |_ :: _,_,[],_,z,_=>z.elim
theorem bX.length {α: Type}{R:V->α->Prop}:∀ {vs:List V}{as:List α},bX R vs as->vs.length=as.length
 |[],[],_=>rfl
 |_ :: _,_ :: _,⟨_,r⟩=>by simp [bX.length r]
 |[],_ :: _,z=>z.elim
 |_ :: _,[],z=>z.elim
theorem bX.rep {α: Type}{R:V->α->Prop}{K:W.Frag}{H:Hp}{f:α->PyData}(h:∀ v a,R v a->eI K H (f a) v):∀ {vs:List V}{as:List α},bX R vs as->qR K H (as.map f) vs
 |[],[],_=>rfl
 |_ :: _,_ :: _,⟨e,r⟩=>⟨_,_,rfl,h _ _ e,bX.rep h r⟩
 |[],_ :: _,z=>z.elim
 |_ :: _,[],z=>z.elim
def TS (H H':Hp):Prop:=∀ a xs,H a=some (.tup xs)->H' a=some (.tup xs)
theorem TS.of {H H':Hp}(s:aT H H'):TS H H':=fun _ _ e=>s _ _ e
theorem TS.trans {H H1 H2:Hp}(a:TS H H1) (b:TS H1 H2):TS H H2:=fun c o h=>b c o (a c o h)
theorem TS.lst {H:Hp}{l:Addr}{xs ys:List V}(h:H l=some (.lst xs)):TS H (aJ H l (.lst ys)):=fun a o e=>by
 rw [aE (cF e h (by intro z;cases z))];exact e
theorem TS.out {H H':Hp}{d l:Addr}(D:cD H d l) (o:bP d l H H'):TS H H':=fun p xs h=>aX3 D o h
theorem aU {α: Type}{l:List α}{i:Nat}{x:α}(h:l[i]?=some x):l.take (i+1)=l.take i++[x]:=by
 rw [List.take_succ,h];rfl
def entD (e:Int×Int×Int):PyData:= .tuple [.int e.1,rJ e.2.1 e.2.2]
def eD (p q n y:Int):Int:=shD p q (y - n).natAbs
structure pZ (lo hi:Int):Prop where
 a:0<=lo
 b:lo<=hi
 c:hi<=9
def bV4:List Str:=["kinds","ladder","flat","choose","first","let","tell","when","else","times","end","of"]
structure cL (H:Hp) (d l ls:Addr) (ts:List V):Prop where
 deal:cD H d l
 ne:ls≠l
 lst:H ls=some (.lst ts)
theorem cL.new {H:Hp}{d l ls:Addr}(D:cD H d l) (h:H ls=none):cL (aJ H ls (.lst [])) d l ls []:=by
 obtain ⟨sd,n,l',q⟩:=id D;exact ⟨D.same (aB h _),(aH q.lc h).symm,aC⟩
theorem cL.out {H H':Hp}{d l ls:Addr}{ts:List V}(S:cL H d l ls ts) (D:cD H' d l) (o:bP d l H H'):cL H' d l ls ts:=by
 refine ⟨D,S.ne,?_⟩;obtain ⟨sd,n,l',q⟩:=S.deal;exact o _ _ S.lst (cF S.lst q.dc (by intro z;cases z)) S.ne
theorem cL.same {H H':Hp}{d l ls:Addr}{ts:List V}(S:cL H d l ls ts) (s:aT H H'):cL H' d l ls ts:=⟨S.deal.same s,S.ne,s _ _ S.lst⟩
theorem cL.app {H:Hp}{d l ls:Addr}{ts:List V}(S:cL H d l ls ts) (us:List V):cL (aJ H ls (.lst us)) d l ls us:=by
 refine ⟨?_,S.ne,aC⟩;obtain ⟨sd,n,l',q⟩:=S.deal;exact ⟨sd,n,l',⟨by rw [aE (cF q.dc S.lst (by intro z;cases z))];exact q.dc,by rw [aE S.ne.symm];exact q.lc,q.s0,q.s1,q.n0,q.l0⟩⟩
def kJ (u:Int×Int):Prop:=jR u.1/\jR u.2/\1<=u.2
def iP (u e:Int×Int):Int×Int:=(eZ (u.1 * e.2+e.1 * u.2) (u.2 * e.2),dY (u.1 * e.2+e.1 * u.2) (u.2 * e.2))
theorem sR:∀ {l:List Int},l.Pairwise (· <= ·)->l.Nodup->l.Pairwise (· < ·)
 |[],_,_=>wz
 |a :: r,h,n=>by
  obtain ⟨h1,h2⟩:=qt.mp h;obtain ⟨n1,n2⟩:=ig.mp n;refine qt.mpr ⟨fun b hb=>?_,sR h2 n2⟩;have:=h1 b hb;have:a≠b:=fun z=>n1 (by rw [z];exact hb)
  omega
def spAdd:Sp:=fun vs H Q _=>∃ (p q:Addr) (u e:Int×Int),vs=[.ref p,.ref q]/\cC H p u.1 u.2/\cC H q e.1 e.2/\kJ u/\kJ e/\∀ r,H r=none->Q (.ref r) (aJ H r (.tup [.int (iP u e).1,.int (iP u e).2]))
def wG:Int×Int->List (Int×Int)->Prop
 |_,[]=>True
 |u,f :: r=>kJ u/\kJ f/\wG (iP u f) r
theorem uU:∀ {fs:List (Int×Int)}{u:Int×Int}{i:Nat}{f:Int×Int},wG u fs->fs[i]?=some f->kJ ((fs.take i).foldl iP u)/\kJ f
 |[],_,_,_,_,h=>by simp at h
 |a :: r,u,0,f,⟨s1,s2,_⟩,h=>by
  have q:a=f:=by simpa using h
  subst q;exact ⟨s1,s2⟩
 |a :: r,u,i+1,f,⟨_,_,s3⟩,h=>by
  have:=uU (i:=i) s3 (by simpa using h)
  simpa using this
theorem xH {S P:Int}(hS:0<=S) (h1:S < 2 ^ 180) (hP:1<=P) (h2:P < 2 ^ 180):kJ (eZ S P,dY S P):=by
 have l:=bI6 (a:=S) (b:=P) ⟨hS,h1⟩ ⟨by (first | exact ki (b:=1) (by decide +kernel) (by with_reducible assumption) | omega),h2⟩ hP;exact ⟨l.1,l.2,cK hP⟩
def FrR (H:Hp) (v:V) (f:Int×Int):Prop:=∃ q,v= .ref q/\cC H q f.1 f.2
theorem FrR.ts {H H':Hp}{v:V}{f:Int×Int}(t:TS H H') (h:FrR H v f):FrR H' v f:=let ⟨a,e,q⟩:=h;⟨a,e,t _ _ q⟩
def spCome:Sp:=fun vs H Q _=>∃ l us fs,vs=[.ref l]/\H l=some (.lst us)/\bX (FrR H) us fs/\wG (0,1) fs/\∀ H' q,aT H H'->cC H' q (fs.foldl iP (0,1)).1 (fs.foldl iP (0,1)).2->Q (.ref q) H'
theorem bX.at {α: Type}{R:V->α->Prop}:∀ {vs:List V}{as:List α}{i:Nat}{v:V},bX R vs as->vs[i]?=some v->∃ a,as[i]?=some a/\R v a
 |[],[],_,_,_,h=>by simp at h
 |v :: vs,a :: as,0,w,⟨h1,_⟩,h=>by
  have e:v=w:=by simpa using h
  subst e;exact ⟨a,by simp,h1⟩
 |v :: vs,a :: as,i+1,w,⟨_,h2⟩,h=>by
  obtain ⟨b,hb,r⟩:=bX.at (i:=i) h2 (by simpa using h);exact ⟨b,by simpa using hb,r⟩
theorem wA {S P:Int}(hS:1<=S) (hP:1<=P):1<=eZ S P:=by
 have r:=gY (a:=S) (by (first | exact ki (b:=1) (by decide +kernel) (by with_reducible assumption) | omega)) hP;have n2:=cK (a:=S) hP;have a:=cR (a:=S) (b:=P) (by (first | exact ki (b:=1) (by decide +kernel) (by with_reducible assumption) | omega))
 by_cases z:eZ S P=0
 ·rw [z,Int.zero_mul] at r;have:=ow (show 0 < S by (first | exact oh (b:=1) (by decide +kernel) (by with_reducible assumption) | omega)) (show 0 < dY S P by (first | exact oh (b:=1) (by decide +kernel) (by with_reducible assumption) | omega));omega
 ·omega
def aI (c w:Int):Int×Int:=(eZ c w,dY c w)
theorem dB {a b c d:Int}(ha:0<=a) (hb:1<=b) (hc:0<=c) (hd:1<=d) (h:a * d=c * b):aI a b=aI c d:=by
 have e:=aR6 ha hb hc hd h;unfold aI;rw [e.1,e.2]
theorem cQ {w:Int}(h:1<=w):aI 0 w=(0,1):=by
 have e:=dB (a:=0) (b:=w) (c:=0) (d:=1) (by omega) h (by decide) (by decide) (by omega);rw [e]
 decide
theorem dU {a b w:Int}(ha:0<=a) (hb:0<=b) (hw:1<=w):iP (aI a w) (aI b w)=aI (a+b) w:=by
 have r1:=gY ha hw;have r2:=gY hb hw;have n1:=cR (b:=w) ha;have n2:=cR (b:=w) hb;have p1:=cK (a:=a) hw;have p2:=cK (a:=b) hw;have q1:=cv n1 (show 0<=dY b w by (first | exact ki (b:=1) (by decide +kernel) (by with_reducible assumption) | omega));have q2:=cv n2 (show 0<=dY a w by (first | exact ki (b:=1) (by decide +kernel) (by with_reducible assumption) | omega));have q3:=ow (show 0 < dY a w by (first | exact oh (b:=1) (by decide +kernel) (by with_reducible assumption) | omega)) (show 0 < dY b w by (first | exact oh (b:=1) (by decide +kernel) (by with_reducible assumption) | omega));show aI (eZ a w * dY b w+eZ b w * dY a w) (dY a w * dY b w)=_;refine dB (by omega) (by (first | exact Int.add_one_le_of_lt (a:=0) (by with_reducible assumption) | omega)) (by omega) hw ?_;generalize eZ a w=x at r1 ⊢;generalize dY a w=y at r1 ⊢
 generalize eZ b w=z at r2 ⊢;generalize dY b w=v at r2 ⊢
 grind
end Mine
namespace L2
open PySem PySem.Spec PyProof.Rows
theorem aS6:typeLookup (.type "tuple") "keys"=pure none:=by rw [uy,pc];kernel_rfl
section
variable {prog:Program}{w:World}{A:Around}{E:Value->Shared->Prop}{s:Shared}
theorem keys_miss {a : Addr}{xs : Array Value}{k : Nat}{sl : Array (Option Value)}{Q : Option Value -> Shared -> Prop}(hx : s.heap.get? a = some { cls := .type "tuple", dict := none, data := .seq xs k, slots := sl }) (hA : A.handled = none)
    (h : ∀ h' tk, (∀ b o, s.heap.get? b = some o -> h'.get? b = some o) -> Q none { s with heap := h', toks := tk }) : wpAny (model prog w) A (getAttr? (.ref a) "keys") Q E s := by
  obtain ⟨hp, g, d, tk, os⟩ := s;have hT : ∀ tk', (⟨hp, g, d, tk', os⟩ : Shared).TypeIs (.ref a) "tuple" := fun _ => ⟨_, hx, rfl⟩
  have f1 := aAx;have f3 := F.slot_tuple_getattribute.lookup;have f4 := F.slot_tuple_getattribute.bind (.ref a);have f5 := am_tuple_getattr_none;unfold getAttr? getAttrBy? getAttrBy
  repeat (any_goals (first | assumption | exact hT _ |
    ((with_reducible show wpAny _ _ (call (Value.builtin "tuple.__getattribute__") _ _) _ _ _)
     refine pp F.slot_tuple_getattribute (hT _) am_entry_tuple_getattribute (F.args_tuple_getattribute_2 _ _) (meets_getattribute_miss_tuple a xs k sl "keys" _ aS6 (by decide +kernel)) ⟨hx, hA, fun h' tk' e ne => ?_⟩) | wp_step))
  obtain ⟨t', u', he⟩ := ne.there;show wpAny _ _ (getattributeRaised _ _ _ _ _ _ _) _ _ _;unfold getattributeRaised
  repeat (any_goals (first | assumption | wp_step))
  exact h _ _ ne.keeps
end
section
variable {X:Cx}{pins:List (Addr×Obj)}{σ: St}{H:Hp}{s:Shared}{a:Addr}{y v:V}{u r:Value}{A:Around}{E:Value->Shared->Prop}
theorem mO {H':Hp}{Q:Unit->Shared->Prop}(hu:A.units < cLine) (I:aN X pins σ H s) (g:iT H a y v H') (ry:bA y u) (rv:bA v r) (h:∀ s',aN X pins σ H' s'->Heap.SameBut a s.heap s'.heap->Q () s') :
  wpAny (model X.prog X.w) A (dictSet a u r) Q E s:=by
 rcases g with ⟨kvs,k,e,ey,l,eH⟩ | ⟨kvs,k,b,e,ey,eb,l,eH⟩
 ·subst ey eH;obtain ⟨z,hd,vs,rel,dd⟩:=aP9 I.hok e;refine wpAny_dictSet_pairs (hsz:=by rw [<- rel.length];exact z) (mU ry) dd fun h' dd' hs=>h _ (iB I (by rw [e];exact gr) hs (let ⟨q,_,_,hq,_⟩:=dd';⟨q,hq⟩) (xX ?_ hd (rel.put k rv) dd')) hs
  have:=dI kvs k v;omega
 ·subst ey eH
  cases (show u=Value.ref b from ry)
  obtain ⟨z,hd,xs,rel,dd⟩:=aZ5 I.hok e;have hl:(bF kvs k v).length<=sizeLine:=by have:=dI kvs k v;omega
  refine aAy (hsz:=by rw [<- fw rel];exact z) (show (tupleKind (bB X.prog X.w)).room A from hu) (mP I.hok eb) dd fun h' dd' hs=>h _ ?_ hs
  obtain ⟨q,es,ep,hq,h2,h3,h4,_,h5⟩:=dd';refine iB I (by rw [e];exact gr) hs ⟨q,hq⟩ ⟨hl,hd,_,(rel.put k eb rv).keeps fun c ys ec=>?_,q,es,ep,hq,h2,h3,h4,h5⟩;rw [aE (cF ec e (fun z=>nomatch z))];exact ec
end
theorem fR:entryFor table "dict.update.loop"=some Builtin.«dict.update.loop» :=xx (by kernel_rfl)
def kP (H:Hp) (d:Addr) (ys:List V) (o:Nat->HO):Prop:=∀ i,i < ys.length->∃ t k v,ys[i]?=some (.ref t)/\H t=some (.tup [k,v])/\iT (aJ H d (o i)) d k v (aJ H d (o (i+1)))
section
variable {X:Cx}{pins:List (Addr×Obj)}{σ: St}{H:Hp}{s:Shared}{A:Around}{E:Value->Shared->Prop}
theorem aE4 {p d it:Addr}{ys:List V}{o:Nat->HO}{Q:Value->Shared->Prop}(hu:A.in1.units < cLine) (hA:A.in1.handled=none) (hp:H p=some (.tup ys)) (hd:H d=none) (hi0:H it=none) (hid:it≠d) (C:kP H d ys o)
  (q:∀ s',aN X pins σ (aJ H d (o ys.length)) s'->Q .none s'):∀ (n i:Nat) (tk:Tok) (s:Shared),n+i=ys.length->aN X pins σ (aJ H d (o i)) s->iO X pins (aJ H d (o i)) it->s.heap.IsTupleIter it p i ->
  codeAny (model X.prog X.w) A (.builtin "dict.update.loop" ⟨[.ref d,.ref it,.int i tk,.none],[]⟩) (wants Q E) s:=by
 intro n
 induction n with
 |zero =>
  intro i tk s hn I hf st;have e:i=ys.length:=by omega
  subst e;have hp':aJ H d (o ys.length) p=some (.tup ys):=by rw [aE (aH hp hd)];exact hp
  obtain ⟨its,rv,tp,hz⟩:=I.tuple (aV.of hp');obtain ⟨f0,f1,f2,f3,f4,f5⟩:=hf;have hl:=rv.length;refine oj fR ?_;unfold Builtin.«dict.update.loop»;refine aa (yt hA st (show s.heap.IsTuple p its.toArray from tp) (by simp;omega) fun h' eb=>?_);have I1:=I.turned (h':=h') (t':=s.toks) (fun b o hb e=>eb b o hb e) f0 f1 f3 f4 f5;show wpAny _ _ (Builtin.Dict.addKeywords d [] >>= fun _=>ret Value.none) _ _ _;exact aa (ac (ac (q _ I1)))
 |succ n ih =>
  intro i tk s hn I hf st;have hi:i < ys.length:=by omega
  obtain ⟨t,k,v,ey,ht,g⟩:=C i hi;have hp':aJ H d (o i) p=some (.tup ys):=by rw [aE (aH hp hd)];exact hp
  have ht':aJ H d (o i) t=some (.tup [k,v]):=by rw [aE (aH ht hd)];exact ht
  obtain ⟨its,rv,tp,hz⟩:=I.tuple (aV.of hp');obtain ⟨u,hu',ru⟩:=rv.get ey
  cases ru
  obtain ⟨f0,f1,f2,f3,f4,f5⟩:=id hf;refine oj fR ?_;unfold Builtin.«dict.update.loop»;refine aa (yd st (show s.heap.IsTuple p its.toArray from tp) (x:= .ref t) (by simpa using hu') fun h' st' sb=>?_);have I1:=I.turned (h':=h') (t':=s.toks) (fun b o hb e=>(sb.2 b hb).trans e) f0 f1 f3 f4 f5;obtain ⟨its2,rv2,⟨o2,e2,c2,m2,d2⟩,_⟩:=I1.tuple (aV.of ht');obtain ⟨uk,uv,rfl,rk,rV⟩:=mY rv2;refine aa (cp (aa (zr ?_)));refine (show wpAny _ _ (typeOf (.ref t) >>= _) _ _ _ from aa (kh (T:="tuple") ⟨o2,e2,c2⟩ ?_));refine (show wpAny _ _ (seqItems? (.ref t) >>= _) _ _ _ from aa (fx e2 d2 (ac ?_)));show wpAny _ _ (holding [uk,uv] (dictSet d uk uv)) _ _ _;refine cp (mO hu I1 g rk rV fun s2 I2 sb2=>?_);refine (show wpAny _ _ (again _) _ _ _ from ac ⟨kj _ (by decide +kernel),?_⟩)
  have ni:aJ H d (o (i+1)) it=none:=by rw [aE hid];exact hi0
  exact ih (i+1) _ s2 (by omega) I2 ⟨ni,f1,f2,f3,f4,f5⟩ (st'.at fun ob e=>(sb2.2 it hid).trans e)
theorem kH {k:Nat}(hr:bW k X.A):cB X (.type "dict") (fun xs H Q=>∃ (p:Addr) (ys:List V) (o:Nat->HO),xs=[.ref p]/\H p=some (.tup ys)/\(o 0= .dK []\/o 0= .dT [])/\∀ d,H d=none->kP H d ys o/\Q (.ref d) (aJ H d (o ys.length))):=by
 intro pins s σ H xs us Q I r h;obtain ⟨p,ys,o,rfl,hp,h0,h⟩:=h;obtain ⟨u,rfl,ru⟩:=eW r
 cases ru
 have hf:H s.heap.objs.size=none:=I.hok.fresh (ak _);obtain ⟨C,q⟩:=h _ hf;have hu:=hr.units;have ty:(⟨s.heap.push { cls:= .type "dict",data:= .dict #[] },s.gens,s.drawn,s.toks,s.os⟩:Shared).TypeIs (.ref s.heap.objs.size) "dict":=⟨_,aq _ rfl,rfl⟩
 have I1:aN X pins σ (aJ H s.heap.objs.size (o 0)) { s with heap:=s.heap.push { cls:= .type "dict",data:= .dict #[] } }:=by
  rcases h0 with e | e
  ·rw [e];exact I.laid (a:=s.heap.objs.size) (o:= .dK []) (t':=s.toks) (fun _ _ q=>ag _ q) (ak _) (lQ s.heap I.big)
  ·rw [e];exact I.laid (a:=s.heap.objs.size) (o:= .dT []) (t':=s.toks) (fun _ _ q=>ag _ q) (ak _) (nZ s.heap I.big)
 refine vo (Q₁:=fun obj s₁=>obj= .ref s.heap.objs.size/\s₁={ s with heap:=s.heap.push { cls:= .type "dict",data:= .dict #[] } }) xy (vb _) xb (xz _ ⟨rfl,rfl⟩) ?_;rintro obj s₁ ⟨rfl,rfl⟩;refine ⟨ty,wj _ _,?_⟩;unfold Builtin.«dict.__init__»;refine aa ?_;unfold Builtin.Dict.selfAndRest;refine aa (ik ty ?_);show wpAny _ _ (pure (s.heap.objs.size,[Value.ref p])) _ _ _;refine ac ?_;show wpAny _ _ (Builtin.Dict.updateFrom "dict.__init__" s.heap.objs.size (.ref p) [] .none) _ _ _;unfold Builtin.Dict.updateFrom;generalize hd0:s.heap.objs.size=d at hf C q I1 ⊢;have hp1:aJ H d (o 0) p=some (.tup ys):=by rw [aE (aH hp hf)];exact hp
 obtain ⟨_,its,rv,o1,e1,c1,n1,d1,x1⟩:=(show bD X.prog X.w _ _ p (.tup ys) from I1.hok p _ hp1)
 refine aa (kh (T:="tuple") ⟨o1,e1,c1⟩ ?_);rw [bb (by decide)];obtain ⟨oc,od,oda,osl⟩:=o1
 dsimp only at c1 d1 x1
 subst c1 d1 x1;refine aa (keys_miss e1 (show X.A.handled=none from hr.hd) fun h' tk kp=>?_);have I2:=I1.kept (h':=h') (t':=tk) kp;rw [bb (by rfl)];refine aa (jb (aa (wf (items:=its.toArray) ⟨_,kp _ _ e1,rfl,_,rfl⟩ ?_)));have I3:=I2.kept (h':=h'.push { cls:= .type "tuple_iterator",data:= .fields #[.ref p,.int 0 0] }) (t':=tk) fun b o e=>ag _ e
 have hit:aJ H d (o 0) h'.objs.size=none:=I2.hok.fresh (ak _);have hid:h'.objs.size≠d:=fun z=>by rw [z,aC] at hit;cases hit
 have hi0:H h'.objs.size=none:=by rw [aE hid] at hit;exact hit
 refine ac ⟨kj _ (by decide +kernel),?_⟩;refine aE4 (A:=X.A.in1) (Q:=fun r s₂=>r=Value.none/\EP X pins σ Q (.ref d) s₂) (H:=H) (p:=p) (ys:=ys) (o:=o) (by show X.A.units+1+1 < cLine;omega) (show X.A.handled=none from hr.hd) hp hf hi0 hid C (fun s' I'=>⟨rfl,.ref d,_,I',rfl,q⟩) ys.length 0 _ _ (by omega) I3 ⟨hit,?_⟩ ⟨_,aq _ rfl,rfl,rfl⟩;exact (I2.fpOk (H':=aJ H d (o 0)) (ak _) hit).2
end
open PySem PySem.Spec PyProof.Rows PySem.W
def cY (n:Nat) (p:Array Nat):Prop:=p.Perm (List.range n).toArray
theorem cY.get {n:Nat}{p:Array Nat}(h:cY n p) (h0:0 < n) (x:Nat):p.getD x 0 < n:=by
 by_cases c:x < p.size
 ·have e:p.getD x 0=p[x]:=by simp [Array.getD,c]
  have m:p[x]∈(List.range n).toArray.toList:=(jc.mp h).mem_iff.mp (by simp);rw [e]
  simpa using m
 ·have e:p.getD x 0=0:=by simp [Array.getD,c]
  omega
theorem cY.rev {n:Nat}{p:Array Nat}(h:cY n p) (i j:Nat):cY n (kas_rev p i j):=(mirror_perm p i j _).trans h
section
variable {n:Nat}(h0:0 < n)
include h0
end
open PySem PySem.Spec PyProof.Rows PySem.W HT
def bU1 (h:Heap) (v:Value):Prop:=∃ (a:Addr) (its:Array Value) (ns:List Int),v= .ref a/\IsTup h a its/\IntsAre its.toList ns
theorem wK:∀ {us:List Value}{ns:List Int},IntsAre us ns->∀ {v:Value},v∈us->∃ x t,v=Value.int x t
 |_,_,.cons n t r,v,h=>by
  rcases bi.mp h with rfl | h
  ·exact ⟨_,_,rfl⟩
  ·exact wK r h
section
variable {prog:Program}{w:World}{A:Around}{E:Value->Shared->Prop}{s:Shared}
theorem mK {α β: Type}{f:α->Sem β}{P:β->Prop}:∀ (l:List α) {Q:List β->Shared->Prop},(∀ v∈l,∀ Q':β->Shared->Prop,(∀ r,P r->Q' r s)->wpAny (model prog w) A (f v) Q' E s)->(∀ rs,(∀ r∈rs,P r)->Q rs s)->wpAny (model prog w) A (List.mapM f l) Q E s
 |[],Q,_,q=>by rw [List.mapM_nil];exact ac (q [] fun r h=>absurd h bh)
 |v :: l,Q,h,q=>by
  rw [List.mapM_cons];refine aa (h v au _ fun r pr=>?_);refine aa (mK l (fun v' h'=>h v' (ba _ h')) fun rs prs=>?_);refine ac (q _ fun r' h'=>?_);rcases bi.mp h' with rfl | h'
  ·exact pr
  ·exact prs _ h'
theorem mW {l:List Value}{Q:Option Value->Shared->Prop}(h:∀ v∈l,∃ T,s.TypeIs v T) (q:∀ r,Q r s):wpAny (model prog w) A (oneTypeOnly' l.toArray) Q E s:=by
 rw [oneTypeOnly'_eq,List.mapM_toArray];refine aa ?_;show wpAny _ _ (List.mapM typeOf l >>= fun a=>pure a.toArray) _ _ _;refine aa (mK (P:=fun _=>True) l (fun v hv Q' hQ'=>?_) fun rs _=>ac ?_)
 ·obtain ⟨T,ht⟩:=h v hv;exact kh ht (hQ' _ trivial)
 ·split
  ·exact ac (q _)
  ·exact ac (q _)
theorem aL0 {vs:List Value}{Q:SortKind->Shared->Prop}(h:∀ v∈vs,bU1 s.heap v) (q:∀ κ,(κ=general'\/κ=oneType'\/∃ b,κ=tuples' b)->Q κ s):wpAny (model prog w) A (keyKind' vs.toArray) Q E s:=by
 rw [kat_kind_eq,List.mapM_toArray];refine aa ?_;show wpAny _ _ (List.mapM firstOfTuple' vs >>= fun a=>pure a.toArray) _ _ _;refine aa (mK (P:=fun r:Option Value=>∀ v,r=some v->∃ x t,v=Value.int x t) vs (fun v hv Q' hQ'=>?_) fun rs prs=>ac ?_)
 ·obtain ⟨a,its,ns,rfl,⟨o,ho,hc,n,hd⟩,ix⟩:=h v hv;show wpAny _ _ (typeOf _ >>= _) _ _ _;refine aa (kh (T:="tuple") ⟨o,ho,hc⟩ ?_);rw [ao (by simp)];refine aa (listItems_at ho hd (ac (hQ' _ fun v hv=>?_)));have:v∈its.toList:=by
   have:=ku hv
   simpa using this
  exact wK ix this
 ·split
  ·refine aa (jb ?_);have e:(Array.filterMap id rs.toArray)=(rs.filterMap id).toArray:=by simp
   rw [e];refine aa (mW (fun v hv=>?_) fun r=>ac (q _ (.inr (.inr ⟨_,rfl⟩))));obtain ⟨r,hr,er⟩:=nu.mp hv;obtain ⟨x,t,rfl⟩:=prs r hr v er;exact ⟨_,typeIs_int s x t⟩
  ·split
   ·exact ac (q _ (.inl rfl))
   ·refine aa (mW (fun v hv=>?_) fun r=>ac (q _ ?_))
    ·obtain ⟨a,its,ns,rfl,⟨o,ho,hc,n,hd⟩,ix⟩:=h v hv;exact ⟨"tuple",o,ho,hc⟩
    ·split
     ·exact .inr (.inl rfl)
     ·exact .inl rfl
end
def bR8 (K:W.Frag):R2:=fun x y H Q=>∃ ds d,eI K H (.list ds) y/\eI K H d x/\SeqAt.shaped (.list ds)=true/\SeqAt.shaped d=true/\(∀ e∈ds,SeqAt.noMix e d=true)/\Q (.bl (decide (Spec.countIn d ds≠0))) H
theorem bB4 {X:Cx}{k:Nat}(hr:bW k X.A):iV X (compareOp .In) (bR8 X.K):=by
 intro pins s σ H x y v u Q I rx ry h;obtain ⟨ds,d,hd,he,sd,se,mx,q⟩:=h;obtain ⟨as,ra⟩:=eI.reads I _ y u hd ry;obtain ⟨bs,rb⟩:=eI.reads I d x v he rx;exact in_list_dataH ra rb sd se (by have:=hr.un;omega) mx ⟨.bl _,H,I,rfl,q⟩
open PySem PySem.Spec PyProof.Rows
section
variable {prog:Program}{w:World}{A:Around}{E:Value->Shared->Prop}{s:Shared}
theorem aJ3 {J t:Addr}{i:Nat}{its:Array Value}{v:Value}{Q:Value->Shared->Prop}(a1:s.heap.IsListIter J t i) (a2:s.heap.IsList t its) (a3:its[i]?=some v)
  (k:∀ g,g.IsListIter J t (i+1)->Heap.SameBut J s.heap g->Q v { s with heap:=g }):wpAny (model prog w) A (Builtin.SmallTypes.nextOf (.ref J)) Q E s:=by
 obtain ⟨oJ,e1,e2,e3⟩:=id a1;obtain ⟨oT,e4,_,m,e5⟩:=a2;unfold Builtin.SmallTypes.nextOf;refine aa (db (name:=Str.ofString "__next__") a1.typeIs qu (cr qu a1.typeIs aAp ?_ (aAz _)));show wpAny _ _ (field (.ref J) 0 >>= _) _ _ s;refine aa (fu e1 e3 (x:= .ref t) rfl ?_);refine (show wpAny _ _ (if (Value.ref t == Value.none)=true then _ else _) _ _ s from ?_);rw [ao (show ¬ ((Value.ref t == Value.none)=true) by exact ck)];show wpAny _ _ (field (.ref J) 1 >>= _) _ _ s;refine aa (fu e1 e3 (x:= .int i 0) rfl ?_);refine (show wpAny _ _ (seqItems? (.ref t) >>= _) _ _ s from aa (fx e4 e5 ?_));simp only [Int.toNat_natCast,a3];refine aa (mq e1 e3 (by simp) (ac ⟨v,rfl,ac (k _ ?_ (ju ..))⟩))
 exact ⟨_,jd _ e1 (uf (km e3 _)),(xc ..).trans e2,by rw [km e3];simp [rawInt]⟩
theorem xF {J t:Addr}{i:Nat}{its:Array Value}{Q:Value->Shared->Prop}(hh:A.handled=none) (a1:s.heap.IsListIter J t i) (a2:s.heap.IsList t its) (a3:its[i]?=none)
  (k:∀ g e,Heap.ExtBut J s.heap g->(∃ o,g.get? e=some o/\o.cls= .type "StopIteration")->E (.ref e) { s with heap:=g }):wpAny (model prog w) A (Builtin.SmallTypes.nextOf (.ref J)) Q E s:=by
 obtain ⟨oJ,e1,e2,e3⟩:=id a1;obtain ⟨oT,e4,_,m,e5⟩:=a2;unfold Builtin.SmallTypes.nextOf;refine aa (db (name:=Str.ofString "__next__") a1.typeIs qu (cr qu a1.typeIs aAp ?_ (aAz _)));show wpAny _ _ (field (.ref J) 0 >>= _) _ _ s;refine aa (fu e1 e3 (x:= .ref t) rfl ?_);refine (show wpAny _ _ (if (Value.ref t == Value.none)=true then _ else _) _ _ s from ?_);rw [ao (show ¬ ((Value.ref t == Value.none)=true) by exact ck)];show wpAny _ _ (field (.ref J) 1 >>= _) _ _ s;refine aa (fu e1 e3 (x:= .int i 0) rfl ?_);refine (show wpAny _ _ (seqItems? (.ref t) >>= _) _ _ s from aa (fx e4 e5 ?_));simp only [Int.toNat_natCast,a3];refine aa (jb (aa (mq e1 e3 (by simp) ?_)));refine (show wpAny _ _ (newExc (.type "StopIteration") [] >>= _) _ _ _ from aa ?_)
 simp only [newExc,newTuple];refine aa (fk ?_ (by size_fits));refine aa (m:=firstArgMember _ _) (wpAny_of_eq (a:=Value.none) (by first | exact rfl | (simp only [firstArgMember];rfl)) ?_);refine fk ?_ (by size_fits);simp only [raiseNew];refine aa (wpAny_handled ?_)
 first | rw [hh] | rw [show A.in1.handled=none from hh]
 refine aa (ac (wpAny_throw ?_));exact k _ _ (((ju ..).extBut.push _).push _) ⟨_,aq _ rfl,rfl⟩
structure aV2 (g:Heap) (n l1 l2:Addr) (i:Nat):Prop where
 z:IsZip g (n+4) (n+2) (n+3) .none
 I:IsPair g (n+2) (.ref n) (.ref (n+1))
 O:∃ a b,IsPair g (n+3) a b
 i1:g.IsListIter n l1 i
 i2:g.IsListIter (n+1) l2 i
theorem aG7 {n l1 l2:Addr}{i:Nat}{xs ys:Array Value}{x y:Value}{Q:Option Value->Shared->Prop}(o1:∀ j,j < 5->l1≠n+j) (o2:∀ j,j < 5->l2≠n+j) (Z:aV2 s.heap n l1 l2 i)
  (t1:s.heap.IsList l1 xs) (t2:s.heap.IsList l2 ys) (ex:xs[i]?=some x) (ey:ys[i]?=some y)
  (k:∀ g,IsZip g (n+4) (n+2) (n+3) (rawInt s.heap.objs.size)->IsPair g (n+3) x y->g.IsListIter n l1 (i+1)->g.IsListIter (n+1) l2 (i+1)->IsPair g s.heap.objs.size x y ->
   (∀ c o,c≠n+4->c≠n+3->c≠n->c≠n+1->s.heap.get? c=some o->g.get? c=some o)->Q (some (.ref s.heap.objs.size)) { s with heap:=g }) :
  wpAny (model prog w) A (pyNext (.ref (n+4))) Q E s:=by
 obtain ⟨hz,hI,⟨a,b,hO⟩,h1,h2⟩:=Z;have d0:n≠n+4/\n+1≠n+4/\n+2≠n+4/\n+3≠n+4/\n+3≠n/\n+3≠n+1/\n+1≠n:=by refine ⟨?_,?_,?_,?_,?_,?_,?_⟩ <;> (intro z;exact absurd z (by simp))
 obtain ⟨d1,d2,d3,d4,d5,d6,d7⟩:=d0;have l10:=o1 0 (by decide);have l11:=o1 1 (by decide);have l13:=o1 3 (by decide);have l14:=o1 4 (by decide);have l20:=o2 0 (by decide);have l21:=o2 1 (by decide);have l23:=o2 3 (by decide);have l24:=o2 4 (by decide);have hT:s.TypeIs (.ref (n+4)) "zip":=⟨_,hz,rfl⟩
 unfold pyNext;refine aa (lh (db (name:=Str.ofString "__next__") hT vc (cr vc hT F.entry_zip_next ?_ (F.args_zip_next_1 _))));refine (show wpAny _ _ (field (.ref (n+4)) 2 >>= _) _ _ _ from aa (fu hz rfl (x:= .bool false) rfl ?_));refine (show wpAny _ _ (field (.ref (n+4)) 3 >>= _) _ _ _ from aa (fu hz rfl (x:= .ref (n+2)) rfl ?_));refine aa (fx hI rfl ?_);refine (show wpAny _ _ (Builtin.SmallTypes.ownedTupleIsFree (.ref (n+4)) >>= _) _ _ _ from aa ?_);unfold Builtin.SmallTypes.ownedTupleIsFree;refine aa (fu hz rfl (x:= .none) rfl (ac ?_));simp only [if_true];refine aa (jb (aa (fu hz rfl (x:= .ref (n+3)) rfl (aa (fy hz (by simp) fun g1 z1 s1=>?_)))));have z1:IsZip g1 (n+4) (n+2) (n+3) .ellipsis:=z1
 refine aa ?_;simp only [List.zipIdx_cons,List.zipIdx_nil,List.forIn_cons,List.forIn_nil];refine aa (aa (aAm (show wpAny _ _ (Builtin.SmallTypes.nextOf (.ref n) >>= _) _ _ _ from aa (aJ3 (h1.at fun o e=>s1.extBut _ _ d1 e) (t1.at fun o e=>s1.extBut _ _ l14 e) ex fun g2 j2 s2=>ac ?_))));have O2:IsPair g2 (n+3) a b:=s2.extBut _ _ d5 (s1.extBut _ _ d4 hO);refine aa (fx O2 rfl (aa (aAd O2 fun g3 O3 s3=>?_)));have O3:IsPair g3 (n+3) x b:=O3;refine aa (sy (ac ?_));refine aa (aa (aAm (show wpAny _ _ (Builtin.SmallTypes.nextOf (.ref (n+1)) >>= _) _ _ _ from aa (aJ3 (h2.at fun o e=>s3.extBut _ _ d6.symm (s2.extBut _ _ d7 (s1.extBut _ _ d2 e))) (t2.at fun o e=>s3.extBut _ _ l23 (s2.extBut _ _ l20 (s1.extBut _ _ l24 e))) ey fun g4 j4 s4=>ac ?_))))
 have O4:IsPair g4 (n+3) x b:=s4.extBut _ _ d6 O3;refine aa (fx O4 rfl (aa (aAd O4 fun g5 O5 s5=>?_)));have O5:IsPair g5 (n+3) x y:=O5;refine aa (sy (ac (ac ?_)));refine aa (fx O5 rfl (aa (zt ?_)));have sz:g5.objs.size=s.heap.objs.size:=by rw [s5.1,s4.1,s3.1,s2.1,s1.1]
 have z5:IsZip g5 (n+4) (n+2) (n+3) .ellipsis:=s5.extBut _ _ d4.symm (s4.extBut _ _ d2.symm (s3.extBut _ _ d4.symm (s2.extBut _ _ d1.symm z1)));have k5:∀ c o,c≠n+4->c≠n+3->c≠n->c≠n+1->s.heap.get? c=some o->g5.get? c=some o:=fun c o c1 c2 c3 c4 e=>s5.extBut _ _ c2 (s4.extBut _ _ c4 (s3.extBut _ _ c2 (s2.extBut _ _ c3 (s1.extBut _ _ c1 e))))
 have j5:g5.IsListIter n l1 (i+1):=j2.at fun o e=>s5.extBut _ _ d5.symm (s4.extBut _ _ d7.symm (s3.extBut _ _ d5.symm e))
 have m5:g5.IsListIter (n+1) l2 (i+1):=j4.at fun o e=>s5.extBut _ _ d6.symm e
 have zlt:n+4 < g5.objs.size:=az z5;refine (show wpAny _ _ (Builtin.SmallTypes.ownedTupleHandOut (.ref (n+4)) (.ref g5.objs.size) >>= _) _ _ _ from aa ?_);unfold Builtin.SmallTypes.ownedTupleHandOut;have z6:IsZip (g5.push { cls:= .type "tuple",data:= .seq #[x,y] }) (n+4) (n+2) (n+3) .ellipsis:=ag _ z5;refine aa (fy z6 (by simp) fun g7 z7 s7=>?_);have z7:IsZip g7 (n+4) (n+2) (n+3) (rawInt g5.objs.size):=z7;refine fy z7 (by simp) fun g8 z8 s8=>?_
 have z8:IsZip g8 (n+4) (n+2) (n+3) (rawInt g5.objs.size):=z8;have up:∀ c o,c≠n+4->g5.get? c=some o->g8.get? c=some o:=fun c o c1 e=>s8.extBut _ _ c1 (s7.extBut _ _ c1 (ag _ e))
 have T8:IsPair g8 g5.objs.size x y:=s8.extBut _ _ (nc zlt) (s7.extBut _ _ (nc zlt) (aq _ rfl));rw [sz] at z8 T8;refine ac ⟨_,rfl,ac ?_⟩;refine (show Q (some (.ref g5.objs.size)) _ from ?_);rw [sz];exact k g8 z8 (up _ _ d4 O5) (j5.at fun o e=>up _ o d1 e) (m5.at fun o e=>up _ o d2 e) T8 fun c o c1 c2 c3 c4 e=>up c o c1 (k5 c o c1 c2 c3 c4 e)
theorem aD1 {n l1 l2:Addr}{i:Nat}{xs:Array Value}{Q:Option Value->Shared->Prop}(hh:A.handled=none) (o1:∀ j,j < 5->l1≠n+j) (Z:aV2 s.heap n l1 l2 i)
  (t1:s.heap.IsList l1 xs) (ex:xs[i]?=none)
  (k:∀ g,(∀ c o,c≠n+4->c≠n->s.heap.get? c=some o->g.get? c=some o)->Q none { s with heap:=g }):wpAny (model prog w) A (pyNext (.ref (n+4))) Q E s:=by
 obtain ⟨hz,hI,⟨a,b,hO⟩,h1,h2⟩:=Z;have d1:n≠n+4:=by intro z;exact absurd z (by simp)
 have l14:=o1 4 (by decide);have hT:s.TypeIs (.ref (n+4)) "zip":=⟨_,hz,rfl⟩
 unfold pyNext;refine aa (lh (db (name:=Str.ofString "__next__") hT vc (cr vc hT F.entry_zip_next ?_ (F.args_zip_next_1 _))));refine (show wpAny _ _ (field (.ref (n+4)) 2 >>= _) _ _ _ from aa (fu hz rfl (x:= .bool false) rfl ?_));refine (show wpAny _ _ (field (.ref (n+4)) 3 >>= _) _ _ _ from aa (fu hz rfl (x:= .ref (n+2)) rfl ?_));refine aa (fx hI rfl ?_);refine (show wpAny _ _ (Builtin.SmallTypes.ownedTupleIsFree (.ref (n+4)) >>= _) _ _ _ from aa ?_);unfold Builtin.SmallTypes.ownedTupleIsFree;refine aa (fu hz rfl (x:= .none) rfl (ac ?_));simp only [if_true];refine aa (jb (aa (fu hz rfl (x:= .ref (n+3)) rfl (aa (fy hz (by simp) fun g1 z1 s1=>?_)))));have z1:IsZip g1 (n+4) (n+2) (n+3) .ellipsis:=z1
 refine aa ?_;simp only [List.zipIdx_cons,List.zipIdx_nil,List.forIn_cons,List.forIn_nil];refine aa (aa (aAm (show wpAny _ _ (Builtin.SmallTypes.nextOf (.ref n) >>= _) _ _ _ from aa (xF hh (h1.at fun o e=>s1.extBut _ _ d1 e) (t1.at fun o e=>s1.extBut _ _ l14 e) ex fun g2 e s2 he=>?_))));obtain ⟨oe,hoe,hce⟩:=he;have z2:IsZip g2 (n+4) (n+2) (n+3) .ellipsis:=s2 _ _ d1.symm z1;have ez:e≠n+4:=fun q=>by subst q;rw [z2] at hoe;cases hoe;simp at hce
 refine fy z2 (by simp) fun g3 _ s3=>?_
 refine aa (jw (T:="StopIteration") (b:=true) ⟨oe,s3.extBut _ _ ez hoe,hce⟩ vt ?_);exact ac (k _ fun c o c1 c2 q=>s3.extBut _ _ c1 (s2 _ _ c2 (s1.extBut _ _ c1 q)))
end
abbrev yA (g:Heap) (l1:Addr):Heap:=g.push { cls:= .type "list_iterator",data:= .fields #[.ref l1,.int 0 0] }
abbrev yB (g:Heap) (l1 l2:Addr):Heap:=(yA g l1).push { cls:= .type "list_iterator",data:= .fields #[.ref l2,.int 0 0] }
abbrev yC (g:Heap) (l1 l2:Addr):Heap:=(yB g l1 l2).push { cls:= .type "tuple",data:= .seq #[.ref g.objs.size,.ref (yA g l1).objs.size] }
abbrev yD (g:Heap) (l1 l2:Addr):Heap:=(yC g l1 l2).push { cls:= .type "tuple",data:= .seq #[.none,.none] }
abbrev yE (g:Heap) (l1 l2:Addr):Heap:=(yD g l1 l2).push { cls:= .type "zip",data:= .fields #[.none,.bool false,.bool false,.ref (yB g l1 l2).objs.size,.ref (yC g l1 l2).objs.size] }
theorem aR2 (l1 l2:Addr) (xs ys:Array Value):Meets (Builtin.«zip.__new__» ⟨[.type "zip",.ref l1,.ref l2],[]⟩) (fun _ R s=>s.heap.IsList l1 xs/\s.heap.IsList l2 ys /\
   R (.ok (.ret (.ref (yD s.heap l1 l2).objs.size))) { s with heap:=yE s.heap l1 l2 }) :=
 .of_wp fun prog w A R s h=>by
  obtain ⟨q,g,d,tk,os⟩:=s;obtain ⟨t1,t2,h⟩:=h;have hS:=PySem.sub_zip;have T1:Heap.IsList (Shared.heap ⟨q,g,d,tk,os⟩) l1 xs:=t1;have T2:Heap.IsList (Shared.heap ⟨q.push { cls:= .type "list_iterator",data:= .fields #[.ref l1,.int 0 0] },g,d,tk,os⟩) l2 ys:=t2.at fun o e=>ag _ e
  wp_walk using ic T1,ic T2
  exact ⟨_,rfl,h⟩
section
variable {prog:Program}{w:World}{A:Around}{E:Value->Shared->Prop}{s:Shared}
theorem aD5 {l1 l2:Addr}{xs ys:Array Value}{Q:Value->Shared->Prop}(t1:s.heap.IsList l1 xs) (t2:s.heap.IsList l2 ys)
  (k:∀ g,aV2 g s.heap.objs.size l1 l2 0->(∀ c o,s.heap.get? c=some o->g.get? c=some o)->Q (.ref (s.heap.objs.size+4)) { s with heap:=g }) :
  wpAny (model prog w) A (call (.type "zip") [.ref l1,.ref l2]) Q E s:=by
 refine callType_new F.called_zip (by decide) (F.typeCall_zip_2 _ _) (F.newCall_zip_2 _ _) (fun obj=>F.args_object_init_3 obj _ _) F.entry_zip_new (aR2 l1 l2 xs ys) ⟨t1,t2,?_⟩;have n1:(yA s.heap l1).objs.size=s.heap.objs.size+1:=by rw [mo]
 have n2:(yB s.heap l1 l2).objs.size=s.heap.objs.size+2:=by rw [mo,n1]
 have n3:(yC s.heap l1 l2).objs.size=s.heap.objs.size+3:=by rw [mo,n2]
 have n4:(yD s.heap l1 l2).objs.size=s.heap.objs.size+4:=by rw [mo,n3]
 have b5:(yE s.heap l1 l2).get? (yD s.heap l1 l2).objs.size=some _:=aq _ rfl;have b4:(yE s.heap l1 l2).get? (yC s.heap l1 l2).objs.size=some _:=ag _ (aq _ rfl);have b3:(yE s.heap l1 l2).get? (yB s.heap l1 l2).objs.size=some _:=ag _ (ag _ (aq _ rfl));have b2:(yE s.heap l1 l2).get? (yA s.heap l1).objs.size=some _:=ag _ (ag _ (ag _ (aq _ rfl)));have b1:(yE s.heap l1 l2).get? s.heap.objs.size=some _:=ag _ (ag _ (ag _ (ag _ (aq _ rfl))));show _/\_;rw [n2,n3,n4] at b5;rw [n1,n2] at b3;rw [n3] at b4;rw [n1] at b2;rw [n4];exact ⟨⟨_,b5,rfl⟩,k _ ⟨b5,b3,⟨_,_,b4⟩,⟨_,b1,rfl,rfl⟩,⟨_,b2,rfl,rfl⟩⟩ fun c o q=>ag _ (ag _ (ag _ (ag _ (ag _ q))))⟩
end
def ItzL (K : W.Frag) (a b : Addr) : It :=
  ⟨fun i H => ∃ xs ys, bK K H a xs /\ bK K H b ys /\ xs.length = ys.length /\ i < xs.length,
   fun i H x H' => ∃ t, H t = none /\ x = .ref t /\ ∀ xs ys, bK K H a xs -> bK K H b ys -> ∃ u v, xs[i]? = some u /\ ys[i]? = some v /\ H' = aJ H t (.tup [u, v]),
   fun i H => ∃ xs, bK K H a xs /\ xs.length <= i⟩
theorem aE5 {P:Program}{w:World}{K:W.Frag}{elts:List Expr}{x1:Nat}{pos:Pos}(a b n:Addr) (ha:a < n) (hb:b < n) :
  uP P w K (.Tuple elts x1 pos) (ItzL K a b) [n,n+1,n+2,n+3,n+4] (n+4) (fun i h=>aV2 h n a b i) where
 mem:=by simp
 obj:=fun i h Z c hc=>by
  obtain ⟨hz,hI,⟨u,v,hO⟩,⟨o1,e1,c1,d1⟩,⟨o2,e2,c2,d2⟩⟩:=Z;simp only [List.mem_cons,List.not_mem_nil,or_false] at hc;rcases hc with rfl | rfl | rfl | rfl | rfl
  ·exact ⟨_,e1,fun v z=>by rw [d1] at z;cases z⟩
  ·exact ⟨_,e2,fun v z=>by rw [d2] at z;cases z⟩
  ·exact ⟨_,hI,fun v z=>by cases z⟩
  ·exact ⟨_,hO,fun v z=>by cases z⟩
  ·exact ⟨_,hz,fun v z=>by cases z⟩
 keep:=fun i h h' Z k=>⟨k _ (by simp) _ Z.z,k _ (by simp) _ Z.I,let ⟨u,v,q⟩:=Z.O;⟨u,v,k _ (by simp) _ q⟩,Z.i1.at fun o e=>k _ (by simp) o e,Z.i2.at fun o e=>k _ (by simp) o e⟩
 item:=by
  intro X hP hw hK hc i pins s σ H E I hf Z hg;subst hP hw hK;obtain ⟨xs,ys,q1,q2,hl,hi⟩:=hg;obtain ⟨is1,r1,p1,_⟩:=I.list q1;obtain ⟨is2,r2,p2,_⟩:=I.list q2;obtain ⟨u,hu,ru⟩:=r1.get (i:=i) (x:=xs[i]) (by simp [hi]);obtain ⟨v,hv,rv⟩:=r2.get (i:=i) (x:=ys[i]'(by omega)) (by simp [show i < ys.length by omega]);refine aG7 (fun j _=>bv (bn ha (pz ..))) (fun j _=>bv (bn hb (pz ..))) Z p1.isList p2.isList
   (x:=u) (y:=v) (by simpa using hu) (by simpa using hv) fun g z1 O1 j1 m1 T1 k1=>⟨_,rfl,wpAny_letOwnedTupleGo_zip z1 fun g2 z2 sb=>?_⟩
  have nT:s.heap.objs.size≠n+4:=nc (az Z.z);have kk:∀ c o,c∉[n,n+1,n+2,n+3,n+4]->s.heap.get? c=some o->g2.get? c=some o:=fun c o hc e=>by
   simp only [List.mem_cons,List.not_mem_nil,or_false,not_or] at hc;exact (sb.2 c hc.2.2.2.2).trans (k1 c o hc.2.2.2.2 hc.2.2.2.1 hc.1 hc.2.1 e)
  have TT:IsPair g2 s.heap.objs.size u v:=(sb.2 _ nT).trans T1;have d:∀ j,j < 4->n+j≠n+4:=fun j hj z=>absurd (Nat.add_left_cancel z) (bv hj)
  have I2:=I.turnedNew (T:=s.heap.objs.size) (o:= .tup [xs[i],ys[i]'(by omega)]) (rs:=[n,n+1,n+2,n+3,n+4]) (t':=s.toks) hf kk (ak _) ⟨cE,[u,v],.cons ru (.cons rv .nil),⟨_,TT,rfl,_,rfl,rfl⟩⟩;refine ⟨.ref s.heap.objs.size,_,I2,rfl,⟨_,I.fresh,rfl,fun xs' ys' w1 w2=>⟨xs[i],ys[i]'(by omega),?_,?_,rfl⟩⟩,⟨z2,(sb.2 _ (d 2 (by decide))).trans (k1 _ _ (d 2 (by decide)) (by simp) (by simp) (by simp) Z.I),⟨u,v,(sb.2 _ (d 3 (by decide))).trans O1⟩,j1.at fun o e=>(sb.2 _ (d 0 (by decide))).trans e,m1.at fun o e=>(sb.2 _ (d 1 (by decide))).trans e⟩,fun c hc=>?_⟩
  ·rw [I.list_inj w1 q1];simp [hi]
  ·rw [I.list_inj w2 q2];simp [show i < ys.length by omega]
  ·rw [aE (fun z=>?_)]
   ·exact (hf c hc).1
   ·obtain ⟨o,e,_⟩:∃ o,s.heap.get? c=some o/\True:=by
     obtain ⟨hz,hI,⟨u',v',hO⟩,⟨o1,e1,c1,d1⟩,⟨o2,e2,c2,d2⟩⟩:=Z;simp only [List.mem_cons,List.not_mem_nil,or_false] at hc;rcases hc with rfl | rfl | rfl | rfl | rfl
     ·exact ⟨_,e1,trivial⟩
     ·exact ⟨_,e2,trivial⟩
     ·exact ⟨_,hI,trivial⟩
     ·exact ⟨_,hO,trivial⟩
     ·exact ⟨_,hz,trivial⟩
    exact absurd (az e) (by rw [z];exact dk _)
 done:=by
  intro X hP hw hK hc i pins s σ H E I hf Z hg;subst hP hw hK;obtain ⟨xs,q1,hx⟩:=hg;obtain ⟨is1,r1,p1,_⟩:=I.list q1;have hl:=r1.length;refine aD1 (I.ok.hd hc) (fun j _=>bv (bn ha (pz ..))) Z p1.isList (by simp;omega) fun g k=>⟨rfl,I.turnedL (rs:=[n,n+1,n+2,n+3,n+4]) (t':=s.toks) hf fun c o hc e=>?_⟩
  simp only [List.mem_cons,List.not_mem_nil,or_false,not_or] at hc;exact k c o hc.2.2.2.2 hc.1 e
 self:=fun _ _ _ _ _ Z h=>wpAny_pyIter_zip Z.z h
def bP1 (K:W.Frag) (ta:TA):TI:=fun σ H R=>ta σ H fun vs H1=>∃ a b,vs=[.ref a,.ref b]/\(∃ xs,bK K H1 a xs)/\(∃ ys,bK K H1 b ys)/\R (ItzL K a b) H1
theorem aU7 {X:Cx}{a b:Expr}{ta:TA}{p pos:Pos}{elts:List Expr}{x1:Nat}{tpos:Pos}(hg:Gl X "zip") (hm:X.mg "zip"=none) (ha:PA X [a,b] ta) (hs:starEach [a,b] X.env=[(false,eval a X.env),(false,eval b X.env)]:=by rfl) (hs2:starEach [b] X.env=[(false,eval b X.env)]:=by rfl) :
  PI X (.Tuple elts x1 tpos) (.Call (.Name "zip" p) [a,b] [] pos) (bP1 X.K ta):=by
 intro pins s σ H R I h;refine ke (iS I hg hm PyProof.Rows.boot_zip (gi (cI (ha pos pins s σ H _ I h) fun us s1 ⟨vs,H1,I1,r1,q1⟩=>?_) (by rw [hs,hs2]) (by rw [hs2];rfl)));obtain ⟨a',b',rfl,⟨xs,q1⟩,⟨ys,q2⟩,q⟩:=q1;obtain ⟨u,v,rfl,ru,rv⟩:=mY r1
 cases ru
 cases rv
 obtain ⟨is1,_,p1,_⟩:=I1.list q1;obtain ⟨is2,_,p2,_⟩:=I1.list q2;have la:a' < s1.heap.objs.size:=by obtain ⟨_,_,e,_⟩:=p1;exact az e
 have lb:b' < s1.heap.objs.size:=by obtain ⟨_,_,e,_⟩:=p2;exact az e
 refine aD5 p1.isList p2.isList fun g Z k=>wpAny_pyIter_zip Z.z ?_
 have I2:aN X pins σ H1 { s1 with heap:=g }:=I1.kept (t':=s1.toks) k;refine ⟨s1.heap.objs.size+4,_,_,ItzL X.K a' b',H1,rfl,I2,aE5 a' b' s1.heap.objs.size la lb,Z,fun c hc=>?_,q⟩;have hge:s1.heap.objs.size<=c:=by
  simp only [List.mem_cons,List.not_mem_nil,or_false] at hc;rcases hc with rfl | rfl | rfl | rfl | rfl
  ·exact ak _
  all_goals exact pz ..
 exact I1.fpOk hge (I1.hok.fresh hge)
section
variable {g:TG}{tc:TT}{te:TE}
theorem aD7 {K:W.Frag}{a b:Addr}{xs ys:List V}{Kf:List V->Hp->Prop}{σ0:St}{H1:Hp}(Pv:Nat->List V->St->Hp->Prop) (hz:xs.length < sizeLine) (hxy:xs.length=ys.length) (h0:Pv 0 [] σ0 H1) (hb:∀ i zs σ H,Pv i zs σ H->zs.length<=i)
  (hl:∀ i zs σ H,i<=xs.length->Pv i zs σ H->bK K H a xs/\bK K H b ys)
  (hs:∀ i x y zs σ H t,xs[i]?=some x->ys[i]?=some y->Pv i zs σ H->H t=none->g (.ref t) σ (aJ H t (.tup [x,y])) fun σ2 H2=>tc σ2 H2 fun b H3=>if b=true then te σ2 H3 fun v H4=>Pv (i+1) (zs++[v]) σ2 H4 else Pv (i+1) zs σ2 H3)
  (hd:∀ zs σ H,Pv xs.length zs σ H->Kf zs H):oQ (ItzL K a b) g tc te Kf σ0 H1:=by
 refine ⟨fun i m zs σ H=>m=xs.length - i/\i<=xs.length/\Pv i zs σ H,⟨xs.length,by simp,bz _,h0⟩,?_⟩;rintro i m zs σ H ⟨rfl,hi,p⟩;obtain ⟨q1,q2⟩:=hl i zs σ H hi p;refine ⟨dm (hb _ _ _ _ p) (dm hi hz),?_⟩
 by_cases hlt:i < xs.length
 ·refine .inr ⟨⟨xs,ys,q1,q2,hxy,hlt⟩,Pv (i+1),fun zs' σ' H' p'=>⟨xs.length - (i+1),by omega,rfl,hlt,p'⟩,fun x H' y=>?_⟩;obtain ⟨t,ht,rfl,w⟩:=y;obtain ⟨u,v,e1,e2,rfl⟩:=w xs ys q1 q2;exact hs i u v zs σ H t e1 e2 p ht
 ·have e:i=xs.length:=by omega
  subst e;exact .inl ⟨⟨xs,q1,ak _⟩,hd zs σ H p⟩
end
theorem wB (val:Nat->Int):∀ k i,i<=k->val i<=val (argBest (fun i j=>decide (val i > val j)) k)
 |0,i,h=>by
  have:i=0:=by omega
  subst this;exact jz _
 |k+1,i,h=>by
  have ih:=wB val k;rw [argBest]
  split
  ·rename_i c
   have c:=bc c
   by_cases e:i=k+1
   ·rw [e];exact jz _
   ·have:=ih i (by omega);omega
  ·rename_i c
   have c:¬ val (k+1) > val _:=fun z=>c (am z)
   by_cases e:i=k+1
   ·rw [e];exact Int.not_lt.mp c
   ·exact ih i (by omega)
theorem yW {X:Cx}(hc:X.calm=true:=by rfl):cB X (.builtin "max") (fun xs H Q=>∃ (p:Addr) (ns:List Int),xs=[.ref p]/\aV X.K H p (ns.map V.int)/\ns≠[]/\∀ i,(∀ n∈ns,n<=i)->Q (.int i) H):=by
 intro pins s σ H xs us Q I r h;obtain ⟨p,ns,rfl,hq,hne,q⟩:=h;obtain ⟨u,rfl,ru⟩:=eW r
 cases ru
 obtain ⟨its,rv,pl,hz⟩:=I.tuple hq;have it:s.heap.IsTuple p its.toArray:=pl;have lp:p < s.heap.objs.size:=by
  obtain ⟨o,e,_⟩:=it;exact az e
 have hl:=rv.length;rw [af] at hl;have val:∀ i v,its.toArray[i]?=some v->∃ t,v=Value.int (ns.getD i 0) t:=fun i v hv=>by
  have hi:its[i]?=some v:=by simpa using hv
  have hb:i < ns.length:=by
   have:=(bq.mp hi).1;omega
  obtain ⟨u,hu,ru⟩:=rv.get (i:=i) (x:=V.int ns[i]) (by rw [bf,aj hb];rfl);rw [hi] at hu
  cases hu
  obtain ⟨t,e⟩:=ru;exact ⟨t,by rw [e];simp [List.getD,hb]⟩
 have hpos:0 < its.toArray.size:=by
  rw [bp, <- hl]
  cases ns with
  |nil=>exact absurd rfl hne
  |cons _ _=>simp
 refine call_max_walk (wf it ⟨s.heap.objs.size,_,_,_,_,_,_,rfl,Walks.tuple (A:=X.A.in1) (I.ok.hd hc) s.heap.objs.size p (bv lp) its.toArray,⟨⟨_,aq _ rfl,rfl,rfl⟩,it.at fun o e=>ag _ e⟩,?_,hpos,CmpOf.ints_gt (fun i=>ns.getD i 0) val,?_⟩)
 ·intro b hb;rw [mo];rcases bi.mp hb with z | z
  ·rw [z];exact gm _
  ·have z:b=p:=by simpa using z
   rw [z];exact xa lp
 ·intro v h' tk hv hk;have kept:∀ b o,s.heap.get? b=some o->h'.get? b=some o:=fun b o e=>hk b o (by
   intro z;have z:b=s.heap.objs.size:=by simpa using z
   exact absurd (az e) (by rw [z];exact dk _)) (ag _ e)
  obtain ⟨t,rfl⟩:=val _ _ hv;refine ⟨.int _,H,I.kept kept,⟨t,rfl⟩,q _ fun n hn=>?_⟩;obtain ⟨i,hi,e⟩:=vd.mp hn;have:=wB (fun i=>ns.getD i 0) (its.toArray.size - 1) i (by rw [bp, <- hl];omega);rw [show ns.getD i 0=n by simp [List.getD,hi,e]] at this;exact this
section
variable {X:Cx}
def bQ2 (K:W.Frag):R2:=fun x y H Q=>∃ a b xs ys,x= .ref a/\y= .ref b/\aV K H a xs/\aV K H b ys/\ys≠[]/\xs.length+ys.length<=sizeLine /\
 (xs=[]->Q (.ref b) H)/\(xs≠[]->∀ p,H p=none->Q (.ref p) (aJ H p (.tup (xs++ys))))
theorem aT3:iV X (binaryOp .Add) (bQ2 X.K):=by
 intro pins s σ H x y v u Q I rx ry h
 by_cases c:∃ a xs,x= .ref a/\aV X.K H a xs/\xs≠[]
 ·obtain ⟨a',xs',e,ha',hx⟩:=c;obtain ⟨a,b,xs,ys,rfl,rfl,ha,hb,hy,hz,q1,q2⟩:=h;have e:=V.ref.inj e;rw [<- e] at ha';have:=I.tuple_inj ha ha';subst this;exact aX9 pins s σ H _ _ v u Q I rx ry ⟨_,b,xs,ys,rfl,rfl,ha,hb,hx,hz,fun z=>absurd z hy,fun _=>q2 hx⟩
 ·obtain ⟨a,b,xs,ys,rfl,rfl,ha,hb,hy,hz,q1,q2⟩:=h;have hx:xs=[]:=Decidable.byContradiction fun z=>c ⟨a,xs,rfl,ha,z⟩
  subst hx
  cases rx
  cases ry
  obtain ⟨its,r1,p1,_⟩:=I.tuple ha;obtain ⟨its2,r2,p2,_⟩:=I.tuple hb
  cases r1
  obtain ⟨⟨cls,dd,data,sl⟩,ho,hc,n,hd⟩:=id p1;obtain ⟨⟨cls2,dd2,data2,sl2⟩,ho2,hc2,n2,hd2⟩:=id p2;simp only at hc hd hc2 hd2;subst hc hd hc2 hd2;exact aAu ⟨_,ho,rfl⟩ ⟨_,ho2,rfl⟩ xq aAl sw rl (qo _ _)
   (tuple_addW0 a b _ its2.toArray n n2 dd dd2 sl sl2 (by simp)) ⟨ho,ho2,.ref b,H,I,rfl,q1 rfl⟩
end
section
variable {X:Cx}
end
theorem aP3:typeLookup (.type "list") "keys"=pure none:=by rw [uy,pc];kernel_rfl
section
variable {prog:Program}{w:World}{A:Around}{E:Value->Shared->Prop}{s:Shared}
theorem keys_missL {a : Addr}{xs : Array Value}{k : Nat}{sl : Array (Option Value)}{Q : Option Value -> Shared -> Prop}(hx : s.heap.get? a = some { cls := .type "list", dict := none, data := .seq xs k, slots := sl }) (hA : A.handled = none)
    (h : ∀ h' tk, (∀ b o, s.heap.get? b = some o -> h'.get? b = some o) -> Q none { s with heap := h', toks := tk }) : wpAny (model prog w) A (getAttr? (.ref a) "keys") Q E s := by
  obtain ⟨hp, g, d, tk, os⟩ := s;have hT : ∀ tk', (⟨hp, g, d, tk', os⟩ : Shared).TypeIs (.ref a) "list" := fun _ => ⟨_, hx, rfl⟩
  have f1 := aAx;have f3 := F.slot_list_getattribute.lookup;have f4 := F.slot_list_getattribute.bind (.ref a);have f5 := am_list_getattr_none;unfold getAttr? getAttrBy? getAttrBy
  repeat (any_goals (first | assumption | exact hT _ |
    ((with_reducible show wpAny _ _ (call (Value.builtin "list.__getattribute__") _ _) _ _ _)
     refine pp F.slot_list_getattribute (hT _) am_entry_list_getattribute (F.args_list_getattribute_2 _ _) (meets_getattribute_miss_list a xs k sl "keys" _ aP3 (by decide +kernel)) ⟨hx, hA, fun h' tk' e ne => ?_⟩) | wp_step))
  obtain ⟨t', u', he⟩ := ne.there;show wpAny _ _ (getattributeRaised _ _ _ _ _ _ _) _ _ _;unfold getattributeRaised
  repeat (any_goals (first | assumption | wp_step))
  exact h _ _ ne.keeps
end
section
variable {X:Cx}{pins:List (Addr×Obj)}{σ: St}{H:Hp}{s:Shared}{A:Around}{E:Value->Shared->Prop}
theorem yZ {p d it:Addr}{ys:List V}{o:Nat->HO}{Q:Value->Shared->Prop}(hu:A.in1.units < cLine) (hA:A.in1.handled=none) (hp:H p=some (.lst ys)) (hd:H d=none) (hi0:H it=none) (hid:it≠d) (C:kP H d ys o)
  (q:∀ s',aN X pins σ (aJ H d (o ys.length)) s'->Q .none s'):∀ (n i:Nat) (tk:Tok) (s:Shared),n+i=ys.length->aN X pins σ (aJ H d (o i)) s->iO X pins (aJ H d (o i)) it->s.heap.IsListIter it p i ->
  codeAny (model X.prog X.w) A (.builtin "dict.update.loop" ⟨[.ref d,.ref it,.int i tk,.none],[]⟩) (wants Q E) s:=by
 intro n
 induction n with
 |zero =>
  intro i tk s hn I hf st;have e:i=ys.length:=by omega
  subst e;have hp':aJ H d (o ys.length) p=some (.lst ys):=by rw [aE (aH hp hd)];exact hp
  obtain ⟨its,rv,tp,hz⟩:=I.list (bK.of hp');obtain ⟨f0,f1,f2,f3,f4,f5⟩:=hf;have hl:=rv.length;refine oj fR ?_;unfold Builtin.«dict.update.loop»;refine aa (oz hA st tp.isList (by simp;omega) fun h' eb=>?_);have I1:=I.turned (h':=h') (t':=s.toks) (fun b o hb e=>eb b o hb e) f0 f1 f3 f4 f5;show wpAny _ _ (Builtin.Dict.addKeywords d [] >>= fun _=>ret Value.none) _ _ _;exact aa (ac (ac (q _ I1)))
 |succ n ih =>
  intro i tk s hn I hf st;have hi:i < ys.length:=by omega
  obtain ⟨t,k,v,ey,ht,g⟩:=C i hi;have hp':aJ H d (o i) p=some (.lst ys):=by rw [aE (aH hp hd)];exact hp
  have ht':aJ H d (o i) t=some (.tup [k,v]):=by rw [aE (aH ht hd)];exact ht
  obtain ⟨its,rv,tp,hz⟩:=I.list (bK.of hp');obtain ⟨u,hu',ru⟩:=rv.get ey
  cases ru
  obtain ⟨f0,f1,f2,f3,f4,f5⟩:=id hf;refine oj fR ?_;unfold Builtin.«dict.update.loop»;refine aa (ou st tp.isList (x:= .ref t) (by simpa using hu') fun h' st' sb=>?_);have I1:=I.turned (h':=h') (t':=s.toks) (fun b o hb e=>(sb.2 b hb).trans e) f0 f1 f3 f4 f5;obtain ⟨its2,rv2,⟨o2,e2,c2,m2,d2⟩,_⟩:=I1.tuple (aV.of ht');obtain ⟨uk,uv,rfl,rk,rV⟩:=mY rv2;refine aa (cp (aa (zr ?_)));refine (show wpAny _ _ (typeOf (.ref t) >>= _) _ _ _ from aa (kh (T:="tuple") ⟨o2,e2,c2⟩ ?_));refine (show wpAny _ _ (seqItems? (.ref t) >>= _) _ _ _ from aa (fx e2 d2 (ac ?_)));show wpAny _ _ (holding [uk,uv] (dictSet d uk uv)) _ _ _;refine cp (mO hu I1 g rk rV fun s2 I2 sb2=>?_);refine (show wpAny _ _ (again _) _ _ _ from ac ⟨kj _ (by decide +kernel),?_⟩);have ni:aJ H d (o (i+1)) it=none:=by rw [aE hid];exact hi0
  exact ih (i+1) _ s2 (by omega) I2 ⟨ni,f1,f2,f3,f4,f5⟩ (st'.at fun ob e=>(sb2.2 it hid).trans e)
theorem kE {k:Nat}(hr:bW k X.A):cB X (.type "dict") (fun xs H Q=>∃ (p:Addr) (ys:List V) (o:Nat->HO),xs=[.ref p]/\H p=some (.lst ys)/\(o 0= .dK []\/o 0= .dT [])/\∀ d,H d=none->kP H d ys o/\Q (.ref d) (aJ H d (o ys.length))):=by
 intro pins s σ H xs us Q I r h;obtain ⟨p,ys,o,rfl,hp,h0,h⟩:=h;obtain ⟨u,rfl,ru⟩:=eW r
 cases ru
 have hf:H s.heap.objs.size=none:=I.hok.fresh (ak _);obtain ⟨C,q⟩:=h _ hf;have hu:=hr.units;have ty:(⟨s.heap.push { cls:= .type "dict",data:= .dict #[] },s.gens,s.drawn,s.toks,s.os⟩:Shared).TypeIs (.ref s.heap.objs.size) "dict":=⟨_,aq _ rfl,rfl⟩
 have I1:aN X pins σ (aJ H s.heap.objs.size (o 0)) { s with heap:=s.heap.push { cls:= .type "dict",data:= .dict #[] } }:=by
  rcases h0 with e | e
  ·rw [e];exact I.laid (a:=s.heap.objs.size) (o:= .dK []) (t':=s.toks) (fun _ _ q=>ag _ q) (ak _) (lQ s.heap I.big)
  ·rw [e];exact I.laid (a:=s.heap.objs.size) (o:= .dT []) (t':=s.toks) (fun _ _ q=>ag _ q) (ak _) (nZ s.heap I.big)
 refine vo (Q₁:=fun obj s₁=>obj= .ref s.heap.objs.size/\s₁={ s with heap:=s.heap.push { cls:= .type "dict",data:= .dict #[] } }) xy (vb _) xb (xz _ ⟨rfl,rfl⟩) ?_;rintro obj s₁ ⟨rfl,rfl⟩;refine ⟨ty,wj _ _,?_⟩;unfold Builtin.«dict.__init__»;refine aa ?_;unfold Builtin.Dict.selfAndRest;refine aa (ik ty ?_);show wpAny _ _ (pure (s.heap.objs.size,[Value.ref p])) _ _ _;refine ac ?_;show wpAny _ _ (Builtin.Dict.updateFrom "dict.__init__" s.heap.objs.size (.ref p) [] .none) _ _ _;unfold Builtin.Dict.updateFrom;generalize hd0:s.heap.objs.size=d at hf C q I1 ⊢;have hp1:aJ H d (o 0) p=some (.lst ys):=by rw [aE (aH hp hf)];exact hp
 obtain ⟨_,its,n1,rv,e1⟩:=(show bD X.prog X.w _ _ p (.lst ys) from I1.hok p _ hp1)
 refine aa (kh (T:="list") ⟨_,e1,rfl⟩ ?_);rw [bb (by decide)];refine aa (keys_missL e1 (show X.A.handled=none from hr.hd) fun h' tk kp=>?_);have I2:=I1.kept (h':=h') (t':=tk) kp;rw [bb (by rfl)];refine aa (jb (aa (ic (items:=its.toArray) ⟨_,kp _ _ e1,rfl,_,rfl⟩ ?_)));have I3:=I2.kept (h':=h'.push { cls:= .type "list_iterator",data:= .fields #[.ref p,.int 0 0] }) (t':=tk) fun b o e=>ag _ e
 have hit:aJ H d (o 0) h'.objs.size=none:=I2.hok.fresh (ak _);have hid:h'.objs.size≠d:=fun z=>by rw [z,aC] at hit;cases hit
 have hi0:H h'.objs.size=none:=by rw [aE hid] at hit;exact hit
 refine ac ⟨kj _ (by decide +kernel),?_⟩;refine yZ (A:=X.A.in1) (Q:=fun r s₂=>r=Value.none/\EP X pins σ Q (.ref d) s₂) (H:=H) (p:=p) (ys:=ys) (o:=o) (by show X.A.units+1+1 < cLine;omega) (show X.A.handled=none from hr.hd) hp hf hi0 hid C (fun s' I'=>⟨rfl,.ref d,_,I',rfl,q⟩) ys.length 0 _ _ (by omega) I3 ⟨hit,?_⟩ ⟨_,aq _ rfl,rfl,rfl⟩;exact (I2.fpOk (H':=aJ H d (o 0)) (ak _) hit).2
end
section
variable {prog:Program}{w:World}{K:Type} [DecidableEq K] {knd:KeyKind prog w K}{A:Around}{E:Value->Shared->Prop}{s:Shared}
end
section
variable {X:Cx}
theorem jL:∀ {ps:List Addr}{us:List Value},aZ (ps.map V.ref) us->us=ps.map Value.ref
 |[],_,h=>by cases h;rfl
 |p :: r,_,h=>by
  rw [ar] at h
  cases h with
  |cons h1 h2=>rw [jL h2,show _=Value.ref p from h1];rfl
def bM8 (t:TS):TS:=fun D σ H=>∃ P:St->Hp->Prop,t { D with nx:=P } σ H/\∀ σ' G,P σ' G->D.nx σ' G
theorem cZ {st:Stmt}{t:TS}(h:PS X st t):PS X st (bM8 t):=by
 intro pins s σ H D I ⟨P,h1,h2⟩;refine cI (h pins s σ H _ I h1) fun f s' q=>?_
 cases f with
 |next =>
  obtain ⟨σ',G,I',p⟩:=q;exact ⟨σ',G,I',h2 σ' G p⟩
 |ret v=>exact q
 |brk=>exact q
 |cont=>exact q
end
section
variable {X:Cx}{o e:Expr}{es:List Expr}{to:TE}{t:TA}{name:Str}{apos cpos:Pos}{T id:String}{r:V->List V->Hp->VK->Prop}
end
def bU9 (σ: List Key) (k:Key):Bool:=σ.any fun j=>decide (j=k)
def ddS (σ: List Key) (k:Key):List Key:=if bU9 σ k=true then σ else σ++[k]
def dd (ks:List Key):List Key:=ks.foldl ddS []
section
variable {prog:Program}{w:World}{A:Around}{R:Result->Shared->Prop}{I:Addr}{fp wr:List Addr}{G:Array GenState->Array GenState->Prop}{n:Nat}{P:Nat->Value->Prop}{St:Nat->Shared->Prop}
end
section
variable {prog:Program}{w:World}{A:Around}{E:Value->Shared->Prop}{s:Shared}
end
section
variable {X:Cx}
end
section
variable {prog:Program}{w:World}{A:Around}{E:Value->Shared->Prop}{s:Shared}{a:Addr}{S:Key->Bool}{n:Nat}{led:Bool}
end
theorem aM8 {vs:List V}{us:List Value}(hl:us.length=vs.length) (h:∀ (j:Nat) (u:Value),us[j]?=some u->∃ v,vs[j]?=some v/\bA v u):aZ vs us:=by
 induction vs generalizing us with
 |nil=>cases us with
  |nil=>exact .nil
  |cons _ _=>simp at hl
 |cons v vs ih=>cases us with
  |nil=>simp at hl
  |cons u us =>
   obtain ⟨v',e,r⟩:=h 0 u rfl
   cases e
   exact .cons r (ih (by simpa using hl) fun j w e=>h (j+1) w (by simpa using e))
section
variable {prog:Program}{w:World}{A:Around}{E:Value->Shared->Prop}{s:Shared}
end
section
variable {prog:Program}{w:World}{A:Around}{E:Value->Shared->Prop}{s:Shared}{a:Addr}{o:Obj}{es:Array (Int×Value)}{ep:Nat}{t:SetTable}
end
section
variable {prog:Program}{w:World}{A:Around}{E:Value->Shared->Prop}{s:Shared}{a it tp:Addr}{o:Obj}{es:Array (Int×Value)}{ep:Nat}{t:SetTable}
theorem kR {α: Type}{R:α->Shared->Prop}(hh:A.handled=none) (k:∀ e g,(∀ c o,s.heap.get? c=some o->g.get? c=some o)->(∃ oe,g.get? e=some oe/\oe.cls= .type "StopIteration")->E (.ref e) { s with heap:=g }) :
  wpAny (model prog w) A (newExc (.type "StopIteration") [] >>= fun e=>raiseNew (α:=α) e) R E s:=by
 refine aa ?_;simp only [newExc,newTuple];refine aa (fk (aa (m:=firstArgMember _ _) (wpAny_of_eq (a:=Value.none) (by first | rfl | (simp only [firstArgMember];rfl)) (fk ?_ (by size_fits)))) (by size_fits));unfold raiseNew;refine aa (wpAny_handled ?_);rw [hh];refine aa (ac (wpAny_throw (k _ _ (fun c o e=>ag _ (ag _ e)) ⟨_,aq _ rfl,rfl⟩)))
end
section
variable {prog:Program}{w:World}{A:Around}{E:Value->Shared->Prop}{s:Shared}{a tp:Addr}{o:Obj}{es:Array (Int×Value)}{ep:Nat}{t:SetTable}
end
section
variable {prog:Program}{w:World}{A:Around}{E:Value->Shared->Prop}{s:Shared}{a:Addr}{o:Obj}{es:Array (Int×Value)}{ep:Nat}{t:SetTable}
def bV5 (t:SetTable) (i:Nat):Nat:=match i with
 |0=>0
 |i+1=>t.place.getD i 0+1
end
theorem aN.draw {X:Cx}{pins:List (Addr×Obj)}{σ: St}{H:Hp}{s:Shared}(I:aN X pins σ H s) (d':Drawn):aN X pins σ H { s with drawn:=d' } :=
 ⟨I.ok,I.os,I.bare,I.base,I.loc,I.cell,I.free,I.freeC,I.pin,I.hok,I.len⟩
section
variable {prog:Program}{w:World}{A:Around}{E:Value->Shared->Prop}{s:Shared}{a:Addr}{o:Obj}{es:Array (Int×Value)}{ep:Nat}{t:SetTable}
end
abbrev tk (ts:List Str):List Key:=ts.map Sum.inr
section
variable {prog:Program}{w:World}{A:Around}{R:Result->Shared->Prop}{I:Addr}{fp wr:List Addr}{G:Array GenState->Array GenState->Prop}{n:Nat}{P:Nat->Value->Prop}{St:Nat->Shared->Prop}{led:Bool}
end
section
variable {prog:Program}{w:World}{A:Around}{E:Value->Shared->Prop}{s:Shared}
end
open PySem PySem.Spec PyProof.Rows PySem.W
def cJ {α: Type}(n:Nat) (f:Nat->Nat) (R:α->Prop):KasT α->Prop
 |.ret a=>R a
 |.ask i j k=>i < n/\j < n/\cJ n f R (k (decide (f i < f j)))
theorem cJ.bind {α β: Type}{n:Nat}{f:Nat->Nat}{R:α->Prop}{S:β->Prop}{g:α->KasT β}:∀ {t:KasT α},cJ n f R t->(∀ a,R a->cJ n f S (g a))->cJ n f S (t.bind g)
 |.ret a,h,k=>by rw [KasT.bind.eq_1];exact k a h
 |.ask i j _,h,k=>by rw [KasT.bind.eq_2];exact ⟨h.1,h.2.1,cJ.bind h.2.2 k⟩
theorem cJ.wp {α: Type}{n:Nat}{f:Nat->Nat}{R:α->Prop}{cmp:Nat->Nat->(Bool->Shared->Prop)->Shared->Prop}{Q:α->Shared->Prop}{s:Shared}(hc:∀ i j C,i < n->j < n->C (decide (f i < f j)) s->cmp i j C s) (hq:∀ a,R a->Q a s):∀ {t:KasT α},cJ n f R t->KasT.kasWp cmp t Q s
 |.ret a,h=>by rw [KasT.kasWp.eq_1];exact hq a h
 |.ask i j k,h=>by rw [KasT.kasWp.eq_2];exact hc i j _ h.1 h.2.1 (cJ.wp hc hq h.2.2)
theorem cJ.yes {α: Type}{n:Nat}{f:Nat->Nat}{R:α->Prop}{i j:Nat}{k:Bool->KasT α}(hi:i < n) (hj:j < n) (c:f i < f j) (h:cJ n f R (k true)):cJ n f R (.ask i j k):=⟨hi,hj,by rw [am c];exact h⟩
theorem cJ.no {α: Type}{n:Nat}{f:Nat->Nat}{R:α->Prop}{i j:Nat}{k:Bool->KasT α}(hi:i < n) (hj:j < n) (c:¬ f i < f j) (h:cJ n f R (k false)):cJ n f R (.ask i j k):=⟨hi,hj,by rw [bu c];exact h⟩
theorem cJ.mono {α: Type}{n:Nat}{f:Nat->Nat}{R S:α->Prop}(k:∀ a,R a->S a):∀ {t:KasT α},cJ n f R t->cJ n f S t
 |.ret a,h=>k a h
 |.ask _ _ _,h=>⟨h.1,h.2.1,cJ.mono k h.2.2⟩
theorem cY.size {n:Nat}{p:Array Nat}(h:cY n p):p.size=n:=by
 have:=(jc.mp h).length_eq
 simpa using this
theorem cY.inj {n:Nat}{p:Array Nat}(h:cY n p) {i j:Nat}(hi:i < n) (hj:j < n) (e:p.getD i 0=p.getD j 0):i=j:=by
 have z:=h.size;have nd:p.toList.Nodup:=((jc.mp h).nodup_iff).mpr (by simpa using List.nodup_range);have ei:p.getD i 0=p.toList[i]'(by simp [z,hi]):=by simp [Array.getD,z,hi]
 have ej:p.getD j 0=p.toList[j]'(by simp [z,hj]):=by simp [Array.getD,z,hj]
 rw [ei,ej] at e;exact (ub nd).mp e
section
variable {n:Nat}{f:Nat->Nat}
def kk (f:Nat->Nat) (p:Array Nat) (k:Nat):Nat:=f (p.getD k 0)
def Up (f:Nat->Nat) (p:Array Nat) (m:Nat):Prop:=∀ i j,i < j->j < m->kk f p i < kk f p j
def Dn (f:Nat->Nat) (p:Array Nat) (m:Nat):Prop:=∀ i j,i < j->j < m->kk f p j < kk f p i
theorem iW {p q:Array Nat}{i j:Nat}(h:p[i]?=q[j]?):p.getD i 0=q.getD j 0:=by
 rw [wn,wn,h]
theorem aM9 {p:Array Nat}{j:Nat}(hj:j<=p.size) (k:Nat):kk f (kas_rev p 0 j) k=if k < j then kk f p (j - 1 - k) else kk f p k:=by
 have e:=getElem?_mirror_all (xs:=p) (i:=0) (j:=j) hj k;unfold kk kas_rev
 by_cases c:k < j
 ·rw [bb ⟨bz _,c⟩] at e;rw [bb c,iW e];simp
 ·rw [ao fun z=>c z.2] at e;rw [ao c,iW e]
theorem aP4 {p:Array Nat}{x l:Nat}(hx:x < p.size) (hl:l<=x) (k:Nat):kk f (bubble p x (x - l)) k=if k=l then kk f p x else if l < k/\k<=x then kk f p (k - 1) else kk f p k:=by
 have e:=getElem?_bubble (xs:=p) (src:=x) hx (x - l) (Nat.sub_le _ _) k;have s:x - (x - l)=l:=by omega
 rw [s] at e;unfold kk
 by_cases c:k=l
 ·rw [bb c] at e;rw [bb c,iW e]
 ·rw [ao c] at e;rw [ao c]
  by_cases d:l < k/\k<=x
  ·rw [bb d] at e;rw [bb d,iW e]
  ·rw [ao d] at e;rw [ao d,iW e]
variable (hf:∀ i j,i < n->j < n->f i=f j->i=j)
include hf
theorem aL6 {p:Array Nat}(h:cY n p) {i j:Nat}(hi:i < n) (hj:j < n) (e:i≠j):kk f p i≠kk f p j:=fun q=>by
 have h0:0 < n:=by omega
 exact e (h.inj hi hj (hf _ _ (h.get h0 _) (h.get h0 _) q))
theorem aV6 {p:Array Nat}(h:cY n p) {x:Nat}(u:Up f p x) (x1:1<=x) (xn:x < n) (c:¬ kk f p x < kk f p (x - 1)):Up f p (x+1):=fun i j hij hj=>by
 have:=aL6 hf h xn (show x - 1 < n by omega) (by omega)
 by_cases e:j=x
 ·rw [e]
  by_cases d:i=x - 1
  ·rw [d];omega
  ·have:=u i (x - 1) (by omega) (by omega);omega
 ·exact u i j hij (by omega)
omit hf in
theorem aU5 {p:Array Nat}{x:Nat}(u:Dn f p x) (x1:1<=x) (c:kk f p x < kk f p (x - 1)):Dn f p (x+1):=fun i j hij hj=>by
 by_cases e:j=x
 ·rw [e]
  by_cases d:i=x - 1
  ·rw [d];exact c
  ·have:=u i (x - 1) (by omega) (by omega);omega
 ·exact u i j hij (by omega)
theorem aP0 {p:Array Nat}(h:cY n p):∀ (k x:Nat),1<=x->x+k<=n->Up f p x->cJ n f (fun r=>x<=r/\r<=x+k/\Up f p r/\(r=x+k\/kk f p r < kk f p (r - 1))) (kas_asc p k x)
 |0,x,x1,xn,u=>by rw [kas_asc.eq_1];exact ⟨ak _,by omega,u,.inl rfl⟩
 |k+1,x,x1,xn,u=>by
  have h0:0 < n:=by omega
  rw [show k+1=k.succ from rfl,kas_asc.eq_2]
  by_cases c:kk f p x < kk f p (x - 1)
  ·exact cJ.yes (h.get h0 _) (h.get h0 _) c (show cJ n f _ (KasT.ret x) from ⟨ak _,by omega,u,.inr c⟩)
  ·refine cJ.no (h.get h0 _) (h.get h0 _) c ?_;show cJ n f _ (kas_asc p k (x+1));have ih:=aP0 h k (x+1) (by omega) (by omega) (aV6 hf h u x1 (by omega) c);have e:x+1+k=x+k.succ:=by omega
   rw [e] at ih;refine cJ.mono ?_ ih;rintro r ⟨a,b,c,d⟩;exact ⟨by omega,b,c,d⟩
theorem aH0 {p:Array Nat}(h:cY n p):∀ (k x:Nat),1<=x->x+k<=n->Dn f p x->cJ n f (fun r:Array Nat×Nat×Nat=>r.1=p/\r.2.2=0/\1<=r.2.1/\r.2.1<=x+k/\Dn f p r.2.1) (kas_desc k p x 0)
 |0,x,x1,xn,u=>by rw [kas_desc.eq_1];exact ⟨rfl,rfl,x1,ak _,u⟩
 |k+1,x,x1,xn,u=>by
  have h0:0 < n:=by omega
  rw [show k+1=k.succ from rfl,kas_desc.eq_2]
  by_cases c:kk f p x < kk f p (x - 1)
  ·refine cJ.yes (h.get h0 _) (h.get h0 _) c ?_;show cJ n f _ (kas_desc k p (x+1) 0);have ih:=aH0 h k (x+1) (by omega) (by omega) (aU5 u x1 c);have e:x+1+k=x+k.succ:=by omega
   rw [e] at ih;exact ih
  ·refine cJ.no (h.get h0 _) (h.get h0 _) c ?_;have:=aL6 hf h (show x < n by omega) (show x - 1 < n by omega) (by omega);have d:kk f p (x - 1) < kk f p x:=by omega
   exact cJ.yes (h.get h0 _) (h.get h0 _) d (show cJ n f _ (KasT.ret (p,x,0)) from ⟨rfl,rfl,x1,pz _ _,u⟩)
theorem bG6 {p:Array Nat}(h:cY n p) {x:Nat}(x1:1<=x) (xn:x<=n) (u:Dn f p x):cJ n f (fun r:Nat×Array Nat=>cY n r.2/\1<=r.1/\r.1<=n/\Up f r.2 r.1) (kas_tail3 x n p):=by
 rw [kas_tail3.eq_1];have up:Up f (kas_rev p 0 x) x:=fun i j hij hj=>by
  have z:=h.size;rw [aM9 (by omega),aM9 (by omega),bb (by omega),bb hj];exact u _ _ (by omega) (by omega)
 refine (aP0 hf (h.rev 0 x) (n - x) x x1 (by omega) up).bind fun a ⟨h1,h2,h3,_⟩=>?_
 exact ⟨h.rev 0 x,by omega,by omega,h3⟩
theorem aV1 (h0:1<=n) {p:Array Nat}(h:cY n p):cJ n f (fun r:Nat×Array Nat=>cY n r.2/\1<=r.1/\r.1<=n/\Up f r.2 r.1) (kas_count n p):=by
 rw [kas_count.eq_1];refine (aP0 hf h (n - 1) 1 (ak _) (by omega) fun i j a b=>by omega).bind fun x ⟨h1,h2,h3,h4⟩=>?_
 by_cases c:x=n
 ·rw [bb (by simpa using c)];exact ⟨h,h1,by omega,h3⟩
 ·rw [ao (by simpa using c)]
  by_cases d:x > 1
  ·rw [bb d];have q:kk f p 0 < kk f p (x - 1):=h3 0 (x - 1) (by omega) (by omega);exact cJ.yes (h.get h0 _) (h.get h0 _) q (show cJ n f _ (KasT.ret (x,p)) from ⟨h,h1,by dsimp only;omega,h3⟩)
  ·rw [ao d,kas_descPart.eq_1];have x1:x=1:=by omega
   subst x1;have q:kk f p 1 < kk f p 0:=by
    rcases h4 with e | e
    ·omega
    ·exact e
   have dn:Dn f p 2:=fun i j hij hj=>by
    have a:i=0:=by omega
    have b:j=1:=by omega
    rw [a,b];exact q
   refine (aH0 hf h (n - (1+1)) (1+1) (by omega) (by omega) dn).bind fun r hr=>?_
   obtain ⟨p',m,q'⟩:=r;obtain ⟨e1,e2,e3,e4,e5⟩:=hr
   dsimp only at e1 e2 e3 e4 e5 ⊢
   subst e1 e2;rw [ao (dk 0)];exact bG6 hf h e3 (by omega) e5
theorem sV {p:Array Nat}(h:cY n p) {k:Nat}(kn:k < n) (u:Up f p k):∀ (g l r:Nat),r - l<=g->l<=r->r<=k->(∀ i,i < l->kk f p i < kk f p k)->(∀ i,r<=i->i < k->kk f p k < kk f p i) ->
  cJ n f (fun m=>m<=k/\(∀ i,i < m->kk f p i < kk f p k)/\∀ i,m<=i->i < k->kk f p k < kk f p i) (kas_place p k g l r)
 |0,l,r,hg,lr,rk,a,b=>by
  rw [kas_place.eq_def];have e:l=r:=by omega
  exact ⟨by omega,a,fun i hi=>b i (by omega)⟩
 |g+1,l,r,hg,lr,rk,a,b=>by
  have h0:0 < n:=by omega
  rw [kas_place.eq_def];show cJ n f _ (if l ≥ r then _ else _)
  by_cases c:l ≥ r
  ·rw [bb c];exact ⟨by omega,a,fun i hi=>b i (by omega)⟩
  ·rw [ao c];have m1:(l+r) / 2 < r:=by omega
   have m2:l<=(l+r) / 2:=by omega
   generalize (l+r) / 2=m at m1 m2 ⊢
   by_cases d:kk f p k < kk f p m
   ·refine cJ.yes (h.get h0 _) (h.get h0 _) d ?_;show cJ n f _ (kas_place p k g l m);refine sV h kn u g l m (by omega) m2 (by omega) a fun i hi hk=>?_
    by_cases e:i=m
    ·rw [e];exact d
    ·have:=u m i (by omega) hk;omega
   ·refine cJ.no (h.get h0 _) (h.get h0 _) d ?_;show cJ n f _ (kas_place p k g (m+1) r);refine sV h kn u g (m+1) r (by omega) (by omega) rk (fun i hi=>?_) b;have:=aL6 hf h (show m < n by omega) kn (by omega)
    by_cases e:i=m
    ·rw [e];omega
    ·have:=u i m (by omega) (by omega);omega
theorem aZ0:∀ (g:Nat) {p:Array Nat}(x:Nat),cY n p->x+g=n->Up f p x->cJ n f (fun q=>cY n q/\Up f q n) (kas_bin g p x)
 |0,p,x,h,e,u=>by
  rw [kas_bin.eq_1];have:x=n:=by omega
  subst this;exact ⟨h,u⟩
 |g+1,p,x,h,e,u=>by
  have z:=h.size;rw [show g+1=g.succ from rfl,kas_bin.eq_2];refine (sV hf h (show x < n by omega) u x 0 x (by omega) (by omega) (ak _) (fun i hi=>by omega) (fun i a b=>by omega)).bind fun l ⟨h1,h2,h3⟩=>?_
  refine aZ0 g _ ((bubble_perm p _ _).trans h) (by omega) fun i j hij hj=>?_
  rw [aP4 (by omega) h1,aP4 (by omega) h1];rcases Nat.lt_trichotomy i l with c | c | c
  ·rw [ao (by omega),ao (by omega)];rcases Nat.lt_trichotomy j l with d | d | d
   ·rw [ao (by omega),ao (by omega)];exact u _ _ hij (by omega)
   ·rw [bb d];exact h2 _ c
   ·rw [ao (by omega),bb (by omega)];exact u _ _ (by omega) (by omega)
  ·rw [bb c,ao (by omega),bb (by omega)];exact h3 _ (by omega) (by omega)
  ·rw [ao (by omega),bb (by omega),ao (by omega),bb (by omega)];exact u _ _ (by omega) (by omega)
theorem bK3 (h0:1<=n):cJ n f (fun q=>cY n q/\Up f q n) (kas_sort n):=by
 unfold kas_sort;refine (aV1 hf h0 (Array.Perm.refl _)).bind fun r ⟨h1,h2,h3,h4⟩=>?_
 split
 ·rename_i c
  rw [Nat.max_eq_left h2];exact aZ0 hf _ _ h1 (by omega) h4
 ·rename_i c
  have:r.1=n:=by omega
  rw [this] at h4;exact ⟨h1,h4⟩
end
open PySem PySem.Spec PyProof.Rows
section
variable {prog:Program}{w:World}{A:Around}{E:Value->Shared->Prop}{s:Shared}{a:Addr}{S:Key->Bool}{n:Nat}{led:Bool}
end
section
variable {prog:Program}{w:World}{A:Around}{R:Result->Shared->Prop}{I:Addr}{fp wr:List Addr}{G:Array GenState->Array GenState->Prop}{n:Nat}{P:Nat->Value->Prop}{St:Nat->Shared->Prop}{led:Bool}
end
section
variable {prog:Program}{w:World}{A:Around}{E:Value->Shared->Prop}{s:Shared}
end
def tb (m:Nat):SetTable:={ SetTable.fresh 0 0 true with mask:=m }
def Pn (m:Nat) (h:Int):Nat->SetTable.Probe
 |0=>(tb m).probeStart h
 |n+1=>(tb m).advance (Pn m h n)
def bs (m:Nat) (h:Int):Nat->Nat×Nat
 |0=>(SetTable.bits h % (m+1),SetTable.bits h)
 |L+1=>SetTable.leap m (bs m h L).1 (bs m h L).2
def lf (m i:Nat):Nat:=(i * 5+1) % (m+1)
def Own (o:Array (Option Nat)) (x:Nat):Prop:=(o.getD x (some 0)).isNone=false
structure Lay (m:Nat) (hs:List Int) (o:Array (Option Nat)):Prop where
 size:o.size=m+1
 perm:((List.range (m+1)).filterMap fun j=>o.getD j none).Perm (List.range hs.length)
 rch:∀ j k h,o.getD j none=some k->hs[k]?=some h->∃ n,(Pn m h n).j=j/\∀ c,c < n->Own o (Pn m h c).j
section
variable {prog:Program}{w:World}{A:Around}{E:Value->Shared->Prop}{s:Shared}{K:Type} [DecidableEq K] {knd:KeyKind prog w K}
variable (knd) in
end
def eK {α: Type}(l:List α) (p:Nat) (x:α):List α:=l.take p++x :: l.drop p
section
variable {prog:Program}{w:World}{A:Around}{E:Value->Shared->Prop}{s:Shared}{K:Type} [DecidableEq K] {knd:KeyKind prog w K}
end
section
variable {prog:Program}{w:World}{A:Around}{K:Type} [DecidableEq K] {knd:KeyKind prog w K}{I:Addr}{fp wr:List Addr}{G:Array GenState->Array GenState->Prop}{n:Nat}{P:Nat->Value->Prop}{St:Nat->Shared->Prop}{R:Result->Shared->Prop}
variable (knd) in
end
section
variable {prog:Program}{w:World}{A:Around}{E:Value->Shared->Prop}{s:Shared}{K:Type} [DecidableEq K] {knd:KeyKind prog w K}
end
def dX (H:Hp) (bs:List Addr) (nss:List (List Int)):Prop:=bs.length=nss.length/\∀ (i:Nat) b ns,bs[i]?=some b->nss[i]?=some ns->H b=some (.tup (ns.map V.int))
theorem nK {ns ms:List Int}(h:ns.map (Sum.inl:Int->Key)=ms.map Sum.inl):ns=ms:=by
 induction ns generalizing ms with
 |nil=>cases ms with | nil=>rfl | cons _ _=>cases h
 |cons x r ih =>
  cases ms with
  |nil=>cases h
  |cons y t =>
   rw [ar,ar] at h;injection h with h1 h2
   injection h1 with h1
   rw [h1,ih h2]
open PySem PySem.Spec PyProof.Rows PySem.W HT
theorem lE:∀ a:List Int,HT.lexLt a a=false
 |[]=>rfl
 |x :: r=>by rw [lexLt_cons,bb rfl];exact lE r
theorem jJ:∀ {a b c:List Int},HT.lexLt a b=true->HT.lexLt b c=true->HT.lexLt a c=true
 |[],[],_,h,_=>by cases h
 |[],_ :: _,[],_,h=>by cases h
 |[],_ :: _,_ :: _,_,_=>rfl
 |_ :: _,[],_,h,_=>by cases h
 |_ :: _,_ :: _,[],_,h=>by cases h
 |x :: a,y :: b,z :: c,h,k=>by
  rw [lexLt_cons] at h k ⊢
  by_cases e:x=y
  ·subst e;rw [bb rfl] at h
   by_cases f:x=z
   ·rw [bb f] at k ⊢;exact jJ h k
   ·rw [ao f] at k ⊢;exact k
  ·rw [ao e] at h;have h:=bc h
   by_cases f:y=z
   ·subst f;rw [ao e];exact am h
   ·rw [ao f] at k;have k:=bc k;rw [ao (by omega)];exact am (by omega)
theorem tL:∀ {a b:List Int},HT.lexLt a b=false->HT.lexLt b a=false->a=b
 |[],[],_,_=>rfl
 |[],_ :: _,h,_=>by cases h
 |_ :: _,[],_,h=>by cases h
 |x :: a,y :: b,h,k=>by
  rw [lexLt_cons] at h k
  by_cases e:x=y
  ·subst e;rw [bb rfl] at h k;rw [tL h k]
  ·rw [ao e] at h;rw [ao (fun z=>e z.symm)] at k;have h:=wo h;have k:=wo k;omega
theorem dC {α: Type}{l:List α}{d:α}{i:Nat}(h:i < l.length):l.getD i d=l[i]:=by simp [List.getD,h]
theorem rL {α: Type}{p q:α->Bool}:∀ {l:List α}{x:α},(∀ y∈l,p y=true->q y=true)->x∈l->q x=true->p x=false->l.countP p < l.countP q
 |y :: r,x,h,m,qx,px=>by
  have hr:∀ y∈r,p y=true->q y=true:=fun z hz=>h z (ba _ hz)
  have le:r.countP p<=r.countP q:=List.countP_mono_left hr;rw [List.countP_cons,List.countP_cons]
  by_cases e:x=y
  ·subst e;rw [qx,px];simp;omega
  ·have m':x∈r:=by
    rcases bi.mp m with z | z
    ·exact absurd z e
    ·exact z
   have ih:=rL hr m' qx px;have hy:=h y au
   cases hp:p y
   ·simp;omega
   ·rw [hy hp];simp;omega
def rkL (nss:List (List Int)) (i:Nat):Nat:=nss.countP fun y=>HT.lexLt y (nss.getD i [])
theorem aZ2 {nss:List (List Int)}{i j:Nat}(hi:i < nss.length) (h:HT.lexLt (nss.getD i []) (nss.getD j [])=true):rkL nss i < rkL nss j:=by
 refine rL (x:=nss.getD i []) (fun y _ hy=>jJ hy h) ?_ h (lE _);rw [dC hi];exact jx hi
theorem tW {nss:List (List Int)}(nd:nss.Nodup) {i j:Nat}(hi:i < nss.length) (hj:j < nss.length):decide (rkL nss i < rkL nss j)=HT.lexLt (nss.getD i []) (nss.getD j []):=by
 cases h:HT.lexLt (nss.getD i []) (nss.getD j []) with
 |true=>exact am (aZ2 hi h)
 |false =>
  refine bu fun c=>?_
  cases k:HT.lexLt (nss.getD j []) (nss.getD i []) with
  |true=>have:=aZ2 hj k;omega
  |false =>
   have e:=tL h k;rw [dC hi,dC hj] at e;have:=(ub nd).mp e;subst this;omega
theorem bD7 {nss:List (List Int)}(nd:nss.Nodup) (i j:Nat) (hi:i < nss.length) (hj:j < nss.length) (e:rkL nss i=rkL nss j):i=j:=by
 have a:=tW nd hi hj;have b:=tW nd hj hi;rw [e,bu (dk _)] at a b;have e:=tL a.symm b.symm;rw [dC hi,dC hj] at e;exact (ub nd).mp e
def bL4 (h:Heap) (bs:List Addr) (nss:List (List Int)):Prop:=bs.length=nss.length/\∀ (i:Nat),i < bs.length->∃ its,IsTup h (bs.getD i 0) its/\IntsAre its.toList (nss.getD i [])
section
variable {prog:Program}{w:World}{A:Around}{E:Value->Shared->Prop}{s:Shared}
theorem aZ9 {b fin:Bool}{Q:Bool->Shared->Prop}(hu:A.units < cLine):∀ {us vs:List Value}{ns ms:List Int}(i:Nat),IntsAre us ns->IntsAre vs ms->fin=decide (us.length < vs.length)->Q (HT.lexLt ns ms) s->KatLex prog w A b fin Q (us.zip vs) i s
 |_,_,_,_,i,.nil,.nil,e,q=>by subst e;exact kat_nil q
 |_,_,_,_,i,.nil,.cons _ _ _,e,q=>by subst e;exact kat_nil q
 |_,_,_,_,i,.cons _ _ _,.nil,e,q=>by subst e;exact kat_nil q
 |_,_,_,_,i,.cons x t r,.cons y u r',e,q=>by
  rw [wg];refine kat_cons (aAt x t y u prog w _ _ ?_);rw [lexLt_cons] at q;rw [KatGo.eq_1]
  by_cases c:x=y
  ·rw [bb c] at q;rw [bb (by simpa using c)];exact aZ9 hu (i+1) r r' (by simpa using e) q
  ·rw [ao c] at q;rw [ao (by simpa using c)]
   cases hb:(b && i == 0)
   ·exact kat_one _ _ (aAo q)
   ·exact kat_lt_int q
theorem bV1 {a c:Addr}{its jts:Array Value}{ns ms:List Int}{κ: SortKind}{Q:Bool->Shared->Prop}(hu:A.units+1 < cLine) (hx:IsTup s.heap a its) (ix:IntsAre its.toList ns) (hy:IsTup s.heap c jts) (iy:IntsAre jts.toList ms) (hk:κ=general'\/κ=oneType'\/∃ b,κ=tuples' b) (hQ:Q (HT.lexLt ns ms) s) :
  wpAny (model prog w) A (keyLt' κ (.ref a) (.ref c)) Q E s:=by
 rcases hk with rfl | rfl | ⟨b,rfl⟩
 ·exact kat_one _ _ (lt_tupInts hx hy ix iy (by omega) hQ)
 ·show wpAny _ _ (oneLt' true _ _) _ _ _;rw [oneLt'_eq];refine aa (wpAny_cRoomFor (by omega) ?_);obtain ⟨⟨cls,dd,data,sl⟩,ho,hc,n,hd⟩:=id hx;obtain ⟨⟨cls2,dd2,data2,sl2⟩,ho2,hc2,n2,hd2⟩:=id hy;simp only at hc hd hc2 hd2;subst hc hd hc2 hd2;refine aa (wpAny_callSpecialIfBound?_slot (T:="tuple") ⟨_,ho,rfl⟩ ue (pp ue ⟨_,ho,rfl⟩ yy (yf _ _) (jW a c its jts n n2 dd dd2 sl sl2 ns ms ix iy) ⟨ho,ho2,?_⟩));exact ib hQ
 ·obtain ⟨o,ho,hc,n,hd⟩:=id hx;obtain ⟨o2,ho2,hc2,n2,hd2⟩:=id hy;exact kat_lt ho hd ho2 hd2 (aZ9 (by omega) 0 ix iy (by simp) hQ)
def gH (bs:List Addr) (p:List Nat):List Addr:=p.map fun i=>bs.getD i 0
def jT (nss:List (List Int)) (p:List Nat):List (List Int):=p.map fun i=>nss.getD i []
theorem iF {α: Type}(l:List α) (d:α):(List.range l.length).map (fun i=>l.getD i d)=l:=by
 apply List.ext_getElem
 ·simp
 ·intro i h1 h2;simp [List.getD,h2]
theorem bQ1 {nss:List (List Int)}(nd:nss.Nodup) {p:Array Nat}(hp:cY nss.length p) (u:Up (rkL nss) p nss.length):(jT nss p.toList).Pairwise fun a b=>HT.lexLt a b=true:=by
 unfold jT;rw [xf,mi];intro i j hi hj hij;have z:=hp.size;rw [fj] at hi hj;have h0:0 < nss.length:=by omega
 have a:=u i j hij (by omega);have b:=tW nd (hp.get h0 i) (hp.get h0 j);rw [am (show rkL nss (p.getD i 0) < rkL nss (p.getD j 0) from a)] at b;have ei:p.toList[i]=p.getD i 0:=by simp [Array.getD,hi]
 have ej:p.toList[j]=p.getD j 0:=by simp [Array.getD,hj]
 rw [ei,ej];exact b.symm
theorem aK8 {bs:List Addr}{p:Array Nat}(hp:cY bs.length p):(p.toList.map fun i=>(bs.map Value.ref).getD i Value.none)=(gH bs p.toList).map Value.ref:=by
 unfold gH;rw [bg];refine de fun i hi=>?_
 have hi:i < bs.length:=by
  have:=(jc.mp hp).mem_iff.mp hi
  simpa using this
 simp [List.getD,hi]
theorem zJ {a:Addr}{bs:List Addr}{nss:List (List Int)}{n:Nat}{P:PySem.Fin->Shared->Prop}(hu:A.units+1 < cLine) (hl:s.heap.get? a=some (seqObj "list" (bs.map Value.ref).toArray n)) (hn:bs.length < 64) (ht:bL4 s.heap bs nss) (nd:nss.Nodup) (hc:∀ b∈bs,b≠a)
  (q:∀ (h':Heap) (p:List Nat) (c:Nat),(∀ b o,b≠a->s.heap.get? b=some o->h'.get? b=some o)->h'.get? a=some (seqObj "list" ((gH bs p).map Value.ref).toArray c)->p.Perm (List.range bs.length)->(jT nss p).Pairwise (fun a b=>HT.lexLt a b=true)->P (Fin.done (Flow.ret Value.none)) { s with heap:=h' }) :
  wpAny (model prog w) A (Builtin.«list.sort» { pos:=[Value.ref a] }) P E s:=by
 obtain ⟨vs,hv⟩:∃ vs,vs=bs.map Value.ref:=⟨_,rfl⟩
 have vl:vs.length=bs.length:=by rw [hv,af]
 rw [<- hv] at hl;have la:=az hl;have zs:vs.length<=sizeLine:=my (aK (by omega));have zs2:vs.toArray.size<=sizeLine:=by rw [bp];exact zs
 rw [list_sort_plain];refine aa (listItems_at hl rfl ?_);refine aa (aAn hl rfl ?_ zs2 (by show (0:Nat)<=_;omega));have hl1:=yo hl fun _=> #[]
 have k1:∀ b o,b≠a->s.heap.get? b=some o->(s.heap.update a (Obj.mapSeq fun _=> #[])).get? b=some o:=fun b o hb e=>by
  rw [ja _ _ _ _ hb];exact e
 generalize s.heap.update a (Obj.mapSeq fun _=> #[])=h1 at hl1 k1 ⊢;refine aa (aBg hl1 rfl ?_);refine aa (zt ?_ zs);refine aa (wpAny_newList ?_ (bz _));have k2:∀ b o,h1.get? b=some o->((h1.push { cls:= .type "tuple",data:= .seq vs.toArray }).push { cls:= .type "list",data:= .seq ([]:List Value).toArray }).get? b=some o:=fun b o e=>ag _ (ag _ e)
 dsimp only
 generalize ((h1.push { cls:= .type "tuple",data:= .seq vs.toArray }).push { cls:= .type "list",data:= .seq ([]:List Value).toArray })=h2 at k2 ⊢;have hl2:=k2 _ _ hl1;have ht2:∀ i,i < bs.length->∃ its,IsTup h2 (bs.getD i 0) its/\IntsAre its.toList (nss.getD i []):=fun i hi=>by
  obtain ⟨its,⟨o,ho,r⟩,ix⟩:=ht.2 i hi;refine ⟨its,⟨o,k2 _ _ (k1 _ _ (hc _ ?_) ho),r⟩,ix⟩;rw [dC hi];exact jx hi
 refine cp ?_
 by_cases c:vs.length < 2
 ·rw [bb (by simpa using c)];refine aa (ac ?_);rw [bb (by simpa using c)];refine aa (ac ?_);have f:failedOf (SortSt.mk' general' (vs.toArray.zip vs.toArray) #[] 7 none)=none:=rfl;have e:Array.map (fun x=>x.snd) (arrOf (SortSt.mk' general' (vs.toArray.zip vs.toArray) #[] 7 none))=((gH bs (List.range bs.length)).map Value.ref).toArray:=by
   show Array.map (fun x=>x.snd) (vs.toArray.zip vs.toArray)=_;unfold gH;rw [iF, <- hv]
   apply Array.ext
   ·simp
   ·intro i h1 h2;simp
  have pw:(jT nss (List.range bs.length)).Pairwise (fun a b=>HT.lexLt a b=true):=by
   unfold jT;rw [ht.1,iF];have:nss.length < 2:=by rw [<- ht.1];omega
   rw [mi];intro i j hi hj hij;omega
  refine aa (aBg hl2 rfl ?_);refine aa (aAn hl2 rfl ?_ (bz _) (by dsimp only;rw [e,bp,af];unfold gH;rw [af,xg];omega))
  try rw [f]
  try dsimp only
  rw [ao (by simp)];refine ac ?_;have hl3:=yo hl2 fun _=>Array.map (fun x=>x.snd) (arrOf (SortSt.mk' general' (vs.toArray.zip vs.toArray) #[] 7 none))
  refine q _ _ _ (fun b o hb e0=>?_) (by rw [<- e];exact hl3) (List.Perm.refl _) pw;rw [ja _ _ _ _ hb];exact k2 _ _ (k1 _ _ hb e0)
 ·rw [ao (by simpa using c)];refine aa (aL0 (vs:=vs) (fun v hv'=>?_) fun κ hk=>?_)
  ·rw [hv] at hv';obtain ⟨b,hb,rfl⟩:=ap.mp hv';obtain ⟨i,hi,e⟩:=vd.mp hb;obtain ⟨its,x1,x2⟩:=ht2 i hi;rw [dC hi,e] at x1;exact ⟨b,its,_,rfl,x1,x2⟩
  rw [ao (by simpa using c)];refine aa ?_;refine ff (kat_run (ks:=vs) (vs:=vs) (Q:=fun st s'=>s'={ s with heap:=h2 }/\failedOf st=none/\∃ p:List Nat,Array.map (fun x=>x.snd) (arrOf st)=((gH bs p).map Value.ref).toArray/\p.Perm (List.range bs.length)/\(jT nss p).Pairwise (fun a b=>HT.lexLt a b=true)) (G:=fun p s'=>s'={ s with heap:=h2 }/\cY bs.length p/\Up (rkL nss) p bs.length) rfl (by omega) (by omega) (fun p st s' hp ha hf hG=>⟨hG.1,hf,p.toList,by rw [kat_snds rfl ha,hv,aK8 hG.2.1],by have:=jc.mp hG.2.1;simpa using this,bQ1 nd (by rw [<- ht.1];exact hG.2.1) (by rw [<- ht.1];exact hG.2.2)⟩) ?_) ?_ (fun _ _ h=>h)
  rotate_left
  ·rintro ⟨_,st⟩ s' ⟨rfl,f,p,e,pm,pw⟩
   dsimp only at f e ⊢
   refine aa (aBg hl2 rfl ?_);refine aa (aAn hl2 rfl ?_ (bz _) (by show (Array.map (fun x=>x.snd) (arrOf st)).size<=_;rw [e,bp,af];unfold gH;rw [af,pm.length_eq,xg];omega))
   try rw [f]
   dsimp only
   rw [ao (by simp)];refine ac ?_;have hl3:=yo hl2 fun _=>Array.map (fun x=>x.snd) (arrOf st)
   refine q _ p _ (fun b o hb e0=>?_) (by rw [<- e];exact hl3) pm pw;rw [ja _ _ _ _ hb];exact k2 _ _ (k1 _ _ hb e0)
  ·rw [vl];have hz:=ht.1;refine cJ.wp (n:=bs.length) (f:=rkL nss) (fun i j C hi hj hC=>?_) (fun p hp=>⟨rfl,hp⟩) (bK3 (fun i j hi hj=>bD7 nd i j (by omega) (by omega)) (by omega));unfold kas_ask;obtain ⟨its,x1,x2⟩:=ht2 i hi;obtain ⟨jts,y1,y2⟩:=ht2 j hj;rw [tW nd (by omega) (by omega)] at hC;have ei:vs.getD i Value.none= .ref (bs.getD i 0):=by rw [hv];simp [List.getD,hi]
   have ej:vs.getD j Value.none= .ref (bs.getD j 0):=by rw [hv];simp [List.getD,hj]
   rw [ei,ej];exact bV1 hu x1 x2 y1 y2 hk hC
end
open PySem PySem.Spec PyProof.Rows
section
variable {X:Cx}{k:Nat}
end
open PySem PySem.Spec PyProof.Rows PySem.W HT
theorem pI {bs:List Addr}{p:List Nat}(h:p.Perm (List.range bs.length)):(gH bs p).Perm bs:=by
 have:=h.map fun i=>bs.getD i 0
 rw [iF] at this;exact this
theorem yH {nss:List (List Int)}{p:List Nat}(h:p.Perm (List.range nss.length)):(jT nss p).Perm nss:=by
 have:=h.map fun i=>nss.getD i []
 rw [iF] at this;exact this
theorem dX.pick {H:Hp}{bs:List Addr}{nss:List (List Int)}(t:dX H bs nss) {p:List Nat}(h:p.Perm (List.range bs.length)):dX H (gH bs p) (jT nss p):=by
 refine ⟨by unfold gH jT;rw [af,af],fun i b ns h1 h2=>?_⟩;unfold gH at h1;unfold jT at h2;rw [bf] at h1 h2;obtain ⟨j,hj,rfl⟩:=ge.mp h1;rw [hj] at h2
 cases h2
 have lj:j < bs.length:=by
  have:=h.mem_iff.mp (bo hj)
  simpa using this
 have ln:=t.1;refine t.2 j _ _ ?_ ?_
 ·rw [dC lj];exact aj lj
 ·dsimp only;rw [dC (by omega)];exact aj (by omega)
section
variable {X:Cx}{k:Nat}
theorem aU2 {pins:List (Addr×Obj)}{σ: St}{H:Hp}{s:Shared}{bs:List Addr}{nss:List (List Int)}(I:aN X pins σ H s) (t:dX H bs nss):bL4 s.heap bs nss:=by
 refine ⟨t.1,fun i hi=>?_⟩;have ln:=t.1;have ha:=t.2 i bs[i] nss[i] (aj hi) (aj (by omega));obtain ⟨jts,rj,tp,_⟩:=I.tuple (aV.of ha);rw [dC hi,dC (by omega)];exact ⟨jts.toArray,tp,iH (by simpa using rj)⟩
theorem zA {pins:List (Addr×Obj)}{σ: St}{H:Hp}{s:Shared}{Q:VK}{h':Heap}{d':Drawn}{t:Nat}{bs:List Addr}{nss:List (List Int)}(hr:bW k X.A) (I:aN X pins σ H s) (ht:dX H bs nss) (nd:nss.Nodup) (h64:bs.length < 64) (keep:∀ b o,s.heap.get? b=some o->h'.get? b=some o) (le:s.heap.objs.size<=h'.objs.size)
  (q:∀ (bs':List Addr) (nss':List (List Int)),bs'.Perm bs->nss'.Perm nss->dX H bs' nss'->nss'.Pairwise (fun a b=>HT.lexLt a b=true)->∀ l,H l=none->Q (.ref l) (aJ H l (.lst (bs'.map V.ref)))) :
  wpAny (model X.prog X.w) X.A.in1 (newList (bs.map Value.ref) >>= fun l=>holding [l] (call (.builtin "list.sort") [l] []) >>= fun _=>ret l) (fun fin s'=>∃ v,fin= .done (.ret v)/\EP X pins σ Q v s') X.xe { s with heap:=h',drawn:=d',toks:=t }:=by
 refine aa (wpAny_newList ?_ (by rw [qf,af];omega));have un:=hr.units;have hoL:(h'.push (seqObj "list" (bs.map Value.ref).toArray 0)).get? h'.objs.size=some (seqObj "list" (bs.map Value.ref).toArray 0):=aq _ rfl;have tc:=aU2 I ht;have k2:∀ b o,s.heap.get? b=some o->(h'.push (seqObj "list" (bs.map Value.ref).toArray 0)).get? b=some o:=fun b o z=>ag _ (keep b o z)
 refine aa (cp (cr slot_list_sort ⟨_,hoL,rfl⟩ entry_list_sort (zJ (nss:=nss) (by show X.A.units+1+1+1 < cLine;omega) hoL h64 ⟨tc.1,fun i hi=>?_⟩ nd (fun b hb z=>?_) fun h'' p c k3 hD pm pw=>⟨_,rfl,?_⟩) (args_list_sort _)))
 ·obtain ⟨its,⟨o,ho,r⟩,ix⟩:=tc.2 i hi;exact ⟨its,⟨o,k2 _ _ ho,r⟩,ix⟩
 ·obtain ⟨i,hi,e⟩:=vd.mp hb;obtain ⟨its,⟨o,ho,r⟩,ix⟩:=tc.2 i hi;rw [dC hi,e,z] at ho;exact absurd (az ho) (ux.mpr le)
 ·refine ac ⟨_,rfl,?_⟩;refine ⟨.ref h'.objs.size,_,(I.draw d').laid (t':=t) (o:= .lst ((gH bs p).map V.ref)) (fun b o z=>k3 b o (fun e=>absurd (az z) (by rw [e];exact ux.mpr le)) (k2 b o z)) le ?_,rfl,q _ _ (pI pm) (yH (by rw [<- ht.1];exact pm)) (ht.pick pm) pw _ (I.hok.fresh le)⟩;refine ⟨?_,(gH bs p).map Value.ref,c,jL _,hD⟩;rw [af,(pI pm).length_eq];exact my (aK (by omega))
where jL:∀ bs:List Addr,aZ (bs.map V.ref) (bs.map Value.ref)
 |[]=> .nil
 |b :: r=> .cons rfl (jL r)
theorem wN (hr:bW k X.A):cB X (.builtin "sorted") (fun xs H Q=>∃ (p:Addr) (bs:List Addr) (nss:List (List Int)),xs=[.ref p]/\bK X.K H p (bs.map V.ref)/\bs.length < 64/\dX H bs nss/\nss.Nodup /\
  ∀ (bs':List Addr) (nss':List (List Int)),bs'.Perm bs->nss'.Perm nss->dX H bs' nss'->nss'.Pairwise (fun a b=>HT.lexLt a b=true)->∀ l,H l=none->Q (.ref l) (aJ H l (.lst (bs'.map V.ref)))):=by
 intro pins s σ H xs us Q I r h;obtain ⟨p,bs,nss,rfl,hq,hz,ht,nd,q⟩:=h;obtain ⟨u,rfl,ru⟩:=eW r
 cases ru
 obtain ⟨its,rv,pl,_⟩:=I.list hq;have e:its=bs.map Value.ref:=refs_of rv;subst e;refine xm kind_sorted plain_sorted entry_sorted (args_sorted1 _) ?_;unfold Builtin.«sorted»;refine aa (m:=checkCount "sorted" 1 1 _) (ac ?_);refine aa (collect_list pl.isList ?_ (by rw [qf,af];omega));refine zA (d':=s.drawn) (t:=s.toks) hr I ht nd hz (fun b o e=>?_) ?_ q
 ·rw [ja _ _ _ _ (bv (az e))];exact ag _ e
 ·rw [Heap.size_update,size_push'];omega
where refs_of:∀ {bs:List Addr}{us:List Value},aZ (bs.map V.ref) us->us=bs.map Value.ref
 |[],_,h=>by cases h;rfl
 |b :: r,_,h=>by
  rw [ar] at h
  cases h with
  |cons h1 h2 =>
   cases h1
   rw [refs_of h2];rfl
end
open PySem PySem.Spec PyProof.Rows
theorem lW:entryFor table "dict_keyiterator.__next__"=some Builtin.«dict_keyiterator.__next__» :=xx (by kernel_rfl)
theorem tT:entryFor table "dict.__iter__"=some Builtin.«dict.__iter__» :=xx (by kernel_rfl)
section
variable {prog:Program}{w:World}{A:Around}{E:Value->Shared->Prop}{s:Shared}{d it:Addr}{o:Obj}{es:Array DictEntry}{ep i:Nat}
theorem aJ9 {e:DictEntry}{Q:Option Value->Shared->Prop}(hit:s.heap.IsKeyIter it d i es.size ep) (h1:s.heap.get? d=some o) (h3:o.data= .dict es ep) (he:es[i]?=some e)
  (hQ:∀ h',h'.IsKeyIter it d (i+1) es.size ep->Heap.SameBut it s.heap h'->Q (some e.key) { s with heap:=h' }):wpAny (model prog w) A (pyNext (.ref it)) Q E s:=by
 obtain ⟨oi,ho,hc,hd⟩:=id hit;unfold pyNext;refine aa (lh (db (name:=Str.ofString "__next__") hit.typeIs jy (cr jy hit.typeIs lW ?_ (vf _))));refine (show wpAny _ _ (Builtin.Dict_items.slot0 "__next__" ⟨[.ref it],[]⟩ >>= _) _ _ _ from aa ?_);unfold Builtin.Dict_items.slot0 slotArgs;simp only [List.isEmpty_nil,Bool.not_true,Bool.false_eq_true,if_false,bind_assoc,List.length_nil,bne_self_eq_false];refine aa (ac (ac (aa ?_)));refine (show wpAny _ _ ((typeNameOfWhole (.ref it) >>= fun _=>_) >>= fun _=>_) _ _ _ from aa (aa (jj hit.typeIs (ac ?_))));refine aa (pf ho hd ?_)
 dsimp only
 refine (show wpAny _ _ (dictEntries d >>= fun _=>_) _ _ _ from aa (di h1 h3 ?_));rw [ao (by simp)];refine (show wpAny _ _ (dictEpoch d >>= fun _=>_) _ _ _ from aa (dt h1 h3 ?_));rw [ao (by simp)];refine ac ?_;refine (show wpAny _ _ (match if (i:Int) < 0 then none else es[(i:Int).toNat]? with | some e=>_ | none=>_) _ _ _ from ?_);rw [ao (by omega),cy,he]
 dsimp only
 refine (show wpAny _ _ ((typeNameOfWhole (.ref it) >>= fun _=>_) >>= fun _=>_) _ _ _ from aa (aa (jj hit.typeIs (ac ?_))));refine aa (zu hit.typeIs ?_);refine aa (mq ho hd (by show (1:Nat) < 4;decide) ?_);have hit':(s.heap.update it (Obj.mapFields (·.setIfInBounds 1 (rawInt ((i:Int)+1))))).IsKeyIter it d (i+1) es.size ep :=
  ⟨_,jd _ ho (uf (km hd _)),(xc ..).trans hc,by rw [km hd];simp [rawInt]⟩
 refine aa (cp ?_);refine (show wpAny _ _ (Builtin.Dict_items.isOneOf (.ref it) _ >>= fun _=>_) _ _ _ from aa (zu (s:={ s with heap:=s.heap.update it (Obj.mapFields (·.setIfInBounds 1 (rawInt ((i:Int)+1)))) }) hit'.typeIs ?_));refine (show wpAny _ _ (pure e.key) _ _ _ from ac ?_);exact ac ⟨_,rfl,ac (hQ _ hit' (ju ..))⟩
theorem aW4 {Q:Option Value->Shared->Prop}(hh:A.handled=none) (hit:s.heap.IsKeyIter it d i es.size ep) (h1:s.heap.get? d=some o) (h3:o.data= .dict es ep) (he:es[i]?=none)
  (hQ:∀ h',(∀ c u,c≠it->s.heap.get? c=some u->h'.get? c=some u)->Q none { s with heap:=h' }):wpAny (model prog w) A (pyNext (.ref it)) Q E s:=by
 obtain ⟨oi,ho,hc,hd⟩:=id hit;unfold pyNext;refine aa (lh (db (name:=Str.ofString "__next__") hit.typeIs jy (cr jy hit.typeIs lW ?_ (vf _))));refine (show wpAny _ _ (Builtin.Dict_items.slot0 "__next__" ⟨[.ref it],[]⟩ >>= _) _ _ _ from aa ?_);unfold Builtin.Dict_items.slot0 slotArgs;simp only [List.isEmpty_nil,Bool.not_true,Bool.false_eq_true,if_false,bind_assoc,List.length_nil,bne_self_eq_false];refine aa (ac (ac (aa ?_)));refine (show wpAny _ _ ((typeNameOfWhole (.ref it) >>= fun _=>_) >>= fun _=>_) _ _ _ from aa (aa (jj hit.typeIs (ac ?_))));refine aa (pf ho hd ?_)
 dsimp only
 refine (show wpAny _ _ (dictEntries d >>= fun _=>_) _ _ _ from aa (di h1 h3 ?_));rw [ao (by simp)];refine (show wpAny _ _ (dictEpoch d >>= fun _=>_) _ _ _ from aa (dt h1 h3 ?_));rw [ao (by simp)];refine ac ?_;refine (show wpAny _ _ (match if (i:Int) < 0 then none else es[(i:Int).toNat]? with | some e=>_ | none=>_) _ _ _ from ?_);rw [ao (by omega),cy,he]
 dsimp only
 refine (show wpAny _ _ ((typeNameOfWhole (.ref it) >>= fun _=>_) >>= fun _=>_) _ _ _ from aa (aa (jj hit.typeIs (ac ?_))));refine aa (mq ho hd (by show (0:Nat) < 4;decide) ?_);refine kR (show A.in1.handled=none from hh) fun e g kp ex=>?_
 obtain ⟨oe,e1,e2⟩:=ex;refine aa (jw (T:="StopIteration") (b:=true) ⟨oe,e1,e2⟩ vt ?_);exact ac (hQ _ fun c u hc e=>kp c u (by rw [ja _ _ _ _ hc];exact e))
theorem aI0 {Q:Value->Shared->Prop}(ns:(d == sysModules)=false) (h1:s.heap.get? d=some o) (h2:o.ExactDict) (h3:o.data= .dict es ep)
  (h:Q (.ref s.heap.objs.size) { s with heap:=s.heap.push { cls:= .type "dict_keyiterator",data:= .fields #[.ref d,.int 0 0,.int (es.size:Nat) 0,.int (ep:Nat) 0] } }):wpAny (model prog w) A (pyIter (.ref d)) Q E s:=by
 have hT:s.TypeIs (.ref d) "dict":=⟨o,h1,h2.1⟩
 refine xh hT F.slot_dict_iter (cr F.slot_dict_iter hT tT ?_ (F.args_dict_iter_1 _));unfold Builtin.«dict.__iter__» Builtin.Dict.dictSlotNone;simp only [bind_assoc];refine aa (ik hT ?_);unfold slotArgs;simp only [List.isEmpty_nil,Bool.not_true,Bool.false_eq_true,if_false,bind_assoc,List.length_nil,bne_self_eq_false];refine aa (ac (aa (ac ?_)));refine (show wpAny _ _ (pure d >>= fun _=>_) _ _ _ from aa (ac ?_));unfold Builtin.Dict.showsAll;rw [ns,ao (by decide)];refine aa (ac ?_);refine aa (di h1 h3 ?_);refine aa (dt h1 h3 ?_);refine aa ?_;unfold newFields;refine fk (ac ⟨_,rfl,"dict_keyiterator",_,⟨_,aq _ rfl,rfl⟩,F.slot_dict_keyiterator_next.lookup,h⟩)
end
theorem lV {α β: Type}{F:α->β->Prop}:∀ {l:List α}{m:List β}{i:Nat}{a:α},Paired F l m->l[i]?=some a->∃ b,m[i]?=some b/\F a b
 |_,_,_,_,.nil,e=>by simp at e
 |_,_,0,_,.cons r _,e=>by
  simp at e;subst e;exact ⟨_,by simp,r⟩
 |_,_,i+1,_,.cons _ r,e=>by
  obtain ⟨u,e1,e2⟩:=lV (i:=i) r (by simpa using e);exact ⟨u,by simpa using e1,e2⟩
def bL6 (t:TE):TE:=fun σ H Q=>∃ P:V->Hp->Prop,t σ H P/\∀ v G,P v G->Q v G
theorem aU6 {X:Cx}{e:Expr}{t:TE}(h:PE X e t):PE X e (bL6 t):=by
 intro pins s σ H Q I ⟨P,h1,h2⟩;exact cI (h pins s σ H P I h1) fun v s' ⟨x,G,I',r,p⟩=>⟨x,G,I',r,h2 x G p⟩
section
variable {X:Cx}
theorem aV4 {f:Value}{r1 r2:List V->Hp->VK->Prop}(h1:cB X f r1) (h2:cB X f r2):cB X f (fun xs H Q=>r1 xs H Q\/r2 xs H Q):=fun pins s σ H xs us Q I v h=>h.elim (h1 pins s σ H xs us Q I v) (h2 pins s σ H xs us Q I v)
theorem bF5 {f:Value->Value->Sem Value}{r1 r2:R2}(h1:iV X f r1) (h2:iV X f r2):iV X f (fun x y H Q=>r1 x y H Q\/r2 x y H Q):=fun pins s σ H x y v u Q I a b h=>h.elim (h1 pins s σ H x y v u Q I a b) (h2 pins s σ H x y v u Q I a b)
def bO2 (K:W.Frag):R2:=fun x y H Q=>rI0 (fun i j=> .bl (decide (i < j))) x y H Q\/bL9 K x y H Q
theorem bB9 {k:Nat}(K:W.Frag) (hr:bW k X.A) (hK:X.K=K:=by rfl):iV X (compareOp .Lt) (bO2 K):=by
 subst hK;exact bF5 nA (bE1 (by have:=hr.units;omega))
end
end L2
namespace Mine
open PySem L2
abbrev En:=List Int×Int×Int
def dG:Bool->Hp->V->List Int->Prop
 |true,H,v,a=>∃ p,v= .ref p/\H p=some (.tup (a.map V.int))
 |false,_,v,a=>∃ n,a=[n]/\v= .int n
theorem dG.ts {H H':Hp}(t:TS H H'):∀ {b:Bool}{v:V}{a:List Int},dG b H v a->dG b H' v a
 |true,_,_,⟨p,e,h⟩=>⟨p,e,t _ _ h⟩
 |false,_,_,h=>h
def EnA (b:Bool) (H:Hp) (v:V) (e:En):Prop:=∃ p x q,v= .ref p/\H p=some (.tup [x,.ref q])/\dG b H x e.1/\cC H q e.2.1 e.2.2
theorem EnA.ts {H H':Hp}(t:TS H H') {b:Bool}{v:V}{e:En}(h:EnA b H v e):EnA b H' v e :=
 let ⟨p,x,q,e1,h1,h2,h3⟩:=h;⟨p,x,q,e1,t _ _ h1,h2.ts t,t _ _ h3⟩
def dO (b:Bool) (H:Hp) (t:Addr) (es:List En):Prop:=∃ us,H t=some (.tup us)/\bX (EnA b H) us es
theorem dO.ts {H H':Hp}(s:TS H H') {b:Bool}{t:Addr}{es:List En}(h:dO b H t es):dO b H' t es :=
 let ⟨us,h1,h2⟩:=h;⟨us,s _ _ h1,h2.mono fun _ _ z=>z.ts s⟩
def iK (es:List En) (a:List Int):Option (Int×Int):=(es.find? fun e=>decide (e.1=a)).map (·.2)
theorem pQ {e:En}{r:List En}{a:List Int}(h:e.1=a):iK (e :: r) a=some e.2:=by simp [iK,List.find?_cons,h]
theorem nW {e:En}{r:List En}{a:List Int}(h:¬ e.1=a):iK (e :: r) a=iK r a:=by simp [iK,List.find?_cons,h]
theorem kY:∀ {es:List En}{a:List Int}{s:Int×Int},iK es a=some s->(a,s)∈es
 |[],_,_,h=>by cases h
 |e :: r,a,s,h=>by
  by_cases c:e.1=a
  ·rw [pQ c] at h
   cases h
   rw [<- c];exact au
  ·rw [nW c] at h;exact ba _ (kY h)
theorem sP:∀ {es:List En},(es.map (·.1)).Nodup->∀ e∈es,iK es e.1=some e.2
 |[],_,e,h=>absurd h bh
 |x :: r,nd,e,h=>by
  rw [ar,ig] at nd;rcases bi.mp h with rfl | h
  ·exact pQ rfl
  ·rw [nW fun z=>nd.1 (z ▸ List.mem_map_of_mem h)];exact sP nd.2 e h
def xV (H:Hp):Option V->Option (Int×Int)->Prop
 |none,none=>True
 |some v,some f=>FrR H v f
 |_,_=>False
theorem xV.ts {H H':Hp}(t:TS H H'):∀ {o:Option V}{f:Option (Int×Int)},xV H o f->xV H' o f
 |none,none,_=>trivial
 |some _,some _,h=>FrR.ts t h
 |none,some _,h=>h
 |some _,none,h=>h
theorem qC (ns:List Int):(ns.map Sum.inl:List Key).map kV=ns.map V.int:=by
 rw [bg];rfl
abbrev An:=List Int
def VA (b:Bool) (a:An):Prop:=b=true\/∃ n,a=[n]
theorem dG.va {b:Bool}{H:Hp}{v:V}{a:An}(h:dG b H v a):VA b a:=by
 cases b with
 |true=>exact .inl rfl
 |false=>obtain ⟨n,e,_⟩:=h;exact .inr ⟨n,e⟩
section
variable {κ κ':Type} [DecidableEq κ] [DecidableEq κ'] {f:κ->κ'}
theorem nY:∀ {l:List (κ×V)}{k:κ},(∀ e∈l,f e.1=f k->e.1=k)->bZ (l.map fun e=>(f e.1,e.2)) (f k)=bZ l k
 |[],_,_=>rfl
 |e :: r,k,h=>by
  rw [ar]
  by_cases c:e.1=k
  ·rw [bL c,bL (show f e.1=f k by rw [c])]
  ·rw [bC c,bC (show ¬ f e.1=f k from fun z=>c (h e au z))];exact nY fun x hx=>h x (ba _ hx)
theorem vA {l:List (κ×V)}{k:κ}{v:V}(h:∀ e∈l,f e.1=f k->e.1=k):bF (l.map fun e=>(f e.1,e.2)) (f k) v=(bF l k v).map fun e=>(f e.1,e.2):=by
 unfold bF;have a:((l.map fun e=>(f e.1,e.2)).any fun p=>decide (p.1=f k))=l.any fun p=>decide (p.1=k):=by
  clear v
  induction l with
  |nil=>rfl
  |cons e r ih =>
   rw [ar,qb,qb,ih fun x hx=>h x (ba _ hx)]
   congr 1
   by_cases c:e.1=k
   ·rw [am c,am (by rw [c])]
   ·rw [bu c,bu fun z=>c (h e au z)]
 rw [a]
 split
 ·rw [bg,bg];refine de fun e he=>?_
  show (if f e.1=f k then (f e.1,v) else (f e.1,e.2))=_
  dsimp only [Function.comp]
  by_cases c:e.1=k
  ·rw [bb c,bb (by rw [c])]
  ·rw [ao c,ao fun z=>c (h e he z)]
 ·rw [bj];rfl
end
theorem nK {x y:An}(h:(x.map Sum.inl:List Key)=y.map Sum.inl):x=y:=by
 induction x generalizing y with
 |nil=>cases y with
  |nil=>rfl
  |cons _ _=>cases h
 |cons a x ih=>cases y with
  |nil=>cases h
  |cons b y =>
   rw [ar,ar] at h;injection h with h1 h2
   rw [yq h1,ih h2]
theorem oK {x y:An}(hx:∃ n,x=[n]) (hy:∃ n,y=[n]) (h:(Sum.inl (x.headD 0):Key)=Sum.inl (y.headD 0)):x=y:=by
 obtain ⟨n,rfl⟩:=hx;obtain ⟨m,rfl⟩:=hy;have:n=m:=yq h;rw [this]
def fA (b:Bool) (l:List (An×V)):HO:=if b then .dT (l.map fun e=>(e.1.map Sum.inl,e.2)) else .dK (l.map fun e=>(Sum.inl (e.1.headD 0),e.2))
theorem uH {b:Bool}{l:List (An×V)}{o:HO}(h1:∀ z,o≠ .dK z) (h2:∀ z,o≠ .dT z):o≠fA b l:=by
 unfold fA
 split
 ·exact h2 _
 ·exact h1 _
theorem fS {b:Bool}{H:Hp}{d:Addr}{l:List (An×V)}{v:V}{a:An}(h:H d=some (fA b l)) (ok:∀ e∈l,VA b e.1) (hv:dG b H v a):fL H d v (bZ l a):=by
 cases b with
 |true =>
  obtain ⟨p,rfl,hp⟩:=hv;have:=fL.t (k:=a.map Sum.inl) h (show H p=some (.tup ((a.map Sum.inl:List Key).map kV)) by rw [qC];exact hp)
  rwa [nY (f:=fun a:An=>(a.map Sum.inl:List Key)) (fun e _ q=>nK q)] at this
 |false =>
  obtain ⟨n,rfl,rfl⟩:=hv;have:=fL.k (k:=(Sum.inl n:Key)) h
  rwa [show (Sum.inl n:Key)=Sum.inl (([n]:An).headD 0) from rfl,nY (f:=fun a:An=>(Sum.inl (a.headD 0):Key)) (k:=[n]) (fun e he q=>oK ((ok e he).resolve_left (by decide)) ⟨n,rfl⟩ q)] at this
theorem mJ {b:Bool}{H:Hp}{d:Addr}{l:List (An×V)}{v u:V}{a:An}(h:H d=some (fA b l)) (ok:∀ e∈l,VA b e.1) (hv:dG b H v a) (hz:l.length < sizeLine):iT H d v u (aJ H d (fA b (bF l a u))):=by
 cases b with
 |true =>
  obtain ⟨p,rfl,hp⟩:=hv;have:=iT.t (k:=a.map Sum.inl) (v:=u) h (show H p=some (.tup ((a.map Sum.inl:List Key).map kV)) by rw [qC];exact hp) (by rw [af];exact hz)
  rwa [vA (f:=fun a:An=>(a.map Sum.inl:List Key)) (fun e _ q=>nK q)] at this
 |false =>
  obtain ⟨n,rfl,rfl⟩:=hv;have:=iT.k (k:=(Sum.inl n:Key)) (v:=u) h (by rw [af];exact hz)
  rwa [show (Sum.inl n:Key)=Sum.inl (([n]:An).headD 0) from rfl,vA (f:=fun a:An=>(Sum.inl (a.headD 0):Key)) (k:=[n]) (fun e he q=>oK ((ok e he).resolve_left (by decide)) ⟨n,rfl⟩ q)] at this
theorem kQ {b:Bool}{H:Hp}{d:Addr}{l:List (An×V)}(h:H d=some (fA b l)):IsD H d:=by
 cases b with
 |true=>exact .inr ⟨_,.inl h⟩
 |false=>exact .inl ⟨_,.inl h⟩
def PrA (b:Bool) (H:Hp) (v:V) (e:An×V):Prop:=∃ t u,v= .ref t/\H t=some (.tup [u,e.2])/\dG b H u e.1
theorem lO {b:Bool}{H:Hp}{d:Addr}{ys:List V}{es:List (An×V)}(tw:bX (PrA b H) ys es) (nd:(es.map (·.1)).Nodup) (hz:es.length < sizeLine) (hd:H d=none) (ok:∀ e∈es,VA b e.1):kP H d ys fun i=>fA b (es.take i):=fun i hi=>by
 have l:=tw.length;obtain ⟨e,he,t,u,e1,h1,h2⟩:=tw.at (aj hi);have li:i < es.length:=by omega
 have n:bZ (es.take i) e.1=none:=by
  cases q:bZ (es.take i) e.1 with
  |none=>rfl
  |some v =>
   exfalso;have s:es.map (·.1)=(es.take i).map (·.1)++(es.drop i).map (·.1):=by rw [<- bj,kw]
   rw [s] at nd;have dj:=(sj.mp nd).2.2;refine dj _ (aA5 q) _ ?_ rfl;rw [ql li,ar];have:es[i]=e:=by
    have:=aj li;rw [he] at this;exact (da this).symm
   rw [this];exact au
 have ts:TS H (aJ H d (fA b (es.take i))):=fun c xs q=>by rw [aE (aH q hd)];exact q
 have:=mJ (u:=e.2) (H:=aJ H d (fA b (es.take i))) (d:=d) aC (fun x hx=>ok x (gw hx)) (h2.ts ts) (by rw [cq];omega);rw [lP _ n,aB6] at this;refine ⟨t,u,e.2,by rw [aj hi,e1],h1,?_⟩
 dsimp only
 rw [aU he];exact this
theorem lL (b:Bool):fA b []= .dK []\/fA b []= .dT []:=by cases b;exact .inl rfl;exact .inr rfl
def qP (b:Bool) (H:Hp) (d:Addr) (es:List En):Prop:=∃ l:List (An×V),H d=some (fA b l)/\(∀ e∈l,VA b e.1)/\∀ a,xV H (bZ l a) (iK es a)
theorem qP.keep {H H':Hp}(s:TS H H') {d:Addr}(hd:∀ o,H d=some o->H' d=some o) {b:Bool}{es:List En}(h:qP b H d es):qP b H' d es:=let ⟨l,a,v,k⟩:=h;⟨l,hd _ a,v,fun x=>(k x).ts s⟩
theorem qP.same {H H':Hp}(s:aT H H') {b:Bool}{d:Addr}{es:List En}(h:qP b H d es):qP b H' d es:=h.keep (TS.of s) fun _ e=>s _ _ e
theorem qP.get {H:Hp}{b:Bool}{d:Addr}{es:List En}{v:V}{a:List Int}(h:qP b H d es) (hv:dG b H v a):∃ o,fL H d v o/\xV H o (iK es a):=let ⟨_,e,k,o⟩:=h;⟨_,fS e k hv,o a⟩
theorem mQ {b:Bool}{H:Hp}:∀ {us:List V}{es:List En},bX (EnA b H) us es->∃ l:List (An×V),bX (PrA b H) us l/\l.map (·.1)=es.map (·.1)/\(∀ e∈l,VA b e.1)/\∀ a,xV H (bZ l a) (iK es a)
 |[],[],_=>⟨[],trivial,rfl,fun _ z=>absurd z bh,fun _=>trivial⟩
 |v :: us,e :: es,⟨⟨p,x,q,e1,h1,h2,h3⟩,t⟩=>by
  obtain ⟨l,a1,a2,a3,a4⟩:=mQ t;refine ⟨(e.1,.ref q) :: l,⟨⟨p,x,e1,h1,h2⟩,a1⟩,by rw [ar,ar,a2],fun y hy=>?_,fun a=>?_⟩
  ·rcases bi.mp hy with z | z
   ·rw [z];exact h2.va
   ·exact a3 y z
  ·by_cases c:e.1=a
   ·rw [bL c,pQ c];exact ⟨q,rfl,h3⟩
   ·rw [bC c,nW c];exact a4 a
 |[],_ :: _,z=>z.elim
 |_ :: _,[],z=>z.elim
theorem aC2 {H:Hp}{us:List V}{es:List En}(hz:us.length < sizeLine) (nd:(es.map (·.1)).Nodup) {b:Bool}(tw:bX (EnA b H) us es) :
  ∃ o:Nat->HO,(o 0= .dK []\/o 0= .dT [])/\∀ d,H d=none->kP H d us o/\qP b (aJ H d (o us.length)) d es/\aT H (aJ H d (o us.length)):=by
 obtain ⟨l,a1,a2,a3,a4⟩:=mQ tw;have ln:=a1.length;refine ⟨fun i=>fA b (l.take i),lL b,fun d hd=>⟨lO a1 (by rw [a2];exact nd) (by omega) hd a3,⟨l,?_,a3,fun a=>(a4 a).ts (.of (aB hd _))⟩,aB hd _⟩⟩
 dsimp only
 rw [ln,be];exact aC
def jP (f s:Int×Int):Int×Int:=aI (f.1 * s.1) (f.2 * s.2)
def bL8 (s l:Int×Int):Int×Int:=aI (s.1 * l.2 - l.1 * s.2) (s.2 * l.2)
def vB (s t:Int×Int):Int×Int:=aI (s.1 * t.2) (s.2 * t.1)
def ltF (u v:Int×Int):Bool:=decide (u.1 * v.2 < v.1 * u.2)
def dS (a:List Int):Prop:=a.length<=5/\∀ n∈a,gK n
structure uI (s:Int×Int):Prop where
 a:0<=s.1
 a2:s.1 < 2 ^ 37
 b:1<=s.2
 b2:s.2 < 2 ^ 37
structure mV (f:Int×Int):Prop where
 a:0<=f.1
 a2:f.1 < 2 ^ 40
 b:1<=f.2
 b2:f.2 < 2 ^ 40
def bS8 (c:Int) (es:List En):Prop:=∀ e∈es,∃ w,1<=w/\w<=c/\e.2=aI w c
def Ups (as:List (List Int)):Prop:=as.Pairwise fun a b=>HT.lexLt a b=true
structure dE (c:Int) (es:List En):Prop where
 nd:(es.map (·.1)).Nodup
 l1:1<=es.length
 l2:es.length<=12
 c1:1<=c
 c2:c < 2 ^ 37
 sh:bS8 c es
 an:∀ e∈es,dS e.1
 sm:∃ ws:List Int,es.map (·.2)=ws.map (fun w=>aI w c)/\ws.sum=c/\∀ w∈ws,1<=w
 up:Ups (es.map (·.1))
theorem vQ {a b A B:Int}(a0:0<=a) (a1:a < A) (b0:0<=b) (b1:b < B):0<=a * b/\a * b < A * B:=by
 refine ⟨cv a0 b0,?_⟩;exact gj (gf (qp b1) a0) (iw a1 (by omega))
theorem dD {a b:Int}(ha:1<=a) (hb:1<=b):1<=a * b:=ow (by omega:0 < a) (by omega:0 < b)
theorem nP {a b N:Int}(ha:0<=a) (h1:a < N) (hb:1<=b) (h2:b < N):0<=(aI a b).1/\(aI a b).1 < N/\1<=(aI a b).2/\(aI a b).2 < N :=
 ⟨cR ha,gj (uB ha hb) h1,cK hb,gj (aA3 hb) h2⟩
theorem cU {a b:Int}(ha:0<=a) (hb:1<=b):(aI a b).1 * b=a * (aI a b).2:=gY ha hb
theorem aR1 {w c:Int}(hw:0<=w) (h1:w<=c) (c1:1<=c) (c2:c < 2 ^ 37):uI (aI w c):=by
 have:=nP (N:=2 ^ 37) hw (by omega) c1 c2;exact ⟨this.1,this.2.1,this.2.2.1,this.2.2.2⟩
theorem dE.at {c:Int}{es:List En}(T:dE c es) {e:En}(h:e∈es):uI e.2/\1<=e.2.1:=by
 obtain ⟨w,w1,w2,ew⟩:=T.sh e h;rw [ew];exact ⟨aR1 (by omega) w2 T.c1 T.c2,wA w1 T.c1⟩
theorem bF1 {f s:Int×Int}(F:mV f) (S:uI s):0<=(jP f s).1/\(jP f s).1 < 2 ^ 77/\1<=(jP f s).2/\(jP f s).2 < 2 ^ 77:=by
 have e1:=vQ F.a F.a2 S.a S.a2;have e2:=vQ (by have:=F.b;omega) F.b2 (by have:=S.b;omega) S.b2;have e3:=dD F.b S.b;exact nP (N:=2 ^ 77) e1.1 (by omega) e3 (by omega)
theorem aT4 {c1 c2:Int}{f:Int×Int}(o1:1<=c1) (o2:c1 < 2 ^ 37) (p1:1<=c2) (p2:c2 < 2 ^ 37) (F:mV f):1<=c1 * (f.2 * c2)/\c1 * (f.2 * c2) < 2 ^ 118:=by
 have e:=vQ (by have:=F.b;omega) F.b2 (by omega:0<=c2) p2;have e2:=vQ (by omega:0<=c1) o2 e.1 e.2;exact ⟨dD o1 (dD F.b p1),by omega⟩
theorem bI8 {g:Int×Int}{a b:Int}(g1:1<=g.2) (ha:0<=a) (hb:1<=b):ltF g (aI a b)=ltF g (a,b):=by
 have r:=cU ha hb;have l2:1<=(aI a b).2:=cK hb;unfold ltF;rw [eu];show g.1 * (aI a b).2 < (aI a b).1 * g.2↔g.1 * b < a * g.2;generalize (aI a b).1=x at *;generalize (aI a b).2=y at *
 constructor
 ·intro h;have h1:=iw h (by omega:0 < b);refine qd (a:=y) ?_ (by omega);have e1:g.1 * y * b=g.1 * b * y:=by grind
  have e2:x * g.2 * b=a * g.2 * y:=by grind
  omega
 ·intro h;have h1:=iw h (by omega:0 < y);refine qd (a:=b) ?_ (by omega);have e1:g.1 * y * b=g.1 * b * y:=by grind
  have e2:x * g.2 * b=a * g.2 * y:=by grind
  omega
structure bS5 (g:Int×Int):Prop where
 a:0<=g.1
 a2:g.1 < 2 ^ 75
 b:1<=g.2
 b2:g.2 < 2 ^ 75
theorem bJ8 {s t:Int×Int}(S:uI s) (T:uI t) (t1:1<=t.1):bS5 (vB s t):=by
 have e1:=vQ S.a S.a2 (by have:=T.b;omega) T.b2;have e2:=vQ (by have:=S.b;omega) S.b2 T.a T.a2;have e3:=dD S.b t1;have:=nP (N:=2 ^ 75) e1.1 (by omega) e3 (by omega);exact ⟨this.1,this.2.1,this.2.2.1,this.2.2.2⟩
theorem aP7 {w c:Int}(h0:0<=w) (h1:1<=c):aI (1 * (aI w c).1) (1 * (aI w c).2)=aI w c:=by
 rw [zd,zd];have:=aX6 h0 h1;exact xw this.1 this.2
def spLessF:Sp:=fun vs H Q _=>∃ (p q:Addr) (a b c d:Int),vs=[.ref p,.ref q]/\cC H p a b/\cC H q c d/\jR a/\jR b/\jR c/\jR d/\Q (.bl (decide (a * d < c * b))) H
structure aE6 (b:Bool) (H:Hp) (t1 t2 p:Addr) (c1 c2:Int) (es1 es2:List En) (f:Int×Int):Prop where
 h1:dO b H t1 es1
 h2:dO b H t2 es2
 hf:cC H p f.1 f.2
 o1:dE c1 es1
 o2:dE c2 es2
 of:mV f
theorem aE6.ts {b:Bool}{H H':Hp}{t1 t2 p:Addr}{c1 c2:Int}{es1 es2:List En}{f:Int×Int}(t:TS H H') (h:aE6 b H t1 t2 p c1 c2 es1 es2 f):aE6 b H' t1 t2 p c1 c2 es1 es2 f :=
 ⟨h.h1.ts t,h.h2.ts t,t _ _ h.hf,h.o1,h.o2,h.of⟩
def spPlus:Sp:=fun vs H Q _=>∃ (p q:Addr) (u e:Int×Int),vs=[.ref p,.ref q]/\cC H p u.1 u.2/\cC H q e.1 e.2/\kJ u/\kJ e/\∀ r,H r=none->Q (.ref r) (aJ H r (.tup [.int (iP u e).1,.int (iP u e).2]))
structure gN (b:Bool) (H:Hp) (r:Addr) (us:List V) (as:List (List Int)):Prop where
 h:H r=some (.lst us)
 tw:bX (dG b H) us as
 nd:as.Nodup
 ok:∀ a∈as,dS a
 up:Ups as
def spPool:Sp:=fun vs H Q _=>∃ d l m,vs=[.ref d,.int m]/\cD H d l/\1<=m/\m<=12/\∀ b H' r us as,gN b H' r us as->as.length=m.toNat->H r=none->cD H' d l->bP d l H H'->Q (.ref r) H'
def pB (ws:List Int):List (Int×Int):=ws.map fun w=>aI w ws.sum
def spShares:Sp:=fun vs H Q _=>∃ (b:Bool) (p q:Addr) (us:List V) (as:List (List Int)) (ws:List Int),vs=[.ref p,.ref q]/\gN b H p us as/\H q=some (.lst (ws.map V.int))/\ws.length=as.length/\1<=ws.length/\ws.length<=12/\(∀ w∈ws,1<=w/\w<=10 ^ 10) /\
 ∀ H' t es c,aT H H'->dO b H' t es->dE c es->Q (.ref t) H'
def spTwo:Sp:=fun vs H Q _=>∃ d l r wide b us as,vs=[.ref d,.ref r,.int wide]/\cD H d l/\gN b H r us as/\r≠l/\1<=as.length/\as.length<=12/\1<=wide/\wide<=10 ^ 10 /\
 ∀ H' p t1 t2 es1 es2 c1 c2,H' p=some (.lst [.ref t1,.ref t2])->dO b H' t1 es1->dO b H' t2 es2->dE c1 es1->dE c2 es2->cD H' d l->bP d l H H'->Q (.ref p) H'
def spFac:Sp:=fun vs H Q _=>∃ d l b t1 t2 c1 c2 es1 es2,vs=[.ref d,.ref t1,.ref t2]/\cD H d l/\dO b H t1 es1/\dO b H t2 es2/\dE c1 es1/\dE c2 es2/\∀ H' p f,cC H' p f.1 f.2->mV f->cD H' d l->bP d l H H'->Q (.ref p) H'
theorem uI.b1 {s:Int×Int}(h:uI s):jR s.1/\jR s.2:=⟨⟨h.a,by have:=h.a2;omega⟩,by have:=h.b;omega,by have:=h.b2;omega⟩
theorem mV.b1 {s:Int×Int}(h:mV s):jR s.1/\jR s.2:=⟨⟨h.a,by have:=h.a2;omega⟩,by have:=h.b;omega,by have:=h.b2;omega⟩
theorem dO.at {b:Bool}{H:Hp}{us:List V}{es:List En}(h:bX (EnA b H) us es) {i:Nat}{v:V}(hv:us[i]?=some v):∃ e,es[i]?=some e/\e∈es/\EnA b H v e:=by
 obtain ⟨e,he,r⟩:=h.at hv;exact ⟨e,he,bo he,r⟩
theorem cV {H H2:Hp}{d l a:Addr}(D2:cD H2 d l) (o:bP d l H H2) (h:H2 a=none):H a=none:=by
 cases q:H a with
 |none=>rfl
 |some u =>
  exfalso;obtain ⟨sd,n,ls,z⟩:=D2
  by_cases h1:a=d
  ·rw [h1,z.dc] at h;cases h
  ·by_cases h2:a=l
   ·rw [h2,z.lc] at h;cases h
   ·rw [o a u q h1 h2] at h;cases h
theorem vL {H:Hp}{d l r:Addr}{us:List V}(D:cD H d l) (h:H r=some (.lst us)):r≠d:=by
 obtain ⟨sd,n,ls,z⟩:=D;exact cF h z.dc (by intro z;cases z)
theorem bE {H:Hp}{d l r:Addr}(D:cD H d l) (h:H r=none):r≠d/\r≠l:=by
 obtain ⟨sd,n,ls,z⟩:=D;exact ⟨(aH z.dc h).symm,(aH z.lc h).symm⟩
theorem gN.out {b:Bool}{H H':Hp}{d l r:Addr}{us:List V}{as:List (List Int)}(P:gN b H r us as) (D:cD H d l) (nl:r≠l) (o:bP d l H H'):gN b H' r us as :=
 ⟨o _ _ P.h (vL D P.h) nl,P.tw.mono fun _ _ z=>z.ts (TS.out D o),P.nd,P.ok,P.up⟩
theorem gN.same {b:Bool}{H H':Hp}{r:Addr}{us:List V}{as:List (List Int)}(P:gN b H r us as) (s:aT H H'):gN b H' r us as :=
 ⟨s _ _ P.h,P.tw.mono fun _ _ z=>z.ts (.of s),P.nd,P.ok,P.up⟩
theorem oP {H:Hp}:∀ ns:List Int,bX (dG false H) (ns.map V.int) (ns.map fun n=>[n])
 |[]=>trivial
 |n :: r=>⟨⟨n,rfl,rfl⟩,oP r⟩
def cH (b:Bool) (a:List Int):PyData:=if b then .tuple (a.map PyData.int) else .int (a.headD 0)
theorem eV {K:W.Frag}{H:Hp}:∀ {b:Bool}{v:V}{a:List Int},dG b H v a->eI K H (cH b a) v
 |true,_,a,⟨p,rfl,h⟩=>⟨p,_,rfl,aV.of h,sS a⟩
 |false,_,_,⟨n,rfl,rfl⟩=>rfl
theorem lI (b:Bool):∀ as:List (List Int),PyData.canLayAll0 (as.map (cH b))=true/\PyData.depthAll (as.map (cH b))<=1
 |[]=>⟨rfl,bz _⟩
 |a :: r=>by
  obtain ⟨h1,h2⟩:=lI b r
  cases b
  ·exact ⟨by simp [PyData.canLayAll0,cH,PyData.canLay0] at h1 ⊢;exact h1,by simp [PyData.depthAll,cH,PyData.depth] at h2 ⊢;exact h2⟩
  ·refine ⟨by simp [PyData.canLayAll0,cH,PyData.canLay0,pO] at h1 ⊢;exact h1,?_⟩;simp only [List.map_cons,PyData.depthAll,cH,PyData.depth,jX,if_true] at h2 ⊢;omega
theorem kO (b:Bool) (as:List (List Int)):SeqAt.shaped (.list (as.map (cH b)))=true:=by
 obtain ⟨h1,h2⟩:=lI b as;simp only [SeqAt.shaped,PyData.canLay0,h1,Bool.true_and];exact am (by simp only [PyData.depth];omega)
theorem iA {ds:List PyData}:Spec.same (.list ds) (.list [])=decide (ds=[]):=by
 cases ds <;> simp [Spec.same,Spec.sameAll]
theorem jC {ds:List PyData}:SeqAt.noMix (.list ds) (.list [])=true:=by
 cases ds <;> simp [SeqAt.noMix,SeqAt.noMixAll]
theorem iG:SeqAt.shaped (.list [])=true:=by decide +kernel
theorem qA {K:W.Frag}{b:Bool}{H:Hp}{r:Addr}{us:List V}{as:List (List Int)}(h:H r=some (.lst us)) (tw:bX (dG b H) us as):eI K H (.list (as.map (cH b))) (.ref r) :=
 ⟨r,us,rfl,bK.of h,tw.rep fun _ _ z=>eV z⟩
theorem pP (a:List Int):∀ as:List (List Int),(Spec.countIn (cH true a) (as.map (cH true))≠0)↔a∈as
 |[]=>by simp [Spec.countIn]
 |x :: r=>by
  have ih:=pP a r;have nn:0<=Spec.countIn (cH true a) (r.map (cH true)):=ya _ _;rw [ar,Spec.countIn,bi, <- ih];have e:Spec.same (cH true x) (cH true a)=decide (x=a):=by
   simp only [cH,if_true,Spec.same];exact mL x a
  rw [e]
  by_cases c:x=a
  ·rw [bb (am c)]
   constructor
   ·intro _;exact .inl c.symm
   ·intro _;omega
  ·rw [ao (by simp [c])]
   constructor
   ·intro h;exact .inr (by omega)
   ·rintro (h | h)
    ·exact absurd h.symm c
    ·omega
theorem fJ {H H2:Hp}{d l lf:Addr}{o:HO}(h:bP d l H H2) (hf:H lf=none):bP d l H (aJ H2 lf o):=fun b u e h1 h2=>by
 rw [aE (aH e hf)];exact h b u e h1 h2
theorem kI {α: Type}{l:List α}{a:α}(nd:l.Nodup) (h:a∉l):(l++[a]).Nodup:=by
 rw [sj];refine ⟨nd,by simp,fun x hx y hy z=>?_⟩;have:y=a:=by simpa using hy
 subst this;exact h (z ▸ hx)
theorem aF9 (ns:List Int) (as:List (List Int)):∀ e∈as.map (cH true),SeqAt.noMix e (cH true ns)=true:=fun e he=>by
 obtain ⟨a,_,rfl⟩:=ap.mp he;simp only [cH,if_true,SeqAt.noMix];exact kL _ _
theorem yQ:∀ {ws:List Int},(∀ w∈ws,1<=w/\w<=10 ^ 10)->(ws.length:Int)<=ws.sum/\ws.sum<=ws.length * 10 ^ 10/\∀ w∈ws,w<=ws.sum
 |[],_=>⟨by simp,by simp,fun _ h=>absurd h bh⟩
 |w :: r,h=>by
  have hw:=h w au;obtain ⟨a,b,c⟩:=yQ fun x hx=>h x (ba _ hx)
  rw [ed,dy];refine ⟨by omega,by omega,fun x hx=>?_⟩;rcases bi.mp hx with rfl | hx
  ·omega
  ·have:=c x hx;omega
theorem bD2 {as:List (List Int)}{ws:List Int}(nd:as.Nodup) (up:Ups as) (ok:∀ a∈as,dS a) (hl:ws.length=as.length) (l1:1<=ws.length) (l2:ws.length<=12) (hw:∀ w∈ws,1<=w/\w<=10 ^ 10):dE ws.sum (as.zip (pB ws)):=by
 obtain ⟨s1,s2,s3⟩:=yQ hw;have ln:(pB ws).length=as.length:=by unfold pB;rw [af];exact hl
 have zl:(as.zip (pB ws)).length=ws.length:=by rw [List.length_zip];omega
 refine ⟨by rw [List.map_fst_zip (by omega)];exact nd,by omega,by omega,by omega,by omega,fun e he=>?_,fun e he=>ok _ (qk he).1,⟨ws,by rw [List.map_snd_zip (by omega)];rfl,rfl,fun w hw'=>(hw w hw').1⟩,by rw [List.map_fst_zip (by omega)];exact up⟩;have:=(qk (a:=e.1) (b:=e.2) he).2;unfold pB at this;obtain ⟨w,mw,ew⟩:=ap.mp this;exact ⟨w,(hw w mw).1,s3 w mw,ew.symm⟩
structure mD (b:Bool) (H:Hp) (X:List Addr) (t pa pw:Addr) (us:List V) (as:List (List Int)) (ws:List Int):Prop where
 h:H t=some (.tup [.ref pa,.ref pw])
 pl:gN b H pa us as
 hw:H pw=some (.lst (ws.map V.int))
 wl:ws.length=as.length
 w1:1<=ws.length
 w12:ws.length<=12
 wb:∀ w∈ws,1<=w/\w<=10 ^ 10
 na:pa∉X
 nw:pw∉X
def cO (b:Bool) (H:Hp) (X:List Addr) (v:V):Prop:=∃ t pa pw us as ws,v= .ref t/\mD b H X t pa pw us as ws
theorem mD.same {b:Bool}{H H':Hp}{X:List Addr}{t pa pw:Addr}{us:List V}{as:List (List Int)}{ws:List Int}(P:mD b H X t pa pw us as ws) (s:aT H H'):mD b H' X t pa pw us as ws :=
 ⟨s _ _ P.h,P.pl.same s,s _ _ P.hw,P.wl,P.w1,P.w12,P.wb,P.na,P.nw⟩
theorem cO.same {b:Bool}{H H':Hp}{X:List Addr}{v:V}(P:cO b H X v) (s:aT H H'):cO b H' X v :=
 let ⟨t,pa,pw,us,as,ws,e,p⟩:=P;⟨t,pa,pw,us,as,ws,e,p.same s⟩
theorem cO.out {b:Bool}{H H':Hp}{X:List Addr}{d l:Addr}{v:V}(P:cO b H X v) (D:cD H d l) (m:l∈X) (o:bP d l H H'):cO b H' X v :=
 let ⟨t,pa,pw,us,as,ws,e,p⟩:=P
 ⟨t,pa,pw,us,as,ws,e,TS.out D o _ _ p.h,p.pl.out D (fun z=>p.na (z ▸ m)) o,o _ _ p.hw (vL D p.hw) (fun z=>p.nw (z ▸ m)),p.wl,p.w1,p.w12,p.wb,p.na,p.nw⟩
theorem cO.lst {b:Bool}{H:Hp}{X:List Addr}{p:Addr}{xs ys:List V}{v:V}(P:cO b H X v) (m:p∈X) (h:H p=some (.lst xs)):cO b (aJ H p (.lst ys)) X v :=
 let ⟨t,pa,pw,us,as,ws,e,q⟩:=P
 have ts:=TS.lst (ys:=ys) h
 ⟨t,pa,pw,us,as,ws,e,ts _ _ q.h,⟨by rw [aE (show pa≠p from fun z=>q.na (z ▸ m))];exact q.pl.h,q.pl.tw.mono fun _ _ z=>z.ts ts,q.pl.nd,q.pl.ok,q.pl.up⟩,by rw [aE (show pw≠p from fun z=>q.nw (z ▸ m))];exact q.hw,q.wl,q.w1,q.w12,q.wb,q.na,q.nw⟩
theorem cO.more {b:Bool}{H:Hp}{X:List Addr}{p:Addr}{v:V}(P:cO b H X v) (h:H p=none):cO b H (p :: X) v :=
 let ⟨t,pa,pw,us,as,ws,e,q⟩:=P
 ⟨t,pa,pw,us,as,ws,e,q.h,q.pl,q.hw,q.wl,q.w1,q.w12,q.wb,fun z=>by
  rcases bi.mp z with z | z
  ·rw [<- z,q.pl.h] at h;cases h
  ·exact q.na z,fun z=>by
  rcases bi.mp z with z | z
  ·rw [<- z,q.hw] at h;cases h
  ·exact q.nw z⟩
theorem cO.less {b:Bool}{H:Hp}{X Y:List Addr}{v:V}(P:cO b H X v) (h:∀ x∈Y,x∈X):cO b H Y v :=
 let ⟨t,pa,pw,us,as,ws,e,q⟩:=P
 ⟨t,pa,pw,us,as,ws,e,q.h,q.pl,q.hw,q.wl,q.w1,q.w12,q.wb,fun z=>q.na (h _ z),fun z=>q.nw (h _ z)⟩
def oR (b:Bool) (H:Hp) (zs:List V):Prop:=∀ v∈zs,∃ t es c,v= .ref t/\dO b H t es/\dE c es
theorem oR.ts {b:Bool}{H H':Hp}{zs:List V}(T:oR b H zs) (s:TS H H'):oR b H' zs:=fun v hv=>let ⟨t,es,c,e,h,o⟩:=T v hv;⟨t,es,c,e,h.ts s,o⟩
theorem oR.snoc {b:Bool}{H:Hp}{zs:List V}{t:Addr}{es:List En}{c:Int}(T:oR b H zs) (h:dO b H t es) (o:dE c es):oR b H (zs++[.ref t]):=fun v hv=>by
 rcases cf.mp hv with q | q
 ·exact T v q
 ·have:v= .ref t:=by simpa using q
  exact ⟨t,es,c,this,h,o⟩
theorem bO0 {α: Type}{zs:List α}(h:zs.length=2):∃ x y,zs=[x,y]:=by
 match zs,h with
 |[x,y],_=>exact ⟨x,y,rfl⟩
theorem mS {α: Type}{R:V->α->Prop}:∀ {us:List V}{as:List α}(i:Nat),bX R us as->bX R (us.eraseIdx i) (as.eraseIdx i)
 |[],[],_,_=>trivial
 |_ :: _,_ :: _,0,h=>h.2
 |_ :: _,_ :: _,i+1,h=>⟨h.1,mS i h.2⟩
 |[],_ :: _,_,z=>z.elim
 |_ :: _,[],_,z=>z.elim
theorem rA {α β: Type}(f:α->β):∀ (l:List α) (i:Nat),(l.map f).eraseIdx i=(l.eraseIdx i).map f
 |[],_=>rfl
 |_ :: _,0=>rfl
 |_ :: r,i+1=>by rw [ar,io,io,ar,rA f r i]
theorem aI2 {α: Type}{l:List α}{i:Nat}{x y:α}(h:y∈l.set i x):y∈l\/y=x:=by
 rcases List.mem_or_eq_of_mem_set h with q | q
 ·exact .inl q
 ·exact .inr q
theorem qE {H:Hp}{d l p:Addr}{xs ys:List V}(D:cD H d l) (h:H p=some (.lst xs)) (n:p≠l):cD (aJ H p (.lst ys)) d l:=by
 obtain ⟨sd,m,ls,q⟩:=D;exact ⟨sd,m,ls,by rw [aE (cF q.dc h (by intro z;cases z))];exact q.dc,by rw [aE n.symm];exact q.lc,q.s0,q.s1,q.n0,q.l0⟩
def jV (H:Hp) (v:V) (s:(Int×Int)×(Int×Int)):Prop:=∃ t p q,v= .ref t/\H t=some (.tup [.ref p,.ref q])/\cC H p s.1.1 s.1.2/\cC H q s.2.1 s.2.2/\uI s.1/\uI s.2/\1<=s.2.1
theorem jV.ts {H H':Hp}(t:TS H H') {v:V}{s:(Int×Int)×(Int×Int)}(h:jV H v s):jV H' v s :=
 let ⟨a,p,q,e,h1,h2,h3,r⟩:=h;⟨a,p,q,e,t _ _ h1,t _ _ h2,t _ _ h3,r⟩
def prD (s:(Int×Int)×(Int×Int)):PyData:= .tuple [rJ s.1.1 s.1.2,rJ s.2.1 s.2.2]
theorem bK1 {K:W.Frag}{H:Hp}{v:V}{s:(Int×Int)×(Int×Int)}(h:jV H v s):eI K H (prD s) v:=by
 obtain ⟨t,p,q,rfl,h1,h2,h3,_⟩:=h;exact ⟨t,_,rfl,aV.of h1,_,_,rfl,vG h2,_,_,rfl,vG h3,rfl⟩
theorem aJ0:∀ ss:List ((Int×Int)×(Int×Int)),PyData.canLayAll0 (ss.map prD)=true/\PyData.depthAll (ss.map prD)<=2
 |[]=>⟨rfl,bz _⟩
 |a :: r=>by
  obtain ⟨h1,h2⟩:=aJ0 r;refine ⟨by simp [PyData.canLayAll0,prD,rJ,PyData.canLay0] at h1 ⊢;exact h1,?_⟩;have e:(prD a).depth<=2:=by simp [prD,rJ,PyData.depth,PyData.depthAll]
  simp only [List.map_cons,PyData.depthAll] at h2 ⊢;omega
theorem aF4 (ss:List ((Int×Int)×(Int×Int))):SeqAt.shaped (.list (ss.map prD))=true:=by
 obtain ⟨h1,h2⟩:=aJ0 ss;simp only [SeqAt.shaped,PyData.canLay0,h1,Bool.true_and];exact am (by simp only [PyData.depth];omega)
theorem aW9 {K:W.Frag}{H:Hp}{r:Addr}{zs:List V}{ss:List ((Int×Int)×(Int×Int))}(h:H r=some (.lst zs)) (tw:bX (jV H) zs ss):eI K H (.list (ss.map prD)) (.ref r) :=
 ⟨r,zs,rfl,bK.of h,tw.rep fun _ _ z=>bK1 z⟩
theorem tN {a b:Int}(ha:0<=a) (h1:a < 2 ^ 40) (hb:1<=b) (h2:b < 2 ^ 40):mV (aI a b):=by
 have:=nP (N:=2 ^ 40) ha h1 hb h2;exact ⟨this.1,this.2.1,this.2.2.1,this.2.2.2⟩
theorem bM5 (n m:Int):HT.lexLt [n] [m]=decide (n < m):=by
 rw [HT.lexLt_cons]
 split
 ·rename_i h
  subst h;simp [HT.lexLt_nil_nil]
 ·rfl
theorem bC0 {K:W.Frag}{H:Hp}{Q:VK}{x y:V}{a c:List Int}:∀ {b:Bool},dG b H x a->dG b H y c->Q (.bl (HT.lexLt a c)) H->bO2 K x y H Q
 |false,⟨n,e1,e2⟩,⟨m,e3,e4⟩,q=>by
  rw [e1,e3,bM5] at q;exact .inl ⟨n,m,e2,e4,q⟩
 |true,⟨p,e1,h1⟩,⟨p',e2,h2⟩,q=> .inr ⟨p,p',a,c,e1,e2,aV.of h1,aV.of h2,q⟩
theorem wV {ns:List Int}(h:ns.Pairwise (· <= ·)) (nd:ns.Nodup):Ups (ns.map fun n=>[n]):=by
 unfold Ups;rw [xf];have:=sR h nd;exact this.imp fun {a b} q=>by rw [bM5];exact am q
theorem wW {H:Hp}:∀ {zs:List V}{as:List (List Int)},bX (dG true H) zs as->∃ bs:List Addr,zs=bs.map V.ref/\dX H bs as
 |[],[],_=>⟨[],rfl,rfl,fun i b ns h=>by simp at h⟩
 |v :: zs,a :: as,⟨⟨p,e,h⟩,t⟩=>by
  obtain ⟨bs,e2,l,k⟩:=wW t;refine ⟨p :: bs,by rw [e,e2];rfl,by simp [l],fun i b ns h1 h2=>?_⟩
  cases i with
  |zero =>
   simp at h1 h2;subst h1 h2;exact h
  |succ i=>exact k i b ns (by simpa using h1) (by simpa using h2)
theorem uM {H:Hp}:∀ {bs:List Addr}{as:List (List Int)},dX H bs as->bX (dG true H) (bs.map V.ref) as
 |[],[],_=>trivial
 |[],_ :: _,⟨l,_⟩=>by simp at l
 |_ :: _,[],⟨l,_⟩=>by simp at l
 |b :: bs,a :: as,⟨l,k⟩=>⟨⟨b,rfl,k 0 b a rfl rfl⟩,uM ⟨by simpa using l,fun i x y h1 h2=>k (i+1) x y (by simpa using h1) (by simpa using h2)⟩⟩
theorem qX {H:Hp}:∀ {zs:List V}{as:List (List Int)},bX (dG false H) zs as->∃ ns:List Int,zs=ns.map V.int/\as=ns.map fun n=>[n]
 |[],[],_=>⟨[],rfl,rfl⟩
 |v :: zs,a :: as,⟨⟨n,e,h⟩,t⟩=>by
  obtain ⟨ns,e2,e3⟩:=qX t;exact ⟨n :: ns,by rw [h,e2];rfl,by rw [e,e3];rfl⟩
theorem dX.ts {H H':Hp}(s:TS H H') {bs:List Addr}{as:List (List Int)}(h:dX H bs as):dX H' bs as:=⟨h.1,fun i b ns h1 h2=>s _ _ (h.2 i b ns h1 h2)⟩
theorem qO {ns:List Int}(h:(ns.map fun n=>[n]).Nodup):ns.Nodup:=by
 rw [ww,xf] at h;rw [ww];exact h.imp fun z q=>z (by rw [q])
def aQ7 (K:W.Frag):List V->Hp->VK->Prop:=fun xs H Q =>
 (∃ (p:Addr) (ns:List Int),xs=[.ref p]/\bK K H p (ns.map V.int)/\ns.length < 64/\∀ ns':List Int,ns'.Perm ns->ns'.Pairwise (· <= ·)->∀ l,H l=none->Q (.ref l) (aJ H l (.lst (ns'.map V.int)))) \/
 ∃ (p:Addr) (bs:List Addr) (nss:List (List Int)),xs=[.ref p]/\bK K H p (bs.map V.ref)/\bs.length < 64/\dX H bs nss/\nss.Nodup /\
  ∀ (bs':List Addr) (nss':List (List Int)),bs'.Perm bs->nss'.Perm nss->dX H bs' nss'->nss'.Pairwise (fun a b=>HT.lexLt a b=true)->∀ l,H l=none->Q (.ref l) (aJ H l (.lst (bs'.map V.ref)))
theorem xO {X:Cx}{k:Nat}(hr:bW k X.A):cB X (.builtin "sorted") (aQ7 X.K):=aV4 zC (wN hr)
theorem bN9 {K:W.Frag}{H:Hp}{Q:VK}{l:Addr}{zs:List V}{as:List (List Int)}(hl:H l=some (.lst zs)) (nd:as.Nodup) (h64:zs.length < 64):∀ {b:Bool},bX (dG b H) zs as ->
  (∀ zs' as' l',as'.Perm as->Ups as'->H l'=none->bX (dG b (aJ H l' (.lst zs'))) zs' as'->Q (.ref l') (aJ H l' (.lst zs')))->aQ7 K [.ref l] H Q
 |false,tw,q=>by
  obtain ⟨ns,rfl,rfl⟩:=qX tw;refine .inl ⟨l,ns,rfl,bK.of hl,by simpa using h64,fun ns' p s l' hl'=>q _ (ns'.map fun n=>[n]) l' (p.map _) (wV s (p.symm.nodup (qO nd))) hl' (oP ns')⟩
 |true,tw,q=>by
  obtain ⟨bs,rfl,t⟩:=wW tw;exact .inr ⟨l,bs,as,rfl,bK.of hl,by simpa using h64,t,nd,fun bs' nss' p1 p2 t' s l' hl'=>q _ nss' l' p2 s hl' (uM (dX.ts (.of (aB hl' _)) t'))⟩
def ltB (as:List (List Int)) (k:Nat):Bool:=HT.lexLt (as.getD k []) (as.getD (k+1) [])
def kZ (as:List (List Int)):Bool:=(List.range (as.length - 1)).all (ltB as)
theorem vZ {as:List (List Int)}(h:Ups as):kZ as=true:=by
 unfold kZ;rw [dz];intro k hk;have hk:k < as.length - 1:=by simpa using hk
 have a:k < as.length:=by omega
 have b:k+1 < as.length:=by omega
 unfold ltB;rw [dC a,dC b];exact mi.mp h k (k+1) a b (by omega)
theorem aR4 (as:List (List Int)):((List.range (as.length - 1)).map (ltB as)).all id=kZ as:=by unfold kZ;rw [qw];rfl
theorem aA8 {as:List (List Int)}{i:Nat}{a:List Int}(h:as[i]?=some a):as.getD i []=a:=by simp [List.getD,h]
theorem aN5 {as:List (List Int)}{i:Nat}{a c:List Int}(h:as[i]?=some a) (k:as[i+1]?=some c):ltB as i=HT.lexLt a c:=by unfold ltB;rw [aA8 h,aA8 k]
section
variable {α: Type} [DecidableEq α]
abbrev Pl (α: Type):=Bool×α
structure Lay (α: Type) where
 o:α->Int
 p:α->Int
 l:α×α->Int
abbrev Ah (α: Type):=List (Pl α×Option (Pl α))
theorem oW {β: Type} [DecidableEq β]:∀ {l m:List β},l.Nodup->(∀ x∈l,x∈m)->l.length<=m.length
 |[],m,_,_=>bz _
 |x :: r,m,nd,hs=>by
  have hx:=hs x au;have nd:=ig.mp nd;have ih:=oW (m:=m.erase x) nd.2 fun y hy=>(List.mem_erase_of_ne fun e=>nd.1 (by rw [<- e];exact hy)).mpr (hs y (ba _ hy))
  rw [List.length_erase_of_mem hx] at ih;have:=List.length_pos_of_mem hx;rw [dy];omega
def dl:Bool->List α->α×α->Int
 |false,y :: x :: r,p=>(if p=(x,y) then 1 else 0)+dl true (x :: r) p
 |true,x :: y :: r,p=> -(if p=(x,y) then 1 else 0)+dl false (y :: r) p
 |_,_,_=>0
def bU0 (prs:List (α×α)) (l:α×α->Int) (x:α):Int:=((prs.filter fun e=>decide (e.1=x)).map l).sum
def bT1 (prs:List (α×α)) (l:α×α->Int) (y:α):Int:=((prs.filter fun e=>decide (e.2=y)).map l).sum
theorem uT {β: Type}{f:β->Int}:∀ {l:List β},(∀ x∈l,f x=0)->(l.map f).sum=0
 |[],_=>rfl
 |x :: r,h=>by rw [ar,ed,h x au,uT fun y hy=>h y (ba _ hy)];rfl
end
section
variable {α: Type} [DecidableEq α]
theorem aJ1 {β: Type}(q:β->Bool) (f:β->Int):∀ l:List β,((l.filter q).map f).sum=(l.map fun x=>if q x=true then f x else 0).sum
 |[]=>rfl
 |x :: r=>by
  rw [List.filter_cons,ar,ed, <- aJ1 q f r]
  by_cases c:q x=true
  ·rw [bb c,bb c,ar,ed]
  ·rw [ao c,ao c,vg]
theorem jH {β: Type}{f g:β->Int}:∀ {l:List β},(∀ x∈l,f x=g x)->(l.map f).sum=(l.map g).sum
 |[],_=>rfl
 |x :: r,h=>by rw [ar,ar,ed,ed,h x au,jH fun y hy=>h y (ba _ hy)]
end
end Mine
namespace L2
open PySem PySem.Spec PyProof.Rows
abbrev NKey:=Key ⊕ List Key
inductive gD:List Key->List Value->Prop where
 |nil:gD [] []
 |cons {k:Key}{v:Value}{ks:List Key}{vs:List Value}:eL k v=true->gD ks vs->gD (k :: ks) (v :: vs)
theorem gD.items {prog:Program}{w:World}:∀ {ks:List Key}{vs:List Value},gD ks vs->ItemsAre (bB prog w) ks vs
 |_,_,.nil=> .nil
 |_,_,.cons h r=> .cons h (gD.items r)
theorem gD.of {prog:Program}{w:World}:∀ {ks:List Key}{vs:List Value},ItemsAre (bB prog w) ks vs->gD ks vs
 |_,_,.nil=> .nil
 |_,_,.cons h r=> .cons h (gD.of r)
def lB (h:Heap) (ks:List Key) (a:Addr):Prop:=∃ o items n,h.get? a=some o/\o.cls= .type "tuple"/\o.data= .seq items n/\gD ks items.toList
theorem lB.key {prog:Program}{w:World}{h:Heap}{ks:List Key}{a:Addr}(t:lB h ks a):IsTupleKey (bB prog w) h ks a:=let ⟨o,i,n,a,b,c,d⟩:=t;⟨o,i,n,a,b,c,d.items⟩
def lT (h:Heap):NKey->Value->Prop
 |.inl k,v=>eL k v=true
 |.inr ks,v=>∃ c,v= .ref c/\lB h ks c
inductive fE (h:Heap):List NKey->List Value->Prop where
 |nil:fE h [] []
 |cons {k:NKey}{v:Value}{ks:List NKey}{vs:List Value}:lT h k v->fE h ks vs->fE h (k :: ks) (v :: vs)
def fX (h:Heap) (ks:List NKey) (a:Addr):Prop:=∃ o items n,h.get? a=some o/\o.cls= .type "tuple"/\o.data= .seq items n/\fE h ks items.toList
theorem zV {k j:Key}{v:Value}(a:eL k v=true) (b:eL j v=true):k=j:=by
 rcases aY a with ⟨i,t,rfl,rfl⟩ | ⟨x,t,rfl,rfl⟩
 ·rcases aY b with ⟨i',t',rfl,e⟩ | ⟨x,t,rfl,e⟩
  ·cases e;rfl
  ·cases e
 ·rcases aY b with ⟨i',t',rfl,e⟩ | ⟨x,t,rfl,e⟩
  ·cases e
  ·cases e;rfl
theorem aO5:∀ {x y:List Key}{vs:List Value},gD x vs->gD y vs->x=y
 |_,_,_,.nil,.nil=>rfl
 |_,_,_,.cons a r,.cons b t=>by rw [zV a b,aO5 r t]
theorem aW2 {h:Heap}{x y:List Key}{a:Addr}(p:lB h x a) (q:lB h y a):x=y:=by
 obtain ⟨o,i,n,a1,b1,c1,d1⟩:=p;obtain ⟨o2,i2,n2,a2,b2,c2,d2⟩:=q;rw [a1] at a2
 cases a2
 rw [c1] at c2
 cases c2
 exact aO5 d1 d2
theorem aU4 {h:Heap}:∀ {x y:NKey}{v:Value},lT h x v->lT h y v->x=y
 |.inl k,.inl j,v,a,b=>by rw [zV a b]
 |.inl k,.inr j,v,a,⟨c,e,_⟩=>by
  subst e;rcases aY (show eL k (.ref c)=true from a) with ⟨i,t,_,z⟩ | ⟨x,t,_,z⟩ <;> cases z
 |.inr k,.inl j,v,⟨c,e,_⟩,b=>by
  subst e;rcases aY (show eL j (.ref c)=true from b) with ⟨i,t,_,z⟩ | ⟨x,t,_,z⟩ <;> cases z
 |.inr k,.inr j,v,⟨c,e,p⟩,⟨c2,e2,q⟩=>by
  subst e
  cases e2
  rw [aW2 p q]
theorem aN2 {h:Heap}:∀ {x y:List NKey}{vs:List Value},fE h x vs->fE h y vs->x=y
 |_,_,_,.nil,.nil=>rfl
 |_,_,_,.cons a r,.cons b t=>by rw [aU4 a b,aN2 r t]
theorem vW {h:Heap}{x y:List NKey}{a:Addr}(p:fX h x a) (q:fX h y a):x=y:=by
 obtain ⟨o,i,n,a1,b1,c1,d1⟩:=p;obtain ⟨o2,i2,n2,a2,b2,c2,d2⟩:=q;rw [a1] at a2
 cases a2
 rw [c1] at c2
 cases c2
 exact aN2 d1 d2
theorem uZ {h:Heap}{a d:Addr}{o q:Obj}{items:Array Value}{n ep:Nat}{es:Array DictEntry}(ho:h.get? a=some o) (c:o.data= .seq items n) (hd:h.get? d=some q) (hq:q.data= .dict es ep):a≠d:=fun e=>by
 rw [e,hd] at ho
 cases ho
 rw [hq] at c
 cases c
theorem tH {h h':Heap}{d:Addr}{q:Obj}{es:Array DictEntry}{ep:Nat}(hd:h.get? d=some q) (hq:q.data= .dict es ep) (s:Heap.SameBut d h h'):∀ {ks:List NKey}{vs:List Value},fE h ks vs->fE h' ks vs
 |_,_,.nil=> .nil
 |_,_,.cons (k:= .inl _) a r=> .cons a (tH hd hq s r)
 |_,_,.cons (k:= .inr _) ⟨c,e,t⟩ r=>by
  refine .cons ⟨c,e,?_⟩ (tH hd hq s r);obtain ⟨o,i,n,a1,b1,c1,d1⟩:=t;exact ⟨o,i,n,by rw [s.2 c (uZ a1 c1 hd hq)];exact a1,b1,c1,d1⟩
section
variable {prog:Program}{w:World}
def dP (prog:Program) (w:World):NKey->Int
 |.inl k=>(bB prog w).hash k
 |.inr ks=>tupleKeyHash (bB prog w) ks
def eE:NKey->Nat
 |.inl _=>1
 |.inr ks=>ks.length+1
def pT (prog:Program) (w:World) (ks:List NKey):Int:=reduceHash (Builtin.Tuple.tupleHashOf (ks.map (dP prog w)))
def jM (ks:List NKey):Nat:=(ks.map eE).sum+1
variable {A:Around}{E:Value->Shared->Prop}{s:Shared}
theorem aM5 {k:NKey}{v:Value}{Q:Int->Shared->Prop}(hu:A.units < cLine) (h:lT s.heap k v) (q:Q (dP prog w k) { s with toks:=s.toks+eE k }):wpAny (model prog w) A (pyHash v) Q E s:=by
 cases k with
 |inl k=>exact (bB prog w).pyHash (k:=k) h q
 |inr ks =>
  obtain ⟨c,rfl,t⟩:=h;exact aBa hu t.key q
theorem vY {Q:Array Int->Shared->Prop}(hu:A.units < cLine):∀ {ks:List NKey}{vs:List Value}(hs:Array Int) (s:Shared),fE s.heap ks vs->Q (hs++(ks.map (dP prog w)).toArray) { s with toks:=s.toks+(ks.map eE).sum } ->
  wpAny (model prog w) A (forIn vs hs fun x (r:Array Int)=>do
   let i <- pyHash x
   pure (ForInStep.yield (r.push i))) Q E s
 |_,_,hs,s,.nil,q=>by
  rw [List.forIn_nil];exact ac (by simpa using q)
 |k :: ks,v :: vs,hs,s,.cons a r,q=>by
  rw [List.forIn_cons];simp only [bind_assoc,pure_bind];refine aa (aM5 hu a ?_);refine vY hu (hs.push (dP prog w k)) { s with toks:=s.toks+eE k } r ?_;have e1:hs.push (dP prog w k)++(ks.map (dP prog w)).toArray=hs++((k :: ks).map (dP prog w)).toArray:=by simp
  have e2:s.toks+eE k+(ks.map eE).sum=s.toks+((k :: ks).map eE).sum:=by rw [ar,ed];omega
  rw [e1];show Q _ { s with toks:=s.toks+eE k+(ks.map eE).sum };rw [e2];exact q
theorem aD6 {ks:List NKey}{a:Addr}{Q:Int->Shared->Prop}(hu:A.units+3 < cLine) (h:fX s.heap ks a) (q:Q (pT prog w ks) { s with toks:=s.toks+jM ks }):wpAny (model prog w) A (pyHash (.ref a)) Q E s:=by
 obtain ⟨o,items,n,h1,h2,h3,h4⟩:=h;have hT:s.TypeIs (.ref a) "tuple":=⟨o,h1,h2⟩
 show wpAny _ _ (pyHashByItsType (.ref a)) _ _ _;unfold pyHashByItsType;refine aa (wpAny_cRoomFor (by omega) ?_);refine aa (iu hT F.slot_tuple_hash.lookup ?_);rw [ao (by decide)];refine aa (iu hT F.slot_tuple_hash.lookup ?_);rw [ao (by decide)];refine aa (wpAny_callSpecialIfBoundUnlessNone?_slot hT F.slot_tuple_hash (cr F.slot_tuple_hash hT F.entry_tuple_hash ?_ (F.args_tuple_hash_1 _)));unfold Builtin.«tuple.__hash__» slotArgs;simp only [List.isEmpty_nil,Bool.not_true,Bool.false_eq_true,if_false,bind_assoc,List.length_nil,bne_self_eq_false];refine aa (ac ?_);refine aa (wpAny_tupleItemsOf h1 h3 ?_);refine aa ?_;rw [<- wq];refine vY (by show A.units+1 < cLine;omega) #[] s h4 ?_;unfold retInt;refine aa (wpAny_mkInt (ac ⟨_,rfl,?_⟩));have e:(#[]++(ks.map (dP prog w)).toArray:Array Int).toList=ks.map (dP prog w):=by simp
 rw [e];show wpAny _ _ (if (decide (-(2:Int) ^ 63<=Builtin.Tuple.tupleHashOf (ks.map (dP prog w))) && decide (Builtin.Tuple.tupleHashOf (ks.map (dP prog w)) < 2 ^ 63))=true then _ else _) Q E _;unfold pT reduceHash at q;have e3:s.toks+jM ks=s.toks+(ks.map eE).sum+1:=by unfold jM;omega
 rw [e3] at q
 by_cases hr:(decide (-(2:Int) ^ 63<=Builtin.Tuple.tupleHashOf (ks.map (dP prog w))) && decide (Builtin.Tuple.tupleHashOf (ks.map (dP prog w)) < 2 ^ 63))=true
 ·rw [bb hr] at q ⊢;exact ac q
 ·rw [ao hr] at q ⊢;exact aa (jb (ac q))
theorem bH4 {j k:NKey}{u v:Value}(hu:A.units+1 < cLine) (a:lT s.heap j u) (b:lT s.heap k v):SeqAt.EqAt A s u v (decide (j=k)):=by
 cases j with
 |inl j =>
  cases k with
  |inl k =>
   have e:decide ((Sum.inl j:NKey)=Sum.inl k)=decide (j=k):=by simp
   rw [e];intro prog w E Q q;exact (bB prog w).eqBool (a:=j) (b:=k) a b q
  |inr ks =>
   have e:decide ((Sum.inl j:NKey)=Sum.inr ks)=false:=by simp
   rw [e];obtain ⟨c,rfl,o,items,n,h1,h2,h3,_⟩:=b;have ht:s.heap.IsTuple c items:=⟨o,h1,h2,n,h3⟩
   rcases aY (show eL j u=true from a) with ⟨i,t,_,rfl⟩ | ⟨x,t,_,rfl⟩
   ·exact aAe i t ht (by omega)
   ·exact aAf x t ht (by omega)
 |inr js =>
  obtain ⟨c,rfl,t⟩:=a
  cases k with
  |inl k =>
   have e:decide ((Sum.inr js:NKey)=Sum.inl k)=false:=by simp
   rw [e];obtain ⟨o,items,n,h1,h2,h3,_⟩:=t;have ht:s.heap.IsTuple c items:=⟨o,h1,h2,n,h3⟩
   rcases aY (show eL k v=true from b) with ⟨i,t,_,rfl⟩ | ⟨x,t,_,rfl⟩
   ·exact aAg i t ht (by omega)
   ·exact SeqAt.EqAt.tuple_str x t ht (by omega)
  |inr ks =>
   obtain ⟨c2,rfl,t2⟩:=b;have e:decide ((Sum.inr js:NKey)=Sum.inr ks)=decide (js=ks):=by simp
   rw [e];intro prog w E Q q;exact wpAny_eqBool_tuple (knd:=bB prog w) (by omega) t.key t2.key q
theorem fE.at {h:Heap}:∀ {ks:List NKey}{vs:List Value},fE h ks vs->∀ {i:Nat}(hi:i < vs.length),∃ hk:i < ks.length,lT h ks[i] vs[i]
 |_,_,.nil,i,hi=>absurd hi (Nat.not_lt_zero i)
 |_,_,.cons a r,0,_=>⟨Nat.succ_pos _,a⟩
 |_,_,.cons a r,i+1,hi=>by
  obtain ⟨hk,q⟩:=fE.at r (i:=i) (by simpa using hi);exact ⟨by simpa using hk,by simpa using q⟩
theorem fE.len {h:Heap}:∀ {ks:List NKey}{vs:List Value},fE h ks vs->ks.length=vs.length
 |_,_,.nil=>rfl
 |_,_,.cons _ r=>by rw [dy,dy,fE.len r]
theorem bH2 {xs ys:List NKey}:((List.range (min xs.length ys.length)).all (fun i=>decide (xs.getD i (.inr [])=ys.getD i (.inr []))) && xs.length == ys.length)=decide (xs=ys):=by
 rw [ir,fb,dz,beq_iff_eq,xi]
 constructor
 ·rintro ⟨h,l⟩;refine List.ext_getElem l fun i h1 h2=>?_
  have:=bc (h i (by simp;omega))
  simpa [List.getD,h1,h2] using this
 ·rintro rfl;exact ⟨fun i _=>am rfl,rfl⟩
theorem aT8 {x y:List NKey}{a b:Addr}{Q:Bool->Shared->Prop}(hu:A.units+3 < cLine) (p:fX s.heap x a) (q:fX s.heap y b) (h:Q (decide (x=y)) s):wpAny (model prog w) A (eqBool (.ref a) (.ref b)) Q E s:=by
 by_cases e:a=b
 ·subst e;have:=vW p q;subst this;rw [am rfl] at h;exact SeqAt.EqAt.same (.ref a) prog w E Q h
 ·obtain ⟨o,items,n,h1,h2,h3,h4⟩:=p;obtain ⟨o2,items2,n2,k1,k2,k3,k4⟩:=q;have l1:x.length=items.size:=by rw [h4.len,fj]
  have l2:y.length=items2.size:=by rw [k4.len,fj]
  have r:=SeqAt.RcAt.tuples (A:=A) (s:=s) (l:=a) (b:=b) (items:=items) (items2:=items2) (e:=fun i=>decide (x.getD i (.inr [])=y.getD i (.inr []))) ⟨o,h1,h2,n,h3⟩ ⟨o2,k1,k2,n2,k3⟩ (by omega) fun j q1 q2=>?_
  ·rw [<- l1, <- l2,bH2] at r;exact SeqAt.EqAt.of_refs e r prog w E Q h
  ·obtain ⟨g1,s1⟩:=h4.at (i:=j) (by simpa using q1);obtain ⟨g2,s2⟩:=k4.at (i:=j) (by simpa using q2);have e1:x.getD j (.inr [])=x[j]:=by simp [List.getD,g1]
   have e2:y.getD j (.inr [])=y[j]:=by simp [List.getD,g2]
   rw [e1,e2];simp only [Array.getElem_toList] at s1 s2;exact bH4 (by show A.units+1+1 < cLine;omega) s1 s2
theorem mN {d:Nat}{ks:List Key}{a:Addr}{Q:Bool->Shared->Prop}(hk:lB s.heap ks a) (h:Q true s):wpAny (model prog w) A (eqIsQuiet (d+1) (.ref a)) Q E s:=by
 have hT:=(hk.key (prog:=prog) (w:=w)).typeIs;obtain ⟨o,items,n,ho,_,hd,hi⟩:=hk;unfold eqIsQuiet;refine aa (iu hT F.slot_tuple_eq.lookup ?_);show wpAny _ _ (isInstance (.ref a) (.type "tuple") >>= _) _ _ s;refine aa (jw hT zv ?_);simp only [Bool.not_true,Bool.false_eq_true,if_false];refine aa (fx ho hd ?_);refine aa ?_;show wpAny _ _ (forIn items _ _) _ _ s;rw [<- wq];refine jv _ (fun rest r s'=>r.1=none/\s'=s/\∀ v∈rest,carriedByValue v=true) _ ?_ ?_ _ _ ⟨rfl,rfl,(hi.items (prog:=prog) (w:=w)).byValue⟩
 ·rintro v rest r s' ⟨hr,rfl,hall⟩;rw [su _ (hall v au)];refine aa (ac ?_);simp only [Bool.not_true,Bool.false_eq_true,if_false];exact ac ⟨rfl,rfl,fun u hu'=>hall u (ba _ hu')⟩
 ·rintro ⟨r1,r2⟩ s' ⟨hr,rfl,_⟩;simp only at hr;subst hr;exact ac h
theorem aE2 {d:Nat}{k:NKey}{v:Value}{Q:Bool->Shared->Prop}(hk:lT s.heap k v) (h:Q true s):wpAny (model prog w) A (eqIsQuiet (d+1) v) Q E s:=by
 cases k with
 |inl k =>
  rw [su _ ((bB prog w).byValue k v hk)];exact ac h
 |inr ks =>
  obtain ⟨c,rfl,t⟩:=hk;exact mN t h
theorem xD {ks:List NKey}{a:Addr}{Q:Bool->Shared->Prop}(hk:fX s.heap ks a) (h:Q true s):wpAny (model prog w) A (eqIsQuiet 8 (.ref a)) Q E s:=by
 obtain ⟨o,items,n,ho,hc,hd,hi⟩:=hk;have hT:s.TypeIs (.ref a) "tuple":=⟨o,ho,hc⟩
 unfold eqIsQuiet;refine aa (iu hT F.slot_tuple_eq.lookup ?_);show wpAny _ _ (isInstance (.ref a) (.type "tuple") >>= _) _ _ s;refine aa (jw hT zv ?_);simp only [Bool.not_true,Bool.false_eq_true,if_false];refine aa (fx ho hd ?_);refine aa ?_;show wpAny _ _ (forIn items _ _) _ _ s;rw [<- wq];refine jv _ (fun rest r s'=>r.1=none/\s'=s/\∃ ks,fE s.heap ks rest) _ ?_ ?_ _ _ ⟨rfl,rfl,ks,hi⟩
 ·rintro v rest r s' ⟨hr,rfl,ks',hall⟩
  cases hall with
  |cons a1 a2 =>
   refine aa (aE2 a1 ?_);simp only [Bool.not_true,Bool.false_eq_true,if_false];exact ac ⟨rfl,rfl,_,a2⟩
 ·rintro ⟨r1,r2⟩ s' ⟨hr,rfl,_⟩;simp only at hr;subst hr;exact ac h
end
theorem fX.keeps {h h':Heap}{ks:List NKey}{a d:Addr}{q:Obj}{es:Array DictEntry}{ep:Nat}(t:fX h ks a) (hd:h.get? d=some q) (hq:q.data= .dict es ep) (s:Heap.SameBut d h h'):fX h' ks a:=by
 obtain ⟨o,items,n,ho,hc,hdd,hi⟩:=t;exact ⟨o,items,n,by rw [s.2 a (uZ ho hdd hd hq)];exact ho,hc,hdd,tH hd hq s hi⟩
def fK (prog:Program) (w:World):HeapKind prog w (List NKey) where
 is:=fX
 hash:=pT prog w
 draws:=jM
 room:=fun A=>A.units+3 < cLine
 inj:=fun hx hy=>vW hx hy
 keeps:=fun x ho hd hs=>x.keeps ho hd hs
 pyHash:=fun hu hk h=>aD6 hu hk h
 eqBool:=fun hu hx hy h=>aT8 hu hx hy h
 quiet:=fun hk h=>xD hk h
abbrev NE:=List NKey×Addr×V
abbrev KN:List NE->List (List NKey×Addr×Value)->Prop:=Paired fun p q=>p.1=q.1/\p.2.1=q.2.1/\bA p.2.2 q.2.2
def dN (P:Program) (w:World) (a:Addr) (xs:List NE):HO:= .ext fun h=>xs.length<=sizeLine/\(a == sysModules)=false/\(xs.map (·.1)).Nodup/\∃ ys,KN xs ys/\∃ o es ep,h.get? a=some o/\o.ExactDict/\o.data= .dict es ep/\es.toList=ys.map (entryOfKey (fK P w))
def xW (H:Hp):NKey->V->Prop
 |.inl k,v=>v=kV k
 |.inr ks,v=>∃ c,v= .ref c/\H c=some (.tup (ks.map kV))
def nS (H:Hp) (ks:List NKey) (b:Addr):Prop:=∃ vs,H b=some (.tup vs)/\Paired (xW H) ks vs
theorem xW.ts {H H':Hp}(t:∀ b ys,H b=some (.tup ys)->H' b=some (.tup ys)):∀ {k:NKey}{v:V},xW H k v->xW H' k v
 |.inl _,_,h=>h
 |.inr _,_,⟨c,e,h⟩=>⟨c,e,t _ _ h⟩
theorem nS.ts {H H':Hp}(t:∀ b ys,H b=some (.tup ys)->H' b=some (.tup ys)) {ks:List NKey}{b:Addr}(h:nS H ks b):nS H' ks b:=let ⟨vs,e,r⟩:=h;⟨vs,t _ _ e,Paired.mapP r fun _ _ z=>z.ts t⟩
theorem aQ9 {k:Key}{u:Value}(h:bA (kV k) u):eL k u=true:=by
 cases k with
 |inl i=>obtain ⟨t,rfl⟩:=(show ∃ t,u=Value.int i t from h);simp [eL,Value.isInt,Value.isStrOf]
 |inr x=>obtain ⟨t,rfl⟩:=(show ∃ t,u=Value.str x t from h);simp [eL,Value.isInt,Value.isStrOf]
theorem bA3:∀ {ks:List Key}{us:List Value},aZ (ks.map kV) us->gD ks us
 |[],_,.nil=> .nil
 |k :: ks,_,.cons r t=> .cons (aQ9 r) (bA3 t)
section
variable {P:Program}{w:World}{H:Hp}{h:Heap}{a:Addr}
theorem yI {ks:List Key}(ok:iQ P w H h) (e:H a=some (.tup (ks.map kV))):lB h ks a:=by
 obtain ⟨_,its,r,o,h1,h2,n,h3,_⟩:=(show bD P w H h a (.tup (ks.map kV)) from ok a _ e)
 exact ⟨o,its.toArray,n,h1,h2,h3,by simpa using bA3 r⟩
theorem aJ4 (ok:iQ P w H h):∀ {ks:List NKey}{vs:List V}{us:List Value},Paired (xW H) ks vs->aZ vs us->fE h ks us
 |_,_,_,.nil,.nil=> .nil
 |.inl k :: _,_,_,.cons a r,.cons b t=> .cons (show eL k _=true from aQ9 (by rw [<- (show _=kV k from a)];exact b)) (aJ4 ok r t)
 |.inr ks :: _,_,_,.cons ⟨c,e,q⟩ r,.cons b t=> .cons ⟨c,by subst e;exact b,yI ok q⟩ (aJ4 ok r t)
theorem jN {ks:List NKey}(ok:iQ P w H h) (e:nS H ks a):(fK P w).is h ks a:=by
 obtain ⟨vs,e,r⟩:=e;obtain ⟨_,its,rv,o,h1,h2,n,h3,_⟩:=(show bD P w H h a (.tup vs) from ok a _ e)
 exact ⟨o,its.toArray,n,h1,h2,h3,by simpa using aJ4 ok r rv⟩
end
def nQ (xs:List NE):List (List NKey×V):=xs.map fun x=>(x.1,x.2.2)
def DNr (P:Program) (w:World) (H:Hp) (d:Addr) (l:List (List NKey×V)):Prop:=∃ xs,Rd H d (dN P w d xs)/\nQ xs=l/\∀ x∈xs,nS H x.1 x.2.1
def DN (P:Program) (w:World) (H:Hp) (d:Addr) (l:List (List NKey×V)):Prop:=∃ xs,H d=some (dN P w d xs)/\nQ xs=l/\∀ x∈xs,nS H x.1 x.2.1
theorem DN.r {P:Program}{w:World}{H:Hp}{d:Addr}{l:List (List NKey×V)}(h:DN P w H d l):DNr P w H d l:=let ⟨xs,a,b,c⟩:=h;⟨xs,.inl a,b,c⟩
theorem DN.keep {P:Program}{w:World}{H H':Hp}{d:Addr}{l:List (List NKey×V)}(h:DN P w H d l) (t:∀ b ys,H b=some (.tup ys)->H' b=some (.tup ys)) (s:∀ o,H d=some o->H' d=some o):DN P w H' d l :=
 let ⟨xs,a,b,c⟩:=h;⟨xs,s _ a,b,fun x hx=>(c x hx).ts t⟩
theorem DN.ext {P:Program}{w:World}{H:Hp}{d:Addr}{l:List (List NKey×V)}(h:DN P w H d l):∃ φ,H d=some (.ext φ):=let ⟨_,a,_,_⟩:=h;⟨_,a⟩
theorem KN.val {xs:List NE}{ys:List (List NKey×Addr×Value)}(r:KN xs ys) (k:List NKey):lS (bZ (nQ xs) k) ((atKey ys k).map (·.2)):=by
 induction r with
 |nil=>exact gr
 |@cons p q ps qs h t ih =>
  obtain ⟨h1,_,h2⟩:=h
  by_cases e:p.1=k
  ·have e':q.1=k:=h1.symm.trans e;have b:atKey (q :: qs) k=some q.2:=by simp [atKey,List.find?_cons,e']
   rw [show nQ (p :: ps)=(p.1,p.2.2) :: nQ ps from rfl,bL e,b];exact h2
  ·have e':¬ q.1=k:=fun z=>e (h1.trans z)
   have b:atKey (q :: qs) k=atKey qs k:=by simp [atKey,List.find?_cons,e']
   rw [show nQ (p :: ps)=(p.1,p.2.2) :: nQ ps from rfl,bC e,b];exact ih
def fP (xs:List NE) (k:List NKey) (b:Addr) (v:V):List NE :=
 if ((nQ xs).any fun kv=>decide (kv.1=k))=true then xs.map (fun x=>if x.1=k then (x.1,x.2.1,v) else x) else xs++[(k,b,v)]
theorem oI (xs:List NE) (k:List NKey) (b:Addr) (v:V):nQ (fP xs k b v)=bF (nQ xs) k v:=by
 unfold fP bF
 split
 ·unfold nQ;rw [bg,bg];refine de fun x _=>?_
  show (fun y:NE=>(y.1,y.2.2)) (if x.1=k then (x.1,x.2.1,v) else x)=if x.1=k then (x.1,v) else (x.1,x.2.2)
  split <;> rfl
 ·unfold nQ;rw [bj];rfl
theorem wP {xs:List NE}{k:List NKey}{b:Addr}{v:V}{x:NE}(h:x∈fP xs k b v):(x.1=k/\x.2.1=b)\/∃ y∈xs,x.1=y.1/\x.2.1=y.2.1:=by
 unfold fP at h
 split at h
 ·obtain ⟨y,hy,e⟩:=ap.mp h;refine .inr ⟨y,hy,?_⟩
  split at e <;> (subst e;exact ⟨rfl,rfl⟩)
 ·rcases cf.mp h with h | h
  ·exact .inr ⟨x,h,rfl,rfl⟩
  ·rw [bw.mp h];exact .inl ⟨rfl,rfl⟩
theorem KN.put {xs:List NE}{ys:List (List NKey×Addr×Value)}(r:KN xs ys) (k:List NKey) {b:Addr}{y:V}{u:Value}(ry:bA y u):KN (fP xs k b y) (storedH ys k b u):=by
 have e:((nQ xs).any fun kv=>decide (kv.1=k))=(atKey ys k).isSome:=by
  rw [eR,(r.val k).isSome_eq,rm]
 unfold fP storedH;rw [e]
 by_cases q:(atKey ys k).isSome=true
 ·rw [bb q,bb q];clear e q
  induction r with
  |nil=>exact .nil
  |@cons p q ps qs h t ih =>
   rw [ar,ar];refine .cons ?_ ih;obtain ⟨h1,h2,h3⟩:=h;unfold putAt
   by_cases e:p.1=k
   ·rw [bb e,bb (h1.symm.trans e)];exact ⟨h1,h2,ry⟩
   ·rw [ao e,ao (fun z=>e (h1.trans z))];exact ⟨h1,h2,h3⟩
 ·rw [ao q,ao q];exact aBc r ⟨rfl,rfl,ry⟩
theorem KN.keys {xs:List NE}{ys:List (List NKey×Addr×Value)}(r:KN xs ys):xs.map (·.1)=ys.map (·.1):=by
 induction r with
 |nil=>rfl
 |cons h _ ih=>rw [ar,ar,h.1,ih]
section
variable {P:Program}{w:World}{H:Hp}{h:Heap}{a:Addr}
theorem oM {xs:List NE}(ok:iQ P w H h) (e:Rd H a (dN P w a xs)) (hk:∀ x∈xs,nS H x.1 x.2.1):xs.length<=sizeLine/\(a == sysModules)=false/\∃ ys,KN xs ys/\h.DictOfH (fK P w) a ys:=by
 obtain ⟨z,y,nd,ys,r,o,es,ep,h1,h2,h3,h4⟩:=(show bD P w H h a (dN P w a xs) from aB2 ok e).1;refine ⟨z,y,ys,r,o,es,ep,h1,h2,h3,h4,fun x hx=>?_,by rw [<- r.keys];exact nd⟩;have all:∀ {l:List NE}{m:List (List NKey×Addr×Value)},KN l m->(∀ x∈l,nS H x.1 x.2.1)->∀ x∈m,(fK P w).is h x.1 x.2.1:=by
  intro l m q
  induction q with
  |nil=>intro _ x hx;exact nomatch hx
  |@cons p q ps qs hq t ih =>
   intro hl x hx;rcases bi.mp hx with e | hx
   ·subst e;rw [<- hq.1, <- hq.2.1];exact jN ok (hl p au)
   ·exact ih (fun x hx=>hl x (ba _ hx)) x hx
 exact all r hk x hx
theorem aM1 {xs:List NE}{ys:List (List NKey×Addr×Value)}{H':Hp}(z:xs.length<=sizeLine) (y:(a == sysModules)=false) (r:KN xs ys) (dd:h.DictOfH (fK P w) a ys):bD P w H' h a (dN P w a xs):=by
 obtain ⟨o,es,ep,h1,h2,h3,h4,_,h5⟩:=dd;refine ⟨⟨z,y,by rw [r.keys];exact h5,ys,r,o,es,ep,h1,h2,h3,h4⟩,⟨o,h1⟩,fun g1 g2 g k=>?_⟩;obtain ⟨z,y,nd,ys,r,o,es,ep,h1,h2,h3,h4⟩:=g;exact ⟨z,y,nd,ys,r,o,es,ep,k _ h1,h2,h3,h4⟩
theorem vS {P:Program}{w:World}{H:Hp}(h:Heap) (hb:sysModules < h.objs.size):bD P w H (h.push { cls:= .type "dict",data:= .dict #[] }) h.objs.size (dN P w h.objs.size []) :=
 aM1 (bz _) (qg.mpr (Ne.symm (bv hb))) .nil ⟨_, #[],0,aq _ rfl,⟨rfl,rfl,rfl⟩,rfl,rfl,(fun x hx=>nomatch hx),pb⟩
end
def bH1 (P:Program) (w:World) (H:Hp) (a:Addr) (y:V) (r:Option V):Prop:=fL H a y r\/∃ l ks b,DNr P w H a l/\y= .ref b/\nS H ks b/\r=bZ l ks
def aT9 (P:Program) (w:World) (H:Hp) (a:Addr) (y v:V) (Q:Hp->Prop):Prop:=(∃ H',iT H a y v H'/\Q H')\/∃ l ks b,DN P w H a l/\y= .ref b/\nS H ks b/\l.length < sizeLine/\∀ H',DN P w H' a (bF l ks v)->(∀ c,c≠a->H' c=H c)->Q H'
theorem nM (xs:List NE):(nQ xs).length=xs.length:=af _
section
variable {X:Cx}{pins:List (Addr×Obj)}{σ: St}{H:Hp}{s:Shared}{a:Addr}{y v:V}{u r:Value}{o:Option V}{A:Around}{E:Value->Shared->Prop}
theorem bT8 {Q:Value->Shared->Prop}(hu:A.units+8 < cLine) (I:aN X pins σ H s) (g:bH1 X.prog X.w H a y o) (ry:bA y u) (h:∀ s',aN X pins σ H s'->Q (.bool o.isSome) s') :
  wpAny (model X.prog X.w) A (compareOp .In u (.ref a)) Q E s:=by
 rcases g with g | ⟨l,ks,b,⟨xs,e,el,hk⟩,ey,eb,l'⟩
 ·exact bI9 (by omega) I g ry h
 ·subst ey el
  cases (show u=Value.ref b from ry)
  obtain ⟨z,hd,ys,rel,dd⟩:=oM I.hok e hk;refine wpAny_in_heap (show A.units+1+3 < cLine by omega) (jN I.hok eb) hd dd ?_;have q:=(rel.val ks).isSome_eq;rw [rm] at q;rw [<- q, <- l'];exact h _ (I.tok _)
theorem aN6 {h':Heap}{t':Nat}{xs:List NE}{ys:List (List NKey×Addr×Value)}{ks:List NKey}{b:Addr}(I:aN X pins σ H s) (e:H a=some (dN X.prog X.w a xs)) (hk:∀ x∈xs,nS H x.1 x.2.1) (eb:nS H ks b) (rv:bA v r) (z:xs.length < sizeLine) (hd:(a == sysModules)=false) (rel:KN xs ys)
  (dd:h'.DictOfH (fK X.prog X.w) a (storedH ys ks b r)) (hs:Heap.SameBut a s.heap h'):∃ H',aN X pins σ H' { s with heap:=h',toks:=t' }/\DN X.prog X.w H' a (bF (nQ xs) ks v)/\∀ c,c≠a->H' c=H c:=by
 have hl:(fP xs ks b v).length<=sizeLine:=by
  have:=dI (nQ xs) ks v;rw [<- oI xs ks b v,nM,nM] at this;omega
 have he:∃ q,h'.get? a=some q:=let ⟨q,_,_,hq,_⟩:=dd;⟨q,hq⟩
 have nt:∀ c ys,H c=some (.tup ys)->aJ H a (dN X.prog X.w a (fP xs ks b v)) c=some (.tup ys):=fun c ys ec=>by
  rw [aE (cF ec e (fun z=>nomatch z))];exact ec
 refine ⟨aJ H a (dN X.prog X.w a (fP xs ks b v)),iB I (by rw [e];exact gr) hs he (aM1 hl hd (rel.put ks rv) dd),⟨_,aC,oI xs ks b v,fun x hx=>?_⟩,fun c hc=>aE hc⟩;rcases wP hx with ⟨e1,e2⟩ | ⟨y,hy,e1,e2⟩
 ·rw [e1,e2];exact eb.ts nt
 ·rw [e1,e2];exact (hk y hy).ts nt
theorem aE9 {W:Hp->Prop}{Q:Unit->Shared->Prop}(hu:A.units+8 < cLine) (I:aN X pins σ H s) (g:aT9 X.prog X.w H a y v W) (ry:bA y u) (rv:bA v r) (h:∀ H' s',aN X pins σ H' s'->W H'->Q () s') :
  wpAny (model X.prog X.w) A (setItem (.ref a) u r) Q E s:=by
 rcases g with ⟨H',g,q⟩ | ⟨l,ks,b,⟨xs,e,el,hk⟩,ey,eb,l',q⟩
 ·exact rD (by omega) I g ry rv fun s' I'=>h _ _ I' q
 ·subst ey el
  cases (show u=Value.ref b from ry)
  obtain ⟨z,hd,ys,rel,dd⟩:=oM I.hok (.inl e) hk;rw [nM] at l';refine aAs (hsz:=by rw [<- fw rel];exact z) (show A.units+1+3 < cLine by omega) (jN I.hok eb) dd fun h' dd' hs=>?_
  obtain ⟨H',I',d',o'⟩:=aN6 I e hk eb rv l' hd rel dd' hs;exact h _ _ I' (q H' d' o')
theorem aF8 {W:Hp->Prop}{Q:Unit->Shared->Prop}(hu:A.units+8 < cLine) (I:aN X pins σ H s) (g:aT9 X.prog X.w H a y v W) (ry:bA y u) (rv:bA v r) (h:∀ H' s',aN X pins σ H' s'->Heap.SameBut a s.heap s'.heap->W H'->Q () s') :
  wpAny (model X.prog X.w) A (dictSet a u r) Q E s:=by
 rcases g with ⟨H',g,q⟩ | ⟨l,ks,b,⟨xs,e,el,hk⟩,ey,eb,l',q⟩
 ·exact mO (by omega) I g ry rv fun s' I' sb=>h _ _ I' sb q
 ·subst ey el
  cases (show u=Value.ref b from ry)
  obtain ⟨z,hd,ys,rel,dd⟩:=oM I.hok (.inl e) hk;rw [nM] at l';refine aAy (hsz:=by rw [<- fw rel];exact z) (show A.units+3 < cLine by omega) (jN I.hok eb) dd fun h' dd' hs=>?_
  obtain ⟨H',I',d',o'⟩:=aN6 I e hk eb rv l' hd rel dd' hs;exact h _ _ I' hs (q H' d' o')
end
def bM1 (P:Program) (w:World) (ty td:TE):TE:=fun σ H Q=>ty σ H fun y H1=>td σ H1 fun x H2=>∃ a o,x= .ref a/\bH1 P w H2 a y o/\Q (.bl o.isSome) H2
def aY8 (P:Program) (w:World) (td ty tv:TE):TS:=fun D σ H=>tv σ H fun v H1=>td σ H1 fun x H2=>ty σ H2 fun y H3=>∃ a,x= .ref a/\aT9 P w H3 a y v fun H4=>D.nx σ H4
section
variable {X:Cx}{o i e value:Expr}{pos pos' tpos:Pos}{td ty tv:TE}{k:Nat}
theorem bH6 (hr:bW k X.A) (hi:PE X i ty) (ho:PE X o td):PC X .In i o (bM1 X.prog X.w ty td):=by
 intro pins s σ H Q I h;have hu:=hr.units;refine cI (hi pins s σ H _ I h) fun iv s1 ⟨y,H1,I1,ry,q1⟩=>cI (ho pins s1 σ H1 _ I1 q1) fun u s2 ⟨x,H2,I2,rx,a,ov,ex,g,q2⟩=>?_
 subst ex;obtain rfl:u=Value.ref a:=rx;exact bT8 (by omega) I2 g ry fun s3 I3=>⟨.bl ov.isSome,H2,I3,rfl,q2⟩
theorem aT6 (hr:bW k X.A) (ho:PE X o td) (hi:PE X i ty) (hv:PE X value tv) (hs:swapsWith value (some (.Subscript o i pos')) pos.line X.env=pure false) :
  PS X (.Assign [.Subscript o i pos'] value pos) (aY8 X.prog X.w td ty tv):=by
 intro pins s σ H D I h;have hu:=hr.units;refine yw (cI (hv pins s σ H _ I h) fun r s1 ⟨v,H1,I1,rv,q1⟩=>cI (ho pins s1 σ H1 _ I1 q1) fun u s2 ⟨x,H2,I2,rx,q2⟩=>cI (hi pins s2 σ H2 _ I2 q2) fun iv s3 ⟨y,H3,I3,ry,a,ex,g⟩=>?_) hs;subst ex;obtain rfl:u=Value.ref a:=rx;exact aE9 (by omega) I3 g ry rv fun H4 s4 I4 q3=>⟨σ,H4,I4,q3⟩
end
theorem aN.thaw {X:Cx}{pins:List (Addr×Obj)}{σ: St}{H:Hp}{s:Shared}{a:Addr}{o:Obj}{u:HO}(I:aN X pins σ H s) (e:H a=some (.frz o u)) (n:∀ o' u',X.H₀ a≠some (.frz o' u')) (nt:∀ xs,u≠ .tup xs) (nw:∀ y,u≠ .own y):aN X pins σ (aJ H a u) s:=by
 have ne:∀ {b v},H b=some v->(∀ o' u',v≠ .frz o' u')->b≠a:=fun {b v} h hv z=>by
  rw [z,e] at h;exact hv _ _ (da h).symm
 have nn:∀ {b},H b=none->b≠a:=fun {b} h z=>by rw [z,e] at h;cases h
 refine ⟨I.ok,I.os,I.bare,⟨I.base.keep,I.base.slot,fun b v q m x=>?_,I.base.there,fun b xs q=>?_,fun b v w q=>?_,fun b ps q=>?_⟩,I.loc,I.cell,?_,fun x c q=>?_,fun p hp=>?_,fun b v q=>?_,I.len⟩
 ·have:=I.base.free b v q m x;rw [aE (nn this)];exact this
 ·have:=I.base.tups b xs q;rw [aE (ne this (by intro _ _ c;cases c))];exact this
 ·have z:=I.base.frzs b v w q;rw [aE (fun c=>by rw [c] at q;exact n _ _ q)];exact z
 ·obtain ⟨m,z⟩:=I.base.tbls b ps q;exact ⟨m,by rw [aE (ne z (by intro _ _ c;cases c))];exact z⟩
 ·rw [aE (nn I.free)];exact I.free
 ·rw [aE (nn (I.freeC x c q))];exact I.freeC x c q
 ·have z:=I.pin p hp;exact ⟨z.1,by rw [aE (nn z.2.1)];exact z.2.1,z.2.2⟩
 ·have tk:∀ c xs,H c=some (.tup xs)->aJ H a u c=some (.tup xs):=fun c xs q=>by rw [aE (ne q (by intro _ _ z;cases z))];exact q
  have wk:∀ c,H c=some (.own b)->aJ H a u c=some (.own b):=fun c q=>by rw [aE (ne q (by intro _ _ z;cases z))];exact q
  by_cases hb:b=a
  ·subst hb;rw [aC] at q
   cases q
   exact (show bD X.prog X.w H s.heap b u from (I.hok b _ e).2).stay (fun c v _ q=>q) wk tk
  ·rw [aE hb] at q;exact (I.hok b v q).stay (fun c v _ q=>q) wk tk
def bN7 (H0:Hp) (t:TS):TS:=fun D σ H=>t { D with nx:=fun σ' G=>D.nx σ' G\/∃ a o u,G a=some (.frz o u)/\(∀ o' u',H0 a≠some (.frz o' u'))/\(∀ xs,u≠ .tup xs)/\(∀ y,u≠ .own y)/\D.nx σ' (aJ G a u) } σ H
theorem aA2 {X:Cx}{st:Stmt}{t:TS}(h:PS X st t):PS X st (bN7 X.H₀ t):=by
 intro pins s σ H D I q;refine cI (h pins s σ H _ I q) fun f s' q=>?_
 cases f with
 |next =>
  obtain ⟨σ',G,I',p | ⟨a,o,u,e1,n,nt,nw,p⟩⟩:=q
  ·exact ⟨σ',G,I',p⟩
  ·exact ⟨σ',_,I'.thaw e1 n nt nw,p⟩
 |ret v=>exact q
 |brk=>exact q
 |cont=>exact q
def pL (v d:Addr):HO:= .ext fun h=>h.IsValuesView v d
theorem IsValuesView.at' {h h':Heap}{v d:Addr}(x:h.IsValuesView v d) (e:∀ o,h.get? v=some o->h'.get? v=some o):h'.IsValuesView v d:=let ⟨o,ho,r⟩:=x;⟨o,e _ ho,r⟩
section
variable {X:Cx}
end
section
variable {prog:Program}{w:World}{A:Around}{E:Value->Shared->Prop}{s:Shared}{d it v:Addr}{o:Obj}{es:Array DictEntry}{ep i:Nat}
theorem vC {e:DictEntry}{Q:Option Value->Shared->Prop}(hit:s.heap.IsValIter it d i es.size ep) (h1:s.heap.get? d=some o) (h3:o.data= .dict es ep) (he:es[i]?=some e)
  (hQ:∀ h',h'.IsValIter it d (i+1) es.size ep->Heap.SameBut it s.heap h'->Q (some e.val) { s with heap:=h' }):wpAny (model prog w) A (pyNext (.ref it)) Q E s:=by
 obtain ⟨oi,ho,hc,hd⟩:=id hit;unfold pyNext;refine aa (lh (db (name:=Str.ofString "__next__") hit.typeIs jf (cr jf hit.typeIs uj ?_ (uc _))));refine (show wpAny _ _ (Builtin.Dict_items.slot0 "__next__" ⟨[.ref it],[]⟩ >>= _) _ _ _ from aa ?_);unfold Builtin.Dict_items.slot0 slotArgs;simp only [List.isEmpty_nil,Bool.not_true,Bool.false_eq_true,if_false,bind_assoc,List.length_nil,bne_self_eq_false];refine aa (ac (ac (aa ?_)));refine (show wpAny _ _ ((typeNameOfWhole (.ref it) >>= fun _=>_) >>= fun _=>_) _ _ _ from aa (aa (jk hit.typeIs (ac ?_))));refine aa (pf ho hd ?_)
 dsimp only
 refine (show wpAny _ _ (dictEntries d >>= fun _=>_) _ _ _ from aa (di h1 h3 ?_));rw [ao (by simp)];refine (show wpAny _ _ (dictEpoch d >>= fun _=>_) _ _ _ from aa (dt h1 h3 ?_));rw [ao (by simp)];refine ac ?_;refine (show wpAny _ _ (match if (i:Int) < 0 then none else es[(i:Int).toNat]? with | some e=>_ | none=>_) _ _ _ from ?_);rw [ao (by omega),cy,he]
 dsimp only
 refine (show wpAny _ _ ((typeNameOfWhole (.ref it) >>= fun _=>_) >>= fun _=>_) _ _ _ from aa (aa (jk hit.typeIs (ac ?_))));refine aa (ug hit.typeIs ?_);refine aa (mq ho hd (by show (1:Nat) < 4;decide) ?_);have hit':(s.heap.update it (Obj.mapFields (·.setIfInBounds 1 (rawInt ((i:Int)+1))))).IsValIter it d (i+1) es.size ep :=
  ⟨_,jd _ ho (uf (km hd _)),(xc ..).trans hc,by rw [km hd];simp [rawInt]⟩
 refine aa (cp ?_);refine (show wpAny _ _ (Builtin.Dict_items.isOneOf (.ref it) _ >>= fun _=>_) _ _ _ from aa (ug (s:={ s with heap:=s.heap.update it (Obj.mapFields (·.setIfInBounds 1 (rawInt ((i:Int)+1)))) }) hit'.typeIs ?_));refine (show wpAny _ _ (Builtin.Dict_items.isOneOf (.ref it) _ >>= fun _=>_) _ _ _ from aa (ug (s:={ s with heap:=s.heap.update it (Obj.mapFields (·.setIfInBounds 1 (rawInt ((i:Int)+1)))) }) hit'.typeIs ?_));refine (show wpAny _ _ (pure e.val) _ _ _ from ac ?_);exact ac ⟨_,rfl,ac (hQ _ hit' (ju ..))⟩
theorem zU {Q:Option Value->Shared->Prop}(hh:A.handled=none) (hit:s.heap.IsValIter it d i es.size ep) (h1:s.heap.get? d=some o) (h3:o.data= .dict es ep) (he:es[i]?=none)
  (hQ:∀ h',(∀ c u,c≠it->s.heap.get? c=some u->h'.get? c=some u)->Q none { s with heap:=h' }):wpAny (model prog w) A (pyNext (.ref it)) Q E s:=by
 obtain ⟨oi,ho,hc,hd⟩:=id hit;unfold pyNext;refine aa (lh (db (name:=Str.ofString "__next__") hit.typeIs jf (cr jf hit.typeIs uj ?_ (uc _))));refine (show wpAny _ _ (Builtin.Dict_items.slot0 "__next__" ⟨[.ref it],[]⟩ >>= _) _ _ _ from aa ?_);unfold Builtin.Dict_items.slot0 slotArgs;simp only [List.isEmpty_nil,Bool.not_true,Bool.false_eq_true,if_false,bind_assoc,List.length_nil,bne_self_eq_false];refine aa (ac (ac (aa ?_)));refine (show wpAny _ _ ((typeNameOfWhole (.ref it) >>= fun _=>_) >>= fun _=>_) _ _ _ from aa (aa (jk hit.typeIs (ac ?_))));refine aa (pf ho hd ?_)
 dsimp only
 refine (show wpAny _ _ (dictEntries d >>= fun _=>_) _ _ _ from aa (di h1 h3 ?_));rw [ao (by simp)];refine (show wpAny _ _ (dictEpoch d >>= fun _=>_) _ _ _ from aa (dt h1 h3 ?_));rw [ao (by simp)];refine ac ?_;refine (show wpAny _ _ (match if (i:Int) < 0 then none else es[(i:Int).toNat]? with | some e=>_ | none=>_) _ _ _ from ?_);rw [ao (by omega),cy,he]
 dsimp only
 refine (show wpAny _ _ ((typeNameOfWhole (.ref it) >>= fun _=>_) >>= fun _=>_) _ _ _ from aa (aa (jk hit.typeIs (ac ?_))));refine aa (mq ho hd (by show (0:Nat) < 4;decide) ?_);refine kR (show A.in1.handled=none from hh) fun e g kp ex=>?_
 obtain ⟨oe,e1,e2⟩:=ex;refine aa (jw (T:="StopIteration") (b:=true) ⟨oe,e1,e2⟩ vt ?_);exact ac (hQ _ fun c u hc e=>kp c u (by rw [ja _ _ _ _ hc];exact e))
theorem vJ {Q:Value->Shared->Prop}(hv:s.heap.IsValuesView v d) (h1:s.heap.get? d=some o) (h3:o.data= .dict es ep)
  (h:Q (.ref s.heap.objs.size) { s with heap:=s.heap.push { cls:= .type "dict_valueiterator",data:= .fields #[.ref d,.int 0 0,.int (es.size:Nat) 0,.int (ep:Nat) 0] } }):wpAny (model prog w) A (pyIter (.ref v)) Q E s:=by
 obtain ⟨ov,v1,v2,v3⟩:=id hv;refine xh hv.typeIs yi (cr yi hv.typeIs F.entry_dict_values_iter ?_ (F.args_dict_values_iter_1 _));unfold Builtin.«dict_values.__iter__» Builtin.Dict_items.dictOf Builtin.Dict_items.newIterator;refine aa (ac (aa (aa (fu v1 v3 (x:= .ref d) rfl (ac (aa (aa (di h1 h3 (aa (dt h1 h3 ?_))))))))));rw [show Builtin.Dict_items.ownsTuple "dict_valueiterator"=false by decide];simp only [Bool.false_eq_true,if_false];exact fk (ac ⟨_,rfl,"dict_valueiterator",_,⟨_,aq _ rfl,rfl⟩,F.slot_dict_valueiterator_next.lookup,by simpa [rawInt] using h⟩)
theorem wI {Q:Value->Shared->Prop}(ns:(d == sysModules)=false) (h1:s.heap.get? d=some o) (h2:o.ExactDict)
  (h:Q (.ref s.heap.objs.size) { s with heap:=s.heap.push { cls:= .type "dict_values",data:= .fields #[.ref d] } }):wpAny (model prog w) A (call (.builtin "dict.values") [.ref d] []) Q E s:=by
 have hT:s.TypeIs (.ref d) "dict":=⟨o,h1,h2.1⟩
 refine cr qy hT PySem.F.entry_dict_values ?_ (PySem.F.args_dict_values_1 _);refine aa ?_;unfold Builtin.Dict.noArgs;refine aa (ik hT ?_);show wpAny _ _ (pure d) _ _ s;refine ac ?_;show wpAny _ _ (Builtin.Dict.showsAll d >>= _) _ _ s;unfold Builtin.Dict.showsAll;rw [ns,ao (by decide)];exact aa (ac (aa (fk (ac ⟨_,rfl,h⟩))))
theorem aJ6 {Q:Value->Shared->Prop}(ns:(d == sysModules)=false) (h1:s.heap.get? d=some o) (h2:o.ExactDict)
  (h:Q (.ref s.heap.objs.size) { s with heap:=s.heap.push { cls:= .type "dict_items",data:= .fields #[.ref d] } }):wpAny (model prog w) A (call (.builtin "dict.items") [.ref d] []) Q E s:=by
 have hT:s.TypeIs (.ref d) "dict":=⟨o,h1,h2.1⟩
 refine cr yj hT PySem.F.entry_dict_items ?_ (PySem.F.args_dict_items_1 _);refine aa ?_;unfold Builtin.Dict.noArgs;refine aa (ik hT ?_);show wpAny _ _ (pure d) _ _ s;refine ac ?_;show wpAny _ _ (Builtin.Dict.showsAll d >>= _) _ _ s;unfold Builtin.Dict.showsAll;rw [ns,ao (by decide)];exact aa (ac (aa (fk (ac ⟨_,rfl,h⟩))))
theorem aQ6 {Q:Value->Shared->Prop}(hv:s.heap.IsItemsView v d) (h1:s.heap.get? d=some o) (h3:o.data= .dict es ep)
  (h:Q (.ref s.heap.objs.size) { s with heap:=s.heap.push { cls:= .type "dict_itemiterator",data:= .fields #[.none,.bool false,.ref d,.int 0 0,.int (es.size:Nat) 0,.int (ep:Nat) 0,.none,.none] } }):wpAny (model prog w) A (pyIter (.ref v)) Q E s:=by
 obtain ⟨ov,v1,v2,v3⟩:=id hv;refine xh hv.typeIs ze (cr ze hv.typeIs F.entry_dict_items_iter ?_ (F.args_dict_items_iter_1 _));unfold Builtin.«dict_items.__iter__» Builtin.Dict_items.dictOf Builtin.Dict_items.newIterator;refine aa (ac (aa (aa (fu v1 v3 (x:= .ref d) rfl (ac (aa (aa (di h1 h3 (aa (dt h1 h3 ?_))))))))));rw [show Builtin.Dict_items.ownsTuple "dict_itemiterator"=true by decide];simp only [Bool.false_eq_true,if_false,if_true];exact fk (ac ⟨_,rfl,"dict_itemiterator",_,⟨_,aq _ rfl,rfl⟩,F.slot_dict_itemiterator_next.lookup,by simpa [rawInt,Builtin.Dict_items.ownedTupleFields] using h⟩)
  (by simp [sizeOk,Builtin.Dict_items.ownedTupleFields,sizeLine_eq])
theorem aR7 {e:DictEntry}{ok ov:Value}{Q:Option Value->Shared->Prop}(hit:IsItemIter s.heap it d i es.size ep ok ov) (h1:s.heap.get? d=some o) (h3:o.data= .dict es ep) (he:es[i]?=some e)
  (hQ:∀ h',IsItemIterOut h' it d (i+1) es.size ep e.key e.val s.heap.objs.size->h'.get? s.heap.objs.size=some { cls:= .type "tuple",data:= .seq #[e.key,e.val] }->(∀ b u,b≠it->s.heap.get? b=some u->h'.get? b=some u)->Q (some (.ref s.heap.objs.size)) { s with heap:=h' }) :
  wpAny (model prog w) A (pyNext (.ref it)) Q E s:=by
 obtain ⟨hp,g,dr,tk,os⟩:=s;have hT:Shared.TypeIs ⟨hp,g,dr,tk,os⟩ (.ref it) "dict_itemiterator":=⟨_,hit,rfl⟩
 unfold pyNext;refine aa (lh (db (name:=Str.ofString "__next__") hT jn (cr jn hT vh ?_ (um _))));refine (show wpAny _ _ (Builtin.Dict_items.slot0 "__next__" ⟨[.ref it],[]⟩ >>= _) _ _ _ from aa ?_);unfold Builtin.Dict_items.slot0 slotArgs;simp only [List.isEmpty_nil,Bool.not_true,Bool.false_eq_true,if_false,bind_assoc,List.length_nil,bne_self_eq_false];refine aa (ac (ac (aa ?_)));refine (show wpAny _ _ ((typeNameOfWhole (.ref it) >>= fun _=>_) >>= fun _=>_) _ _ _ from aa (aa (jg hT (ac ?_))));refine aa (pf hit rfl ?_)
 dsimp only
 refine (show wpAny _ _ (dictEntries d >>= fun _=>_) _ _ _ from aa (di h1 h3 ?_));rw [ao (by simp)];refine (show wpAny _ _ (dictEpoch d >>= fun _=>_) _ _ _ from aa (dt h1 h3 ?_));rw [ao (by simp)];refine ac ?_;refine (show wpAny _ _ (match if (i:Int) < 0 then none else es[(i:Int).toNat]? with | some e=>_ | none=>_) _ _ _ from ?_);rw [ao (by omega),cy,he]
 dsimp only
 refine (show wpAny _ _ ((typeNameOfWhole (.ref it) >>= fun _=>_) >>= fun _=>_) _ _ _ from aa (aa (jg hT (ac ?_))));refine aa (tf hT ?_);refine (show wpAny _ _ (setField (.ref it) 3 (rawInt ((i:Int)+1)) >>= _) _ _ _ from aa (fy hit (by simp) fun g1 a1 b1=>?_));have a1:IsItemIter g1 it d (i+1) es.size ep ok ov:=by
  have q:((i+1:Nat):Int)=(i:Int)+1:=by omega
  unfold IsItemIter;rw [q]
  simpa [rawInt] using a1
 have T1:Shared.TypeIs ⟨g1,g,dr,tk,os⟩ (.ref it) "dict_itemiterator":=⟨_,a1,rfl⟩
 refine aa (cp (aa (tf T1 (aa (tf T1 ?_)))));refine (show wpAny _ _ (Builtin.Dict_items.pairFromOwner (.ref it) 6 e.key e.val) _ _ _ from ?_);unfold Builtin.Dict_items.pairFromOwner Builtin.Dict_items.ownedTupleIsFree;refine aa (zt ?_);have z1:g1.objs.size=hp.objs.size:=b1.1;have il:it < hp.objs.size:=az hit;have t2:(g1.push { cls:= .type "tuple",data:= .seq #[e.key,e.val] }).get? hp.objs.size=some { cls:= .type "tuple",data:= .seq #[e.key,e.val] }:=by rw [<- z1];exact aq _ rfl
 have a2:IsItemIter (g1.push { cls:= .type "tuple",data:= .seq #[e.key,e.val] }) it d (i+1) es.size ep ok ov:=ag _ a1;have k2:∀ b u,b≠it->hp.get? b=some u->(g1.push { cls:= .type "tuple",data:= .seq #[e.key,e.val] }).get? b=some u:=fun b u n q=>ag _ (b1.extBut b u n q)
 rw [z1];generalize g1.push { cls:= .type "tuple",data:= .seq #[e.key,e.val] }=g2 at t2 a2 k2 ⊢;refine aa (aa (fu a2 rfl (x:= .none) rfl (ac ?_)));simp only [if_true];refine aa (fu a2 rfl (x:=ok) rfl (aa (fu a2 rfl (x:=ov) rfl (aa (fy a2 (by simp) fun g3 a3 b3=>?_)))));have a3:IsItemIter g3 it d (i+1) es.size ep e.key ov:=a3;refine aa (fy a3 (by simp) fun g4 a4 b4=>?_);have a4:IsItemIter g4 it d (i+1) es.size ep e.key e.val:=a4;refine aa (fy a4 (by simp) fun g5 a5 b5=>?_);have a5:IsItemIterOut g5 it d (i+1) es.size ep e.key e.val hp.objs.size:=a5;refine aa (fy a5 (by simp) fun g6 a6 b6=>?_);have a6:IsItemIterOut g6 it d (i+1) es.size ep e.key e.val hp.objs.size:=a6;have kk:∀ b u,b≠it->g2.get? b=some u->g6.get? b=some u:=fun b u n q=>b6.extBut b u n (b5.extBut b u n (b4.extBut b u n (b3.extBut b u n q)))
 exact aa (sy (ac (ac ⟨_,rfl,ac (hQ g6 a6 (kk _ _ (nc il) t2) fun b u n q=>kk b u n (k2 b u n q))⟩)))
theorem aU8 {ok ov:Value}{Q:Option Value->Shared->Prop}(hh:A.handled=none) (hit:IsItemIter s.heap it d i es.size ep ok ov) (h1:s.heap.get? d=some o) (h3:o.data= .dict es ep) (he:es[i]?=none)
  (hQ:∀ h',(∀ c u,c≠it->s.heap.get? c=some u->h'.get? c=some u)->Q none { s with heap:=h' }):wpAny (model prog w) A (pyNext (.ref it)) Q E s:=by
 have hT:s.TypeIs (.ref it) "dict_itemiterator":=⟨_,hit,rfl⟩
 unfold pyNext;refine aa (lh (db (name:=Str.ofString "__next__") hT jn (cr jn hT vh ?_ (um _))));refine (show wpAny _ _ (Builtin.Dict_items.slot0 "__next__" ⟨[.ref it],[]⟩ >>= _) _ _ _ from aa ?_);unfold Builtin.Dict_items.slot0 slotArgs;simp only [List.isEmpty_nil,Bool.not_true,Bool.false_eq_true,if_false,bind_assoc,List.length_nil,bne_self_eq_false];refine aa (ac (ac (aa ?_)));refine (show wpAny _ _ ((typeNameOfWhole (.ref it) >>= fun _=>_) >>= fun _=>_) _ _ _ from aa (aa (jg hT (ac ?_))));refine aa (pf hit rfl ?_)
 dsimp only
 refine (show wpAny _ _ (dictEntries d >>= fun _=>_) _ _ _ from aa (di h1 h3 ?_));rw [ao (by simp)];refine (show wpAny _ _ (dictEpoch d >>= fun _=>_) _ _ _ from aa (dt h1 h3 ?_));rw [ao (by simp)];refine ac ?_;refine (show wpAny _ _ (match if (i:Int) < 0 then none else es[(i:Int).toNat]? with | some e=>_ | none=>_) _ _ _ from ?_);rw [ao (by omega),cy,he]
 dsimp only
 refine (show wpAny _ _ ((typeNameOfWhole (.ref it) >>= fun _=>_) >>= fun _=>_) _ _ _ from aa (aa (jg hT (ac ?_))));refine aa (mq hit rfl (by show (2:Nat) < 8;decide) ?_);refine kR (show A.in1.handled=none from hh) fun e g kp ex=>?_
 obtain ⟨oe,e1,e2⟩:=ex;refine aa (jw (T:="StopIteration") (b:=true) ⟨oe,e1,e2⟩ vt ?_);exact ac (hQ _ fun c u hc e=>kp c u (by rw [ja _ _ _ _ hc];exact e))
end
section
variable {prog:Program}{w:World}{A:Around}{E:Value->Shared->Prop}{s:Shared}
end
section
variable {X:Cx}
end
open PySem PySem.Spec PyProof.Rows PySem.MeetsSeq
section
variable {prog:Program}{w:World}{A:Around}{E:Value->Shared->Prop}{s:Shared}
end
section
variable {X:Cx}{pins:List (Addr×Obj)}{σ: St}{H:Hp}{s:Shared}
end
open PySem PySem.Spec PyProof.Rows
section
variable {prog:Program}{w:World}{A:Around}{d it v:Addr}{o:Obj}{es:Array DictEntry}{ep:Nat}
theorem aN1 (hh:A.handled=none) (hne:d≠it) (h3:o.data= .dict es ep) :
  Walks prog w A it [it,d] [it] es.size (fun i v=>∃ e,es[i]?=some e/\v=e.val) (fun i h=>h.IsValIter it d i es.size ep/\h.get? d=some o) where
 sub:=fun b hb=>by simp at hb;simp [hb]
 frame:=fun _ _ _ st hk=>⟨st.1.at fun o e=>hk it (by simp) o e,hk d (by simp) _ st.2⟩
 item:=fun i s Q E hi st hQ=>vC st.1 st.2 h3 (ii hi) fun h' hit' sb=>hQ _ h' s.toks ⟨_,ii hi,rfl⟩ ⟨hit',(sb.2 d hne).trans st.2⟩ fun b o hb e=>(sb.2 b (fun z=>hb (by simp [z]))).trans e
 done:=fun s Q E st hQ=>zU hh st.1 st.2 h3 (ox (ak _)) fun h' k=>hQ h' s.toks fun b o hb e=>k b o (fun z=>hb (by simp [z])) e
 self:=fun _ _ _ _ st hQ=>aAh st.1 hQ
theorem bE9 (h3:o.data= .dict es ep):W.KdlSrc prog w "dict_values" v d es.size (fun i x=>∃ e,es[i]?=some e/\x=e.val) (fun h=>h.IsValuesView v d/\h.get? d=some o) where
 type:=fun _ x=>x.1.typeIs
 there:=fun _ x=>⟨let ⟨_,q,_⟩:=x.1;az q,az x.2⟩
 keep:=fun _ _ x k=>⟨let ⟨u,q,r⟩:=x.1;⟨u,k v (.inl rfl) u q,r⟩,k d (.inr rfl) _ x.2⟩
 notList:=by decide
 notTuple:=by decide
 hint:=fun _ _ _ _ x q=>W.kdl_hint_values x.1.typeIs q
 iter:=fun _ _ hh x=>⟨_,_,(fun _ _ q=>vJ x.1 x.2 h3 q),aN1 hh (bv (az x.2)) h3,⟨⟨_,aq _ rfl,rfl,rfl⟩,ag _ x.2⟩⟩
end
def bD9 (P:Program) (w:World) (H:Hp) (d:Addr) (vs:List V):Prop:=(∃ kvs:List (Key×V),Rd H d (.dK kvs)/\kvs.map (·.2)=vs)\/(∃ kvs:List (List Key×V),Rd H d (.dT kvs)/\kvs.map (·.2)=vs)\/∃ xs:List NE,Rd H d (dN P w d xs)/\xs.map (·.2.2)=vs
section
variable {X:Cx}{pins:List (Addr×Obj)}{σ: St}{H:Hp}{s:Shared}{d:Addr}{vs:List V}
theorem uQ (I:aN X pins σ H s) (h:bD9 X.prog X.w H d vs):(d == sysModules)=false/\vs.length<=sizeLine/\∃ o es ep,s.heap.get? d=some o/\o.ExactDict/\o.data= .dict es ep/\es.size=vs.length/\∀ (i:Nat) v,vs[i]?=some v->∃ e:DictEntry,es[i]?=some e/\bA v e.val:=by
 rcases h with ⟨kvs,h,rfl⟩ | ⟨kvs,h,rfl⟩ | ⟨xs,h,rfl⟩
 ·obtain ⟨z,hd,ys,rel,dd⟩:=mZ I.hok h;obtain ⟨o,es,ep,h1,h2,h3,h4,h5,h6⟩:=id dd;have l1:es.size=ys.length:=by rw [<- h5.length];simp
  have l2:kvs.length=ys.length:=fw rel;refine ⟨hd,by rw [af];exact z,o,es,ep,h1,h2,h3,by rw [af];omega,fun i v hv=>?_⟩;rw [bf] at hv
  cases q:kvs[i]? with
  |none=>rw [q] at hv;cases hv
  |some p =>
   rw [q] at hv
   cases hv
   obtain ⟨u,hu,ru⟩:=aL5 (i:=i) (k:=p.1) (v:=p.2) rel q;have hi:i < es.size:=by rw [l1];exact (bq.mp hu).1
   obtain ⟨_,e2⟩:=h5.get? (e:=es[i]) (by simp [hi]) hu;exact ⟨es[i],ii hi,by rw [e2];exact ru⟩
 ·obtain ⟨z,hd,ys,rel,dd⟩:=mX I.hok h;obtain ⟨o,es,ep,h1,h2,h3,h4,h5,h6⟩:=id dd;have l2:kvs.length=ys.length:=fw rel;have l1:es.size=ys.length:=by rw [<- fj,h4,af]
  refine ⟨hd,by rw [af];exact z,o,es,ep,h1,h2,h3,by rw [af];omega,fun i v hv=>?_⟩;rw [bf] at hv
  cases q:kvs[i]? with
  |none=>rw [q] at hv;cases hv
  |some p =>
   rw [q] at hv
   cases hv
   obtain ⟨u,hu,ru⟩:=lV rel q;exact ⟨_,by rw [<- eo,h4,bf,hu];rfl,ru.2.2⟩
 ·obtain ⟨z,y,nd,ys,r,o,es,ep,h1,h2,h3,h4⟩:=(show bD X.prog X.w H s.heap d (dN X.prog X.w d xs) from aB2 I.hok h).1;have l2:xs.length=ys.length:=fw r;have l1:es.size=ys.length:=by rw [<- fj,h4,af]
  refine ⟨y,by rw [af];exact z,o,es,ep,h1,h2,h3,by rw [af];omega,fun i v hv=>?_⟩;rw [bf] at hv
  cases q:xs[i]? with
  |none=>rw [q] at hv;cases hv
  |some p =>
   rw [q] at hv
   cases hv
   obtain ⟨u,hu,ru⟩:=lV r q;exact ⟨_,by rw [<- eo,h4,bf,hu];rfl,ru.2.2⟩
end
section
variable {X:Cx}
def bH8 (P:Program) (w:World) (td:TE):TE:=fun σ H Q=>td σ H fun x H1=>∃ d vs,x= .ref d/\bD9 P w H1 d vs/\∀ v,H1 v=none->Q (.ref v) (aJ H1 v (pL v d))
theorem aJ8 {o:Expr}{apos cpos:Pos}{td:TE}(ho:PE X o td) (hbase:attributeBase o "values" X.env (eval o X.env)=eval o X.env:=by rfl) (hline:(apos.endLine == cpos.line)=true:=by rfl):PE X (.Call (.Attribute o "values" apos) [] [] cpos) (bH8 X.prog X.w td):=by
 intro pins s σ H Q I h;refine nh hbase hline (cI (ho pins s σ H _ I h) fun v s1 ⟨x,H1,I1,r1,d,vs,ex,hd,q1⟩=>?_);subst ex;obtain rfl:v=Value.ref d:=r1;obtain ⟨hs,z,ob,es,ep,g1,g2,g3,_⟩:=uQ I1 hd;have ty:s1.TypeIs (.ref d) "dict":=⟨ob,g1,g2.1⟩
 refine ⟨"dict","dict.values",jo,qy,yb,ty,fun b q=>?_,gy rfl (qh ?_)⟩
 ·cases q
  exact ⟨ob,g1,g2.2.1⟩
 refine wI hs g1 g2 ?_;have f:=I1.hok.fresh (ak s1.heap.objs.size);have e1:(s1.heap.push { cls:= .type "dict_values",data:= .fields #[.ref d] }).get? s1.heap.objs.size=some { cls:= .type "dict_values",data:= .fields #[.ref d] }:=aq _ rfl;exact ⟨.ref s1.heap.objs.size,_,I1.laid (o:=pL s1.heap.objs.size d) (t':=s1.toks) (fun b u e=>ag _ e) (ak _) ⟨⟨_,e1,rfl,rfl⟩,⟨_,e1⟩,fun h1 h2 a b=>IsValuesView.at' a b⟩,rfl,q1 _ f⟩
theorem zK (hc:X.calm=true:=by rfl):cB X (.type "list") (fun xs H Q=>∃ (v d:Addr) (vs:List V),xs=[.ref v]/\H v=some (pL v d)/\bD9 X.prog X.w H d vs/\∀ l,H l=none->Q (.ref l) (aJ H l (.lst vs))):=by
 intro pins s σ H xs us Q I r h;obtain ⟨p,d,vs,rfl,hp,hd,q⟩:=h;obtain ⟨u,rfl,ru⟩:=eW r
 cases ru
 obtain ⟨hs,z,o,es,ep,g1,g2,g3,sz,gv⟩:=uQ I hd;have vw:s.heap.IsValuesView p d:=(show bD X.prog X.w H s.heap p (pL p d) from I.hok p _ hp).1;refine W.kdl_call (bE9 (o:=o) (es:=es) (ep:=ep) g3) (I.ok.hd hc) ⟨vw,g1⟩ (by rw [sz];exact z) fun h' tk acc c kp hl ai=>?_
 have f:=I.hok.fresh (ak s.heap.objs.size);refine ⟨.ref s.heap.objs.size,_,I.laid (o:= .lst vs) (t':=tk) kp (ak _) ⟨z,acc.toList,c,?_,by rw [hl,pq]⟩,rfl,q _ f⟩;have al:acc.toList.length=vs.length:=by rw [fj,ai.1,sz]
 have all:∀ (a:List V) (b:List Value),b.length=a.length->(∀ (i:Nat) x y,a[i]?=some x->b[i]?=some y->bA x y)->aZ a b:=by
  intro a
  induction a with
  |nil=>intro b hb _;cases b with
   |nil=>exact .nil
   |cons _ _=>cases hb
  |cons x a ih=>intro b hb hr;cases b with
   |nil=>cases hb
   |cons y b=>exact .cons (hr 0 x y rfl rfl) (ih b (by simpa using hb) fun i x y h1 h2=>hr (i+1) x y (by simpa using h1) (by simpa using h2))
 refine all vs acc.toList al fun i x y hx hy=>?_
 obtain ⟨e,he,ey⟩:=ai.2 i y (by rw [<- eo];exact hy);obtain ⟨e2,h2,r2⟩:=gv i x hx;rw [he] at h2
 cases h2
 rw [ey];exact r2
end
theorem aN.freezeE {X:Cx}{pins:List (Addr×Obj)}{σ: St}{H:Hp}{s:Shared}{d:Addr}{o:Obj}{φ: Heap->Prop}(I:aN X pins σ H s) (h:H d=some (.ext φ)) (ho:s.heap.get? d=some o) :
  aN X pins σ (aJ H d (.frz o (.ext φ))) s:=by
 have nd:∀ b u,H b=some u->(∀ z,u≠ .ext z)->b≠d:=fun b u e hu z=>by
  rw [z,h] at e;exact hu _ (da e).symm
 refine I.step (g':=s.gens) (d':=s.drawn) (t':=s.toks) (h':=s.heap) (ch:=[]) (fun _ z=>nomatch z) (fun b u _ _ _ e _=>e) (fun b u _ _ _ e _=>⟨u.slots,e⟩) (fun b u _ e n=>by rw [aE (fun z=>by rw [z,h] at n;cases n)];exact n)
  (fun b u _ e=>⟨u,e⟩) (fun b xs e=>by rw [aE (nd b _ e (by intro z c;cases c))];exact e) (fun b u v e=>by rw [aE (nd b _ e (by intro z c;cases c))];exact e)
  (fun b ps e=>⟨#[],by rw [aE (nd b _ e (by intro z c;cases c)),e];simp⟩) (fun m hm=>hm) (fun b u e=>?_) I.bare
 by_cases hb:b=d
 ·subst hb;rw [aC] at e
  cases e
  refine ⟨ho,?_⟩;exact (show bD X.prog X.w H s.heap b (.ext φ) from I.hok b _ h).stay (fun c v _ q=>q) (fun c q=>by rw [aE (nd c _ q (by intro z w;cases w))];exact q) fun c xs q=>by rw [aE (nd c _ q (by intro z w;cases w))];exact q
 ·rw [aE hb] at e;exact (I.hok b u e).stay (fun c v _ q=>q) (fun c q=>by rw [aE (nd c _ q (by intro z w;cases w))];exact q) fun c xs q=>by rw [aE (nd c _ q (by intro z w;cases w))];exact q
theorem jO {X:Cx}{pins:List (Addr×Obj)}{σ: St}{H:Hp}{s:Shared}{d:Addr}{o:Obj}{xs:List NE}{es:Array DictEntry}{ep:Nat}(I:aN X pins σ H s) (ho:o.data= .dict es ep) (h:H d=some (.frz o (dN X.prog X.w d xs))) :
  s.heap.get? d=some o/\o.ExactDict/\(d == sysModules)=false/\es.size=xs.length/\∀ (i:Nat) (x:NE),xs[i]?=some x->∃ e:DictEntry,es[i]?=some e/\e.key= .ref x.2.1/\bA x.2.2 e.val:=by
 obtain ⟨e,hh,_⟩:=(show bD X.prog X.w H s.heap d (.frz o (dN X.prog X.w d xs)) from I.hok d _ h)
 obtain ⟨z,ns,nd,ys,r,o',es',ep',h1,h2,h3,h4⟩:=hh;rw [e] at h1
 cases h1
 rw [ho] at h3
 cases h3
 have l:xs.length=ys.length:=fw r;refine ⟨e,h2,ns,by rw [<- fj,h4,af];omega,fun i x hx=>?_⟩;obtain ⟨q,hq,r1,r2,r3⟩:=lV r hx;exact ⟨_,by rw [<- eo,h4,bf,hq];rfl,by rw [r2];rfl,r3⟩
def ItI (P:Program) (w:World) (d:Addr) (o:Obj) (xs:List NE):It :=
 ⟨fun i H=>i < xs.length/\H d=some (.frz o (dN P w d xs)),fun i H x H'=>∃ t y,H t=none/\xs[i]?=some y/\x= .ref t/\H'=aJ H t (.tup [.ref y.2.1,y.2.2]),fun i H=>xs.length<=i/\H d=some (.frz o (dN P w d xs))⟩
theorem yK {P:Program}{w:World}{K:W.Frag}{elts:List Expr}{x1:Nat}{pos:Pos}(d it:Addr) (o:Obj) (xs:List NE) {es:Array DictEntry}{ep:Nat}(ho:o.data= .dict es ep) (sz:es.size=xs.length) :
  uP P w K (.Tuple elts x1 pos) (ItI P w d o xs) [it] it (fun i h=>∃ ok ov,IsItemIter h it d i es.size ep ok ov) where
 mem:=by simp
 obj:=fun i h st b hb=>by
  have e:b=it:=by simpa using hb
  subst e;obtain ⟨_,_,st⟩:=st;exact ⟨_,st,fun v z=>by cases z⟩
 keep:=fun i h h' st k=>let ⟨a,b,st⟩:=st;⟨a,b,k it (by simp) _ st⟩
 item:=by
  intro X hP hw hK hc i pins s σ H E I hf st hg;subst hP hw hK;obtain ⟨hi,hd⟩:=hg;obtain ⟨ok,ov,st⟩:=st;obtain ⟨h1,h2,ns,sz,at'⟩:=jO I ho hd;obtain ⟨e,he,ek,ev⟩:=at' i xs[i] (aj hi);refine aR7 st h1 ho he fun g z1 T1 k1=>⟨_,rfl,wpAny_letOwnedTupleGo_items z1 fun g2 z2 sb=>?_⟩
  have nT:s.heap.objs.size≠it:=nc (az st);have kk:∀ c u,c∉[it]->s.heap.get? c=some u->g2.get? c=some u:=fun c u hc e=>by
   have hc:c≠it:=by simpa using hc
   exact (sb.2 c hc).trans (k1 c u hc e)
  have TT:g2.get? s.heap.objs.size=some { cls:= .type "tuple",data:= .seq #[e.key,e.val] }:=(sb.2 _ nT).trans T1;have I2:=I.turnedNew (T:=s.heap.objs.size) (o:= .tup [.ref xs[i].2.1,xs[i].2.2]) (rs:=[it]) (t':=s.toks) hf kk (ak _) ⟨cE,[e.key,e.val],.cons ek (.cons ev .nil),⟨_,TT,rfl,_,rfl,rfl⟩⟩;refine ⟨.ref s.heap.objs.size,_,I2,rfl,⟨_,xs[i],I.fresh,aj hi,rfl,rfl⟩,⟨_,_,z2⟩,fun c hc=>?_⟩;have e:c=it:=by simpa using hc
  rw [aE (by rw [e];exact nT.symm)];exact (hf c hc).1
 done:=by
  intro X hP hw hK hc i pins s σ H E I hf st hg;subst hP hw hK;obtain ⟨hi,hd⟩:=hg;obtain ⟨ok,ov,st⟩:=st;obtain ⟨h1,h2,ns,sz,at'⟩:=jO I ho hd;refine aU8 (I.ok.hd hc) st h1 ho (ox (by omega)) fun g k=>⟨rfl,I.turnedL (rs:=[it]) (t':=s.toks) hf fun c u hc e=>?_⟩
  exact k c u (by simpa using hc) e
 self:=fun A i s Q E st h=>by
  obtain ⟨_,_,st⟩:=st;exact W.kcp_self st h
def bC9 (P:Program) (w:World) (td:TE):TI:=fun σ H R=>td σ H fun x H1=>∃ d xs,x= .ref d/\H1 d=some (dN P w d xs)/\∀ o,R (ItI P w d o xs) (aJ H1 d (.frz o (dN P w d xs)))
theorem qI {X:Cx}{o:Expr}{apos cpos:Pos}{td:TE}{elts:List Expr}{x1:Nat}{tpos:Pos}(ho:PE X o td) (hbase:attributeBase o "items" X.env (eval o X.env)=eval o X.env:=by rfl) (hline:(apos.endLine == cpos.line)=true:=by rfl) :
  PI X (.Tuple elts x1 tpos) (.Call (.Attribute o "items" apos) [] [] cpos) (bC9 X.prog X.w td):=by
 intro pins s σ H R I h;refine nh hbase hline (cI (ho pins s σ H _ I h) fun v s1 ⟨x,H1,I1,r1,d,xs,ex,hd,q1⟩=>?_);subst ex;obtain rfl:v=Value.ref d:=r1;obtain ⟨z,ns,nd,ys,r,ob,es,ep,g1,g2,g3,g4⟩:=(show bD X.prog X.w H1 s1.heap d (dN X.prog X.w d xs) from I1.hok d _ hd).1;have ty:s1.TypeIs (.ref d) "dict":=⟨ob,g1,g2.1⟩
 refine ⟨"dict","dict.items",jo,yj,PySem.F.type_dict_items,ty,fun b q=>?_,gy rfl (qh ?_)⟩
 ·cases q
  exact ⟨ob,g1,g2.2.1⟩
 refine aJ6 ns g1 g2 ?_;have I2:=I1.freezeE hd g1;obtain ⟨_,_,_,sz,_⟩:=jO I2 g3 aC;have I3:aN X pins σ _ { s1 with heap:=s1.heap.push { cls:= .type "dict_items",data:= .fields #[.ref d] } }:=I2.kept (t':=s1.toks) fun b u e=>ag _ e
 refine aQ6 (o:=ob) (es:=es) (ep:=ep) ⟨_,aq _ rfl,rfl,rfl⟩ (ag _ g1) g3 ?_;have f:(aJ H1 d (.frz ob (dN X.prog X.w d xs))) (s1.heap.push { cls:= .type "dict_items",data:= .fields #[.ref d] }).objs.size=none:=I3.hok.fresh (ak _);refine ⟨_,[(s1.heap.push { cls:= .type "dict_items",data:= .fields #[.ref d] }).objs.size],_,_,_,rfl,I3.kept (t':=s1.toks) fun b u e=>ag _ e,yK d _ ob xs g3 sz,⟨_,_,aq _ rfl⟩,fun b hb=>?_,q1 ob⟩;have e:b=(s1.heap.push { cls:= .type "dict_items",data:= .fields #[.ref d] }).objs.size:=by simpa using hb
 subst e;exact I3.fpOk (ak _) f
theorem qU {P:Program}{w:World}{d:Addr}{o:Obj}{xs:List NE}{g:TG}{tb:TS}{D:pZ}{σ: St}{H:Hp}(Pv:Nat->St->Hp->Prop) (h0:Pv 0 σ H) (hl:∀ i σ H,i<=xs.length->Pv i σ H->H d=some (.frz o (dN P w d xs)))
  (hs:∀ i x t σ H,xs[i]?=some x->H t=none->Pv i σ H->g (.ref t) σ (aJ H t (.tup [.ref x.2.1,x.2.2])) fun σ2 H2=>tb { D with nx:=Pv (i+1),ct:=Pv (i+1),bk:=D.nx } σ2 H2) (hd:∀ σ H,Pv xs.length σ H->D.nx σ H) :
  ∃ W:Nat->Nat->St->Hp->Prop,(∃ m,W 0 m σ H)/\∀ i m σ H,W i m σ H ->
   ((ItI P w d o xs).stop i H/\D.nx σ H)\/((ItI P w d o xs).go i H/\∃ N:St->Hp->Prop,(∀ σ' H',N σ' H'->∃ m',m' < m/\W (i+1) m' σ' H')/\∀ x H',(ItI P w d o xs).yld i H x H'->g x σ H' fun σ2 H2=>tb { D with nx:=N,ct:=N,bk:=D.nx } σ2 H2):=by
 refine ⟨fun i m σ H=>m=xs.length - i/\i<=xs.length/\Pv i σ H,⟨_,rfl,bz _,h0⟩,?_⟩;rintro i m σ H ⟨rfl,hi,p⟩
 by_cases c:i < xs.length
 ·right;refine ⟨⟨c,hl i σ H hi p⟩,Pv (i+1),fun σ' H' p'=>⟨xs.length - (i+1),by omega,rfl,c,p'⟩,?_⟩;rintro x H' ⟨t,y,ht,hy,rfl,rfl⟩;exact hs i y t σ H hy ht p
 ·left;have e:i=xs.length:=by omega
  exact ⟨⟨by omega,hl i σ H hi p⟩,hd σ H (by rw [<- e];exact p)⟩
theorem xZ {P:Program}{w:World}{d:Addr}{o:Obj}{xs:List NE}{g:TG}{tc:TT}{te:TE}{Kf:List V->Hp->Prop}{σ0:St}{H1:Hp}(Pv:Nat->List V->St->Hp->Prop) (hz:xs.length < sizeLine) (h0:Pv 0 [] σ0 H1) (hb:∀ i zs σ H,Pv i zs σ H->zs.length<=i)
  (hl:∀ i zs σ H,i<=xs.length->Pv i zs σ H->H d=some (.frz o (dN P w d xs)))
  (hs:∀ i x t zs σ H,xs[i]?=some x->H t=none->Pv i zs σ H->g (.ref t) σ (aJ H t (.tup [.ref x.2.1,x.2.2])) fun σ2 H2=>tc σ2 H2 fun b H3=>if b=true then te σ2 H3 fun y H4=>Pv (i+1) (zs++[y]) σ2 H4 else Pv (i+1) zs σ2 H3)
  (hd:∀ zs σ H,Pv xs.length zs σ H->Kf zs H):oQ (ItI P w d o xs) g tc te Kf σ0 H1:=by
 refine ⟨fun i m zs σ H=>m=xs.length - i/\i<=xs.length/\Pv i zs σ H,⟨xs.length,by simp,bz _,h0⟩,?_⟩;rintro i m zs σ H ⟨rfl,hi,p⟩;have q1:=hl i zs σ H hi p;refine ⟨dm (hb _ _ _ _ p) (dm hi hz),?_⟩
 by_cases hlt:i < xs.length
 ·refine .inr ⟨⟨hlt,q1⟩,Pv (i+1),fun zs' σ' H' p'=>⟨xs.length - (i+1),iz hlt (gm i),rfl,hlt,p'⟩,?_⟩;rintro x H' ⟨t,y,ht,hy,rfl,rfl⟩;exact hs i y t zs σ H hy ht p
 ·have e:i=xs.length:=by omega
  subst e;exact .inl ⟨⟨ak _,q1⟩,hd zs σ H p⟩
def ItV (P:Program) (w:World) (d:Addr) (o:Obj) (xs:List NE):It :=
 ⟨fun i H=>i < xs.length/\H d=some (.frz o (dN P w d xs)),fun i H x H'=>H'=H/\∃ y,xs[i]?=some y/\x=y.2.2,fun i H=>xs.length<=i/\H d=some (.frz o (dN P w d xs))⟩
theorem wM {P:Program}{w:World}{K:W.Frag}{tg:Expr}(d it:Addr) (o:Obj) (xs:List NE) {es:Array DictEntry}{ep:Nat}(ho:o.data= .dict es ep) (sz:es.size=xs.length) :
  uP P w K tg (ItV P w d o xs) [it] it (fun i h=>h.IsValIter it d i es.size ep) where
 mem:=by simp
 obj:=fun i h st b hb=>by
  have e:b=it:=by simpa using hb
  subst e;obtain ⟨o,e,c,q⟩:=st;exact ⟨o,e,fun v z=>by rw [q] at z;cases z⟩
 keep:=fun i h h' st k=>st.at fun o e=>k it (by simp) o e
 item:=by
  intro X hP hw hK hc i pins s σ H E I hf st hg;subst hP hw hK;obtain ⟨hi,hd⟩:=hg;obtain ⟨f0,f1,f2,f3,f4,f5⟩:=hf it (by simp);obtain ⟨h1,h2,ns,sz,at'⟩:=jO I ho hd;obtain ⟨e,he,ek,ev⟩:=at' i xs[i] (aj hi);refine vC st h1 ho he fun h' st' sb=>?_
  have I1:aN X pins σ H { s with heap:=h' }:=I.turned (t':=s.toks) (fun b o hb e=>(sb.2 b hb).trans e) f0 f1 f3 f4 f5;obtain ⟨o2,e2,c2,d2⟩:=id st';refine ⟨e.val,rfl,go_of (s:={ s with heap:=h' }) e2 c2 d2 (by decide) ⟨xs[i].2.2,H,I1,ev,⟨rfl,xs[i],aj hi,rfl⟩,st',fun b hb=>(hf b hb).1⟩⟩
 done:=by
  intro X hP hw hK hc i pins s σ H E I hf st hg;subst hP hw hK;obtain ⟨hi,hd⟩:=hg;obtain ⟨f0,f1,f2,f3,f4,f5⟩:=hf it (by simp);obtain ⟨h1,h2,ns,sz,at'⟩:=jO I ho hd;exact zU (I.ok.hd hc) st h1 ho (ox (by omega)) fun h' eb=>⟨rfl,I.turned (t':=s.toks) (fun b o hb e=>eb b o hb e) f0 f1 f3 f4 f5⟩
 self:=fun _ _ _ _ _ st h=>aAh st h
def bP2 (P:Program) (w:World) (td:TE):TI:=fun σ H R=>td σ H fun x H1=>∃ d xs,x= .ref d/\H1 d=some (dN P w d xs)/\∀ o,R (ItV P w d o xs) (aJ H1 d (.frz o (dN P w d xs)))
theorem aS8 {X:Cx}{o:Expr}{apos cpos:Pos}{td:TE}{tg:Expr}(ho:PE X o td) (hbase:attributeBase o "values" X.env (eval o X.env)=eval o X.env:=by rfl) (hline:(apos.endLine == cpos.line)=true:=by rfl) :
  PI X tg (.Call (.Attribute o "values" apos) [] [] cpos) (bP2 X.prog X.w td):=by
 intro pins s σ H R I h;refine nh hbase hline (cI (ho pins s σ H _ I h) fun v s1 ⟨x,H1,I1,r1,d,xs,ex,hd,q1⟩=>?_);subst ex;obtain rfl:v=Value.ref d:=r1;obtain ⟨z,ns,nd,ys,r,ob,es,ep,g1,g2,g3,g4⟩:=(show bD X.prog X.w H1 s1.heap d (dN X.prog X.w d xs) from I1.hok d _ hd).1;have ty:s1.TypeIs (.ref d) "dict":=⟨ob,g1,g2.1⟩
 refine ⟨"dict","dict.values",jo,qy,yb,ty,fun b q=>?_,gy rfl (qh ?_)⟩
 ·cases q
  exact ⟨ob,g1,g2.2.1⟩
 refine wI ns g1 g2 ?_;have I2:=I1.freezeE hd g1;obtain ⟨_,_,_,sz,_⟩:=jO I2 g3 aC;have I3:aN X pins σ _ { s1 with heap:=s1.heap.push { cls:= .type "dict_values",data:= .fields #[.ref d] } }:=I2.kept (t':=s1.toks) fun b u e=>ag _ e
 refine vJ (o:=ob) (es:=es) (ep:=ep) ⟨_,aq _ rfl,rfl,rfl⟩ (ag _ g1) g3 ?_;have f:(aJ H1 d (.frz ob (dN X.prog X.w d xs))) (s1.heap.push { cls:= .type "dict_values",data:= .fields #[.ref d] }).objs.size=none:=I3.hok.fresh (ak _);refine ⟨_,[(s1.heap.push { cls:= .type "dict_values",data:= .fields #[.ref d] }).objs.size],_,_,_,rfl,I3.kept (t':=s1.toks) fun b u e=>ag _ e,wM d _ ob xs g3 sz,⟨_,aq _ rfl,rfl,rfl⟩,fun b hb=>?_,q1 ob⟩;have e:b=(s1.heap.push { cls:= .type "dict_values",data:= .fields #[.ref d] }).objs.size:=by simpa using hb
 subst e;exact I3.fpOk (ak _) f
theorem aH7 {P:Program}{w:World}{d:Addr}{o:Obj}{xs:List NE}{g:TG}{tb:TS}{D:pZ}{σ: St}{H:Hp}(Pv:Nat->St->Hp->Prop) (h0:Pv 0 σ H) (hl:∀ i σ H,i<=xs.length->Pv i σ H->H d=some (.frz o (dN P w d xs)))
  (hs:∀ i x σ H,xs[i]?=some x->Pv i σ H->g x.2.2 σ H fun σ2 H2=>tb { D with nx:=Pv (i+1),ct:=Pv (i+1),bk:=D.nx } σ2 H2) (hd:∀ σ H,Pv xs.length σ H->D.nx σ H) :
  ∃ W:Nat->Nat->St->Hp->Prop,(∃ m,W 0 m σ H)/\∀ i m σ H,W i m σ H ->
   ((ItV P w d o xs).stop i H/\D.nx σ H)\/((ItV P w d o xs).go i H/\∃ N:St->Hp->Prop,(∀ σ' H',N σ' H'->∃ m',m' < m/\W (i+1) m' σ' H')/\∀ x H',(ItV P w d o xs).yld i H x H'->g x σ H' fun σ2 H2=>tb { D with nx:=N,ct:=N,bk:=D.nx } σ2 H2):=by
 refine ⟨fun i m σ H=>m=xs.length - i/\i<=xs.length/\Pv i σ H,⟨_,rfl,bz _,h0⟩,?_⟩;rintro i m σ H ⟨rfl,hi,p⟩
 by_cases c:i < xs.length
 ·right;refine ⟨⟨c,hl i σ H hi p⟩,Pv (i+1),fun σ' H' p'=>⟨xs.length - (i+1),by omega,rfl,c,p'⟩,?_⟩;rintro x H' ⟨rfl,y,hy,rfl⟩;exact hs i y σ _ hy p
 ·left;have e:i=xs.length:=by omega
  exact ⟨⟨by omega,hl i σ H hi p⟩,hd σ H (by rw [<- e];exact p)⟩
def yR (H:Hp) (ys:List V) (es:List (List NKey×V)):Prop:=ys.length=es.length/\∀ (i:Nat) e,es[i]?=some e->∃ t c,ys[i]?=some (.ref t)/\H t=some (.tup [.ref c,e.2])/\nS H e.1 c
def iN (es:List (List NKey×V)):List (List NKey×V):=es.foldl (fun m e=>bF m e.1 e.2) []
theorem oA {es:List (List NKey×V)}{i:Nat}{e:List NKey×V}(h:es[i]?=some e):iN (es.take (i+1))=bF (iN (es.take i)) e.1 e.2:=by
 unfold iN;rw [List.take_add_one,h,xj];rfl
theorem aD2 (es:List (List NKey×V)):(iN es).length<=es.length:=by
 have:∀ (es m:List (List NKey×V)),(es.foldl (fun m e=>bF m e.1 e.2) m).length<=m.length+es.length:=by
  intro es
  induction es with
  |nil=>intro m;exact ak _
  |cons e r ih =>
   intro m;rw [kr,dy];have:=ih (bF m e.1 e.2);have:=dI m e.1 e.2;omega
 have:=this es [];unfold iN
 simpa using this
section
variable {X:Cx}{pins:List (Addr×Obj)}{σ: St}{H:Hp}{s:Shared}{A:Around}{E:Value->Shared->Prop}
theorem zB {p d it:Addr}{ys:List V}{es:List (List NKey×V)}{Q:Value->Shared->Prop}(hu:A.in1.units+8 < cLine) (hA:A.in1.handled=none) (hp:H p=some (.lst ys)) (hd:H d=none) (hi0:H it=none) (hid:it≠d) (C:yR H ys es) (hz:es.length < sizeLine)
  (q:∀ s' G,aN X pins σ G s'->DN X.prog X.w G d (iN es)->(∀ c,c≠d->G c=H c)->Q .none s'):∀ (n i:Nat) (tk:Tok) (s:Shared) (G:Hp),n+i=ys.length->aN X pins σ G s->DN X.prog X.w G d (iN (es.take i))->(∀ c,c≠d->G c=H c)->iO X pins G it->s.heap.IsListIter it p i ->
  codeAny (model X.prog X.w) A (.builtin "dict.update.loop" ⟨[.ref d,.ref it,.int i tk,.none],[]⟩) (wants Q E) s:=by
 intro n
 induction n with
 |zero =>
  intro i tk s G hn I hD hG hf st;have e:i=ys.length:=by omega
  subst e;have hp':G p=some (.lst ys):=by rw [hG p (aH hp hd)];exact hp
  obtain ⟨its,rv,tp,hz⟩:=I.list (bK.of hp');obtain ⟨f0,f1,f2,f3,f4,f5⟩:=hf;have hl:=rv.length;rw [C.1,be] at hD;refine oj fR ?_;unfold Builtin.«dict.update.loop»;refine aa (oz hA st tp.isList (by simp;omega) fun h' eb=>?_);have I1:=I.turned (h':=h') (t':=s.toks) (fun b o hb e=>eb b o hb e) f0 f1 f3 f4 f5;show wpAny _ _ (Builtin.Dict.addKeywords d [] >>= fun _=>ret Value.none) _ _ _;exact aa (ac (ac (q _ _ I1 hD hG)))
 |succ n ih =>
  intro i tk s G hn I hD hG hf st;have hi:i < es.length:=by have:=C.1;omega
  obtain ⟨t,c,ey,ht,hk⟩:=C.2 i es[i] (aj hi);have hp':G p=some (.lst ys):=by rw [hG p (aH hp hd)];exact hp
  have ts:∀ b ys,H b=some (.tup ys)->G b=some (.tup ys):=fun b ys e=>by rw [hG b (aH e hd)];exact e
  have ht':=ts _ _ ht;obtain ⟨its,rv,tp,hz'⟩:=I.list (bK.of hp');obtain ⟨u,hu',ru⟩:=rv.get ey
  cases ru
  obtain ⟨f0,f1,f2,f3,f4,f5⟩:=id hf;refine oj fR ?_;unfold Builtin.«dict.update.loop»;refine aa (ou st tp.isList (x:= .ref t) (by simpa using hu') fun h' st' sb=>?_);have I1:=I.turned (h':=h') (t':=s.toks) (fun b o hb e=>(sb.2 b hb).trans e) f0 f1 f3 f4 f5;obtain ⟨its2,rv2,⟨o2,e2,c2,m2,d2⟩,_⟩:=I1.tuple (aV.of ht');obtain ⟨uk,uv,rfl,rk,rV⟩:=mY rv2;refine aa (cp (aa (zr ?_)));refine (show wpAny _ _ (typeOf (.ref t) >>= _) _ _ _ from aa (kh (T:="tuple") ⟨o2,e2,c2⟩ ?_));refine (show wpAny _ _ (seqItems? (.ref t) >>= _) _ _ _ from aa (fx e2 d2 (ac ?_)));show wpAny _ _ (holding [uk,uv] (dictSet d uk uv)) _ _ _;have fl:=aD2 (es.take i);rw [cq] at fl;refine cp (aF8 (W:=fun G'=>DN X.prog X.w G' d (bF (iN (es.take i)) es[i].1 es[i].2)/\∀ c,c≠d->G' c=G c) hu I1 (.inr ⟨_,es[i].1,c,hD,rfl,hk.ts ts,by omega,fun G' a b=>⟨a,b⟩⟩) rk rV fun G' s2 I2 sb2 W=>?_)
  refine (show wpAny _ _ (again _) _ _ _ from ac ⟨kj _ (by decide +kernel),?_⟩);have ni:G' it=none:=by rw [W.2 it hid,hG it hid];exact hi0
  refine ih (i+1) _ s2 G' (by omega) I2 ?_ (fun c hc=>(W.2 c hc).trans (hG c hc)) ⟨ni,f1,f2,f3,f4,f5⟩ (st'.at fun ob e=>(sb2.2 it hid).trans e);rw [oA (aj hi)];exact W.1
theorem zF {k:Nat}(hr:bW k X.A):cB X (.type "dict") (fun xs H Q=>∃ (p:Addr) (ys:List V) (es:List (List NKey×V)),xs=[.ref p]/\H p=some (.lst ys)/\yR H ys es/\es.length < sizeLine/\∀ d G,H d=none->DN X.prog X.w G d (iN es)->(∀ c,c≠d->G c=H c)->Q (.ref d) G):=by
 intro pins s σ H xs us Q I r h;obtain ⟨p,ys,es,rfl,hp,C,hz,h⟩:=h;obtain ⟨u,rfl,ru⟩:=eW r
 cases ru
 have hf:H s.heap.objs.size=none:=I.hok.fresh (ak _);have hu:=hr.un;have ty:(⟨s.heap.push { cls:= .type "dict",data:= .dict #[] },s.gens,s.drawn,s.toks,s.os⟩:Shared).TypeIs (.ref s.heap.objs.size) "dict":=⟨_,aq _ rfl,rfl⟩
 have I1:aN X pins σ (aJ H s.heap.objs.size (dN X.prog X.w s.heap.objs.size [])) { s with heap:=s.heap.push { cls:= .type "dict",data:= .dict #[] } } :=
  I.laid (a:=s.heap.objs.size) (t':=s.toks) (fun _ _ q=>ag _ q) (ak _) (vS s.heap I.big)
 refine vo (Q₁:=fun obj s₁=>obj= .ref s.heap.objs.size/\s₁={ s with heap:=s.heap.push { cls:= .type "dict",data:= .dict #[] } }) xy (vb _) xb (xz _ ⟨rfl,rfl⟩) ?_;rintro obj s₁ ⟨rfl,rfl⟩;refine ⟨ty,wj _ _,?_⟩;unfold Builtin.«dict.__init__»;refine aa ?_;unfold Builtin.Dict.selfAndRest;refine aa (ik ty ?_);show wpAny _ _ (pure (s.heap.objs.size,[Value.ref p])) _ _ _;refine ac ?_;show wpAny _ _ (Builtin.Dict.updateFrom "dict.__init__" s.heap.objs.size (.ref p) [] .none) _ _ _;unfold Builtin.Dict.updateFrom;generalize hd0:s.heap.objs.size=d at hf I1 ⊢;have hD:DN X.prog X.w (aJ H d (dN X.prog X.w d [])) d (iN (es.take 0)):=⟨[],aC,by rw [zw];rfl,fun _ z=>absurd z bh⟩
 have hG:∀ c,c≠d->aJ H d (dN X.prog X.w d []) c=H c:=fun c hc=>aE hc
 generalize aJ H d (dN X.prog X.w d [])=G at I1 hD hG;have hp1:G p=some (.lst ys):=by rw [hG p (aH hp hf)];exact hp
 obtain ⟨_,its,n1,rv,e1⟩:=(show bD X.prog X.w _ _ p (.lst ys) from I1.hok p _ hp1)
 refine aa (kh (T:="list") ⟨_,e1,rfl⟩ ?_);rw [bb (by decide)];refine aa (keys_missL e1 (show X.A.handled=none from hr.hd) fun h' tk kp=>?_);have I2:=I1.kept (h':=h') (t':=tk) kp;rw [bb (by rfl)];refine aa (jb (aa (ic (items:=its.toArray) ⟨_,kp _ _ e1,rfl,_,rfl⟩ ?_)));have I3:=I2.kept (h':=h'.push { cls:= .type "list_iterator",data:= .fields #[.ref p,.int 0 0] }) (t':=tk) fun b o e=>ag _ e
 have hit:G h'.objs.size=none:=I2.hok.fresh (ak _);have hid:h'.objs.size≠d:=fun z=>by
  obtain ⟨_,q,_⟩:=hD;rw [z,q] at hit
  cases hit
 have hi0:H h'.objs.size=none:=by rw [<- hG _ hid];exact hit
 refine ac ⟨kj _ (by decide +kernel),?_⟩;refine zB (A:=X.A.in1) (Q:=fun r s₂=>r=Value.none/\EP X pins σ Q (.ref d) s₂) (H:=H) (p:=p) (ys:=ys) (es:=es) (by show X.A.units+1+1+8 < cLine;omega) (show X.A.handled=none from hr.hd) hp hf hi0 hid C hz (fun s' G' I' D' o'=>⟨rfl,.ref d,G',I',rfl,h d G' hf D' o'⟩) ys.length 0 _ _ G (by omega) I3 hD hG ⟨hit,?_⟩ ⟨_,aq _ rfl,rfl,rfl⟩;exact (I2.fpOk (H':=G) (ak _) hit).2
end
section
variable {X:Cx}{o i e value:Expr}{pos pos' tpos:Pos}{td ty tv:TE}{k:Nat}
theorem bU5 (P:Program) (w:World) (hr:bW k X.A) (hi:PE X i ty) (ho:PE X o td) (hP:X.prog=P:=by rfl) (hw:X.w=w:=by rfl):PC X .In i o (bM1 P w ty td):=by subst hP hw;exact bH6 hr hi ho
theorem aF7 (P:Program) (w:World) (hr:bW k X.A) (ho:PE X o td) (hi:PE X i ty) (hv:PE X value tv) (hs:swapsWith value (some (.Subscript o i pos')) pos.line X.env=pure false:=by rfl) (hP:X.prog=P:=by rfl) (hw:X.w=w:=by rfl):PS X (.Assign [.Subscript o i pos'] value pos) (aY8 P w td ty tv):=by subst hP hw;exact aT6 hr ho hi hv hs
end
section
variable {prog:Program}{w:World}{K:Type} [DecidableEq K] {knd:HeapKind prog w K}{A:Around}{E:Value->Shared->Prop}{s:Shared}{d a:Addr}{xs:List (K×Addr×Value)}{k:K}
end
section
variable {X:Cx}{pins:List (Addr×Obj)}{σ: St}{H:Hp}{s:Shared}{A:Around}{E:Value->Shared->Prop}
end
section
variable {X:Cx}{o e f:Expr}{apos cpos:Pos}{td ty tx:TE}
end
def bV6 (lo hi:Int):Nat:=((hi - lo+1) / 2).toNat
section
variable {X:Cx}{tg:Expr}
end
section
variable {g:TG}{tc:TT}{te:TE}
end
section
variable {X:Cx}
def rInsert:V->List V->Hp->VK->Prop:=fun x vs H Q=>∃ l xs y,∃ (i:Int) (k:Nat),x= .ref l/\vs=[.int i,y]/\i=k/\H l=some (.lst xs)/\k<=xs.length/\xs.length < 1000/\Q .non (aJ H l (.lst (xs.take k++y :: xs.drop k)))
theorem rH:MtM X "list.insert" rInsert:=by
 intro pins s σ H x vs v us Q I rx rv h;obtain ⟨l,xs,y,i,k,rfl,rfl,hik,hH,hk,hz,q⟩:=h
 cases rx
 obtain ⟨u1,u2,rfl,r1,r2⟩:=mY rv;obtain ⟨t,rfl⟩:=r1;obtain ⟨z,its,n,r,hl,e⟩:=I.lstM hH;have f1:its.length<=sizeLine:=by omega
 have f2:its.toArray.size<=sizeLine:=by rw [bp];exact f1
 have f3:¬ (!Builtin.List.listFitsIndex i)=true:=by
  rw [fitsIndex_both (by omega) (by omega)];simp
 have M:= @PySem.AutoListH.list_insert_list_int_val_1 l its.toArray n i t u2 f3 f2;refine pp qz ⟨_,e,rfl⟩ PySem.F.entry_list_insert (PySem.F.args_list_insert_3 _ _ _) M ⟨e,?_⟩;refine ⟨.non,_,I.lset (its':=its.take k++u2 :: its.drop k) hH e ?_ ((r.take k).append (.cons r2 (r.drop k))) ?_,rfl,q⟩
 ·have nk:¬ (i < 0):=by omega
  show (its.toArray.extract 0 (if i < 0 then _ else min i.toNat its.toArray.size)).push u2++its.toArray.extract (if i < 0 then _ else min i.toNat its.toArray.size)=_;rw [ao nk,hik,cy,bp,Nat.min_eq_left (by omega)]
  apply Array.ext'
  simp;exact kb (by rw [xr];exact ak _)
 ·simp only [List.length_append,List.length_take,List.length_cons,List.length_drop];have:=aK (n:=1000) (ak _);omega
end
section
variable {prog:Program}{w:World}{A:Around}{E:Value->Shared->Prop}{s:Shared}
theorem vE {it l:Addr}{its:Array Value}(ne:l≠it):∀ (n i:Nat) (s:Shared) (Q:List Value->Shared->Prop),s.heap.IsListIter it l i->s.heap.IsList l its->i+n<=its.size ->
  (∀ g,g.IsListIter it l (i+n)->Heap.SameBut it s.heap g->Q ((its.toList.drop i).take n) { s with heap:=g })->wpAny (model prog w) A (draw (.ref it) n) Q E s
 |0,i,s,Q,st,_,_,k=>by
  show wpAny _ _ (pure []) Q E s;exact ac (by simpa using k s.heap st (Heap.SameBut.refl ..))
 |n+1,i,s,Q,st,pl,hn,k=>by
  have lt:i < its.size:=by omega
  show wpAny _ _ (pyNext (.ref it) >>= _) Q E s;refine aa (ou st pl (x:=its[i]) (by simp [lt]) fun g1 st1 sb1=>?_);refine aa (cp (vE ne n (i+1) _ _ st1 (pl.at fun o e=>(sb1.2 l ne).trans e) (by omega) fun g2 st2 sb2=>ac ?_));have dr:its.toList.drop i=its[i] :: its.toList.drop (i+1):=by simp [List.drop_eq_getElem_cons,lt]
  have fin:=k g2 (by rw [show i+(n+1)=i+1+n by omega];exact st2) (sb1.trans sb2);rw [dr,List.take_succ_cons] at fin;exact fin
theorem xJ {l:Addr}{its:Array Value}{Q:List Value->Shared->Prop}(hh:A.handled=none) (pl:s.heap.IsList l its) (k:∀ g,Heap.ExtBut s.heap.objs.size s.heap g->Q its.toList { s with heap:=g }) :
  wpAny (model prog w) A (unpackItems (.ref l) its.size none) Q E s:=by
 have ne:l≠s.heap.objs.size:=by obtain ⟨o,ho,_⟩:=pl;exact bv (az ho)
 unfold unpackItems notIterableAtAll;refine aa (aa (iu pl.typeIs PySem.F.slot_list_iter.lookup (ac ?_)));simp only [Bool.false_eq_true,if_false];refine aa (cp (ic pl ?_));have pl1:(s.heap.push { cls:= .type "list_iterator",data:= .fields #[.ref l,.int 0 0] }).IsList l its:=pl.at fun o e=>ag _ e
 refine aa (cp (vE ne its.size 0 _ _ ⟨_,aq _ rfl,rfl,rfl⟩ pl1 (by omega) fun g1 st1 sb1=>?_));rw [List.drop_zero,kb (by simp),ao (by simp)];refine aa (cp (oz hh st1 (pl1.at fun o e=>(sb1.2 l ne).trans e) (by simp) fun g2 eb=>?_));simp only [Option.isSome_none,Bool.false_eq_true,if_false];exact ac (k g2 fun b o hb e=>eb b o hb ((sb1.2 b hb).trans (ag _ e)))
theorem xI {env:Env}{elts:List Expr}{x1} {pos:Pos}{l:Addr}{its:Array Value}{Q:Unit->Shared->Prop}(hh:A.handled=none) (pl:s.heap.IsList l its)
  (hn:(assignEach elts env).length=its.size) (hst:(assignEach elts env).findIdx? (·.1)=none)
  (k:∀ g,Heap.ExtBut s.heap.objs.size s.heap g->wpAny (model prog w) A (assignInOrder ((assignEach elts env).map (·.2)) its.toList) Q E { s with heap:=g }):wpAny (model prog w) A (assign (.Tuple elts x1 pos) env (.ref l)) Q E s:=by
 rw [assign_Tuple];refine aa (tj ?_);unfold unpack;rw [hn,hst];exact aa (cp (xJ hh pl k))
end
section
variable {X:Cx}{pos:Pos}
def bU7 (K:W.Frag) (n:Nat) (t:TGs):TG:=fun v σ H Q=>∃ a xs,v= .ref a/\bK K H a xs/\xs.length=n/\t xs σ H Q
theorem bB5 {es:List Expr}{k:Nat}{t:TGs}{n:Nat}(hc:X.calm=true) (h:PGs X es t) (hn:(assignEach es X.env).length=n:=by rfl) (hst:(assignEach es X.env).findIdx? (·.1)=none:=by rfl):PG X (.Tuple es k pos) (bU7 X.K n t):=by
 intro pins s σ H v u Q I r hw;obtain ⟨a,xs,e1,hq,hl,hw⟩:=hw;subst e1
 cases r
 obtain ⟨its,rv,pl,hz⟩:=I.list hq;refine xI (I.ok.hd hc) pl.isList (by simp [hn, <- hl,rv.length]) hst fun g eb=>?_
 exact h pins _ σ H xs _ Q (I.kept (t':=s.toks) fun b o e=>eb b o (bv (az e)) e) (by simpa using rv) hw
end
theorem bI {α: Type}{n:Nat}{us:List α}(h:us.length=n+1):∃ u r,us=u :: r/\r.length=n:=by
 cases us with
 |nil=>cases h
 |cons u r=>exact ⟨u,r,rfl,Nat.succ.inj h⟩
section
variable {K:W.Frag}{x qual:Str}{st:Stmt}{f:Addr}{fd:FuncData}{p1 p2 p3 p4 p5:Str}
theorem qM.b1 (F:qM K x qual st f fd) (h:∀ (kV doc pm:Value) (an:Option Addr) (cdv ct u1:Value),bindArgs (W.fnOf x qual (cA st) (bS st) (aW st) .none kV doc pm an cdv ct) ⟨[u1],[]⟩=pure [(p1,u1)]):gX K fd [p1] []:=by
 refine F.binds fun kV doc pm an cdv ct us h0=>?_
 obtain ⟨u1,r1,rfl,h1⟩:=bI (n:=0) h0
 cases ip.mp h1
 exact h kV doc pm an cdv ct u1
theorem qM.b2 (F:qM K x qual st f fd) (h:∀ (kV doc pm:Value) (an:Option Addr) (cdv ct u1 u2:Value),bindArgs (W.fnOf x qual (cA st) (bS st) (aW st) .none kV doc pm an cdv ct) ⟨[u1,u2],[]⟩=pure [(p1,u1),(p2,u2)]):gX K fd [p1,p2] []:=by
 refine F.binds fun kV doc pm an cdv ct us h0=>?_
 obtain ⟨u1,r1,rfl,h1⟩:=bI (n:=1) h0;obtain ⟨u2,r2,rfl,h2⟩:=bI (n:=0) h1
 cases ip.mp h2
 exact h kV doc pm an cdv ct u1 u2
theorem qM.b3 (F:qM K x qual st f fd) (h:∀ (kV doc pm:Value) (an:Option Addr) (cdv ct u1 u2 u3:Value),bindArgs (W.fnOf x qual (cA st) (bS st) (aW st) .none kV doc pm an cdv ct) ⟨[u1,u2,u3],[]⟩=pure [(p1,u1),(p2,u2),(p3,u3)]):gX K fd [p1,p2,p3] []:=by
 refine F.binds fun kV doc pm an cdv ct us h0=>?_
 obtain ⟨u1,r1,rfl,h1⟩:=bI (n:=2) h0;obtain ⟨u2,r2,rfl,h2⟩:=bI (n:=1) h1;obtain ⟨u3,r3,rfl,h3⟩:=bI (n:=0) h2
 cases ip.mp h3
 exact h kV doc pm an cdv ct u1 u2 u3
theorem qM.b4 (F:qM K x qual st f fd) (h:∀ (kV doc pm:Value) (an:Option Addr) (cdv ct u1 u2 u3 u4:Value),bindArgs (W.fnOf x qual (cA st) (bS st) (aW st) .none kV doc pm an cdv ct) ⟨[u1,u2,u3,u4],[]⟩=pure [(p1,u1),(p2,u2),(p3,u3),(p4,u4)]):gX K fd [p1,p2,p3,p4] []:=by
 refine F.binds fun kV doc pm an cdv ct us h0=>?_
 obtain ⟨u1,r1,rfl,h1⟩:=bI (n:=3) h0;obtain ⟨u2,r2,rfl,h2⟩:=bI (n:=2) h1;obtain ⟨u3,r3,rfl,h3⟩:=bI (n:=1) h2;obtain ⟨u4,r4,rfl,h4⟩:=bI (n:=0) h3
 cases ip.mp h4
 exact h kV doc pm an cdv ct u1 u2 u3 u4
theorem qM.b5 (F:qM K x qual st f fd) (h:∀ (kV doc pm:Value) (an:Option Addr) (cdv ct u1 u2 u3 u4 u5:Value),bindArgs (W.fnOf x qual (cA st) (bS st) (aW st) .none kV doc pm an cdv ct) ⟨[u1,u2,u3,u4,u5],[]⟩=pure [(p1,u1),(p2,u2),(p3,u3),(p4,u4),(p5,u5)]):gX K fd [p1,p2,p3,p4,p5] []:=by
 refine F.binds fun kV doc pm an cdv ct us h0=>?_
 obtain ⟨u1,r1,rfl,h1⟩:=bI (n:=4) h0;obtain ⟨u2,r2,rfl,h2⟩:=bI (n:=3) h1;obtain ⟨u3,r3,rfl,h3⟩:=bI (n:=2) h2;obtain ⟨u4,r4,rfl,h4⟩:=bI (n:=1) h3;obtain ⟨u5,r5,rfl,h5⟩:=bI (n:=0) h4
 cases ip.mp h5
 exact h kV doc pm an cdv ct u1 u2 u3 u4 u5
end
section
variable {K:W.Frag}{x qual:Str}{st:Stmt}{f:Addr}{fd:FuncData}{p1 p2 p3 p4 p5 p6:Str}
theorem qM.b6 (F:qM K x qual st f fd) (h:∀ (kV doc pm:Value) (an:Option Addr) (cdv ct u1 u2 u3 u4 u5 u6:Value),bindArgs (W.fnOf x qual (cA st) (bS st) (aW st) .none kV doc pm an cdv ct) ⟨[u1,u2,u3,u4,u5,u6],[]⟩=pure [(p1,u1),(p2,u2),(p3,u3),(p4,u4),(p5,u5),(p6,u6)]):gX K fd [p1,p2,p3,p4,p5,p6] []:=by
 refine F.binds fun kV doc pm an cdv ct us h0=>?_
 obtain ⟨u1,r1,rfl,h1⟩:=bI (n:=5) h0;obtain ⟨u2,r2,rfl,h2⟩:=bI (n:=4) h1;obtain ⟨u3,r3,rfl,h3⟩:=bI (n:=3) h2;obtain ⟨u4,r4,rfl,h4⟩:=bI (n:=2) h3;obtain ⟨u5,r5,rfl,h5⟩:=bI (n:=1) h4;obtain ⟨u6,r6,rfl,h6⟩:=bI (n:=0) h5
 cases ip.mp h6
 exact h kV doc pm an cdv ct u1 u2 u3 u4 u5 u6
end
section
variable {P:Program}{w:World}{K:W.Frag}{mg:Str->Option Value}{base:Heap}
def Cl (P:Program) (w:World) (K:W.Frag) (mg:Str->Option Value) (base:Heap) (n:Nat) (sp:Sp) (x:Str):Prop:=∃ f d ps,nF P w K mg base CX0 n f d ps sp/\gX K d ps []/\W.keepIn K (.ref f)=true/\mg x=some (.ref f)
def hU (P:Program) (w:World) (K:W.Frag) (mg:Str->Option Value) (base:Heap) (x q:Str) (st:Stmt) (n:Nat) (ps:List Str) (sp:Sp):Prop:=∀ {f:Addr}{d:FuncData},qM K x q st f d->nF P w K mg base CX0 n f d ps sp
theorem jU {x q:Str}{st:Stmt}{k:Nat}{ps:List Str}{sp:Sp}(N:List Str)
  (hb:∀ {f:Addr}{cdv:Value}{A:Around}{outer:List Env}{s:Shared}{vs:List V}{E:XK}(H:Hp) (Q:VK),N.Nodup->bW k (A.deeper (envOfC q (aW st) s.heap.objs.size f cdv))->sp vs H Q E ->
   ∃ t,vV (zE CX0 P w K mg base N q (aW st) f cdv A outer s H E).nox (bS st) t/\t { nx:=fun _ H'=>Q .non H',rt:=Q } (lZ N vs) H)
  (len:∀ vs H Q E,sp vs H Q E->vs.length=ps.length:=by intro _ _ _ _ h;(repeat obtain ⟨_,h⟩:=h);subst_vars;rfl)
  (S:jB N ps (aW st):=by refine ⟨rfl,rfl,rfl,?_,rfl,?_,?_⟩ <;> decide +kernel):hU P w K mg base x q st (k+1) ps sp :=
 fun F=>F.ok S len fun _ _ _ _ H _ Q _ hr h=>hb H Q S.nd hr h
def uL (K:W.Frag) (x q:Str) (st:Stmt) (f:Addr):Prop:=∃ (oc:Value) (od:Option Addr) (kV dc pm:Value) (an:Option Addr) (cd ct:Value) (sl:Array (Option Value)),K.lookup f=some ⟨oc,od,.func (W.fnOf x q (cA st) (bS st) (aW st) .none kV dc pm an cd ct),sl⟩/\W.codeIn K cd q=true/\W.keepIn K (.ref f)=true
def TopAt (K:W.Frag) (x:Str) (st:Stmt):Prop:=∃ f,W.nsIn K mainGlobals x=some (some (.ref f))/\uL K x x st f
theorem uL.of {x q:Str}{st:Stmt}{f:Addr}{oc:Value}{od:Option Addr}{kV dc pm:Value}{an:Option Addr}{cd ct:Value}{sl:Array (Option Value)}(l:K.lookup f=some ⟨oc,od,.func (W.fnOf x q (cA st) (bS st) (aW st) .none kV dc pm an cd ct),sl⟩) (c:W.codeIn K cd q=true) (k:W.keepIn K (.ref f)=true):uL K x q st f:=⟨_,_,_,_,_,_,_,_,_,l,c,k⟩
theorem TopAt.of {x:Str}{st:Stmt}{f:Addr}{oc:Value}{od:Option Addr}{kV dc pm:Value}{an:Option Addr}{cd ct:Value}{sl:Array (Option Value)}(a:W.nsIn K mainGlobals x=some (some (.ref f))) (l:K.lookup f=some ⟨oc,od,.func (W.fnOf x x (cA st) (bS st) (aW st) .none kV dc pm an cd ct),sl⟩) (c:W.codeIn K cd x=true) (k:W.keepIn K (.ref f)=true):TopAt K x st:=⟨_,a,.of l c k⟩
theorem uL.fn {x q:Str}{st:Stmt}{f:Addr}:uL K x q st f->∃ d,qM K x q st f d
 |⟨_,_,_,_,_,_,_,_,_,l,c,k⟩=>⟨_,aI4 l c k⟩
structure Zx (P:Program) (w:World) (K:W.Frag) (mg:Str->Option Value) (base:Heap):Prop where
 ns:∀ x u,W.nsIn K mainGlobals x=some (some u)->mg x=some u
 no:∀ x,W.nsIn K mainGlobals x=some none->mg x=none
theorem Zx.of {h:Heap}(X:K.In h) (G:h.Ns mainGlobals mg):Zx P w K mg base:=⟨fun _ _ e=>W.mg_of X G e,fun _ e=>W.mg_none_of X G e⟩
variable {x p1 p2 p3 p4 p5 p6:Str}{st:Stmt}{n:Nat}{sp:Sp}
theorem Zx.cl (Z:Zx P w K mg base) (t:TopAt K x st) {ps:List Str}(ok:hU P w K mg base x x st n ps sp) (b:∀ {f d},qM K x x st f d->gX K d ps []):Cl P w K mg base n sp x :=
 let ⟨_,a,t⟩:=t;let ⟨_,F⟩:=t.fn;⟨_,_,_,ok F,b F,F.kp,Z.ns _ _ a⟩
theorem Zx.c1 (Z:Zx P w K mg base) (t:TopAt K x st) (ok:hU P w K mg base x x st n [p1] sp) (h:∀ (kV doc pm:Value) (an:Option Addr) (cdv ct u1:Value),bindArgs (W.fnOf x x (cA st) (bS st) (aW st) .none kV doc pm an cdv ct) ⟨[u1],[]⟩=pure [(p1,u1)]:=by intros;rfl):Cl P w K mg base n sp x:=Z.cl t ok fun F=>F.b1 h
theorem Zx.c2 (Z:Zx P w K mg base) (t:TopAt K x st) (ok:hU P w K mg base x x st n [p1,p2] sp) (h:∀ (kV doc pm:Value) (an:Option Addr) (cdv ct u1 u2:Value),bindArgs (W.fnOf x x (cA st) (bS st) (aW st) .none kV doc pm an cdv ct) ⟨[u1,u2],[]⟩=pure [(p1,u1),(p2,u2)]:=by intros;rfl):Cl P w K mg base n sp x:=Z.cl t ok fun F=>F.b2 h
theorem Zx.c3 (Z:Zx P w K mg base) (t:TopAt K x st) (ok:hU P w K mg base x x st n [p1,p2,p3] sp) (h:∀ (kV doc pm:Value) (an:Option Addr) (cdv ct u1 u2 u3:Value),bindArgs (W.fnOf x x (cA st) (bS st) (aW st) .none kV doc pm an cdv ct) ⟨[u1,u2,u3],[]⟩=pure [(p1,u1),(p2,u2),(p3,u3)]:=by intros;rfl):Cl P w K mg base n sp x:=Z.cl t ok fun F=>F.b3 h
theorem Zx.c4 (Z:Zx P w K mg base) (t:TopAt K x st) (ok:hU P w K mg base x x st n [p1,p2,p3,p4] sp) (h:∀ (kV doc pm:Value) (an:Option Addr) (cdv ct u1 u2 u3 u4:Value),bindArgs (W.fnOf x x (cA st) (bS st) (aW st) .none kV doc pm an cdv ct) ⟨[u1,u2,u3,u4],[]⟩=pure [(p1,u1),(p2,u2),(p3,u3),(p4,u4)]:=by intros;rfl):Cl P w K mg base n sp x:=Z.cl t ok fun F=>F.b4 h
theorem Zx.c5 (Z:Zx P w K mg base) (t:TopAt K x st) (ok:hU P w K mg base x x st n [p1,p2,p3,p4,p5] sp) (h:∀ (kV doc pm:Value) (an:Option Addr) (cdv ct u1 u2 u3 u4 u5:Value),bindArgs (W.fnOf x x (cA st) (bS st) (aW st) .none kV doc pm an cdv ct) ⟨[u1,u2,u3,u4,u5],[]⟩=pure [(p1,u1),(p2,u2),(p3,u3),(p4,u4),(p5,u5)]:=by intros;rfl):Cl P w K mg base n sp x:=Z.cl t ok fun F=>F.b5 h
theorem Zx.c6 (Z:Zx P w K mg base) (t:TopAt K x st) (ok:hU P w K mg base x x st n [p1,p2,p3,p4,p5,p6] sp) (h:∀ (kV doc pm:Value) (an:Option Addr) (cdv ct u1 u2 u3 u4 u5 u6:Value),bindArgs (W.fnOf x x (cA st) (bS st) (aW st) .none kV doc pm an cdv ct) ⟨[u1,u2,u3,u4,u5,u6],[]⟩=pure [(p1,u1),(p2,u2),(p3,u3),(p4,u4),(p5,u5),(p6,u6)]:=by intros;rfl):Cl P w K mg base n sp x:=Z.cl t ok fun F=>F.b6 h
theorem okn {q:Str}{k:Nat}{ps:List Str}:hU P w K mg base x q st k ps (fun _ _ _ _=>False):=fun _=>⟨fun _ _ _ _ h=>h.elim,fun _ _ _ _ _ _ _ _ _ _ _ _ _ h=>h.elim⟩
end
section
variable {X:Cx}{x:Str}{p pos pos':Pos}{e:Expr}{es:List Expr}{t:TA}{te:TE}
theorem bV {k:Nat}{sp:Sp}(C:Cl X.prog X.w X.K X.mg X.base k sp x) {n:Nat}(hr:bW n X.A) (ha:PA X (e :: es) t) (hn:k<=n:=by first | decide | omega) (hg:Gl X x:=by rfl) (hdb:(x == ("__debug__": Str))=false:=by decide) (he:starEach (e :: es) X.env=(false,eval e X.env) :: starEach es X.env:=by rfl)
  (hpl:(backTo pos (starEach es X.env)).any (·.1)=false:=by rfl):PE X (.Call (.Name x p) (e :: es) [] pos) (aZ7 sp [] E0 t):=let ⟨_,_,_,g,b,k,m⟩:=C;aV9 g (hr.mono hn) hg m k b .nil bR3 ha hdb he hpl
theorem eJ (i:Nat) {rest:List Stmt}{u:TS}(hN:X.N.Nodup) (he:PE X e te) (h2:vV X rest u) (hi:X.N[i]?=some x:=by rfl) (hx:Loc X.env.scope x:=by first | exact jt rfl | exact aAw rfl) (hs:swapsWith e (some (.Name x pos')) pos.line X.env=pure false:=by rfl)
  (hf:X.fn x=true\/X.env.scope.names.lookup x=some .local:=by first | exact .inl rfl | exact .inr rfl | assumption):vV X (.Assign [.Name x pos'] e pos :: rest) (bR6 (aI1 te (rK i)) u):=aG (kN hN hi hx he hs hf) h2
theorem psz (i:Nat) (hN:X.N.Nodup) (he:PE X e te) (hi:X.N[i]?=some x:=by rfl) (hx:Loc X.env.scope x:=by first | exact jt rfl | exact aAw rfl) (hs:swapsWith e (some (.Name x pos')) pos.line X.env=pure false:=by rfl)
  (hf:X.fn x=true\/X.env.scope.names.lookup x=some .local:=by first | exact .inl rfl | exact .inr rfl | assumption):PS X (.Assign [.Name x pos'] e pos) (aI1 te (rK i)):=kN hN hi hx he hs hf
theorem dR (i:Nat) (hN:X.N.Nodup:=by dsimp only [bY];decide +kernel) (hi:X.N[i]?=some x:=by rfl) (hx:Loc X.env.scope x:=by first | exact jt rfl | exact aAw rfl) (hf:X.fn x=true\/X.env.scope.names.lookup x=some .local:=by first | exact .inl rfl | exact .inr rfl | assumption):PG X (.Name x pos) (rK i):=nR hN hi hx hf
theorem pfr {tg iter:Expr}{body:List Stmt}{wi:TI}{g:TG}{tb:TS}(hi:PI X tg iter wi) (hg:PG X tg g) (hb:vV X body tb) (hp:PassesOwn (model X.prog X.w) X.A X.env X.xe:=by exact on) (hc:X.calm=true:=by rfl)
  (hs:∀ x,foldedSetIterable iter X.env x=pure x:=by intro _;rfl):PS X (.For tg iter body [] pos) (bM2 wi g tb):=aK3 hp hc hi hg hb hs
variable {id T:String}{r:List V->Hp->VK->Prop}
theorem nU (hc:cB X (.builtin id) r) (hm:X.mg x=none) (hv:bootBuiltins x=some (.builtin id)) (ha:PA X (e :: es) t) (hg:Gl X x:=by rfl) (hn:x≠"__name__":=by decide) (hdb:(x == ("__debug__": Str))=false:=by decide)
  (he:starEach (e :: es) X.env=(false,eval e X.env) :: starEach es X.env:=by rfl) (hpl:(backTo pos (starEach es X.env)).any (·.1)=false:=by rfl):PE X (.Call (.Name x p) (e :: es) [] pos) (tCB r t):=pX hc hg hm hv ha hn hdb he hpl
theorem qQ (hc:cB X (.type T) r) (hm:X.mg x=none) (hv:bootBuiltins x=some (.type T)) (ha:PA X (e :: es) t) (hg:Gl X x:=by rfl) (hn:x≠"__name__":=by decide) (hdb:(x == ("__debug__": Str))=false:=by decide)
  (he:starEach (e :: es) X.env=(false,eval e X.env) :: starEach es X.env:=by rfl) (hpl:(backTo pos (starEach es X.env)).any (·.1)=false:=by rfl):PE X (.Call (.Name x p) (e :: es) [] pos) (tCB r t):=aG8 hc hg hm hv ha hn hdb he hpl
variable {a b:Expr}{ta tb:TE}
theorem cS {r:R2}(hr:IxR X r) (ha:PE X a ta) (hb:PE X b tb) (hs:zS b:=by exact fun _ _=>rfl):PE X (.Subscript a b pos) (tOp r ta tb):=bN1 hr ha hb hs
theorem gF {op:CmpOp}{r:R2}(ho:iV X (compareOp op) r) (ha:PE X a ta) (hb:PE X b tb) (hm:behindInMarks op b=false:=by first | exact mG _ | rfl):PT X (.Compare a [op] [b] pos) (bA8 (tOp r ta tb)):=kX ho ha hb hm
theorem pec {op:CmpOp}{r:R2}(ho:iV X (compareOp op) r) (ha:PE X a ta) (hb:PE X b tb) (hm:behindInMarks op b=false:=by first | exact mG _ | rfl):PE X (.Compare a [op] [b] pos) (tOp r ta tb):=aY5 ho ha hb hm
theorem pdg (hu:X.A.units+1 < cLine) (ho:PE X a ta) (hi:PE X b tb) (hs:bF2 b:=by exact fun _ _=>rfl):PE X (.Subscript a b pos) (bB0 ta tb):=gL hu ho hi hs
theorem pdp {tv:TE}(hu:X.A.units+1 < cLine) (ho:PE X a ta) (hi:PE X b tb) (hv:PE X e tv) (hs:swapsWith e (some (.Subscript a b pos')) pos.line X.env=pure false:=by rfl):PS X (.Assign [.Subscript a b pos'] e pos) (bA9 ta tb tv):=nJ hu ho hi hv hs
theorem aP (ha:PE X a ta) (h:starEach [a] X.env=[(false,eval a X.env)]:=by rfl):PA X [a] (bB2 ta tNil):=aA ha fZ h
end
end L2
namespace Mine
open PySem L2
def enc (b:Bool) (a:An):NKey:=if b then .inr (a.map Sum.inl) else .inl (Sum.inl (a.headD 0))
theorem nN {b:Bool}{x y:An}(hx:VA b x) (hy:VA b y) (h:enc b x=enc b y):x=y:=by
 cases b with
 |true=>exact nK (Sum.inr.inj h)
 |false=>exact oK (hx.resolve_left (by decide)) (hy.resolve_left (by decide)) (yq h)
theorem dG.sub {b:Bool}{H:Hp}{v:V}{a:An}(h:dG b H v a):xW H (enc b a) v:=by
 cases b with
 |true =>
  obtain ⟨p,rfl,hp⟩:=h;exact ⟨p,rfl,by rw [qC];exact hp⟩
 |false =>
  obtain ⟨n,rfl,rfl⟩:=h;rfl
abbrev Pr2:=An×An
def gQ (b:Bool) (e:Pr2):List NKey:=[enc b e.1,enc b e.2]
def VP (b:Bool) (e:Pr2):Prop:=VA b e.1/\VA b e.2
theorem aK4 {b:Bool}{x y:Pr2}(hx:VP b x) (hy:VP b y) (h:gQ b x=gQ b y):x=y:=by
 unfold gQ at h;injection h with h1 h2
 injection h2 with h2 _
 exact xw (nN hx.1 hy.1 h1) (nN hx.2 hy.2 h2)
def lX (b:Bool) (H:Hp) (v:V) (e:Pr2):Prop:=∃ t u w,v= .ref t/\H t=some (.tup [u,w])/\dG b H u e.1/\dG b H w e.2
theorem lX.ts {b:Bool}{H H':Hp}{v:V}{e:Pr2}(t:TS H H') (h:lX b H v e):lX b H' v e:=let ⟨a,u,w,e1,e2,e3,e4⟩:=h;⟨a,u,w,e1,t _ _ e2,e3.ts t,e4.ts t⟩
theorem lX.va {b:Bool}{H:Hp}{v:V}{e:Pr2}(h:lX b H v e):VP b e:=let ⟨_,_,_,_,_,e3,e4⟩:=h;⟨e3.va,e4.va⟩
theorem bD0 {b:Bool}{H:Hp}{t:Addr}{u w:V}{e:Pr2}(h:H t=some (.tup [u,w])) (h1:dG b H u e.1) (h2:dG b H w e.2):nS H (gQ b e) t:=⟨[u,w],h,.cons h1.sub (.cons h2.sub .nil)⟩
def kG (u:Int×Int) (b:Int):Int:=u.1 * (b / u.2)
section
variable {α: Type} [DecidableEq α]
end
theorem tI {ws:List V}{k:Int}{n:Nat}{v:V}(e:k=(n:Int)) (h:ws[n]?=some v):uJ ws k=some v:=by subst e;exact lJ h
variable {H:Hp}{a b d:Addr}
def bQ (es:List En) (b:Int) (k:An):Int:=match es.find? fun e=>decide (e.1=k) with
 |some e=>kG e.2 b
 |none=>0
theorem qK {es:List En}{b:Int}(nd:(es.map (·.1)).Nodup) {e:En}(h:e∈es):bQ es b e.1=kG e.2 b:=by
 unfold bQ;have:es.find? (fun x=>decide (x.1=e.1))=some e:=by
  induction es with
  |nil=>exact absurd h bh
  |cons a r ih =>
   have nd:=ig.mp nd;rcases bi.mp h with q | q
   ·subst q;rw [zf (by simp)]
   ·have ne:¬ a.1=e.1:=fun z=>nd.1 (ap.mpr ⟨e,q,z.symm⟩)
    rw [zg (by simpa using ne)];exact ih nd.2 q
 rw [this]
section
variable {X:Cx}{pos:Pos}{b:Bool}
theorem bJ4 (b:Bool):PE X (.Dict [] [] pos) (fun _ H Q=>∀ p,H p=none->Q (.ref p) (aJ H p (fA b []))):=by
 cases b
 ·exact aQ5
 ·exact aQ4
end
def PD (P:Program) (w:World) (b:Bool) (H:Hp) (d:Addr) (l:List (Pr2×V)):Prop:=DN P w H d (l.map fun e=>(gQ b e.1,e.2))/\∀ e∈l,VP b e.1
section
variable {P:Program}{w:World}{b:Bool}{H H':Hp}{d:Addr}
theorem pE {κ: Type} [DecidableEq κ] {l:List (κ×V)}{k:κ}{v:V}{e:κ×V}(h:e∈bF l k v):e.1=k\/∃ x∈l,x.1=e.1:=by
 unfold bF at h
 split at h
 ·obtain ⟨x,hx,q⟩:=ap.mp h;right;refine ⟨x,hx,?_⟩;rw [<- q]
  split <;> rfl
 ·rcases cf.mp h with q | q
  ·exact .inr ⟨e,q,rfl⟩
  ·rw [bw.mp q];exact .inl rfl
theorem PD.keep {l:List (Pr2×V)}(h:PD P w b H d l) (t:TS H H') (s:∀ o,H d=some o->H' d=some o):PD P w b H' d l:=⟨h.1.keep t s,h.2⟩
theorem aD9 {κ: Type} [DecidableEq κ] {f:κ->List NKey}{l:List (κ×V)}(nd:(l.map (·.1)).Nodup) (inj:∀ x∈l,∀ y∈l,f x.1=f y.1->x.1=y.1):iN (l.map fun e=>(f e.1,e.2))=l.map fun e=>(f e.1,e.2):=by
 have key:∀ i,iN ((l.map fun e=>(f e.1,e.2)).take i)=(l.map fun e=>(f e.1,e.2)).take i:=by
  intro i
  induction i with
  |zero=>rfl
  |succ i ih =>
   cases e:(l.map fun e=>(f e.1,e.2))[i]? with
   |none =>
    have le:=List.getElem?_eq_none_iff.mp e;rw [kb (show _<=i+1 by omega)];rw [kb le] at ih;exact ih
   |some p =>
    rw [oA e,ih,aU e,lP]
    cases q:bZ ((l.map fun e=>(f e.1,e.2)).take i) p.1 with
    |none=>rfl
    |some v =>
     exfalso;have li:=(bq.mp e).1;rw [af] at li;have m:=aA5 q;obtain ⟨y,hy,ey⟩:=ap.mp m;rw [<- List.map_take] at hy;obtain ⟨x,hx,ex⟩:=ap.mp hy;rw [bf,aj li] at e;have e':(f l[i].1,l[i].2)=p:=da e;have k1:f x.1=f l[i].1:=by
      have a:y.1=f x.1:=by rw [<- ex]
      have b:p.1=f l[i].1:=by rw [<- e']
      rw [<- a, <- b];exact ey
     have k2:=inj x (gw hx) l[i] (jx li) k1;have s:l.map (·.1)=(l.take i).map (·.1)++(l.drop i).map (·.1):=by rw [<- bj,kw]
     rw [s] at nd;refine (sj.mp nd).2.2 _ (ap.mpr ⟨x,hx,rfl⟩) _ ?_ k2;rw [ql li,ar];exact au
 have:=key (l.map fun e=>(f e.1,e.2)).length
 rwa [be] at this
end
end Mine
namespace L2
open PySem PySem.Spec PyProof.Rows
end L2
namespace Mine
open PySem L2
theorem pY {H G:Hp}{a:Addr}{o:HO}(s:aT H G) (h:H a=none):aT H (aJ G a o):=fun b u e=>by rw [aE (aH e h)];exact s b u e
section
variable {b:Bool}{H H':Hp}{g r z:Addr}{prs:List Pr2}{es:List (An×Addr)}{x y:An}
theorem uG {u:List V}{l:List (An×V)}:HO.tup u≠fA b l:=uH (by intro z q;cases q) (by intro z q;cases q)
end
structure LyO (prs:List Pr2) (ks qs:List An):Prop where
 pr:∀ e∈prs,e.1∈ks/\e.2∈qs
 nd:prs.Nodup
 nk:ks.Nodup
 nq:qs.Nodup
 zp:prs.length<=200
 zk:ks.length<=50
 zq:qs.length<=50
section
variable (P:Program) (w:World) (b:Bool) (C:Addr)
end
section
variable {b:Bool}{H H':Hp}
end
theorem gM {α: Type}{R:V->α->Prop}:∀ {us:List V}{as:List α}{i:Nat}{a:α},bX R us as->as[i]?=some a->∃ v,us[i]?=some v/\R v a
 |[],[],_,_,_,h=>by simp at h
 |v :: us,a :: as,0,_,⟨h,_⟩,q=>by simp at q;subst q;exact ⟨v,rfl,h⟩
 |v :: us,a :: as,i+1,x,⟨_,r⟩,q=>gM (i:=i) r (by simpa using q)
 |[],_ :: _,_,_,z,_=>z.elim
 |_ :: _,[],_,_,z,_=>z.elim
section
variable {P:Program}{w:World}{b:Bool}{C:Addr}{H H' G G':Hp}{x a c g v d l dA t:Addr}{prs:List Pr2}{ks qs:List An}{S:Lay An}{ah:Ah An}
end
end Mine
namespace L2
open PySem PySem.Spec PyProof.Rows
end L2
namespace Mine
open PySem L2
theorem aA1 {H:Hp}{a:Addr}{o:HO}(_:H a=none):aJ H a o a=some o:=aC
theorem nS.ts {H H':Hp}(t:TS H H') {k:List NKey}{q:Addr}(h:nS H k q):nS H' k q:=let ⟨vs,e,p⟩:=h;⟨vs,t _ _ e,p.mono (fun _ _ z=>z.ts t)⟩
def bP3 (fac:Int×Int) (e:En):En:=(e.1,jP fac e.2)
def dJ (fac:Int×Int) (es:List En):List En:=es.map (bP3 fac)
theorem rG (fac:Int×Int) (es:List En):(dJ fac es).map (·.1)=es.map (·.1):=by
 unfold dJ;rw [bg];rfl
structure PaO (es1 es2:List En) (prs:List Pr2) (fac rest:Int×Int) (M:Int):Prop where
 ly:LyO prs (es1.map (·.1)) (es2.map (·.1))
 one:∀ e∈es1,kJ e.2
 oth:∀ e∈es2,kJ e.2
 fc:kJ fac
 rs:kJ rest
 d1:∀ e∈es1,e.2.2 ∣ M
 lm:∀ e∈dJ fac es2,0<=e.2.1/\1<=e.2.2/\e.2.1 < 2 ^ 180/\e.2.2 < 2 ^ 180/\e.2.2 ∣ M
 d3:rest.2 ∣ M
 m1:1<=M
 mb:M < 2 ^ 134
def pgL (zs:List (Pr2×Addr)):List (Pr2×V):=zs.map fun z=>(z.1,.ref z.2)
def PgH (P:Program) (w:World) (b:Bool) (H:Hp) (d:Addr) (ps:List Pr2) (f:Pr2->Int×Int):Prop:=∃ zs,PD P w b H d (pgL zs)/\zs.map (·.1)=ps/\∀ z∈zs,cC H z.2 (f z.1).1 (f z.1).2
theorem PgH.same {P:Program}{w:World}{b:Bool}{H H':Hp}{d:Addr}{ps:List Pr2}{f:Pr2->Int×Int}(s:aT H H') (h:PgH P w b H d ps f):PgH P w b H' d ps f:=let ⟨zs,a,e,k⟩:=h;⟨zs,a.keep (TS.of s) (fun _ q=>s _ _ q),e,fun z hz=>s _ _ (k z hz)⟩
theorem aI9 {b:Bool}{H:Hp}{ws:List V}{es:List En}(tw:bX (EnA b H) ws es):∀ k∈es.map (·.1),VA b k:=fun k hk=>by
 obtain ⟨e,he,rfl⟩:=ap.mp hk;obtain ⟨j,hj,ej⟩:=ie he;obtain ⟨v,_,_,_,_,_,_,w,_⟩:=gM tw ((aj hj).trans (cg some ej));exact w.va
variable {es1 es2:List En}{prs:List Pr2}{fac rest:Int×Int}{M:Int}
theorem bC7 {u:Int×Int}{b:Int}(h:0<=u.1) (h2:1<=u.2) (hb:0<=b):0<=kG u b:=cv h (uz hb (by omega))
theorem xM {es:List En}{b:Int}(h:∀ e∈es,0<=e.2.1/\1<=e.2.2) (hb:0<=b) (k:An):0<=bQ es b k:=by
 unfold bQ
 cases e:es.find? fun e=>decide (e.1=k) with
 |none=>exact jz _
 |some u=>have:=h u (mj e);exact bC7 this.1 this.2 hb
end Mine
namespace L2
open PySem PySem.Spec PyProof.Rows
def aV7 (K:W.Frag) (neg:Bool):R2:=fun x y H Q=>∃ ds d,eI K H (.tuple ds) y/\eI K H d x/\SeqAt.shaped (.tuple ds)=true/\SeqAt.shaped d=true/\(∀ e∈ds,SeqAt.noMix e d=true)/\Q (.bl (if neg then !decide (Spec.countIn d ds≠0) else decide (Spec.countIn d ds≠0))) H
theorem xG {X:Cx}{k:Nat}(K:W.Frag) (hr:bW k X.A) (hK:X.K=K:=by rfl):iV X (compareOp .In) (aV7 K false):=by
 subst hK;intro pins s σ H x y v u Q I rx ry h;obtain ⟨ds,d,hd,he,sd,se,mx,q⟩:=h;obtain ⟨as,ra⟩:=eI.reads I _ y u hd ry;obtain ⟨bs,rb⟩:=eI.reads I d x v he rx;exact in_tuple_dataH ra rb sd se (by have:=hr.un;omega) mx ⟨.bl _,H,I,rfl,q⟩
theorem aY2 {X:Cx}{k:Nat}(K:W.Frag) (hr:bW k X.A) (hK:X.K=K:=by rfl):iV X (compareOp .NotIn) (aV7 K true):=by
 subst hK;intro pins s σ H x y v u Q I rx ry h;obtain ⟨ds,d,hd,he,sd,se,mx,q⟩:=h;obtain ⟨as,ra⟩:=eI.reads I _ y u hd ry;obtain ⟨bs,rb⟩:=eI.reads I d x v he rx;exact notIn_tuple_dataH ra rb sd se (by have:=hr.un;omega) mx ⟨.bl _,H,I,rfl,q⟩
end L2
namespace Mine
open PySem L2
theorem lG {b:Bool}{x a:An}(hx:VA b x) (ha:VA b a):Spec.same (cH b x) (cH b a)=true↔x=a:=by
 cases b with
 |true =>
  simp only [cH,if_true,Spec.same];rw [mL];exact decide_eq_true_iff
 |false =>
  obtain ⟨n,rfl⟩:=hx.resolve_left (by decide);obtain ⟨m,rfl⟩:=ha.resolve_left (by decide);simp [cH,Spec.same]
theorem pW (b:Bool) (x a:An):SeqAt.noMix (cH b x) (cH b a)=true:=by
 cases b
 ·simp [cH,SeqAt.noMix]
 ·simp only [cH,if_true,SeqAt.noMix];exact kL _ _
theorem mF (b:Bool) (a:An):SeqAt.shaped (cH b a)=true:=by
 have h:=lI b [a];simp only [List.map_cons,List.map_nil,PyData.canLayAll0,PyData.depthAll,Bool.and_true] at h;simp only [SeqAt.shaped,h.1,Bool.true_and];exact am (by have:=h.2;omega)
theorem kK {α: Type}{D:α->PyData}{p:α->Prop}{a:α}(hs:∀ x,p x->(Spec.same (D x) (D a)=true↔x=a)):∀ as:List α,(∀ x∈as,p x)->((Spec.countIn (D a) (as.map D)≠0)↔a∈as)
 |[],_=>by simp [Spec.countIn]
 |x :: r,h=>by
  have ih:=kK hs r fun y hy=>h y (ba _ hy)
  have hs':=hs x (h x au);have nn:0<=Spec.countIn (D a) (r.map D):=ya _ _;rw [ar,Spec.countIn,bi, <- ih]
  by_cases c:x=a
  ·rw [bb (hs'.mpr c)]
   constructor
   ·intro _;exact .inl c.symm
   ·intro _;omega
  ·rw [ao fun z=>c (hs'.mp z)]
   constructor
   ·intro h;exact .inr (by omega)
   ·rintro (h | h)
    ·exact absurd h.symm c
    ·omega
theorem bB7 {b:Bool}{H:Hp}{us:List V}{as:List An}(tw:bX (dG b H) us as):∀ a∈as,VA b a:=fun a ha=>by
 obtain ⟨j,hj,ej⟩:=ie ha;obtain ⟨v,_,w⟩:=gM tw ((aj hj).trans (cg some ej));exact w.va
section
variable {K:W.Frag}{b:Bool}{H:Hp}{Q:VK}
theorem aL8 {v u:V}{a c:An}(h1:dG b H v a) (h2:dG b H u c) (q:Q (.bl (decide (a=c))) H):xN K false v u H Q:=by
 refine ⟨cH b a,cH b c,eV h1,eV h2,mF b a,mF b c,pW b a c,?_⟩;rw [show (if false=true then !Spec.same (cH b a) (cH b c) else Spec.same (cH b a) (cH b c))=decide (a=c) by
  by_cases e:a=c
  ·rw [am e];exact (lG h1.va h2.va).mpr e
  ·rw [bu e];exact eh.mpr fun z=>e ((lG h1.va h2.va).mp z)]
 exact q
theorem bK2 {p q:Addr}{us:List V}{as:List An}(h:H p=some (.lst us)) (tw:bX (dG b H) us as) (hq:H q=some (.lst [])) (k:Q (.bl (!decide (as=[]))) H):xN K true (.ref p) (.ref q) H Q:=by
 refine ⟨.list (as.map (cH b)),.list [],qA h tw,⟨q,[],rfl,bK.of hq,rfl⟩,kO b as,iG,jC,?_⟩;rw [bb rfl,iA];rw [show decide (as.map (cH b)=[])=decide (as=[]) from eu.mpr (by rw [qj])];exact k
def eQ (b:Bool) (e:Pr2):PyData:= .tuple [cH b e.1,cH b e.2]
theorem vR {v:V}{e:Pr2}(h:lX b H v e):eI K H (eQ b e) v:=by
 obtain ⟨t,u,w,rfl,h1,h2,h3⟩:=h;exact ⟨t,[u,w],rfl,aV.of h1,u,[w],rfl,eV h2,w,[],rfl,eV h3,rfl⟩
theorem pV (b:Bool):∀ es:List Pr2,PyData.canLayAll0 (es.map (eQ b))=true/\PyData.depthAll (es.map (eQ b))<=2
 |[]=>⟨rfl,bz _⟩
 |e :: r=>by
  obtain ⟨h1,h2⟩:=pV b r;have a:=lI b [e.1,e.2];simp only [List.map_cons,List.map_nil] at a;refine ⟨?_,?_⟩
  ·rw [ar,PyData.canLayAll0,fb];exact ⟨by simp only [eQ,PyData.canLay0];exact a.1,h1⟩
  ·rw [ar,PyData.depthAll];have:(eQ b e).depth<=2:=by simp only [eQ,PyData.depth];have:=a.2;omega
   omega
theorem oF (b:Bool) (es:List Pr2):SeqAt.shaped (.tuple (es.map (eQ b)))=true:=by
 obtain ⟨h1,h2⟩:=pV b es;simp only [SeqAt.shaped,PyData.canLay0,h1,Bool.true_and];exact am (by simp only [PyData.depth];omega)
theorem aW8 {t:Addr}{ws:List V}{prs:List Pr2}(h:H t=some (.tup ws)) (tw:bX (lX b H) ws prs):eI K H (.tuple (prs.map (eQ b))) (.ref t) :=
 ⟨t,ws,rfl,aV.of h,tw.rep fun _ _ z=>vR z⟩
end
theorem sZ {b:Bool}{H:Hp}{v:V}{a:An}(ha:VA b a) (h:xW H (enc b a) v):dG b H v a:=by
 cases b with
 |true =>
  obtain ⟨c,e,h⟩:=h;exact ⟨c,e,by rw [<- qC];exact h⟩
 |false =>
  obtain ⟨n,rfl⟩:=ha.resolve_left (by decide);exact ⟨n,rfl,h⟩
theorem bD3 {b:Bool}{H:Hp}{t:Addr}{e:Pr2}(he:VP b e) (h:nS H (gQ b e) t):lX b H (.ref t) e:=by
 obtain ⟨vs,h1,p⟩:=h;unfold gQ at p
 cases p with
 |cons p1 p2 =>
  cases p2 with
  |cons p2 p3 =>
   cases p3
   exact ⟨t,_,_,rfl,h1,sZ he.1 p1,sZ he.2 p2⟩
theorem PgH.walk {P:Program}{w:World}{b:Bool}{H:Hp}{d:Addr}{ps:List Pr2}{f:Pr2->Int×Int}(h:PgH P w b H d ps f):∃ xs:List NE,H d=some (dN P w d xs)/\xs.length=ps.length/\(∀ (i:Nat) (x:NE),xs[i]?=some x->∃ e q,ps[i]?=some e/\x.2.2= .ref q/\cC H q (f e).1 (f e).2/\lX b H (.ref x.2.1) e):=by
 obtain ⟨zs,⟨⟨xs,h1,h2,h3⟩,h4⟩,h5,h6⟩:=h;have ln:xs.length=zs.length:=by
  have:=cg List.length h2;unfold pgL nQ at this
  simpa using this
 refine ⟨xs,h1,by rw [ln, <- h5,af],fun i x hx=>?_⟩;have li:=(bq.mp hx).1;have lz:i < zs.length:=by omega
 have e2:(nQ xs)[i]?=((pgL zs).map fun e=>(gQ b e.1,e.2))[i]?:=by rw [h2]
 unfold nQ pgL at e2;rw [bf,bg,bf,hx,aj lz] at e2;have e2:=da e2;have k1:x.1=gQ b zs[i].1:=cg Prod.fst e2;have k2:x.2.2= .ref zs[i].2:=cg Prod.snd e2;have mz:zs[i]∈zs:=jx lz;have va:=h4 (zs[i].1,.ref zs[i].2) (ap.mpr ⟨zs[i],mz,rfl⟩);have na:=h3 x (bo hx);rw [k1] at na;exact ⟨zs[i].1,zs[i].2,by rw [<- h5,bf,aj lz];rfl,k2,h6 _ mz,bD3 va na⟩
theorem wL {H G:Hp}{a:Addr}{o:Obj}{u:HO}(ha:H a=some u) (s:aT (aJ H a (.frz o u)) G):aT H (aJ G a u):=fun c q e=>by
 by_cases ca:c=a
 ·subst ca;rw [ha] at e;rw [aC];exact e
 ·rw [aE ca];exact s _ _ (by rw [aE ca];exact e)
theorem eO {H:Hp}{a:Addr}{o:Obj}{φ: Heap->Prop}(ha:H a=some (.ext φ)):TS H (aJ H a (.frz o (.ext φ))):=fun c xs q=>by rw [aE (cF q ha (by intro z;cases z))];exact q
theorem aJ5 {a c:Int}(ha:0<=a) (hc:1<=c):aI (aI a c).1 (aI a c).2=aI a c:=by
 have:=aP7 ha hc
 rwa [zd,zd] at this
theorem jE {a c:Int}(hc:1<=c):(aI a c).2 ∣ c:=by
 have dv:=sW (a:=a) (b:=c) (by omega);exact ⟨gI a c,by show c=dY a c * gI a c;unfold dY;rw [qi dv]⟩
theorem vO {a c M:Int}(ha:0<=a) (hc:1<=c) (hM:1<=M) (h:c ∣ M):aI a c=aI (a * (M / c)) M:=by
 obtain ⟨k,rfl⟩:=h;have k0:0<=k:=by
  by_cases q:0<=k
  ·exact q
  ·have:=gf (show k<= -1 by omega) (show 0<=c by omega);omega
 rw [im _ (by omega)];exact dB ha hc (cv ha k0) hM (by grind)
theorem aY0 {a c M:Int}(ha:0<=a) (hc:1<=c) (hM:1<=M) (h:(aI a c).2 ∣ M):aI a c=aI (kG (aI a c) M) M:=by
 have:=vO (a:=(aI a c).1) (c:=(aI a c).2) (cR ha) (cK hc) hM h
 rwa [aJ5 ha hc] at this
theorem tY {m M:Int}(hm:0<=m) (hM:1<=M):kG (aI m M) M=m:=by
 have r:=cU hm hM;have p:=cK (a:=m) hM;obtain ⟨k,e⟩:=jE (a:=m) hM;unfold kG;have p':1<=(aI m M).2:=p;generalize (aI m M).1=x at *;generalize (aI m M).2=y at *;rw [e,im _ (by omega)];rw [e] at r;refine Int.eq_of_mul_eq_mul_right (a:=y) (by omega) ?_
 grind
theorem aG3 {u:Int×Int}{bt M:Int}(h0:1<=u.2) (h1:u.2 ∣ bt) (h2:bt ∣ M) (hb:1<=bt):kG u M=kG u bt * (M / bt):=by
 obtain ⟨s,rfl⟩:=h1;obtain ⟨k,rfl⟩:=h2;unfold kG;rw [im _ (by omega),im _ (by omega),tq u.2,im _ (by omega),tq]
theorem qT {es:List En}{bt M:Int}(h:∀ e∈es,1<=e.2.2/\e.2.2 ∣ bt) (h2:bt ∣ M) (hb:1<=bt) (x:An):bQ es M x=bQ es bt x * (M / bt):=by
 unfold bQ
 cases e:es.find? fun e=>decide (e.1=x) with
 |none=>simp
 |some u=>exact aG3 (h u (mj e)).1 (h u (mj e)).2 h2 hb
theorem gJ {m n M:Int}(hm:0<=m) (hn:0<=n) (hM:1<=M):ltF (aI m M) (aI n M)=decide (m < n):=by
 have p:1<=(aI m M).2:=cK hM;rw [bI8 p hn hM];have r:=cU hm hM;unfold ltF;rw [eu]
 dsimp only
 rw [r];exact ⟨fun h=>qd h (by omega),fun h=>iw h (by omega)⟩
theorem aO4 {a c M:Int}(hc:0<=c) (h:c<=a) (hM:1<=M):bL8 (aI a M) (aI c M)=aI (a - c) M:=by
 have r1:=cU (show 0<=a by omega) hM;have r2:=cU hc hM;have p1:1<=(aI a M).2:=cK hM;have p2:1<=(aI c M).2:=cK hM;unfold bL8;generalize (aI a M).1=x at *;generalize (aI a M).2=y at *;generalize (aI c M).1=z at *;generalize (aI c M).2=t at *;have e:(x * t - z * y) * M=(a - c) * (y * t):=by grind
 refine dB ?_ (dD p1 p2) (by omega) hM e;have n:0<=(a - c) * (y * t):=cv (by omega) (by have:=dD p1 p2;omega);rw [<- e] at n;exact Int.nonneg_of_mul_nonneg_left n (by omega)
theorem aX8 {f:Int×Int}{n c:Int}(f0:0<=f.1) (f1:1<=f.2) (hn:0<=n) (hc:1<=c):jP f (aI n c)=aI (f.1 * n) (f.2 * c):=by
 have r:=cU hn hc;have p:1<=(aI n c).2:=cK hc;have q:0<=(aI n c).1:=cR hn;unfold jP;generalize (aI n c).1=x at *;generalize (aI n c).2=y at *;exact dB (cv f0 q) (dD f1 p) (cv f0 hn) (dD f1 hc) (by grind)
theorem gW {β: Type}(f:β->Int) (k:Int):∀ l:List β,(l.map fun x=>f x * k).sum=(l.map f).sum * k
 |[]=>by simp
 |x :: r=>by rw [ar,ed,ar,ed,gW f k r,aBh]
theorem xC {β: Type}{f g:β->Int}:∀ {l:List β},(∀ x∈l,f x<=g x)->(l.map f).sum<=(l.map g).sum
 |[],_=>jz _
 |x :: r,h=>by
  rw [ar,ed,ar,ed];have:=h x au;have:=xC (l:=r) fun y hy=>h y (ba _ hy)
  omega
theorem iJ {β: Type}{f:β->Int}{l:List β}(h:∀ x∈l,0<=f x):0<=(l.map f).sum:=by
 have:=xC (f:=fun _=>(0:Int)) h
 rwa [uT fun _ _=>rfl] at this
theorem oH {β: Type}{f:β->Int}(q:β->Bool) {l:List β}(h:∀ x∈l,0<=f x):((l.filter q).map f).sum<=(l.map f).sum:=by
 rw [aJ1];refine xC fun x hx=>?_
 split
 ·exact jz _
 ·exact h x hx
theorem lD {M:Int}(M1:1<=M) (M2:M < 2 ^ 134):∀ (ms:List Int) (S:Int),0<=S->(∀ m∈ms,0<=m)->S+ms.sum < 2 ^ 180 ->
  wG (aI S M) (ms.map fun m=>aI m M)/\(ms.map fun m=>aI m M).foldl iP (aI S M)=aI (S+ms.sum) M
 |[],S,h0,_,h1=>⟨trivial,by simp⟩
 |x :: r,S,h0,hx,h1=>by
  rw [ed] at h1;have x0:=hx x au;have hr:∀ m∈r,0<=m:=fun m hm=>hx m (ba _ hm)
  have rs:0<=r.sum:=by have:=iJ (f:=fun x:Int=>x) hr;simpa using this
  have a:=dU h0 x0 M1;have ih:=lD M1 M2 r (S+x) (by omega) hr (by omega);rw [ar,kr,a,ed];refine ⟨⟨xH h0 (by omega) M1 (by omega),xH x0 (by omega) M1 (by omega),?_⟩,by rw [ih.2,Int.add_assoc]⟩;show wG (iP (aI S M) (aI x M)) _;rw [a];exact ih.1
structure iC (c1 c2:Int) (es1 es2:List En) (fac:Int×Int) (M:Int):Prop where
 o1:dE c1 es1
 o2:dE c2 es2
 of:mV fac
 d:c1 * (fac.2 * c2) ∣ M
 m1:1<=M
 m2:M < 2 ^ 134
theorem gZ {es:List En}{b:Int}{x:An}(h:x∉es.map (·.1)):bQ es b x=0:=by
 unfold bQ;have:es.find? (fun e=>decide (e.1=x))=none:=wt.mpr fun e he q=>h (ap.mpr ⟨e,he,bc q⟩)
 rw [this]
variable {c1 c2:Int}{es1 es2:List En}{fac:Int×Int}{M:Int}
theorem iC.c1M (Z:iC c1 c2 es1 es2 fac M):c1 ∣ M:=mf (mh _ _) Z.d
theorem iC.c2M (Z:iC c1 c2 es1 es2 fac M):fac.2 * c2 ∣ M:=mf (Int.dvd_mul_left _ _) Z.d
theorem nL {c:Int}{es:List En}(T:dE c es) {e:En}(he:e∈es):∃ w,1<=w/\w<=c/\e.2=aI w c/\bQ es c e.1=w:=by
 obtain ⟨w,w1,w2,ew⟩:=T.sh e he;exact ⟨w,w1,w2,ew,by rw [qK T.nd he,ew,tY (by omega) T.c1]⟩
theorem nO {c:Int}{es:List En}(T:dE c es):((es.map (·.1)).map (bQ es c)).sum=c:=by
 obtain ⟨ws,e,s,p⟩:=T.sm;rw [bg,show es.map (bQ es c ∘ fun x=>x.1)=es.map (fun e=>kG e.2 c) from de fun x hx=>qK T.nd hx];rw [show es.map (fun e=>kG e.2 c)=(es.map (·.2)).map fun u=>kG u c by rw [bg];rfl,e,bg];rw [show ws.map ((fun u=>kG u c) ∘ fun w=>aI w c)=ws from (de fun w hw=>tY (by have:=p w hw;omega) T.c1).trans (aBi _)];exact s
theorem iC.one (Z:iC c1 c2 es1 es2 fac M) {e:En}(he:e∈es1):e.2=aI (bQ es1 M e.1) M/\1<=bQ es1 M e.1/\e.2.2 ∣ M:=by
 obtain ⟨w,w1,w2,ew,_⟩:=nL Z.o1 he;have dv:e.2.2 ∣ M:=by rw [ew];exact mf (jE Z.o1.c1) Z.c1M
 have ea:e.2=aI (bQ es1 M e.1) M:=by
  rw [qK Z.o1.nd he,ew];rw [ew] at dv;exact aY0 (by omega) Z.o1.c1 Z.m1 dv
 refine ⟨ea,?_,dv⟩;rw [qK Z.o1.nd he];unfold kG;have p1:1<=e.2.1:=(Z.o1.at he).2;have p2:1<=e.2.2:=(Z.o1.at he).1.b;have:=Int.ediv_pos_of_pos_of_dvd (show 0 < M by have:=Z.m1;omega) (by omega) dv;exact dD p1 (by omega)
theorem iC.sc1 (Z:iC c1 c2 es1 es2 fac M) (x:An):bQ es1 M x=bQ es1 c1 x * (M / c1):=qT (fun e he=>⟨(Z.o1.at he).1.b,by obtain ⟨w,w1,w2,ew,_⟩:=nL Z.o1 he;rw [ew];exact jE Z.o1.c1⟩) Z.c1M Z.o1.c1 x
theorem iC.sum1 (Z:iC c1 c2 es1 es2 fac M):((es1.map (·.1)).map (bQ es1 M)).sum=M:=by
 rw [jH fun x _=>Z.sc1 x,gW,nO Z.o1];exact aAi Z.c1M
theorem iC.nn1 (Z:iC c1 c2 es1 es2 fac M) (x:An):0<=bQ es1 M x:=xM (fun e he=>⟨by have:=(Z.o1.at he).2;omega,(Z.o1.at he).1.b⟩) (by have:=Z.m1;omega) x
theorem iC.lim (Z:iC c1 c2 es1 es2 fac M) {n:Int}(hn:0<=n):jP fac (aI n c2)=aI (fac.1 * n * (M / (fac.2 * c2))) M:=by
 rw [aX8 Z.of.a Z.of.b hn Z.o2.c1];exact vO (cv Z.of.a hn) (dD Z.of.b Z.o2.c1) Z.m1 Z.c2M
theorem iC.k0 (Z:iC c1 c2 es1 es2 fac M):0<=M / (fac.2 * c2):=uz (by have:=Z.m1;omega) (by have:=dD Z.of.b Z.o2.c1;omega)
theorem aT5 {es:List En}(nd:(es.map (·.1)).Nodup) {e:En}(he:e∈es) {b:Int}:bQ (dJ fac es) b e.1=kG (jP fac e.2) b :=
 qK (es:=dJ fac es) (e:=bP3 fac e) (by rw [rG];exact nd) (ap.mpr ⟨e,he,rfl⟩)
theorem iC.two (Z:iC c1 c2 es1 es2 fac M) (y:An):bQ (dJ fac es2) M y=fac.1 * bQ es2 c2 y * (M / (fac.2 * c2)):=by
 by_cases h:y∈es2.map (·.1)
 ·obtain ⟨e,he,rfl⟩:=ap.mp h;obtain ⟨w,w1,w2,ew,ea⟩:=nL Z.o2 he;rw [aT5 Z.o2.nd he,ea,ew,Z.lim (by omega)];exact tY (cv (cv Z.of.a (by omega)) Z.k0) Z.m1
 ·rw [gZ (es:=dJ fac es2) (by rw [rG];exact h),gZ h];simp
theorem iC.nn2 (Z:iC c1 c2 es1 es2 fac M) (y:An):0<=bQ (dJ fac es2) M y:=by
 rw [Z.two];exact cv (cv Z.of.a (xM (fun e he=>⟨by have:=(Z.o2.at he).2;omega,(Z.o2.at he).1.b⟩) (by have:=Z.o2.c1;omega) y)) Z.k0
theorem iC.oth (Z:iC c1 c2 es1 es2 fac M) {e:En}(he:e∈es2):e.2=aI (bQ es2 c2 e.1) c2/\0<=bQ es2 c2 e.1/\jP fac e.2=aI (bQ (dJ fac es2) M e.1) M/\fac.2 * e.2.2 ∣ M:=by
 obtain ⟨w,w1,w2,ew,ea⟩:=nL Z.o2 he;refine ⟨by rw [ea];exact ew,by omega,?_,?_⟩
 ·rw [Z.two,ea,ew,Z.lim (by omega)]
 ·rw [ew];exact mf (Int.mul_dvd_mul_left _ (jE Z.o2.c1)) Z.c2M
theorem iC.sum2 (Z:iC c1 c2 es1 es2 fac M):((es2.map (·.1)).map (bQ (dJ fac es2) M)).sum < 2 ^ 174:=by
 rw [jH fun x _=>Z.two x,gW];rw [show (fun x=>fac.1 * bQ es2 c2 x)=fun x=>bQ es2 c2 x * fac.1 by funext x;exact qr _ _,gW,nO Z.o2];have a:c2 * (M / (fac.2 * c2))<=M:=by
  have e:=aAi Z.c2M;have:=ij (show 1<=fac.2 from Z.of.b) (cv (show 0<=c2 by have:=Z.o2.c1;omega) Z.k0)
  grind
 have e:c2 * fac.1 * (M / (fac.2 * c2))=fac.1 * (c2 * (M / (fac.2 * c2))):=by grind
 rw [e];have h1:=gf a Z.of.a;have h2:=(vQ Z.of.a Z.of.a2 (show 0<=M by have:=Z.m1;omega) Z.m2).2;exact gj h1 (oh h2 (by decide))
section
variable {α: Type} [DecidableEq α]
def mB (prs:List (α×α)) (A:α->Bool) (y:α):Bool:=prs.any fun e=>decide (e.2=y) && A e.1
structure Fin (prs:List (α×α)) (ks qs:List α) (g h:α->Int) (l:(α×α)->Int) (left:Int) (R:α->Bool):Prop where
 nn:∀ e∈prs,0<=l e
 row:∀ x∈ks,bU0 prs l x<=g x
 col:∀ y∈qs,bT1 prs l y<=h y
 tot:(prs.map l).sum=(ks.map g).sum - left
 up:∀ A:α->Bool,((ks.filter A).map g).sum<=left+((qs.filter (mB prs A)).map h).sum
 eq:((ks.filter R).map g).sum=left+((qs.filter (mB prs R)).map h).sum
 l0:0<=left
end
end Mine
namespace L2
open PySem PySem.Spec PyProof.Rows
end L2
namespace Mine
open PySem L2
variable {c1 c2:Int}{es1 es2:List En}{fac rest:Int×Int}{M:Int}{prs:List Pr2}
theorem iC.pa (Z:iC c1 c2 es1 es2 fac M) (L:LyO prs (es1.map (·.1)) (es2.map (·.1))) (hr:kJ rest) (hd:rest.2 ∣ M):PaO es1 es2 prs fac rest M :=
 ⟨L,fun e he=>⟨(Z.o1.at he).1.b1.1,(Z.o1.at he).1.b1.2,(Z.o1.at he).1.b⟩,fun e he=>⟨(Z.o2.at he).1.b1.1,(Z.o2.at he).1.b1.2,(Z.o2.at he).1.b⟩,⟨Z.of.b1.1,Z.of.b1.2,Z.of.b⟩,hr,fun e he=>(Z.one he).2.2,fun e he=>by
  obtain ⟨u,hu,rfl⟩:=ap.mp he;show 0<=(jP fac u.2).1/\1<=(jP fac u.2).2/\(jP fac u.2).1 < 2 ^ 180/\(jP fac u.2).2 < 2 ^ 180/\(jP fac u.2).2 ∣ M;have:=bF1 Z.of (Z.o2.at hu).1;exact ⟨this.1,this.2.2.1,by omega,by omega,by rw [(Z.oth hu).2.2.1];exact jE Z.m1⟩,hd,Z.m1,Z.m2⟩
def eK (as:List An) (x:An):Bool:=decide (x∈as)
def zP (ks:List An) (g:An->Int) (as:List An):Int:=((ks.filter (eK as)).map g).sum
def uA (prs:List Pr2) (qs:List An) (h:An->Int) (as:List An):Int:=((qs.filter (mB prs (eK as))).map h).sum
def bR7:List An->List (List An)
 |ks=>ks.foldl (fun ss x=>ss++ss.map (· ++[x])) [[]]
def bL3 (prs:List Pr2) (ks qs:List An) (g h:An->Int) (W:Int) (as:List An):Int:=if uA prs qs h as+W < zP ks g as then zP ks g as - uA prs qs h as else W
def bV2 (prs:List Pr2) (ks qs:List An) (g h:An->Int):Int:=(bR7 ks).foldl (bL3 prs ks qs g h) 0
section
variable {α: Type} [DecidableEq α]
end
def bV3 (ks qs:List An):List Pr2:=(ks.filter (eK qs)).map fun x=>(x,x)
end Mine
namespace L2
open PySem PySem.Spec PyProof.Rows
end L2
namespace Mine
open PySem L2
structure nB (b:Bool) (H:Hp) (t1 t2 p3 p4:Addr) (c1 c2:Int) (es1 es2:List En) (fac:Int×Int) (ws3:List V) (prs:List Pr2):Prop where
 ask:aE6 b H t1 t2 p4 c1 c2 es1 es2 fac
 h3:H p3=some (.tup ws3)
 tw3:bX (lX b H) ws3 prs
 ly:LyO prs (es1.map (·.1)) (es2.map (·.1))
section
variable {b:Bool}{H H':Hp}{t1 t2 p3 p4:Addr}{c1 c2:Int}{es1 es2:List En}{fac:Int×Int}{ws3:List V}{prs:List Pr2}{M:Int}
theorem nB.ts (s:TS H H') (A:nB b H t1 t2 p3 p4 c1 c2 es1 es2 fac ws3 prs):nB b H' t1 t2 p3 p4 c1 c2 es1 es2 fac ws3 prs:=⟨A.ask.ts s,s _ _ A.h3,A.tw3.mono fun _ _ z=>lX.ts s z,A.ly⟩
structure MOk (c1 c2:Int) (fac:Int×Int) (M:Int):Prop where
 d:c1 * (fac.2 * c2) ∣ M
 m1:1<=M
 m2:M < 2 ^ 134
theorem nB.scl (A:nB b H t1 t2 p3 p4 c1 c2 es1 es2 fac ws3 prs) (m:MOk c1 c2 fac M):iC c1 c2 es1 es2 fac M:=⟨A.ask.o1,A.ask.o2,A.ask.of,m.d,m.m1,m.m2⟩
theorem aE6.base (A:aE6 b H t1 t2 p4 c1 c2 es1 es2 fac):MOk c1 c2 fac (c1 * (fac.2 * c2))/\c1 * (fac.2 * c2) < 2 ^ 118:=by
 obtain ⟨h1,h2⟩:=aT4 A.o1.c1 A.o1.c2 A.o2.c1 A.o2.c2 A.of;exact ⟨⟨Int.dvd_refl _,h1,by omega⟩,h2⟩
end
def bO (H:Hp) (q:Addr) (m M:Int):Prop:=cC H q (aI m M).1 (aI m M).2
def hM (es1:List En) (M:Int) (as:List An):Int:=zP (es1.map (·.1)) (bQ es1 M) as
def tM (prs:List Pr2) (es2:List En) (fac:Int×Int) (M:Int) (as:List An):Int:=uA prs (es2.map (·.1)) (bQ (dJ fac es2) M) as
def spPrs:Sp:=fun vs H Q _=>∃ d l b t1 t2 c1 c2 es1 es2,vs=[.ref d,.ref t1,.ref t2]/\cD H d l/\dO b H t1 es1/\dO b H t2 es2/\dE c1 es1/\dE c2 es2 /\
 ∀ H' p ws prs,H' p=some (.tup ws)->bX (lX b H') ws prs->LyO prs (es1.map (·.1)) (es2.map (·.1))->cD H' d l->bP d l H H'->Q (.ref p) H'
theorem jD {α: Type}(q:α->Bool) (f:α->Int) {l:List α}{i:Nat}{x:α}(h:l[i]?=some x):(((l.take (i+1)).filter q).map f).sum=(((l.take i).filter q).map f).sum+if q x=true then f x else 0:=by
 rw [aU h,oq,bj,ny]
 by_cases c:q x=true
 ·rw [jp c,bb c];simp
 ·rw [iq c,ao c];simp
theorem lK {α β: Type}{f:α->β}{l:List α}{i:Nat}{x:α}(h:l[i]?=some x):(l.map f)[i]?=some (f x):=by rw [bf,h];rfl
theorem lU {α: Type}(q:α->Bool) {f:α->Int}{l:List α}(h:∀ x,0<=f x) (i:Nat):0<=(((l.take i).filter q).map f).sum/\(((l.take i).filter q).map f).sum<=(l.map f).sum:=by
 refine ⟨iJ fun x _=>h x,ki (oH q fun x _=>h x) ?_⟩;have e:(l.map f).sum=((l.take i).map f).sum+((l.drop i).map f).sum:=by rw [<- ny, <- bj,kw]
 have:=iJ (f:=f) (l:=l.drop i) fun x _=>h x
 omega
section
variable {c1 c2:Int}{es1 es2:List En}{fac:Int×Int}{M:Int}
theorem iC.tb (Z:iC c1 c2 es1 es2 fac M) (prs:List Pr2) (as:List An):0<=tM prs es2 fac M as/\tM prs es2 fac M as < 2 ^ 174:=by
 have:=lU (mB prs (eK as)) (l:=es2.map (·.1)) Z.nn2 (es2.map (·.1)).length;rw [be] at this;exact ⟨this.1,gj this.2 Z.sum2⟩
theorem iC.hb (Z:iC c1 c2 es1 es2 fac M) (as:List An):0<=hM es1 M as/\hM es1 M as<=M:=by
 have:=lU (eK as) (l:=es1.map (·.1)) Z.nn1 (es1.map (·.1)).length;rw [be,Z.sum1] at this;exact this
theorem iC.nnc (Z:iC c1 c2 es1 es2 fac M) (x:An):0<=bQ es2 c2 x:=xM (fun e he=>⟨by have:=(Z.o2.at he).2;omega,(Z.o2.at he).1.b⟩) (by have:=Z.o2.c1;omega) x
theorem iC.et (Z:iC c1 c2 es1 es2 fac M) (prs:List Pr2) (as:List An):jP fac (aI (((es2.map (·.1)).filter (mB prs (eK as))).map (bQ es2 c2)).sum c2)=aI (tM prs es2 fac M as) M:=by
 rw [Z.lim (iJ fun x _=>Z.nnc x)];unfold tM uA;rw [jH fun x _=>Z.two x,gW];rw [show (fun x=>fac.1 * bQ es2 c2 x)=fun x=>bQ es2 c2 x * fac.1 by funext x;exact qr _ _,gW,qr fac.1]
end
theorem zT {y:Int}(h:1<=y):aI 1 y=(1,y):=by
 have g:gI 1 y=1:=by
  have g0:=tR (a:=1) h;have:=Int.le_of_dvd (by decide) (aA4 (a:=1) (b:=y) (by decide));omega
 unfold aI eZ dY;rw [g,Int.ediv_one,Int.ediv_one]
theorem bH {m M:Int}(m0:0<=m) (m1:m < 2 ^ 180) (M1:1<=M) (M2:M < 2 ^ 180):kJ (aI m M):=xH m0 m1 M1 M2
theorem sX {H:Hp}{r:Addr}{m M:Int}(h:H r=none):∃ G,aJ H r (.tup [.int (aI m M).1,.int (aI m M).2])=G/\aT H G/\bO G r m M:=⟨_,rfl,aB h _,aC⟩
structure PrI (ks qs:List An) (prs:List Pr2) (i j:Nat):Prop where
 nd:prs.Nodup
 me:∀ e∈prs,e.1∈ks/\e.2∈qs/\(e.1∈ks.take i\/ks[i]?=some e.1/\e.2∈qs.take j)
theorem qY {α: Type}{l:List α}{i:Nat}{x:α}(h:x∈l.take i):x∈l.take (i+1):=by
 rw [List.mem_take_iff_getElem] at h ⊢;obtain ⟨k,hk,e⟩:=h;exact ⟨k,by omega,e⟩
theorem aA7 {α: Type}{l:List α}{i:Nat}{x:α}(h:l[i]?=some x):x∈l.take (i+1):=by rw [aU h];exact cu _ (bw.mpr rfl)
theorem wF {α: Type}{l:List α}(nd:l.Nodup) {i:Nat}{x:α}(h:l[i]?=some x):x∉l.take i:=fun z=>by
 have li:=(bq.mp h).1;have s:l=l.take i++l.drop i:=(kw i l).symm;rw [s] at nd;refine (sj.mp nd).2.2 _ z _ ?_ rfl;rw [ql li,(bq.mp h).2];exact au
section
variable {ks qs:List An}{prs:List Pr2}{i j:Nat}{x y:An}
theorem PrI.skip (I:PrI ks qs prs i j):PrI ks qs prs i (j+1):=⟨I.nd,fun e he=>let ⟨a,b,c⟩:=I.me e he;⟨a,b,c.imp_right fun ⟨p,q⟩=>⟨p,qY q⟩⟩⟩
theorem PrI.next (I:PrI ks qs prs i j):PrI ks qs prs (i+1) 0:=⟨I.nd,fun e he=>let ⟨a,b,c⟩:=I.me e he;⟨a,b,.inl (c.elim qY fun ⟨p,_⟩=>aA7 p)⟩⟩
theorem PrI.add (I:PrI ks qs prs i j) (nk:ks.Nodup) (nq:qs.Nodup) (hx:ks[i]?=some x) (hy:qs[j]?=some y):PrI ks qs (prs++[(x,y)]) i (j+1):=by
 refine ⟨kI I.nd fun z=>?_,fun e he=>?_⟩
 ·obtain ⟨_,_,c | c⟩:=I.me _ z
  ·exact wF nk hx c
  ·exact wF nq hy c.2
 ·rcases cf.mp he with q | q
  ·exact I.skip.me e q
  ·rw [bw.mp q];exact ⟨bo hx,bo hy,.inr ⟨hx,aA7 hy⟩⟩
theorem PrI.len (I:PrI ks qs prs i j):prs.length<=ks.length * qs.length:=by
 have:=oW (m:=ks.flatMap fun x=>qs.map fun y=>((x,y):Pr2)) I.nd fun e he=>List.mem_flatMap.mpr ⟨e.1,(I.me e he).1,ap.mpr ⟨e.2,(I.me e he).2.1,rfl⟩⟩
 rw [List.length_flatMap] at this;have e:(ks.map fun _=>qs.length).sum=ks.length * qs.length:=by
  clear this;clear I
  induction ks with
  |nil=>simp
  |cons a r ih=>rw [ar,ed,ih,dy,Nat.add_mul];omega
 simpa [e] using this
end
structure wU (b:Bool) (H:Hp) (t:Addr) (T:An->Int) (M:Int) (l:List (An×V)):Prop where
 d:H t=some (fA b l)
 v:∀ e∈l,VA b e.1
 no:∀ x,bZ l x=none->T x=0
 yes:∀ x v,bZ l x=some v->∃ r,v= .ref r/\bO H r (T x) M
def dQ (b:Bool) (H:Hp) (t:Addr) (T:An->Int) (M:Int) (n:Nat):Prop:=∃ l,wU b H t T M l/\l.length<=n
section
variable {b:Bool}{H H':Hp}{t:Addr}{T:An->Int}{M:Int}{n:Nat}
theorem dQ.keep (h:dQ b H t T M n) (s:TS H H') (k:∀ o,H t=some o->H' t=some o):dQ b H' t T M n:=let ⟨l,L,z⟩:=h;⟨l,⟨k _ L.d,L.v,L.no,fun x v e=>let ⟨r,a,c⟩:=L.yes x v e;⟨r,a,s _ _ c⟩⟩,z⟩
theorem dQ.same (h:dQ b H t T M n) (s:aT H H'):dQ b H' t T M n:=h.keep (TS.of s) fun _ e=>s _ _ e
theorem dQ.start (hg:H t=none):dQ b (aJ H t (fA b [])) t (fun _=>0) M 0:=⟨[],⟨aC,fun _ z=>absurd z bh,fun _ _=>rfl,fun _ _ z=>by cases z⟩,ak _⟩
theorem wU.get {l:List (An×V)}(L:wU b H t T M l) (M1:1<=M) {z:Addr}(hz:cC H z 0 1) (x:An):∃ r,(bZ l x).getD (.ref z)= .ref r/\bO H r (T x) M:=by
 cases e:bZ l x with
 |none =>
  refine ⟨z,rfl,?_⟩;unfold bO;rw [L.no x e,cQ M1];exact hz
 |some v =>
  obtain ⟨r,rfl,h⟩:=L.yes x v e;exact ⟨r,rfl,h⟩
theorem aA9 {κ: Type} [DecidableEq κ] (l:List (κ×V)) (k:κ) (v:V):(bF l k v).length<=l.length+1:=by
 unfold bF
 split
 ·rw [af];omega
 ·rw [cb];exact ak _
theorem wU.put {l:List (An×V)}(L:wU b H t T M l) (hl:l.length<=n) {x:An}{r:Addr}{m:Int}(vx:VA b x) (hr:bO H r (T x+m) M):dQ b (aJ H t (fA b (bF l x (.ref r)))) t (fun y=>if y=x then T y+m else T y) M (n+1):=by
 have ts:TS H (aJ H t (fA b (bF l x (.ref r)))):=fun c xs q=>by rw [aE (cF q L.d uG)];exact q
 refine ⟨bF l x (.ref r),⟨aC,fun e he=>?_,fun y hy=>?_,fun y v hy=>?_⟩,cj (aA9 l x _) (by omega)⟩
 ·rcases pE he with q | ⟨z,hz,q⟩
  ·rw [q];exact vx
  ·rw [<- q];exact L.v z hz
 ·rw [iX] at hy
  by_cases c:y=x
  ·rw [bb c] at hy;cases hy
  ·rw [ao c] at hy;rw [ao c];exact L.no y hy
 ·rw [iX] at hy
  by_cases c:y=x
  ·rw [bb c] at hy
   cases hy
   rw [bb c];exact ⟨r,rfl,by subst c;exact ts _ _ hr⟩
  ·rw [ao c] at hy;obtain ⟨q,e,h⟩:=L.yes y v hy;rw [ao c];exact ⟨q,e,ts _ _ h⟩
theorem dQ.eq {T':An->Int}(h:dQ b H t T M n) (e:T=T'):dQ b H t T' M n:=e ▸ h
end
def gE (sd:Bool) (e:Pr2):An:=if sd then e.2 else e.1
def fM (ps:List Pr2) (l:Pr2->Int) (sd:Bool) (x:An):Int:=((ps.filter fun e=>decide (gE sd e=x)).map l).sum
theorem aG1 {ps:List Pr2}{l:Pr2->Int}{sd:Bool}{i:Nat}{e:Pr2}(h:ps[i]?=some e):fM (ps.take (i+1)) l sd=fun y=>if y=gE sd e then fM (ps.take i) l sd y+l e else fM (ps.take i) l sd y:=by
 funext y
 unfold fM;rw [jD _ l h]
 by_cases c:gE sd e=y
 ·rw [bb (am c),bb c.symm]
 ·rw [ao (by simpa using c),ao fun z=>c z.symm,rc]
structure PgM (P:Program) (w:World) (b:Bool) (H:Hp) (d:Addr) (ps:List Pr2) (l:Pr2->Int) (M:Int):Prop where
 h:PgH P w b H d ps fun e=>aI (l e) M
 z:ps.length<=200
 p:∀ e∈ps,1<=l e
 s:(ps.map l).sum<=512 * M
 m1:1<=M
 m2:M < 2 ^ 134
theorem PgM.same {P:Program}{w:World}{b:Bool}{H H':Hp}{d:Addr}{ps:List Pr2}{l:Pr2->Int}{M:Int}(h:PgM P w b H d ps l M) (s:aT H H'):PgM P w b H' d ps l M:=⟨h.h.same s,h.z,h.p,h.s,h.m1,h.m2⟩
theorem uK {ps:List Pr2}{l:Pr2->Int}(h:∀ e∈ps,0<=l e) (q:Pr2->Bool) (i:Nat):0<=(((ps.take i).filter q).map l).sum/\(((ps.take i).filter q).map l).sum<=(ps.map l).sum:=by
 refine ⟨iJ fun x hx=>h x (gw (fi.mp hx).1),ki (oH q fun x hx=>h x (gw hx)) ?_⟩;have e:(ps.map l).sum=((ps.take i).map l).sum+((ps.drop i).map l).sum:=by rw [<- ny, <- bj,kw]
 have:=iJ (f:=l) (l:=ps.drop i) fun x hx=>h x (aAj hx)
 omega
def aR3 (P:Program) (w:World):Sp:=fun vs H Q _=>∃ b d sd ps l M,vs=[.ref d,.int (if sd then 1 else 0)]/\PgM P w b H d ps l M/\∀ H' t,aT H H'->dQ b H' t (fM ps l sd) M 200->Q (.ref t) H'
theorem jG {β: Type}{f:β->Int}:∀ {l:List β}{x:β},x∈l->(∀ y∈l,0<=f y)->f x<=(l.map f).sum
 |a :: r,x,h,n=>by
  rw [ar,ed];have r0:=iJ (f:=f) (l:=r) fun y hy=>n y (ba _ hy)
  rcases bi.mp h with e | e
  ·rw [e];omega
  ·have:=jG e fun y hy=>n y (ba _ hy)
   have:=n a au;omega
 |[],_,h,_=>absurd h bh
theorem PgM.le {P:Program}{w:World}{b:Bool}{H:Hp}{d:Addr}{ps:List Pr2}{l:Pr2->Int}{M:Int}(h:PgM P w b H d ps l M) {e:Pr2}(he:e∈ps):0<=l e/\l e<=512 * M:=by
 have:=jG (f:=l) he fun y hy=>by have:=h.p y hy;omega
 have:=h.p e he;have:=h.s;omega
theorem lY {M:Int}(h:1<=M):aI M M=(1,1):=by
 rw [<- zT (y:=1) (by decide)];exact dB (by omega) h (by decide) (by decide) (by omega)
def spRiseT:Sp:=fun vs H Q _=>∃ (l:Addr) (zs:List V) (b:Bool) (as:List (List Int)),vs=[.ref l]/\H l=some (.tup zs)/\bX (dG b H) zs as/\as.length<=100/\∀ H',aT H H'->Q (.bl (kZ as)) H'
def prX (prs:List Pr2) (x:V):List (Pr2×V):=prs.map fun e=>(e,x)
def PrX (b:Bool) (x:V) (H:Hp) (v:V) (e:Pr2):Prop:=∃ t q,v= .ref t/\H t=some (.tup [.ref q,x])/\nS H (gQ b e) q/\VP b e
theorem PrX.ts {b:Bool}{x:V}{H H':Hp}(s:TS H H') {v:V}{e:Pr2}(h:PrX b x H v e):PrX b x H' v e:=let ⟨t,q,e1,h1,h2,h3⟩:=h;⟨t,q,e1,s _ _ h1,nS.ts s h2,h3⟩
theorem aF6 {b:Bool}{x:V}{H:Hp}{ys:List V}{prs:List Pr2}(tw:bX (PrX b x H) ys prs):yR H ys ((prX prs x).map fun e=>(gQ b e.1,e.2)):=by
 refine ⟨by rw [tw.length];unfold prX;rw [af,af],fun i e he=>?_⟩;unfold prX at he;rw [bg,bf] at he
 cases q:prs[i]? with
 |none=>rw [q] at he;cases he
 |some z =>
  rw [q] at he
  cases he
  obtain ⟨v,hv,t,c,rfl,h1,h2,_⟩:=gM tw q;exact ⟨t,c,hv,h1,h2⟩
theorem aK1 {b:Bool}{x:V}{H:Hp}{ys:List V}{prs:List Pr2}(tw:bX (PrX b x H) ys prs):∀ e∈prX prs x,VP b e.1:=fun e he=>by
 obtain ⟨f,hf,rfl⟩:=ap.mp he;obtain ⟨j,hj,ej⟩:=ie hf;obtain ⟨v,_,_,_,_,_,_,w⟩:=gM tw ((aj hj).trans (cg some ej));exact w
theorem aJ7 (prs:List Pr2) (x:V):(prX prs x).map (·.1)=prs:=by
 unfold prX;rw [bg];exact aBi _
def jS (es:List (An×V)):List (An×V):=es.foldl (fun m e=>bF m e.1 e.2) []
theorem xU {es:List (An×V)}{i:Nat}{e:An×V}(h:es[i]?=some e):jS (es.take (i+1))=bF (jS (es.take i)) e.1 e.2:=by
 unfold jS;rw [aU h,xj];rfl
theorem rT:∀ (es m:List (An×V)),(es.foldl (fun m e=>bF m e.1 e.2) m).length<=m.length+es.length
 |[],m=>by simp
 |e :: r,m=>by
  have:=rT r (bF m e.1 e.2);have:=aA9 m e.1 e.2;rw [kr,dy];omega
theorem pH {b:Bool}:∀ (es m:List (An×V)),(∀ e∈es,VA b e.1)->(∀ e∈m,VA b e.1)->∀ e∈es.foldl (fun m e=>bF m e.1 e.2) m,VA b e.1
 |[],m,_,h=>h
 |e :: r,m,h1,h2=>pH r _ (fun x hx=>h1 x (ba _ hx)) fun x hx=>by
  rcases pE hx with q | ⟨z,hz,q⟩
  ·rw [q];exact h1 e au
  ·rw [<- q];exact h2 z hz
theorem oO:∀ (es m:List (An×V)) (x:An),(bZ (es.foldl (fun m e=>bF m e.1 e.2) m) x).isSome=true↔(x∈es.map (·.1)\/(bZ m x).isSome=true)
 |[],m,x=>by simp
 |e :: r,m,x=>by
  rw [kr,oO r,iX,ar,bi]
  by_cases c:x=e.1
  ·rw [bb c];simp [c]
  ·rw [ao c];simp [c]
theorem aG4 {b:Bool}{H:Hp}{d:Addr}{ys:List V}{es:List (An×V)}(tw:bX (PrA b H) ys es) (hz:es.length < sizeLine) (hd:H d=none) (ok:∀ e∈es,VA b e.1):kP H d ys fun i=>fA b (jS (es.take i)):=fun i hi=>by
 obtain ⟨e,he,t,u,e1,h1,h2⟩:=tw.at (aj hi);have l:=tw.length;have ts:TS H (aJ H d (fA b (jS (es.take i)))):=fun c xs q=>by rw [aE (aH q hd)];exact q
 have:=mJ (u:=e.2) (H:=aJ H d (fA b (jS (es.take i)))) (d:=d) aC (pH _ [] (fun x hx=>ok x (gw hx)) (fun _ z=>absurd z bh)) (h2.ts ts) (by
  have:=rT (es.take i) [];rw [cq] at this;unfold jS;simp at this;omega)
 rw [aB6] at this;refine ⟨t,u,e.2,by rw [aj hi,e1],h1,?_⟩
 dsimp only
 rw [xU he];exact this
theorem aE7 {b:Bool}{H:Hp}{d:Addr}{es:List En}{v:V}{a:An}(D:qP b H d es) (hv:dG b H v a) {s:Int×Int}(h:iK es a=some s):∃ p,fL H d v (some (.ref p))/\cC H p s.1 s.2:=by
 obtain ⟨o,g,r⟩:=D.get hv;rw [h] at r
 cases o with
 |none=>exact r.elim
 |some x =>
  obtain ⟨p,rfl,q⟩:=(show FrR H x s from r)
  exact ⟨p,g,q⟩
theorem aH5 {α: Type}{R:V->α->Prop}:∀ {us:List V}{as:List α},us.length=as.length->(∀ (i:Nat) v a,us[i]?=some v->as[i]?=some a->R v a)->bX R us as
 |[],[],_,_=>trivial
 |u :: us,a :: as,h,k=>⟨k 0 u a rfl rfl,aH5 (by simpa using h) fun i v x h1 h2=>k (i+1) v x (by simpa using h1) (by simpa using h2)⟩
 |[],_ :: _,h,_=>by simp at h
 |_ :: _,[],h,_=>by simp at h
theorem aS5 {as:List An}{x:An}{u:V}(h:x∈as):bZ (as.map fun a=>(a,u)) x=some u:=by
 induction as with
 |nil=>exact absurd h bh
 |cons k ks ih =>
  by_cases c:k=x
  ·subst c;exact bL (p:=(k,u)) rfl
  ·exact (bC (p:=(k,u)) (r:=ks.map fun a=>(a,u)) c).trans (ih ((bi.mp h).resolve_left fun z=>c z.symm))
theorem aU9 {as:List An}{x:An}{u:V}(h:x∉as):bZ (as.map fun a=>(a,u)) x=none:=by
 induction as with
 |nil=>rfl
 |cons k ks ih =>
  rw [bi,not_or] at h;exact (bC (p:=(k,u)) (r:=ks.map fun a=>(a,u)) (fun z=>h.1 z.symm)).trans (ih h.2)
end Mine
namespace L2
open PySem PySem.Spec PyProof.Rows
section
variable {prog:Program}{w:World}{A:Around}{E:Value->Shared->Prop}{s:Shared}{d:Addr}{o:Obj}{es:Array DictEntry}{ep:Nat}{hh:Int}{Q:Option Nat->Shared->Prop}
def sI (prog:Program) (w:World) (A:Around) (s:Shared) (v:Value):Prop:=∀ (R:Bool->Shared->Prop) (E:Value->Shared->Prop),R true s->wpAny (model prog w) A (eqIsQuiet 8 v) R E s
def aL2 (prog:Program) (w:World) (A:Around) (s:Shared) (u v:Value):Prop:=∀ (R:Bool->Shared->Prop) (E:Value->Shared->Prop),R false s->wpAny (model prog w) A (eqBool u v) R E s
theorem aB4 {key:Value}{stored:List Value}{Q:Bool->Shared->Prop}(hq:sI prog w A s key) (hs:∀ v∈stored,sI prog w A s v) (h:Q false s):wpAny (model prog w) A (tableMayTell key stored) Q E s:=by
 unfold tableMayTell
 split
 ·exact ac h
 ·refine aa (hq _ _ ?_);simp only [Bool.not_true,Bool.false_eq_true,if_false];refine aa ?_;refine jv _ (fun rest r s'=>s'=s/\r=(none,())/\∀ v∈rest,sI prog w A s v) _ ?_ ?_ _ _ ⟨rfl,rfl,hs⟩
  ·rintro x rest r s' ⟨rfl,rfl,hr⟩;refine aa (hr x au _ _ ?_);simp only [Bool.not_true,Bool.false_eq_true,if_false];exact ac ⟨rfl,rfl,fun v hv=>hr v (ba _ hv)⟩
  ·rintro r s' ⟨rfl,rfl,_⟩;exact ac h
theorem iD {v:Value}(hv:v∈(placesWithHash es.size (fun i=>es[i]?.map (·.hash)) hh).filterMap (fun i=>es[i]?.map (·.key))):∃ e∈es,e.key=v:=by
 obtain ⟨i,_,hi⟩:=nu.mp hv
 cases hei:es[i]? with
 |none=>rw [hei] at hi;cases hi
 |some e =>
  rw [hei] at hi;exact ⟨e,ku hei,by simpa using hi⟩
theorem aH3 {a:Addr}(ho:s.heap.get? d=some o) (hd:o.data= .dict es ep) (nk:∀ e∈es,e.key≠ .ref a) (hq:sI prog w A s (.ref a)) (hs:∀ e∈es,sI prog w A s e.key) (df:∀ e∈es,aL2 prog w A s e.key (.ref a)) (h:Q none s):wpAny (model prog w) A (dictFind d (.ref a) hh) Q E s:=by
 have hany:¬ (es.any fun e=>e.key == Value.ref a && e.hash != hh)=true:=by
  rw [<- Array.any_toList,gu];rintro ⟨e,hin,hc⟩;rw [fb,beq_iff_eq] at hc;exact nk e (ur.mp hin) hc.1
 have hone:¬ (((placesWithHash es.size (fun i=>es[i]?.map (·.hash)) hh).filterMap (fun i=>es[i]?.map (·.key))) == [Value.ref a])=true:=fun z=>by
  have e:=eq_of_beq z;obtain ⟨f,hf,ef⟩:=iD (v:= .ref a) (by rw [e];exact bw.mpr rfl);exact nk f hf ef
 unfold dictFind
 try with_reducible refine cp ?_
 refine aa (di ho hd ?_)
 dsimp only
 rw [ao (show ¬ ((Value.ref a :: (placesWithHash es.size (fun i=>es[i]?.map (·.hash)) hh).filterMap (fun i=>es[i]?.map (·.key))).all carriedByValue)=true by simp [carriedByValue])];rw [ao hany,ao hone];refine aa (aB4 hq (fun v hv=>?_) ?_)
 ·obtain ⟨e,he,rfl⟩:=iD hv;exact hs e he
 rw [ao (by simp)];refine aa ?_;refine jv _ (fun rest b s'=>s'=s/\b=(none,none)) _ ?_ ?_ _ _ ⟨rfl,rfl⟩
 ·rintro x rest b s' ⟨rfl,rfl⟩
  cases hx:es[x]? with
  |none=>exact ac ⟨rfl,rfl⟩
  |some e =>
   have me:=ku hx
   dsimp only
   by_cases c:(e.hash == hh)=true
   ·rw [bb c];refine aa (dt ho hd (aa (df e me _ _ (aa (dt ho hd ?_)))));show wpAny _ _ (if (ep != ep)=true then _ else _) _ E _;rw [ao (by simp)];simp only [Bool.false_eq_true,if_false];refine aa (jb ?_)
    first | rw [ao (by simp)] | skip
    first
     |exact ac ⟨rfl,rfl⟩
     |exact aa (ac (ac ⟨rfl,rfl⟩))
   ·rw [ao c];exact ac ⟨rfl,rfl⟩
 ·rintro b s' ⟨rfl,rfl⟩;exact ac h
theorem aP1 {n:Int}{t:Tok}(ho:s.heap.get? d=some o) (hd:o.data= .dict es ep) (nk:∀ e∈es,carriedByValue e.key=false) (hs:∀ e∈es,sI prog w A s e.key) (df:∀ e∈es,aL2 prog w A s e.key (.int n t)) (h:Q none s):wpAny (model prog w) A (dictFind d (.int n t) hh) Q E s:=by
 have hone:¬ (((placesWithHash es.size (fun i=>es[i]?.map (·.hash)) hh).filterMap (fun i=>es[i]?.map (·.key))) == [Value.int n t])=true:=fun z=>by
  have e:=eq_of_beq z;obtain ⟨f,hf,ef⟩:=iD (v:= .int n t) (by rw [e];exact bw.mpr rfl);have:=nk f hf;rw [ef] at this
  cases this
 unfold dictFind
 try with_reducible refine cp ?_
 refine aa (di ho hd ?_)
 dsimp only
 by_cases c0:((Value.int n t :: (placesWithHash es.size (fun i=>es[i]?.map (·.hash)) hh).filterMap (fun i=>es[i]?.map (·.key))).all carriedByValue)=true
 ·rw [bb c0];refine aa ?_;refine jv _ (fun rest b s'=>s'=s/\b=(none,())) _ ?_ ?_ _ _ ⟨rfl,rfl⟩
  ·rintro x rest b s' ⟨rfl,rfl⟩
   cases hx:es[x]? with
   |none=>exact ac ⟨rfl,rfl⟩
   |some e =>
    have me:=ku hx
    dsimp only
    by_cases c:(e.hash == hh)=true
    ·rw [bb c];refine aa (dt ho hd (aa (df e me _ _ (aa (dt ho hd ?_)))));show wpAny _ _ (if (ep != ep)=true then _ else _) _ E _;rw [ao (by simp)];simp only [Bool.false_eq_true,if_false]
     first
      |exact aa (jb (ac ⟨rfl,rfl⟩))
      |exact aa (jb (aa (ac (ac ⟨rfl,rfl⟩))))
    ·rw [ao c];exact ac ⟨rfl,rfl⟩
  ·rintro b s' ⟨rfl,rfl⟩;exact ac h
 rw [ao c0,ao hone];refine aa (aB4 (fun R E q=>by rw [su _ rfl];exact ac q) (fun v hv=>?_) ?_)
 ·obtain ⟨e,he,rfl⟩:=iD hv;exact hs e he
 rw [ao (by simp)];refine aa ?_;refine jv _ (fun rest b s'=>s'=s/\b=(none,none)) _ ?_ ?_ _ _ ⟨rfl,rfl⟩
 ·rintro x rest b s' ⟨rfl,rfl⟩
  cases hx:es[x]? with
  |none=>exact ac ⟨rfl,rfl⟩
  |some e =>
   have me:=ku hx
   dsimp only
   by_cases c:(e.hash == hh)=true
   ·rw [bb c];refine aa (dt ho hd (aa (df e me _ _ (aa (dt ho hd ?_)))));show wpAny _ _ (if (ep != ep)=true then _ else _) _ E _;rw [ao (by simp)];simp only [Bool.false_eq_true,if_false];refine aa (jb ?_)
    first | rw [ao (by simp)] | skip
    first
     |exact ac ⟨rfl,rfl⟩
     |exact aa (ac (ac ⟨rfl,rfl⟩))
   ·rw [ao c];exact ac ⟨rfl,rfl⟩
 ·rintro b s' ⟨rfl,rfl⟩;exact ac h
end
theorem hZ {α β: Type}(f:α->β):∀ (l:List α) (j:Nat),(l.map f).eraseIdx j=(l.eraseIdx j).map f
 |[],_=>rfl
 |_ :: _,0=>rfl
 |a :: l,j+1=>by rw [ar,io,io,ar,hZ f l j]
section
variable {prog:Program}{w:World}{K:Type} [DecidableEq K] {knd:HeapKind prog w K}{A:Around}{E:Value->Shared->Prop}{s:Shared}{d a:Addr}{xs:List (K×Addr×Value)}{k:K}
theorem aG0 {j:Nat}{p:Addr×Value}{Q:Option DictEntry->Shared->Prop}(hu:knd.room A) (hkey:knd.is s.heap k a) (hm:s.heap.DictOfH knd d xs) (hz:xs.length<=sizeLine) (hj:xs[j]?=some (k,p))
  (h:∀ h',h'.DictOfH knd d (xs.eraseIdx j)->Heap.SameBut d s.heap h'->Q (some (entryOfKey knd (k,p))) { s with heap:=h',toks:=s.toks+knd.draws k }):wpAny (model prog w) A (Builtin.Dict.takeOut d (.ref a)) Q E s:=by
 obtain ⟨o,es,ep,ho,hc,hd,he,his,hn⟩:=hm;unfold Builtin.Dict.takeOut;refine cp (aa (knd.pyHash hu hkey (aa (wpAny_dictFind_heap (s:={ s with toks:=s.toks+knd.draws k }) hu hkey ho hd he his hn (fun no=>absurd hj (no j p)) fun j' p' hj'=>?_))))
 cases idxH_unique hn hj hj'
 rw [hj] at hj'
 cases hj'
 refine (show wpAny _ _ (dictEntries d _ >>= _) _ _ _ from aa (di (s:={ s with toks:=s.toks+knd.draws k }) ho hd ?_));rw [entry_at he j,hj];refine aa (wpAny_updateDictKeys (hz:=by have e:=size_of_entries he;omega) (s:={ s with toks:=s.toks+knd.draws k }) ho hd (ac (h _ ⟨_,_,ep+1,jd _ ho (Obj.isFreed_of_dict (aAk hd _)),hc.mapDictKeys _,aAk hd _,?_,?_,?_⟩ (ju ..))))
 ·obtain ⟨l⟩:=es;simp only [List.eraseIdxIfInBounds_toArray];rw [show l=xs.map (entryOfKey knd) from he];exact hZ ..
 ·intro y hy;exact knd.keeps (his y ((cw _ _).subset hy)) ho hd (ju ..)
 ·exact hn.sublist ((cw xs j).map _)
end
theorem aP6 {xs:List NE}{ys:List (List NKey×Addr×Value)}(r:KN xs ys):∀ j,KN (xs.eraseIdx j) (ys.eraseIdx j):=by
 induction r with
 |nil=>intro j;exact .nil
 |@cons p q ps qs h t ih =>
  intro j
  cases j with
  |zero=>exact t
  |succ j=>exact .cons h (ih j)
theorem bA5 {xs:List NE}{ys:List (List NKey×Addr×Value)}(r:KN xs ys):∀ {j:Nat}{x:NE},xs[j]?=some x->∃ y,ys[j]?=some y/\x.1=y.1/\x.2.1=y.2.1/\bA x.2.2 y.2.2:=by
 induction r with
 |nil=>intro j x h;cases h
 |@cons p q ps qs h t ih =>
  intro j x hj
  cases j with
  |zero=>cases hj;exact ⟨q,rfl,h⟩
  |succ j=>exact ih hj
def aZ4 (P:Program) (w:World) (td ty:TE):TE:=fun σ H Q=>td σ H fun x H1=>∃ a,x= .ref a/\(∃ l,DN P w H1 a l)/\ty σ H1 fun y H2=>∃ l ks b v j,DN P w H2 a l/\y= .ref b/\nS H2 ks b/\l[j]?=some (ks,v)/\∀ H',DN P w H' a (l.eraseIdx j)->(∀ c,c≠a->H' c=H2 c)->Q v H'
section
variable {X:Cx}{o e f:Expr}{apos cpos:Pos}{td ty tx:TE}{k:Nat}
theorem aX0 (hr:bW k X.A) (ho:PE X o td) (he:PE X e ty) (m:M1 X o "pop" apos e cpos):PE X (.Call (.Attribute o "pop" apos) [e] [] cpos) (aZ4 X.prog X.w td ty):=by
 intro pins s σ H Q I h;have hu:=hr.units;refine wpAny_Call_method m.base m.few m.line jo zx PySem.F.type_dict_pop (cI (ho pins s σ H _ I h) fun u s1 ⟨x,H1,I1,rx,a,ex,⟨l1,ys1,e1,_,k1⟩,q1⟩=>?_);subst ex;obtain rfl:u=Value.ref a:=rx;obtain ⟨_,_,zs1,_,dd1⟩:=oM I1.hok (.inl e1) k1;refine ⟨dd1.typeIs,?_,?_⟩
 ·obtain ⟨ob,_,_,g1,g2,_⟩:=dd1;intro b q
  cases q
  exact ⟨ob,g1,g2.2.1⟩
 rw [m.trees];refine gy rfl (uw (kd (cI (he pins s1 σ H1 _ I1 q1) fun iv s2 ⟨y,H2,I2,ry,l,ks,b,v,j,⟨xs,e2,el,hk⟩,ey,eb,hj,q2⟩=>oy ?_)));subst ey el
 cases (show iv=Value.ref b from ry)
 obtain ⟨z,hd,ys,rel,dd⟩:=oM I2.hok (.inl e2) hk;have tyd:=dd.typeIs;obtain ⟨x,hx,ex⟩:∃ x,xs[j]?=some x/\(x.1,x.2.2)=(ks,v):=by
  unfold nQ at hj;rw [bf] at hj;obtain ⟨x,h1,h2⟩:=ge.mp hj;exact ⟨x,h1,h2⟩
 obtain ⟨⟨yk,yp,yv⟩,hy,r1,r2,r3⟩:=bA5 rel hx
 cases ex
 dsimp only at r1 r2 r3
 rw [<- r1] at hy;refine cr zx tyd PySem.F.entry_dict_pop ?_ (PySem.F.args_dict_pop_2 _ _);unfold Builtin.«dict.pop» Builtin.Dict.keyAndDefault;refine aa (aa (ik tyd ?_));refine (show wpAny _ _ (pure (a,Value.ref b,none)) _ _ _ from ac ?_);obtain ⟨ob,es,ep,g1,g2,g3,g4,g5,g6⟩:=id dd;have ne:es.isEmpty=false:=by
  have sz:=size_of_entries g4;have:j < ys.length:=(bq.mp hy).1;rw [Array.isEmpty_eq_false_iff];intro q;rw [q] at sz;simp at sz;omega
 refine (show wpAny _ _ (dictEntries a >>= _) _ _ _ from aa (di g1 g3 ?_));rw [ne];simp only [Bool.false_eq_true,if_false];refine (show wpAny _ _ (Builtin.Dict.takeOut a (.ref b) >>= _) _ _ _ from aa (aG0 (show X.A.units+1+3 < cLine by omega) (jN I2.hok eb) dd (by rw [<- fw rel];exact z) hy fun h' dd' hs=>?_));simp only [Option.isNone_some,Bool.false_eq_true,if_false];refine aa (sy (ac ⟨_,rfl,?_⟩));have he:∃ q,h'.get? a=some q:=let ⟨q,_,_,hq,_⟩:=dd';⟨q,hq⟩
 have nt:∀ c ys,H2 c=some (.tup ys)->aJ H2 a (dN X.prog X.w a (xs.eraseIdx j)) c=some (.tup ys):=fun c ys ec=>by
  rw [aE (cF ec e2 (fun z=>nomatch z))];exact ec
 refine ⟨x.2.2,_,iB I2 (by rw [e2];exact gr) hs he (aM1 (cj (cw xs j).length_le z) hd (aP6 rel j) dd'),r3,q2 _ ⟨_,aC,?_,fun x hx=>?_⟩ fun c hc=>aE hc⟩
 ·unfold nQ;exact (hZ ..).symm
 ·exact (hk x ((cw _ _).subset hx)).ts nt
end
section
variable {X:Cx}{pins:List (Addr×Obj)}{σ: St}{H:Hp}{s:Shared}{A:Around}{E:Value->Shared->Prop}
theorem aB1 {d:Addr}{u:Value}{o:Obj}{t:Nat}{hh:Int}{Q:Value->Shared->Prop}(ho:s.heap.get? d=some o) (hc:o.ExactDict) (hs:(d == sysModules)=false)
  (hp:∀ (R:Int->Shared->Prop) (E:Value->Shared->Prop),R hh { s with toks:=t }->wpAny (model X.prog X.w) A.in1 (pyHash u) R E s)
  (hf:∀ (R:Option Nat->Shared->Prop) (E:Value->Shared->Prop),R none { s with toks:=t }->wpAny (model X.prog X.w) A.in1 (dictFind d u hh) R E { s with toks:=t })
  (h:Q (.bool false) { s with toks:=t }):wpAny (model X.prog X.w) A (compareOp .In u (.ref d)) Q E s:=by
 have ty:s.TypeIs (.ref d) "dict":=⟨o,ho,hc.1⟩
 show wpAny _ _ (do return .bool (<- contains (.ref d) u)) Q E s;refine aa ?_;unfold contains
 try with_reducible refine cp ?_
 refine aa (iu ty slot_dict_contains.lookup ?_);show wpAny _ _ (if (some (Value.builtin "dict.__contains__") == some Value.none)=true then _ else _) _ E s;rw [ao (by rw [beq_builtin_none];exact ck)];refine aa (wpAny_callSpecialUnlessNone?_slot (name:=Str.ofString "__contains__") ty aBb
  (cr aBb ty entry_dict_contains ?_ (args_dict_contains _ _)))
 show wpAny _ _ (dictGet d u >>= _) _ _ s;refine aa ?_;unfold dictGet
 try with_reducible refine cp ?_
 refine aa (hp _ _ (aa (hf _ _ (ac ?_))));show wpAny _ _ (Builtin.Dict.pendingKey? d u >>= _) _ _ _;exact aa (wpAny_pendingKey_other hs (ac ⟨_,rfl,ib (ac h)⟩))
def bJ3 (H:Hp) (a:Addr) (y:V):Prop:=(∃ kvs b,∃ ns:List Key,Rd H a (.dK kvs)/\y= .ref b/\H b=some (.tup (ns.map kV)))\/∃ kvs n,Rd H a (.dT kvs)/\y= .int n
theorem bS0 {a:Addr}{y:V}{u:Value}{Q:Value->Shared->Prop}(hu:A.units+8 < cLine) (I:aN X pins σ H s) (g:bJ3 H a y) (ry:bA y u) (h:∀ s',aN X pins σ H s'->Q (.bool false) s') :
  wpAny (model X.prog X.w) A (compareOp .In u (.ref a)) Q E s:=by
 rcases g with ⟨kvs,b,ns,e,rfl,hb⟩ | ⟨kvs,n,e,rfl⟩
 ·cases (show u=Value.ref b from ry)
  obtain ⟨z,hd,vs,rel,o,es,ep,h1,h2,h3,h4,h5,h6⟩:=mZ I.hok e;have T:lB s.heap ns b:=yI I.hok hb;obtain ⟨ob,items,n,t1,t2,t3,t4⟩:=id T;have it:∀ t:Nat,({ s with toks:=t }:Shared).heap.IsTuple b items:=fun t=>⟨ob,t1,t2,n,t3⟩
  have shp:∀ e∈es,(∃ i t,e.key= .int i t)\/∃ x t,e.key= .str x t:=fun e he=>by
   obtain ⟨k',hk,_⟩:=h4 e he;rcases aY (show eL k' e.key=true from hk) with ⟨i,t,_,q⟩ | ⟨x,t,_,q⟩
   ·exact .inl ⟨i,t,q⟩
   ·exact .inr ⟨x,t,q⟩
  refine aB1 (hh:=tupleKeyHash (bB X.prog X.w) ns) h1 h2 hd (fun R E q=>aBa (show A.units+1 < cLine by omega) T.key q) (fun R E q=>aH3 h1 h3 (fun e he q=>?_) (fun R E q=>mN (s:={ s with toks:=_ }) T q) (fun e he R E q=>?_) (fun e he R E q=>?_) q) (h _ (I.tok _))
  ·rcases shp e he with ⟨i,t,r⟩ | ⟨x,t,r⟩ <;> (rw [r] at q;cases q)
  ·rcases shp e he with ⟨i,t,r⟩ | ⟨x,t,r⟩ <;> (rw [r,su _ rfl];exact ac q)
  ·rcases shp e he with ⟨i,t,r⟩ | ⟨x,t,r⟩
   ·rw [r];exact aAe i t (it _) (show A.units+1 < cLine by omega) X.prog X.w _ _ q
   ·rw [r];exact aAf x t (it _) (show A.units+1 < cLine by omega) X.prog X.w _ _ q
 ·obtain ⟨t,rfl⟩:=ry;obtain ⟨z,hd,xs,rel,o,es,ep,h1,h2,h3,h4,h5,h6⟩:=mX I.hok e;have shp:∀ e∈es,∃ b ns,e.key= .ref b/\lB s.heap ns b:=fun e he=>by
   have:e∈xs.map (entryOfKey (tupleKind (bB X.prog X.w))):=h4 ▸ ur.mpr he;obtain ⟨x,hx,rfl⟩:=ap.mp this;obtain ⟨o,i,n,q1,q2,q3,q4⟩:=h5 x hx;exact ⟨x.2.1,x.1,rfl,o,i,n,q1,q2,q3,gD.of q4⟩
  refine aB1 (hh:=(bB X.prog X.w).hash (.inl n)) h1 h2 hd (fun R E q=>(bB X.prog X.w).pyHash (k:= .inl n) (mU (k:= .inl n) ⟨t,rfl⟩) q) (fun R E q=>aP1 h1 h3 (fun e he=>?_) (fun e he R E q=>?_) (fun e he R E q=>?_) q) (h _ (I.tok _))
  ·obtain ⟨b,ns,r,_⟩:=shp e he;rw [r];rfl
  ·obtain ⟨b,ns,r,T⟩:=shp e he;rw [r];exact mN (s:={ s with toks:=_ }) T q
  ·obtain ⟨b,ns,r,ob,items,n',t1,t2,t3,t4⟩:=shp e he;rw [r];exact aAg (s:={ s with toks:=s.toks+1 }) n t ⟨ob,t1,t2,n',t3⟩ (show A.units+1 < cLine by omega) X.prog X.w _ _ q
end
def bS4 (ty td:TE):TE:=fun σ H Q=>ty σ H fun y H1=>td σ H1 fun x H2=>∃ a,x= .ref a/\((∃ o,fL H2 a y o/\Q (.bl o.isSome) H2)\/bJ3 H2 a y/\Q (.bl false) H2)
theorem bD4 {X:Cx}{o i:Expr}{td ty:TE}{k:Nat}(hr:bW k X.A) (hi:PE X i ty) (ho:PE X o td):PC X .In i o (bS4 ty td):=by
 intro pins s σ H Q I h;have hu:=hr.units;refine cI (hi pins s σ H _ I h) fun iv s1 ⟨y,H1,I1,ry,q1⟩=>cI (ho pins s1 σ H1 _ I1 q1) fun u s2 ⟨x,H2,I2,rx,a,ex,q2⟩=>?_
 subst ex;obtain rfl:u=Value.ref a:=rx;rcases q2 with ⟨ov,g,q3⟩ | ⟨g,q3⟩
 ·exact bI9 (by omega) I2 g ry fun s3 I3=>⟨.bl ov.isSome,H2,I3,rfl,q3⟩
 ·exact bS0 (by omega) I2 g ry fun s3 I3=>⟨.bl false,H2,I3,rfl,q3⟩
section
variable {prog:Program}{w:World}{A:Around}{d it:Addr}{o:Obj}{es:Array DictEntry}{ep:Nat}
theorem aI7 (hh:A.handled=none) (hne:d≠it) (h3:o.data= .dict es ep) :
  Walks prog w A it [it,d] [it] es.size (fun i v=>∃ e,es[i]?=some e/\v=e.key) (fun i h=>h.IsKeyIter it d i es.size ep/\h.get? d=some o) where
 sub:=fun b hb=>by simp at hb;simp [hb]
 frame:=fun _ _ _ st hk=>⟨let ⟨oi,q1,q2⟩:=st.1;⟨oi,hk it (by simp) _ q1,q2⟩,hk d (by simp) _ st.2⟩
 item:=fun i s Q E hi st hQ=>aJ9 st.1 st.2 h3 (ii hi) fun h' hit' sb=>hQ _ h' s.toks ⟨_,ii hi,rfl⟩ ⟨hit',(sb.2 d hne).trans st.2⟩ fun b o hb e=>(sb.2 b (fun z=>hb (by simp [z]))).trans e
 done:=fun s Q E st hQ=>aW4 hh st.1 st.2 h3 (ox (ak _)) fun h' k=>hQ h' s.toks fun b o hb e=>k b o (fun z=>hb (by simp [z])) e
 self:=fun _ _ _ _ st hQ=>wpAny_pyIter_keyiter st.1 hQ
theorem bG2 (lo:(d == sysModules)=false) (h2:o.ExactDict) (h3:o.data= .dict es ep):W.KdlSrc prog w "dict" d d es.size (fun i x=>∃ e,es[i]?=some e/\x=e.key) (fun h=>h.get? d=some o) where
 type:=fun _ x=>⟨o,x,h2.1⟩
 there:=fun _ x=>⟨az x,az x⟩
 keep:=fun _ _ x k=>k d (.inl rfl) _ x
 notList:=by decide
 notTuple:=by decide
 hint:=fun _ _ _ _ x q=>W.kdl_hint_dict ⟨o,x,h2.1⟩ q
 iter:=fun _ _ hh x=>⟨_,_,(fun _ _ q=>aI0 lo x h2 h3 q),aI7 hh (bv (az x)) h3,⟨⟨_,aq _ rfl,rfl,rfl⟩,ag _ x⟩⟩
end
section
variable {X:Cx}
theorem yS (hc:X.calm=true:=by rfl):cB X (.type "list") (fun xs H Q=>∃ (d:Addr) (ys:List NE),xs=[.ref d]/\H d=some (dN X.prog X.w d ys)/\∀ l,H l=none->Q (.ref l) (aJ H l (.lst (ys.map fun y=> .ref y.2.1)))):=by
 intro pins s σ H xs us Q I r h;obtain ⟨d,ys,rfl,hd,q⟩:=h;obtain ⟨u,rfl,ru⟩:=eW r
 cases ru
 obtain ⟨⟨z,hs,nd,zs,rel,o,es,ep,g1,g2,g3,g4⟩,_⟩:=(show bD X.prog X.w H s.heap d (dN X.prog X.w d ys) from I.hok d _ hd)
 have sz:es.size=ys.length:=by
  rw [fw rel];have:=cg List.length g4;rw [af,fj] at this;exact this
 refine W.kdl_call (bG2 (o:=o) (es:=es) (ep:=ep) hs g2 g3) (I.ok.hd hc) g1 (by rw [sz];exact z) fun h' tk acc c kp hl ai=>?_
 have f:=I.hok.fresh (ak s.heap.objs.size);have al:acc.toList.length=(ys.map fun y=>V.ref y.2.1).length:=by rw [fj,ai.1,sz,af]
 refine ⟨.ref s.heap.objs.size,_,I.laid (o:= .lst (ys.map fun y=> .ref y.2.1)) (t':=tk) kp (ak _) ⟨by rw [af];exact z,acc.toList,c,?_,by rw [hl,pq]⟩,rfl,q _ f⟩;refine aM8 al fun i y hy=>?_
 obtain ⟨e,he,ey⟩:=ai.2 i y (by rw [<- eo];exact hy);rw [<- eo,g4,bf] at he;obtain ⟨x,hx,ex⟩:=ge.mp he;have:i < ys.length:=by rw [fw rel];exact (bq.mp hx).1
 obtain ⟨x',hx',r1,r2,_⟩:=bA5 rel (aj this);rw [hx] at hx'
 cases hx'
 refine ⟨.ref ys[i].2.1,by rw [bf,aj this];rfl,?_⟩;rw [ey, <- ex,r2];rfl
theorem bE5 {prog:Program}{w:World}{A:Around}{E:Value->Shared->Prop}{s:Shared}{d:Addr}{o:Obj}{es:Array DictEntry}{ep:Nat}{Q:Value->Shared->Prop}(hd:(d == sysModules)=false) (h1:s.heap.get? d=some o) (h2:o.ExactDict) (h3:o.data= .dict es ep) (hz:es.size<=sizeLine) (h:Q (.int es.size (s.toks+1)) { s with toks:=s.toks+1+1 }):wpAny (model prog w) A (call (.builtin "len") [.ref d]) Q E s:=by
 have ty:s.TypeIs (.ref d) "dict":=⟨o,h1,h2.1⟩
 refine xm kind_len plain_len entry_len (args_len1 _) ?_;unfold Builtin.«len»;refine aa (m:=oneArg "len" _) (ac ?_);refine aa (m:=callSpecial? (.ref d) (Str.ofString "__len__")) (db (name:=Str.ofString "__len__") ty F.slot_dict_len
  (cr F.slot_dict_len ty F.entry_dict_len ?_ (F.args_dict_len_1 _)))
 show wpAny _ _ (dictSize d >>= _) _ _ s;unfold dictSize;refine aa (aa (di h1 h3 (ac ?_)));show wpAny _ _ (Builtin.Dict.pendingCount d >>= _) _ _ s;refine aa (wpAny_pendingCount_other hd ?_);refine wpAny_ret_mkInt ?_;show wpAny _ _ _ _ _ { s with toks:=s.toks+1 };rw [show (es.size:Int)+((0:Nat):Int)=(es.size:Int) from rc _];refine aa (cp (ac ?_));refine aa (sy ?_);rw [qf] at hz;show wpAny _ _ (if ((es.size:Nat):Int) < 0 then _ else _) _ _ _;rw [ao (by omega)];show wpAny _ _ (if ((es.size:Nat):Int) ≥ 2 ^ 63 then _ else _) _ _ _;rw [ao (by omega)];exact aa (wpAny_mkInt (ac ⟨_,rfl,h⟩))
theorem rZ:cB X (.builtin "len") (fun xs H Q=>∃ (d:Addr) (ys:List NE),xs=[.ref d]/\H d=some (dN X.prog X.w d ys)/\Q (.int ys.length) H):=by
 intro pins s σ H xs us Q I r h;obtain ⟨d,ys,rfl,hd,q⟩:=h;obtain ⟨u,rfl,ru⟩:=eW r
 cases ru
 obtain ⟨⟨z,hs,nd,zs,rel,o,es,ep,g1,g2,g3,g4⟩,_⟩:=(show bD X.prog X.w H s.heap d (dN X.prog X.w d ys) from I.hok d _ hd)
 have sz:es.size=ys.length:=by
  rw [fw rel];have:=cg List.length g4;rw [af,fj] at this;exact this
 refine bE5 hs g1 g2 g3 (by rw [sz];exact z) ?_;rw [sz];exact ⟨.int ys.length,H,I.tok _,⟨_,rfl⟩,q⟩
end
def kD:Key->PyData
 |.inl i=> .int i
 |.inr x=> .str x
def nD:NKey->PyData
 |.inl k=>kD k
 |.inr ks=> .tuple (ks.map kD)
def aI3 (ks:List NKey):PyData:= .tuple (ks.map nD)
def frD (f:Int×Int):PyData:= .tuple [.int f.1,.int f.2]
def entD (e:List NKey×(Int×Int)):PyData×PyData:=(aI3 e.1,frD e.2)
theorem qZ {h:Heap}{k:Key}{v:Value}(q:eL k v=true):Reads h v (kD k) []:=by
 rcases aY q with ⟨i,t,rfl,rfl⟩ | ⟨x,t,rfl,rfl⟩
 ·exact .int i t
 ·exact .str x t
theorem qL {h:Heap}:∀ {ks:List Key}{vs:List Value},gD ks vs->ReadsAll h vs (ks.map kD) []
 |_,_,.nil=> .nil
 |_,_,.cons q r=> .cons (as:=[]) (bs:=[]) (qZ q) (qL r)
theorem aD0 {h:Heap}:∀ {k:NKey}{v:Value},lT h k v->Reads h v (nD k) []
 |.inl _,_,q=>qZ q
 |.inr _,_,⟨c,e,o,i,n,a,b,cc,d⟩=>by rw [e];exact .tuple a b cc (qL d)
theorem wT {h:Heap}:∀ {ks:List NKey}{vs:List Value},fE h ks vs->ReadsAll h vs (ks.map nD) []
 |_,_,.nil=> .nil
 |_,_,.cons q r=> .cons (as:=[]) (bs:=[]) (aD0 q) (wT r)
theorem zL {h:Heap}{ks:List NKey}{a:Addr}(q:fX h ks a):Reads h (.ref a) (aI3 ks) []:=let ⟨_,_,_,h1,h2,h3,h4⟩:=q; .tuple h1 h2 h3 (wT h4)
def FrN (H:Hp) (x:NE) (e:List NKey×(Int×Int)):Prop:=x.1=e.1/\nS H x.1 x.2.1/\∃ q,x.2.2= .ref q/\H q=some (.tup [.int e.2.1,.int e.2.2])
section
variable {X:Cx}{pins:List (Addr×Obj)}{σ: St}{H:Hp}{s:Shared}
theorem aM2 (ok:iQ X.prog X.w H s.heap) {q:Addr}{i j:Int}(h:H q=some (.tup [.int i,.int j])):Reads s.heap (.ref q) (frD (i,j)) []:=by
 obtain ⟨o,its,n,h1,h2,h3,h4⟩:=yI (ks:=[.inl i,.inl j]) ok h;exact .tuple h1 h2 h3 (qL h4)
theorem wS (ok:iQ X.prog X.w H s.heap):∀ {xs:List NE}{ys:List (List NKey×Addr×Value)}{es:List (List NKey×(Int×Int))},KN xs ys->(xs.length=es.length/\∀ (i:Nat) x e,xs[i]?=some x->es[i]?=some e->FrN H x e) ->
  ReadsAll s.heap ((ys.map (entryOfKey (fK X.prog X.w))).map (·.key)) ((es.map entD).map (·.1)) []/\ReadsAll s.heap ((ys.map (entryOfKey (fK X.prog X.w))).map (·.val)) ((es.map entD).map (·.2)) []
 |_,_,[],.nil,_=>⟨.nil,.nil⟩
 |_,_,_ :: _,.nil,h=>absurd h.1 (by simp)
 |_,_,[],.cons _ _,h=>absurd h.1 (by simp)
 |x :: _,y :: _,e :: es,.cons q r,h=>by
  obtain ⟨h1,h2⟩:=wS ok (es:=es) r ⟨by simpa using h.1,fun i x e a b=>h.2 (i+1) x e (by simpa using a) (by simpa using b)⟩;obtain ⟨e1,e2,c,e3,e4⟩:=h.2 0 x e rfl rfl;obtain ⟨q1,q2,q3⟩:=q;refine ⟨.cons (as:=[]) (bs:=[]) ?_ h1,.cons (as:=[]) (bs:=[]) ?_ h2⟩
  ·show Reads s.heap (.ref y.2.1) (aI3 e.1) [];rw [<- e1, <- q2];exact zL (jN ok e2)
  ·show Reads s.heap y.2.2 (frD e.2) [];rw [e3] at q3;rw [show y.2.2=Value.ref c from q3];exact aM2 ok e4
def qJ (nm:Str) (es:List (List NKey×(Int×Int))):PyData:= .tuple [.str nm,.dict (es.map entD)]
def aS0 (P:Program) (w:World):List V->Hp->VK->Prop:=fun vs H Q=>∃ (p d:Addr) (nm:Str) (xs:List NE) (es:List (List NKey×(Int×Int))),vs=[.ref p]/\H p=some (.tup [.str nm,.ref d])/\H d=some (dN P w d xs)/\(xs.length=es.length/\∀ (i:Nat) x e,xs[i]?=some x->es[i]?=some e->FrN H x e) /\
 (qJ nm es).showable=true/\(qJ nm es).depth<=64/\(qJ nm es).shown.length<=sizeLine/\Q (.str (qJ nm es).shown) H
theorem zM {k:Nat}(hr:bW k X.A):cB X (.builtin "repr") (aS0 X.prog X.w):=by
 intro pins s σ H xs us Q I r h;obtain ⟨p,d,nm,ys,es,rfl,hp,hd,hx,h1,h2,h3,q⟩:=h;obtain ⟨u,rfl,ru⟩:=eW r
 cases ru
 obtain ⟨⟨z,hs,nd,zs,rel,o,ds,ep,g1,g2,g3,g4⟩,_⟩:=(show bD X.prog X.w H s.heap d (dN X.prog X.w d ys) from I.hok d _ hd)
 obtain ⟨r1,r2⟩:=wS I.hok rel hx;rw [<- g4] at r1 r2;obtain ⟨_,its,rv,o2,k1,k2,n,k3,_⟩:=(show bD X.prog X.w H s.heap p (.tup [.str nm,.ref d]) from I.hok p _ hp)
 obtain ⟨u1,u2,rfl,e1,e2⟩:=mY rv;obtain ⟨t,rfl⟩:=e1
 cases (show u2=Value.ref d from e2)
 have rd:Reads s.heap (.ref p) (qJ nm es) _:= .tuple k1 k2 k3 (.cons (.str nm t) (.cons (.dict g1 g2.1 g3 r1 r2) .nil));refine repr_of_reads' rd h1 (fun _=>?_) hr.gd (by have:=hr.un;omega) (fun b o e=>e) (fun h' u tk hk=>⟨.str _,H,I.kept hk,⟨_,rfl⟩,q⟩) h3;intro m;have:sysModules=d:=by simpa using m
 rw [<- this] at hs;simp at hs
end
theorem aT7 (ts:List Str):(tupleText ts).length<=piled ts+3:=by
 by_cases h:ts=[]
 ·subst h;decide
 ·have e3:=join_length_add ts h;unfold tupleText;rw [qe,qe];have e4:((("(": String):Str)).length=1:=rfl;have e5:(((if ts.length == 1 then ",)" else ")": String):Str)).length<=2:=by split <;> decide
  omega
structure Sh (d:PyData) (k n:Nat):Prop where
 s:d.showable=true
 dp:d.depth<=k
 l:d.shown.length<=n
theorem Sh.int {i:Int}(h:gK i):Sh (.int i) 0 1921:=⟨by simp [PyData.showable];exact h.log,by simp [PyData.depth],PyProof.Rows.int_text_len_1921 h.log⟩
theorem aK6 {k n:Nat}:∀ {ds:List PyData},(∀ d∈ds,Sh d k n)->PyData.showableAll ds=true/\PyData.depthAll ds<=k/\piled (PyData.shownAll ds)<=(n+2) * ds.length
 |[],_=>⟨rfl,bz _,ak _⟩
 |d :: r,h=>by
  have hd:=h d au;obtain ⟨a,b,c⟩:=aK6 fun x hx=>h x (ba _ hx)
  refine ⟨by simp only [PyData.showableAll,hd.s,a,Bool.and_self],by simp only [PyData.depthAll];have:=hd.dp;omega,?_⟩;simp only [PyData.shownAll];rw [piled_cons,dy,Nat.mul_succ];have:=hd.l;omega
theorem Sh.tuple {k n m:Nat}{ds:List PyData}(h:∀ d∈ds,Sh d k n) (hl:ds.length<=m):Sh (.tuple ds) (k+1) ((n+2) * m+3):=by
 obtain ⟨a,b,c⟩:=aK6 h;refine ⟨by simp only [PyData.showable,a],by simp only [PyData.depth];omega,?_⟩;have t:=aT7 (PyData.shownAll ds);have:=aAq (n+2) hl;show (tupleText (PyData.shownAll ds)).length<=_;omega
theorem bB1 {k n:Nat}:∀ {ds:List (PyData×PyData)},(∀ d∈ds,Sh d.1 k n/\Sh d.2 k n)->PyData.showableKv ds=true/\PyData.depthKv ds<=k/\piled (PyData.shownKv ds)<=(2 * n+4) * ds.length
 |[],_=>⟨rfl,bz _,ak _⟩
 |(x,y) :: r,h=>by
  obtain ⟨h1,h2⟩:=h (x,y) au;obtain ⟨a,b,c⟩:=bB1 fun x hx=>h x (ba _ hx)
  refine ⟨by simp only [PyData.showableKv,h1.s,h2.s,a,Bool.and_self],by simp only [PyData.depthKv];have u1:=h1.dp;have u2:=h2.dp;dsimp only at u1 u2;omega,?_⟩;simp only [PyData.shownKv];rw [piled_cons,dy,Nat.mul_succ,qe,qe];have:=h1.l;have:=h2.l;have e:(((": ": String):Str)).length=2:=rfl;rw [e]
  dsimp only at *
  omega
theorem Sh.dict {k n m:Nat}{ds:List (PyData×PyData)}(h:∀ d∈ds,Sh d.1 k n/\Sh d.2 k n) (hl:ds.length<=m):Sh (.dict ds) (k+1) ((2 * n+4) * m+3):=by
 obtain ⟨a,b,c⟩:=bB1 h;refine ⟨by simp only [PyData.showable,a],by simp only [PyData.depth];omega,?_⟩;have:=aAq (2 * n+4) hl;show (dictText (PyData.shownKv ds)).length<=_;have e:(dictText (PyData.shownKv ds)).length=1+(Str.join ", " (PyData.shownKv ds)).length+1:=by
  unfold dictText;rw [qe,qe];rfl
 by_cases q:PyData.shownKv ds=[]
 ·rw [q] at e ⊢;rw [e];have:(Str.join ", " []).length=0:=rfl;omega
 ·have:=join_length_add _ q;omega
theorem Sh.mono {d:PyData}{k k' n n':Nat}(h:Sh d k n) (hk:k<=k') (hn:n<=n'):Sh d k' n':=⟨h.s,cj h.dp hk,cj h.l hn⟩
end L2
namespace Mine
open PySem L2
abbrev Bn:=Bool×An
def VB (z:Bn):Prop:=VA z.1 z.2
def tQ (z:Bn):NKey:=enc z.1 z.2
theorem uW {x y:Bn}(hx:VB x) (hy:VB y) (h:tQ x=tQ y):x=y:=by
 obtain ⟨bx,ax⟩:=x;obtain ⟨by',ay⟩:=y
 cases bx <;> cases by'
 ·exact cg (Prod.mk false) (nN hx hy h)
 ·simp [tQ,enc] at h
 ·simp [tQ,enc] at h
 ·exact cg (Prod.mk true) (nN hx hy h)
def hJ (H:Hp) (v:V) (z:Bn):Prop:=dG z.1 H v z.2
theorem hJ.ts {H H':Hp}{v:V}{z:Bn}(t:TS H H') (h:hJ H v z):hJ H' v z:=dG.ts t h
abbrev Qr:=Bn×Bn
def lM (e:Qr):List NKey:=[tQ e.1,tQ e.2]
def VQ (e:Qr):Prop:=VB e.1/\VB e.2
theorem tX {x y:Qr}(hx:VQ x) (hy:VQ y) (h:lM x=lM y):x=y:=by
 unfold lM at h;injection h with h1 h2
 injection h2 with h2 _
 exact xw (uW hx.1 hy.1 h1) (uW hx.2 hy.2 h2)
def QrV (H:Hp) (t:Addr) (e:Qr):Prop:=∃ u w,H t=some (.tup [u,w])/\hJ H u e.1/\hJ H w e.2
theorem QrV.ts {H H':Hp}{t:Addr}{e:Qr}(s:TS H H') (h:QrV H t e):QrV H' t e:=let ⟨u,w,a,b,c⟩:=h;⟨u,w,s _ _ a,b.ts s,c.ts s⟩
theorem QrV.nat {H:Hp}{t:Addr}{e:Qr}(h:QrV H t e):nS H (lM e) t:=let ⟨u,w,a,b,c⟩:=h;⟨[u,w],a,.cons (dG.sub b) (.cons (dG.sub c) .nil)⟩
theorem QrV.vq {H:Hp}{t:Addr}{e:Qr}(h:QrV H t e):VQ e:=let ⟨_,_,_,b,c⟩:=h;⟨dG.va b,dG.va c⟩
theorem bG3 {H:Hp}{t:Addr}{e:Qr}(he:VQ e) (h:nS H (lM e) t):QrV H t e:=by
 obtain ⟨vs,h1,p⟩:=h;unfold lM at p
 cases p with
 |cons p1 p2 =>
  cases p2 with
  |cons p2 p3 =>
   cases p3
   exact ⟨_,_,h1,sZ he.1 p1,sZ he.2 p2⟩
def tO (zs:List ((Qr×Int)×Addr)):List (List NKey×V):=zs.map fun z=>(lM z.1.1,.ref z.2)
def kS (P:Program) (w:World) (H:Hp) (d:Addr) (es:List (Qr×Int)) (M:Int):Prop:=∃ zs,DN P w H d (tO zs)/\zs.map (·.1)=es/\(∀ z∈zs,VQ z.1.1)/\∀ z∈zs,bO H z.2 z.1.2 M
section
variable {P:Program}{w:World}{H H':Hp}{d:Addr}{es:List (Qr×Int)}{M:Int}
theorem kS.keep (h:kS P w H d es M) (t:TS H H') (k:∀ o,H d=some o->H' d=some o):kS P w H' d es M:=let ⟨zs,a,b,c,e⟩:=h;⟨zs,a.keep t k,b,c,fun z hz=>t _ _ (e z hz)⟩
theorem kS.same (h:kS P w H d es M) (s:aT H H'):kS P w H' d es M:=h.keep (TS.of s) fun _ q=>s _ _ q
theorem kS.walk (h:kS P w H d es M):∃ xs:List NE,H d=some (dN P w d xs)/\xs.length=es.length/\∀ (i:Nat) (x:NE),xs[i]?=some x->∃ e q,es[i]?=some e/\x.1=lM e.1/\x.2.2= .ref q/\bO H q e.2 M/\QrV H x.2.1 e.1:=by
 obtain ⟨zs,⟨xs,h1,h2,h3⟩,h5,h4,h6⟩:=h;have ln:xs.length=zs.length:=by
  have:=cg List.length h2;unfold tO nQ at this
  simpa using this
 refine ⟨xs,h1,by rw [ln, <- h5,af],fun i x hx=>?_⟩;have li:=(bq.mp hx).1;have lz:i < zs.length:=by omega
 have e2:(nQ xs)[i]?=(tO zs)[i]?:=by rw [h2]
 unfold nQ tO at e2;rw [bf,bf,hx,aj lz] at e2;have e2:=da e2;have k1:x.1=lM zs[i].1.1:=cg Prod.fst e2;have k2:x.2.2= .ref zs[i].2:=cg Prod.snd e2;have mz:zs[i]∈zs:=jx lz;have na:=h3 x (bo hx);rw [k1] at na;exact ⟨zs[i].1,zs[i].2,by rw [<- h5,bf,aj lz];rfl,k1,k2,h6 _ mz,bG3 (h4 _ mz) na⟩
theorem kS.at (h:kS P w H d es M) {j:Nat}{e:Qr×Int}(hj:es[j]?=some e):∃ zs q,DN P w H d (tO zs)/\(tO zs)[j]?=some (lM e.1,.ref q)/\bO H q e.2 M /\
  ∀ {H':Hp},DN P w H' d ((tO zs).eraseIdx j)->TS H H'->kS P w H' d (es.eraseIdx j) M:=by
 obtain ⟨zs,a,b,c,f⟩:=h;rw [<- b,bf] at hj;obtain ⟨z,hz,rfl⟩:=ge.mp hj;refine ⟨zs,z.2,a,by unfold tO;rw [bf,hz];rfl,f z (bo hz),fun {H'} D t=>⟨zs.eraseIdx j,?_,?_,fun z hz=>c z ((cw _ _).subset hz),fun z hz=>t _ _ (f z ((cw _ _).subset hz))⟩⟩
 ·unfold tO at D ⊢;rw [<- hZ];exact D
 ·rw [<- hZ,b]
def kF (es:List (Qr×Int)) (e:Qr) (m:Int):List (Qr×Int):=if e∈es.map (·.1) then es.map fun x=>if x.1=e then (x.1,m) else x else es++[(e,m)]
theorem kS.put (h:kS P w H d es M) {e:Qr}{q:Addr}{m:Int}(ve:VQ e) (hq:bO H q m M):∃ l,DN P w H d l/\l.length=es.length/\∀ {H':Hp},DN P w H' d (bF l (lM e) (.ref q))->TS H H'->kS P w H' d (kF es e m) M:=by
 obtain ⟨zs,a,b,c,f⟩:=h;refine ⟨tO zs,a,by rw [<- b];unfold tO;rw [af,af],fun {H'} D t=>?_⟩;have mem:e∈es.map (·.1)↔∃ z∈zs,z.1.1=e:=by
  rw [<- b,bg];exact ap
 have any:((tO zs).any fun kv=>decide (kv.1=lM e))=decide (e∈es.map (·.1)):=by
  rw [ir,gu,xi,mem];unfold tO
  constructor
  ·rintro ⟨p,hp,q⟩;obtain ⟨z,hz,rfl⟩:=ap.mp hp;exact ⟨z,hz,tX (c z hz) ve (bc q)⟩
  ·rintro ⟨z,hz,q⟩;exact ⟨_,ap.mpr ⟨z,hz,rfl⟩,am (by rw [q])⟩
 by_cases k:e∈es.map (·.1)
 ·refine ⟨zs.map fun z=>if z.1.1=e then ((z.1.1,m),q) else z,?_,?_,fun z hz=>?_,fun z hz=>?_⟩
  ·unfold bF at D;rw [any,bb (am k)] at D;unfold tO at D ⊢;rw [bg] at D ⊢;rw [show zs.map ((fun z:(Qr×Int)×Addr=>(lM z.1.1,V.ref z.2)) ∘ fun z=>if z.1.1=e then ((z.1.1,m),q) else z)=_ from de (g:=_) fun z hz=>?_];exact D
   by_cases cz:z.1.1=e
   ·simp [cz]
   ·have:¬ lM z.1.1=lM e:=fun y=>cz (tX (c z hz) ve y)
    simp [cz,this]
  ·unfold kF;rw [bb k, <- b,bg,bg];refine de fun z _=>?_
   by_cases cz:z.1.1=e
   ·simp [cz]
   ·simp [cz]
  ·obtain ⟨y,hy,rfl⟩:=ap.mp hz
   by_cases cz:y.1.1=e
   ·rw [bb cz];exact c y hy
   ·rw [ao cz];exact c y hy
  ·obtain ⟨y,hy,rfl⟩:=ap.mp hz
   by_cases cz:y.1.1=e
   ·rw [bb cz];exact t _ _ hq
   ·rw [ao cz];exact t _ _ (f y hy)
 ·refine ⟨zs++[((e,m),q)],?_,?_,fun z hz=>?_,fun z hz=>?_⟩
  ·unfold bF at D;rw [any,ao (by simpa using k)] at D;unfold tO at D ⊢;rw [bj];exact D
  ·unfold kF;rw [ao k,bj,b];rfl
  ·rcases cf.mp hz with y | y
   ·exact c z y
   ·rw [bw.mp y];exact ve
  ·rcases cf.mp hz with y | y
   ·exact t _ _ (f z y)
   ·rw [bw.mp y];exact t _ _ hq
end
theorem lN {es:List (Qr×Int)}{e:Qr}{m:Int}{x:Qr×Int}(h:x∈kF es e m):x∈es\/x=(e,m):=by
 unfold kF at h
 split at h
 ·obtain ⟨y,hy,rfl⟩:=ap.mp h
  by_cases c:y.1=e
  ·rw [bb c,c];exact .inr rfl
  ·rw [ao c];exact .inl hy
 ·rcases cf.mp h with y | y
  ·exact .inl y
  ·exact .inr (bw.mp y)
theorem zQ {es:List (Qr×Int)}{e:Qr}{m:Int}(h:(es.map (·.1)).Nodup):((kF es e m).map (·.1)).Nodup:=by
 unfold kF
 by_cases k:e∈es.map (·.1)
 ·rw [bb k,bg];rw [show es.map ((fun x:Qr×Int=>x.1) ∘ fun x=>if x.1=e then (x.1,m) else x)=es.map (·.1) from de fun x _=>by
   by_cases c:x.1=e
   ·simp [c]
   ·simp [c]]
  exact h
 ·rw [ao k,bj];exact kI h k
theorem aH1 {es:List (Qr×Int)}{e:Qr}{m:Int}:(kF es e m).length<=es.length+1:=by
 unfold kF
 split
 ·rw [af];omega
 ·rw [cb];exact ak _
def jA (b:Bool) (zs:List Bn):List An:=zs.filterMap fun z=>if z.1=b then some z.2 else none
theorem zR {b:Bool}{a:An}{zs:List Bn}:a∈jA b zs↔(b,a)∈zs:=by
 unfold jA;rw [nu]
 constructor
 ·rintro ⟨z,hz,e⟩
  by_cases c:z.1=b
  ·rw [bb c] at e
   cases e
   rw [<- c];exact hz
  ·rw [ao c] at e;cases e
 ·intro h;exact ⟨(b,a),h,by simp⟩
theorem aW7 (b:Bool) (as:List An):jA b (as.map fun a=>(b,a))=as:=by
 unfold jA
 induction as with
 |nil=>rfl
 |cons a r ih=>rw [ar,re (b:=a) (by simp),ih]
def gU (z:Bn):PyData:=cH z.1 z.2
theorem aC1 {x y:Bn}(hx:VB x) (hy:VB y):Spec.same (gU x) (gU y)=true↔x=y:=by
 obtain ⟨bx,ax⟩:=x;obtain ⟨by',ay⟩:=y
 cases bx <;> cases by'
 ·exact (lG hx hy).trans ⟨fun h=>cg _ h,fun h=>(kc h).2⟩
 ·simp [gU,cH,Spec.same]
 ·simp [gU,cH,Spec.same]
 ·exact (lG hx hy).trans ⟨fun h=>cg _ h,fun h=>(kc h).2⟩
theorem vP (x y:Bn):SeqAt.noMix (gU x) (gU y)=true:=by
 obtain ⟨bx,ax⟩:=x;obtain ⟨by',ay⟩:=y
 cases bx <;> cases by'
 ·exact pW false ax ay
 ·simp [gU,cH,SeqAt.noMix]
 ·simp [gU,cH,SeqAt.noMix]
 ·exact pW true ax ay
theorem uF:∀ zs:List Bn,PyData.canLayAll0 (zs.map gU)=true/\PyData.depthAll (zs.map gU)<=1
 |[]=>⟨rfl,bz _⟩
 |z :: r=>by
  obtain ⟨h1,h2⟩:=uF r;have a:=lI z.1 [z.2];simp only [List.map_cons,List.map_nil,PyData.canLayAll0,PyData.depthAll,Bool.and_true] at a;refine ⟨?_,?_⟩
  ·rw [ar,PyData.canLayAll0,fb];exact ⟨a.1,h1⟩
  ·rw [ar,PyData.depthAll];have:(gU z).depth<=1:=by have:=a.2;unfold gU;omega
   omega
theorem oN (zs:List Bn):SeqAt.shaped (.tuple (zs.map gU))=true:=by
 obtain ⟨h1,h2⟩:=uF zs;simp only [SeqAt.shaped,PyData.canLay0,h1,Bool.true_and];exact am (by simp only [PyData.depth];omega)
theorem oS (zs:List Bn):SeqAt.shaped (.list (zs.map gU))=true:=by
 obtain ⟨h1,h2⟩:=uF zs;simp only [SeqAt.shaped,PyData.canLay0,h1,Bool.true_and];exact am (by simp only [PyData.depth];omega)
theorem mE:∀ xs ys:List Bn,SeqAt.noMixAll (xs.map gU) (ys.map gU)=true
 |[],[]=>rfl
 |[],_ :: _=>rfl
 |_ :: _,[]=>rfl
 |x :: xs,y :: ys=>by rw [ar,ar,SeqAt.noMixAll,vP,mE xs ys];rfl
theorem nV:∀ {xs ys:List Bn},(∀ a∈xs,VB a)->(∀ a∈ys,VB a)->(Spec.sameAll (xs.map gU) (ys.map gU)=true↔xs=ys)
 |[],[],_,_=>by simp [Spec.sameAll]
 |[],_ :: _,_,_=>by simp [Spec.sameAll]
 |_ :: _,[],_,_=>by simp [Spec.sameAll]
 |a :: as,c :: cs,h1,h2=>by
  have ih:=nV (fun x hx=>h1 x (ba _ hx)) (fun x hx=>h2 x (ba _ hx)) (xs:=as) (ys:=cs);have hs:=aC1 (h1 a au) (h2 c au);rw [ar,ar,Spec.sameAll,fb,hs,ih,List.cons.injEq]
theorem tF {H:Hp}{us:List V}{zs:List Bn}(tw:bX (hJ H) us zs):∀ a∈zs,VB a:=fun a ha=>by
 obtain ⟨j,hj,ej⟩:=ie ha;obtain ⟨v,_,w⟩:=gM tw ((aj hj).trans (cg some ej));exact dG.va w
theorem aM4 {b:Bool}{H:Hp}:∀ {us:List V}{as:List An},bX (dG b H) us as->bX (hJ H) us (as.map fun a=>(b,a))
 |[],[],_=>trivial
 |_ :: _,_ :: _,⟨h,r⟩=>⟨h,aM4 r⟩
 |[],_ :: _,h=>h.elim
 |_ :: _,[],h=>h.elim
theorem aQ0 {b:Bool}{H:Hp}:∀ {us:List V}{as:List An},bX (hJ H) us (as.map fun a=>(b,a))->bX (dG b H) us as
 |[],[],_=>trivial
 |_ :: _,_ :: _,⟨h,r⟩=>⟨h,aQ0 r⟩
 |[],_ :: _,h=>h.elim
 |_ :: _,[],h=>h.elim
section
variable {K:W.Frag}{b:Bool}{H:Hp}{Q:VK}
theorem aB3 {t:Addr}{us:List V}{zs:List Bn}(h:H t=some (.tup us)) (tw:bX (hJ H) us zs):eI K H (.tuple (zs.map gU)) (.ref t):=⟨t,us,rfl,aV.of h,tw.rep fun _ _ z=>eV z⟩
theorem zO {t:Addr}{us:List V}{zs:List Bn}(h:H t=some (.lst us)) (tw:bX (hJ H) us zs):eI K H (.list (zs.map gU)) (.ref t):=⟨t,us,rfl,bK.of h,tw.rep fun _ _ z=>eV z⟩
theorem aL1 {t:Addr}{us:List V}{zs:List Bn}{v:V}{a:An}(h:H t=some (.tup us)) (tw:bX (hJ H) us zs) (hv:dG b H v a) (q:Q (.bl (decide (a∈jA b zs))) H):aV7 K false v (.ref t) H Q:=by
 refine ⟨zs.map gU,gU (b,a),aB3 h tw,eV hv,oN zs,mF b a,fun e he=>?_,?_⟩
 ·obtain ⟨x,_,rfl⟩:=ap.mp he;exact vP x (b,a)
 ·have c:=kK (D:=gU) (p:=VB) (a:=(b,a)) (fun x hx=>aC1 hx (dG.va hv)) zs (tF tw);rw [show (if false=true then !decide (Spec.countIn (gU (b,a)) (zs.map gU)≠0) else decide (Spec.countIn (gU (b,a)) (zs.map gU)≠0))=decide (a∈jA b zs) from eu.mpr (c.trans zR.symm)];exact q
theorem bE3 {p q:Addr}{us ws:List V}{as cs:List Bn}(h:H p=some (.lst us)) (tw:bX (hJ H) us as) (h2:H q=some (.lst ws)) (tw2:bX (hJ H) ws cs) (k:Q (.bl (!decide (as=cs))) H):xN K true (.ref p) (.ref q) H Q:=by
 refine ⟨.list (as.map gU),.list (cs.map gU),zO h tw,zO h2 tw2,oS as,oS cs,by rw [SeqAt.noMix];exact mE as cs,?_⟩;rw [bb rfl];rw [show Spec.same (.list (as.map gU)) (.list (cs.map gU))=decide (as=cs) by
  rw [Spec.same];have:=nV (tF tw) (tF tw2)
  by_cases e:as=cs
  ·rw [am e];exact this.mpr e
  ·rw [bu e];exact eh.mpr fun z=>e (this.mp z)]
 exact k
def cX (b:Bool) (p:Pr2):Qr:=((b,p.1),(b,p.2))
theorem aH6 {b:Bool}{x y:Pr2}(h:cX b x=cX b y):x=y:=xw (kc (kc h).1).2 (kc (kc h).2).2
def qD (e:Qr):PyData:= .tuple [gU e.1,gU e.2]
theorem aY4 {x e:Qr}(hx:VQ x) (he:VQ e):Spec.same (qD x) (qD e)=true↔x=e:=by
 have:=nV (xs:=[x.1,x.2]) (ys:=[e.1,e.2]) (fun a ha=>by rcases bi.mp ha with q | q;(· rw [q];exact hx.1);(· rw [bw.mp q];exact hx.2)) (fun a ha=>by rcases bi.mp ha with q | q;(· rw [q];exact he.1);(· rw [bw.mp q];exact he.2));have e1:Spec.same (qD x) (qD e)=Spec.sameAll ([x.1,x.2].map gU) ([e.1,e.2].map gU):=by simp only [qD,Spec.same,List.map_cons,List.map_nil]
 rw [e1,this]
 constructor
 ·intro h;injection h with h1 h2
  injection h2 with h2 _
  exact xw h1 h2
 ·rintro rfl;rfl
theorem bI1 {t c:Addr}{ws:List V}{prs:List Pr2}{e:Qr}(h:H t=some (.tup ws)) (tw:bX (lX b H) ws prs) (hv:QrV H c e) (q:Q (.bl (!decide (e∈prs.map (cX b)))) H):aV7 K true (.ref c) (.ref t) H Q:=by
 obtain ⟨u,w,hc,h1,h2⟩:=id hv;refine ⟨prs.map (eQ b),qD e,aW8 h tw,⟨c,[u,w],rfl,aV.of hc,u,[w],rfl,eV h1,w,[],rfl,eV h2,rfl⟩,oF b prs,oN [e.1,e.2],fun d hd=>?_,?_⟩
 ·obtain ⟨x,_,rfl⟩:=ap.mp hd;show SeqAt.noMix (qD (cX b x)) (qD e)=true;simp only [qD,SeqAt.noMix];exact mE [(cX b x).1,(cX b x).2] [e.1,e.2]
 ·have cc:=kK (D:=qD) (p:=VQ) (a:=e) (fun x hx=>aY4 hx hv.vq) (prs.map (cX b)) (fun x hx=>by
   obtain ⟨y,hy,rfl⟩:=ap.mp hx;obtain ⟨j,hj,ej⟩:=ie hy;obtain ⟨v,_,z⟩:=gM tw ((aj hj).trans (cg some ej));exact z.va)
  rw [bg] at cc;rw [bb rfl,show decide (Spec.countIn (qD e) (prs.map (eQ b))≠0)=decide (e∈prs.map (cX b)) from eu.mpr cc];exact q
end
def iL (b:Bool) (ks:List An) (zs:List Bn):Prop:=zs=(ks.filter (eK (jA b zs))).map fun a=>(b,a)
instance {b:Bool}{ks:List An}{zs:List Bn}:Decidable (iL b ks zs):=by unfold iL;infer_instance
theorem iL.an {b:Bool}{ks:List An}{zs:List Bn}(h:iL b ks zs):jA b zs=ks.filter (eK (jA b zs))/\zs=(jA b zs).map fun a=>(b,a):=by
 have e:jA b zs=ks.filter (eK (jA b zs)):=by
  have:=cg (jA b) h;rw [aW7] at this;exact this
 exact ⟨e,h.trans (cg (List.map _) e.symm)⟩
def xY (b:Bool) (es1 es2:List En) (prs:List Pr2) (fac:Int×Int) (zs:List Bn) (rM M:Int):Bool:=decide (iL b (es1.map (·.1)) zs) && decide (rM+tM prs es2 fac M (jA b zs) < hM es1 M (jA b zs))
def fO (b:Bool) (es:List (Qr×Int)) (sd:Bool) (x:An):Int:=((es.filter fun e=>decide ((if sd then e.1.2 else e.1.1)=(b,x))).map (·.2)).sum
def nC (b:Bool) (prs:List Pr2) (es:List (Qr×Int)):Bool:=es.all fun e=>decide (e.1∈prs.map (cX b)) && decide (0 < e.2)
def xS (b:Bool) (es1 es2:List En) (prs:List Pr2) (fac:Int×Int) (es:List (Qr×Int)) (rM M:Int):Bool :=
 nC b prs es && (es1.all fun e=>decide (fO b es false e.1<=bQ es1 M e.1)) && (es2.all fun e=>decide (fO b es true e.1<=bQ (dJ fac es2) M e.1)) && decide (M<=(es.map (·.2)).sum+rM)
structure qH (es:List (Qr×Int)) (M:Int):Prop where
 nd:(es.map (·.1)).Nodup
 z:es.length<=200
 m:∀ e∈es,0<=e.2/\e.2<=2 * M
 an:∀ e∈es,dS e.1.1.2/\dS e.1.2.2
theorem aO3 {as:List An}(h:kZ as=true):Ups as:=by
 unfold kZ at h;rw [dz] at h;have step:∀ i (hi:i+1 < as.length),HT.lexLt as[i] as[i+1]=true:=fun i hi=>by
  have:=h i (by simp;omega)
  rwa [aN5 (aj (by omega)) (aj hi)] at this
 have far:∀ d i (hi:i+d+1 < as.length),HT.lexLt as[i] as[i+d+1]=true:=by
  intro d
  induction d with
  |zero=>intro i hi;exact step i hi
  |succ d ih=>intro i hi;exact jJ (ih i (by omega)) (step (i+d+1) hi)
 unfold Ups;rw [mi];intro i j hi hj hij;have e:j=i+(j - i - 1)+1:=by omega
 have:=far (j - i - 1) i (by omega);simp only [<- e] at this;exact this
theorem aN4:∀ {as cs:List An},Ups as->Ups cs->(∀ x,x∈as↔x∈cs)->as=cs
 |[],[],_,_,_=>rfl
 |[],c :: _,_,_,h=>absurd ((h c).mpr au) bh
 |a :: _,[],_,_,h=>absurd ((h a).mp au) bh
 |a :: as,c :: cs,h1,h2,h=>by
  have p1:=qt.mp h1;have p2:=qt.mp h2;have no:∀ x y,HT.lexLt x y=true->HT.lexLt y x=true->False:=fun x y q r=>by
   have:=jJ q r;rw [lE] at this
   cases this
  have e:a=c:=by
   rcases bi.mp ((h a).mp au) with q | q
   ·exact q
   ·rcases bi.mp ((h c).mpr au) with r | r
    ·exact r.symm
    ·exact (no a c (p1.1 c r) (p2.1 a q)).elim
  subst e;rw [aN4 p1.2 p2.2 fun x=>?_];have hx:=h x;rw [bi,bi] at hx;have n1:x∈as->x≠a:=fun q r=>by have:=p1.1 x q;rw [r,lE] at this;cases this
  have n2:x∈cs->x≠a:=fun q r=>by have:=p2.1 x q;rw [r,lE] at this;cases this
  exact ⟨fun q=>(hx.mp (.inr q)).resolve_left (n1 q),fun q=>(hx.mpr (.inr q)).resolve_left (n2 q)⟩
theorem tV {b:Bool}{ks:List An}{zs:List Bn}(up:Ups ks):iL b ks zs↔(∀ z∈zs,z.1=b/\z.2∈ks)/\kZ (jA b zs)=true:=by
 constructor
 ·intro h;obtain ⟨h1,h2⟩:=h.an;refine ⟨fun z hz=>?_,vZ (by rw [h1];exact ph vn up)⟩;rw [h2] at hz;obtain ⟨a,ha,rfl⟩:=ap.mp hz;rw [h1] at ha;exact ⟨rfl,(fi.mp ha).1⟩
 ·rintro ⟨h1,h2⟩;have e:jA b zs=ks.filter (eK (jA b zs)):=aN4 (aO3 h2) (ph vn up) fun x=>by
   rw [fi];exact ⟨fun q=>⟨(h1 (b,x) (zR.mp q)).2,am q⟩,fun q=>bc q.2⟩
  unfold iL;rw [<- e];have:∀ zs:List Bn,(∀ z∈zs,z.1=b)->zs=(jA b zs).map fun a=>(b,a):=by
   intro zs
   induction zs with
   |nil=>intro _;rfl
   |cons z r ih =>
    intro q;have hz:=q z au;have e2:jA b (z :: r)=z.2 :: jA b r:=by
     unfold jA;rw [re (b:=z.2) (by rw [bb hz])]
    rw [e2,ar, <- ih fun y hy=>q y (ba _ hy), <- hz]
  exact this zs fun z hz=>(h1 z hz).1
def gT (e:Qr):Pr2:=(e.1.2,e.2.2)
theorem wD (b:Bool) (p:Pr2):gT (cX b p)=p:=rfl
def amQ (b:Bool) (es:List (Qr×Int)) (p:Pr2):Int:=match es.find? fun e=>decide (e.1=cX b p) with
 |some e=>e.2
 |none=>0
theorem pG {b:Bool}{es:List (Qr×Int)}(nd:(es.map (·.1)).Nodup) {e:Qr×Int}{p:Pr2}(h:e∈es) (hp:e.1=cX b p):amQ b es p=e.2:=by
 unfold amQ
 induction es with
 |nil=>exact absurd h bh
 |cons x r ih =>
  rw [ar,ig] at nd
  by_cases c:x.1=cX b p
  ·rw [zf (by simpa using c)];rcases bi.mp h with q | q
   ·rw [q]
   ·exact absurd (ap.mpr ⟨e,q,hp.trans c.symm⟩) nd.1
  ·rw [zg (by simpa using c)];rcases bi.mp h with q | q
   ·rw [q] at hp;exact absurd hp c
   ·exact ih nd.2 q
theorem hX {b:Bool}{prs:List Pr2}{es:List (Qr×Int)}(h:nC b prs es=true):∀ e∈es,e.1=cX b (gT e.1)/\gT e.1∈prs/\0 < e.2:=fun e he=>by
 have:=dz.mp h e he;rw [fb] at this;obtain ⟨p,hp,q⟩:=ap.mp (bc this.1);rw [<- q,wD];exact ⟨rfl,hp,bc this.2⟩
theorem kS.pg {P:Program}{w:World}{H:Hp}{d:Addr}{es:List (Qr×Int)}{M:Int}{b:Bool}{prs:List Pr2}(h:kS P w H d es M) (ok:qH es M) (al:nC b prs es=true) (m1:1<=M) (m2:M < 2 ^ 134) :
  PgM P w b H d (es.map fun e=>gT e.1) (amQ b es) M:=by
 refine ⟨?_,by rw [af];exact ok.z,fun p hp=>?_,?_,m1,m2⟩
 ·obtain ⟨zs,a,e,c,f⟩:=h;have key:∀ z∈zs,z.1.1=cX b (gT z.1.1)/\amQ b es (gT z.1.1)=z.1.2:=fun z hz=>by
   have me:z.1∈es:=by rw [<- e];exact ap.mpr ⟨z,hz,rfl⟩
   have:=hX al z.1 me;exact ⟨this.1,pG ok.nd me this.1⟩
  refine ⟨zs.map fun z=>(gT z.1.1,z.2),⟨?_,fun x hx=>?_⟩,?_,fun x hx=>?_⟩
  ·unfold pgL;rw [bg,bg];unfold tO at a;rw [show zs.map (((fun x:Pr2×V=>(gQ b x.1,x.2)) ∘ fun z:Pr2×Addr=>(z.1,V.ref z.2)) ∘ fun z=>(gT z.1.1,z.2))=zs.map fun z=>(lM z.1.1,V.ref z.2) from de fun z hz=>by
    show (gQ b (gT z.1.1),V.ref z.2)=_;rw [show gQ b (gT z.1.1)=lM (cX b (gT z.1.1)) from rfl, <- (key z hz).1]]
   exact a
  ·unfold pgL at hx;rw [bg] at hx;obtain ⟨z,hz,rfl⟩:=ap.mp hx;have v:=c z hz;rw [(key z hz).1] at v;exact v
  ·rw [bg, <- e,bg];rfl
  ·obtain ⟨z,hz,rfl⟩:=ap.mp hx;have q:=f z hz;unfold bO at q;rw [<- (key z hz).2] at q;exact q
 ·obtain ⟨e,he,rfl⟩:=ap.mp hp;obtain ⟨h1,_,h3⟩:=hX al e he;rw [pG ok.nd he h1];omega
 ·rw [bg,show es.map (amQ b es ∘ fun e=>gT e.1)=es.map (·.2) from de fun e he=>pG ok.nd he (hX al e he).1];have:∀ l:List (Qr×Int),(∀ e∈l,e.2<=2 * M)->(l.map (·.2)).sum<=l.length * (2 * M):=by
   intro l
   induction l with
   |nil=>intro _;simp
   |cons x r ih =>
    intro q;have h1:=q x au;have h2:=ih fun y hy=>q y (ba _ hy)
    rw [ar,ed,dy,Int.natCast_succ,aBh];omega
  have q:=this es fun e he=>(ok.m e he).2
  have:=ij (show (es.length:Int)<=200 by have:=ok.z;omega) (show 0<=2 * M by omega);omega
theorem bJ2 {b:Bool}{prs:List Pr2}{es:List (Qr×Int)}(nd:(es.map (·.1)).Nodup) (al:nC b prs es=true):((es.map fun e=>gT e.1).map (amQ b es)).sum=(es.map (·.2)).sum:=by
 rw [bg,show es.map (amQ b es ∘ fun e=>gT e.1)=es.map (·.2) from de fun e he=>pG nd he (hX al e he).1]
theorem bC3 {b:Bool}{prs:List Pr2}{es:List (Qr×Int)}(nd:(es.map (·.1)).Nodup) (al:nC b prs es=true) (sd:Bool) (x:An):fM (es.map fun e=>gT e.1) (amQ b es) sd x=fO b es sd x:=by
 unfold fM fO;rw [List.filter_map,bg];rw [List.filter_congr (q:=fun e:Qr×Int=>decide ((if sd then e.1.2 else e.1.1)=(b,x))) fun e he=>by
  obtain ⟨h1,_⟩:=hX al e he;show decide (gE sd (gT e.1)=x)=_;rw [eu]
  cases sd
  ·have:e.1.1=(b,(gT e.1).1):=cg Prod.fst h1;show (gT e.1).1=x↔e.1.1=(b,x)
   rw [this];exact ⟨fun q=>by rw [q],fun q=>(kc q).2⟩
  ·have:e.1.2=(b,(gT e.1).2):=cg Prod.snd h1;show (gT e.1).2=x↔e.1.2=(b,x)
   rw [this];exact ⟨fun q=>by rw [q],fun q=>(kc q).2⟩]
 congr 1
 exact de fun e he=>pG nd (fi.mp he).1 (hX al e (fi.mp he).1).1
def spOvB:Sp:=fun vs H Q _=>∃ b t1 t2 p3 p4 ta c1 c2 es1 es2 fac ws3 prs us zs M,vs=[.ref t1,.ref t2,.ref p3,.ref p4,.ref ta]/\nB b H t1 t2 p3 p4 c1 c2 es1 es2 fac ws3 prs/\MOk c1 c2 fac M/\H ta=some (.tup us)/\bX (hJ H) us zs /\
 ∀ H' r q1 q2,aT H H'->H' r=some (.tup [.ref q1,.ref q2])->bO H' q1 (hM es1 M (jA b zs)) M->bO H' q2 (tM prs es2 fac M (jA b zs)) M->Q (.ref r) H'
def spBkB:Sp:=fun vs H Q _=>∃ b t1 t2 p3 p4 p5 ta c1 c2 es1 es2 fac ws3 prs us zs M rM,vs=[.ref t1,.ref t2,.ref p3,.ref p4,.ref p5,.ref ta]/\nB b H t1 t2 p3 p4 c1 c2 es1 es2 fac ws3 prs/\MOk c1 c2 fac M/\H ta=some (.tup us)/\bX (hJ H) us zs/\zs.length<=30/\bO H p5 rM M/\0<=rM/\rM < 2 ^ 150 /\
 ∀ H',aT H H'->Q (.bl (xY b es1 es2 prs fac zs rM M)) H'
def aB8 (P:Program) (w:World):Sp:=fun vs H Q _=>∃ b t1 t2 p3 p4 p5 d c1 c2 es1 es2 fac ws3 prs es M rM,vs=[.ref t1,.ref t2,.ref p3,.ref p4,.ref p5,.ref d]/\nB b H t1 t2 p3 p4 c1 c2 es1 es2 fac ws3 prs/\MOk c1 c2 fac M/\kS P w H d es M/\qH es M/\bO H p5 rM M/\0<=rM/\rM < 2 ^ 150 /\
 ∀ H',aT H H'->Q (.bl (xS b es1 es2 prs fac es rM M)) H'
def rP (P:Program) (w:World) (b:Bool) (H:Hp) (tt:Addr) (es1 es2:List En) (prs:List Pr2) (fac:Int×Int) (rM M:Int) (v:Bool):Prop :=
 (∃ d es,H tt=some (.tup [.str "paired",.ref d])/\kS P w H d es M/\qH es M/\v=xS b es1 es2 prs fac es rM M) \/
 (∃ ta us zs,H tt=some (.tup [.str "broken",.ref ta])/\H ta=some (.tup us)/\bX (hJ H) us zs/\zs.length<=30/\(∀ z∈zs,dS z.2)/\v=xY b es1 es2 prs fac zs rM M)
theorem rP.keep {P:Program}{w:World}{b:Bool}{H H':Hp}{tt:Addr}{es1 es2:List En}{prs:List Pr2}{fac:Int×Int}{rM M:Int}{v:Bool}(h:rP P w b H tt es1 es2 prs fac rM M v) (s:TS H H') (k:∀ c φ,H c=some (.ext φ)->H' c=some (.ext φ)):rP P w b H' tt es1 es2 prs fac rM M v:=by
 rcases h with ⟨d,es,h1,h2,h3,h4⟩ | ⟨ta,us,zs,h1,h2,h3,h4⟩
 ·refine .inl ⟨d,es,s _ _ h1,h2.keep s fun o e=>?_,h3,h4⟩;obtain ⟨xs,hd,_⟩:=h2.walk;rw [hd] at e
  cases e
  exact k _ _ hd
 ·exact .inr ⟨ta,us,zs,s _ _ h1,s _ _ h2,h3.mono fun _ _ z=>hJ.ts s z,h4⟩
def aY9 (P:Program) (w:World):Sp:=fun vs H Q _=>∃ b t1 t2 p3 p4 p5 tt c1 c2 es1 es2 fac ws3 prs M rM v,vs=[.ref t1,.ref t2,.ref p3,.ref p4,.ref p5,.ref tt]/\nB b H t1 t2 p3 p4 c1 c2 es1 es2 fac ws3 prs/\MOk c1 c2 fac M/\bO H p5 rM M/\0<=rM/\rM < 2 ^ 150/\rP P w b H tt es1 es2 prs fac rM M v/\∀ H',aT H H'->Q (.bl v) H'
end Mine
namespace L2
open PySem PySem.Spec PyProof.Rows
section
variable {X:Cx}{pos:Pos}{o e:Expr}{apos cpos:Pos}{td ty:TE}{k:Nat}
theorem bF0 (P:Program) (w:World) (hr:bW k X.A) (ho:PE X o td) (he:PE X e ty) (m:M1 X o "pop" apos e cpos) (hP:X.prog=P:=by rfl) (hw:X.w=w:=by rfl):PE X (.Call (.Attribute o "pop" apos) [e] [] cpos) (aZ4 P w td ty):=by subst hP hw;exact aX0 hr ho he m
theorem bP7 (P:Program) (w:World) (hP:X.prog=P:=by rfl) (hw:X.w=w:=by rfl):PE X (.Dict [] [] pos) (fun _ H Q=>∀ p,H p=none->Q (.ref p) (aJ H p (dN P w p []))):=by
 subst hP hw;exact fun pins s σ H Q I h=>xp ⟨.ref s.heap.objs.size,_,I.laid (a:=s.heap.objs.size) (o:=dN X.prog X.w s.heap.objs.size []) (t':=s.toks) (fun _ _ q=>ag _ q) (ak _) (vS s.heap I.big),rfl,h _ (I.hok.fresh (ak _))⟩
def aQ1 (K:W.Frag) (P:Program) (w:World):List V->Hp->VK->Prop:=fun xs H Q=>bA2 K xs H Q\/aS0 P w xs H Q
theorem pJ (K:W.Frag) (P:Program) (w:World) (hr:bW k X.A) (hK:X.K=K:=by rfl) (hP:X.prog=P:=by rfl) (hw:X.w=w:=by rfl):cB X (.builtin "repr") (aQ1 K P w):=by
 subst hK hP hw;exact cB.or (zD hr) (zM hr)
end
def bF9 (H0:Hp) (t:TS):TS:=fun D σ H=>t { D with nx:=fun σ' G=>D.nx σ' G\/∃ a o u,G a=some (.frz o u)/\(∀ o' u',H0 a≠some (.frz o' u'))/\(∀ xs,u≠ .tup xs)/\(∀ y,u≠ .own y)/\D.nx σ' (aJ G a u),rt:=fun x G=>D.rt x G\/∃ a o u,G a=some (.frz o u)/\(∀ o' u',H0 a≠some (.frz o' u'))/\(∀ xs,u≠ .tup xs)/\(∀ y,u≠ .own y)/\D.rt x (aJ G a u) } σ H
theorem uV {X:Cx}{st:Stmt}{t:TS}(h:PS X st t):PS X st (bF9 X.H₀ t):=by
 intro pins s σ H D I q;refine cI (h pins s σ H _ I q) fun f s' q=>?_
 cases f with
 |next =>
  obtain ⟨σ',G,I',p | ⟨a,o,u,e1,n,nt,nw,p⟩⟩:=q
  ·exact ⟨σ',G,I',p⟩
  ·exact ⟨σ',_,I'.thaw e1 n nt nw,p⟩
 |ret v =>
  obtain ⟨σ',x,G,I',r,p | ⟨a,o,u,e1,n,nt,nw,p⟩⟩:=q
  ·exact ⟨σ',x,G,I',r,p⟩
  ·exact ⟨σ',x,_,I'.thaw e1 n nt nw,r,p⟩
 |brk=>exact q
 |cont=>exact q
end L2
namespace Mine
open PySem L2
def spLes:Sp:=fun vs H Q _=>∃ q1 q2 m n M,vs=[.ref q1,.ref q2]/\bO H q1 m M/\bO H q2 n M/\0<=m/\0<=n/\m < 2 ^ 174/\n < 2 ^ 174/\1<=M/\M < 2 ^ 134/\∀ H' q,aT H H'->bO H' q (min m n) M->Q (.ref q) H'
def spSub:Sp:=fun vs H Q _=>∃ q1 q2 m n M,vs=[.ref q1,.ref q2]/\bO H q1 m M/\bO H q2 n M/\0<=n/\n<=m/\m < 2 ^ 174/\1<=M/\M < 2 ^ 134/\∀ r,H r=none->∀ H',aT H H'->(∀ c,c≠r->H' c=H c)->bO H' r (m - n) M->Q (.ref r) H'
def fU (b:Bool) (H:Hp) (t:Addr) (T:An->Int) (M:Int) (ks:List An):Prop:=∃ l,wU b H t T M l/\l.map (·.1)=ks
theorem fU.keep {b:Bool}{H H':Hp}{t:Addr}{T:An->Int}{M:Int}{ks:List An}(h:fU b H t T M ks) (s:TS H H') (k:∀ o,H t=some o->H' t=some o):fU b H' t T M ks:=let ⟨l,L,z⟩:=h;⟨l,⟨k _ L.d,L.v,L.no,fun x v e=>let ⟨r,a,c⟩:=L.yes x v e;⟨r,a,s _ _ c⟩⟩,z⟩
theorem fU.same {b:Bool}{H H':Hp}{t:Addr}{T:An->Int}{M:Int}{ks:List An}(h:fU b H t T M ks) (s:aT H H'):fU b H' t T M ks:=h.keep (TS.of s) fun _ e=>s _ _ e
theorem uR {l:List (An×V)}{x:An}(h:x∈l.map (·.1)):∃ v,bZ l x=some v:=by
 cases e:bZ l x with
 |some v=>exact ⟨v,rfl⟩
 |none =>
  have:=eR x l;rw [e] at this;obtain ⟨p,hp,q⟩:=ap.mp h;have:(l.any fun kv=>decide (kv.1=x))=true:=gu.mpr ⟨p,hp,am q⟩;rw [eR,e] at this
  cases this
theorem xE {l:List (An×V)}{x:An}{v:V}(h:x∈l.map (·.1)):(bF l x v).map (·.1)=l.map (·.1):=by
 unfold bF;rw [bb (by obtain ⟨p,hp,q⟩:=ap.mp h;exact gu.mpr ⟨p,hp,am q⟩),bg];refine de fun p _=>?_
 by_cases c:p.1=x
 ·simp [c]
 ·simp [c]
structure oB (b:Bool) (es:List (Qr×Int)) (prs rs:List Pr2) (M:Int):Prop where
 nd:(es.map (·.1)).Nodup
 m:∀ e∈es,∃ p∈prs,e.1=cX b p/\p∉rs
 v:∀ e∈es,0 < e.2/\e.2<=M
 z:es.length+rs.length<=prs.length
def aK2 (P:Program) (w:World):Sp:=fun vs H Q _=>∃ d l b t1 t2 p3 p4 c1 c2 es1 es2 fac ws3 prs,vs=[.ref d,.ref t1,.ref t2,.ref p3,.ref p4]/\cD H d l/\nB b H t1 t2 p3 p4 c1 c2 es1 es2 fac ws3 prs /\
 ∀ H' g es,kS P w H' g es (c1 * (fac.2 * c2) * 8)->oB b es prs [] (c1 * (fac.2 * c2) * 8)->H g=none->cD H' d l->bP d l H H'->Q (.ref g) H'
def aH2 (P:Program) (w:World):Sp:=fun vs H Q _=>∃ d l b t1 t2 g c1 c2 es1 es2 es M,vs=[.ref d,.ref t1,.ref t2,.ref g]/\cD H d l/\dO b H t1 es1/\dO b H t2 es2/\dE c1 es1/\dE c2 es2/\kS P w H g es M/\(es.map (·.1)).Nodup/\es.length<=150/\(∀ e∈es,0 < e.2/\e.2<=M/\dS e.1.1.2/\dS e.1.2.2)/\g≠d/\g≠l/\1<=M/\M < 2 ^ 121 /\
 ∀ H' g' es',kS P w H' g' es' (M * 60)->qH es' (M * 60)->g'≠d->g'≠l->cD H' d l->TS H H'->(∀ c o,c≠d->c≠l->c≠g->H c=some o->H' c=some o)->Q (.ref g') H'
def spSome:Sp:=fun vs H Q _=>∃ d l b t1 c1 es1,vs=[.ref d,.ref t1]/\cD H d l/\dO b H t1 es1/\dE c1 es1/\∀ H' t us zs,H' t=some (.tup us)->bX (hJ H') us zs->zs.length<=30->(∀ z∈zs,dS z.2)->cD H' d l->bP d l H H'->Q (.ref t) H'
def spRes:Sp:=fun vs H Q _=>∃ d l q W M0,vs=[.ref d,.ref q]/\cD H d l/\bO H q W M0/\0<=W/\W<=M0/\1<=M0/\M0 < 2 ^ 127 /\
 ∀ H' r rM M,bO H' r rM M->M0 ∣ M->1<=M->M < 2 ^ 134->0<=rM->rM < 2 ^ 150->cD H' d l->bP d l H H'->Q (.ref r) H'
def bA4 (P:Program) (w:World):Sp:=fun vs H Q _=>∃ g es M,vs=[.ref g]/\kS P w H g es M/\qH es M/\1<=M/\M < 2 ^ 127/\∀ H' q W,aT H H'->bO H' q W M->0<=W->W<=M->Q (.ref q) H'
def xL (P:Program) (w:World) (b:Bool) (H:Hp) (v:V) (t1 t2:Addr) (c1 c2:Int) (es1 es2:List En):Prop:=∃ r p3 p4 p5 tt du fac ws3 prs M rM,v= .ref r/\H r=some (.tup [.ref p3,.ref p4,.ref p5,.ref tt,.bl du])/\nB b H t1 t2 p3 p4 c1 c2 es1 es2 fac ws3 prs/\MOk c1 c2 fac M/\bO H p5 rM M/\0<=rM/\rM < 2 ^ 150/\rP P w b H tt es1 es2 prs fac rM M du
def aZ1 (P:Program) (w:World):Sp:=fun vs H Q _=>∃ d l b t1 t2 c1 c2 es1 es2,vs=[.ref d,.ref t1,.ref t2]/\cD H d l/\dO b H t1 es1/\dO b H t2 es2/\dE c1 es1/\dE c2 es2/\∀ H' v,xL P w b H' v t1 t2 c1 c2 es1 es2->cD H' d l->bP d l H H'->Q v H'
theorem xT {es:List (Qr×Int)}{M:Int}(O:qH es M) (M1:1<=M) (i:Nat):0<=((es.take i).map (·.2)).sum/\((es.take i).map (·.2)).sum<=400 * M:=by
 have all:∀ l:List (Qr×Int),(∀ e∈l,0<=e.2/\e.2<=2 * M)->0<=(l.map (·.2)).sum/\(l.map (·.2)).sum<=l.length * (2 * M):=by
  intro l
  induction l with
  |nil=>intro _;simp
  |cons x r ih =>
   intro q;have h1:=q x au;have h2:=ih fun y hy=>q y (ba _ hy)
   rw [ar,ed,dy,Int.natCast_succ,aBh];omega
 have q:=all (es.take i) fun e he=>O.m e (gw he)
 have:=ij (show ((es.take i).length:Int)<=200 by have:=O.z;rw [cq];omega) (show 0<=2 * M by omega);omega
theorem bT3 {b:Bool}{prs:List Pr2}(hv:∀ p∈prs,VP b p) {z:Qr}(hz:VQ z) {x:V}:bZ ((prX prs x).map fun e=>(gQ b e.1,e.2)) (lM z)=if z∈prs.map (cX b) then some x else none:=by
 induction prs with
 |nil=>rfl
 |cons p r ih =>
  have ih:=ih fun q hq=>hv q (ba _ hq)
  have vp:=hv p au
  by_cases c:cX b p=z
  ·rw [bb (by rw [ar,c];exact au)];exact bL (p:=(gQ b p,x)) (cg lM c)
  ·have ne:¬ gQ b p=lM z:=fun q=>c (tX (x:=cX b p) vp hz q)
   rw [show bZ ((prX (p :: r) x).map fun e=>(gQ b e.1,e.2)) (lM z)=bZ ((prX r x).map fun e=>(gQ b e.1,e.2)) (lM z) from bC (p:=(gQ b p,x)) ne,ih]
   by_cases c2:z∈r.map (cX b)
   ·rw [bb c2,bb (by rw [ar];exact ba _ c2)]
   ·rw [ao c2,ao (by rw [ar,bi,not_or];exact ⟨fun q=>c q.symm,c2⟩)]
theorem bH0 {b:Bool}{H:Hp}{ws:List V}{prs:List Pr2}(tw:bX (lX b H) ws prs):∀ p∈prs,VP b p:=fun p hp=>by
 obtain ⟨j,hj,ej⟩:=ie hp;obtain ⟨v,_,z⟩:=gM tw ((aj hj).trans (cg some ej));exact z.va
def fB (b:Bool) (prs:List Pr2) (e:Qr×Int):Bool:=decide (e.1∈prs.map (cX b)) && decide (0 < e.2)
theorem xB (b:Bool) (prs:List Pr2) (es:List (Qr×Int)):(es.map (fB b prs)).all id=nC b prs es:=by
 unfold nC;rw [qw];rfl
theorem bP8 {b:Bool}{prs:List Pr2}{e:Qr×Int}(h:fB b prs e=true):e.1=cX b (gT e.1)/\gT e.1∈prs/\0 < e.2:=by
 unfold fB at h;rw [fb] at h;obtain ⟨p,hp,q⟩:=ap.mp (bc h.1);rw [<- q,wD];exact ⟨rfl,hp,bc h.2⟩
theorem sU {b:Bool}{es:List (Qr×Int)}{sd:Bool}{i:Nat}{e:Qr×Int}(h:es[i]?=some e) (hl:e.1=cX b (gT e.1)):fO b (es.take (i+1)) sd=fun y=>if y=gE sd (gT e.1) then fO b (es.take i) sd y+e.2 else fO b (es.take i) sd y:=by
 funext y
 unfold fO;rw [jD _ (fun e:Qr×Int=>e.2) h];have q:((if sd=true then e.1.2 else e.1.1)=(b,y))↔y=gE sd (gT e.1):=by
  rw [hl]
  cases sd
  ·exact ⟨fun z=>(kc z).2.symm,fun z=>by rw [z];rfl⟩
  ·exact ⟨fun z=>(kc z).2.symm,fun z=>by rw [z];rfl⟩
 by_cases c:y=gE sd (gT e.1)
 ·rw [bb (am (q.mpr c)),bb c]
 ·rw [ao (by rw [xi];exact fun z=>c (q.mp z)),ao c,rc]
theorem aT2 {b:Bool}{es:List (Qr×Int)}{M:Int}(O:qH es M) (M1:1<=M) (i:Nat) (sd:Bool) (x:An):0<=fO b (es.take i) sd x/\fO b (es.take i) sd x<=400 * M:=by
 have nn:∀ e∈es.take i,0<=e.2:=fun e he=>(O.m e (gw he)).1
 unfold fO;exact ⟨iJ fun e he=>nn e (fi.mp he).1,ki (oH _ nn) (xT O M1 i).2⟩
theorem iC.a1 {c1 c2:Int}{es1 es2:List En}{fac:Int×Int}{M:Int}{e:En}(Z:iC c1 c2 es1 es2 fac M) (me:e∈es1):0<=bQ es1 M e.1/\bQ es1 M e.1 < 2 ^ 174:=by
 have:=jG (f:=bQ es1 M) (ap.mpr ⟨e,me,rfl⟩:e.1∈es1.map (·.1)) fun y _=>Z.nn1 y
 rw [Z.sum1] at this;have:=Z.m2;exact ⟨Z.nn1 _,by omega⟩
theorem iC.a2 {c1 c2:Int}{es1 es2:List En}{fac:Int×Int}{M:Int}{e:En}(Z:iC c1 c2 es1 es2 fac M) (me:e∈es2):0<=bQ (dJ fac es2) M e.1/\bQ (dJ fac es2) M e.1 < 2 ^ 174 :=
 ⟨Z.nn2 _,gj (jG (f:=bQ (dJ fac es2) M) (ap.mpr ⟨e,me,rfl⟩:e.1∈es2.map (·.1)) fun y _=>Z.nn2 y) Z.sum2⟩
theorem nX {g t M:Int}(g0:0<=g) (g1:g < 2 ^ 174) (t0:0<=t) (t1:t < 2 ^ 174) (M1:1<=M) (M2:M < 2 ^ 134):jR (aI g M).1/\jR (aI g M).2/\jR (aI t M).1/\jR (aI t M).2/\decide ((aI g M).1 * (aI t M).2 < (aI t M).1 * (aI g M).2)=decide (g < t):=by
 have F1:=bH (m:=g) (M:=M) g0 (by omega) M1 (by omega);have F2:=bH (m:=t) (M:=M) t0 (by omega) M1 (by omega);have el:=gJ (m:=g) (n:=t) g0 t0 M1;unfold ltF at el;exact ⟨F1.1,F1.2.1,F2.1,F2.2.1,el⟩
theorem aQ3 {α: Type}(g t:α->Int) (l:List α):(l.map fun e=>decide (g e < t e)).any id= !(l.all fun e=>decide (t e<=g e)):=by
 rw [List.any_map]
 induction l with
 |nil=>rfl
 |cons x r ih =>
  rw [qb,List.all_cons,ih,Bool.not_and]
  congr 1
  show decide (g x < t x)= !decide (t x<=g x)
  by_cases c:g x < t x
  ·rw [am c,bu (by omega)];rfl
  ·rw [bu c,am (by omega)];rfl
theorem bD5 {H:Hp}{o:Option V}{es:List En}{a:An}(r:xV H o (iK es a)):o.isSome=eK (es.map fun e:En=>e.1) a:=by
 cases e:iK es a with
 |none =>
  rw [e] at r;have n:a∉es.map fun e:En=>e.1:=fun z=>by
   obtain ⟨f,hf,q⟩:=ap.mp z;unfold iK at e;rw [zh] at e;exact wt.mp e f hf (am q)
  have i:eK (es.map fun e:En=>e.1) a=false:=bu n;rw [i]
  cases o with
  |none=>rfl
  |some _=>exact r.elim
 |some s =>
  rw [e] at r;have i:eK (es.map fun e:En=>e.1) a=true:=am (ap.mpr ⟨_,kY e,rfl⟩);rw [i]
  cases o with
  |none=>exact r.elim
  |some _=>rfl
theorem bS6 {b:Bool}{H:Hp}{d:Addr}{l:List (An×V)}{u:V}{z:Bn}(h:H d=some (fA b l)) (hu:hJ H u z) (c:z.1≠b):bJ3 H d u:=by
 obtain ⟨zb,za⟩:=z
 cases b with
 |true =>
  cases zb with
  |true=>exact absurd rfl c
  |false =>
   obtain ⟨n,_,rfl⟩:=(show ∃ n,za=[n]/\u= .int n from hu)
   exact .inr ⟨_,n,.inl h,rfl⟩
 |false =>
  cases zb with
  |false=>exact absurd rfl c
  |true =>
   obtain ⟨p,rfl,hp⟩:=(show ∃ p,u= .ref p/\H p=some (.tup (za.map V.int)) from hu)
   exact .inl ⟨_,p,za.map Sum.inl,.inl h,rfl,by rw [qC];exact hp⟩
theorem pK {m M:Int}(h:0<=m) (M1:1<=M):0 < eZ m M↔0 < m:=by
 constructor
 ·intro q
  by_cases c:0 < m
  ·exact c
  ·have:m=0:=by omega
   rw [this] at q;have z:(aI 0 M).1=0:=by rw [cQ M1]
   have q:0 < (aI 0 M).1:=q;omega
 ·intro q;have:=wA (show 1<=m by omega) M1;omega
section
variable {α: Type}{R:V->α->Prop}
theorem aB7:∀ {vs:List V}{as:List α}(k:Nat),bX R vs as->bX R (vs.take k) (as.take k)
 |[],[],k,_=>by rw [List.take_nil,List.take_nil];trivial
 |_ :: _,_ :: _,0,_=>trivial
 |_ :: _,_ :: _,k+1,⟨h,r⟩=>⟨h,aB7 k r⟩
 |[],_ :: _,_,h=>h.elim
 |_ :: _,[],_,h=>h.elim
theorem aC5:∀ {vs:List V}{as:List α}(k:Nat),bX R vs as->bX R (vs.drop k) (as.drop k)
 |[],[],k,_=>by rw [List.drop_nil,List.drop_nil];trivial
 |_ :: _,_ :: _,0,h=>h
 |_ :: _,_ :: _,k+1,⟨_,r⟩=>aC5 k r
 |[],_ :: _,_,h=>h.elim
 |_ :: _,[],_,h=>h.elim
theorem aH4:∀ {vs:List V}{as:List α},bX R vs as->bX R vs.reverse as.reverse
 |[],[],_=>trivial
 |_ :: _,_ :: _,⟨h,r⟩=>by rw [rq,rq];exact bX.append (aH4 r) ⟨h,trivial⟩
 |[],_ :: _,h=>h.elim
 |_ :: _,[],h=>h.elim
theorem bE2 {vs:List V}{as:List α}{v:V}{a:α}(k:Nat) (h:bX R vs as) (r:R v a):bX R (vs.take k++v :: vs.drop k) (as.take k++a :: as.drop k):=bX.append (aB7 k h) ⟨r,aC5 k h⟩
end
structure kT (H G:Hp) (d l lf:Addr) (us:List V) (zs:List Bn) (n:Nat):Prop where
 dl:cL G d l lf us
 o:bP d l H G
 tw:bX (hJ G) us zs
 z:zs.length<=n
 an:∀ z∈zs,dS z.2
 f:H lf=none
theorem kT.out {H G G':Hp}{d l lf:Addr}{us:List V}{zs:List Bn}{n:Nat}(h:kT H G d l lf us zs n) (D:cD G' d l) (o:bP d l G G'):kT H G' d l lf us zs n:=⟨h.dl.out D o,h.o.trans o,h.tw.mono fun _ _ z=>hJ.ts (TS.out h.dl.deal o) z,h.z,h.an,h.f⟩
theorem kT.set {H G:Hp}{d l lf:Addr}{us vs:List V}{zs ys:List Bn}{n m:Nat}(h:kT H G d l lf us zs n) (tw:bX (hJ G) vs ys) (z:ys.length<=m) (an:∀ z∈ys,dS z.2):kT H (aJ G lf (.lst vs)) d l lf vs ys m:=⟨h.dl.app vs,fJ h.o h.f,tw.mono fun _ _ z=>hJ.ts (TS.lst h.dl.lst) z,z,an,h.f⟩
theorem kT.ins {H G:Hp}{d l lf:Addr}{us:List V}{zs:List Bn}{n:Nat}(h:kT H G d l lf us zs n) (k:Nat) {v:V}{x:Bn}(hv:hJ G v x) (hx:dS x.2):kT H (aJ G lf (.lst (us.take k++v :: us.drop k))) d l lf (us.take k++v :: us.drop k) (zs.take k++x :: zs.drop k) (n+1):=by
 refine h.set (bE2 k h.tw hv) ?_ fun y hy=>?_
 ·have:=h.z;simp only [List.length_append,List.length_take,List.length_cons,List.length_drop];omega
 ·rcases cf.mp hy with q | q
  ·exact h.an y (gw q)
  ·rcases bi.mp q with q | q
   ·rw [q];exact hx
   ·exact h.an y (aAj q)
theorem aQ8:dS [1000000000]:=⟨by decide,fun n hn=>by rw [bw.mp hn];exact ⟨by decide,by decide⟩⟩
theorem bD6:dS [-1000000000]:=⟨by decide,fun n hn=>by rw [bw.mp hn];exact ⟨by decide,by decide⟩⟩
theorem aL4:dS [7,7,7]:=⟨by decide,fun n hn=>by
 have:n=7:=by simpa using hn
 rw [this];exact ⟨by decide,by decide⟩⟩
theorem bJ9:dS []:=⟨by decide,fun n hn=>absurd hn bh⟩
theorem wU.at {b:Bool}{H:Hp}{t:Addr}{T:An->Int}{M:Int}{l:List (An×V)}(L:wU b H t T M l) {x:An}(hx:x∈l.map (·.1)) {v:V}(hv:dG b H v x):∃ r,fL H t v (some (.ref r))/\bO H r (T x) M:=by
 obtain ⟨u,hu⟩:=uR hx;obtain ⟨r,rfl,f⟩:=L.yes x u hu;have:=fS L.d L.v hv;rw [hu] at this;exact ⟨r,this,f⟩
theorem fU.at {b:Bool}{H:Hp}{t:Addr}{T:An->Int}{M:Int}{ks:List An}(h:fU b H t T M ks) {x:An}(hx:x∈ks) {v:V}(hv:dG b H v x):∃ r,fL H t v (some (.ref r))/\bO H r (T x) M:=by
 obtain ⟨l,L,e⟩:=h;exact L.at (by rw [e];exact hx) hv
theorem fU.put {b:Bool}{H:Hp}{t:Addr}{T:An->Int}{M:Int}{ks:List An}(h:fU b H t T M ks) (kl:ks.length<=50) {x:An}(hx:x∈ks) {v:V}(hv:dG b H v x) {r:Addr}{m:Int}(hr:bO H r m M):∃ H',iT H t v (.ref r) H'/\fU b H' t (fun y=>if y=x then m else T y) M ks/\TS H H'/\∀ c,c≠t->H' c=H c:=by
 obtain ⟨l,L,e⟩:=h;have ll:l.length<=50:=by rw [<- e,af] at kl;exact kl
 have q:=L.put (n:=50) ll (x:=x) (r:=r) (m:=m - T x) hv.va (by rw [show T x+(m - T x)=m by omega];exact hr);have ts:TS H (aJ H t (fA b (bF l x (.ref r)))):=fun c xs q=>by rw [aE (cF q L.d uG)];exact q
 refine ⟨_,mJ L.d L.v hv (aK (by omega)),⟨bF l x (.ref r),?_,by rw [xE (by rw [e];exact hx),e]⟩,ts,fun c hc=>aE hc⟩;refine ⟨aC,fun y hy=>?_,fun y hy=>?_,fun y u hy=>?_⟩
 ·rcases pE hy with q | ⟨z,hz,q⟩
  ·rw [q];exact hv.va
  ·rw [<- q];exact L.v z hz
 ·rw [iX] at hy
  by_cases c:y=x
  ·rw [bb c] at hy;cases hy
  ·rw [ao c] at hy;rw [ao c];exact L.no y hy
 ·rw [iX] at hy
  by_cases c:y=x
  ·rw [bb c] at hy
   cases hy
   rw [bb c];exact ⟨r,rfl,ts _ _ hr⟩
  ·rw [ao c] at hy;obtain ⟨s,e,h⟩:=L.yes y u hy;rw [ao c];exact ⟨s,e,ts _ _ h⟩
theorem sJ {α: Type}{l:List α}{k:Nat}(h:k < l.length):(l.eraseIdx k).length+1=l.length:=by
 rw [List.length_eraseIdx,bb h];omega
theorem aE3 {α: Type}{l:List α}(nd:l.Nodup) {k:Nat}{x:α}(h:l[k]?=some x):x∉l.eraseIdx k:=by
 induction l generalizing k with
 |nil=>cases h
 |cons a r ih =>
  rw [ig] at nd
  cases k with
  |zero=>cases h;exact nd.1
  |succ k =>
   rw [io,bi,not_or];exact ⟨fun q=>nd.1 (by rw [<- q];exact bo (show r[k]?=some x from h)),ih nd.2 h⟩
structure eN (P:Program) (w:World) (b:Bool) (H G:Hp) (d l dl dr ls g:Addr) (ks qs:List An) (prs:List Pr2) (M:Int) (rs:List Pr2) (us:List V) (es:List (Qr×Int)) (L R:An->Int) (hv:Nat):Prop where
 dL:cL G d l ls us
 o:bP d l H G
 tw:bX (lX b G) us rs
 rn:rs.Nodup
 rp:∀ p∈rs,p∈prs
 lf:fU b G dl L M ks
 rt:fU b G dr R M qs
 pg:kS P w G g es M
 li:oB b es prs rs M
 lb:∀ x,0<=L x/\L x<=M/\(2:Int) ^ hv ∣ L x
 rb:∀ y,0<=R y/\R y < 2 ^ 174/\(2:Int) ^ hv ∣ R y
 h3:hv<=3
 n1:dl≠d/\dl≠l/\dr≠d/\dr≠l/\g≠d/\g≠l/\dl≠dr
 fr:H dl=none/\H dr=none/\H g=none/\H ls=none
section
variable {P:Program}{w:World}{b:Bool}{H G G':Hp}{d l dl dr ls g:Addr}{ks qs:List An}{prs:List Pr2}{M:Int}{rs:List Pr2}{us:List V}{es:List (Qr×Int)}{L R:An->Int}{hv:Nat}
theorem eN.out (S:eN P w b H G d l dl dr ls g ks qs prs M rs us es L R hv) (D:cD G' d l) (o:bP d l G G'):eN P w b H G' d l dl dr ls g ks qs prs M rs us es L R hv :=
 have t:=TS.out S.dL.deal o
 ⟨S.dL.out D o,S.o.trans o,S.tw.mono fun _ _ z=>lX.ts t z,S.rn,S.rp,S.lf.keep t fun u e=>o _ _ e S.n1.1 S.n1.2.1,S.rt.keep t fun u e=>o _ _ e S.n1.2.2.1 S.n1.2.2.2.1,S.pg.keep t fun u e=>o _ _ e S.n1.2.2.2.2.1 S.n1.2.2.2.2.2.1,S.li,S.lb,S.rb,S.h3,S.n1,S.fr⟩
theorem eN.same (S:eN P w b H G d l dl dr ls g ks qs prs M rs us es L R hv) (s:aT G G'):eN P w b H G' d l dl dr ls g ks qs prs M rs us es L R hv:=S.out (S.dL.deal.same s) (bP.of s)
theorem aM7 {b:Bool}{x:List (An×V)}{y:List V}:HO.lst y≠fA b x:=uH (fun _ z=>by cases z) fun _ z=>by cases z
theorem eN.ne (S:eN P w b H G d l dl dr ls g ks qs prs M rs us es L R hv):ls≠dl/\ls≠dr/\ls≠g/\g≠dl/\g≠dr:=by
 obtain ⟨l1,L1,_⟩:=S.lf;obtain ⟨l2,L2,_⟩:=S.rt;obtain ⟨xs,hg,_⟩:=S.pg.walk;exact ⟨cF S.dL.lst L1.d aM7,cF S.dL.lst L2.d aM7,cF S.dL.lst hg (by intro z;cases z),cF hg L1.d (uH (fun _ z=>by cases z) fun _ z=>by cases z),cF hg L2.d (uH (fun _ z=>by cases z) fun _ z=>by cases z)⟩
theorem eN.pop (S:eN P w b H G d l dl dr ls g ks qs prs M rs us es L R hv) {k:Nat}{p:Pr2}(hk:rs[k]?=some p):eN P w b H (aJ G ls (.lst (us.eraseIdx k))) d l dl dr ls g ks qs prs M (rs.eraseIdx k) (us.eraseIdx k) es L R hv:=by
 obtain ⟨n1,n2,n3,n4,n5⟩:=S.ne;have t:TS G (aJ G ls (.lst (us.eraseIdx k))):=TS.lst S.dL.lst;have sub:=cw rs k;have lk:=(bq.mp hk).1;refine ⟨S.dL.app _,fJ S.o S.fr.2.2.2,mS k (S.tw.mono fun _ _ z=>lX.ts t z),S.rn.sublist sub,fun q hq=>S.rp q (sub.subset hq),S.lf.keep t fun u e=>by rw [aE n1.symm];exact e,S.rt.keep t fun u e=>by rw [aE n2.symm];exact e,S.pg.keep t fun u e=>by rw [aE n3.symm];exact e,?_,S.lb,S.rb,S.h3,S.n1,S.fr⟩;refine ⟨S.li.nd,fun e he=>?_,S.li.v,by have:=S.li.z;have:=sJ lk;omega⟩;obtain ⟨q,h1,h2,h3⟩:=S.li.m e he;exact ⟨q,h1,h2,fun z=>h3 (sub.subset z)⟩
theorem eN.half (S:eN P w b H G d l dl dr ls g ks qs prs M rs us es L R hv) {h':Nat}(hh:h'<=hv):eN P w b H G d l dl dr ls g ks qs prs M rs us es L R h' :=
 have dv:(2:Int) ^ h' ∣ 2 ^ hv:=⟨2 ^ (hv - h'),by rw [<- zc];congr 1;omega⟩
 ⟨S.dL,S.o,S.tw,S.rn,S.rp,S.lf,S.rt,S.pg,S.li,fun x=>⟨(S.lb x).1,(S.lb x).2.1,mf dv (S.lb x).2.2⟩,fun x=>⟨(S.rb x).1,(S.rb x).2.1,mf dv (S.rb x).2.2⟩,cj hh S.h3,S.n1,S.fr⟩
end
theorem aW6 {m:Int}{hv hf:Nat}(h:(2:Int) ^ hv ∣ m) (h1:hf<=1) (h2:hf<=hv):∃ n:Int,m=n * (1+(hf:Int))/\(2:Int) ^ (hv - hf) ∣ n:=by
 rcases Nat.lt_or_ge 0 hf with c | c
 ·have:hf=1:=by omega
  subst this;obtain ⟨k,rfl⟩:=h;obtain ⟨v,rfl⟩:∃ v,hv=v+1:=⟨hv - 1,by omega⟩
  refine ⟨2 ^ v * k,?_,mh _ _⟩;rw [Int.pow_succ,tq,tq]
  congr 1
  show 2 * k=k * (1+((1:Nat):Int));omega
 ·have:hf=0:=by omega
  subst this;exact ⟨m,by simp,h⟩
theorem bJ7 {K:W.Frag}{b:Bool}{H:Hp}{Q:VK}{p q:Addr}{us:List V}{rs:List Pr2}(h:H p=some (.lst us)) (tw:bX (lX b H) us rs) (hq:H q=some (.lst [])) (k:Q (.bl (!decide (rs=[]))) H):xN K true (.ref p) (.ref q) H Q:=by
 refine ⟨.list (rs.map (eQ b)),.list [],⟨p,us,rfl,bK.of h,tw.rep fun _ _ z=>vR z⟩,⟨q,[],rfl,bK.of hq,rfl⟩,?_,iG,jC,?_⟩
 ·obtain ⟨h1,h2⟩:=pV b rs;simp only [SeqAt.shaped,PyData.canLay0,h1,Bool.true_and];exact am (by simp only [PyData.depth];omega)
 rw [bb rfl,iA];rw [show decide (rs.map (eQ b)=[])=decide (rs=[]) from eu.mpr (by rw [qj])];exact k
theorem oB.put {b:Bool}{es:List (Qr×Int)}{prs rs:List Pr2}{M n:Int}{p:Pr2}(h:oB b es prs rs M) (hp:p∈prs) (hr:p∉rs) (hn:cX b p∉es.map (·.1)) (n0:0 < n) (n1:n<=M) (z:es.length+rs.length+1<=prs.length):oB b (kF es (cX b p) n) prs rs M:=by
 have e:kF es (cX b p) n=es++[(cX b p,n)]:=by unfold kF;rw [ao hn]
 refine ⟨zQ h.nd,fun x hx=>?_,fun x hx=>?_,by rw [e,cb];show es.length+1+rs.length<=_;omega⟩
 ·rcases lN hx with q | q
  ·exact h.m x q
  ·rw [q];exact ⟨p,hp,rfl,hr⟩
 ·rcases lN hx with q | q
  ·exact h.v x q
  ·rw [q];exact ⟨n0,n1⟩
theorem oB.notin {b:Bool}{es:List (Qr×Int)}{prs rs:List Pr2}{M:Int}{p:Pr2}(h:oB b es prs rs M) (hp:p∈rs):cX b p∉es.map (·.1):=fun q=>by
 obtain ⟨e,he,ee⟩:=ap.mp q;obtain ⟨p',_,h2,h3⟩:=h.m e he;rw [aH6 (ee.symm.trans h2)] at hp;exact h3 hp
theorem aP5 {es:List En}{N:Int}(h:∀ e∈es,1<=e.2.2/\e.2.2 ∣ N) (hN:1<=N) (x:An):(2:Int) ^ 3 ∣ bQ es (N * 8) x:=by
 rw [qT h (mh _ _) hN,im _ (by omega)];exact ⟨bQ es N x,by show bQ es N x * 8=8 * bQ es N x;omega⟩
theorem aC7 {es:List En}{x:An}(e:iK es x=none):x∉es.map (·.1):=fun z=>by
 obtain ⟨f,hf,q⟩:=ap.mp z;unfold iK at e;rw [zh] at e;exact wt.mp e f hf (am q)
theorem aS2 {l:List (An×V)}{x:An}{v:V}(h:bZ l x=some v):∃ q∈l,q.1=x/\q.2=v:=by
 unfold bZ at h;obtain ⟨q,h1,h2⟩:=ge.mp h;exact ⟨q,mj h1,by have:=List.find?_some h1;exact bc this,h2⟩
theorem wJ {H:Hp}{q:Addr}{m M k:Int}(h:bO H q m M) (m0:0<=m) (M1:1<=M) (k1:1<=k):bO H q (m * k) (M * k):=by
 unfold bO at h ⊢;rw [<- dB (a:=m) (b:=M) (c:=m * k) (d:=M * k) m0 M1 (cv m0 (by omega)) (dD M1 k1) (by grind)];exact h
def gC (es:List (Qr×Int)):List (Qr×Int):=es.map fun e=>(e.1,e.2 * 60)
theorem aJ2 (es:List (Qr×Int)):(gC es).map (·.1)=es.map (·.1):=by
 unfold gC;rw [bg];rfl
theorem kS.scale {P:Program}{w:World}{H:Hp}{d:Addr}{es:List (Qr×Int)}{M:Int}(h:kS P w H d es M) (m0:∀ e∈es,0<=e.2) (M1:1<=M):kS P w H d (gC es) (M * 60):=by
 obtain ⟨zs,a,e,c,f⟩:=h;refine ⟨zs.map fun z=>((z.1.1,z.1.2 * 60),z.2),?_,?_,fun z hz=>?_,fun z hz=>?_⟩
 ·unfold tO at a ⊢;rw [bg];exact a
 ·unfold gC;rw [<- e,bg,bg];rfl
 ·obtain ⟨y,hy,rfl⟩:=ap.mp hz;exact c y hy
 ·obtain ⟨y,hy,rfl⟩:=ap.mp hz;exact wJ (f y hy) (m0 y.1 (by rw [<- e];exact ap.mpr ⟨y,hy,rfl⟩)) M1 (by decide)
structure fF (P:Program) (w:World) (H G:Hp) (d l g tp q ti:Addr) (e0:Qr) (m N:Int) (es:List (Qr×Int)) (n:Nat):Prop where
 D:cD G d l
 ts:TS H G
 kp:∀ c o,c≠d->c≠l->c≠g->H c=some o->G c=some o
 pg:kS P w G g es N
 nd:(es.map (·.1)).Nodup
 z:es.length<=n
 mb:∀ e∈es,0<=e.2/\e.2<=2 * N
 an:∀ e∈es,dS e.1.1.2/\dS e.1.2.2
 kq:QrV G tp e0
 ka:dS e0.1.2/\dS e0.2.2
 fs:bO G q (m * 60) N
 ft:bO G ti m N
 ne:g≠d/\g≠l
section
variable {P:Program}{w:World}{H G G':Hp}{d l g tp q ti:Addr}{e0:Qr}{m N:Int}{es:List (Qr×Int)}{n:Nat}
theorem fF.out (S:fF P w H G d l g tp q ti e0 m N es n) (D:cD G' d l) (o:bP d l G G'):fF P w H G' d l g tp q ti e0 m N es n :=
 have t:=TS.out S.D o
 ⟨D,S.ts.trans t,fun c u n1 n2 n3 e=>o _ _ (S.kp c u n1 n2 n3 e) n1 n2,S.pg.keep t fun u e=>o _ _ e S.ne.1 S.ne.2,S.nd,S.z,S.mb,S.an,S.kq.ts t,S.ka,t _ _ S.fs,t _ _ S.ft,S.ne⟩
theorem fF.same (S:fF P w H G d l g tp q ti e0 m N es n) (s:aT G G'):fF P w H G' d l g tp q ti e0 m N es n:=S.out (S.D.same s) (bP.of s)
theorem fF.mono (S:fF P w H G d l g tp q ti e0 m N es n) {n':Nat}(h:n<=n'):fF P w H G d l g tp q ti e0 m N es n':=⟨S.D,S.ts,S.kp,S.pg,S.nd,cj S.z h,S.mb,S.an,S.kq,S.ka,S.fs,S.ft,S.ne⟩
theorem fF.put (S:fF P w H G d l g tp q ti e0 m N es n) {kt r:Addr}{e:Qr}{v:Int}(hk:QrV G kt e) (hr:bO G r v N) (v0:0<=v) (v1:v<=2 * N) (ae:dS e.1.2/\dS e.2.2) (hn:n<=200) {W:Hp->Prop}(k:∀ G',fF P w H G' d l g tp q ti e0 m N (kF es e v) (n+1)->W G'):aT9 P w G g (.ref kt) (.ref r) W:=by
 obtain ⟨ldn,hdn,ldl,pd⟩:=S.pg.put (e:=e) hk.vq hr;refine .inr ⟨ldn,lM e,kt,hdn,rfl,hk.nat,by rw [ldl];exact aK (by have:=S.z;omega),fun G8 D8 o8=>k G8 ?_⟩;obtain ⟨φ,gx⟩:=hdn.ext;have t8:TS G G8:=fun c us e=>by rw [o8 c (cF e gx (by intro z;cases z))];exact e
 have kp:∀ {c:Addr}{u:HO},c≠g->G c=some u->G8 c=some u:=fun h e=>by rw [o8 _ h];exact e
 refine ⟨?_,S.ts.trans t8,fun c u n1 n2 n3 e=>kp n3 (S.kp c u n1 n2 n3 e),pd D8 t8,zQ S.nd,cj aH1 (by have:=S.z;omega),fun x hx=>?_,fun x hx=>?_,S.kq.ts t8,S.ka,t8 _ _ S.fs,t8 _ _ S.ft,S.ne⟩
 ·obtain ⟨sd,nn,l',q⟩:=S.D;exact ⟨sd,nn,l',⟨kp S.ne.1.symm q.dc,kp S.ne.2.symm q.lc,q.s0,q.s1,q.n0,q.l0⟩⟩
 ·rcases lN hx with y | y
  ·exact S.mb x y
  ·rw [y];exact ⟨v0,v1⟩
 ·rcases lN hx with y | y
  ·exact S.an x y
  ·rw [y];exact ae
end
theorem LyO.few {prs:List Pr2}{ks qs:List An}(L:LyO prs ks qs) (hk:ks.length<=12) (hq:qs.length<=12):prs.length<=144:=by
 have h:=oW (m:=ks.flatMap fun x=>qs.map fun y=>(x,y)) L.nd fun e he=>by
  obtain ⟨h1,h2⟩:=L.pr e he;exact List.mem_flatMap.mpr ⟨e.1,h1,ap.mpr ⟨e.2,h2,rfl⟩⟩
 have:∀ l:List An,(l.flatMap fun x=>qs.map fun y=>(x,y)).length=l.length * qs.length:=by
  intro l
  induction l with
  |nil=>simp
  |cons a r ih=>rw [List.flatMap_cons,cb,ih,af,dy,Nat.succ_mul];omega
 rw [this] at h;have:=Nat.mul_le_mul hk hq;omega
def aC9 (k:Int) (es:List (Qr×Int)):List (Qr×Int):=es.map fun e=>(e.1,e.2 * k)
theorem kS.scaleK {P:Program}{w:World}{H:Hp}{d:Addr}{es:List (Qr×Int)}{M k:Int}(h:kS P w H d es M) (m0:∀ e∈es,0<=e.2) (M1:1<=M) (k1:1<=k):kS P w H d (aC9 k es) (M * k):=by
 obtain ⟨zs,a,e,c,f⟩:=h;refine ⟨zs.map fun z=>((z.1.1,z.1.2 * k),z.2),?_,?_,fun z hz=>?_,fun z hz=>?_⟩
 ·unfold tO at a ⊢;rw [bg];exact a
 ·unfold aC9;rw [<- e,bg,bg];rfl
 ·obtain ⟨y,hy,rfl⟩:=ap.mp hz;exact c y hy
 ·obtain ⟨y,hy,rfl⟩:=ap.mp hz;exact wJ (f y hy) (m0 y.1 (by rw [<- e];exact ap.mpr ⟨y,hy,rfl⟩)) M1 k1
theorem qH.scaleK {es:List (Qr×Int)}{M k:Int}(h:qH es M) (k1:1<=k):qH (aC9 k es) (M * k):=by
 refine ⟨?_,by unfold aC9;rw [af];exact h.z,fun x hx=>?_,fun x hx=>?_⟩
 ·unfold aC9;rw [bg];exact h.nd
 ·obtain ⟨e,he,rfl⟩:=ap.mp hx;obtain ⟨q1,q2⟩:=h.m e he;exact ⟨cv q1 (by omega),by
   have:=ij q2 (show 0<=k by omega);rw [tq] at this;exact this⟩
 ·obtain ⟨e,he,rfl⟩:=ap.mp hx;exact h.an e he
theorem aV8 {a:List Int}(h:dS a):Sh (.tuple (a.map PyData.int)) 1 9618:=(Sh.tuple (k:=0) (n:=1921) (m:=5) (fun d hd=>by
 obtain ⟨n,hn,rfl⟩:=ap.mp hd;exact Sh.int (h.2 n hn)) (by rw [af];exact h.1)).mono (by decide) (by decide)
theorem aR9 {z:Bn}(h:dS z.2):Sh (gU z) 1 9618:=by
 obtain ⟨zb,za⟩:=z
 cases zb with
 |true=>exact aV8 h
 |false =>
  have:gK (za.headD 0):=by
   cases za with
   |nil=>exact ⟨by decide,by decide⟩
   |cons n _=>exact h.2 n au
  exact (Sh.int this).mono (by decide) (by decide)
theorem aH8 (z:Bn):nD (tQ z)=gU z:=by
 obtain ⟨zb,za⟩:=z
 cases zb with
 |true =>
  show PyData.tuple ((za.map Sum.inl).map kD)=PyData.tuple (za.map PyData.int);rw [bg];rfl
 |false=>rfl
theorem aQ2 {x:Str}(h:(PyData.str x).shown.length<=20):Sh (.str x) 0 20:=⟨by simp only [PyData.showable],by simp only [PyData.depth];exact ak _,h⟩
theorem tZ {x y:PyData}{k n:Nat}(h1:Sh x k n) (h2:Sh y k n):Sh (.tuple [x,y]) (k+1) ((n+2) * 2+3):=Sh.tuple (fun d hd=>by
 rcases bi.mp hd with q | q
 ·rw [q];exact h1
 ·rw [bw.mp q];exact h2) (ak 2)
def yT (M:Int) (es:List (Qr×Int)):List (List NKey×(Int×Int)):=es.map fun e=>(lM e.1,aI e.2 M)
theorem aX5 {es:List (Qr×Int)}{M:Int}(O:qH es M) (M1:1<=M) (M2:M < 2 ^ 134):Sh (qJ "paired" (yT M es)) 5 16000000:=by
 have d:Sh (.dict ((yT M es).map L2.entD)) 4 7700000:=(Sh.dict (k:=3) (n:=19243) (m:=200) (fun x hx=>by
  obtain ⟨f,hf,rfl⟩:=ap.mp hx;obtain ⟨e,he,rfl⟩:=ap.mp hf;have a:=O.an e he;have m:=O.m e he;have F:=bH (m:=e.2) (M:=M) m.1 (by omega) M1 (by omega);refine ⟨?_,?_⟩
  ·show Sh (aI3 (lM e.1)) 3 19243;have:aI3 (lM e.1)= .tuple [gU e.1.1,gU e.1.2]:=by
    show PyData.tuple [nD (tQ e.1.1),nD (tQ e.1.2)]=_;rw [aH8,aH8]
   rw [this];exact (tZ (aR9 a.1) (aR9 a.2)).mono (by decide) (by decide)
  ·show Sh (.tuple [.int (aI e.2 M).1,.int (aI e.2 M).2]) 3 19243;exact (tZ (Sh.int ⟨by have:=F.1.1;omega,by have:=F.1.2;omega⟩) (Sh.int ⟨by have:=F.2.1.1;omega,by have:=F.2.1.2;omega⟩)).mono (by decide) (by decide)) (by unfold yT;rw [af,af];exact O.z)).mono (by decide) (by decide)
 exact (tZ ((aQ2 (x:="paired") (by decide +kernel)).mono (k':=4) (n':=7700000) (by decide) (by decide)) d).mono (by decide) (by decide)
def aV0 (zs:List Bn):PyData:= .tuple [.str "broken",.tuple (zs.map gU)]
theorem bC2 {zs:List Bn}(z:zs.length<=30) (an:∀ z∈zs,dS z.2):Sh (aV0 zs) 3 1000000:=by
 have d:Sh (.tuple (zs.map gU)) 2 300000:=(Sh.tuple (m:=30) (fun x hx=>by
  obtain ⟨f,hf,rfl⟩:=ap.mp hx;exact aR9 (an f hf)) (by rw [af];exact z)).mono (by decide) (by decide)
 exact (tZ ((aQ2 (x:="broken") (by decide +kernel)).mono (k':=2) (n':=300000) (by decide) (by decide)) d).mono (by decide) (by decide)
theorem rO:∀ zs:List Bn,PyData.hasDictAll (zs.map gU)=false
 |[]=>rfl
 |z :: r=>by
  rw [ar,PyData.hasDictAll,rO r,Bool.or_false];exact PyData.hasDict_of_canLay _ (by
   have:=(uF [z]).1;simp only [List.map_cons,List.map_nil,PyData.canLayAll0,Bool.and_true] at this;exact this)
theorem aD3 {P:Program}{w:World}{b:Bool}{H:Hp}{tt:Addr}{es1 es2:List En}{prs:List Pr2}{fac:Int×Int}{rM M:Int}{v:Bool}(h:rP P w b H tt es1 es2 prs fac rM M v) (M1:1<=M) (M2:M < 2 ^ 134):∃ x:Str,∀ (K:W.Frag) (H':Hp),aT H H'->∀ Q:VK,Q (.str x) H'->aQ1 K P w [.ref tt] H' Q:=by
 rcases h with ⟨d,es,h1,h2,h3,_⟩ | ⟨ta,us,zs,h1,h2,h3,z,an,_⟩
 ·refine ⟨(qJ "paired" (yT M es)).shown,fun K H' s Q q=> .inr ?_⟩;obtain ⟨xs,hd,lx,wk⟩:=(h2.same s).walk;have sh:=aX5 h3 M1 M2;refine ⟨tt,d,"paired",xs,yT M es,rfl,s _ _ h1,hd,⟨by unfold yT;rw [af];exact lx,fun i x e hx he=>?_⟩,sh.s,cj sh.dp (by decide),cj sh.l (by rw [qf];decide),q⟩;obtain ⟨f,c,hf,e1,e2,e3,e4⟩:=wk i x hx;unfold yT at he;rw [bf,hf] at he
  cases he
  exact ⟨e1,by rw [e1];exact e4.nat,c,e2,e3⟩
 ·refine ⟨(aV0 zs).shown,fun K H' s Q q=> .inl ?_⟩;have sh:=bC2 z an;refine ⟨aV0 zs,tt,rfl,⟨tt,[.str "broken",.ref ta],rfl,aV.of (s _ _ h1),_,_,rfl,rfl,_,_,rfl,aB3 (s _ _ h2) (h3.mono fun _ _ z=>hJ.ts (TS.of s) z),rfl⟩,sh.s,?_,cj sh.dp (by decide),cj sh.l (by rw [qf];decide),q⟩;simp only [aV0,PyData.hasDict,PyData.hasDictAll,rO zs,Bool.or_false]
theorem xL.out {P:Program}{w:World}{b:Bool}{H H':Hp}{v:V}{t1 t2 d l:Addr}{c1 c2:Int}{es1 es2:List En}(h:xL P w b H v t1 t2 c1 c2 es1 es2) (D:cD H d l) (o:bP d l H H'):xL P w b H' v t1 t2 c1 c2 es1 es2:=by
 obtain ⟨r,p3,p4,p5,tt,du,fac,ws3,prs,M,rM,e,h1,h2,h3,h4,h5,h6,h7⟩:=h;have t:=TS.out D o;refine ⟨r,p3,p4,p5,tt,du,fac,ws3,prs,M,rM,e,t _ _ h1,h2.ts t,h3,t _ _ h4,h5,h6,h7.keep t fun c φ q=>?_⟩;obtain ⟨sd,nn,l',w⟩:=D;exact o _ _ q (cF q w.dc (by intro z;cases z)) (cF q w.lc (by intro z;cases z))
def top (i:Nat):Stmt:=PySem.Challenge.pw_pairedthrows_k30_pairings_and_sets_looke.main.body.getD i (.Pass ⟨0,0,0,0⟩)
abbrev bO4:Stmt:=top 1
abbrev bM7:Stmt:=top 2
abbrev bN2:Stmt:=top 3
abbrev aM3:Stmt:=top 4
abbrev aY6:Stmt:=top 5
abbrev bO7:Stmt:=top 7
abbrev bA1:Stmt:=top 8
abbrev bR2:Stmt:=top 10
abbrev bK9:Stmt:=top 11
abbrev bM4:Stmt:=top 12
abbrev bN0:Stmt:=top 13
abbrev aN0:Stmt:=top 15
abbrev aK0:Stmt:=top 16
abbrev bA6:Stmt:=top 17
abbrev aZ6:Stmt:=top 18
abbrev bP0:Stmt:=top 19
abbrev bQ6:Stmt:=top 20
abbrev bA0:Stmt:=top 21
abbrev aZ8:Stmt:=top 22
abbrev bR5:Stmt:=top 23
abbrev bQ8:Stmt:=top 24
abbrev bR0:Stmt:=top 25
abbrev bA7:Stmt:=top 26
abbrev bM0:Stmt:=top 27
abbrev bN6:Stmt:=top 28
abbrev bK6:Stmt:=top 29
abbrev bR1:Stmt:=top 30
abbrev bP5:Stmt:=top 31
abbrev bN4:Stmt:=top 32
abbrev bN3:Stmt:=top 33
abbrev bN8:Stmt:=top 34
abbrev bL1:Stmt:=top 35
abbrev bN5:Stmt:=top 36
abbrev aP2:Stmt:=top 37
section
variable {P:Program}{w:World}{K:W.Frag}{mg:Str->Option Value}{base:Heap}
theorem sY:jB ["_law_deal_here","_law_many","_law_number","_law_one","_law_other"] ["_law_deal_here","_law_many"] (aW aK0):=by refine ⟨rfl,rfl,rfl,?_,rfl,?_,?_⟩<;>decide +kernel
theorem aW3 {f:Addr}{fd:FuncData}(F:qM K "_law_draw" "_law_draw" aK0 f fd) (ml:mg "len"=none):nF P w K mg base CX0 1 f fd ["_law_deal_here","_law_many"] spDraw:=by
 refine F.ok sY (fun vs H Q E h=>?_) (fun cdv A outer s H vs Q E hr h=>?_)
 ·obtain ⟨d,l,m,rfl,_⟩:=h;rfl
 obtain ⟨d,l,m,rfl,⟨sd,n,ls,D⟩,hm0,hm1,k⟩:=h;have hu:=iU hr;refine ⟨_,aG (lF on (kB (kX dW (gL hu (pv 0) dH (fun _ _=>rfl)) aD (mG _)) (iI (kX iM (pX bJ (by rfl) ml fh (aA (gL hu (pv 0) dH (fun _ _=>rfl)) fZ)) aD (mG _)))).pt
   (aF (nJ hu (pv 0) dH (aH9 dq pi pj bH7 (gL hu (pv 0) dH (fun _ _=>rfl))) rfl)))
  (aG (kN (i:=2) sY.nd rfl (jt rfl) (gL hu (pv 0) dH (fun _ _=>rfl)))
  (aG (bN (kX iM (pv 2) aD (mG _))
   (aG (nJ hu (pv 0) dH (aO aN9 (pv 2) (pv 1)) rfl) (aF (aQ (aO gS (pv 2) (pv 1))))) aS)
  (aG (kN (i:=3) sY.nd rfl (jt rfl) (aO gS (aO dZ (aO iR (gL hu (pv 0) dH (fun _ _=>rfl)) aD) aD) aD))
  (aG (nJ hu (pv 0) dH (aO gS (aO dZ (aO iR (pv 3) aD) aD) aD) rfl)
  (aG (kN (i:=4) sY.nd rfl (jt rfl) (aO gS (aO iR (gL hu (pv 0) dH (fun _ _=>rfl)) (gL hu (pv 0) dH (fun _ _=>rfl))) aD))
  (aF (aQ (aO gS (aO dZ (aO iR (aO gS (aO iR (pv 3) (pv 3)) aD) aD) (pv 4)) (pv 1))))))))),?_⟩
 refine ⟨fun j σ H1=>∃ n' ls',σ=[some (.ref d),some (.int m),none,none,none]/\bR H1 d l sd n' ls'/\j=ls'.length/\bP d l H H1,⟨_,n,ls,rfl,D,rfl,bP.refl H⟩,?_⟩;rintro j σ H1 ⟨n',ls',rfl,D1,rfl,o1⟩;refine ⟨_,rfl,d,_,rfl,D1.gn,rfl,_,rfl,?_⟩;refine fH (fun c=>?a) (fun c=>bM3 ?b)
 case' a=>refine ⟨_,rfl,d,_,rfl,D1.gl,l,_,rfl,.inl (bK.of D1.lc),_,_,rfl,rfl,_,rfl,?_⟩
 case' a=>refine fH (fun c2=>?loop) (fun c2=>?b2)
 case loop =>
   have hl:0 < ls'.length:=by
    have:=bc c2
    simpa using this
   obtain ⟨z,hz⟩:∃ z,ls'[ls'.length - 1]?=some z:=⟨ls'[ls'.length - 1],by simp⟩
   have hz2:(ls'.map V.int)[(ls'.map V.int).length - 1]?=some (.int z):=by rw [af,bf,hz];rfl
   have z0:0<=z:=D1.l0 z (bo hz);have D2:bR (aJ H1 l (.lst (ls'.dropLast.map V.int))) d l sd n' ls'.dropLast:=D1.left fun x hx=>D1.l0 x (List.dropLast_subset _ hx)
   refine ⟨fun σ' H'=>σ'=[some (.ref d),some (.int m),none,none,none]/\bR H' d l sd z ls'.dropLast/\bP d l H H',fun σ' H' q=>⟨_,by rw [aAc];omega,z,ls'.dropLast,q.1,q.2.1,rfl,q.2.2⟩,?_⟩;refine ⟨_,rfl,d,_,rfl,D1.gl,.inl ⟨rfl,_,bK.of D1.lc⟩,l,_,_,rfl,rfl,D1.lc,hz2,?_⟩;have e:∀ (o:List V),(ls'.map V.int).dropLast=o->aJ H1 l (.lst (ls'.map V.int).dropLast)=aJ H1 l (.lst o):=fun o e=>by rw [e]
   rw [e _ List.map_dropLast.symm];refine ⟨_,rfl,d,_,rfl,D2.pn z,rfl,D2.number z0,o1.trans (bP.upd_l.trans bP.upd_d)⟩
 all_goals
  refine ⟨_,rfl,d,_,rfl,D1.gn,?_⟩;refine ⟨_,rfl,_,_,rfl,rfl,_,rfl,?_⟩;refine fH (fun c3=>?_) (fun c3=>?_)
  ·have hp:0 < n':=bc c3;refine ⟨_,rfl,_,rfl,_,_,rfl,rfl,⟨hm0,by omega⟩,_,rfl,d,_,rfl,D1.pn (n' / m),?_⟩;refine ⟨_,rfl,_,rfl,_,_,rfl,rfl,hm0,?_⟩;exact k _ _ (lg _ (by omega)) (ot _ hm0) ⟨_,_,_,D1.number (uz (by omega) (by omega))⟩ (o1.trans bP.upd_d)
  ·
   have q1:(0:Int) < 2147483647:=by decide
   refine ⟨_,rfl,d,_,rfl,D1.gs,_,_,rfl,rfl,.inr ⟨by decide,by decide⟩,_,_,rfl,rfl,_,_,rfl,rfl,q1,?_⟩;have q2:(0:Int) < 2147483399:=by decide
   refine ⟨_,rfl,_,_,rfl,rfl,.inr ⟨by decide,by decide⟩,_,_,rfl,rfl,_,_,rfl,rfl,q2,_,rfl,d,_,rfl,D1.ps _,?_⟩;have D2:=D1.seed (v:=((sd * 48271+7919) % 2147483647 * 40692+104729) % 2147483399) (by omega) (by omega);have q3:(0:Int) < 2147483563:=by decide
   have q4:(0:Int) < 2147483629:=by decide
   refine ⟨_,rfl,d,_,rfl,D2.gs,_,rfl,d,_,rfl,D2.gs,_,_,rfl,rfl,.inr ⟨by omega,by omega⟩,_,_,rfl,rfl,q3,?_⟩;refine ⟨_,rfl,_,rfl,_,_,rfl,rfl,.inr ⟨by omega,by omega⟩,_,_,rfl,rfl,q4,_,_,rfl,rfl,.inr ⟨by decide,by decide⟩,_,rfl,_,_,rfl,rfl,_,rfl,_,_,rfl,rfl,hm0,?_⟩;exact k _ _ (lg _ (by omega)) (ot _ hm0) ⟨_,_,_,D2⟩ (o1.trans bP.upd_d)
end
theorem zG (x n:Int) (l:Addr):iY [] (dF x n l)=dF x n l:=by
 unfold iY dF;simp only [List.foldl_cons,List.foldl_nil];have e1:bF ([]:List (Key×V)) (Sum.inr ("seed": Str)) (V.int x)=[(Sum.inr ("seed": Str),V.int x)]:=rfl;have e2:bF [(Sum.inr ("seed": Str),V.int x)] (Sum.inr ("number": Str):Key) (V.int n)=[(Sum.inr ("seed": Str),V.int x),(Sum.inr ("number": Str),V.int n)]:=lP _ (by rw [bC ksn,vI]);have e3:bF [(Sum.inr ("seed": Str),V.int x),(Sum.inr ("number": Str),V.int n)] (Sum.inr ("left": Str):Key) (V.ref l)=[(Sum.inr ("seed": Str),V.int x),(Sum.inr ("number": Str),V.int n)]++[(Sum.inr ("left": Str),V.ref l)]:=lP _ (by rw [bC ksl,bC knl,vI]);rw [e1,e2,e3];rfl
theorem aO0:(["_law_cell"]:List Str).Nodup:=by decide +kernel
theorem aI5 (ns:List Int) (lo hi:Option Int):∃ ms:List Int,uC (ns.map V.int) lo hi=ms.map V.int/\ms.length<=ns.length:=by
 refine ⟨(ns.drop (HT.sIx ns.length 0 lo)).take (HT.sIx ns.length ns.length hi - HT.sIx ns.length 0 lo),?_,?_⟩
 ·unfold uC;rw [af,List.map_take,List.map_drop]
 ·rw [cq,xr];omega
section
variable {P:Program}{w:World}{K:W.Frag}{mg:Str->Option Value}{base:Heap}
theorem pR:jB ["_law_script","_law_base","_law_cells","_law_number","_law_cell"] ["_law_script","_law_base"] (aW aN0):=by refine ⟨rfl,rfl,rfl,?_,rfl,?_,?_⟩<;>decide +kernel
theorem aX4 {f:Addr}{fd:FuncData}(F:qM K "_law_deal" "_law_deal" aN0 f fd) (mm:mg "max"=none) (mr:mg "reversed"=none) (ml:mg "list"=none):nF P w K mg base CX0 1 f fd ["_law_script","_law_base"] (aR5 K):=by
 refine F.ok pR (fun vs H Q E h=>?_) (fun cdv A outer s H vs Q E hr h=>?_)
 ·obtain ⟨a,ns,b,rfl,_⟩:=h;rfl
 obtain ⟨a,ns,b,rfl,hS,hlen,hb0,hb1,k⟩:=h;refine ⟨_,aG (jK ["_law_cell"] [none] (i:=2) pR.nd rfl (jt rfl) (gP (aO8 aX2 (pv 0) (aB9 (pv 1)) (aB9 aD)))
   (fun _ _ _ _=>nR (i:=0) aO0 rfl (jt rfl)) (fun _ _ _ _=>eB) (fun _ _ _ _=>pX (aC6 rfl) (by rfl) mm zy (aA (pv 0) (aA (aO mR aD (pv 0)) fZ))))
  (aG (kN (i:=3) pR.nd rfl (jt rfl) (aO dZ aD (pv 1)))
  (aG (aK3 on rfl (gP (pv 2)) (nR (i:=4) pR.nd rfl (jt rfl))
   (aF (kN (i:=3) pR.nd rfl (jt rfl) (aO gS (aO dZ (aO iR (pv 3) aD) (aO gS (pv 4) aD)) aD))))
  (aF (aQ (aS9 (qF dH (pv 3) (qF dH aD (qF dH (oU (cG ["_law_cell"] [none] (gP (pv 2))
   (fun _ _ _ _=>nR (i:=0) aO0 rfl (jt rfl)) (fun _ _ _ _=>iZ (kX bL5 (pv 0) (aO mC aD aD) (mG _))) (fun _ _ _ _=>pv 0)) (by rfl) ml (by rfl) mr) aU3))) rfl rfl (by decide) (by decide)))))),?_⟩
 refine ⟨_,rfl,_,rfl,_,rfl,_,rfl,a,_,rfl,hS,fun p1 np1=>?_⟩;obtain ⟨ms,em,hms⟩:=aI5 ns (some b) (some 63);have g1:aT H (aJ H p1 (.lst (uC (ns.map V.int) (some b) (some 63)))):=aB np1 _;have hp1:bK K (aJ H p1 (.lst (uC (ns.map V.int) (some b) (some 63)))) p1 (ms.map V.int):=by rw [em];exact bK.of aC
 generalize aJ H p1 (.lst (uC (ns.map V.int) (some b) (some 63)))=H1 at g1 hp1 ⊢;refine ⟨p1,rfl,⟨_,hp1⟩,hE (xs:=ms.map V.int) (fun i ys σ H2=>H2=H1/\(∃ v,σ=[v])/\∃ cs:List Int,ys=cs.map V.int/\cs.length=i/\∀ x∈cs,0<=x)
  (by rw [af];exact aK (by omega)) ⟨rfl,⟨_,rfl⟩,[],rfl,rfl,fun _ z=>nomatch z⟩ (fun i ys σ H2 ⟨_,_,cs,e1,e2,_⟩=>by rw [e1,af];omega) (fun i ys σ H2 _ ⟨e,_⟩=>by rw [e];exact hp1) ?_ ?_⟩
 ·rintro i x ys σ H2 hx ⟨rfl,⟨v,rfl⟩,cs,rfl,rfl,h0⟩;obtain ⟨z,rfl,_⟩:=nI hx;refine ⟨_,rfl,_,rfl,_,_,rfl,rfl,_,_,rfl,rfl,⟨_,rfl⟩,cs++[if 0 - z > z then 0 - z else z],by rw [bj];rfl,by rw [cb];rfl,fun x hx=>?_⟩;rcases cf.mp hx with q | q
  ·exact h0 x q
  ·have e:x=if 0 - z > z then 0 - z else z:=by simpa using q
   rw [e];split <;> omega
 rintro ys σ H2 ⟨rfl,_,cs,rfl,hcs,h0⟩ p2 np2;have hm63:cs.length<=63:=by rw [af] at hcs;omega
 have g2:aT H2 (aJ H2 p2 (.lst (cs.map V.int))):=aB np2 _;have hp2:bK K (aJ H2 p2 (.lst (cs.map V.int))) p2 (cs.map V.int):=bK.of aC;generalize aJ H2 p2 (.lst (cs.map V.int))=H3 at g2 hp2 ⊢;refine ⟨_,rfl,_,_,rfl,rfl,?_⟩;refine ⟨_,rfl,p2,rfl,⟨_,hp2⟩,pU (K:=K) (a:=p2) (xs:=cs.map V.int) (fun i σ H4=>H4=H3/\∃ (x:Int) (v:Option V),σ=[some (.ref a),some (.int b),some (.ref p2),some (.int x),v]/\0<=x/\x < 2147483647)
  ⟨rfl,7919+b,none,rfl,by omega,by omega⟩ (fun i σ H4 _ ⟨e,_⟩=>by rw [e];exact hp2) ?_ ?_⟩
 ·rintro i y σ H4 hi ⟨rfl,x,v,rfl,x0,x1⟩;obtain ⟨z,rfl,_⟩:=nI hi;have q1:(0:Int) < 2147483629:=by decide
  have q2:(0:Int) < 2147483647:=by decide
  refine ⟨_,rfl,_,_,rfl,rfl,.inr ⟨by decide,by decide⟩,_,rfl,_,_,rfl,rfl,q1,_,_,rfl,rfl,_,_,rfl,rfl,q2,rfl,_,_,rfl,?_,?_⟩
  ·exact lg _ (by decide)
  ·exact ot _ q2
 rintro σ H4 ⟨rfl,x,v,rfl,x0,x1⟩;intro d nd;have g4:aT H4 (aJ H4 d (.dK [])):=aB nd _;have hd4:aJ H4 d (.dK []) d=some (.dK []):=aC;have hp4:=g4.seq hp2;refine ⟨_,rfl,_,rfl,p2,rfl,⟨_,hp4⟩,?_⟩;generalize aJ H4 d (.dK [])=H5 at g4 hd4 hp4 ⊢;refine hE (xs:=cs.map V.int) (fun i ys σ H6=>H6=H5/\(∃ v,σ=[v])/\∃ ls:List Int,ys=ls.map V.int/\ls.length<=i/\∀ x∈ls,0<=x)
  (by rw [af];exact aK (by omega)) ⟨rfl,⟨_,rfl⟩,[],rfl,ak _,fun _ z=>nomatch z⟩ (fun i ys σ H2 ⟨_,_,cs,e1,e2,_⟩=>by rw [e1,af];omega) (fun i ys σ H2 _ ⟨e,_⟩=>by rw [e];exact hp4) ?_ ?_
 ·rintro i y ys σ H6 hy ⟨rfl,⟨v',rfl⟩,ls,rfl,hl,l0⟩;obtain ⟨z,rfl,hz⟩:=nI hy;have z0:0<=z:=h0 z (bo hz);refine ⟨_,rfl,_,_,rfl,rfl,⟨by decide,by decide,by decide⟩,_,_,rfl,rfl,_,rfl,?_⟩;refine fH (fun c=>?_) (fun c=>?_)
  ·refine ⟨_,rfl,rfl,⟨_,rfl⟩,ls++[z],by rw [bj];rfl,by rw [cb];show ls.length+1<=i+1;omega,fun x hx=>?_⟩;rcases cf.mp hx with q | q
   ·exact l0 x q
   ·have e:x=z:=by simpa using q
    rw [e];exact z0
  ·exact ⟨rfl,⟨_,rfl⟩,ls,rfl,Nat.le_succ_of_le hl,l0⟩
 rintro ys σ H6 ⟨rfl,_,ls,rfl,hl,l0⟩ p3 np3;have g5:aT H6 (aJ H6 p3 (.lst (ls.map V.int))):=aB np3 _;refine ⟨p3,_,rfl,bK.of aC,fun l nl=>?_⟩;generalize aJ H6 p3 (.lst (ls.map V.int))=H7 at g5 nl ⊢;have g6:aT H7 (aJ H7 l (.lst (ls.map V.int).reverse)):=aB nl _;have hd7:H7 d=some (.dK []):=g5 _ _ hd4;refine ⟨g6 _ _ hd7,dF x 0 l,rfl,by show 3<=15;decide,?_⟩;have em:iY [] (dF x 0 l)=dF x 0 l:=zG _ _ _;have neld:l≠d:=fun z=>by rw [z] at nl;rw [nl] at hd7;cases hd7
 refine k d l _ ?_ ?_ ⟨x,0,ls.reverse,⟨by rw [em];exact aC,by rw [aE neld,aC,List.map_reverse],x0,x1,jz 0,fun y hy=>l0 y (by simpa using hy)⟩⟩ ?_
 ·exact (g1.trans g2).free nd
 ·exact (g1.trans (g2.trans (g4.trans g5))).free nl
 ·intro c o e;rw [aE (aH e ((g1.trans g2).free nd))];exact (g1.trans (g2.trans (g4.trans (g5.trans g6)))) c o e
theorem bF7 (C_Blw:Cl P w K mg base 1 spLessF "_law_below") (m_int:mg "int"=none):hU P w K mg base "_law_lesser" "_law_lesser" bK6 2 ["_law_one","_law_other"] spLes:=by
 refine jU ["_law_one","_law_other"] fun H Q nd hr h=>?_
 obtain ⟨q1,q2,m,n,M,rfl,f1,f2,m0,n0,m1,n1,M1,M2,k⟩:=h;refine ⟨_,(aF (aQ (cS cN (dM (aA (pv 0) (aP (pv 1)))) (qQ jF m_int pk (aP (bV C_Blw hr (aA (pv 1) (aP (pv 0))))))))),?_⟩;have F1:=bH m0 (by omega) M1 (by omega);have F2:=bH n0 (by omega) M1 (by omega);refine ⟨_,rfl,_,rfl,cE,fun l hl=>?_⟩;have s:=aB hl (.lst [.ref q1,.ref q2]);have el:=gJ (m:=n) (n:=m) n0 m0 M1;unfold ltF at el;refine ⟨_,rfl,_,rfl,q2,q1,_,_,_,_,rfl,s _ _ f2,s _ _ f1,F2.1,F2.2.1,F1.1,F1.2.1,?_⟩;rw [el];refine .inr ⟨_,rfl,?_⟩
 by_cases c:n < m
 ·rw [am c];refine ⟨l,_,_,_,rfl,rfl,bK.of aC,rfl,k _ q2 s ?_⟩;rw [Int.min_eq_right (by omega)];exact s _ _ f2
 ·rw [bu c];refine ⟨l,_,_,_,rfl,rfl,bK.of aC,rfl,k _ q1 s ?_⟩;rw [Int.min_eq_left (by omega)];exact s _ _ f1
theorem bC5 (C_LLow:Cl P w K mg base 1 spLow "_law_lowest"):hU P w K mg base "_law_less" "_law_less" bR1 2 ["_law_one","_law_other"] spSub:=by
 refine jU ["_law_one","_law_other"] fun H Q nd hr h=>?_
 obtain ⟨q1,q2,m,n,M,rfl,g1,g2,n0,nm,m1,M1,M2,k⟩:=h;refine ⟨_,(aF (aQ (bV C_LLow hr (aA (aO mR (aO bU (cS aM (pv 0) aD) (cS aM (pv 1) aD)) (aO bU (cS aM (pv 1) aD) (cS aM (pv 0) aD))) (aP (aO bU (cS aM (pv 0) aD) (cS aM (pv 1) aD))))))),?_⟩;have F2:=bH (m:=m) (M:=M) (by omega) (by omega) M1 (by omega);have F3:=bH (m:=n) (M:=M) n0 (by omega) M1 (by omega);have e2:=aO4 (a:=m) (c:=n) n0 nm M1;have bl1:gK (aI m M).1:=⟨by have:=F2.1.1;omega,by have:=F2.1.2;omega⟩
 have bl2:gK (aI m M).2:=⟨by have:=F2.2.1.1;omega,by have:=F2.2.1.2;omega⟩
 have bl3:gK (aI n M).1:=⟨by have:=F3.1.1;omega,by have:=F3.1.2;omega⟩
 have bl4:gK (aI n M).2:=⟨by have:=F3.2.1.1;omega,by have:=F3.2.1.2;omega⟩
 have lt3:¬ (aI m M).1 * (aI n M).2 < (aI n M).1 * (aI m M).2:=by
  have:=gJ (m:=m) (n:=n) (by omega) n0 M1;unfold ltF at this;rw [bu (show ¬ m < n by omega)] at this;exact wo this
 have pm:=dD F2.2.2 F3.2.2;have mb:=(vQ (show 0<=(aI m M).2 by have:=F2.2.2;omega) (show (aI m M).2 < 2 ^ 180 from F2.2.1.2) (show 0<=(aI n M).2 by have:=F3.2.2;omega) (show (aI n M).2 < 2 ^ 180 from F3.2.1.2)).2;refine ⟨_,rfl,q1,_,_,_,rfl,rfl,aV.of g1,qS _ _,_,rfl,q2,_,_,_,rfl,rfl,aV.of g2,nH _ _,_,_,rfl,rfl,⟨bl1,bl4⟩,_,rfl,q2,_,_,_,rfl,rfl,aV.of g2,qS _ _,_,rfl,q1,_,_,_,rfl,rfl,aV.of g1,nH _ _,_,_,rfl,rfl,⟨bl3,bl2⟩,_,_,rfl,rfl,_,rfl,q1,_,_,_,rfl,rfl,aV.of g1,nH _ _,_,rfl,q2,_,_,_,rfl,rfl,aV.of g2,nH _ _,_,_,rfl,rfl,⟨bl2,bl4⟩,_,_,rfl,by omega,pm,vi mb (by decide),fun r hr'=>k r hr' _ (aB hr' _) (fun c hc=>aE hc) ?_⟩;unfold bO;rw [<- e2];exact aC
theorem bB8  : hU P w K mg base "common_divisor" "common_divisor" bO4 1 ["one","other"] spGcd:=by
 refine jU ["one","other","remainder"] fun H Q nd hr h=>?_
 obtain ⟨a,b,rfl,ha,hb,k⟩:=h;refine ⟨_,(aG (lF on (gF aO2 (pv 1) aD)
  (eJ 2 nd (aO gS (pv 0) (pv 1))
  (eJ 0 nd (pv 1)
  (aF (psz 1 nd (pv 2))))))
  (aF (aQ (pv 0)))),?_⟩
 refine ⟨fun j σ H1=>H1=H/\∃ (x y:Int) (r:Option V),σ=[some (.int x),some (.int y),r]/\0<=x/\0<=y/\gI x y=gI a b/\j=y.toNat,⟨_,rfl,a,b,none,rfl,ha,hb,rfl,rfl⟩,?_⟩;rintro j σ H1 ⟨rfl,x,y,r,rfl,hx,hy,hg,rfl⟩;refine ⟨_,rfl,rfl,_,rfl,?_⟩
 by_cases y0:y=0
 ·subst y0;refine bO1 rfl ⟨_,rfl,?_⟩;rw [<- hg,aA0 hx] at k;exact k
 ·have yp:0 < y:=by omega
  have e:(!decide (V.int y=V.int 0))=true:=by simp [y0]
  rw [e];refine ⟨fun σ' H'=>H'=H1/\∃ r',σ'=[some (.int y),some (.int (x % y)),r'],fun σ' H' ⟨e1,r',e2⟩=>⟨(x % y).toNat,?_,e1,y,x % y,r',e2,hy,lg _ y0,(vT hx yp).trans hg,rfl⟩,?_⟩
  ·have:=ot x yp;have:=lg x y0;omega
  ·exact ⟨_,rfl,_,rfl,_,_,rfl,rfl,yp,_,rfl,_,rfl,rfl,_,rfl⟩
theorem bI0 (C_Gcd:Cl P w K mg base 1 spGcd "common_divisor"):hU P w K mg base "lowest" "lowest" bM7 2 ["top","bottom"] spLow:=by
 refine jU ["top","bottom","divisor"] fun H Q nd hr h=>?_
 obtain ⟨a,b,rfl,ha,hb,hz,k⟩:=h;refine ⟨_,(eJ 2 nd (bV C_Gcd hr (aA (pv 0) (aP (pv 1))))
  (aF (aQ (aX (aA (aO kW (pv 0) (pv 2)) (aP (aO kW (pv 1) (pv 2)))))))),?_⟩
 have g0:0 < gI a b:=tR hb;have g1:gI a b < 2 ^ 200 * 2 ^ 200:=gj (aZ3 hb) hz;refine ⟨_,rfl,_,rfl,a,b,rfl,ha,by omega,?_⟩;refine ⟨_,rfl,_,rfl,_,_,rfl,rfl,⟨g0,g1⟩,_,rfl,_,rfl,_,_,rfl,rfl,⟨g0,g1⟩,cE,fun p hp=>k p hp⟩
theorem bH5 (C_Low:Cl P w K mg base 2 spLow "lowest"):hU P w K mg base "added" "added" bN2 3 ["one","other"] spAdd:=by
 refine jU ["one","other"] fun H Q nd hr h=>?_
 obtain ⟨p,q,⟨a,b⟩,⟨c,d⟩,rfl,hp,hq,⟨ha,hb,b1⟩,⟨hc,hd,d1⟩,k⟩:=h;refine ⟨_,(aF (aQ (bV C_Low hr (aA (aO dZ (aO bU (cS aM (pv 0) aD) (cS aM (pv 1) aD)) (aO bU (cS aM (pv 1) aD) (cS aM (pv 0) aD))) (aP (aO bU (cS aM (pv 0) aD) (cS aM (pv 1) aD))))))),?_⟩;replace ha:jR a:=ha;replace hb:jR b:=hb;replace hc:jR c:=hc;replace hd:jR d:=hd;replace b1:1<=b:=b1;replace d1:1<=d:=d1;have m1:=fN ha.1 ha.2 hd.1 hd.2;have m0:=fN hc.1 hc.2 hb.1 hb.2;have m2:=fN hb.1 hb.2 hd.1 hd.2;have m3:1<=b * d:=by have:=ow (show 0 < b by omega) (show 0 < d by omega);omega
 refine ⟨_,rfl,p,_,_,_,rfl,rfl,aV.of hp,qS a b,_,rfl,q,_,_,_,rfl,rfl,aV.of hq,nH c d,_,_,rfl,rfl,⟨ha.below,hd.below⟩,?_⟩;refine ⟨_,rfl,q,_,_,_,rfl,rfl,aV.of hq,qS c d,_,rfl,p,_,_,_,rfl,rfl,aV.of hp,nH a b,_,_,rfl,rfl,⟨hc.below,hb.below⟩,_,_,rfl,rfl,?_⟩;refine ⟨_,rfl,p,_,_,_,rfl,rfl,aV.of hp,nH a b,_,rfl,q,_,_,_,rfl,rfl,aV.of hq,nH c d,_,_,rfl,rfl,⟨hb.below,hd.below⟩,?_⟩;exact ⟨_,_,rfl,by omega,m3,vi m2.2 (by decide),k⟩
theorem aN8 (C_Low:Cl P w K mg base 2 spLow "lowest"):hU P w K mg base "times" "times" aM3 3 ["one","other"] spTimes:=by
 refine jU ["one","other"] fun H Q nd hr h=>?_
 obtain ⟨p,q,a,b,c,d,rfl,hp,hq,ha,hb,hc,hd,b1,d1,k⟩:=h;refine ⟨_,(aF (aQ (bV C_Low hr (aA (aO bU (cS aM (pv 0) aD) (cS aM (pv 1) aD)) (aP (aO bU (cS aM (pv 0) aD) (cS aM (pv 1) aD))))))),?_⟩;have m1:=fN ha.1 ha.2 hc.1 hc.2;have m2:=fN hb.1 hb.2 hd.1 hd.2;have m3:1<=b * d:=by have:=ow (show 0 < b by omega) (show 0 < d by omega);omega
 refine ⟨_,rfl,p,_,_,_,rfl,rfl,aV.of hp,qS a b,_,rfl,q,_,_,_,rfl,rfl,aV.of hq,qS c d,_,_,rfl,rfl,⟨ha.below,hc.below⟩,?_⟩;refine ⟨_,rfl,p,_,_,_,rfl,rfl,aV.of hp,nH a b,_,rfl,q,_,_,_,rfl,rfl,aV.of hq,nH c d,_,_,rfl,rfl,⟨hb.below,hd.below⟩,?_⟩;exact ⟨_,_,rfl,m1.1,m3,vi m2.2 (by decide),k⟩
theorem aU1  : hU P w K mg base "less" "less" aY6 1 ["one","other"] spLessF:=by
 refine jU ["one","other"] fun H Q nd hr h=>?_
 obtain ⟨p,q,a,b,c,d,rfl,hp,hq,ha,hb,hc,hd,k⟩:=h;refine ⟨_,(aF (aQ (pec nA (aO bU (cS aM (pv 0) aD) (cS aM (pv 1) aD)) (aO bU (cS aM (pv 1) aD) (cS aM (pv 0) aD))))),?_⟩;refine ⟨_,rfl,p,_,_,_,rfl,rfl,aV.of hp,qS _ _,_,rfl,q,_,_,_,rfl,rfl,aV.of hq,nH _ _,_,_,rfl,rfl,⟨ha.below,hd.below⟩,?_⟩;refine ⟨_,rfl,q,_,_,_,rfl,rfl,aV.of hq,qS _ _,_,rfl,p,_,_,_,rfl,rfl,aV.of hp,nH _ _,_,_,rfl,rfl,⟨hc.below,hb.below⟩,?_⟩;exact ⟨_,_,rfl,rfl,k⟩
theorem aX7 (C_Add:Cl P w K mg base 3 spAdd "added"):hU P w K mg base "come_to" "come_to" bA1 4 ["shares"] spCome:=by
 refine jU ["shares","total","share"] fun H Q nd hr h=>?_
 obtain ⟨l,us,fs,rfl,hl,tw,sf,k⟩:=h;refine ⟨_,(eJ 1 nd (aX (aA aD (aP aD)))
  (aG (pfr (gP (pv 0)) (dR 2 nd)
  (aF (psz 1 nd (bV C_Add hr (aA (pv 1) (aP (pv 2)))))))
  (aF (aQ (pv 1))))),?_⟩
 refine ⟨cE,fun t0 ht0=>?_⟩;refine ⟨_,rfl,l,rfl,⟨_,bK.of (aB ht0 _ _ _ hl)⟩,pU (K:=K) (a:=l) (xs:=us) (fun i σ H1=>∃ q v2,σ=[some (.ref l),some (.ref q),v2]/\aT H H1/\cC H1 q ((fs.take i).foldl iP (0,1)).1 ((fs.take i).foldl iP (0,1)).2)
  ⟨t0,_,rfl,aB ht0 _,aC⟩ (by rintro i σ H1 _ ⟨_,_,_,e,_⟩;exact bK.of (e _ _ hl)) ?_ ?_⟩
 ·rintro i v σ H1 hv ⟨q,v2,rfl,s1,hq⟩;obtain ⟨f,hf,qq,rfl,hqq⟩:=tw.at hv;have sa:=uU sf hf;refine ⟨_,rfl,_,rfl,q,qq,_,f,rfl,hq,s1 _ _ hqq,sa.1,sa.2,fun r hr'=>⟨r,_,rfl,s1.trans (aB hr' _),?_⟩⟩;rw [aU hf,xj];exact aC
 ·rintro σ H1 ⟨q,v2,rfl,s1,hq⟩;rw [tw.length,be] at hq;exact ⟨_,rfl,k _ q s1 hq⟩
theorem aS7  : hU P w K mg base "_law_lowest" "_law_lowest" bA6 1 ["_law_top","_law_bottom"] spLow:=by
 refine jU ["_law_top","_law_bottom","_law_one","_law_other"] fun H Q nd hr h=>?_
 obtain ⟨a,b,rfl,ha,hb,hz,k⟩:=h;refine ⟨_,(aG (yO (i:=2) (j:=3) rfl nd rfl rfl (by decide) rfl rfl (aA (pv 0) (aP (pv 1))) rfl)
  (aG (lF on (gF iM (pv 3) aD)
  (aF (yO (i:=2) (j:=3) rfl nd rfl rfl (by decide) rfl rfl (aA (pv 3) (aP (aO gS (pv 2) (pv 3)))) rfl)))
  (aF (aQ (aX (aA (aO kW (pv 0) (pv 2)) (aP (aO kW (pv 1) (pv 2))))))))),?_⟩
 have g0:0 < gI a b:=tR hb;have g1:gI a b < 2 ^ 200 * 2 ^ 200:=gj (aZ3 hb) hz;refine ⟨_,rfl,_,rfl,_,_,rfl,?_⟩;refine ⟨fun j σ H1=>H1=H/\∃ (x y:Int),σ=[some (.int a),some (.int b),some (.int x),some (.int y)]/\0<=x/\0<=y/\gI x y=gI a b/\j=y.toNat,⟨_,rfl,a,b,rfl,ha,by omega,rfl,rfl⟩,?_⟩;rintro j σ H1 ⟨rfl,x,y,rfl,hx,hy,hg,rfl⟩;refine ⟨_,rfl,_,_,rfl,rfl,_,rfl,?_⟩;refine fH (fun c=>?_) (fun c=>?_)
 ·have yp:0 < y:=bc c;refine ⟨fun σ' H'=>H'=H1/\σ'=[some (.int a),some (.int b),some (.int y),some (.int (x % y))],fun σ' H' ⟨e1,e2⟩=>⟨(x % y).toNat,?_,e1,y,x % y,e2,hy,lg _ (by omega),(vT hx yp).trans hg,rfl⟩,?_⟩
  ·have:=ot x yp;have:=lg x (show y≠0 by omega);omega
  ·exact ⟨_,rfl,_,rfl,_,rfl,_,_,rfl,rfl,yp,_,_,rfl,rfl,rfl⟩
 ·have y0:y=0:=by
   have:¬ 0 < y:=fun z=>c (am z)
   omega
  subst y0;rw [aA0 hx] at hg;subst hg;exact ⟨_,rfl,_,rfl,_,_,rfl,rfl,⟨g0,g1⟩,_,rfl,_,rfl,_,_,rfl,rfl,⟨g0,g1⟩,cE,fun p hp=>k p hp⟩
theorem aT0 (C_LLow:Cl P w K mg base 1 spLow "_law_lowest"):hU P w K mg base "_law_plus" "_law_plus" bA0 2 ["_law_one","_law_other"] spPlus:=by
 refine jU ["_law_one","_law_other"] fun H Q nd hr h=>?_
 obtain ⟨p,q,⟨a,b⟩,⟨c,d⟩,rfl,hp,hq,⟨ha,hb,b1⟩,⟨hc,hd,d1⟩,k⟩:=h;refine ⟨_,(aF (aQ (bV C_LLow hr (aA (aO dZ (aO bU (cS aM (pv 0) aD) (cS aM (pv 1) aD)) (aO bU (cS aM (pv 1) aD) (cS aM (pv 0) aD))) (aP (aO bU (cS aM (pv 0) aD) (cS aM (pv 1) aD))))))),?_⟩;replace ha:jR a:=ha;replace hb:jR b:=hb;replace hc:jR c:=hc;replace hd:jR d:=hd;replace b1:1<=b:=b1;replace d1:1<=d:=d1;have m1:=fN ha.1 ha.2 hd.1 hd.2;have m0:=fN hc.1 hc.2 hb.1 hb.2;have m2:=fN hb.1 hb.2 hd.1 hd.2;have m3:1<=b * d:=by have:=ow (show 0 < b by omega) (show 0 < d by omega);omega
 refine ⟨_,rfl,p,_,_,_,rfl,rfl,aV.of hp,qS a b,_,rfl,q,_,_,_,rfl,rfl,aV.of hq,nH c d,_,_,rfl,rfl,⟨ha.below,hd.below⟩,?_⟩;refine ⟨_,rfl,q,_,_,_,rfl,rfl,aV.of hq,qS c d,_,rfl,p,_,_,_,rfl,rfl,aV.of hp,nH a b,_,_,rfl,rfl,⟨hc.below,hb.below⟩,_,_,rfl,rfl,?_⟩;refine ⟨_,rfl,p,_,_,_,rfl,rfl,aV.of hp,nH a b,_,rfl,q,_,_,_,rfl,rfl,aV.of hq,nH c d,_,_,rfl,rfl,⟨hb.below,hd.below⟩,?_⟩;exact ⟨_,_,rfl,by omega,m3,vi m2.2 (by decide),k⟩
theorem aV5 (C_LLow:Cl P w K mg base 1 spLow "_law_lowest"):hU P w K mg base "_law_times" "_law_times" aZ8 2 ["_law_one","_law_other"] spTimes:=by
 refine jU ["_law_one","_law_other"] fun H Q nd hr h=>?_
 obtain ⟨p,q,a,b,c,d,rfl,hp,hq,ha,hb,hc,hd,b1,d1,k⟩:=h;refine ⟨_,(aF (aQ (bV C_LLow hr (aA (aO bU (cS aM (pv 0) aD) (cS aM (pv 1) aD)) (aP (aO bU (cS aM (pv 0) aD) (cS aM (pv 1) aD))))))),?_⟩;have m1:=fN ha.1 ha.2 hc.1 hc.2;have m2:=fN hb.1 hb.2 hd.1 hd.2;have m3:1<=b * d:=by have:=ow (show 0 < b by omega) (show 0 < d by omega);omega
 refine ⟨_,rfl,p,_,_,_,rfl,rfl,aV.of hp,qS a b,_,rfl,q,_,_,_,rfl,rfl,aV.of hq,qS c d,_,_,rfl,rfl,⟨ha.below,hc.below⟩,?_⟩;refine ⟨_,rfl,p,_,_,_,rfl,rfl,aV.of hp,nH a b,_,rfl,q,_,_,_,rfl,rfl,aV.of hq,nH c d,_,_,rfl,rfl,⟨hb.below,hd.below⟩,?_⟩;exact ⟨_,_,rfl,m1.1,m3,vi m2.2 (by decide),k⟩
theorem bB6  : hU P w K mg base "_law_below" "_law_below" bR5 1 ["_law_one","_law_other"] spLessF:=by
 refine jU ["_law_one","_law_other"] fun H Q nd hr h=>?_
 obtain ⟨p,q,a,b,c,d,rfl,hp,hq,ha,hb,hc,hd,k⟩:=h;refine ⟨_,(aF (aQ (pec nA (aO bU (cS aM (pv 0) aD) (cS aM (pv 1) aD)) (aO bU (cS aM (pv 1) aD) (cS aM (pv 0) aD))))),?_⟩;refine ⟨_,rfl,p,_,_,_,rfl,rfl,aV.of hp,qS _ _,_,rfl,q,_,_,_,rfl,rfl,aV.of hq,nH _ _,_,_,rfl,rfl,⟨ha.below,hd.below⟩,?_⟩;refine ⟨_,rfl,q,_,_,_,rfl,rfl,aV.of hq,qS _ _,_,rfl,p,_,_,_,rfl,rfl,aV.of hp,nH _ _,_,_,rfl,rfl,⟨hc.below,hb.below⟩,?_⟩;exact ⟨_,_,rfl,rfl,k⟩
theorem aX1 (C_Draw:Cl P w K mg base 1 spDraw "_law_draw") (m_range:mg "range"=none) (m_sorted:mg "sorted"=none) (m_tuple:mg "tuple"=none):hU P w K mg base "_law_pool" "_law_pool" aZ6 2 ["_law_deal_here","_law_many"] spPool:=by
 refine jU ["_law_deal_here","_law_many","_law_kind","_law_wide","_law_start","_law_found","_law_k","_law_thing"] fun H Q nd hr h=>?_
 obtain ⟨d,l,m,rfl,D,m1,m12,k⟩:=h;have hr1:bW 1 _:=hr.mono (by decide);refine ⟨_,(eJ 2 nd (bV C_Draw hr (aA (pv 0) (aP aD)))
  (aG (bN (gF nA (pv 2) aD) (eJ 3 nd (cS cN (dM (aA aD (aP (aO mC aD aD)))) (pv 2))
  (eJ 4 nd (bV C_Draw hr (aA (pv 0) (aP (aO iR aD (pv 3)))))
  (aF (aQ (cG ["_law_k","_law_start","_law_deal_here","_law_wide"] [none,some 4,some 0,some 3] (hV (by rfl) m_range (aP (pv 1))) (fun _ _ _ _=>(dR 0)) (fun _ _ _ _=>eB) (fun _ _ _ _=>(aO dZ (aO mR (aO iR (pv 3) (pv 0)) (pv 1)) (bV C_Draw hr (aA (pv 2) (aP (pv 3))))))))))) aS)
  (eJ 5 nd (dM fZ)
  (aG (pfr (hV (by rfl) m_range (aP (pv 1))) (dR 6 nd)
  (eJ 7 nd (qQ fI m_tuple nj (aP (cG ["_law_j","_law_deal_here"] [none,some 0] (hV (by rfl) m_range (aP (bV C_Draw hr (aA (pv 0) (aP aD))))) (fun _ _ _ _=>(dR 0)) (fun _ _ _ _=>eB) (fun _ _ _ _=>(bV C_Draw hr (aA (pv 1) (aP aD)))))))
  (aG (cZ (bN (gF (bB4 hr1) (pv 7) (pv 5)) (aF (psz 7 nd (aO aT3 (pv 7) (aX (aP (aO dZ aD (pv 6))))))) aS))
  (aF (gG (mT dq rf rg mH (pv 5) (aP (pv 7))))))))
  (aF (aQ (nU (xO hr1) m_sorted PyProof.Rows.boot_sorted (aP (pv 5))))))))),?_⟩
 refine ⟨_,rfl,d,l,3,rfl,D,by decide,by decide,fun kn H1 n0 n1 D1 o1=>?_⟩;refine ⟨_,rfl,_,_,rfl,rfl,_,rfl,?_⟩
 by_cases c:kn < 2
 ·refine cW (am c) ?_;refine ⟨_,_,rfl,rfl,⟨by decide,by decide,by decide⟩,cE,fun l0 hl0=>?_⟩;obtain ⟨wd,ha,w1,w2⟩:∃ wd,uJ [V.int 7,V.int (10 ^ (6:Int).toNat)] kn=some (.int wd)/\1<=wd/\wd<=1000000:=by
   have:kn=0\/kn=1:=by omega
   rcases this with rfl | rfl
   ·exact ⟨7,rfl,by decide,by decide⟩
   ·exact ⟨10 ^ (6:Int).toNat,rfl,by decide,by decide⟩
  refine ⟨_,rfl,l0,_,_,.int wd,rfl,rfl,bK.of aC,ha,?_⟩;have s2:=aB hl0 (.lst [V.int 7,V.int (10 ^ (6:Int).toNat)]);generalize aJ H1 l0 (.lst [V.int 7,V.int (10 ^ (6:Int).toNat)])=H2 at s2 ⊢;refine ⟨_,rfl,_,rfl,_,_,rfl,rfl,.inl ⟨by decide,by decide⟩,d,l,5 * wd,rfl,D1.same s2,by omega,by omega,fun st H3 st0 st1 D3 o3=>?_⟩;have oo:bP d l H H3:=o1.trans ((bP.of s2).trans o3);refine ⟨_,rfl,m,rfl,by omega,by omega,iE (n:=m.toNat) (fun i ys σ H4=>cD H4 d l/\bP d l H H4/\(∃ v,σ=[v,some (.int st),some (.ref d),some (.int wd)])/\∃ ns:List Int,ys=ns.map V.int/\ns.length=i/\ns.Pairwise (· < ·)/\∀ x∈ns,-5000000<=x/\x < wd * (i:Int) - st)
   (aK (by omega)) ⟨D3,oo,⟨_,rfl⟩,[],rfl,rfl,wz,fun _ z=>nomatch z⟩ (by rintro i ys σ H4 ⟨_,_,_,zs,e,e2,_⟩;rw [e,af];omega) ?_ ?_⟩
  ·rintro i ys σ H4 hi ⟨D4,o4,⟨v,rfl⟩,ns,rfl,hl,pw,bd⟩;have wi:0<=wd * (i:Int):=cv (by omega) (by omega);have e1:wd * (0+(i:Int))=wd * (i:Int):=by rw [vg]
   have e2:wd * ((i+1:Nat):Int)=wd * (i:Int)+wd:=by rw [Int.natCast_add,Int.mul_add];simp
   refine ⟨_,rfl,_,rfl,_,_,rfl,rfl,.inl ⟨by omega,by omega⟩,_,rfl,_,_,rfl,rfl,_,rfl,_,rfl,d,l,wd,rfl,D4,by omega,by omega,fun r H5 r0 r1 D5 o5=>⟨_,_,rfl,rfl,D5,o4.trans o5,⟨_,rfl⟩,ns++[wd * (0+(i:Int)) - st+r],by rw [bj];rfl,by rw [cb,hl];rfl,?_,fun x hx=>?_⟩⟩
   ·rw [List.pairwise_append];refine ⟨pw,ym _ _,fun x hx y hy=>?_⟩;have:y=wd * (0+(i:Int)) - st+r:=by simpa using hy
    have:=(bd x hx).2;omega
   ·rcases cf.mp hx with q | q
    ·have:=bd x q;omega
    ·have:x=wd * (0+(i:Int)) - st+r:=by simpa using q
     omega
  ·rintro ys σ H4 ⟨D4,o4,_,ns,rfl,hl,pw,bd⟩ l5 hl5;have s5:=aB hl5 (.lst (ns.map V.int));have wm:wd * (m.toNat:Int)<=1000000 * 12:=wa w2 (by omega) (by omega) (by decide);refine k false _ l5 _ (ns.map fun n=>[n]) ⟨aC,oP ns,?_,fun a ha=>?_,wV (pw.imp fun q=>qp q) (pw.imp fun q=>Int.ne_of_lt q)⟩ (by rw [af];exact hl) (cV D4 o4 hl5) (D4.same s5) (o4.trans (bP.of s5))
   ·have np:∀ x y:Int,x < y->([x]:List Int)≠[y]:=fun x y h z=>by
     have:x=y:=by simpa using z
     omega
    exact List.Pairwise.map (S:=fun a b:List Int=>a≠b) (fun n=>[n]) np pw
   ·obtain ⟨n,hn,rfl⟩:=ap.mp ha;have:=bd n hn;refine ⟨by simp,fun x hx=>?_⟩;have:x=n:=by simpa using hx
    subst this;exact ⟨by omega,by omega⟩
 ·refine cM (by simpa using c) ?_;refine ⟨bz _,fun lf hlf=>?_⟩;have DL0:=cL.new D1 hlf;have hlfH:H lf=none:=cV D1 o1 hlf;have oo:bP d l H (aJ H1 lf (.lst [])):=o1.trans (bP.of (aB hlf _));generalize aJ H1 lf (.lst [])=H2 at DL0 oo ⊢;refine ⟨_,rfl,m,rfl,by omega,by omega,rF (n:=m.toNat) (fun i σ H2=>∃ (us:List V) (as:List (List Int)) (v6 v7:Option V),σ=[some (.ref d),some (.int m),some (.int kn),none,none,some (.ref lf),v6,v7]/\cL H2 d l lf us/\bP d l H H2/\bX (dG true H2) us as/\as.length=i/\as.Nodup/\∀ a∈as,a.length<=4/\∀ n∈a,0<=n/\n < 3+(i:Int))
   ⟨[],[],_,_,rfl,DL0,oo,trivial,rfl,pb,fun _ z=>nomatch z⟩ ?_ ?_⟩
  ·rintro i σ H2 hi ⟨us,as,v6,v7,rfl,DL,o2,tw,al,nd,ok⟩;refine ⟨_,rfl,d,l,4,rfl,DL.deal,by decide,by decide,fun jm H3 j0 j1 D3 o3=>⟨jm,rfl,by omega,by omega,iE (n:=jm.toNat) (fun j ys σ H4=>cD H4 d l/\bP d l H2 H4/\(∃ v,σ=[v,some (.ref d)])/\∃ ns:List Int,ys=ns.map V.int/\ns.length=j/\∀ x∈ns,0<=x/\x < 3)
    (aK (by omega)) ⟨D3,o3,⟨_,rfl⟩,[],rfl,rfl,fun _ z=>nomatch z⟩ (by rintro i ys σ H4 ⟨_,_,_,zs,e,e2,_⟩;rw [e,af];omega) ?_ ?_⟩⟩
   ·rintro j ys σ H4 hj ⟨D4,o4,⟨v,rfl⟩,ns,rfl,hl,bd⟩;refine ⟨_,rfl,d,l,3,rfl,D4,by decide,by decide,fun r H5 r0 r1 D5 o5=>⟨D5,o4.trans o5,⟨_,rfl⟩,ns++[r],by rw [bj];rfl,by rw [cb,hl];rfl,fun x hx=>?_⟩⟩;rcases cf.mp hx with q | q
    ·exact bd x q
    ·have:x=r:=by simpa using q
     omega
   ·rintro ys σ H4 ⟨D4,o4,_,ns,rfl,hl,bd⟩ l5 hl5;refine ⟨l5,_,rfl,.inl ⟨bK.of aC,fun t8 ht8=>?_⟩⟩;have s6:=(aB hl5 (.lst (ns.map V.int))).trans (aB ht8 (.tup (ns.map V.int)));have h8:aJ (aJ H4 l5 (.lst (ns.map V.int))) t8 (.tup (ns.map V.int)) t8=some (.tup (ns.map V.int)):=aC;generalize aJ (aJ H4 l5 (.lst (ns.map V.int))) t8 (.tup (ns.map V.int))=H6 at s6 h8 ⊢;have DL8:=(DL.out D4 o4).same s6;have o8:=o2.trans (o4.trans (bP.of s6));have tw8:=tw.mono fun _ _ z=>dG.ts ((TS.out DL.deal o4).trans (.of s6)) z
    have nl:ns.length<=3:=by omega
    refine ⟨fun σ' G=>∃ (t:Addr) (ns:List Int) (v6:Option V),σ'=[some (.ref d),some (.int m),some (.int kn),none,none,some (.ref lf),v6,some (.ref t)]/\cL G d l lf us/\bP d l H G/\bX (dG true G) us as/\G t=some (.tup (ns.map V.int))/\ns∉as/\ns.length<=4/\∀ n∈ns,0<=n/\n < 3+((i+1:Nat):Int),?_,?_⟩
    ·refine ⟨_,rfl,_,rfl,as.map (cH true),cH true ns,qA DL8.lst tw8,eV (b:=true) ⟨t8,rfl,h8⟩,kO true as,wO ns,aF9 ns as,_,rfl,?_⟩
     by_cases c2:ns∈as
     ·refine cW (am ((pP ns as).mpr c2)) ?_;refine ⟨_,rfl,_,rfl,_,_,rfl,rfl,bQ9,fun t7 ht7=>?_⟩;obtain ⟨H7,e0,s7,h7⟩:=lay ht7 (.tup [.int (3+(0+(i:Int)))]);rw [e0];clear e0;replace DL8:=DL8.same s7;replace o8:=o8.trans (bP.of s7);replace tw8:=tw8.mono fun _ _ z=>dG.ts (.of s7) z
      have na:ns++[3+(0+(i:Int))]∉as:=fun z=>by
       have:=((ok _ z).2 (3+(0+(i:Int))) (cu _ au)).2;omega
      have okn:(ns++[3+(0+(i:Int))]).length<=4/\∀ n∈ns++[3+(0+(i:Int))],0<=n/\n < 3+((i+1:Nat):Int):=by
       refine ⟨by rw [cb];show ns.length+1<=4;omega,fun n hn=>?_⟩;rcases cf.mp hn with q | q
       ·have:=bd n q;omega
       ·have:n=3+(0+(i:Int)):=by simpa using q
        omega
      refine ⟨t8,t7,ns.map V.int,_,rfl,rfl,aV.of (s7 _ _ h8),aV.of h7,by simp,by show (ns.map V.int).length+1<=sizeLine;rw [af];exact my (aK (by omega)),fun z=>?_,fun z t9 ht9=>?_⟩
      ·have nn:ns=[]:=by cases ns with | nil=>rfl | cons _ _=>cases z
       exact ⟨t7,_,_,rfl,DL8,o8,tw8,by rw [nn];exact h7,na,okn⟩
      ·have s9:=aB ht9 (.tup (ns.map V.int++[.int (3+(0+(i:Int)))]));exact ⟨t9,_,_,rfl,DL8.same s9,o8.trans (bP.of s9),tw8.mono fun _ _ z=>dG.ts (.of s9) z,by rw [aC,bj];rfl,na,okn⟩
     ·exact cM (by simp only [decide_eq_true_eq];exact fun z=>c2 ((pP ns as).mp z)) ⟨t8,ns,_,rfl,DL8,o8,tw8,h8,c2,by omega,fun n hn=>by have:=bd n hn;omega⟩
    rintro σ' H9 ⟨t8,ns,v6,rfl,DL8,o8,tw8,h8,na,okn⟩;refine ⟨_,rfl,.inl ⟨rfl,_,bK.of DL8.lst⟩,_,rfl,lf,us,_,rfl,rfl,DL8.lst,aK (by rw [tw8.length];omega),?_⟩;refine ⟨us++[.ref t8],as++[ns],_,_,rfl,DL8.app _,fJ o8 hlfH,bX.append (tw8.mono fun _ _ z=>z.ts (TS.lst DL8.lst)) ⟨⟨t8,rfl,TS.lst DL8.lst _ _ h8⟩,trivial⟩,by rw [cb,al];rfl,kI nd na,fun a ha=>?_⟩;rcases cf.mp ha with q | q
    ·exact ⟨(ok a q).1,fun n hn=>by have:=(ok a q).2 n hn;omega⟩
    ·rw [bw.mp q];exact okn
  ·rintro σ H2 ⟨us,as,v6,v7,rfl,DL,o2,tw,al,nd,ok⟩;have ul:=tw.length;refine ⟨_,rfl,bN9 DL.lst nd (by omega) tw fun us' as' l3 pa up hl3 tw'=>?_⟩
   ·have s3:=aB hl3 (.lst us');refine k true _ l3 us' as' ⟨aC,tw',pa.nodup_iff.mpr nd,fun a ha=>?_,up⟩ (pa.length_eq.trans al) (cV DL.deal o2 hl3) (DL.deal.same s3) (o2.trans (bP.of s3));have:=ok a (pa.mem_iff.mp ha);exact ⟨by omega,fun n hn=>by have:=this.2 n hn;exact ⟨by omega,by omega⟩⟩
theorem bG7 (C_LLow:Cl P w K mg base 1 spLow "_law_lowest") (m_sum:mg "sum"=none) (m_tuple:mg "tuple"=none) (m_zip:mg "zip"=none):hU P w K mg base "_law_shares" "_law_shares" bP0 2 ["_law_answers","_law_weights"] spShares:=by
 refine jU ["_law_answers","_law_weights","_law_come"] fun H Q nd hr h=>?_
 obtain ⟨b,p,q,us,as,ws,rfl,Pl,hq,wl,w1,w12,wb,k⟩:=h;refine ⟨_,(eJ 2 nd (nU aO9 m_sum PyProof.Rows.boot_sum (aP (pv 1)))
  (aF (aQ (qQ fI m_tuple nj (aP (cG ["_law_answer","_law_heavy","_law_come"] [none,none,some 2] (aU7 (by rfl) m_zip (aA (pv 0) (aP (pv 1)))) (fun _ _ _ _=>(nG K (n:=2) rfl (aL (dR 0) (aL (dR 1) bG)))) (fun _ _ _ _=>eB) (fun _ _ _ _=>(aX (aA (pv 0) (aP (bV C_LLow hr (aA (pv 1) (aP (pv 2)))))))))))))),?_⟩
 have zo:=bD2 Pl.nd Pl.up Pl.ok wl w1 w12 wb;have ul:=Pl.tw.length;have sb:=yQ wb;have ln:(pB ws).length=as.length:=by unfold pB;rw [af];exact wl
 refine ⟨_,rfl,q,ws,rfl,bK.of hq,?_⟩;refine ⟨_,rfl,_,rfl,p,q,rfl,⟨_,bK.of Pl.h⟩,⟨_,bK.of hq⟩,aD7 (K:=K) (a:=p) (b:=q) (xs:=us) (ys:=ws.map V.int) (fun i zs σ H2=>aT H H2/\(∃ v1 v2,σ=[v1,v2,some (.int ws.sum)])/\bX (EnA b H2) zs ((as.zip (pB ws)).take i))
  (aK (by omega)) (by rw [af];omega) ⟨aT.refl _,⟨_,_,rfl⟩,trivial⟩ (by rintro i zs σ H2 ⟨_,_,e⟩;rw [e.length,cq];omega) (by rintro i zs σ H2 _ ⟨e,_⟩;exact ⟨bK.of (e _ _ Pl.h),bK.of (e _ _ hq)⟩) ?_ ?_⟩
 ·rintro i x y zs σ H2 t hx hy ⟨s2,⟨v1,v2,rfl⟩,tw⟩ ht;obtain ⟨a,ha,ax⟩:=Pl.tw.at hx;obtain ⟨w,rfl,hw⟩:=nI hy;have s3:=s2.trans (aB ht (.tup [x,.int w]));have h3:aJ H2 t (.tup [x,.int w]) t=some (.tup [x,.int w]):=aC;replace tw:=tw.mono fun _ _ z=>EnA.ts (.of (aB ht (.tup [x,.int w]))) z
  generalize aJ H2 t (.tup [x,.int w])=H3 at s3 h3 tw ⊢;have wm:=wb w (bo hw);refine ⟨t,_,rfl,aV.of h3,rfl,_,_,rfl,_,_,rfl,rfl,?_⟩;refine ⟨_,rfl,_,rfl,_,rfl,w,ws.sum,rfl,by omega,by omega,by omega,fun r hr'=>?_⟩;have s4:=aB hr' (.tup (eP w ws.sum));have h4:cC (aJ H3 r (.tup (eP w ws.sum))) r (aI w ws.sum).1 (aI w ws.sum).2:=aC;generalize aJ H3 r (.tup (eP w ws.sum))=H4 at s4 h4 ⊢;refine ⟨cE,fun t5 ht5=>⟨s3.trans (s4.trans (aB ht5 _)),⟨_,_,rfl⟩,?_⟩⟩;have s5:=aB ht5 (.tup [x,.ref r]);have hz:(as.zip (pB ws))[i]?=some (a,aI w ws.sum):=(xk (z:=(a,aI w ws.sum))).mpr ⟨ha,by unfold pB;rw [bf,hw];rfl⟩;rw [aU hz];exact bX.append (tw.mono fun _ _ z=>EnA.ts (.of (s4.trans s5)) z) ⟨⟨t5,x,r,rfl,aC,ax.ts (.of (s3.trans (s4.trans s5))),s5 _ _ h4⟩,trivial⟩
 ·rintro zs σ H2 ⟨s2,_,tw⟩ l3 hl3;have zl:(as.zip (pB ws)).length=us.length:=by rw [List.length_zip];omega
  rw [<- zl,be] at tw;have s3:=aB hl3 (.lst zs);refine ⟨l3,zs,rfl,.inl ⟨bK.of aC,fun t4 ht4=>?_⟩⟩;have s4:=aB ht4 (.tup zs) (H:=aJ H2 l3 (.lst zs));exact k _ t4 _ _ (s2.trans (s3.trans s4)) ⟨zs,aC,tw.mono fun _ _ z=>EnA.ts (.of (s3.trans s4)) z⟩ zo
theorem bE0 (C_Draw:Cl P w K mg base 1 spDraw "_law_draw") (C_Shs:Cl P w K mg base 2 spShares "_law_shares") (m_range:mg "range"=none) (m_list:mg "list"=none) (m_len:mg "len"=none):hU P w K mg base "_law_two" "_law_two" bQ6 3 ["_law_deal_here","_law_pool_here","_law_wide"] spTwo:=by
 refine jU ["_law_deal_here","_law_pool_here","_law_wide","_law_tables","_law_turn","_law_answers","_law_way","_law_weights","_law_at"] fun H Q nd hr h=>?_
 obtain ⟨d,l,r,wide,b,us,as,rfl,D,Pl,nl,a1,a12,w1,w2,k⟩:=h;have hr1:bW 1 _:=hr.mono (by decide);refine ⟨_,(eJ 3 nd (dM fZ)
  (aG (pfr (hV (by rfl) m_range (aP aD)) (dR 4 nd)
  (aG (jK ["_law_answer","_law_deal_here"] [none,some 0] (i:=5) nd rfl (jt rfl) (gP (pv 1)) (fun _ _ _ _=>(dR 0)) (fun _ _ _ _=>(iZ (gF iM (bV C_Draw hr (aA (pv 1) (aP aD))) aD))) (fun _ _ _ _=>(pv 0)))
  (aG (cZ (bN (gF (yV hr1) (pv 5) (dM fZ)) (aF (psz 5 nd (dM (aP (cS cN (pv 1) (bV C_Draw hr (aA (pv 0) (aP (nU bJ m_len fh (aP (pv 1))))))))))) aS))
  (aF (gG (mT dq rf rg mH (pv 3) (aP (aX (aA (pv 5) (aP (cG ["_law_answer","_law_deal_here","_law_wide"] [none,some 0,some 2] (gP (pv 5)) (fun _ _ _ _=>(dR 0)) (fun _ _ _ _=>eB) (fun _ _ _ _=>(aO dZ aD (bV C_Draw hr (aA (pv 1) (aP (pv 2)))))))))))))))))
  (eJ 6 nd (bV C_Draw hr (aA (pv 0) (aP aD)))
  (aG (cZ (bN (gF nA (pv 6) aD) (aG (yO (i:=5) (j:=7) rfl nd rfl rfl (by decide) rfl rfl (aA (qQ fQ m_list gz (aP (cS aM (cS cN (pv 3) aD) aD))) (aP (qQ fQ m_list gz (aP (cS aM (cS cN (pv 3) aD) aD))))) rfl)
  (eJ 8 nd (bV C_Draw hr (aA (pv 0) (aP (nU bJ m_len fh (aP (pv 5))))))
  (aG (cZ (bN (gF dW (pv 6) aD) (aF (jZ (aO dZ aD (bV C_Draw hr (aA (pv 0) (aP (pv 2))))) (aL9 (pv 7) (pv 8) uS))) aS))
  (aG (cZ (bN (PW.pt (kB (gF dW (pv 6) aD) (iI (gF iM (nU bJ m_len fh (aP (pv 5))) aD)))) (aG (gG (mT dq pi pj pS (pv 5) (aP (pv 8))))
  (aF (gG (mT dq pi pj pS (pv 7) (aP (pv 8)))))) aS))
  (aF (jZ (aX (aA (pv 5) (aP (pv 7)))) (aL9 (pv 3) aD uS))))))) aS))
  (aG (jK ["_law_answers","_law_weights"] [none,none] (i:=3) nd rfl (jt rfl) (gP (pv 3)) (fun _ _ _ _=>(nG K (n:=2) rfl (aL (dR 0) (aL (dR 1) bG)))) (fun _ _ _ _=>eB) (fun _ _ _ _=>(bV C_Shs hr (aA (pv 0) (aP (pv 1))))))
  (aF (aQ (cS cN (dM (aA (pv 3) (aP (dM (aA (cS cN (pv 3) aD) (aP (cS cN (pv 3) aD))))))) (bV C_Draw hr (aA (pv 0) (aP aD))))))))))),?_⟩
 have pl0:=Pl.tw.length;refine ⟨bz _,fun lf hlf=>?_⟩;have DL0:=cL.new D hlf;have hlfH:=hlf;have nlf:r≠lf:=aH Pl.h hlf;have oo:bP d l H (aJ H lf (.lst [])):=bP.of (aB hlf _);generalize aJ H lf (.lst [])=H1 at DL0 oo ⊢;refine ⟨2,rfl,by decide,by decide,rF (n:=2) (fun i σ H2=>∃ (vs:List V) (v4 v5:Option V),σ=[some (.ref d),some (.ref r),some (.int wide),some (.ref lf),v4,v5,none,none,none]/\cL H2 d l lf vs/\bP d l H H2/\vs.length=i/\∀ v∈vs,cO b H2 [l,lf] v)
  ⟨[],_,_,rfl,DL0,oo,rfl,fun _ z=>nomatch z⟩ ?_ ?_⟩
 ·rintro i σ H2 hi ⟨vs,v4,v5,rfl,DL,o2,vl,PV⟩;have P2:=Pl.out D nl o2;refine ⟨_,rfl,r,rfl,⟨_,bK.of P2.h⟩,hE (K:=K) (a:=r) (xs:=us) (fun j zs σ H4=>cD H4 d l/\bP d l H2 H4/\(∃ v,σ=[v,some (.ref d)])/\∃ bs,bX (dG b H4) zs bs/\bs.Sublist (as.take j))
   (aK (by omega)) ⟨DL.deal,bP.refl _,⟨_,rfl⟩,[],trivial,List.Sublist.refl _⟩ (fun j zs σ H4 ⟨_,_,_,bs,e,e2⟩=>by
    have:=e2.length_le;rw [cq] at this;rw [e.length];omega) (by rintro j zs σ H4 _ ⟨D4,o4,_⟩;exact bK.of (P2.out DL.deal nl o4).h) ?_ ?_⟩
  ·rintro j v zs σ H4 hv ⟨D4,o4,⟨v',rfl⟩,bs,twb,sl⟩;obtain ⟨a,ha,av⟩:=P2.tw.at hv;refine ⟨_,rfl,d,l,4,rfl,D4,by decide,by decide,fun x H5 x0 x1 D5 o5=>⟨_,_,rfl,rfl,_,rfl,?_⟩⟩;rw [aU ha]
   by_cases c:0 < x
   ·refine cW (am c) ⟨_,rfl,D5,o4.trans o5,⟨_,rfl⟩,bs++[a],?_,sl.append (List.Sublist.refl _)⟩;exact bX.append (twb.mono fun _ _ z=>z.ts (TS.out D4 o5)) ⟨av.ts (TS.out DL.deal (o4.trans o5)),trivial⟩
   ·exact cM (by simpa using c) ⟨D5,o4.trans o5,⟨_,rfl⟩,bs,twb.mono fun _ _ z=>z.ts (TS.out D4 o5),sl.trans (List.sublist_append_left _ _)⟩
  ·rintro zs σ H4 ⟨D4,o4,_,bs,twb,sl⟩ la hla;rw [pl0,be] at sl;have n4:=bE D4 hla;have n4f:la≠lf:=(aH (DL.out D4 o4).lst hla).symm;obtain ⟨H5,e0,s5,h5⟩:=lay hla (.lst zs);rw [e0];clear e0;refine ⟨fun σ' G=>∃ (la:Addr) (zs:List V) (bs:List (List Int)) (v4:Option V),σ'=[some (.ref d),some (.ref r),some (.int wide),some (.ref lf),v4,some (.ref la),none,none,none]/\gN b G la zs bs/\la≠l/\la≠lf/\1<=bs.length/\bs.length<=12/\cL G d l lf vs/\bP d l H G/\∀ v∈vs,cO b G [l,lf] v,?_,?_⟩
   ·refine ⟨_,rfl,bz _,fun l6 hl6=>?_⟩;obtain ⟨H6,e0,s6,h6⟩:=lay hl6 (.lst []);rw [e0];clear e0;have tb6:=twb.mono fun _ _ z=>dG.ts (.of (s5.trans s6)) z
    have D6:=D4.same (s5.trans s6);have o6:=o4.trans (bP.of (s5.trans s6));refine ⟨.list (bs.map (cH b)),.list [],qA (s6 _ _ h5) tb6,⟨l6,[],rfl,bK.of h6,rfl⟩,kO b bs,iG,jC,_,rfl,?_⟩
    by_cases c:bs=[]
    ·refine cW (by show Spec.same _ _=true;rw [iA];exact am (by rw [c];rfl)) ?_;have P6:=P2.out DL.deal nl o6;refine ⟨_,rfl,_,rfl,_,rfl,r,us,rfl,.inl (bK.of P6.h),d,l,us.length,rfl,D6,by omega,by omega,fun x H7 x0 x1 D7 o7=>?_⟩;have P7':=P6.out D6 nl o7;have xl:x.toNat < us.length:=by omega
     obtain ⟨a,ha,av⟩:=P7'.tw.at (aj xl);refine ⟨r,us,_,us[x.toNat],rfl,rfl,bK.of P7'.h,(by have h:=lJ (aj xl);rwa [show ((x.toNat:Nat):Int)=x by omega] at h),bQ9,fun la hla=>?_⟩;have s8:=aB hla (.lst [us[x.toNat]]);have oo8:=o6.trans (o7.trans (bP.of s8));exact ⟨la,_,[a],_,rfl,⟨aC,⟨av.ts (.of s8),trivial⟩,by simp,fun y hy=>by rw [List.mem_singleton.mp hy];exact Pl.ok _ (bo ha),ym _ _⟩,(bE D7 hla).2,(aH (DL.out D7 (o6.trans o7)).lst hla).symm,by simp,by simp,DL.out (D7.same s8) oo8,o2.trans oo8,fun v hv=>(PV v hv).out DL.deal (by simp) oo8⟩
    ·have b2:=sl.length_le;exact cM (by show ¬ Spec.same _ _=true;rw [iA];simp [c]) ⟨la,zs,bs,_,rfl,⟨s6 _ _ h5,tb6,Pl.nd.sublist sl,fun y hy=>Pl.ok _ (sl.subset hy),ph sl Pl.up⟩,n4.2,n4f,by cases bs with | nil=>exact absurd rfl c | cons _ _=>simp,by omega,DL.out D6 o6,o2.trans o6,fun v hv=>(PV v hv).out DL.deal (by simp) o6⟩
   ·rintro σ' H7 ⟨la,zs,bs,v4,rfl,P7,nal,naf,bl1,bl2,DL7,o7,PV7⟩;have zl7:=P7.tw.length;refine ⟨_,rfl,.inl ⟨rfl,_,bK.of DL7.lst⟩,_,rfl,_,rfl,la,rfl,⟨_,bK.of P7.h⟩,hE (K:=K) (a:=la) (xs:=zs) (fun j ys σ H8=>cD H8 d l/\bP d l H7 H8/\(∃ v,σ=[v,some (.ref d),some (.int wide)])/\∃ ws:List Int,ys=ws.map V.int/\ws.length=j/\∀ w∈ws,1<=w/\w<=10 ^ 10)
     (aK (by omega)) ⟨DL7.deal,bP.refl _,⟨_,rfl⟩,[],rfl,rfl,fun _ z=>nomatch z⟩ (by rintro j ys σ H8 ⟨_,_,_,ws,e,e2,_⟩;rw [e,af];omega) (by rintro j ys σ H8 _ ⟨_,o8,_⟩;exact bK.of (P7.out DL7.deal nal o8).h) ?_ ?_⟩
    ·rintro j v ys σ H8 hv ⟨D8,o8,⟨v',rfl⟩,ws,rfl,hl,hw⟩;refine ⟨_,rfl,_,rfl,d,l,wide,rfl,D8,by omega,by omega,fun x H9 x0 x1 D9 o9=>⟨_,_,rfl,rfl,D9,o8.trans o9,⟨_,rfl⟩,ws++[1+x],by rw [bj];rfl,by rw [cb,hl];rfl,fun w hw'=>?_⟩⟩;rcases cf.mp hw' with q | q
     ·exact hw w q
     ·have:w=1+x:=by simpa using q
      omega
    ·rintro ys σ H8 ⟨D8,o8,_,ws,rfl,hl,hw⟩ lw hlw;have P8:=P7.out DL7.deal nal o8;have DL8:=DL7.out D8 o8;have nw:=bE D8 hlw;have nw2:lw≠lf:=(aH DL8.lst hlw).symm;obtain ⟨H9,e0,s9,h9⟩:=lay hlw (.lst (ws.map V.int));rw [e0];clear e0;refine ⟨cE,fun t ht=>?_⟩;have s10:=aB ht (.tup [.ref la,.ref lw]);have P10:mD b (aJ H9 t (.tup [.ref la,.ref lw])) [l,lf] t la lw zs bs ws:=⟨aC,P8.same (s9.trans s10),s10 _ _ h9,by omega,by omega,by omega,hw,by simp [nal,naf],by simp [nw.2,nw2]⟩
     generalize aJ H9 t (.tup [.ref la,.ref lw])=H10 at s10 P10 ⊢;have DL10:=DL8.same (s9.trans s10);have o10:=o7.trans (o8.trans (bP.of (s9.trans s10)));refine ⟨lf,vs,_,rfl,rfl,DL10.lst,aK (by omega),?_⟩;refine ⟨vs++[.ref t],_,_,rfl,DL10.app _,fJ o10 hlfH,by rw [cb,vl];rfl,fun v hv=>?_⟩;rcases cf.mp hv with q | q
     ·exact (((PV7 v q).out DL7.deal (by simp) o8).same (s9.trans s10)).lst (by simp) DL10.lst
     ·have q:v= .ref t:=by simpa using q
      rw [q];exact cO.lst ⟨t,la,lw,_,_,ws,rfl,P10⟩ (by simp) DL10.lst
 ·rintro σ H2 ⟨vs,v4,v5,rfl,DL,o2,vl,PV⟩;obtain ⟨p1,p2,rfl⟩:=bO0 vl;refine ⟨_,rfl,d,l,6,rfl,DL.deal,by decide,by decide,fun wy H3 y0 y1 D3 o3=>?_⟩;have DL3:=DL.out D3 o3;have oH3:=o2.trans o3;have PV3:∀ v∈[p1,p2],cO b H3 [l,lf] v:=fun v hv=>(PV v hv).out DL.deal (by simp) o3
  refine ⟨fun σ' G=>∃ (p1 p2:V) (v4 v5 v7 v8:Option V),σ'=[some (.ref d),some (.ref r),some (.int wide),some (.ref lf),v4,v5,some (.int wy),v7,v8]/\cL G d l lf [p1,p2]/\bP d l H G/\∀ v∈[p1,p2],cO b G [l,lf] v,?_,?_⟩
  ·refine ⟨_,rfl,_,_,rfl,rfl,_,rfl,?_⟩
   by_cases c:wy < 3
   ·refine cW (am c) ?_;obtain ⟨t1,pa,pw,us1,as1,ws1,rfl,A1⟩:=PV3 p1 (by simp);refine ⟨_,rfl,lf,_,_,.ref t1,rfl,rfl,bK.of DL3.lst,rfl,t1,_,_,.ref pa,rfl,rfl,aV.of A1.h,rfl,pa,us1,rfl,.inl (bK.of A1.pl.h),fun la hla=>?_⟩;have na0:=bE D3 hla;have na1:la≠lf:=(aH DL3.lst hla).symm;obtain ⟨H4,e0,s4,h4⟩:=lay hla (.lst us1);rw [e0];clear e0;refine ⟨_,rfl,lf,_,_,.ref t1,rfl,rfl,bK.of (s4 _ _ DL3.lst),rfl,t1,_,_,.ref pw,rfl,rfl,aV.of (s4 _ _ A1.h),rfl,pw,_,rfl,.inl (bK.of (s4 _ _ A1.hw)),fun lw hlw=>⟨_,_,rfl,?_⟩⟩;have nw0:=bE (D3.same s4) hlw;have nw1:lw≠lf:=(aH (s4 _ _ DL3.lst) hlw).symm;have nwa:lw≠la:=(aH h4 hlw).symm;have s5:=aB hlw (.lst (ws1.map V.int));have h5:aJ H4 lw (.lst (ws1.map V.int)) lw=some (.lst (ws1.map V.int)):=aC;have PV5:∀ v∈[V.ref t1,p2],cO b (aJ H4 lw (.lst (ws1.map V.int))) [lw,la,l,lf] v:=fun v hv=>(((((PV3 v hv).more hla).same s4).more hlw).same s5)
    generalize aJ H4 lw (.lst (ws1.map V.int))=H5 at s5 h5 PV5 ⊢;have u1:=A1.pl.tw.length;have q1:=A1.wl;have q2:=A1.w1;have q3:=A1.w12;have D5:=D3.same (s4.trans s5);refine ⟨_,rfl,_,rfl,la,us1,rfl,.inl (bK.of (s5 _ _ h4)),d,l,us1.length,rfl,D5,by omega,by omega,fun at' H6 a0 a1 D6 o6=>?_⟩;have PV6:∀ v∈[V.ref t1,p2],cO b H6 [lw,la,l,lf] v:=fun v hv=>(PV5 v hv).out D5 (by simp) o6
    have DL6:=(DL3.same (s4.trans s5)).out D6 o6;have oH6:=oH3.trans ((bP.of (s4.trans s5)).trans o6);have h6a:=o6 _ _ (s5 _ _ h4) na0.1 na0.2;have h6w:=o6 _ _ h5 nw0.1 nw0.2;have t6:=(TS.of (s4.trans s5)).trans (TS.out D5 o6);have tw6:=A1.pl.tw.mono fun _ _ z=>dG.ts t6 z
    have nam:la∉[l,lf]:=by simp [na0.2,na1]
    have nwm:lw∉[l,lf]:=by simp [nw0.2,nw1]
    have laH:H la=none:=cV D3 oH3 hla;have lwH:H lw=none:=cV (D3.same s4) (oH3.trans (bP.of s4)) hlw;have sub:∀ x∈[l,lf],x∈[lw,la,l,lf]:=fun x hx=>ba _ (ba _ hx)
    refine ⟨fun σ' G=>∃ (zs:List V) (bs:List (List Int)) (ws:List Int) (v4:Option V),σ'=[some (.ref d),some (.ref r),some (.int wide),some (.ref lf),v4,some (.ref la),some (.int wy),some (.ref lw),some (.int at')]/\gN b G la zs bs/\G lw=some (.lst (ws.map V.int))/\ws.length=bs.length/\bs.length=as1.length/\(∀ w∈ws,1<=w/\w<=10 ^ 10)/\cL G d l lf [.ref t1,p2]/\bP d l H G/\∀ v∈[V.ref t1,p2],cO b G [lw,la,l,lf] v,?_,?_⟩
    ·refine ⟨_,rfl,rfl,_,rfl,fH (fun c1=>?_) (fun _=>⟨us1,as1,ws1,_,rfl,⟨h6a,tw6,A1.pl.nd,A1.pl.ok,A1.pl.up⟩,h6w,q1,rfl,A1.wb,DL6,oH6,PV6⟩)⟩;refine ⟨_,rfl,_,rfl,d,l,wide,rfl,D6,by omega,by omega,fun x H7 x0 x1 D7 o7=>⟨_,_,rfl,rfl,_,rfl,_,rfl,lw,_,at',at'.toNat,rfl,rfl,o7 _ _ h6w nw0.1 nw0.2,by rw [af];unfold ixN;rw [bb a0,bb (by omega)],?_⟩⟩;have g7:=o7 _ _ h6w nw0.1 nw0.2;have DL7:=DL6.out D7 o7;have ts7:=(TS.out D6 o7).trans (TS.lst (ys:=(ws1.map V.int).set at'.toNat (.int (1+x))) g7);exact ⟨us1,as1,ws1.set at'.toNat (1+x),_,rfl,⟨by rw [aE nwa.symm];exact o7 _ _ h6a na0.1 na0.2,tw6.mono fun _ _ z=>dG.ts ts7 z,A1.pl.nd,A1.pl.ok,A1.pl.up⟩,by rw [aC,List.map_set],by rw [List.length_set];exact q1,rfl,fun w hw=>(aI2 hw).elim (A1.wb w) fun q=>by omega,⟨qE DL7.deal g7 nw0.2,DL7.ne,by rw [aE nw1.symm];exact DL7.lst⟩,fJ (oH6.trans o7) lwH,fun v hv=>((PV6 v hv).out D6 (by simp) o7).lst (by simp) g7⟩
    rintro σ' H7 ⟨zs,bs,ws,v4',rfl,P7,g7w,l7,l7b,wb7,DL7,o7,PV7⟩;have z7:=P7.tw.length;refine ⟨fun σ' G=>∃ (zs:List V) (bs:List (List Int)) (ws:List Int) (v4:Option V),σ'=[some (.ref d),some (.ref r),some (.int wide),some (.ref lf),v4,some (.ref la),some (.int wy),some (.ref lw),some (.int at')]/\gN b G la zs bs/\G lw=some (.lst (ws.map V.int))/\ws.length=bs.length/\1<=ws.length/\ws.length<=12/\(∀ w∈ws,1<=w/\w<=10 ^ 10)/\cL G d l lf [.ref t1,p2]/\bP d l H G/\∀ v∈[V.ref t1,p2],cO b G [lw,la,l,lf] v,?_,?_⟩
    ·have no:∃ (zs:List V) (bs:List (List Int)) (ws:List Int) (v4:Option V),[some (.ref d),some (.ref r),some (.int wide),some (.ref lf),v4',some (.ref la),some (.int wy),some (.ref lw),some (.int at')]=[some (.ref d),some (.ref r),some (.int wide),some (.ref lf),v4,some (.ref la),some (.int wy),some (.ref lw),some (.int at')]/\gN b H7 la zs bs/\H7 lw=some (.lst (ws.map V.int))/\ws.length=bs.length/\1<=ws.length/\ws.length<=12/\(∀ w∈ws,1<=w/\w<=10 ^ 10)/\cL H7 d l lf [.ref t1,p2]/\bP d l H H7/\∀ v∈[V.ref t1,p2],cO b H7 [lw,la,l,lf] v:=⟨zs,bs,ws,_,rfl,P7,g7w,l7,by omega,by omega,wb7,DL7,o7,PV7⟩
     refine ⟨_,rfl,rfl,_,rfl,fH (fun c2=>?_) (fun _=>cM (by decide) no)⟩;refine ⟨_,rfl,la,zs,rfl,.inl (bK.of P7.h),_,_,rfl,rfl,_,rfl,fH (fun c3=>?_) (fun _=>no)⟩;have c3:(1:Int) < zs.length:=bc c3;have ai:at'.toNat < zs.length:=by omega
     have si:seqIndex? at' zs.length=some at'.toNat:=(lC (by unfold ixN;rw [bb a0,bb (by omega)])).1;have si2:seqIndex? at' (ws.map V.int).length=some at'.toNat:=(lC (by rw [af];unfold ixN;rw [bb a0,bb (by omega)])).1;refine ⟨_,rfl,.inl ⟨rfl,_,bK.of P7.h⟩,_,rfl,la,zs,at',at'.toNat,zs[at'.toNat],rfl,rfl,P7.h,by omega,by omega,si,aj ai,?_⟩;have t7:=TS.lst (ys:=zs.eraseIdx at'.toNat) P7.h;have PV8:∀ v∈[V.ref t1,p2],cO b (aJ H7 la (.lst (zs.eraseIdx at'.toNat))) [lw,la,l,lf] v:=fun v hv=>(PV7 v hv).lst (by simp) P7.h
     have DL8:cL (aJ H7 la (.lst (zs.eraseIdx at'.toNat))) d l lf [.ref t1,p2]:=⟨qE DL7.deal P7.h na0.2,DL7.ne,by rw [aE na1.symm];exact DL7.lst⟩
     have o8:=fJ (o:= .lst (zs.eraseIdx at'.toNat)) o7 laH;have h8a:aJ H7 la (.lst (zs.eraseIdx at'.toNat)) la=some (.lst (zs.eraseIdx at'.toNat)):=aC;have h8w:aJ H7 la (.lst (zs.eraseIdx at'.toNat)) lw=some (.lst (ws.map V.int)):=by rw [aE nwa];exact g7w
     have tw8:=mS at'.toNat (P7.tw.mono fun _ _ z=>dG.ts t7 z);generalize aJ H7 la (.lst (zs.eraseIdx at'.toNat))=H8 at PV8 DL8 o8 h8a h8w tw8 ⊢;have aw:at'.toNat < (ws.map V.int).length:=by rw [af];omega
     refine ⟨_,rfl,.inl ⟨rfl,_,bK.of h8w⟩,_,rfl,lw,ws.map V.int,at',at'.toNat,(ws.map V.int)[at'.toNat],rfl,rfl,h8w,by omega,by omega,si2,aj aw,?_⟩;have t8:=TS.lst (ys:=(ws.map V.int).eraseIdx at'.toNat) h8w;have e1:(ws.eraseIdx at'.toNat).length=ws.length - 1:=wx (by omega);have e2:(bs.eraseIdx at'.toNat).length=bs.length - 1:=wx (by omega);exact ⟨_,bs.eraseIdx at'.toNat,ws.eraseIdx at'.toNat,_,rfl,⟨by rw [aE nwa.symm];exact h8a,tw8.mono fun _ _ z=>dG.ts t8 z,P7.nd.sublist (cw _ _),fun y hy=>P7.ok _ ((cw _ _).subset hy),ph (cw _ _) P7.up⟩,by rw [aC,rA],by omega,by omega,by omega,fun w hw=>wb7 w ((cw _ _).subset hw),⟨qE DL8.deal h8w nw0.2,DL8.ne,by rw [aE nw1.symm];exact DL8.lst⟩,fJ o8 lwH,fun v hv=>(PV8 v hv).lst (by simp) h8w⟩
    rintro σ' Hm ⟨zm,bm,wm,v4',rfl,PLm,hwm,wl,w1,w12,wb,DLm,om,PVm'⟩;have PVm:=fun v hv=>(PVm' v hv).less sub
    refine ⟨_,rfl,_,rfl,cE,fun t9 ht9=>?_⟩;have s9:=aB ht9 (.tup [.ref la,.ref lw]);have PT:mD b (aJ Hm t9 (.tup [.ref la,.ref lw])) [l,lf] t9 la lw zm bm wm:=⟨aC,PLm.same s9,s9 _ _ hwm,wl,w1,w12,wb,nam,nwm⟩
    generalize aJ Hm t9 (.tup [.ref la,.ref lw])=H9 at s9 PT ⊢;refine ⟨_,rfl,lf,_,1,1,rfl,rfl,s9 _ _ DLm.lst,rfl,.ref t1,.ref t9,_,_,_,_,rfl,(DLm.same s9).app _,fJ (om.trans (bP.of s9)) hlfH,fun v hv=>?_⟩;rcases bi.mp hv with q | q
    ·rw [q];exact ((PVm (.ref t1) au).same s9).lst (by simp) (s9 _ _ DLm.lst)
    ·rw [bw.mp q];exact cO.lst ⟨t9,la,lw,zm,bm,wm,rfl,PT⟩ (by simp) (s9 _ _ DLm.lst)
   ·exact cM (by simpa using c) ⟨p1,p2,_,_,_,_,rfl,DL3,oH3,PV3⟩
  rintro σ' H9 ⟨p1,p2,v4,v5,v7,v8,rfl,DLf,of,PVf⟩;refine ⟨_,rfl,lf,rfl,⟨_,bK.of DLf.lst⟩,hE (K:=K) (a:=lf) (xs:=[p1,p2]) (fun j zs σ H11=>aT H9 H11/\(∃ x y,σ=[x,y])/\oR b H11 zs/\zs.length=j)
   (aK (by show 2<=1000;decide)) ⟨aT.refl _,⟨_,_,rfl⟩,fun _ z=>absurd z bh,rfl⟩ (by rintro j zs σ H11 ⟨_,_,_,e⟩;omega) (by rintro j zs σ H11 _ ⟨e,_⟩;exact bK.of (e _ _ DLf.lst)) ?_ ?_⟩
  ·rintro j v zs σ H11 hv ⟨s11,⟨x,y,rfl⟩,T11,zl⟩;obtain ⟨t,pa,pw,us,as,ws,rfl,PA⟩:=PVf v (bo hv);have PB:=PA.same s11;refine ⟨t,_,rfl,aV.of PB.h,rfl,_,_,rfl,_,_,rfl,rfl,?_⟩;exact ⟨_,rfl,_,rfl,b,pa,pw,us,as,ws,rfl,PB.pl,PB.hw,PB.wl,PB.w1,PB.w12,PB.wb,fun H12 t12 es c s12 ht12 ok12=>⟨s11.trans s12,⟨_,_,rfl⟩,(T11.ts (.of s12)).snoc ht12 ok12,by rw [cb,zl];rfl⟩⟩
  ·rintro zs σ H11 ⟨s11,_,T11,zl⟩ l5 hl5;obtain ⟨z1,z2,rfl⟩:=bO0 zl;obtain ⟨ta,es1,c1,rfl,ha,oa⟩:=T11 z1 (by simp);obtain ⟨tb,es2,c2,rfl,hb,ob⟩:=T11 z2 (by simp);have s5:=aB hl5 (.lst [.ref ta,.ref tb]);have h5:aJ H11 l5 (.lst [.ref ta,.ref tb]) l5=some (.lst [.ref ta,.ref tb]):=aC;have n5:=bE (DLf.deal.same s11) hl5;generalize aJ H11 l5 (.lst [.ref ta,.ref tb])=H12 at s5 h5 ⊢;refine ⟨_,rfl,_,rfl,l5,_,_,.ref tb,rfl,rfl,bK.of h5,rfl,_,rfl,l5,_,_,.ref ta,rfl,rfl,bK.of h5,rfl,cE,fun l6 hl6=>?_⟩;have s6:=aB hl6 (.lst [.ref tb,.ref ta]);have h6:aJ H12 l6 (.lst [.ref tb,.ref ta]) l6=some (.lst [.ref tb,.ref ta]):=aC;have n6:=bE (DLf.deal.same (s11.trans s5)) hl6;generalize aJ H12 l6 (.lst [.ref tb,.ref ta])=H13 at s6 h6 ⊢;refine ⟨cE,fun l7 hl7=>?_⟩;have s7:=aB hl7 (.lst [.ref l5,.ref l6]);have h7:aJ H13 l7 (.lst [.ref l5,.ref l6]) l7=some (.lst [.ref l5,.ref l6]):=aC;have n7:=bE (DLf.deal.same (s11.trans (s5.trans s6))) hl7
   generalize aJ H13 l7 (.lst [.ref l5,.ref l6])=H14 at s7 h7 ⊢;have s14:=s5.trans (s6.trans s7);have D14:=DLf.deal.same (s11.trans s14);refine ⟨_,rfl,d,l,2,rfl,D14,by decide,by decide,fun x H15 x0 x1 D15 o15=>?_⟩;have oE:bP d l H H15:=of.trans ((bP.of (s11.trans s14)).trans o15);have tE:=(TS.of s14).trans (TS.out D14 o15);have e7:=o15 _ _ h7 n7.1 n7.2;have e5:=o15 _ _ ((s6.trans s7) _ _ h5) n5.1 n5.2;have e6:=o15 _ _ (s7 _ _ h6) n6.1 n6.2;have hx:x=0\/x=1:=by omega
   rcases hx with rfl | rfl
   ·exact ⟨l7,_,_,.ref l5,rfl,rfl,bK.of e7,rfl,k _ l5 ta tb es1 es2 c1 c2 e5 (ha.ts tE) (hb.ts tE) oa ob D15 oE⟩
   ·exact ⟨l7,_,_,.ref l6,rfl,rfl,bK.of e7,rfl,k _ l6 tb ta es2 es1 c2 c1 e6 (hb.ts tE) (ha.ts tE) ob oa D15 oE⟩
theorem bE8 (C_LLow:Cl P w K mg base 1 spLow "_law_lowest") (C_Draw:Cl P w K mg base 1 spDraw "_law_draw") (m_dict:mg "dict"=none) (m_max:mg "max"=none) (m_len:mg "len"=none):hU P w K mg base "_law_factor" "_law_factor" bQ8 2 ["_law_deal_here","_law_one","_law_other"] spFac:=by
 refine jU ["_law_deal_here","_law_one","_law_other","_law_shares_here","_law_some_here","_law_here","_law_there","_law_found"] fun H Q nd hr h=>?_
 obtain ⟨d,l,b,t1,t2,c1,c2,es1,es2,rfl,D,⟨us1,h1,tw1⟩,⟨us2,h2,tw2⟩,o1,o2,k⟩:=h;have hu:=iU hr;have hr1:bW 1 _:=hr.mono (by decide);refine ⟨_,(eJ 3 nd (qQ (kH hr1) m_dict ia (aP (pv 2)))
  (aG (jK ["_law_answer","_law_share","_law_shares_here"] [none,none,some 3] (i:=4) nd rfl (jt rfl) (cT (pv 1)) (fun _ _ _ _=>(nG K (n:=2) rfl (aL (dR 0) (aL (dR 1) bG)))) (fun _ _ _ _=>(iZ (zH (xK hu (pv 0) (pv 2))))) (fun _ _ _ _=>(aX (aA (pv 1) (aP (pdg hu (pv 2) (pv 0)))))))
  (aG (bN (PW.pt (kB (gF (uE hr1) (pv 4) (dM fZ)) (iI (gF dW (bV C_Draw hr (aA (pv 0) (aP aD))) aD)))) (aG (jZ (cS cN (pv 4) (bV C_Draw hr (aA (pv 0) (aP (nU bJ m_len fh (aP (pv 4))))))) (eU rfl (aL (dR 5 nd) (aL (dR 6 nd) bG))))
  (eJ 7 nd (bV C_LLow hr (aA (aO bU (cS aM (pv 5) aD) (cS aM (pv 6) aD)) (aP (aO bU (cS aM (pv 5) aD) (cS aM (pv 6) aD)))))
  (aF (bN (gF nA (nU yW m_max zy (aP (pv 7))) (aO mC aD aD)) (aF (aQ (pv 7))) aS)))) aS)
  (aF (aQ (bV C_LLow hr (aA (bV C_Draw hr (aA (pv 0) (aP aD))) (aP (aO dZ aD (bV C_Draw hr (aA (pv 0) (aP aD)))))))))))),?_⟩
 have l1:=tw1.length;have l2:=tw2.length;have m1:=o1.l2;have m2:=o2.l2;obtain ⟨o,o0,od⟩:=aC2 (aK (by omega)) o2.nd tw2;refine ⟨_,rfl,t2,us2,o,rfl,h2,o0,fun dd hd=>⟨(od dd hd).1,?_⟩⟩;obtain ⟨_,hD,sD⟩:=od dd hd;generalize aJ H dd (o us2.length)=H1 at hD sD ⊢;refine ⟨_,rfl,t1,rfl,⟨_,aV.of (sD _ _ h1)⟩,cP (K:=K) (a:=t1) (xs:=us1) (fun i zs σ H2=>aT H1 H2/\(∃ v1 v2,σ=[v1,v2,some (.ref dd)])/\zs.length<=i/\∃ ss,bX (jV H2) zs ss)
  (aK (by omega)) ⟨aT.refl _,⟨_,_,rfl⟩,ak _,[],trivial⟩ (by rintro i zs σ H2 ⟨_,_,e,_⟩;exact e) (by rintro i zs σ H2 _ ⟨e,_⟩;exact aV.of (e _ _ (sD _ _ h1))) ?_ ?_⟩
 ·rintro i v zs σ H2 hv ⟨s2,⟨v1,v2,rfl⟩,zl,ss,tw⟩;obtain ⟨e,he,me,t,x,q,rfl,ht,hx,hq⟩:=dO.at tw1 hv;have g:=sD.trans s2;refine ⟨t,_,rfl,aV.of (g _ _ ht),rfl,_,_,rfl,_,_,rfl,rfl,?_⟩;obtain ⟨o,dg,og⟩:=(hD.same s2).get (hx.ts (.of g));refine ⟨_,rfl,_,rfl,dd,o,rfl,dg,_,rfl,?_⟩
  cases hg:iK es2 e.1 with
  |none =>
   rw [hg] at og
   cases o with
   |some v=>exact og.elim
   |none=>exact cM (by simp) ⟨s2,⟨_,_,rfl⟩,by omega,ss,tw⟩
  |some s =>
   rw [hg] at og
   cases o with
   |none=>exact og.elim
   |some v =>
    obtain ⟨q2,rfl,hq2⟩:=og;refine cW rfl ?_;have sb:=(o1.at me).1;have tb:=o2.at (kY hg);refine ⟨_,rfl,_,rfl,_,rfl,dd,.ref q2,rfl,dg,cE,fun t3 ht3=>⟨s2.trans (aB ht3 _),⟨_,_,rfl⟩,by rw [cb];show zs.length+1<=_;omega,ss++[(e.2,s)],?_⟩⟩;have s3:=aB ht3 (.tup [.ref q,.ref q2]);exact bX.append (tw.mono fun _ _ z=>z.ts (.of s3)) ⟨⟨t3,q,q2,rfl,aC,(g.trans s3) _ _ hq,s3 _ _ hq2,sb,tb.1,tb.2⟩,trivial⟩
 ·rintro zs σ H2 ⟨s2,_,zl,ss,tw⟩ ls hls;have s3:=aB hls (.lst zs);have h3:aJ H2 ls (.lst zs) ls=some (.lst zs):=aC;replace tw:=tw.mono fun _ _ z=>jV.ts (.of s3) z
  have n3:=bE (D.same (sD.trans s2)) hls;generalize aJ H2 ls (.lst zs)=H3 at s3 h3 tw ⊢;refine ⟨_,rfl,bz _,fun l6 hl6=>?_⟩;have s6:=aB hl6 (.lst []);have h6:aJ H3 l6 (.lst []) l6=some (.lst []):=aC;replace tw:=tw.mono fun _ _ z=>jV.ts (.of s6) z
  replace h3:=s6 _ _ h3;generalize aJ H3 l6 (.lst [])=H6 at s6 h6 tw h3 ⊢;have g6:=sD.trans (s2.trans (s3.trans s6));have D6:=D.same g6;have zl2:=tw.length;refine ⟨.list (ss.map prD),.list [],aW9 h3 tw,⟨l6,[],rfl,bK.of h6,rfl⟩,aF4 ss,iG,jC,_,rfl,?_⟩
  by_cases c:ss=[]
  ·refine cM (by show ¬ (!Spec.same _ _)=true;rw [iA];simp [c]) ?_;refine cM (by simp) ?_;have DZ:=D6;have oZ:bP d l H H6:=bP.of g6;refine ⟨_,rfl,d,l,13,rfl,DZ,by decide,by decide,fun x1 HX y0 y1 DX oX=>?_⟩;refine ⟨_,rfl,d,l,6,rfl,DX,by decide,by decide,fun x2 HY z0 z1 DY oY=>⟨_,_,rfl,rfl,x1,1+x2,rfl,y0,by omega,by omega,fun r hr'=>?_⟩⟩;exact k _ r (aI x1 (1+x2)) aC (tN y0 (by omega) (by omega) (by omega)) (DY.same (aB hr' _)) (oZ.trans (oX.trans (oY.trans (bP.of (aB hr' _)))))
  ·refine cW (by show (!Spec.same _ _)=true;rw [iA];simp [c]) ?_;refine ⟨_,rfl,d,l,3,rfl,D6,by decide,by decide,fun x H7 x0 x1 D7 o7=>⟨rfl,_,rfl,?_⟩⟩;have oH7:bP d l H H7:=(bP.of g6).trans o7
   by_cases c1:x=0
   ·refine cW (by simp [c1]) ?_;have sl:1<=ss.length:=by cases ss with | nil=>exact absurd rfl c | cons _ _=>simp
    have h7:=o7 _ _ h3 n3.1 n3.2;have tw7:=tw.mono fun _ _ z=>jV.ts (TS.out D6 o7) z
    refine ⟨_,rfl,_,rfl,_,rfl,ls,zs,rfl,.inl (bK.of h7),d,l,zs.length,rfl,D7,by omega,by omega,fun y H8 y0 y1 D8 o8=>?_⟩;have yl:y.toNat < zs.length:=by omega
    have h8:=o8 _ _ h7 n3.1 n3.2;have tw8:=tw7.mono fun _ _ z=>jV.ts (TS.out D7 o8) z
    obtain ⟨s,hs,t,p,q,ev,ht,hp,hq,sp,sq,q1⟩:=tw8.at (aj yl);refine ⟨ls,zs,_,zs[y.toNat],rfl,rfl,bK.of h8,(by have h:=lJ (aj yl);rwa [show ((y.toNat:Nat):Int)=y by omega] at h),t,_,ev,aV.of ht,rfl,_,_,rfl,_,_,rfl,rfl,?_⟩;have b1:=sp.b1;have b2:=sq.b1;refine ⟨_,rfl,p,_,_,_,rfl,rfl,aV.of hp,qS _ _,_,rfl,q,_,_,_,rfl,rfl,aV.of hq,nH _ _,_,_,rfl,rfl,⟨b1.1.below,b2.2.below⟩,?_⟩;refine ⟨_,rfl,p,_,_,_,rfl,rfl,aV.of hp,nH _ _,_,rfl,q,_,_,_,rfl,rfl,aV.of hq,qS _ _,_,_,rfl,rfl,⟨b1.2.below,b2.1.below⟩,?_⟩;have e1:=fN sp.a sp.a2 (by have:=sq.b;omega) sq.b2;have e2:=fN (by have:=sp.b;omega) sp.b2 sq.a sq.a2;refine ⟨_,_,rfl,e1.1,dD sp.b q1,by omega,fun r hr'=>?_⟩;have s9:=aB hr' (.tup (eP (s.1.1 * s.2.2) (s.1.2 * s.2.1)));have h9:cC (aJ H8 r (.tup (eP (s.1.1 * s.2.2) (s.1.2 * s.2.1)))) r (vB s.1 s.2).1 (vB s.1 s.2).2:=aC;have Gq:=bJ8 sp sq q1;generalize aJ H8 r (.tup (eP (s.1.1 * s.2.2) (s.1.2 * s.2.1)))=H9 at s9 h9 ⊢
    have oZ:bP d l H H9:=oH7.trans (o8.trans (bP.of s9));have DZ:=D8.same s9;refine ⟨_,rfl,r,[(vB s.1 s.2).1,(vB s.1 s.2).2],rfl,aV.of h9,by simp,fun mx hm=>⟨_,_,rfl,rfl,⟨by decide,by decide,by decide⟩,_,_,rfl,rfl,_,rfl,?_⟩⟩;have ma:=hm (vB s.1 s.2).1 (by simp);have mb:=hm (vB s.1 s.2).2 (by simp)
    by_cases c2:mx < 10 ^ (12:Int).toNat
    ·refine cW (am c2) ?_;have c3:mx < 1000000000000:=c2;exact ⟨_,rfl,k _ r (vB s.1 s.2) h9 ⟨Gq.a,by omega,Gq.b,by omega⟩ DZ oZ⟩
    ·refine cM (by simpa using c2) ?_;refine ⟨_,rfl,d,l,13,rfl,DZ,by decide,by decide,fun x1 HX y0 y1 DX oX=>?_⟩;refine ⟨_,rfl,d,l,6,rfl,DX,by decide,by decide,fun x2 HY z0 z1 DY oY=>⟨_,_,rfl,rfl,x1,1+x2,rfl,y0,by omega,by omega,fun r hr'=>?_⟩⟩;exact k _ r (aI x1 (1+x2)) aC (tN y0 (by omega) (by omega) (by omega)) (DY.same (aB hr' _)) (oZ.trans (oX.trans (oY.trans (bP.of (aB hr' _)))))
   ·refine cM (by simp [c1]) ?_;have DZ:=D7;have oZ:=oH7;refine ⟨_,rfl,d,l,13,rfl,DZ,by decide,by decide,fun x1 HX y0 y1 DX oX=>?_⟩;refine ⟨_,rfl,d,l,6,rfl,DX,by decide,by decide,fun x2 HY z0 z1 DY oY=>⟨_,_,rfl,rfl,x1,1+x2,rfl,y0,by omega,by omega,fun r hr'=>?_⟩⟩;exact k _ r (aI x1 (1+x2)) aC (tN y0 (by omega) (by omega) (by omega)) (DY.same (aB hr' _)) (oZ.trans (oX.trans (oY.trans (bP.of (aB hr' _)))))
theorem bK4 (C_Draw:Cl P w K mg base 1 spDraw "_law_draw") (m_tuple:mg "tuple"=none):hU P w K mg base "_law_pairs" "_law_pairs" bR0 2 ["_law_deal_here","_law_one","_law_other"] spPrs:=by
 refine jU ["_law_deal_here","_law_one","_law_other","_law_way","_law_found","_law_x","_law_share","_law_y","_law_more"] fun H Q nd hr h=>?_
 obtain ⟨d,l,b,t1,t2,c1,c2,es1,es2,rfl,D,⟨us1,h1,tw1⟩,⟨us2,h2,tw2⟩,o1,o2,k⟩:=h;have hu:=iU hr;refine ⟨_,(eJ 3 nd (bV C_Draw hr (aA (pv 0) (aP aD)))
  (eJ 4 nd (dM fZ)
  (aG (pfr (cT (pv 1)) (eU rfl (aL (dR 5 nd) (aL (dR 6 nd) bG)))
  (aF (pfr (cT (pv 2)) (eU rfl (aL (dR 7 nd) (aL (dR 8 nd) bG)))
  (aF (bN (PW.pt (wH (PW.pt (kB (gF dW (pv 3) aD) (iI (gF (yV hr) (pv 5) (pv 7))))) (tS (PW.pt (kB (gF iM (pv 3) aD) (iI (gF nA (bV C_Draw hr (aA (pv 0) (aP aD))) (pv 3)))))))) (aF (gG (mT dq rf rg mH (pv 4) (aP (aX (aA (pv 5) (aP (pv 7)))))))) aS)))))
  (aF (aQ (qQ fI m_tuple nj (aP (pv 4)))))))),?_⟩
 have nk:=o1.nd;have nq:=o2.nd;have l1:=tw1.length;have l2:=tw2.length;have z1:=o1.l2;have z2:=o2.l2;have lm:(es1.map (·.1)).length * (es2.map (·.1)).length<=144:=by
  rw [af,af];exact Nat.mul_le_mul z1 z2
 refine ⟨_,rfl,d,l,5,rfl,D,by decide,by decide,fun wy H1 w0 w1 D1 oD=>?_⟩;refine ⟨bz _,fun lf hlf=>?_⟩;have DL0:=cL.new D1 hlf;have hlfH:H lf=none:=cV D1 oD hlf;have oo:bP d l H (aJ H1 lf (.lst [])):=oD.trans (bP.of (aB hlf _));generalize aJ H1 lf (.lst [])=H2 at DL0 oo ⊢;have tk:∀ {G:Hp},bP d l H G->TS H G:=fun o=>TS.out D o
 refine ⟨_,rfl,t1,rfl,⟨_,aV.of (tk oo _ _ h1)⟩,jI (xs:=us1) (fun i σ G=>∃ ws prs v5 v6 v7 v8,σ=[some (.ref d),some (.ref t1),some (.ref t2),some (.int wy),some (.ref lf),v5,v6,v7,v8]/\cL G d l lf ws/\bP d l H G/\bX (lX b G) ws prs/\PrI (es1.map (·.1)) (es2.map (·.1)) prs i 0) ⟨[],[],_,_,_,_,rfl,DL0,oo,trivial,⟨pb,fun _ z=>absurd z bh⟩⟩ (by rintro i σ G _ ⟨_,_,_,_,_,_,_,_,o,_⟩;exact aV.of (tk o _ _ h1)) ?_ ?_⟩
 ·rintro i u σ G hu ⟨ws0,prs0,v5,v6,v7,v8,rfl,DL,o,tw0,I0⟩;obtain ⟨e,he,me,t,x,q,rfl,ht,vx0,hq⟩:=dO.at tw1 hu;have hkx:(es1.map (·.1))[i]?=some e.1:=lK he;refine ⟨t,_,rfl,aV.of (tk o _ _ ht),rfl,_,_,rfl,_,_,rfl,rfl,?_⟩;refine ⟨_,rfl,t2,rfl,⟨_,aV.of (tk o _ _ h2)⟩,jI (xs:=us2) (fun j σ G=>∃ ws prs v7 v8,σ=[some (.ref d),some (.ref t1),some (.ref t2),some (.int wy),some (.ref lf),some x,some (.ref q),v7,v8]/\cL G d l lf ws/\bP d l H G/\bX (lX b G) ws prs/\PrI (es1.map (·.1)) (es2.map (·.1)) prs i j) ⟨ws0,prs0,_,_,rfl,DL,o,tw0,I0⟩ (by rintro i σ G _ ⟨_,_,_,_,_,_,o,_⟩;exact aV.of (tk o _ _ h2)) ?_ ?_⟩
  ·rintro j u2 σ G hu2 ⟨ws,prs,v7,v8,rfl,DL,o,tw,J⟩;obtain ⟨e2,he2,me2,tt,y,q2,rfl,ht2,vy0,hq2⟩:=dO.at tw2 hu2;have hqy:(es2.map (·.1))[j]?=some e2.1:=lK he2;have vx:=vx0.ts (tk o);have vy:=vy0.ts (tk o);refine ⟨tt,_,rfl,aV.of (tk o _ _ ht2),rfl,_,_,rfl,_,_,rfl,rfl,?_⟩;refine ⟨_,rfl,rfl,_,rfl,?_⟩
   by_cases c:wy=0
   ·refine cW (by simp [c]) ⟨_,rfl,_,rfl,aL8 vx vy ⟨_,rfl,?_⟩⟩;have TSX:TS G G:=fun _ _ z=>z
    have DLX:=DL;have OX:=o
    by_cases c2:e.1=e2.1
    ·refine cW (am c2) (cW rfl ?_);refine ⟨_,rfl,.inl ⟨rfl,_,bK.of DLX.lst⟩,_,rfl,_,rfl,cE,fun r hr'=>?_⟩;have sr:=aB hr' (.tup [x,y]);have DR:=DLX.same sr;refine ⟨lf,_,_,rfl,rfl,DR.lst,aK (by rw [tw.length];have:=J.len;omega),?_⟩;have tl:=TS.lst (ys:=ws++[.ref r]) DR.lst;exact ⟨_,prs++[(e.1,e2.1)],_,_,rfl,DR.app _,fJ (OX.trans (bP.of sr)) hlfH,bX.append (tw.mono fun _ _ z=>lX.ts (TSX.trans ((TS.of sr).trans tl)) z) ⟨⟨r,x,y,rfl,tl _ _ (aA1 hr'),((vx.ts TSX).ts (TS.of sr)).ts tl,((vy.ts TSX).ts (TS.of sr)).ts tl⟩,trivial⟩,J.add nk nq hkx hqy⟩
    ·refine cM (by simpa using c2) ⟨_,rfl,_,_,rfl,rfl,_,rfl,cM (by simp [c]) (cM (by decide) ⟨ws,prs,_,_,rfl,DL,o,tw,J.skip⟩)⟩
   ·refine cM (by simp [c]) (cM (by decide) ⟨_,rfl,_,_,rfl,rfl,_,rfl,cW (by simp;omega) ?_⟩);refine ⟨_,rfl,d,l,4,rfl,DL.deal,by decide,by decide,fun dr G2 d0 d1 D2 o2'=>⟨_,rfl,_,_,rfl,rfl,_,rfl,?_⟩⟩;have TSX:TS G G2:=TS.out DL.deal o2';have DLX:=DL.out D2 o2';have OX:=o.trans o2';refine fH (fun _=>?_) (fun _=>⟨ws,prs,_,_,rfl,DLX,OX,tw.mono fun _ _ z=>lX.ts TSX z,J.skip⟩);refine ⟨_,rfl,.inl ⟨rfl,_,bK.of DLX.lst⟩,_,rfl,_,rfl,cE,fun r hr'=>?_⟩;have sr:=aB hr' (.tup [x,y]);have DR:=DLX.same sr;refine ⟨lf,_,_,rfl,rfl,DR.lst,aK (by rw [tw.length];have:=J.len;omega),?_⟩;have tl:=TS.lst (ys:=ws++[.ref r]) DR.lst;exact ⟨_,prs++[(e.1,e2.1)],_,_,rfl,DR.app _,fJ (OX.trans (bP.of sr)) hlfH,bX.append (tw.mono fun _ _ z=>lX.ts (TSX.trans ((TS.of sr).trans tl)) z) ⟨⟨r,x,y,rfl,tl _ _ (aA1 hr'),((vx.ts TSX).ts (TS.of sr)).ts tl,((vy.ts TSX).ts (TS.of sr)).ts tl⟩,trivial⟩,J.add nk nq hkx hqy⟩
  ·rintro σ G ⟨ws,prs,v7,v8,rfl,DL,o,tw,J⟩;exact ⟨ws,prs,_,_,_,_,rfl,DL,o,tw,J.next⟩
 ·rintro σ G ⟨ws,prs,v5,v6,v7,v8,rfl,DL,o,tw,I⟩;have ln:=I.len;refine ⟨_,rfl,lf,ws,rfl,.inl ⟨bK.of DL.lst,fun p hp=>?_⟩⟩;have sp:=aB hp (.tup ws);exact k _ p ws prs aC (tw.mono fun _ _ z=>lX.ts (TS.of sp) z) ⟨fun e he=>⟨(I.me e he).1,(I.me e he).2.1⟩,I.nd,nk,nq,by omega,by rw [af];omega,by rw [af];omega⟩ (DL.deal.same sp) (o.trans (bP.of sp))
theorem bK5 (C_LTim:Cl P w K mg base 2 spTimes "_law_times") (C_Plus:Cl P w K mg base 2 spPlus "_law_plus"):hU P w K mg base "_law_over" "_law_over" bM0 3 ["_law_one","_law_other","_law_pairs_here","_law_factor_here","_law_answers"] spOvB:=by
 refine jU ["_law_one","_law_other","_law_pairs_here","_law_factor_here","_law_answers","_law_here","_law_x","_law_share","_law_there","_law_y"] fun H Q nd hr h=>?_
 obtain ⟨b,t1,t2,p3,p4,ta,c1,c2,es1,es2,fac,ws3,prs,us,zs,M,rfl,A,m,ha,ta2,k⟩:=h;have hu:=iU hr;have hr2:bW 2 _:=hr.mono (by decide);refine ⟨_,(eJ 5 nd (aX (aA aD (aP aD)))
  (aG (pfr (cT (pv 0)) (eU rfl (aL (dR 6 nd) (aL (dR 7 nd) bG)))
  (aF (bN (gF (xG K hr) (pv 6) (pv 4)) (aF (psz 5 nd (bV C_Plus hr (aA (pv 5) (aP (pv 7)))))) aS)))
  (eJ 8 nd (aX (aA aD (aP aD)))
  (aG (pfr (cT (pv 1)) (eU rfl (aL (dR 9 nd) (aL (dR 7 nd) bG)))
  (aF (bN (gF (uE hr) (cG ["_law_x","_law_near","_law_y","_law_answers"] [none,none,some 9,some 4] (cT (pv 2)) (fun _ _ _ _=>(nG K (n:=2) rfl (aL (dR 0) (aL (dR 1) bG)))) (fun _ _ _ _=>(iZ (PW.pt (kB (gF (bS9 K hr) (pv 1) (pv 2)) (iI (gF (xG K hr) (pv 0) (pv 3))))))) (fun _ _ _ _=>(pv 0))) (dM fZ)) (aF (psz 8 nd (bV C_Plus hr (aA (pv 8) (aP (pv 7)))))) aS)))
  (aF (aQ (aX (aA (pv 5) (aP (bV C_LTim hr (aA (pv 3) (aP (pv 8))))))))))))),?_⟩
 generalize eas:jA b zs=as at k;have Z:=A.scl m;obtain ⟨us1,h1,tw1⟩:=A.ask.h1;obtain ⟨us2,h2,tw2⟩:=A.ask.h2;have l1:=tw1.length;have l2:=tw2.length;have z1:=A.ask.o1.l2;have z2:=A.ask.o2.l2;have z3:=A.ly.zp;have M1:=m.m1;have M2:=m.m2;have n1:∀ i,0<=((((es1.map (·.1)).take i).filter (eK as)).map (bQ es1 M)).sum/\((((es1.map (·.1)).take i).filter (eK as)).map (bQ es1 M)).sum<=M:=fun i=>by
  have:=lU (eK as) (l:=es1.map (·.1)) Z.nn1 i;rw [Z.sum1] at this;exact this
 have nnc:=Z.nnc;have C1:=A.ask.o2.c1;have C2:=A.ask.o2.c2;have n2:∀ i,0<=((((es2.map (·.1)).take i).filter (mB prs (eK as))).map (bQ es2 c2)).sum/\((((es2.map (·.1)).take i).filter (mB prs (eK as))).map (bQ es2 c2)).sum<=c2:=fun i=>by
  have:=lU (mB prs (eK as)) (l:=es2.map (·.1)) nnc i;rw [nO A.ask.o2] at this;exact this
 refine ⟨cE,fun q0 hq0=>?_⟩;have s0:=aB hq0 (.tup [.int 0,.int 1]);have f0:bO (aJ H q0 (.tup [.int 0,.int 1])) q0 0 M:=by unfold bO;rw [cQ M1];exact aC
 generalize aJ H q0 (.tup [.int 0,.int 1])=H0 at s0 f0 ⊢;refine ⟨_,rfl,t1,rfl,⟨_,aV.of (s0 _ _ h1)⟩,jI (xs:=us1) (fun i σ G=>∃ q v6 v7,σ=[some (.ref t1),some (.ref t2),some (.ref p3),some (.ref p4),some (.ref ta),some (.ref q),v6,v7,none,none]/\aT H G/\bO G q ((((es1.map (·.1)).take i).filter (eK as)).map (bQ es1 M)).sum M) ⟨q0,none,none,rfl,s0,f0⟩ (by rintro i σ G _ ⟨_,_,_,_,s,_⟩;exact aV.of (s _ _ h1)) ?_ ?_⟩
 ·rintro i u σ G hu ⟨q,v6,v7,rfl,s,hq⟩;obtain ⟨e,he,me,t,x,p,rfl,ht,vx,hp⟩:=dO.at tw1 hu;refine ⟨t,_,rfl,aV.of (s _ _ ht),rfl,_,_,rfl,_,_,rfl,rfl,?_⟩;refine ⟨_,rfl,_,rfl,aL1 (s _ _ ha) (ta2.mono fun _ _ z=>hJ.ts (TS.of s) z) (vx.ts (TS.of s)) ⟨_,rfl,?_⟩⟩;have ei:=jD (eK as) (bQ es1 M) (lK (f:=fun e:En=>e.1) he);rw [eas]
  by_cases c:e.1∈as
  ·have ci:eK as e.1=true:=am c;rw [bb ci] at ei;obtain ⟨ev,e1,_⟩:=Z.one me;have hp2:bO G p (bQ es1 M e.1) M:=by unfold bO;rw [<- ev];exact s _ _ hp
   refine cW ci ⟨_,rfl,_,rfl,q,p,_,_,rfl,hq,hp2,bH (n1 i).1 (by have:=(n1 i).2;omega) M1 (by omega),bH (by omega) (by have:=(n1 (i+1)).2;have:=(n1 i).1;omega) M1 (by omega),fun r hr'=>⟨r,_,_,rfl,s.trans (aB hr' _),?_⟩⟩;rw [ei];unfold bO;rw [<- dU (n1 i).1 (by omega) M1];exact aC
  ·have ci:¬ eK as e.1=true:=fun z=>c (bc z)
   rw [ao ci,rc] at ei;exact cM ci ⟨q,_,_,rfl,s,by rw [ei];exact hq⟩
 rintro σ G ⟨q,v6,v7,rfl,s,hq⟩;rw [l1,show es1.length=(es1.map (·.1)).length from (af ..).symm,be] at hq;refine ⟨cE,fun r0 hr0=>?_⟩;have sr:=aB hr0 (.tup [.int 0,.int 1]);have s1:=s.trans sr;have hq1:bO (aJ G r0 (.tup [.int 0,.int 1])) q (hM es1 M as) M:=sr _ _ hq;have g0:bO (aJ G r0 (.tup [.int 0,.int 1])) r0 0 c2:=by unfold bO;rw [cQ C1];exact aC
 generalize aJ G r0 (.tup [.int 0,.int 1])=G0 at s1 hq1 g0 ⊢;clear hq s;refine ⟨_,rfl,t2,rfl,⟨_,aV.of (s1 _ _ h2)⟩,jI (xs:=us2) (fun i σ G=>∃ q2 v7 v9,σ=[some (.ref t1),some (.ref t2),some (.ref p3),some (.ref p4),some (.ref ta),some (.ref q),v6,v7,some (.ref q2),v9]/\aT G0 G/\bO G q2 ((((es2.map (·.1)).take i).filter (mB prs (eK as))).map (bQ es2 c2)).sum c2) ⟨r0,v7,none,rfl,aT.refl _,g0⟩ (by rintro i σ G _ ⟨_,_,_,_,s,_⟩;exact aV.of (s _ _ (s1 _ _ h2))) ?_ ?_⟩
 ·rintro i u σ G hu ⟨q2,v7,v9,rfl,s,hq2⟩;obtain ⟨e,he,me,t,y,p,rfl,ht,vy,hp⟩:=dO.at tw2 hu;have sG:=s1.trans s;refine ⟨t,_,rfl,aV.of (sG _ _ ht),rfl,_,_,rfl,_,_,rfl,rfl,?_⟩;have l3:=A.tw3.length;refine ⟨_,rfl,p3,rfl,⟨_,aV.of (sG _ _ A.h3)⟩,cP (xs:=ws3) (fun k ys σ G'=>G'=G/\(∃ v1 v2,σ=[v1,v2,some y,some (.ref ta)])/\bX (dG b G) ys (((prs.take k).filter fun f=>decide (f.2=e.1) && eK as f.1).map (·.1))) (aK (by omega)) ⟨rfl,⟨_,_,rfl⟩,trivial⟩ (by rintro k ys σ G' ⟨_,_,t⟩;rw [t.length,af];exact cj (je _ _) (by rw [cq];omega)) (by rintro k ys σ G' _ ⟨e,_⟩;rw [e];exact aV.of (sG _ _ A.h3)) ?_ ?_⟩
  ·rintro kk uu ys σ G' hu' ⟨rfl,⟨v1,v2,rfl⟩,tz⟩;obtain ⟨f,hf,tt,a1,a2,rfl,hh,va1,va2⟩:=A.tw3.at hu';have v1':=va1.ts (TS.of sG);have v2':=va2.ts (TS.of sG);refine ⟨tt,_,rfl,aV.of (sG _ _ hh),rfl,_,_,rfl,_,_,rfl,rfl,?_⟩;refine ⟨_,rfl,_,rfl,aL8 v2' (vy.ts (TS.of sG)) ⟨_,rfl,?_⟩⟩;rw [aU hf,oq,bj]
   by_cases c:f.2=e.1
   ·refine cW (am c) ⟨_,rfl,_,rfl,aL1 (sG _ _ ha) (ta2.mono fun _ _ z=>hJ.ts (TS.of sG) z) v1' ⟨_,rfl,?_⟩⟩;rw [eas]
    by_cases c2:f.1∈as
    ·refine cW (am c2) ⟨_,rfl,rfl,⟨_,_,rfl⟩,?_⟩;rw [jp (by rw [am c];exact am c2)];exact bX.append tz ⟨v1',trivial⟩
    ·refine cM (fun z=>c2 (bc z)) ⟨rfl,⟨_,_,rfl⟩,?_⟩;rw [iq (by intro z;rw [fb] at z;exact c2 (bc z.2)),jh,kg,nv];exact tz
   ·refine cM (by simpa using c) (cM (by decide) ⟨rfl,⟨_,_,rfl⟩,?_⟩);rw [iq (by intro z;rw [fb] at z;exact c (bc z.1)),jh,kg,nv];exact tz
  rintro ys σ G' ⟨rfl,_,tz⟩ lz hlz;rw [l3,be] at tz;refine ⟨bz _,fun ln hln=>?_⟩;have sn:=(aB hlz (.lst ys)).trans (aB hln (.lst []));refine bK2 (aB hln _ _ _ aC) (tz.mono fun _ _ z=>dG.ts (TS.of sn) z) aC ⟨_,rfl,?_⟩;have sH:=sG.trans sn;have hq3:bO (aJ (aJ G' lz (.lst ys)) ln (.lst [])) q2 _ c2:=sn _ _ hq2;have sg:=s.trans sn;have hp3:cC (aJ (aJ G' lz (.lst ys)) ln (.lst [])) p e.2.1 e.2.2:=sH _ _ hp;generalize aJ (aJ G' lz (.lst ys)) ln (.lst [])=G2 at sH hq3 sg hp3 ⊢;have ei:=jD (mB prs (eK as)) (bQ es2 c2) (lK (f:=fun e:En=>e.1) he);obtain ⟨ev,e0,_⟩:=Z.oth me
  by_cases c:mB prs (eK as) e.1=true
  ·rw [bb c] at ei;have ne:¬ ((prs.filter fun f=>decide (f.2=e.1) && eK as f.1).map (·.1))=[]:=fun z=>by
    obtain ⟨f,hf,q⟩:=gu.mp c;have:f∈prs.filter fun f=>decide (f.2=e.1) && eK as f.1:=fi.mpr ⟨hf,q⟩
    rw [qj.mp z] at this;exact bh this
   have hp2:bO G2 p (bQ es2 c2 e.1) c2:=by unfold bO;rw [<- ev];exact hp3
   refine cW (by rw [bu ne];rfl) ⟨_,rfl,_,rfl,q2,p,_,_,rfl,hq3,hp2,bH (n2 i).1 (by have:=(n2 i).2;omega) C1 (by omega),bH e0 (by have:=(n2 (i+1)).2;have:=(n2 i).1;omega) C1 (by omega),fun r hr'=>⟨r,_,_,rfl,sg.trans (aB hr' _),?_⟩⟩;rw [ei];unfold bO;rw [<- dU (n2 i).1 e0 C1];exact aC
  ·rw [ao c,rc] at ei;have ne:((prs.filter fun f=>decide (f.2=e.1) && eK as f.1).map (·.1))=[]:=by
    rw [qj,List.filter_eq_nil_iff];exact fun f hf q=>c (gu.mpr ⟨f,hf,q⟩)
   refine cM (by rw [am ne];decide) ⟨q2,_,_,rfl,sg,by rw [ei];exact hq3⟩
 rintro σ G ⟨q2,v7,v9,rfl,s,hq2⟩;rw [l2,show es2.length=(es2.map (·.1)).length from (af ..).symm,be] at hq2;have nq:=n2 (es2.map (·.1)).length;rw [be] at nq;have fq:=bH nq.1 (show _ < (2:Int) ^ 180 by omega) C1 (show c2 < 2 ^ 180 by omega);have et:=Z.et prs as;refine ⟨_,rfl,_,rfl,_,rfl,p4,q2,_,_,_,_,rfl,(s1.trans s) _ _ A.ask.hf,hq2,A.ask.of.b1.1,A.ask.of.b1.2,fq.1,fq.2.1,A.ask.of.b,fq.2.2,fun r hr'=>⟨cE,fun r2 hr2=>?_⟩⟩;have sn:=(aB hr' (.tup (eP (fac.1 * (aI (((es2.map (·.1)).filter (mB prs (eK as))).map (bQ es2 c2)).sum c2).1) (fac.2 * (aI (((es2.map (·.1)).filter (mB prs (eK as))).map (bQ es2 c2)).sum c2).2)))).trans (aB hr2 (.tup [.ref q,.ref r]));refine k _ r2 q r ((s1.trans s).trans sn) aC (sn _ _ (s _ _ hq1)) ?_;unfold bO;rw [<- et];exact aB hr2 _ _ _ aC
theorem bG8 (C_Add:Cl P w K mg base 3 spAdd "added"):hU P w K mg base "come_to_each" "come_to_each" bR2 4 ["pairing","side"] (aR3 P w):=by
 refine jU ["pairing","side","totals","pair","share"] fun H Q nd hr h=>?_
 obtain ⟨b,d,sd,ps,l,M,rfl,G,k⟩:=h;have hu:=iU hr;refine ⟨_,(eJ 2 nd (bJ4 b)
  (aG (aA2 (pfr (qI (pv 0)) (eU rfl (aL (dR 3 nd) (aL (dR 4 nd) bG)))
  (aF (pdp hu (pv 2) (cS aM (pv 3) (pv 1)) (bV C_Add hr (aA (gA hu (pv 2) (cS aM (pv 3) (pv 1)) (aX (aA aD (aP aD))) ⟨rfl,rfl,rfl,rfl⟩) (aP (pv 4))))))))
  (aF (aQ (pv 2))))),?_⟩
 obtain ⟨xs,hd,lx,wk⟩:=G.h.walk;have M1:=G.m1;have M2:=G.m2;have nn:∀ e∈ps,0<=l e:=fun e he=>by have:=G.p e he;omega
 have bd:=fun i x=>uK nn (fun e=>decide (gE sd e=x)) i
 have sM:=G.s;have zz:=G.z;refine fun g hg=>?_
 have ndg:d≠g:=aH hd hg;refine ⟨_,rfl,d,xs,rfl,aB hg _ _ _ hd,fun o=>qU (P:=P) (w:=w) (d:=d) (o:=o) (xs:=xs) (fun i σ G'=>∃ v3 v4,σ=[some (.ref d),some (.int (if sd=true then 1 else 0)),some (.ref g),v3,v4]/\aT (aJ H d (.frz o (dN P w d xs))) G'/\dQ b G' g (fM (ps.take i) l sd) M i) ⟨none,none,rfl,?_,?_⟩ (by rintro i σ G' _ ⟨_,_,_,s,_⟩;exact s _ _ aC) ?_ ?_⟩
 ·exact fun c u e=>by
   by_cases cd:c=d
   ·subst cd;rw [aC] at e ⊢;exact e
   ·rw [aE cd] at e ⊢;exact aB hg _ _ _ e
 ·exact ((dQ.start hg).keep (fun c us e=>by rw [aE (cF e (aB hg _ _ _ hd) (by intro z;cases z))];exact e) (fun u e=>by rw [aE ndg.symm];exact e)).eq (funext fun _=>rfl)
 ·rintro i x t σ G' hx ht ⟨v3,v4,rfl,s,T⟩;obtain ⟨e,q,he,eq,hq,t',u1,u2,et,hpt,va1,va2⟩:=wk i x hx;obtain rfl:x.2.1=t':=V.ref.inj et;have me:=bo he;have li:=(bq.mp he).1;rw [eq];have s1:=s.trans (aB ht (.tup [.ref x.2.1,.ref q]));have T1:=T.same (aB ht (.tup [.ref x.2.1,.ref q]));have g1:aJ G' t (.tup [.ref x.2.1,.ref q]) t=some (.tup [.ref x.2.1,.ref q]):=aC;generalize aJ G' t (.tup [.ref x.2.1,.ref q])=G1 at s1 T1 g1 ⊢;have ts1:TS H G1:=(eO hd).trans (TS.of s1);have hat:uJ [u1,u2] (if sd=true then 1 else 0)=some (if sd=true then u2 else u1):=by cases sd <;> rfl
  have va:dG b H (if sd=true then u2 else u1) (gE sd e):=by cases sd;exact va1;exact va2
  generalize (if sd=true then u2 else u1)=ua at hat va;obtain ⟨ll,L,lz⟩:=T1;refine ⟨t,_,rfl,aV.of g1,rfl,_,_,rfl,_,_,rfl,rfl,?_⟩;refine ⟨_,rfl,g,rfl,kQ L.d,_,rfl,_,rfl,x.2.1,_,_,_,rfl,rfl,aV.of (ts1 _ _ hpt),hat,cE,fun z hz=>?_⟩;have s2:=aB hz (.tup [.int 0,.int 1]);obtain ⟨ll2,L2,lz2⟩:=dQ.same ⟨ll,L,lz⟩ s2;have hz2:cC (aJ G1 z (.tup [.int 0,.int 1])) z 0 1:=aC;generalize aJ G1 z (.tup [.int 0,.int 1])=G2 at s2 L2 hz2 ⊢;have ts2:=ts1.trans (TS.of s2);refine ⟨_,fS L2.d L2.v (va.ts ts2),?_⟩;obtain ⟨r,er,fr⟩:=L2.get M1 hz2 (gE sd e);rw [er];have b1:0<=fM (ps.take i) l sd (gE sd e)/\fM (ps.take i) l sd (gE sd e)<=(ps.map l).sum:=bd i (gE sd e);have le:=(G.le me).2;refine ⟨_,rfl,r,q,_,_,rfl,fr,ts2 _ _ hq,bH b1.1 (by have:=ki b1.2 sM;omega) M1 (by omega),bH (nn e me) (by omega) M1 (by omega),fun r2 hr2=>?_⟩;rw [dU b1.1 (nn e me) M1];obtain ⟨G3,e3,s3,f3⟩:=sX (m:=fM (ps.take i) l sd (gE sd e)+l e) (M:=M) hr2
  rw [e3];obtain ⟨ll3,L3,lz3⟩:=dQ.same ⟨ll2,L2,lz2⟩ s3;have s13:=s1.trans (s2.trans s3);have ts3:=ts2.trans (TS.of s3);refine ⟨_,rfl,_,rfl,_,rfl,x.2.1,_,_,_,rfl,rfl,aV.of (ts3 _ _ hpt),hat,g,_,rfl,mJ L3.d L3.v (va.ts ts3) (aK (by omega)),_,_,rfl,pY s13 (by rw [aE ndg.symm];exact hg),(L3.put lz3 va.va f3).eq (aG1 he).symm⟩
 ·rintro σ G' ⟨v3,v4,rfl,s,T⟩;rw [lx,be] at T;refine .inr ⟨d,o,_,s _ _ aC,(fun o' u' z=>by cases (show some (HO.ext _)=some (HO.frz o' u') from hd.symm.trans z)),(fun _ z=>by cases z),(fun _ z=>by cases z),?_⟩;obtain ⟨ll,L,lz⟩:=T;have tsd:TS G' (aJ G' d (dN P w d xs)):=fun c us e=>by rw [aE (cF e (s _ _ aC) (by intro z;cases z))];exact e
  exact ⟨_,rfl,k _ g (wL hd s) (dQ.keep ⟨ll,L,by omega⟩ tsd fun u e=>by rw [aE ndg.symm];exact e)⟩
theorem bJ1 (m_all:mg "all"=none) (m_range:mg "range"=none) (m_len:mg "len"=none):hU P w K mg base "are_rising" "are_rising" bO7 2 ["answers"] spRiseT:=by
 refine jU ["answers"] fun H Q nd hr h=>?_
 obtain ⟨l,zs,b,as,rfl,hl,tw,h100,k⟩:=h;have hr1:bW 1 _:=hr.mono (by decide);refine ⟨_,(aF (aQ (nU pM m_all uh (aP (cG ["k","answers"] [none,some 0] (aF1 (by rfl) m_range (aA aD (aP (nU bJ m_len fh (aP (pv 0)))))) (fun _ _ _ _=>(dR 0)) (fun _ _ _ _=>eB) (fun _ _ _ _=>(pec (bB9 K hr1) (cS (bE6 K) (pv 1) (aO mR (pv 0) aD)) (cS (bE6 K) (pv 1) (pv 0))))))))),?_⟩;have ln:=tw.length;refine ⟨_,rfl,l,zs,rfl,.inr (aV.of hl),1,(zs.length:Int),rfl,⟨by decide,by decide,by omega,by omega⟩,iE (lo:=1) (n:=((zs.length:Int) - 1).toNat) (fun i ys σ H2=>H2=H/\(∃ v,σ=[v,some (.ref l)])/\ys=(List.range i).map fun k=>V.bl (ltB as k)) (aK (by omega)) ⟨rfl,⟨_,rfl⟩,rfl⟩ (by rintro i ys σ H2 ⟨_,_,e⟩;rw [e,af,xg];omega) ?_ ?_⟩
 ·rintro i ys σ H2 hi ⟨rfl,⟨v',rfl⟩,rfl⟩;have i1:i < zs.length:=by omega
  have i2:i+1 < zs.length:=by omega
  obtain ⟨a,ha,ax⟩:=tw.at (aj i1);obtain ⟨c,hc,cx⟩:=tw.at (aj i2);refine ⟨_,rfl,_,rfl,_,_,rfl,rfl,l,zs,_,_,rfl,rfl,aV.of hl,(show uJ zs (1+(i:Int) - 1)=some zs[i] by rw [show 1+(i:Int) - 1=(i:Int) by omega];exact lJ (aj i1)),?_⟩;refine ⟨_,rfl,_,rfl,l,zs,_,_,rfl,rfl,aV.of hl,(show uJ zs (1+(i:Int))=some zs[i+1] by rw [show 1+(i:Int)=((i+1:Nat):Int) by omega];exact lJ (aj i2)),?_⟩;refine bC0 ax cx ⟨rfl,⟨_,rfl⟩,?_⟩;rw [List.range_succ,bj, <- aN5 ha hc];rfl
 ·rintro ys σ H2 ⟨rfl,_,rfl⟩ l3 hl3;have e:((zs.length:Int) - 1).toNat=as.length - 1:=by omega
  rw [e];refine ⟨l3,(List.range (as.length - 1)).map (ltB as),rfl,bK.of (by rw [aC,bg];rfl),?_⟩;rw [aR4];exact k _ (aB hl3 _)
theorem bG1 (C_Ech:Cl P w K mg base 4 (aR3 P w) "come_to_each") (C_Less:Cl P w K mg base 1 spLessF "less") (C_Add:Cl P w K mg base 3 spAdd "added") (C_Times:Cl P w K mg base 3 spTimes "times") (C_Come:Cl P w K mg base 4 spCome "come_to") (m_dict:mg "dict"=none) (m_any:mg "any"=none) (m_all:mg "all"=none) (m_list:mg "list"=none):hU P w K mg base "is_pairing" "is_pairing" bK9 5 ["one","other","pairs","factor","rest","pairing"] (aB8 P w):=by
 refine jU ["one","other","pairs","factor","rest","pairing","may_be","given","taken"] fun H Q nd hr h=>?_
 obtain ⟨b,t1,t2,p3,p4,p5,d,c1,c2,es1,es2,fac,ws3,prs,es,M,rM,rfl,A,m,PG,O,h5,r0,r1,k⟩:=h;have hu:=iU hr;refine ⟨_,(eJ 6 nd (qQ (zF hr) m_dict ia (aP (cG ["pair"] [none] (cT (pv 2)) (fun _ _ _ _=>(dR 0)) (fun _ _ _ _=>eB) (fun _ _ _ _=>(aX (aA (pv 0) (aP gO)))))))
  (aG (uV (bN (tP (gR (nU pM m_all uh (aP (cG ["pair","share","may_be"] [none,none,some 6] (qI (pv 5)) (fun _ _ _ _=>(nG K (n:=2) rfl (aL (dR 0) (aL (dR 1) bG)))) (fun _ _ _ _=>eB) (fun _ _ _ _=>(aP8 (aM0 (bU5 P w hr (pv 0) (pv 2))) (aL7 (pec iM (cS (bE6 K) (pv 1) aD) aD))))))))) (aF (aQ gO)) aS))
  (eJ 7 nd (bV C_Ech hr (aA (pv 5) (aP aD)))
  (eJ 8 nd (bV C_Ech hr (aA (pv 5) (aP aD)))
  (aG (bN (gR (nU wZ m_any aAa (aP (cG ["x","share","given"] [none,none,some 7] (cT (pv 0)) (fun _ _ _ _=>(nG K (n:=2) rfl (aL (dR 0) (aL (dR 1) bG)))) (fun _ _ _ _=>eB) (fun _ _ _ _=>(bV C_Less hr (aA (pv 1) (aP (gA hu (pv 2) (pv 0) (aX (aA aD (aP aD))) ⟨rfl,rfl,rfl,rfl⟩))))))))) (aF (aQ gO)) aS)
  (aG (bN (gR (nU wZ m_any aAa (aP (cG ["y","share","factor","taken"] [none,none,some 3,some 8] (cT (pv 1)) (fun _ _ _ _=>(nG K (n:=2) rfl (aL (dR 0) (aL (dR 1) bG)))) (fun _ _ _ _=>eB) (fun _ _ _ _=>(bV C_Less hr (aA (bV C_Times hr (aA (pv 2) (aP (pv 1)))) (aP (gA hu (pv 3) (pv 0) (aX (aA aD (aP aD))) ⟨rfl,rfl,rfl,rfl⟩))))))))) (aF (aQ gO)) aS)
  (aF (aQ (aM6 (bV C_Less hr (aA (bV C_Add hr (aA (bV C_Come hr (aP (qQ zK m_list gz (aP (aJ8 (pv 5)))))) (aP (pv 4)))) (aP (aX (aA aD (aP aD))))))))))))))),?_⟩
 have Z:=A.scl m;have M1:=m.m1;have M2:=m.m2;have zz:=O.z;have z3:=A.ly.zp;have l3:=A.tw3.length;refine ⟨_,rfl,p3,rfl,⟨_,aV.of A.h3⟩,cP (xs:=ws3) (fun i ys σ G'=>aT H G'/\(∃ v1,σ=[v1])/\bX (PrX b (.bl true) G') ys (prs.take i)) (aK (by omega)) ⟨aT.refl _,⟨_,rfl⟩,trivial⟩ (by rintro i ys σ G' ⟨_,_,t⟩;rw [t.length,cq];omega) (by rintro i ys σ G' _ ⟨s,_⟩;exact aV.of (s _ _ A.h3)) ?_ ?_⟩
 ·rintro i u ys σ G' hu ⟨s,⟨v1,rfl⟩,t⟩;obtain ⟨e,hi,q,y,z,rfl,hq,vy,vz⟩:=A.tw3.at hu;refine ⟨_,rfl,cE,fun r hr'=>⟨s.trans (aB hr' _),⟨_,rfl⟩,?_⟩⟩;have tr:=TS.of (aB hr' (.tup [.ref q,.bl true]));rw [aU hi];exact bX.append (t.mono fun _ _ w=>w.ts tr) ⟨⟨r,q,rfl,aC,bD0 (tr _ _ (s _ _ hq)) ((vy.ts (TS.of s)).ts tr) ((vz.ts (TS.of s)).ts tr),vy.va,vz.va⟩,trivial⟩
 rintro ys σ G1 ⟨s1,_,t⟩ lq hlq;rw [l3,be] at t;have t2:=t.mono fun _ _ w=>PrX.ts (TS.of (aB hlq (.lst ys))) w
 refine ⟨lq,ys,_,rfl,aC,aF6 t2,by rw [af];unfold prX;rw [af];exact aK (by omega),fun mb H1 hmb D1 k1=>?_⟩;rw [aD9 (f:=gQ b) (l:=prX prs (.bl true)) (by rw [aJ7];exact A.ly.nd) (fun e he e' he' q=>aK4 (aK1 t2 e he) (aK1 t2 e' he') q)] at D1;have vpr:=bH0 A.tw3;have sH:aT H H1:=(s1.trans (aB hlq _)).trans fun e o q=>by rw [k1 e (aH q hmb)];exact q
 have hmb0:H mb=none:=s1.free ((aB hlq _).free hmb);clear t t2 k1 hmb hlq s1;obtain ⟨xs,hd,lx,wk⟩:=(PG.same sH).walk;obtain ⟨xs0,hdH,_⟩:=PG.walk;have nmd:mb≠d:=(aH hdH hmb0).symm;have no:nC b prs es≠true->xS b es1 es2 prs fac es rM M=false:=fun q=>by unfold xS;rw [eh.mpr q,dw,dw,dw]
 refine ⟨_,rfl,d,xs,rfl,hd,fun o=>xZ (P:=P) (w:=w) (d:=d) (o:=o) (xs:=xs) (fun i ys σ G'=>aT (aJ H1 d (.frz o (dN P w d xs))) G'/\(∃ v1 v2,σ=[v1,v2,some (.ref mb)])/\ys=((es.take i).map (fB b prs)).map V.bl) (aK (by omega)) ⟨aT.refl _,⟨_,_,rfl⟩,rfl⟩ (by rintro i ys σ G' ⟨_,_,e⟩;rw [e,af,af,cq];exact vj _ _) (by rintro i ys σ G' _ ⟨s,_⟩;exact s _ _ aC) ?_ ?_⟩
 ·rintro i x t ys σ G' hx ht ⟨s,⟨v1,v2,rfl⟩,rfl⟩;obtain ⟨e,q,he,ek,eq,hq,qv⟩:=wk i x hx;rw [eq];have s1:=s.trans (aB ht (.tup [.ref x.2.1,.ref q]));have g1:aJ G' t (.tup [.ref x.2.1,.ref q]) t=some (.tup [.ref x.2.1,.ref q]):=aC;generalize aJ G' t (.tup [.ref x.2.1,.ref q])=G2 at s1 g1 ⊢;have ts1:TS H1 G2:=(eO hd).trans (TS.of s1);refine ⟨t,_,rfl,aV.of g1,rfl,_,_,rfl,_,_,rfl,rfl,?_⟩;have gg:bH1 P w G2 mb (.ref x.2.1) (if e.1∈prs.map (cX b) then some (.bl true) else none):= .inr ⟨_,lM e.1,x.2.1,(D1.keep ts1 (fun u z=>s1 _ _ (by rw [aE nmd];exact z))).r,rfl,(qv.ts ts1).nat,(bT3 vpr qv.vq).symm⟩;rw [aU he,bj,bj]
  by_cases c:e.1∈prs.map (cX b)
  ·rw [bb c] at gg;have hq2:bO G2 q e.2 M:=ts1 _ _ hq;refine ⟨_,rfl,_,rfl,mb,_,rfl,gg,_,rfl,cW (by rfl) ⟨_,rfl,q,_,_,_,rfl,rfl,aV.of hq2,qS _ _,_,_,rfl,rfl,s1,⟨_,_,rfl⟩,?_⟩⟩
   congr 1
   show [V.bl (decide (0 < eZ e.2 M))]=[V.bl (fB b prs e)]
   unfold fB;rw [am c,ji,eu.mpr (pK (O.m e (bo he)).1 M1)]
  ·rw [ao c] at gg;refine ⟨_,rfl,_,rfl,mb,_,rfl,gg,_,rfl,cM (by decide) ⟨s1,⟨_,_,rfl⟩,?_⟩⟩
   congr 1
   show [V.bl false]=[V.bl (fB b prs e)]
   unfold fB;rw [bu c,dw]
 rintro ys σ G' ⟨s,_,rfl⟩ la hla;have s2:=sH.trans (wL hd (s.trans (aB hla (.lst (((es.take xs.length).map (fB b prs)).map V.bl)))));have fz:=aB hla (.lst (((es.take xs.length).map (fB b prs)).map V.bl)) _ _ (s _ _ aC);refine ⟨la,(es.take xs.length).map (fB b prs),rfl,bK.of aC,_,rfl,?_⟩;rw [show ((es.take xs.length).map (fB b prs)).all id=nC b prs es by rw [lx,be];exact xB b prs es]
 by_cases al:nC b prs es=true
 rotate_left
 ·refine cW (by rw [eh.mpr al];rfl) (.inr ⟨d,o,_,fz,(fun o' u' z=>by cases (show some (HO.ext _)=some (HO.frz o' u') from hdH.symm.trans z)),(fun _ z=>by cases z),(fun _ z=>by cases z),?_⟩);have:=k _ s2;rw [no al] at this;exact this
 refine cM (by rw [al];decide) (.inr ⟨d,o,_,fz,(fun o' u' z=>by cases (show some (HO.ext _)=some (HO.frz o' u') from hdH.symm.trans z)),(fun _ z=>by cases z),(fun _ z=>by cases z),?_⟩);generalize aJ (aJ G' la (.lst (((es.take xs.length).map (fB b prs)).map V.bl))) d (dN P w d xs)=H2 at s2 ⊢;obtain ⟨ps,l,G,eS,eT⟩:∃ ps l,PgM P w b H d ps l M/\(ps.map l).sum=(es.map (·.2)).sum/\∀ sd x,fM ps l sd x=fO b es sd x:=⟨_,_,PG.pg O al M1 M2,bJ2 O.nd al,bC3 O.nd al⟩
 have nn:∀ e∈ps,0<=l e:=fun e he=>(G.le he).1
 have sM:=G.s;clear s hla wk hd hmb0 fz D1;refine ⟨_,rfl,b,d,false,ps,l,M,rfl,G.same s2,fun H3 tg s3 T1=>?_⟩;have s03:=s2.trans s3;refine ⟨_,rfl,b,d,true,ps,l,M,rfl,G.same s03,fun H4 tt s4 T2=>?_⟩;have s04:=s03.trans s4;replace T1:=T1.same s4;obtain ⟨us1,h1,tw1⟩:=A.ask.h1;obtain ⟨us2,h2,tw2⟩:=A.ask.h2;have l1:=tw1.length;have l2:=tw2.length;have z1:=A.ask.o1.l2;have z2:=A.ask.o2.l2;have bT:∀ sd x,0<=fM ps l sd x/\fM ps l sd x<=(ps.map l).sum:=fun sd x=>by have:=uK nn (fun e=>decide (gE sd e=x)) ps.length;rw [be] at this;exact this
 refine ⟨_,rfl,t1,rfl,⟨_,aV.of (s04 _ _ h1)⟩,cP (xs:=us1) (fun i ys σ G'=>aT H4 G'/\(∃ v1 v2,σ=[v1,v2,some (.ref tg)])/\ys=((es1.take i).map fun e=>decide (bQ es1 M e.1 < fM ps l false e.1)).map V.bl) (aK (by omega)) ⟨aT.refl _,⟨_,_,rfl⟩,rfl⟩ (by rintro i ys σ G' ⟨_,_,e⟩;rw [e,af,af,cq];exact vj _ _) (by rintro i ys σ G' _ ⟨s,_⟩;exact aV.of (s _ _ (s04 _ _ h1))) ?_ ?_⟩
 ·rintro i u ys σ G' hu ⟨s,⟨v1,v2,rfl⟩,rfl⟩;obtain ⟨e,he,me,t,x,p,rfl,ht,vx,hp⟩:=dO.at tw1 hu;have sG:=s04.trans s;refine ⟨t,_,rfl,aV.of (sG _ _ ht),rfl,_,_,rfl,_,_,rfl,rfl,?_⟩;obtain ⟨ll,L,lz⟩:=T1.same s;refine ⟨_,rfl,_,rfl,tg,rfl,kQ L.d,_,rfl,cE,fun z hz=>?_⟩;have s2:=aB hz (.tup [.int 0,.int 1]);obtain ⟨ll2,L2,lz2⟩:=dQ.same ⟨ll,L,lz⟩ s2;refine ⟨_,fS L2.d L2.v ((vx.ts (TS.of sG)).ts (TS.of s2)),?_⟩;obtain ⟨r,er,fr⟩:=L2.get M1 (show cC _ z 0 1 from aC) e.1;rw [er];obtain ⟨ev,e1,_⟩:=Z.one me;have hp2:bO (aJ G' z (.tup [.int 0,.int 1])) p (bQ es1 M e.1) M:=by unfold bO;rw [<- ev];exact s2 _ _ (sG _ _ hp)
  obtain ⟨B1,B2,B3,B4,el⟩:=nX (Z.a1 me).1 (Z.a1 me).2 (bT false e.1).1 (by have:=(bT false e.1).2;omega) M1 M2;refine ⟨p,r,_,_,_,_,rfl,hp2,fr,B1,B2,B3,B4,?_⟩;rw [el];refine ⟨s.trans s2,⟨_,_,rfl⟩,?_⟩;rw [aU he,bj,bj];rfl
 rintro ys σ G' ⟨s,_,rfl⟩ la hla;refine ⟨la,(es1.take us1.length).map fun e=>decide (bQ es1 M e.1 < fM ps l false e.1),rfl,bK.of aC,_,rfl,?_⟩;have s5:=s.trans (aB hla (.lst (((es1.take us1.length).map fun e=>decide (bQ es1 M e.1 < fM ps l false e.1)).map V.bl)));replace T2:=T2.same s5;have s05:=s04.trans s5;generalize aJ G' la (.lst (((es1.take us1.length).map fun e=>decide (bQ es1 M e.1 < fM ps l false e.1)).map V.bl))=H5 at T2 s05 ⊢;rw [l1,be,aQ3 (fun e:En=>bQ es1 M e.1) (fun e:En=>fM ps l false e.1) es1]
 by_cases q1:(es1.all fun e=>decide (fM ps l false e.1<=bQ es1 M e.1))=true
 rotate_left
 ·refine cW (by rw [eh.mpr q1];rfl) ?_;have:=k _ s05;unfold xS at this;simp only [<- eT] at this;rw [eh.mpr q1,wc,dw,dw] at this;exact this
 refine cM (by rw [q1];decide) ?_;clear s5 s hla T1;refine ⟨_,rfl,t2,rfl,⟨_,aV.of (s05 _ _ h2)⟩,cP (xs:=us2) (fun i ys σ G'=>aT H5 G'/\(∃ v1 v2,σ=[v1,v2,some (.ref p4),some (.ref tt)])/\ys=((es2.take i).map fun e=>decide (bQ (dJ fac es2) M e.1 < fM ps l true e.1)).map V.bl) (aK (by omega)) ⟨aT.refl _,⟨_,_,rfl⟩,rfl⟩ (by rintro i ys σ G' ⟨_,_,e⟩;rw [e,af,af,cq];exact vj _ _) (by rintro i ys σ G' _ ⟨s,_⟩;exact aV.of (s _ _ (s05 _ _ h2))) ?_ ?_⟩
 ·rintro i u ys σ G2 hu ⟨s,⟨v1,v2,rfl⟩,rfl⟩;obtain ⟨e,he,me,t,x,p,rfl,ht,vx,hp⟩:=dO.at tw2 hu;have sG:=s05.trans s;refine ⟨t,_,rfl,aV.of (sG _ _ ht),rfl,_,_,rfl,_,_,rfl,rfl,?_⟩;have so:=A.ask.o2.at me;refine ⟨_,rfl,_,rfl,p4,p,_,_,_,_,rfl,sG _ _ A.ask.hf,sG _ _ hp,A.ask.of.b1.1,A.ask.of.b1.2,so.1.b1.1,so.1.b1.2,A.ask.of.b,so.1.b,fun rt hrt=>?_⟩;have s1:=aB hrt (.tup (eP (fac.1 * e.2.1) (fac.2 * e.2.2)));obtain ⟨_,_,el2,_⟩:=Z.oth me;have ft:bO (aJ G2 rt (.tup (eP (fac.1 * e.2.1) (fac.2 * e.2.2)))) rt (bQ (dJ fac es2) M e.1) M:=by unfold bO;rw [<- el2];exact aC
  generalize aJ G2 rt (.tup (eP (fac.1 * e.2.1) (fac.2 * e.2.2)))=G3 at s1 ft ⊢;have s3:=s.trans s1;obtain ⟨ll,L,lz⟩:=T2.same s3;refine ⟨_,rfl,tt,rfl,kQ L.d,_,rfl,cE,fun z hz=>?_⟩;have s2:=aB hz (.tup [.int 0,.int 1]);obtain ⟨ll2,L2,lz2⟩:=dQ.same ⟨ll,L,lz⟩ s2;refine ⟨_,fS L2.d L2.v ((vx.ts (TS.of (s05.trans s3))).ts (TS.of s2)),?_⟩;obtain ⟨r,er,fr⟩:=L2.get M1 (show cC _ z 0 1 from aC) e.1;rw [er];obtain ⟨B1,B2,B3,B4,el⟩:=nX (Z.a2 me).1 (Z.a2 me).2 (bT true e.1).1 (by have:=(bT true e.1).2;omega) M1 M2;refine ⟨rt,r,_,_,_,_,rfl,s2 _ _ ft,fr,B1,B2,B3,B4,?_⟩;rw [el];refine ⟨s3.trans s2,⟨_,_,rfl⟩,?_⟩;rw [aU he,bj,bj];rfl
 rintro ys σ G' ⟨s,_,rfl⟩ la hla;refine ⟨la,(es2.take us2.length).map fun e=>decide (bQ (dJ fac es2) M e.1 < fM ps l true e.1),rfl,bK.of aC,_,rfl,?_⟩;have s6:=s05.trans (s.trans (aB hla (.lst (((es2.take us2.length).map fun e=>decide (bQ (dJ fac es2) M e.1 < fM ps l true e.1)).map V.bl))));generalize aJ G' la (.lst (((es2.take us2.length).map fun e=>decide (bQ (dJ fac es2) M e.1 < fM ps l true e.1)).map V.bl))=H6 at s6 ⊢;rw [l2,be,aQ3 (fun e:En=>bQ (dJ fac es2) M e.1) (fun e:En=>fM ps l true e.1) es2]
 by_cases q2:(es2.all fun e=>decide (fM ps l true e.1<=bQ (dJ fac es2) M e.1))=true
 rotate_left
 ·refine cW (by rw [eh.mpr q2];rfl) ?_;have:=k _ s6;unfold xS at this;simp only [<- eT] at this;rw [eh.mpr q2,wc,dw] at this;exact this
 refine cM (by rw [q2];decide) ?_;clear s hla T2;obtain ⟨xs6,hd6,lx6,wk6⟩:=(G.same s6).h.walk;refine ⟨_,rfl,d,xs6.map (·.2.2),rfl,.inr (.inr ⟨xs6,.inl hd6,rfl⟩),fun vv hvv=>⟨vv,d,xs6.map (·.2.2),rfl,aC,.inr (.inr ⟨xs6,.inl (aB hvv _ _ _ hd6),rfl⟩),fun lv hlv=>?_⟩⟩;have s7:=(aB hvv (pL vv d)).trans (aB hlv (.lst (xs6.map (·.2.2))));have g7:aJ (aJ H6 vv (pL vv d)) lv (.lst (xs6.map (·.2.2))) lv=some (.lst (xs6.map (·.2.2))):=aC;generalize aJ (aJ H6 vv (pL vv d)) lv (.lst (xs6.map (·.2.2)))=H7 at s7 g7 ⊢;have tw7:bX (FrR H7) (xs6.map (·.2.2)) (ps.map fun e=>aI (l e) M):=aH5 (by rw [af,af];exact lx6) fun i v f hv hf=>by
  rw [bf] at hv hf;obtain ⟨x,hx,rfl⟩:=ge.mp hv;obtain ⟨e,he,rfl⟩:=ge.mp hf;obtain ⟨e',q,he',eq,hq,_⟩:=wk6 i x hx
  cases da (he.symm.trans he')
  exact ⟨q,eq,s7 _ _ hq⟩
 have ms:=lD M1 M2 (ps.map l) 0 (by omega) (fun m hm=>by obtain ⟨e,he,rfl⟩:=ap.mp hm;exact nn e he) (by omega);rw [bg,vg,cQ M1] at ms;refine ⟨lv,xs6.map (·.2.2),ps.map fun e=>aI (l e) M,rfl,g7,tw7,ms.1,fun H8 q8 s8 f8=>?_⟩;rw [show (ps.map fun e=>aI (l e) M).foldl iP (0,1)=aI (ps.map l).sum M from ms.2] at f8;have s08:=(s6.trans s7).trans s8;have sn:=iJ nn;refine ⟨_,rfl,q8,p5,_,_,rfl,f8,s08 _ _ h5,bH sn (by omega) M1 (by omega),bH r0 (by omega) M1 (by omega),fun r9 hr9=>?_⟩;rw [dU sn r0 M1];refine ⟨cE,fun z hz=>?_⟩;have s9:=(aB hr9 (.tup [.int (aI ((ps.map l).sum+rM) M).1,.int (aI ((ps.map l).sum+rM) M).2])).trans (aB hz (.tup [.int 1,.int 1]));have f1:bO (aJ (aJ H8 r9 (.tup [.int (aI ((ps.map l).sum+rM) M).1,.int (aI ((ps.map l).sum+rM) M).2])) z (.tup [.int 1,.int 1])) z M M:=by unfold bO;rw [lY M1];exact aC
 have F1:=bH (m:=(ps.map l).sum+rM) (M:=M) (by omega) (by omega) M1 (by omega);have F2:=bH (m:=M) (M:=M) (by omega) (by omega) M1 (by omega);refine ⟨r9,z,_,_,_,_,rfl,aB hz _ _ _ aC,f1,F1.1,F1.2.1,F2.1,F2.2.1,?_⟩;have el:=gJ (m:=(ps.map l).sum+rM) (n:=M) (by omega) (by omega) M1;unfold ltF at el;rw [el];refine ⟨_,rfl,?_⟩;have:=k _ (s08.trans s9);unfold xS at this;simp only [<- eT] at this;rw [al,q1,q2,ji,ji,ji, <- eS,show decide (M<=(ps.map l).sum+rM)= !decide ((ps.map l).sum+rM < M) by rw [<- decide_not];exact eu.mpr (by omega)] at this;exact this
theorem bC6 (C_Come:Cl P w K mg base 4 spCome "come_to") (C_Times:Cl P w K mg base 3 spTimes "times") (C_Less:Cl P w K mg base 1 spLessF "less") (C_Add:Cl P w K mg base 3 spAdd "added") (C_Ris:Cl P w K mg base 2 spRiseT "are_rising") (m_dict:mg "dict"=none) (m_all:mg "all"=none):hU P w K mg base "is_breaking" "is_breaking" bM4 5 ["one","other","pairs","factor","rest","answers"] spBkB:=by
 refine jU ["one","other","pairs","factor","rest","answers","shares","chosen","partners","share","limit"] fun H Q nd hr h=>?_
 obtain ⟨b,t1,t2,p3,p4,p5,ta,c1,c2,es1,es2,fac,ws3,prs,us,zs,M,rM,rfl,A,m,ha,tz,zl,h5,r0,r1,k⟩:=h;have hu:=iU hr;have hr1:bW 1 _:=hr.mono (by decide);refine ⟨_,(eJ 6 nd (qQ (kH hr1) m_dict ia (aP (pv 0)))
  (aG (bN (PW.pt (wH (tP (gR (nU pM m_all uh (aP (cG ["x","shares"] [none,some 6] (cT (pv 5)) (fun _ _ _ _=>(dR 0)) (fun _ _ _ _=>eB) (fun _ _ _ _=>(aM0 (bD4 hr (pv 0) (pv 1))))))))) (tS (tP (gR (bV C_Ris hr (aP (pv 5)))))))) (aF (aQ gO)) aS)
  (eJ 7 nd (qQ (kE hr1) m_dict ia (aP (cG ["x"] [none] (cT (pv 5)) (fun _ _ _ _=>(dR 0)) (fun _ _ _ _=>eB) (fun _ _ _ _=>(aX (aA (pv 0) (aP gO)))))))
  (eJ 8 nd (qQ (kE hr1) m_dict ia (aP (cG ["x","y","chosen"] [none,none,some 7] (cT (pv 2)) (fun _ _ _ _=>(nG K (n:=2) rfl (aL (dR 0) (aL (dR 1) bG)))) (fun _ _ _ _=>(iZ (zH (xK hu (pv 0) (pv 2))))) (fun _ _ _ _=>(aX (aA (pv 1) (aP gO)))))))
  (eJ 9 nd (bV C_Come hr (aP (cG ["x","shares"] [none,some 6] (cT (pv 5)) (fun _ _ _ _=>(dR 0)) (fun _ _ _ _=>eB) (fun _ _ _ _=>(pdg hu (pv 1) (pv 0))))))
  (eJ 10 nd (bV C_Times hr (aA (pv 3) (aP (bV C_Come hr (aP (cG ["y","part","partners"] [none,none,some 8] (cT (pv 1)) (fun _ _ _ _=>(nG K (n:=2) rfl (aL (dR 0) (aL (dR 1) bG)))) (fun _ _ _ _=>(iZ (zH (xK hu (pv 0) (pv 2))))) (fun _ _ _ _=>(pv 1))))))))
  (aF (aQ (bV C_Less hr (aA (bV C_Add hr (aA (pv 10) (aP (pv 4)))) (aP (pv 9)))))))))))),?_⟩
 have Z:=A.scl m;have M1:=m.m1;have M2:=m.m2;obtain ⟨us1,h1,tw1⟩:=A.ask.h1;obtain ⟨us2,h2,tw2⟩:=A.ask.h2;have l1:=tw1.length;have l2:=tw2.length;have z1:=A.ask.o1.l2;have z2:=A.ask.o2.l2;have z3:=A.ly.zp;have l3:=A.tw3.length;have C1:=A.ask.o2.c1;have C2:=A.ask.o2.c2;have luz:=tz.length;have upk:=A.ask.o1.up;obtain ⟨o,o0,od⟩:=aC2 (aK (by omega)) A.ask.o1.nd tw1;refine ⟨_,rfl,t1,us1,o,rfl,h1,o0,fun d hd=>⟨(od d hd).1,?_⟩⟩;obtain ⟨_,hD,sD⟩:=od d hd;generalize aJ H d (o us1.length)=H1 at hD sD ⊢;have no:¬ iL b (es1.map (·.1)) zs->(∀ H',aT H H'->Q (.bl false) H'):=fun z H' s=>by
  have:=k H' s;unfold xY at this;rw [bu z,dw] at this;exact this
 refine ⟨_,rfl,ta,rfl,⟨_,aV.of (sD _ _ ha)⟩,cP (xs:=us) (fun i ys σ G'=>G'=H1/\(∃ v1,σ=[v1,some (.ref d)])/\ys=((zs.take i).map fun z=>decide (z.1=b/\z.2∈es1.map fun e:En=>e.1)).map V.bl) (aK (by omega)) ⟨rfl,⟨_,rfl⟩,rfl⟩ (by rintro i ys σ G' ⟨_,_,e⟩;rw [e,af,af,cq];exact vj _ _) (by rintro i ys σ G' _ ⟨e,_⟩;rw [e];exact aV.of (sD _ _ ha)) ?_ ?_⟩
 ·rintro i u ys σ G' hu ⟨rfl,⟨v1,rfl⟩,rfl⟩;obtain ⟨z,hiz,vz⟩:=tz.at hu;have vz1:=vz.ts (TS.of sD);rw [aU hiz,bj,bj];refine ⟨_,rfl,_,rfl,d,rfl,?_⟩
  by_cases c:z.1=b
  ·have va:dG b G' u z.2:=by
    have:=vz1;unfold hJ at this;rw [c] at this;exact this
   obtain ⟨o',g',r'⟩:=hD.get va;refine .inl ⟨o',g',rfl,⟨_,rfl⟩,?_⟩;rw [bD5 r']
   congr 3
   unfold eK;exact eu.mpr ⟨fun q=>⟨c,q⟩,fun q=>q.2⟩
  ·obtain ⟨l0,hl0,_⟩:=id hD;refine .inr ⟨bS6 hl0 vz1 c,rfl,⟨_,rfl⟩,?_⟩
   congr 1
   show [V.bl false]=[V.bl (decide (z.1=b/\z.2∈es1.map fun e:En=>e.1))]
   rw [bu fun q=>c q.1]
 rintro ys σ G' ⟨rfl,_,rfl⟩ lz hlz;have s2:=sD.trans (aB hlz (.lst (((zs.take us.length).map fun z=>decide (z.1=b/\z.2∈es1.map fun e:En=>e.1)).map V.bl)));replace hD:=hD.same (aB hlz (.lst (((zs.take us.length).map fun z=>decide (z.1=b/\z.2∈es1.map fun e:En=>e.1)).map V.bl)));refine ⟨lz,(zs.take us.length).map fun z=>decide (z.1=b/\z.2∈es1.map fun e:En=>e.1),rfl,bK.of aC,_,rfl,?_⟩;generalize aJ G' lz (.lst (((zs.take us.length).map fun z=>decide (z.1=b/\z.2∈es1.map fun e:En=>e.1)).map V.bl))=H2 at s2 hD ⊢;rw [luz,be]
 by_cases w1:(zs.map fun z=>decide (z.1=b/\z.2∈es1.map fun e:En=>e.1)).all id=true
 rotate_left
 ·refine cW (by rw [eh.mpr w1];rfl) (cW rfl (no (fun z=>w1 ?_) _ s2));rw [qw];exact dz.mpr fun y hy=>am (((tV upk).mp z).1 y hy)
 refine cM (by rw [w1];decide) ?_;have mz:∀ z∈zs,z.1=b/\z.2∈es1.map fun e:En=>e.1:=fun z hz=>by
  rw [qw] at w1;exact bc (dz.mp w1 z hz)
 generalize eas:jA b zs=as;have ezs:zs=as.map fun a=>(b,a):=by
  rw [<- eas];have:∀ zs:List Bn,(∀ z∈zs,z.1=b)->zs=(jA b zs).map fun a=>(b,a):=by
   intro zs
   induction zs with
   |nil=>intro _;rfl
   |cons z r ih =>
    intro q;have hz:=q z au;have e2:jA b (z :: r)=z.2 :: jA b r:=by
     unfold jA;rw [re (b:=z.2) (by rw [bb hz])]
    rw [e2,ar, <- ih fun y hy=>q y (ba _ hy), <- hz]
  exact this zs fun z hz=>(mz z hz).1
 have ta2:bX (dG b H) us as:=aQ0 (by rw [<- ezs];exact tz);have la:=ta2.length;refine ⟨_,rfl,ta,us,b,as,rfl,s2 _ _ ha,ta2.mono (fun _ _ z=>dG.ts (TS.of s2) z),by omega,fun H3 s23=>⟨_,rfl,?_⟩⟩
 by_cases w2:kZ as=true
 rotate_left
 ·refine cW (by rw [eh.mpr w2];rfl) (no (fun z=>w2 ?_) _ (s2.trans s23));have:=((tV upk).mp z).2
  rwa [eas] at this
 refine cM (by rw [w2];decide) ?_;have so:iL b (es1.map fun e:En=>e.1) zs:=(tV upk).mpr ⟨mz,by rw [eas];exact w2⟩;have ea:as=(es1.map fun e:En=>e.1).filter (eK as):=by
  have:=so.an.1
  rwa [eas] at this
 have las:as.length<=12:=by
  have:=cg List.length ea;have q:=je (eK as) (es1.map (·.1));rw [af] at q;omega
 have mas:∀ a∈as,∃ e∈es1,e.1=a:=fun a ha'=>by
  rw [ea] at ha';exact ap.mp (fi.mp ha').1
 have nda:as.Nodup:=by rw [ea];exact A.ask.o1.nd.sublist vn
 have s3:=s2.trans s23;replace hD:=hD.same s23;refine ⟨_,rfl,ta,rfl,⟨_,aV.of (s3 _ _ ha)⟩,cP (xs:=us) (fun i ys σ G=>aT H3 G/\(∃ v1,σ=[v1])/\bX (PrA b G) ys ((as.take i).map fun a=>(a,.bl true))) (aK (by omega)) ⟨aT.refl _,⟨_,rfl⟩,trivial⟩ (by rintro i ys σ G ⟨_,_,t⟩;rw [t.length,af,cq];omega) (by rintro i ys σ G _ ⟨s,_⟩;exact aV.of (s _ _ (s3 _ _ ha))) ?_ ?_⟩
 ·rintro i u ys σ G hu ⟨s,⟨v1,rfl⟩,t⟩;obtain ⟨a,hia,va⟩:=ta2.at hu;refine ⟨_,rfl,cE,fun r hr'=>⟨s.trans (aB hr' _),⟨_,rfl⟩,?_⟩⟩;have tr:=TS.of (aB hr' (.tup [u,.bl true]));rw [aU hia,bj];exact bX.append (t.mono fun _ _ ⟨c,w,w1,w2,w3⟩=>⟨c,w,w1,tr _ _ w2,w3.ts tr⟩) ⟨⟨r,u,rfl,aC,(va.ts (TS.of (s3.trans s))).ts tr⟩,trivial⟩
 rintro ys4 σ4 G4 ⟨s4,_,t4⟩ lc hlc;rw [la,be] at t4;have ly:=t4.length;rw [af] at ly;have tl4:=TS.of (aB hlc (.lst ys4));have vas:∀ e∈as.map (fun a=>(a,V.bl true)),VA b e.1:=fun e he=>by
  obtain ⟨a,ha',rfl⟩:=ap.mp he;exact bB7 ta2 a ha'
 refine ⟨lc,ys4,fun i=>fA b ((as.map fun a=>(a,V.bl true)).take i),rfl,aC,lL b,fun dc hdc=>⟨lO (t4.mono fun _ _ ⟨c,w,w1,w2,w3⟩=>⟨c,w,w1,tl4 _ _ w2,w3.ts tl4⟩) (by rw [bg];exact (aBi _).symm ▸ nda) (aK (by rw [af];omega)) hdc vas,?_⟩⟩;have eA:(as.map fun a=>(a,V.bl true)).take ys4.length=as.map fun a=>(a,V.bl true):=kb (by rw [af];omega)
 dsimp only
 rw [eA];have s5:=s4.trans ((aB hlc (.lst ys4)).trans (aB hdc (fA b (as.map fun a=>(a,V.bl true)))));have hc5:aJ (aJ G4 lc (.lst ys4)) dc (fA b (as.map fun a=>(a,V.bl true))) dc=some (fA b (as.map fun a=>(a,V.bl true))):=aC;generalize aJ (aJ G4 lc (.lst ys4)) dc (fA b (as.map fun a=>(a,V.bl true)))=H5 at s5 hc5 ⊢;replace hD:=hD.same s5;replace s5:=s3.trans s5;have cin:∀ x,bZ (as.map fun a=>(a,V.bl true)) x=if eK as x=true then some (.bl true) else none:=fun x=>by
  by_cases c:x∈as
  ·rw [bb (show eK as x=true from am c)];exact aS5 c
  ·rw [ao (show ¬ eK as x=true from fun z=>c (bc z))];exact aU9 c
 refine ⟨_,rfl,p3,rfl,⟨_,aV.of (s5 _ _ A.h3)⟩,cP (xs:=ws3) (fun i ys σ G=>aT H5 G/\(∃ v1 v2,σ=[v1,v2,some (.ref dc)])/\bX (PrA b G) ys (((prs.take i).filter fun e=>eK as e.1).map fun e=>(e.2,.bl true))) (aK (by omega)) ⟨aT.refl _,⟨_,_,rfl⟩,trivial⟩ (by rintro i ys σ G ⟨_,_,t⟩;rw [t.length,af];exact cj (je _ _) (by rw [cq];omega)) (by rintro i ys σ G _ ⟨s,_⟩;exact aV.of (s _ _ (s5 _ _ A.h3))) ?_ ?_⟩
 ·rintro i u ys σ G hu ⟨s,⟨v1,v2,rfl⟩,t⟩;obtain ⟨e,he,tt,a1,a2,rfl,hh,va1,va2⟩:=A.tw3.at hu;have sG:=s5.trans s;refine ⟨tt,_,rfl,aV.of (sG _ _ hh),rfl,_,_,rfl,_,_,rfl,rfl,?_⟩;have dg:=fS (s _ _ hc5) vas (va1.ts (TS.of sG));rw [cin] at dg;refine ⟨_,rfl,_,rfl,dc,_,rfl,dg,_,rfl,?_⟩;rw [aU he,oq,bj]
  by_cases c:eK as e.1=true
  ·rw [bb c];refine cW rfl ⟨_,rfl,cE,fun r hr'=>⟨s.trans (aB hr' _),⟨_,_,rfl⟩,?_⟩⟩;have tr:=TS.of (aB hr' (.tup [a2,.bl true]));rw [jp (p:=fun e:Pr2=>eK as e.1) c,jh];exact bX.append (t.mono fun _ _ ⟨c,w,w1,w2,w3⟩=>⟨c,w,w1,tr _ _ w2,w3.ts tr⟩) ⟨⟨r,a2,rfl,aC,(va2.ts (TS.of sG)).ts tr⟩,trivial⟩
  ·rw [ao c];refine cM (by decide) ⟨s,⟨_,_,rfl⟩,?_⟩;rw [iq (p:=fun e:Pr2=>eK as e.1) c,jh,kg,nv];exact t
 rintro ys6 σ6 G6 ⟨s6,_,t6⟩ lp hlp;rw [l3,be] at t6;have ly6:=t6.length;have lf6:((prs.filter fun e=>eK as e.1).map fun e=>(e.2,V.bl true)).length<=200:=by rw [af];exact cj (je _ _) z3
 have tl6:=TS.of (aB hlp (.lst ys6));have vps:∀ e∈(prs.filter fun e=>eK as e.1).map (fun e=>(e.2,V.bl true)),VA b e.1:=fun e he=>by
  obtain ⟨f,hf,rfl⟩:=ap.mp he;exact aI9 tw2 _ (A.ly.pr f (fi.mp hf).1).2
 refine ⟨lp,ys6,fun i=>fA b (jS (((prs.filter fun e=>eK as e.1).map fun e=>(e.2,V.bl true)).take i)),rfl,aC,lL b,fun dp hdp=>⟨aG4 (t6.mono fun _ _ ⟨c,w,w1,w2,w3⟩=>⟨c,w,w1,tl6 _ _ w2,w3.ts tl6⟩) (aK (by omega)) hdp vps,?_⟩⟩
 dsimp only
 rw [ly6,be];generalize eF:jS ((prs.filter fun e=>eK as e.1).map fun e=>(e.2,V.bl true))=F;have s7:=s6.trans ((aB hlp (.lst ys6)).trans (aB hdp (fA b F)));have hp7:aJ (aJ G6 lp (.lst ys6)) dp (fA b F) dp=some (fA b F):=aC;generalize aJ (aJ G6 lp (.lst ys6)) dp (fA b F)=H7 at s7 hp7 ⊢;replace hD:=hD.same s7;replace s7:=s5.trans s7;have vF:∀ e∈F,VA b e.1:=by rw [<- eF];exact pH _ [] vps (fun _ z=>absurd z bh)
 have pin:∀ y,(bZ F y).isSome=mB prs (eK as) y:=fun y=>by
  rw [ir, <- eF];unfold jS;rw [oO];unfold mB;rw [gu]
  constructor
  ·rintro (h | h)
   ·rw [bg] at h;obtain ⟨f,hf,q⟩:=ap.mp h;obtain ⟨f1,f2⟩:=fi.mp hf;exact ⟨f,f1,by rw [fb];exact ⟨am q,f2⟩⟩
   ·cases h
  ·rintro ⟨f,hf,q⟩;rw [fb] at q;exact .inl (by rw [bg];exact ap.mpr ⟨f,fi.mpr ⟨hf,q.2⟩,bc q.1⟩)
 have gb:∀ a,0<=bQ es1 M a:=Z.nn1;have sumA:(as.map (bQ es1 M)).sum=hM es1 M as:=by unfold hM zP;rw [<- ea]
 have n0:=Z.hb as;refine ⟨_,rfl,ta,rfl,⟨_,aV.of (s7 _ _ ha)⟩,cP (xs:=us) (fun i ys σ G=>G=H7/\(∃ v1,σ=[v1,some (.ref d)])/\bX (FrR H7) ys ((as.take i).map fun a=>aI (bQ es1 M a) M)) (aK (by omega)) ⟨rfl,⟨_,rfl⟩,trivial⟩ (by rintro i ys σ G ⟨_,_,t⟩;rw [t.length,af,cq];omega) (by rintro i ys σ G _ ⟨e,_⟩;rw [e];exact aV.of (s7 _ _ ha)) ?_ ?_⟩
 ·rintro i u ys σ G hu ⟨rfl,⟨v1,rfl⟩,t⟩;obtain ⟨a,hia,va⟩:=ta2.at hu;obtain ⟨e,me,rfl⟩:=mas a (bo hia);obtain ⟨p,gp,tp⟩:=aE7 hD (va.ts (TS.of s7)) (sP A.ask.o1.nd e me);refine ⟨_,rfl,_,rfl,d,_,rfl,gp,rfl,⟨_,rfl⟩,?_⟩;rw [aU hia,bj];exact bX.append t ⟨⟨p,rfl,by show cC _ p (aI (bQ es1 M e.1) M).1 (aI (bQ es1 M e.1) M).2;rw [<- (Z.one me).1];exact tp⟩,trivial⟩
 rintro ys8 σ8 G8 ⟨rfl,_,t8⟩ ls hls;rw [la,be] at t8;have ms:=lD M1 M2 (as.map (bQ es1 M)) 0 (by omega) (fun m hm=>by obtain ⟨e,he,rfl⟩:=ap.mp hm;exact gb e) (by rw [sumA];omega);rw [bg,vg,cQ M1,sumA] at ms;have sl:=aB hls (.lst ys8);refine ⟨ls,ys8,as.map fun a=>aI (bQ es1 M a) M,rfl,aC,t8.mono (by rintro _ _ ⟨q,e1,e2⟩;exact ⟨q,e1,sl _ _ e2⟩),ms.1,fun H9 q9 s9 f9=>?_⟩;rw [show (as.map fun a=>aI (bQ es1 M a) M).foldl iP (0,1)=aI (hM es1 M as) M from ms.2] at f9;have s89:=sl.trans s9;have hp9:=s89 _ _ hp7;have s09:=s7.trans s89;have nnc:=Z.nnc;have nb:=lU (mB prs (eK as)) (l:=es2.map (·.1)) nnc (es2.map (·.1)).length;rw [be,nO A.ask.o2] at nb;refine ⟨_,rfl,_,rfl,t2,rfl,⟨_,aV.of (s09 _ _ h2)⟩,cP (xs:=us2) (fun i ys σ G=>G=H9/\(∃ v1 v2,σ=[v1,v2,some (.ref dp)])/\bX (FrR H9) ys ((((es2.map (·.1)).take i).filter (mB prs (eK as))).map fun y=>aI (bQ es2 c2 y) c2)) (aK (by omega)) ⟨rfl,⟨_,_,rfl⟩,trivial⟩ (by rintro i ys σ G ⟨_,_,t⟩;rw [t.length,af];exact cj (je _ _) (by rw [cq];omega)) (by rintro i ys σ G _ ⟨e,_⟩;rw [e];exact aV.of (s09 _ _ h2)) ?_ ?_⟩
 ·rintro i u ys σ G hu ⟨rfl,⟨v1,v2,rfl⟩,t⟩;obtain ⟨e,he,me,tt,y,p,rfl,ht,vy,hp⟩:=dO.at tw2 hu;refine ⟨tt,_,rfl,aV.of (s09 _ _ ht),rfl,_,_,rfl,_,_,rfl,rfl,?_⟩;refine ⟨_,rfl,_,rfl,dp,_,rfl,fS hp9 vF (vy.ts (TS.of s09)),_,rfl,?_⟩;rw [pin,aU (lK (f:=fun e:En=>e.1) he),oq,bj]
  by_cases c:mB prs (eK as) e.1=true
  ·refine cW c ⟨_,rfl,rfl,⟨_,_,rfl⟩,?_⟩;rw [jp c,jh];exact bX.append t ⟨⟨p,rfl,by show cC _ p (aI (bQ es2 c2 e.1) c2).1 (aI (bQ es2 c2 e.1) c2).2;rw [<- (Z.oth me).1];exact s09 _ _ hp⟩,trivial⟩
  ·refine cM c ⟨rfl,⟨_,_,rfl⟩,?_⟩;rw [iq c,jh,kg,nv];exact t
 rintro ysA σA GA ⟨rfl,_,tA⟩ lA hlA;rw [l2,show es2.length=(es2.map (·.1)).length from (af ..).symm,be] at tA;have mA:=lD C1 (by omega) (((es2.map (·.1)).filter (mB prs (eK as))).map (bQ es2 c2)) 0 (by omega) (fun m hm=>by obtain ⟨e,he,rfl⟩:=ap.mp hm;exact nnc e) (by omega);rw [bg,vg,cQ C1] at mA;have sA:=aB hlA (.lst ysA);refine ⟨lA,ysA,((es2.map fun e:En=>e.1).filter (mB prs (eK as))).map fun y=>aI (bQ es2 c2 y) c2,rfl,aC,tA.mono (by rintro _ _ ⟨q,e1,e2⟩;exact ⟨q,e1,sA _ _ e2⟩),mA.1,fun HB qB sB fB=>?_⟩;rw [show (((es2.map (·.1)).filter (mB prs (eK as))).map fun y=>aI (bQ es2 c2 y) c2).foldl iP (0,1)=aI (((es2.map (·.1)).filter (mB prs (eK as))).map (bQ es2 c2)).sum c2 from mA.2] at fB;have sAB:=sA.trans sB;have s0B:=s09.trans sAB;have fq:=bH nb.1 (show _ < (2:Int) ^ 180 by omega) C1 (show c2 < 2 ^ 180 by omega);have et:=Z.et prs as
 refine ⟨p4,qB,_,_,_,_,rfl,s0B _ _ A.ask.hf,fB,A.ask.of.b1.1,A.ask.of.b1.2,fq.1,fq.2.1,A.ask.of.b,fq.2.2,fun rC hrC=>?_⟩;have sC:=aB hrC (.tup (eP (fac.1 * (aI (((es2.map (·.1)).filter (mB prs (eK as))).map (bQ es2 c2)).sum c2).1) (fac.2 * (aI (((es2.map (·.1)).filter (mB prs (eK as))).map (bQ es2 c2)).sum c2).2)));have fC:bO (aJ HB rC (.tup (eP (fac.1 * (aI (((es2.map (·.1)).filter (mB prs (eK as))).map (bQ es2 c2)).sum c2).1) (fac.2 * (aI (((es2.map (·.1)).filter (mB prs (eK as))).map (bQ es2 c2)).sum c2).2)))) rC (tM prs es2 fac M as) M:=by unfold bO;rw [<- et];exact aC
 have s0C:=s0B.trans sC;have f9C:=sC _ _ (sAB _ _ f9);generalize aJ HB rC (.tup (eP (fac.1 * (aI (((es2.map (·.1)).filter (mB prs (eK as))).map (bQ es2 c2)).sum c2).1) (fac.2 * (aI (((es2.map (·.1)).filter (mB prs (eK as))).map (bQ es2 c2)).sum c2).2)))=HC at fC s0C f9C ⊢;have t0:=Z.tb prs as;refine ⟨_,rfl,_,rfl,rC,p5,_,_,rfl,fC,s0C _ _ h5,bH t0.1 (by omega) M1 (by omega),bH r0 (by omega) M1 (by omega),fun rE hrE=>?_⟩;rw [dU t0.1 r0 M1];have sE:=aB hrE (.tup [.int (aI (tM prs es2 fac M as+rM) M).1,.int (aI (tM prs es2 fac M as+rM) M).2]);have F1:=bH (m:=tM prs es2 fac M as+rM) (M:=M) (by omega) (by omega) M1 (by omega);have F2:=bH (m:=hM es1 M as) (M:=M) n0.1 (by omega) M1 (by omega);refine ⟨_,rfl,rE,q9,_,_,_,_,rfl,aC,sE _ _ f9C,F1.1,F1.2.1,F2.1,F2.2.1,?_⟩;have el:=gJ (m:=tM prs es2 fac M as+rM) (n:=hM es1 M as) (by omega) n0.1 M1;unfold ltF at el;rw [el];have:=k _ (s0C.trans sE);unfold xY at this
 rw [am so,ji,eas,show decide (rM+tM prs es2 fac M as < hM es1 M as)=decide (tM prs es2 fac M as+rM < hM es1 M as) from eu.mpr (by omega)] at this;exact this
theorem bI2 (C_IsP:Cl P w K mg base 5 (aB8 P w) "is_pairing") (C_IsB:Cl P w K mg base 5 spBkB "is_breaking"):hU P w K mg base "shows" "shows" bN0 6 ["one","other","pairs","factor","rest","told"] (aY9 P w):=by
 refine jU ["one","other","pairs","factor","rest","told"] fun H Q nd hr h=>?_
 obtain ⟨b,t1,t2,p3,p4,p5,r,c1,c2,es1,es2,fac,ws3,prs,M,rM,v,rfl,A,m,h5,r0,r1,T,k⟩:=h;refine ⟨_,(aG (bN (gF dW (cS aM (pv 5) aD) dH) (aF (aQ (bV C_IsP hr (aA (pv 0) (aA (pv 1) (aA (pv 2) (aA (pv 3) (aA (pv 4) (aP (cS aM (pv 5) aD)))))))))) aS)
  (aG (bN (gF dW (cS aM (pv 5) aD) dH) (aF (aQ (bV C_IsB hr (aA (pv 0) (aA (pv 1) (aA (pv 2) (aA (pv 3) (aA (pv 4) (aP (cS aM (pv 5) aD)))))))))) aS)
  (aF (aQ gO)))),?_⟩
 rcases T with ⟨d,es,hr,G,O,rfl⟩ | ⟨t,us,zs,hr,ht,tu,zl,_,rfl⟩
 ·refine ⟨_,rfl,r,_,_,_,rfl,rfl,aV.of hr,rfl,rfl,_,rfl,cW (by decide +kernel) ?_⟩;exact ⟨_,rfl,_,rfl,_,rfl,_,rfl,_,rfl,_,rfl,r,_,_,_,rfl,rfl,aV.of hr,rfl,b,t1,t2,p3,p4,p5,d,c1,c2,es1,es2,fac,ws3,prs,es,M,rM,rfl,A,m,G,O,h5,r0,r1,k⟩
 ·refine ⟨_,rfl,r,_,_,_,rfl,rfl,aV.of hr,rfl,rfl,_,rfl,cM (by decide +kernel) ?_⟩;refine ⟨_,rfl,r,_,_,_,rfl,rfl,aV.of hr,rfl,rfl,_,rfl,cW (by decide +kernel) ?_⟩;exact ⟨_,rfl,_,rfl,_,rfl,_,rfl,_,rfl,_,rfl,r,_,_,_,rfl,rfl,aV.of hr,rfl,b,t1,t2,p3,p4,p5,t,c1,c2,es1,es2,fac,ws3,prs,us,zs,M,rM,rfl,A,m,ht,tu,zl,h5,r0,r1,k⟩
theorem aS3 (C_Plus:Cl P w K mg base 2 spPlus "_law_plus") (C_Blw:Cl P w K mg base 1 spLessF "_law_below") (C_LTim:Cl P w K mg base 2 spTimes "_law_times"):hU P w K mg base "_law_is_pairing" "_law_is_pairing" bA7 3 ["_law_one","_law_other","_law_pairs_here","_law_factor_here","_law_rest_here","_law_shares_here"] (aB8 P w):=by
 refine jU ["_law_one","_law_other","_law_pairs_here","_law_factor_here","_law_rest_here","_law_shares_here","_law_spent","_law_came","_law_come","_law_pair","_law_share","_law_x","_law_y"] fun H Q nd hr h=>?_
 obtain ⟨b,t1,t2,p3,p4,p5,d,c1,c2,es1,es2,fac,ws3,prs,es,M,rM,rfl,A,m,PG,O,h5,r0,r1,k⟩:=h;have hu:=iU hr;have hr2:bW 2 _:=hr.mono (by decide);refine ⟨_,(eJ 6 nd (bJ4 b)
  (eJ 7 nd (bJ4 b)
  (eJ 8 nd (pv 4)
  (aG (uV (pfr (qI (pv 5)) (eU rfl (aL (dR 9 nd) (aL (dR 10 nd) bG)))
  (aG (bN (PW.pt (wH (gF (aY2 K hr) (pv 9) (pv 2)) (tS (gF nA (cS aM (pv 10) aD) aD)))) (aF (aQ gO)) aS)
  (aG (pdp hu (pv 6) (cS aM (pv 9) aD) (bV C_Plus hr (aA (gA hu (pv 6) (cS aM (pv 9) aD) (aX (aA aD (aP aD))) ⟨rfl,rfl,rfl,rfl⟩) (aP (pv 10)))))
  (aG (pdp hu (pv 7) (cS aM (pv 9) aD) (bV C_Plus hr (aA (gA hu (pv 7) (cS aM (pv 9) aD) (aX (aA aD (aP aD))) ⟨rfl,rfl,rfl,rfl⟩) (aP (pv 10)))))
  (aF (psz 8 nd (bV C_Plus hr (aA (pv 8) (aP (pv 10)))))))))))
  (aG (pfr (cT (pv 0)) (eU rfl (aL (dR 11 nd) (aL (dR 10 nd) bG)))
  (aF (bN (gR (bV C_Blw hr (aA (pv 10) (aP (gA hu (pv 6) (pv 11) (aX (aA aD (aP aD))) ⟨rfl,rfl,rfl,rfl⟩))))) (aF (aQ gO)) aS)))
  (aG (pfr (cT (pv 1)) (eU rfl (aL (dR 12 nd) (aL (dR 10 nd) bG)))
  (aF (bN (gR (bV C_Blw hr (aA (bV C_LTim hr (aA (pv 3) (aP (pv 10)))) (aP (gA hu (pv 7) (pv 12) (aX (aA aD (aP aD))) ⟨rfl,rfl,rfl,rfl⟩))))) (aF (aQ gO)) aS)))
  (aF (aQ (aM6 (bV C_Blw hr (aA (pv 8) (aP (aX (aA aD (aP aD))))))))))))))),?_⟩
 obtain ⟨xs,hd,lx,wk⟩:=PG.walk;have Z:=A.scl m;have M1:=m.m1;have M2:=m.m2;have zz:=O.z;have bd:=aT2 (b:=b) O M1;have bs:=xT O M1;have no:nC b prs es≠true->xS b es1 es2 prs fac es rM M=false:=fun q=>by unfold xS;rw [eh.mpr q,dw,dw,dw]
 refine fun g hg=>fun g2 hg2=>⟨_,rfl,?_⟩
 have hg2':H g2=none:=(aB hg _).free hg2;have ngg:g≠g2:=fun z=>by rw [<- z,aC] at hg2;cases hg2
 have ndg:d≠g:=aH hd hg;have ndg2:d≠g2:=aH hd hg2';have s00:aT H (aJ (aJ H g (fA b [])) g2 (fA b [])):=(aB hg _).trans (aB hg2 _);have T01:dQ b (aJ (aJ H g (fA b [])) g2 (fA b [])) g (fun _=>0) M 0:=(dQ.start hg).same (aB hg2 _);have T02:dQ b (aJ (aJ H g (fA b [])) g2 (fA b [])) g2 (fun _=>0) M 0:=dQ.start hg2;generalize aJ (aJ H g (fA b [])) g2 (fA b [])=H0 at s00 T01 T02 ⊢;have hd0:=s00 _ _ hd;have kz:∀ {o:Obj}{c:Addr}{u:HO},c≠d->H0 c=some u->aJ H0 d (.frz o (dN P w d xs)) c=some u:=fun n e=>by rw [aE n];exact e
 refine ⟨_,rfl,d,xs,rfl,hd0,fun o=>qU (P:=P) (w:=w) (d:=d) (o:=o) (xs:=xs) (fun i σ G'=>∃ qc v9 v10,σ=[some (.ref t1),some (.ref t2),some (.ref p3),some (.ref p4),some (.ref p5),some (.ref d),some (.ref g),some (.ref g2),some (.ref qc),v9,v10,none,none]/\aT (aJ H d (.frz o (dN P w d xs))) G'/\dQ b G' g (fO b (es.take i) false) M i/\dQ b G' g2 (fO b (es.take i) true) M i/\bO G' qc (rM+((es.take i).map (·.2)).sum) M/\∀ e∈es.take i,fB b prs e=true) ⟨p5,none,none,rfl,?_,?_,?_,?_,fun e he=>absurd he bh⟩ (by rintro i σ G' _ ⟨_,_,_,_,s,_⟩;exact s _ _ aC) ?_ ?_⟩
 ·exact fun c u e=>by
   by_cases cd:c=d
   ·subst cd;rw [aC] at e ⊢;exact e
   ·rw [aE cd] at e ⊢;exact s00 _ _ e
 ·exact (T01.keep (eO hd0) (fun u e=>kz ndg.symm e)).eq (funext fun _=>rfl)
 ·exact (T02.keep (eO hd0) (fun u e=>kz ndg2.symm e)).eq (funext fun _=>rfl)
 ·rw [zw,kg,List.sum_nil,rc];exact eO hd0 _ _ (s00 _ _ h5)
 ·rintro i x t σ G' hx ht ⟨qc,v9,v10,rfl,s,T1,T2,fc,ga⟩;obtain ⟨e,q,he,ek,eq,hq,qv⟩:=wk i x hx;obtain ⟨u1,u2,hpt,va1',va2'⟩:=id qv;have me:=bo he;have li:=(bq.mp he).1;have le:=O.m e me;rw [eq];have st:=aB ht (.tup [.ref x.2.1,.ref q]);have s1:=s.trans st;replace T1:=T1.same st;replace T2:=T2.same st;replace fc:bO _ qc _ M:=st _ _ fc;have g1:aJ G' t (.tup [.ref x.2.1,.ref q]) t=some (.tup [.ref x.2.1,.ref q]):=aC;generalize aJ G' t (.tup [.ref x.2.1,.ref q])=G1 at s1 T1 T2 fc g1 ⊢;have ts1:TS H G1:=(eO hd).trans (TS.of s1);refine ⟨t,_,rfl,aV.of g1,rfl,_,_,rfl,_,_,rfl,rfl,?_⟩;have A1:=A.ts ts1;have gt:xS b es1 es2 prs fac es rM M=false->(∀ H',aT H H'->Q (.bl false) H'):=fun z H' s=>by have:=k H' s;rw [z] at this;exact this
  have back:=wL hd s1;have fz:=s1 _ _ aC;have hq1:bO G1 q e.2 M:=ts1 _ _ hq;have bad:fB b prs e≠true->xS b es1 es2 prs fac es rM M=false:=fun z=>no fun y=>z (by
   rw [<- xB,qw] at y;exact dz.mp y e me)
  refine ⟨_,rfl,_,rfl,bI1 A1.h3 A1.tw3 (qv.ts ts1) ⟨_,rfl,?_⟩⟩
  by_cases cm:e.1∈prs.map (cX b)
  rotate_left
  ·refine cW (by rw [bu cm];rfl) (cW rfl (.inr ⟨d,o,_,fz,(fun o' u' z=>by cases (show some (HO.ext _)=some (HO.frz o' u') from hd.symm.trans z)),(fun _ z=>by cases z),(fun _ z=>by cases z),gt (bad fun z=>cm ?_) _ back⟩));unfold fB at z;rw [fb] at z;exact bc z.1
  have il:=pK le.1 M1;refine cM (by rw [am cm];decide) ⟨_,rfl,q,_,_,_,rfl,rfl,aV.of hq1,qS _ _,_,_,rfl,rfl,_,rfl,fH (fun c1=> .inr ⟨d,o,_,fz,(fun o' u' z=>by cases (show some (HO.ext _)=some (HO.frz o' u') from hd.symm.trans z)),(fun _ z=>by cases z),(fun _ z=>by cases z),gt (bad fun z=>?_) _ back⟩) (fun c1=>?_)⟩
  ·have c1:eZ e.2 M < 1:=bc c1;unfold fB at z;rw [fb] at z;have:=il.mpr (bc z.2);omega
  have lp:0 < e.2:=il.mp (by
   have c1:¬ eZ e.2 M < 1:=fun z=>c1 (am z)
   omega)
  have fe:fB b prs e=true:=by unfold fB;rw [am cm,am lp];rfl
  obtain ⟨hl,hm,_⟩:=bP8 fe;have va1:dG b H u1 (gT e.1).1:=by
   have:=va1';rw [show e.1.1=(b,(gT e.1).1) from cg Prod.fst hl] at this;exact this
  have va2:dG b H u2 (gT e.1).2:=by
   have:=va2';rw [show e.1.2=(b,(gT e.1).2) from cg Prod.snd hl] at this;exact this
  clear gt back fz bad;obtain ⟨ll,L,lz⟩:=T1;refine ⟨_,rfl,g,rfl,kQ L.d,_,rfl,x.2.1,_,_,_,rfl,rfl,aV.of (ts1 _ _ hpt),rfl,cE,fun z hz=>?_⟩;have s2:=aB hz (.tup [.int 0,.int 1]);obtain ⟨ll2,L2,lz2⟩:=dQ.same ⟨ll,L,lz⟩ s2;have hz2:cC (aJ G1 z (.tup [.int 0,.int 1])) z 0 1:=aC;replace T2:=T2.same s2;replace fc:bO _ qc _ M:=s2 _ _ fc;replace s1:=s1.trans s2;generalize aJ G1 z (.tup [.int 0,.int 1])=G2 at L2 hz2 T2 fc s1 ⊢;clear s2 hz;have ts2:TS H G2:=(eO hd).trans (TS.of s1);refine ⟨_,fS L2.d L2.v (va1.ts ts2),?_⟩;obtain ⟨r,er,fr⟩:=L2.get M1 hz2 (gT e.1).1;rw [er];have b1:=bd i false (gT e.1).1;refine ⟨_,rfl,r,q,_,_,rfl,fr,ts2 _ _ hq,bH b1.1 (by have:=b1.2;omega) M1 (by omega),bH le.1 (by omega) M1 (by omega),fun r2 hr2=>?_⟩;rw [dU b1.1 le.1 M1];obtain ⟨G3,e3,s3,f3⟩:=sX (m:=fO b (es.take i) false (gT e.1).1+e.2) (M:=M) hr2;rw [e3];obtain ⟨ll3,L3,lz3⟩:=dQ.same ⟨ll2,L2,lz2⟩ s3;replace T2:=T2.same s3
  replace fc:bO _ qc _ M:=s3 _ _ fc;replace s1:=s1.trans s3;clear s3 hr2;have ts3:TS H G3:=(eO hd).trans (TS.of s1);refine ⟨_,rfl,_,rfl,x.2.1,_,_,_,rfl,rfl,aV.of (ts3 _ _ hpt),rfl,g,_,rfl,mJ L3.d L3.v (va1.ts ts3) (aK (by omega)),?_⟩;have P1:dQ b _ g (fO b (es.take (i+1)) false) M (i+1):=(L3.put lz3 va1.va f3).eq (sU (sd:=false) he hl).symm;have tg:TS G3 (aJ G3 g (fA b (bF ll3 (gT e.1).1 (.ref r2)))):=fun c us e=>by rw [aE (cF e L3.d uG)];exact e
  replace T2:=T2.keep tg (fun u e=>by rw [aE ngg.symm];exact e);replace fc:bO _ qc _ M:=tg _ _ fc;replace s1:aT _ (aJ G3 g (fA b (bF ll3 (gT e.1).1 (.ref r2)))):=pY s1 (by rw [aE ndg.symm];exact hg);generalize aJ G3 g (fA b (bF ll3 (gT e.1).1 (.ref r2)))=G4 at P1 T2 fc s1 ⊢;clear L3 f3 L2 fr hz2 tg L ts1 ts2 ts3 A1 g1;have ts4:TS H G4:=(eO hd).trans (TS.of s1);obtain ⟨kk,L,lz⟩:=T2;refine ⟨_,rfl,g2,rfl,kQ L.d,_,rfl,x.2.1,_,_,_,rfl,rfl,aV.of (ts4 _ _ hpt),rfl,cE,fun z2 hz=>?_⟩;have s2:=aB hz (.tup [.int 0,.int 1]);obtain ⟨kk2,L2,lz2⟩:=dQ.same ⟨kk,L,lz⟩ s2;have hz2:cC (aJ G4 z2 (.tup [.int 0,.int 1])) z2 0 1:=aC;replace P1:=P1.same s2;replace fc:bO _ qc _ M:=s2 _ _ fc;replace s1:=s1.trans s2;generalize aJ G4 z2 (.tup [.int 0,.int 1])=G5 at L2 hz2 P1 fc s1 ⊢;clear s2 hz;have ts5:TS H G5:=(eO hd).trans (TS.of s1);refine ⟨_,fS L2.d L2.v (va2.ts ts5),?_⟩;obtain ⟨r',er,fr⟩:=L2.get M1 hz2 (gT e.1).2
  rw [er];have b2:=bd i true (gT e.1).2;refine ⟨_,rfl,r',q,_,_,rfl,fr,ts5 _ _ hq,bH b2.1 (by have:=b2.2;omega) M1 (by omega),bH le.1 (by omega) M1 (by omega),fun r3 hr3=>?_⟩;rw [dU b2.1 le.1 M1];obtain ⟨G6,e3,s3,f3⟩:=sX (m:=fO b (es.take i) true (gT e.1).2+e.2) (M:=M) hr3;rw [e3];obtain ⟨kk3,L3,lz3⟩:=dQ.same ⟨kk2,L2,lz2⟩ s3;replace P1:=P1.same s3;replace fc:bO _ qc _ M:=s3 _ _ fc;replace s1:=s1.trans s3;clear s3 hr3;have ts6:TS H G6:=(eO hd).trans (TS.of s1);refine ⟨_,rfl,_,rfl,x.2.1,_,_,_,rfl,rfl,aV.of (ts6 _ _ hpt),rfl,g2,_,rfl,mJ L3.d L3.v (va2.ts ts6) (aK (by omega)),?_⟩;have P2:dQ b _ g2 (fO b (es.take (i+1)) true) M (i+1):=(L3.put lz3 va2.va f3).eq (sU (sd:=true) he hl).symm;have tg:TS G6 (aJ G6 g2 (fA b (bF kk3 (gT e.1).2 (.ref r3)))):=fun c us e=>by rw [aE (cF e L3.d uG)];exact e
  replace P1:=P1.keep tg (fun u e=>by rw [aE ngg];exact e);replace fc:bO _ qc _ M:=tg _ _ fc;replace s1:aT _ (aJ G6 g2 (fA b (bF kk3 (gT e.1).2 (.ref r3)))):=pY s1 (by rw [aE ndg2.symm];exact hg2');generalize aJ G6 g2 (fA b (bF kk3 (gT e.1).2 (.ref r3)))=G7 at P1 P2 fc s1 ⊢;have ts7:TS H G7:=(eO hd).trans (TS.of s1);have b3:=bs i;refine ⟨_,rfl,_,rfl,qc,q,_,_,rfl,fc,ts7 _ _ hq,bH (by omega) (by omega) M1 (by omega),bH le.1 (by omega) M1 (by omega),fun r4 hr4=>⟨r4,_,_,rfl,s1.trans (aB hr4 _),P1.same (aB hr4 _),P2.same (aB hr4 _),?_,?_⟩⟩
  rotate_left
  ·intro y hy;rw [aU he] at hy;rcases cf.mp hy with z | z
   ·exact ga y z
   ·rw [bw.mp z];exact fe
  rw [aU he,bj,ny, <- Int.add_assoc];unfold bO;rw [show ([e].map (·.2)).sum=e.2 by simp, <- dU (by omega) le.1 M1];exact aC
 rintro σ G' ⟨qc,v9,v10,rfl,s,T1,T2,fc,ga⟩;rw [lx,be] at T1 T2 fc ga;have al:nC b prs es=true:=by
  rw [<- xB,qw];exact dz.mpr ga
 refine .inr ⟨d,o,_,s _ _ aC,(fun o' u' z=>by cases (show some (HO.ext _)=some (HO.frz o' u') from hd.symm.trans z)),(fun _ z=>by cases z),(fun _ z=>by cases z),?_⟩;have tsd:TS G' (aJ G' d (dN P w d xs)):=fun c us e=>by rw [aE (cF e (s _ _ aC) (by intro z;cases z))];exact e
 have sH:=wL hd s;replace T1:=T1.keep tsd fun u e=>by rw [aE ndg.symm];exact e
 replace T2:=T2.keep tsd fun u e=>by rw [aE ndg2.symm];exact e
 replace fc:bO _ qc _ M:=tsd _ _ fc;generalize aJ G' d (dN P w d xs)=H1 at sH T1 T2 fc ⊢;clear tsd s;obtain ⟨us1,h1,tw1⟩:=A.ask.h1;obtain ⟨us2,h2,tw2⟩:=A.ask.h2;have bT:∀ sd x,0<=fO b es sd x/\fO b es sd x<=400 * M:=fun sd x=>by have:=bd es.length sd x;rwa [be] at this
 refine ⟨_,rfl,t1,rfl,⟨_,aV.of (sH _ _ h1)⟩,jI (xs:=us1) (fun i σ G'=>∃ v10 v11,σ=[some (.ref t1),some (.ref t2),some (.ref p3),some (.ref p4),some (.ref p5),some (.ref d),some (.ref g),some (.ref g2),some (.ref qc),v9,v10,v11,none]/\aT H1 G'/\∀ e∈es1.take i,fO b es false e.1<=bQ es1 M e.1) ⟨v10,none,rfl,aT.refl _,fun e he=>absurd he bh⟩ (by rintro i σ G' _ ⟨_,_,_,s,_⟩;exact aV.of (s _ _ (sH _ _ h1))) ?_ ?_⟩
 ·rintro i u σ G' hu ⟨v10,v11,rfl,s,gb⟩;obtain ⟨e,he,me,t,x,p,rfl,ht,vx,hp⟩:=dO.at tw1 hu;have sG:=sH.trans s;refine ⟨t,_,rfl,aV.of (sG _ _ ht),rfl,_,_,rfl,_,_,rfl,rfl,?_⟩;obtain ⟨ll,L,lz⟩:=T1.same s;refine ⟨_,rfl,_,rfl,g,rfl,kQ L.d,_,rfl,cE,fun z hz=>?_⟩;have s2:=aB hz (.tup [.int 0,.int 1]);obtain ⟨ll2,L2,lz2⟩:=dQ.same ⟨ll,L,lz⟩ s2;refine ⟨_,fS L2.d L2.v ((vx.ts (TS.of sG)).ts (TS.of s2)),?_⟩;obtain ⟨r,er,fr⟩:=L2.get M1 (show cC _ z 0 1 from aC) e.1;rw [er];obtain ⟨ev,e1,_⟩:=Z.one me;have hp2:bO (aJ G' z (.tup [.int 0,.int 1])) p (bQ es1 M e.1) M:=by unfold bO;rw [<- ev];exact s2 _ _ (sG _ _ hp)
  obtain ⟨B1,B2,B3,B4,el⟩:=nX (Z.a1 me).1 (Z.a1 me).2 (bT false e.1).1 (by have:=(bT false e.1).2;omega) M1 M2;refine ⟨p,r,_,_,_,_,rfl,hp2,fr,B1,B2,B3,B4,?_⟩;rw [el];refine ⟨_,rfl,fH (fun c=>?_) (fun c=>⟨_,_,rfl,s.trans s2,fun y hy=>?_⟩)⟩
  ·have c:=bc c;have:=k _ (sG.trans s2);unfold xS at this;rw [eh.mpr (fun z=>by have:=bc (dz.mp z e me);omega:(es1.all fun e=>decide (fO b es false e.1<=bQ es1 M e.1))≠true),wc,dw,dw] at this;exact this
  ·rw [aU he] at hy;rcases cf.mp hy with z | z
   ·exact gb y z
   ·rw [bw.mp z];have c:¬ _:=fun z=>c (am z)
    omega
 rintro σ G' ⟨v10',v11,rfl,s,gb⟩;rw [tw1.length,be] at gb;replace sH:=sH.trans s;replace T2:=T2.same s;replace fc:bO G' qc _ M:=s _ _ fc;clear s T1;refine ⟨_,rfl,t2,rfl,⟨_,aV.of (sH _ _ h2)⟩,jI (xs:=us2) (fun i σ G2=>∃ v10 v12,σ=[some (.ref t1),some (.ref t2),some (.ref p3),some (.ref p4),some (.ref p5),some (.ref d),some (.ref g),some (.ref g2),some (.ref qc),v9,v10,v11,v12]/\aT G' G2/\∀ e∈es2.take i,fO b es true e.1<=bQ (dJ fac es2) M e.1) ⟨v10',none,rfl,aT.refl _,fun e he=>absurd he bh⟩ (by rintro i σ G2 _ ⟨_,_,_,s,_⟩;exact aV.of (s _ _ (sH _ _ h2))) ?_ ?_⟩
 ·rintro i u σ G2 hu ⟨v10,v12,rfl,s,gc⟩;obtain ⟨e,he,me,t,x,p,rfl,ht,vx,hp⟩:=dO.at tw2 hu;have sG:=sH.trans s;refine ⟨t,_,rfl,aV.of (sG _ _ ht),rfl,_,_,rfl,_,_,rfl,rfl,?_⟩;have so:=A.ask.o2.at me;refine ⟨_,rfl,_,rfl,p4,p,_,_,_,_,rfl,sG _ _ A.ask.hf,sG _ _ hp,A.ask.of.b1.1,A.ask.of.b1.2,so.1.b1.1,so.1.b1.2,A.ask.of.b,so.1.b,fun rt hrt=>?_⟩;have s1:=aB hrt (.tup (eP (fac.1 * e.2.1) (fac.2 * e.2.2)));obtain ⟨_,_,el2,_⟩:=Z.oth me;have ft:bO (aJ G2 rt (.tup (eP (fac.1 * e.2.1) (fac.2 * e.2.2)))) rt (bQ (dJ fac es2) M e.1) M:=by unfold bO;rw [<- el2];exact aC
  generalize aJ G2 rt (.tup (eP (fac.1 * e.2.1) (fac.2 * e.2.2)))=G3 at s1 ft ⊢;have s3:=s.trans s1;obtain ⟨ll,L,lz⟩:=T2.same s3;refine ⟨_,rfl,g2,rfl,kQ L.d,_,rfl,cE,fun z hz=>?_⟩;have s2:=aB hz (.tup [.int 0,.int 1]);obtain ⟨ll2,L2,lz2⟩:=dQ.same ⟨ll,L,lz⟩ s2;refine ⟨_,fS L2.d L2.v ((vx.ts (TS.of (sH.trans s3))).ts (TS.of s2)),?_⟩;obtain ⟨r,er,fr⟩:=L2.get M1 (show cC _ z 0 1 from aC) e.1;rw [er];obtain ⟨B1,B2,B3,B4,el⟩:=nX (Z.a2 me).1 (Z.a2 me).2 (bT true e.1).1 (by have:=(bT true e.1).2;omega) M1 M2;refine ⟨rt,r,_,_,_,_,rfl,s2 _ _ ft,fr,B1,B2,B3,B4,?_⟩;rw [el];refine ⟨_,rfl,fH (fun c=>?_) (fun c=>⟨_,_,rfl,s3.trans s2,fun y hy=>?_⟩)⟩
  ·have c:=bc c;have:=k _ (sH.trans (s3.trans s2));unfold xS at this;rw [eh.mpr (fun z=>by have:=bc (dz.mp z e me);omega:(es2.all fun e=>decide (fO b es true e.1<=bQ (dJ fac es2) M e.1))≠true),wc,dw] at this;exact this
  ·rw [aU he] at hy;rcases cf.mp hy with z | z
   ·exact gc y z
   ·rw [bw.mp z];have c:¬ _:=fun z=>c (am z)
    omega
 rintro σ G2 ⟨v10,v12,rfl,s,gc⟩;rw [tw2.length,be] at gc;replace fc:bO G2 qc _ M:=s _ _ fc;refine ⟨_,rfl,cE,fun z hz=>?_⟩;have s2:=aB hz (.tup [.int 1,.int 1]);have f1:bO (aJ G2 z (.tup [.int 1,.int 1])) z M M:=by unfold bO;rw [lY M1];exact aC
 have sn:=bs es.length;rw [be] at sn;have F1:=bH (m:=rM+(es.map (·.2)).sum) (M:=M) (by omega) (by omega) M1 (by omega);have F2:=bH (m:=M) (M:=M) (by omega) (by omega) M1 (by omega);refine ⟨qc,z,_,_,_,_,rfl,s2 _ _ fc,f1,F1.1,F1.2.1,F2.1,F2.2.1,?_⟩;have el:=gJ (m:=rM+(es.map (·.2)).sum) (n:=M) (by omega) (by omega) M1;unfold ltF at el;rw [el];refine ⟨_,rfl,?_⟩;have:=k _ ((sH.trans s).trans s2);unfold xS at this;rw [al,dz.mpr (fun e he=>am (gb e he)),dz.mpr (fun e he=>am (gc e he)),ji,ji,ji,show decide (M<=(es.map (·.2)).sum+rM)= !decide (rM+(es.map (·.2)).sum < M) by rw [<- decide_not];exact eu.mpr (by omega)] at this;exact this
theorem bF8 (C_Ovr:Cl P w K mg base 3 spOvB "_law_over") (C_Blw:Cl P w K mg base 1 spLessF "_law_below") (C_Plus:Cl P w K mg base 2 spPlus "_law_plus") (m_list:mg "list"=none):hU P w K mg base "_law_breaks" "_law_breaks" bN6 4 ["_law_one","_law_other","_law_pairs_here","_law_factor_here","_law_rest_here","_law_answers"] spBkB:=by
 refine jU ["_law_one","_law_other","_law_pairs_here","_law_factor_here","_law_rest_here","_law_answers","_law_here","_law_there"] fun H Q nd hr h=>?_
 obtain ⟨b,t1,t2,p3,p4,p5,ta,c1,c2,es1,es2,fac,ws3,prs,us,as0,M,rM,rfl,A,m,ha,ta2,zl,h5,r0,r1,k⟩:=h;have hu:=iU hr;have hr1:bW 1 _:=hr.mono (by decide);have hr2:bW 2 _:=hr.mono (by decide);refine ⟨_,(aG (bN (gF (uE hr) (qQ fQ m_list gz (aP (pv 5))) (cG ["_law_x","_law_share","_law_answers"] [none,none,some 5] (cT (pv 0)) (fun _ _ _ _=>(nG K (n:=2) rfl (aL (dR 0) (aL (dR 1) bG)))) (fun _ _ _ _=>(iZ (gF (xG K hr) (pv 0) (pv 2)))) (fun _ _ _ _=>(pv 0)))) (aF (aQ gO)) aS)
  (aG (jZ (bV C_Ovr hr (aA (pv 0) (aA (pv 1) (aA (pv 2) (aA (pv 3) (aP (pv 5))))))) (eU rfl (aL (dR 6 nd) (aL (dR 7 nd) bG))))
  (aF (aQ (bV C_Blw hr (aA (bV C_Plus hr (aA (pv 4) (aP (pv 7)))) (aP (pv 6)))))))),?_⟩
 generalize eas:jA b as0=as;have Z:=A.scl m;obtain ⟨us1,h1,tw1⟩:=A.ask.h1;have l1:=tw1.length;have z1:=A.ask.o1.l2;have M1:=m.m1;have M2:=m.m2;refine ⟨_,rfl,ta,us,rfl,.inr (aV.of ha),fun la hla=>?_⟩;obtain ⟨H0,e0,s0,h0⟩:=lay hla (.lst us);rw [e0];clear e0;refine ⟨_,rfl,t1,rfl,⟨_,aV.of (s0 _ _ h1)⟩,cP (xs:=us1) (fun k zs σ G'=>G'=H0/\(∃ v1 v2,σ=[v1,v2,some (.ref ta)])/\bX (dG b H0) zs (((es1.take k).map (·.1)).filter (eK as))) (aK (by omega)) ⟨rfl,⟨_,_,rfl⟩,trivial⟩ (by rintro k zs σ G' ⟨_,_,t⟩;rw [t.length];exact cj (je _ _) (by rw [af,cq];omega)) (by rintro k zs σ G' _ ⟨e,_⟩;rw [e];exact aV.of (s0 _ _ h1)) ?_ ?_⟩
 ·rintro i u zs σ G hu ⟨rfl,⟨v1,v2,rfl⟩,tz⟩;obtain ⟨e,he,me,t,x,p,rfl,ht,vx,hp⟩:=dO.at tw1 hu;refine ⟨t,_,rfl,aV.of (s0 _ _ ht),rfl,_,_,rfl,_,_,rfl,rfl,?_⟩;refine ⟨_,rfl,_,rfl,aL1 (s0 _ _ ha) (ta2.mono fun _ _ z=>hJ.ts (TS.of s0) z) (vx.ts (TS.of s0)) ⟨_,rfl,?_⟩⟩;rw [aU he,bj,oq,show [e].map (·.1)=[e.1] from rfl];rw [eas]
  by_cases c:e.1∈as
  ·have ci:eK as e.1=true:=am c;refine cW ci ⟨_,rfl,rfl,⟨_,_,rfl⟩,?_⟩;rw [jp ci,jh];exact bX.append tz ⟨vx.ts (TS.of s0),trivial⟩
  ·have ci:¬ eK as e.1=true:=fun z=>c (bc z)
   refine cM ci ⟨rfl,⟨_,_,rfl⟩,?_⟩;rw [iq ci,jh,nv];exact tz
 rintro zs σ G ⟨rfl,_,tz⟩ lz hlz;rw [l1,be] at tz;have s1:=aB hlz (.lst zs);refine bE3 (s1 _ _ h0) (ta2.mono fun _ _ z=>hJ.ts (TS.of (s0.trans s1)) z) aC (aM4 (tz.mono fun _ _ z=>dG.ts (TS.of s1) z)) ⟨_,rfl,?_⟩;rw [show decide (as0=((es1.map (·.1)).filter (eK as)).map fun a=>(b,a))=decide (iL b (es1.map (·.1)) as0) from eu.mpr (by unfold iL;rw [eas])]
 by_cases ea:iL b (es1.map (·.1)) as0
 rotate_left
 ·refine cW (by rw [bu ea];rfl) ?_;have:=k _ (s0.trans s1);unfold xY at this;rw [bu ea,dw] at this;exact this
 refine cM (by rw [am ea];decide) ?_;have sH:=s0.trans s1;generalize aJ G lz (.lst zs)=H1 at sH ⊢;refine ⟨_,rfl,_,rfl,_,rfl,_,rfl,_,rfl,b,t1,t2,p3,p4,ta,c1,c2,es1,es2,fac,ws3,prs,us,as0,M,rfl,A.ts (TS.of sH),m,sH _ _ ha,ta2.mono (fun _ _ z=>hJ.ts (TS.of sH) z),fun H2 r q1 q2 s2 hr1 f1 f2=>?_⟩;rw [eas] at f1 f2;have t0:=Z.tb prs as;have n0:=Z.hb as;refine ⟨r,_,rfl,aV.of hr1,rfl,_,_,rfl,_,_,rfl,rfl,?_⟩;have h52:bO H2 p5 rM M:=s2 _ _ (sH _ _ h5);refine ⟨_,rfl,_,rfl,p5,q2,_,_,rfl,h52,f2,bH r0 (by omega) M1 (by omega),bH t0.1 (by omega) M1 (by omega),fun r2 hr2=>?_⟩;rw [dU r0 t0.1 M1];have s3:=aB hr2 (.tup [.int (aI (rM+tM prs es2 fac M as) M).1,.int (aI (rM+tM prs es2 fac M as) M).2]);have F1:=bH (m:=rM+tM prs es2 fac M as) (M:=M) (by omega) (by omega) M1 (by omega);have F2:=bH (m:=hM es1 M as) (M:=M) n0.1 (by omega) M1 (by omega);refine ⟨_,rfl,r2,q1,_,_,_,_,rfl,aC,s3 _ _ f1,F1.1,F1.2.1,F2.1,F2.2.1,?_⟩
 have e:=gJ (m:=rM+tM prs es2 fac M as) (n:=hM es1 M as) (by omega) n0.1 M1;unfold ltF at e;rw [e];have:=k _ ((sH.trans s2).trans s3);unfold xY at this;rw [am ea,ji,eas] at this;exact this
theorem bI7 (C_Draw:Cl P w K mg base 1 spDraw "_law_draw") (C_LLow:Cl P w K mg base 1 spLow "_law_lowest") (C_Sub:Cl P w K mg base 2 spSub "_law_less") (C_Plus:Cl P w K mg base 2 spPlus "_law_plus"):hU P w K mg base "_law_rest" "_law_rest" bN8 3 ["_law_deal_here","_law_lacks_here"] spRes:=by
 refine jU ["_law_deal_here","_law_lacks_here","_law_way","_law_tiny"] fun H Q nd hr h=>?_
 obtain ⟨d,l,q,W,M0,rfl,D,hq,W0,W1,m1,m2,k⟩:=h;have hr1:bW 1 _:=hr.mono (by decide);refine ⟨_,(eJ 2 nd (bV C_Draw hr (aA (pv 0) (aP aD)))
  (eJ 3 nd (bV C_LLow hr (aA (cS aM (pv 1) aD) (aP (aO bU (cS aM (pv 1) aD) aD))))
  (aG (bN (gF dW (pv 2) aD) (aF (aQ (pv 1))) aS)
  (aG (bN (gF dW (pv 2) aD) (aF (aQ (bV C_Sub hr (aA (pv 1) (aP (pv 3)))))) aS)
  (aG (bN (gF dW (pv 2) aD) (aF (aQ (bV C_Plus hr (aA (pv 1) (aP (aX (aA aD (aP (aO bU aD (cS aM (pv 1) aD)))))))))) aS)
  (aF (aQ (bV C_LLow hr (aA (bV C_Draw hr (aA (pv 0) (aP (cS cN (dM (aA aD (aP aD))) (aO mR (pv 2) aD))))) (aP (aO dZ aD (bV C_Draw hr (aA (pv 0) (aP aD)))))))))))))),?_⟩
 have F0:=bH (m:=W) (M:=M0) W0 (by omega) m1 (by omega);have dv:=jE (a:=W) m1;have y1:1<=(aI W M0).2:=F0.2.2;have yM:=Int.le_of_dvd (by omega) dv;have x1:(aI W M0).1<=W:=uB W0 m1;have x0:0<=(aI W M0).1:=F0.1.1;have rr:=cU W0 m1;refine ⟨_,rfl,d,l,5,rfl,D,by decide,by decide,fun wy H1 w0 w1 D1 o1=>?_⟩;have hq1:bO H1 q W M0:=TS.out D o1 _ _ hq;refine ⟨_,rfl,q,_,_,_,rfl,rfl,aV.of hq1,qS _ _,_,rfl,q,_,_,_,rfl,rfl,aV.of hq1,nH _ _,_,_,rfl,rfl,⟨⟨by omega,by omega⟩,⟨by omega,by omega⟩⟩,_,_,rfl,x0,by omega,by omega,fun ti hti=>?_⟩;have sT:=aB hti (.tup (eP (aI W M0).1 ((aI W M0).2 * 60)));have fT:bO (aJ H1 ti (.tup (eP (aI W M0).1 ((aI W M0).2 * 60)))) ti W (M0 * 60):=by
  unfold bO;rw [<- dB (a:=(aI W M0).1) (b:=(aI W M0).2 * 60) (c:=W) (d:=M0 * 60) x0 (by omega) W0 (by omega) (by grind)];exact aC
 generalize aJ H1 ti (.tup (eP (aI W M0).1 ((aI W M0).2 * 60)))=HT at sT fT ⊢;replace hq1:bO HT q W M0:=sT _ _ hq1;replace D1:=D1.same sT;replace o1:=o1.trans (bP.of sT);clear sT hti;have fq:bO HT q (W * 60) (M0 * 60):=by
  unfold bO;rw [<- dB (a:=W) (b:=M0) (c:=W * 60) (d:=M0 * 60) W0 m1 (by omega) (by omega) (by grind)];exact hq1
 refine ⟨_,rfl,rfl,_,rfl,fH (fun _=>?_) (fun c0=>?_)⟩
 ·exact ⟨_,rfl,k HT q W M0 hq1 (Int.dvd_refl _) m1 (by omega) W0 (by omega) D1 o1⟩
 refine ⟨_,rfl,rfl,_,rfl,fH (fun _=>?_) (fun c1=>?_)⟩
 ·refine ⟨_,rfl,_,rfl,q,ti,W * 60,W,M0 * 60,rfl,fq,fT,W0,by omega,by omega,by omega,by omega,fun r hr' H3 s3 _ f3=>?_⟩;exact k H3 r _ (M0 * 60) f3 (mh _ _) (by omega) (by omega) (by omega) (by omega) (D1.same s3) (o1.trans (bP.of s3))
 refine ⟨_,rfl,rfl,_,rfl,fH (fun _=>?_) (fun c2=>?_)⟩
 ·refine ⟨_,rfl,_,rfl,q,_,_,_,rfl,rfl,aV.of hq1,nH _ _,_,_,rfl,rfl,⟨⟨by omega,by omega⟩,⟨by omega,by omega⟩⟩,cE,fun r1 hr1=>?_⟩;have s1:=aB hr1 (.tup [.int 1,.int (60 * (aI W M0).2)]);refine ⟨q,r1,aI W M0,(1,60 * (aI W M0).2),rfl,s1 _ _ hq1,aC,F0,⟨⟨show (0:Int)<=1 by decide,show (1:Int) < 2 ^ 180 by decide⟩,⟨by omega,by omega⟩,by omega⟩,fun r hr'=>?_⟩;obtain ⟨kk,ek⟩:=dv;have k0:0<=kk:=by
   by_cases c:0<=kk
   ·exact c
   ·have:=gf (show kk<= -1 by omega) (show 0<=(aI W M0).2 by omega);omega
  have kM:kk<=M0:=by
   have:=ij y1 k0;omega
  have s2:=s1.trans (aB hr' (.tup [.int (iP (aI W M0) (1,60 * (aI W M0).2)).1,.int (iP (aI W M0) (1,60 * (aI W M0).2)).2]));refine k _ r (W * 60+kk) (M0 * 60) ?_ (mh _ _) (by omega) (by omega) (by omega) (by omega) (D1.same s2) (o1.trans (bP.of s2));unfold bO;rw [<- dU (a:=W * 60) (b:=kk) (by omega) k0 (by omega)];rw [<- dB (a:=W) (b:=M0) (c:=W * 60) (d:=M0 * 60) W0 m1 (by omega) (by omega) (by grind)];rw [<- dB (a:=1) (b:=60 * (aI W M0).2) (c:=kk) (d:=M0 * 60) (by decide) (by omega) k0 (by omega) (by grind)];rw [show aI 1 (60 * (aI W M0).2)=(1,60 * (aI W M0).2) from zT (by omega)];exact aC
 have wy34:wy=3\/wy=4:=by
  have q0:¬ wy=0:=by simpa using c0
  have q1:¬ wy=1:=by simpa using c1
  have q2:¬ wy=2:=by simpa using c2
  omega
 have hat:∃ n:Int,uJ [V.int 1,V.int 8] (wy - 3)=some (.int n)/\1<=n/\n<=8:=by
  rcases wy34 with rfl | rfl
  ·exact ⟨1,rfl,by decide,by decide⟩
  ·exact ⟨8,rfl,by decide,by decide⟩
 obtain ⟨n,hn,n1,n8⟩:=hat;refine ⟨_,rfl,cE,fun lq hlq=>?_⟩;have sL:=aB hlq (.lst [.int 1,.int 8]);refine ⟨_,rfl,_,_,rfl,rfl,lq,_,_,_,rfl,rfl,bK.of aC,hn,d,l,n,rfl,D1.same sL,by omega,by omega,fun a H2 a0 a1 D2 o2=>?_⟩;replace o2:=(bP.of sL).trans o2;refine ⟨_,rfl,d,l,9,rfl,D2,by decide,by decide,fun c H3 c0 c9 D3 o3=>⟨_,_,rfl,rfl,_,_,rfl,a0,by omega,by omega,fun r hr'=>?_⟩⟩;have e1:=wa (show 1<=1+c by omega) m1 (by decide) (by omega);have e2:=wa (show 1+c<=9 by omega) (jz M0) (by omega) (by decide);have e3:=wa (show a<=7 by omega) (jz M0) (by omega) (by decide);refine k _ r (a * M0) ((1+c) * M0) ?_ (Int.dvd_mul_left _ _) (by omega) (by omega) (cv a0 (by omega)) (by omega) (D3.same (aB hr' _)) (o1.trans (o2.trans (o3.trans (bP.of (aB hr' _)))));unfold bO;rw [<- dB (a:=a) (b:=1+c) (c:=a * M0) (d:=(1+c) * M0) a0 (by omega) (cv a0 (by omega)) (by omega) (by grind)]
 exact aC
theorem bG5 (C_Blw:Cl P w K mg base 1 spLessF "_law_below") (C_Plus:Cl P w K mg base 2 spPlus "_law_plus") (C_Sub:Cl P w K mg base 2 spSub "_law_less"):hU P w K mg base "_law_lacks" "_law_lacks" bL1 3 ["_law_shares_here"] (bA4 P w):=by
 refine jU ["_law_shares_here","_law_come","_law_share"] fun H Q nd hr h=>?_
 obtain ⟨g,es,M,rfl,G,O,M1,M2,k⟩:=h;refine ⟨_,(eJ 1 nd (aX (aA aD (aP aD)))
  (aG (aA2 (pfr (aS8 (pv 0)) (dR 2 nd)
  (aF (psz 1 nd (bV C_Plus hr (aA (pv 1) (aP (pv 2))))))))
  (aG (bN (gR (bV C_Blw hr (aA (pv 1) (aP (aX (aA aD (aP aD))))))) (aF (aQ (bV C_Sub hr (aA (aX (aA aD (aP aD))) (aP (pv 1)))))) aS)
  (aF (aQ (aX (aA aD (aP aD)))))))),?_⟩
 have bs:=xT O M1;refine ⟨cE,fun q0 hq0=>?_⟩;have s0:=aB hq0 (.tup [.int 0,.int 1]);have f0:bO (aJ H q0 (.tup [.int 0,.int 1])) q0 0 M:=by unfold bO;rw [cQ M1];exact aC
 generalize aJ H q0 (.tup [.int 0,.int 1])=H0 at s0 f0 ⊢;obtain ⟨xs,hd,lx,wk⟩:=(G.same s0).walk;obtain ⟨xs0,hdH,_⟩:=G.walk;refine ⟨_,rfl,g,xs,rfl,hd,fun o=>aH7 (P:=P) (w:=w) (d:=g) (o:=o) (xs:=xs) (fun i σ G'=>∃ q v2,σ=[some (.ref g),some (.ref q),v2]/\aT (aJ H0 g (.frz o (dN P w g xs))) G'/\bO G' q ((es.take i).map (·.2)).sum M) ⟨q0,none,rfl,aT.refl _,?_⟩ (by rintro i σ G' _ ⟨_,_,_,s,_⟩;exact s _ _ aC) ?_ ?_⟩
 ·rw [zw];exact eO hd _ _ f0
 ·rintro i x σ G' hx ⟨q,v2,rfl,s,fq⟩;obtain ⟨e,p,he,_,eq,hp,_⟩:=wk i x hx;rw [eq];have me:=O.m e (bo he);have ts1:TS H0 G':=(eO hd).trans (TS.of s);have b1:=bs i;refine ⟨_,rfl,_,rfl,q,p,_,_,rfl,fq,ts1 _ _ hp,bH b1.1 (by omega) M1 (by omega),bH me.1 (by omega) M1 (by omega),fun r hr'=>⟨r,_,rfl,s.trans (aB hr' _),?_⟩⟩;rw [aU he,bj,ny];unfold bO;rw [show ([e].map (·.2)).sum=e.2 by simp, <- dU b1.1 me.1 M1];exact aC
 rintro σ G' ⟨q,v2,rfl,s,fq⟩;refine .inr ⟨g,o,_,s _ _ aC,(fun o' u' z=>by cases (show some (HO.ext _)=some (HO.frz o' u') from hdH.symm.trans z)),(fun _ z=>by cases z),(fun _ z=>by cases z),?_⟩;have tsd:TS G' (aJ G' g (dN P w g xs)):=fun c us e=>by rw [aE (cF e (s _ _ aC) (by intro z;cases z))];exact e
 have sH:=s0.trans (wL hd s);replace fq:bO _ q _ M:=tsd _ _ fq;rw [lx,be] at fq;have b1:=bs es.length;rw [be] at b1;generalize aJ G' g (dN P w g xs)=H1 at sH fq ⊢;generalize (es.map (·.2)).sum=Sm at fq b1;clear tsd s wk;refine ⟨_,rfl,cE,fun z hz=>?_⟩;have s2:=aB hz (.tup [.int 1,.int 1]);have f1:bO (aJ H1 z (.tup [.int 1,.int 1])) z M M:=by unfold bO;rw [lY M1];exact aC
 have fq2:bO (aJ H1 z (.tup [.int 1,.int 1])) q Sm M:=s2 _ _ fq;generalize aJ H1 z (.tup [.int 1,.int 1])=H2 at s2 f1 fq2 ⊢;have F1:=bH (m:=Sm) (M:=M) b1.1 (by omega) M1 (by omega);have F2:=bH (m:=M) (M:=M) (by omega) (by omega) M1 (by omega);have el:=gJ (m:=Sm) (n:=M) b1.1 (by omega) M1;unfold ltF at el;refine ⟨q,z,_,_,_,_,rfl,fq2,f1,F1.1,F1.2.1,F2.1,F2.2.1,?_⟩;rw [el];replace sH:=sH.trans s2;refine ⟨_,rfl,fH (fun c=>?_) (fun c=>?_)⟩
 ·have c:=bc c;refine ⟨cE,fun z3 hz3=>?_⟩;have s3:=aB hz3 (.tup [.int 1,.int 1]);have f3:bO (aJ H2 z3 (.tup [.int 1,.int 1])) z3 M M:=by unfold bO;rw [lY M1];exact aC
  exact ⟨_,rfl,z3,q,M,Sm,M,rfl,f3,s3 _ _ fq2,b1.1,by omega,by omega,M1,by omega,fun r hr' H3 s4 _ f4=>k H3 r _ (sH.trans (s3.trans s4)) f4 (by omega) (by omega)⟩
 ·refine ⟨cE,fun z3 hz3=>k _ z3 0 (sH.trans (aB hz3 _)) ?_ (jz _) (by omega)⟩;unfold bO;rw [cQ M1];exact aC
theorem bE4 (C_Draw:Cl P w K mg base 1 spDraw "_law_draw") (m_tuple:mg "tuple"=none) (m_len:mg "len"=none):hU P w K mg base "_law_some" "_law_some" bN3 2 ["_law_deal_here","_law_one"] spSome:=by
 refine jU ["_law_deal_here","_law_one","_law_found","_law_way","_law_at"] fun H Q nd hr h=>?_
 obtain ⟨d,l,b,t1,c1,es1,rfl,D,⟨us1,h1,tw1⟩,k1,k⟩:=h;have hu:=iU hr;refine ⟨_,(aG (jK ["_law_x","_law_share","_law_deal_here"] [none,none,some 0] (i:=2) nd rfl (jt rfl) (cT (pv 1)) (fun _ _ _ _=>(nG K (n:=2) rfl (aL (dR 0) (aL (dR 1) bG)))) (fun _ _ _ _=>(iZ (gF iM (bV C_Draw hr (aA (pv 2) (aP aD))) aD))) (fun _ _ _ _=>(pv 0)))
  (eJ 3 nd (bV C_Draw hr (aA (pv 0) (aP aD)))
  (eJ 4 nd (bV C_Draw hr (aA (pv 0) (aP (aO dZ (nU bJ m_len fh (aP (pv 2))) aD))))
  (aG (cZ (bN (PW.pt (kB (gF dW (pv 3) aD) (iI (gF iM (nU bJ m_len fh (aP (pv 2))) aD)))) (aF (gG (mT dq qz yc rH (pv 2) (aA (pv 4) (aP (cS cN (pv 2) (bV C_Draw hr (aA (pv 0) (aP (nU bJ m_len fh (aP (pv 2)))))))))))) aS))
  (aG (cZ (bN (gF dW (pv 3) aD) (aF (gG (aH9 dq PySem.F.slot_list_reverse PySem.F.type_list_reverse yN (pv 2)))) aS))
  (aG (cZ (bN (gF dW (pv 3) aD) (aF (gG (mT dq qz yc rH (pv 2) (aA (pv 4) (aP (cS cN (dM (aA (aO mC aD aD) (aA (aX (aA aD (aA aD (aP aD)))) (aA (bO5 bJ5 (aO mC aD aD)) (aP (aX fZ)))))) (bV C_Draw hr (aA (pv 0) (aP aD))))))))) aS))
  (aF (aQ (qQ fI m_tuple nj (aP (pv 2))))))))))),?_⟩
 have l1:=tw1.length;have z1:=k1.l2;refine ⟨_,rfl,t1,rfl,⟨_,aV.of h1⟩,cP (xs:=us1) (fun j ys σ G=>cD G d l/\bP d l H G/\(∃ v1 v2,σ=[v1,v2,some (.ref d)])/\∃ bs,bX (hJ G) ys bs/\bs.length<=j/\∀ z∈bs,dS z.2) (aK (by omega)) ⟨D,bP.refl _,⟨_,_,rfl⟩,[],trivial,ak _,fun _ z=>absurd z bh⟩ (by rintro j ys σ G ⟨_,_,_,bs,t,z,_⟩;rw [t.length];exact z) (by rintro j ys σ G _ ⟨_,o,_⟩;exact aV.of (TS.out D o _ _ h1)) ?_ ?_⟩
 ·rintro j u ys σ G hu ⟨DG,o,⟨v1,v2,rfl⟩,bs,tb,lb,ab⟩;obtain ⟨e,he,me,t,x,p,rfl,ht,vx,hp⟩:=dO.at tw1 hu;refine ⟨t,_,rfl,aV.of (TS.out D o _ _ ht),rfl,_,_,rfl,_,_,rfl,rfl,?_⟩;refine ⟨_,rfl,d,l,3,rfl,DG,by decide,by decide,fun y G2 y0 y1 D2 o2=>⟨_,_,rfl,rfl,_,rfl,?_⟩⟩;have tb2:=tb.mono fun _ _ z=>hJ.ts (TS.out DG o2) z
  refine fH (fun _=>⟨_,rfl,D2,o.trans o2,⟨_,_,rfl⟩,bs++[(b,e.1)],bX.append tb2 ⟨vx.ts (TS.out D (o.trans o2)),trivial⟩,by rw [cb];show bs.length+1<=j+1;omega,fun z hz=>?_⟩) (fun _=>⟨D2,o.trans o2,⟨_,_,rfl⟩,bs,tb2,by omega,ab⟩);rcases cf.mp hz with q | q
  ·exact ab z q
  ·rw [bw.mp q];exact k1.an e me
 rintro ys σ G ⟨DG,o,_,bs,tb,lb,ab⟩ lf hlf;have sf:=aB hlf (.lst ys);have S0:kT H (aJ G lf (.lst ys)) d l lf ys bs 12:=⟨⟨DG.same sf,(bE DG hlf).2,aC⟩,o.trans (bP.of sf),tb.mono fun _ _ z=>hJ.ts (TS.of sf) z,by omega,ab,cV DG o hlf⟩
 generalize aJ G lf (.lst ys)=H1 at S0 ⊢;clear tb lb ab sf hlf;refine ⟨_,rfl,d,l,8,rfl,S0.dl.deal,by decide,by decide,fun wy H2 w0 w1 D2 o2=>?_⟩;have S1:=S0.out D2 o2;have ly:=S1.tw.length;have lz:=S1.z;refine ⟨_,rfl,_,rfl,lf,_,rfl,.inl (bK.of S1.dl.lst),_,_,rfl,rfl,d,l,(ys.length:Int)+1,rfl,D2,by omega,by omega,fun at' H3 a0 a1 D3 o3=>?_⟩;have S2:=S1.out D3 o3;clear S0 S1;refine ⟨fun σ' G=>∃ us zs,σ'=[some (.ref d),some (.ref t1),some (.ref lf),some (.int wy),some (.int at')]/\kT H G d l lf us zs 13/\at'<=us.length,?_,?_⟩
 ·refine ⟨_,rfl,rfl,_,rfl,?_⟩;have S13:kT H H3 d l lf ys bs 13:=⟨S2.dl,S2.o,S2.tw,by omega,S2.an,S2.f⟩
  by_cases c:wy=1
  rotate_left
  ·exact cM (by simpa using c) (cM (by decide) ⟨ys,bs,rfl,S13,by omega⟩)
  refine cW (by simpa using c) ⟨_,rfl,lf,_,rfl,.inl (bK.of S2.dl.lst),_,_,rfl,rfl,_,rfl,fH (fun c2=>?_) (fun _=>⟨ys,bs,rfl,S13,by omega⟩)⟩;have c2:0 < (ys.length:Int):=bc c2;refine ⟨_,rfl,.inl ⟨rfl,_,bK.of S2.dl.lst⟩,_,rfl,_,rfl,_,rfl,_,rfl,lf,_,rfl,.inl (bK.of S2.dl.lst),d,l,ys.length,rfl,S2.dl.deal,by omega,by omega,fun y H4 y0 y1 D4 o4=>?_⟩;have S4:=S2.out D4 o4;have yl:y.toNat < ys.length:=by omega
  obtain ⟨z,hz,vz⟩:=S4.tw.at (aj yl);refine ⟨lf,_,_,_,rfl,rfl,bK.of S4.dl.lst,tI (n:=y.toNat) (by omega) (aj yl),lf,ys,_,at',at'.toNat,rfl,rfl,by omega,S4.dl.lst,by omega,by omega,?_⟩;exact ⟨_,_,rfl,S4.ins at'.toNat vz (S4.an z (bo hz)),by simp only [List.length_append,List.length_take,List.length_cons,List.length_drop];omega⟩
 rintro σ' G1 ⟨us,zs,rfl,T1,al⟩;refine ⟨fun σ' G=>∃ us zs,σ'=[some (.ref d),some (.ref t1),some (.ref lf),some (.int wy),some (.int at')]/\kT H G d l lf us zs 13/\at'<=us.length,?_,?_⟩
 ·refine ⟨_,rfl,rfl,_,rfl,fH (fun _=>?_) (fun _=>⟨us,zs,rfl,T1,al⟩)⟩;refine ⟨_,rfl,.inl ⟨rfl,_,bK.of T1.dl.lst⟩,lf,us,rfl,rfl,T1.dl.lst,?_⟩;exact ⟨_,_,rfl,T1.set (aH4 T1.tw) (by rw [jr];exact T1.z) (fun z hz=>T1.an z (List.mem_reverse.mp hz)),by rw [jr];exact al⟩
 clear T1 al;rintro σ' G1 ⟨us,zs,rfl,T1,al⟩;refine ⟨fun σ' G=>∃ us zs,σ'=[some (.ref d),some (.ref t1),some (.ref lf),some (.int wy),some (.int at')]/\kT H G d l lf us zs 14,?_,?_⟩
 ·refine ⟨_,rfl,rfl,_,rfl,fH (fun _=>?_) (fun _=>⟨us,zs,rfl,T1.dl,T1.o,T1.tw,by have:=T1.z;omega,T1.an,T1.f⟩)⟩;refine ⟨_,rfl,.inl ⟨rfl,_,bK.of T1.dl.lst⟩,_,rfl,_,_,rfl,rfl,⟨by decide,by decide,by decide⟩,by show 3<=sizeLine;decide,fun p7 hp7=>⟨_,_,rfl,rfl,⟨by decide,by decide,by decide⟩,_,rfl,bz _,fun p0 hp0=>⟨by show 4<=sizeLine;decide,fun lq hlq=>?_⟩⟩⟩;have n2:=bE ((T1.dl.deal.same (aB hp7 (.tup [.int 7,.int 7,.int 7]))).same (aB hp0 (.tup []))) hlq;have sA:=(aB hp7 (.tup [.int 7,.int 7,.int 7])).trans ((aB hp0 (.tup [])).trans (aB hlq (.lst [.int (10 ^ (9:Int).toNat),.ref p7,.int (-(10 ^ (9:Int).toNat)),.ref p0])));have g7:=aB hlq (.lst [.int (10 ^ (9:Int).toNat),.ref p7,.int (-(10 ^ (9:Int).toNat)),.ref p0]) _ _ (aB hp0 (.tup []) _ _ (aC (H:=G1) (a:=p7) (o:= .tup [.int 7,.int 7,.int 7])));have g0:=aB hlq (.lst [.int (10 ^ (9:Int).toNat),.ref p7,.int (-(10 ^ (9:Int).toNat)),.ref p0]) _ _ (aC (H:=aJ G1 p7 (.tup [.int 7,.int 7,.int 7])) (a:=p0) (o:= .tup []))
  have gl:aJ (aJ (aJ G1 p7 (.tup [.int 7,.int 7,.int 7])) p0 (.tup [])) lq (.lst [.int (10 ^ (9:Int).toNat),.ref p7,.int (-(10 ^ (9:Int).toNat)),.ref p0]) lq=some (.lst [.int (10 ^ (9:Int).toNat),.ref p7,.int (-(10 ^ (9:Int).toNat)),.ref p0]):=aC;generalize aJ (aJ (aJ G1 p7 (.tup [.int 7,.int 7,.int 7])) p0 (.tup [])) lq (.lst [.int (10 ^ (9:Int).toNat),.ref p7,.int (-(10 ^ (9:Int).toNat)),.ref p0])=G2 at sA g7 g0 gl ⊢;refine ⟨_,rfl,d,l,4,rfl,T1.dl.deal.same sA,by decide,by decide,fun y H4 y0 y1 D4 o4=>?_⟩;have o14:=(bP.of sA).trans o4;have S4:=T1.out D4 o14;have D2':=T1.dl.deal.same sA;have tk:=TS.out D2' o4;have gl4:=o4 _ _ gl n2.1 n2.2;obtain ⟨v,x,hv,vx,ax⟩:∃ v x,uJ [V.int (10 ^ (9:Int).toNat),.ref p7,.int (-(10 ^ (9:Int).toNat)),.ref p0] y=some v/\hJ H4 v x/\dS x.2:=by
   have:y=0\/y=1\/y=2\/y=3:=by omega
   rcases this with rfl | rfl | rfl | rfl
   ·exact ⟨_,(false,[1000000000]),rfl,⟨1000000000,rfl,rfl⟩,aQ8⟩
   ·exact ⟨_,(true,[7,7,7]),rfl,⟨p7,rfl,tk _ _ g7⟩,aL4⟩
   ·exact ⟨_,(false,[-1000000000]),rfl,⟨-1000000000,rfl,rfl⟩,bD6⟩
   ·exact ⟨_,(true,[]),rfl,⟨p0,rfl,tk _ _ g0⟩,bJ9⟩
  have lu:=T1.tw.length;have lzz:=T1.z;refine ⟨lq,_,_,_,rfl,rfl,bK.of gl4,hv,lf,us,_,at',at'.toNat,rfl,rfl,by omega,S4.dl.lst,by omega,by omega,?_⟩;exact ⟨_,_,rfl,S4.ins at'.toNat vx ax⟩
 clear T1 al;rintro σ' G1 ⟨us,zs,rfl,T1⟩;refine ⟨_,rfl,lf,us,rfl,.inl ⟨bK.of T1.dl.lst,fun p hp=>?_⟩⟩;have sp:=aB hp (.tup us);exact k _ p us zs aC (T1.tw.mono fun _ _ z=>hJ.ts (TS.of sp) z) (by have:=T1.z;omega) T1.an (T1.dl.deal.same sp) (T1.o.trans (bP.of sp))
theorem bI5 (C_Draw:Cl P w K mg base 1 spDraw "_law_draw") (C_LTim:Cl P w K mg base 2 spTimes "_law_times") (C_Les:Cl P w K mg base 2 spLes "_law_lesser") (C_Sub:Cl P w K mg base 2 spSub "_law_less") (m_dict:mg "dict"=none) (m_list:mg "list"=none) (m_int:mg "int"=none) (m_len:mg "len"=none):hU P w K mg base "_law_laid" "_law_laid" bP5 3 ["_law_deal_here","_law_one","_law_other","_law_pairs_here","_law_factor_here"] (aK2 P w):=by
 refine jU ["_law_deal_here","_law_one","_law_other","_law_pairs_here","_law_factor_here","_law_left","_law_halves","_law_room","_law_some_here","_law_found","_law_x","_law_y","_law_half","_law_share"] fun H Q nd hr h=>?_
 obtain ⟨d,l,b,t1,t2,p3,p4,c1,c2,es1,es2,fac,ws3,prs,rfl,D,A,k⟩:=h;have hu:=iU hr;have hr1:bW 1 _:=hr.mono (by decide);refine ⟨_,(eJ 5 nd (qQ (kH hr1) m_dict ia (aP (pv 1)))
  (eJ 6 nd (bV C_Draw hr (aA (pv 0) (aP aD)))
  (eJ 7 nd (qQ (kE hr1) m_dict ia (aP (cG ["_law_y","_law_share","_law_factor_here"] [none,none,some 4] (cT (pv 2)) (fun _ _ _ _=>(nG K (n:=2) rfl (aL (dR 0) (aL (dR 1) bG)))) (fun _ _ _ _=>eB) (fun _ _ _ _=>(aX (aA (pv 0) (aP (bV C_LTim hr (aA (pv 2) (aP (pv 1)))))))))))
  (eJ 8 nd (qQ fQ m_list gz (aP (pv 3)))
  (eJ 9 nd (bP7 P w)
  (aG (lF on (gF (uE hr) (pv 8) (dM fZ))
  (aG (jZ (mT dq pi pj pS (pv 8) (aP (bV C_Draw hr (aA (pv 0) (aP (nU bJ m_len fh (aP (pv 8)))))))) (eU rfl (aL (dR 10 nd) (aL (dR 11 nd) bG))))
  (eJ 12 nd (aU6 (qQ jF m_int pk (aP (aP8 (pec iM (pv 6) aD) (aL7 (pec dW (bV C_Draw hr (aA (pv 0) (aP aD))) aD))))))
  (eJ 6 nd (aO mR (pv 6) (pv 12))
  (eJ 13 nd (bV C_LTim hr (aA (bV C_Les hr (aA (pdg hu (pv 5) (pv 10)) (aP (pdg hu (pv 7) (pv 11))))) (aP (aX (aA aD (aP (aO dZ aD (pv 12))))))))
  (aF (bN (gF iM (cS aM (pv 13) aD) aD) (aG (aF7 P w hr (pv 9) (aX (aA (pv 10) (aP (pv 11)))) (pv 13))
  (aG (pdp hu (pv 5) (pv 10) (bV C_Sub hr (aA (pdg hu (pv 5) (pv 10)) (aP (pv 13)))))
  (aF (pdp hu (pv 7) (pv 11) (bV C_Sub hr (aA (pdg hu (pv 7) (pv 11)) (aP (pv 13)))))))) aS)))))))
  (aF (aQ (pv 9))))))))),?_⟩
 obtain ⟨m0,M8⟩:=A.ask.base;have N1:=m0.m1;have mm:MOk c1 c2 fac (c1 * (fac.2 * c2) * 8):=⟨mh _ _,by omega,by omega⟩
 have Z0:=A.scl m0;have Z:=A.scl mm;have dv1:∀ x,(2:Int) ^ 3 ∣ bQ es1 (c1 * (fac.2 * c2) * 8) x:=aP5 (fun e he=>⟨(A.ask.o1.at he).1.b,(Z0.one he).2.2⟩) N1;have dv2:∀ x,(2:Int) ^ 3 ∣ bQ (dJ fac es2) (c1 * (fac.2 * c2) * 8) x:=aP5 (fun e he=>by
  have q:=(Z0.pa A.ly (rest:=(0,1)) ⟨⟨by decide,by decide⟩,⟨by decide,by decide⟩,by decide⟩ (Int.one_dvd _)).lm e he;exact ⟨q.2.1,q.2.2.2.2⟩) N1
 have M1:=mm.m1;have M2:=mm.m2;generalize eM:c1 * (fac.2 * c2) * 8=M at mm Z dv1 dv2 M1 M2 k;obtain ⟨us1,h1,tw1⟩:=A.ask.h1;obtain ⟨us2,h2,tw2⟩:=A.ask.h2;have l1:=tw1.length;have l2:=tw2.length;have z1:=A.ask.o1.l2;have z2:=A.ask.o2.l2;have z3:=A.ly.zp;have bl:∀ x,0<=bQ es1 M x/\bQ es1 M x<=M:=fun x=>by
  refine ⟨Z.nn1 x,?_⟩
  by_cases c:x∈es1.map (·.1)
  ·have:=jG (f:=bQ es1 M) c fun y _=>Z.nn1 y
   rw [Z.sum1] at this;exact this
  ·rw [gZ c];omega
 have br:∀ x,0<=bQ (dJ fac es2) M x/\bQ (dJ fac es2) M x < 2 ^ 174:=fun x=>by
  refine ⟨Z.nn2 x,?_⟩
  by_cases c:x∈es2.map (·.1)
  ·exact gj (jG (f:=bQ (dJ fac es2) M) c fun y _=>Z.nn2 y) Z.sum2
  ·rw [gZ (by unfold dJ;rw [bg];exact c)];decide
 obtain ⟨tl,tt,kl,vl,ol⟩:=mQ tw1;have ll:tl.length=us1.length:=tt.length.symm;refine ⟨_,rfl,t1,us1,fun i=>fA b (tl.take i),rfl,h1,lL b,fun dl hdl=>⟨lO tt (by rw [kl];exact A.ask.o1.nd) (aK (by omega)) hdl vl,?_⟩⟩;have sl:=aB hdl (fA b tl);have LF:fU b (aJ H dl (fA b tl)) dl (bQ es1 M) M (es1.map (·.1)):=by
  refine ⟨tl,⟨aC,vl,fun x hx=>?_,fun x v hx=>?_⟩,kl⟩
  ·have:=ol x;rw [hx] at this
   cases e:iK es1 x with
   |some f=>rw [e] at this;exact this.elim
   |none=>exact gZ (aC7 e)
  ·have q:=ol x;rw [hx] at q
   cases e:iK es1 x with
   |none=>rw [e] at q;exact q.elim
   |some f =>
    rw [e] at q;obtain ⟨r,rfl,hr⟩:=(show FrR H v f from q)
    have he':=kY e;refine ⟨r,rfl,?_⟩;unfold bO;rw [show aI (bQ es1 M x) M=f from (Z.one he').1.symm];exact sl _ _ hr
 dsimp only
 rw [<- ll,be];have ndl:=bE D hdl;replace D:=D.same sl;generalize aJ H dl (fA b tl)=H1 at sl LF D ⊢;refine ⟨_,rfl,d,l,4,rfl,D,by decide,by decide,fun hv H2 v0 v1 D2 o2=>?_⟩;have oH2:bP d l H H2:=(bP.of sl).trans o2;replace LF:=LF.keep (TS.out D o2) fun u e=>o2 _ _ e ndl.1 ndl.2
 have tH2:TS H H2:=(TS.of sl).trans (TS.out D o2);refine ⟨_,rfl,t2,rfl,⟨_,aV.of (tH2 _ _ h2)⟩,cP (xs:=us2) (fun i ys σ G=>aT H2 G/\(∃ v1 v2,σ=[v1,v2,some (.ref p4)])/\∃ m2:List (An×V),bX (PrA b G) ys m2/\m2.map (·.1)=(es2.take i).map (·.1)/\∀ q∈m2,∃ r,q.2= .ref r/\bO G r (bQ (dJ fac es2) M q.1) M) (aK (by omega)) ⟨aT.refl _,⟨_,_,rfl⟩,[],trivial,rfl,fun _ z=>absurd z bh⟩ (fun i ys σ G ⟨_,_,m2,t,e,_⟩=>by
  have:=cg List.length e;rw [af,af,cq] at this;rw [t.length];omega) (by rintro i ys σ G _ ⟨s,_⟩;exact aV.of (s _ _ (tH2 _ _ h2))) ?_ ?_⟩
 ·rintro i u ys σ G hu ⟨s,⟨v1,v2,rfl⟩,m2,t,em,fm⟩;obtain ⟨e,he,me,tu,x,p,rfl,ht,vx,hp⟩:=dO.at tw2 hu;have tG:=tH2.trans (TS.of s);refine ⟨tu,_,rfl,aV.of (tG _ _ ht),rfl,_,_,rfl,_,_,rfl,rfl,?_⟩;have so:=A.ask.o2.at me;refine ⟨_,rfl,_,rfl,_,rfl,p4,p,_,_,_,_,rfl,tG _ _ A.ask.hf,tG _ _ hp,A.ask.of.b1.1,A.ask.of.b1.2,so.1.b1.1,so.1.b1.2,A.ask.of.b,so.1.b,fun rt hrt=>⟨cE,fun r hr'=>?_⟩⟩;obtain ⟨_,_,el2,_⟩:=Z.oth me;have s1:=(aB hrt (.tup (eP (fac.1 * e.2.1) (fac.2 * e.2.2)))).trans (aB hr' (.tup [x,.ref rt]));have ft:bO (aJ (aJ G rt (.tup (eP (fac.1 * e.2.1) (fac.2 * e.2.2)))) r (.tup [x,.ref rt])) rt (bQ (dJ fac es2) M e.1) M:=by unfold bO;rw [<- el2];exact aB hr' _ _ _ aC
  refine ⟨s.trans s1,⟨_,_,rfl⟩,m2++[(e.1,.ref rt)],bX.append (t.mono fun _ _ ⟨c,w,w1,w2,w3⟩=>⟨c,w,w1,TS.of s1 _ _ w2,w3.ts (TS.of s1)⟩) ⟨⟨r,x,rfl,aC,(vx.ts tG).ts (TS.of s1)⟩,trivial⟩,?_,fun q hq=>?_⟩
  ·rw [aU he,bj,bj,em];rfl
  ·rcases cf.mp hq with z | z
   ·obtain ⟨r0,e0,f0⟩:=fm q z;exact ⟨r0,e0,s1 _ _ f0⟩
   ·rw [bw.mp z];exact ⟨rt,rfl,ft⟩
 rintro ys σ G ⟨s,_,m2,t,em,fm⟩ lr hlr;rw [l2,be] at em;have lm:m2.length=es2.length:=by have:=cg List.length em;rwa [af,af] at this
 have slr:=aB hlr (.lst ys);have tm:=t.mono fun _ _ ⟨c,w,w1,w2,w3⟩=>(⟨c,w,w1,TS.of slr _ _ w2,w3.ts (TS.of slr)⟩:PrA b (aJ G lr (.lst ys)) _ _)
 have vm:∀ e∈m2,VA b e.1:=fun e he=>by
  have:e.1∈es2.map (·.1):=by rw [<- em];exact ap.mpr ⟨e,he,rfl⟩
  exact aI9 tw2 _ this
 refine ⟨lr,ys,fun i=>fA b (m2.take i),rfl,aC,lL b,fun dr hdr=>⟨lO tm (by rw [em];exact A.ask.o2.nd) (aK (by omega)) hdr vm,?_⟩⟩
 dsimp only
 rw [t.length,be];have sdr:=aB hdr (fA b m2);have s3:=s.trans (slr.trans sdr);have RT:fU b (aJ (aJ G lr (.lst ys)) dr (fA b m2)) dr (bQ (dJ fac es2) M) M (es2.map (·.1)):=by
  refine ⟨m2,⟨aC,vm,fun x hx=>?_,fun x v hx=>?_⟩,em⟩
  ·refine gZ fun z=>?_
   have z:x∈es2.map (·.1):=by unfold dJ at z;rw [bg] at z;exact z
   rw [<- em] at z;obtain ⟨u,hu⟩:=uR z;rw [hx] at hu
   cases hu
  ·obtain ⟨q,hq,e1,e2⟩:=aS2 hx;obtain ⟨r,e3,f3⟩:=fm q hq;refine ⟨r,by rw [<- e2];exact e3,?_⟩;rw [<- e1];exact (slr.trans sdr) _ _ f3
 have ndr:=bE ((D2.same s).same slr) hdr;have nlr:dl≠dr:=by
  obtain ⟨l0,L0,_⟩:=LF;exact aH (slr _ _ (s _ _ L0.d)) hdr
 have fdr:H dr=none:=cV ((D2.same s).same slr) ((oH2.trans (bP.of s)).trans (bP.of slr)) hdr;replace LF:=LF.same s3;replace D2:=D2.same s3;replace oH2:=oH2.trans (bP.of s3);replace tH2:=tH2.trans (TS.of s3);generalize aJ (aJ G lr (.lst ys)) dr (fA b m2)=H3 at s3 RT LF D2 oH2 tH2 ⊢;clear tm t slr sdr hdr hlr s3 s fm o2;refine ⟨_,rfl,p3,ws3,rfl,.inr (aV.of (tH2 _ _ A.h3)),fun ls hls=>?_⟩;have sls:=aB hls (.lst ws3);have DL:cL (aJ H3 ls (.lst ws3)) d l ls ws3:=⟨D2.same sls,(bE D2 hls).2,aC⟩
 have fls:H ls=none:=cV D2 oH2 hls;replace LF:=LF.same sls;replace RT:=RT.same sls;replace oH2:=oH2.trans (bP.of sls);replace tH2:=tH2.trans (TS.of sls);generalize aJ H3 ls (.lst ws3)=H4 at DL LF RT oH2 tH2 ⊢;refine fun g hg=>?_
 have sg:=aB hg (dN P w g []);have hvn:(hv.toNat:Int)=hv:=by omega
 have S0:eN P w b H (aJ H4 g (dN P w g [])) d l dl dr ls g (es1.map (·.1)) (es2.map (·.1)) prs M prs ws3 [] (bQ es1 M) (bQ (dJ fac es2) M) hv.toNat:=by
  refine ⟨DL.same sg,oH2.trans (bP.of sg),A.tw3.mono fun _ _ z=>lX.ts (tH2.trans (TS.of sg)) z,A.ly.nd,fun _ h=>h,LF.same sg,RT.same sg,⟨[],⟨[],aC,rfl,fun _ z=>absurd z bh⟩,rfl,fun _ z=>absurd z bh,fun _ z=>absurd z bh⟩,⟨pb,fun _ z=>absurd z bh,fun _ z=>absurd z bh,by show 0+prs.length<=_;omega⟩,fun x=>⟨(bl x).1,(bl x).2,mf ⟨2 ^ (3 - hv.toNat),by rw [<- zc];congr 1;omega⟩ (dv1 x)⟩,fun x=>⟨(br x).1,(br x).2,mf ⟨2 ^ (3 - hv.toNat),by rw [<- zc];congr 1;omega⟩ (dv2 x)⟩,by omega,?_,hdl,fdr,cV DL.deal oH2 hg,fls⟩;have ng:=bE DL.deal hg;exact ⟨ndl.1,ndl.2,ndr.1,ndr.2,ng.1,ng.2,nlr⟩
 rw [show (V.int hv)= .int (hv.toNat:Int) by rw [hvn]];generalize aJ H4 g (dN P w g [])=H5 at S0 ⊢;clear sg hg DL LF RT oH2 tH2 D2 dv1 dv2;refine ⟨fun j σ G=>∃ rs us es L R hv v10 v11 v12 v13,σ=[some (.ref d),some (.ref t1),some (.ref t2),some (.ref p3),some (.ref p4),some (.ref dl),some (.int (hv:Nat)),some (.ref dr),some (.ref ls),some (.ref g),v10,v11,v12,v13]/\j=rs.length/\eN P w b H G d l dl dr ls g (es1.map (·.1)) (es2.map (·.1)) prs M rs us es L R hv,⟨_,prs,ws3,[],_,_,_,_,_,_,_,rfl,rfl,S0⟩,?_⟩;clear S0;rintro j σ G ⟨rs,us,es,L,R,hv,v10,v11,v12,v13,rfl,rfl,S⟩;refine ⟨_,rfl,bz _,fun ln hln=>?_⟩;have sn:=aB hln (.lst []);refine bJ7 (sn _ _ S.dL.lst) (S.tw.mono fun _ _ z=>lX.ts (TS.of sn) z) aC ⟨_,rfl,?_⟩;replace S:=S.same sn;generalize aJ G ln (.lst [])=G1 at S ⊢;clear sn hln
 by_cases c0:rs=[]
 ·subst c0;refine cM (by rw [am rfl];decide) ⟨_,rfl,?_⟩;exact k G1 g es S.pg S.li S.fr.2.2.1 S.dL.deal S.o
 refine cW (by rw [bu c0];rfl) ⟨fun σ' G'=>∃ rs' us es L R hv v10 v11 v12 v13,σ'=[some (.ref d),some (.ref t1),some (.ref t2),some (.ref p3),some (.ref p4),some (.ref dl),some (.int (hv:Nat)),some (.ref dr),some (.ref ls),some (.ref g),v10,v11,v12,v13]/\rs'.length < rs.length/\eN P w b H G' d l dl dr ls g (es1.map (·.1)) (es2.map (·.1)) prs M rs' us es L R hv,fun σ' G' ⟨rs',us,es,L,R,hv,v10,v11,v12,v13,e1,e2,e3⟩=>⟨rs'.length,e2,rs',us,es,L,R,hv,v10,v11,v12,v13,e1,rfl,e3⟩,?_⟩;have r1:0 < rs.length:=List.length_pos_iff.mpr c0;have lu:=S.tw.length;have lz:=S.li.z;refine ⟨_,rfl,.inl ⟨rfl,_,bK.of S.dL.lst⟩,_,rfl,_,rfl,ls,_,rfl,.inl (bK.of S.dL.lst),d,l,us.length,rfl,S.dL.deal,by omega,by omega,fun y G2 y0 y1 D2 o2=>?_⟩;replace S:=S.out D2 o2;clear o2 D2;have yl:y.toNat < us.length:=by omega
 obtain ⟨p,hp,t,u1,u2,ev,ht,va1,va2⟩:=S.tw.at (aj yl);have si:seqIndex? y us.length=some y.toNat:=(lC (by unfold ixN;rw [bb y0,bb (by omega)])).1;refine ⟨ls,us,y,y.toNat,us[y.toNat],rfl,rfl,S.dL.lst,by omega,by omega,si,aj yl,?_⟩;rw [ev];have tp:TS G2 (aJ G2 ls (.lst (us.eraseIdx y.toNat))):=TS.lst S.dL.lst;have S3:=S.pop hp;have pr:=S.rp p (bo hp);have pn:=S.li.notin (bo hp);have pe:=aE3 S.rn hp;have el:=sJ (show y.toNat < rs.length by omega);generalize aJ G2 ls (.lst (us.eraseIdx y.toNat))=G3 at S3 tp ⊢;refine ⟨t,_,rfl,aV.of (tp _ _ ht),rfl,_,_,rfl,_,_,rfl,rfl,?_⟩;replace va1:=va1.ts tp;replace va2:=va2.ts tp;generalize us.eraseIdx y.toNat=us' at S3;generalize rs.eraseIdx y.toNat=rs' at S3 pe el;clear S ht tp si;have kx:=(A.ly.pr p pr).1;have ky:=(A.ly.pr p pr).2;refine ⟨fun v G=>∃ hf:Nat,v= .int hf/\hf<=1/\hf<=hv/\eN P w b H G d l dl dr ls g (es1.map (·.1)) (es2.map (·.1)) prs M rs' us' es L R hv/\dG b G u1 p.1/\dG b G u2 p.2,?_,?_⟩
 ·refine ⟨_,rfl,_,_,rfl,rfl,_,rfl,?_⟩
  by_cases ch:(0:Int) < (hv:Nat)
  ·refine cW (am ch) ⟨_,rfl,d,l,2,rfl,S3.dL.deal,by decide,by decide,fun x G4 x0 x1 D4 o4=>⟨rfl,.inr ⟨_,rfl,?_⟩⟩⟩;have t4:=TS.out S3.dL.deal o4
   by_cases cx:x=0
   ·refine ⟨1,by rw [am (by simpa using cx)];rfl,ak _,by omega,S3.out D4 o4,va1.ts t4,va2.ts t4⟩
   ·refine ⟨0,by rw [bu (by simpa using cx)];rfl,bz _,bz _,S3.out D4 o4,va1.ts t4,va2.ts t4⟩
  ·refine cM (by simpa using ch) (.inr ⟨_,rfl,?_⟩);exact ⟨0,rfl,bz _,bz _,S3,va1,va2⟩
 clear S3 va1 va2;rintro v G4 ⟨hf,rfl,f1,f2,S4,va1,va2⟩;refine ⟨_,rfl,_,rfl,_,_,rfl,rfl,?_⟩
 dsimp only
 rw [show ((hv:Nat):Int) - (hf:Nat)=((hv - hf:Nat):Int) by omega];obtain ⟨q1,g1,fq1⟩:=S4.lf.at kx va1;obtain ⟨q2,g2,fq2⟩:=S4.rt.at ky va2;have b1:=S4.lb p.1;have b2:=S4.rb p.2;refine ⟨_,rfl,_,rfl,dl,_,rfl,g1,_,rfl,_,rfl,dr,_,rfl,g2,q1,q2,L p.1,R p.2,M,rfl,fq1,fq2,b1.1,b2.1,by omega,b2.2.1,M1,M2,fun G5 q s5 fq=>?_⟩;replace S4:=S4.same s5;replace va1:=va1.ts (TS.of s5);replace va2:=va2.ts (TS.of s5);have mn:0<=min (L p.1) (R p.2)/\min (L p.1) (R p.2)<=L p.1/\min (L p.1) (R p.2)<=R p.2:=⟨by omega,Int.min_le_left _ _,Int.min_le_right _ _⟩
 have md:(2:Int) ^ hv ∣ min (L p.1) (R p.2):=by
  rcases Int.le_total (L p.1) (R p.2) with c | c
  ·rw [Int.min_eq_left c];exact b1.2.2
  ·rw [Int.min_eq_right c];exact b2.2.2
 obtain ⟨n,en,dn⟩:=aW6 md f1 f2;have n0:0<=n/\n<=min (L p.1) (R p.2):=by
  rw [en];have:hf=0\/hf=1:=by omega
  rcases this with rfl | rfl
  ·have:n * (1+((0:Nat):Int))=n:=by simp
   omega
  ·have:n * (1+((1:Nat):Int))=n * 2:=by congr 1
   omega
 have Fq:=bH (m:=min (L p.1) (R p.2)) (M:=M) mn.1 (by omega) M1 (by omega);refine ⟨_,rfl,_,_,rfl,rfl,cE,fun r1 hr1=>?_⟩;have sr:=aB hr1 (.tup [.int 1,.int (1+(hf:Int))]);refine ⟨q,r1,_,_,1,1+(hf:Int),rfl,sr _ _ fq,aC,Fq.1,Fq.2.1,⟨by decide,by decide⟩,⟨by omega,by omega⟩,Fq.2.2,by omega,fun sh hsh=>?_⟩;have ss:=sr.trans (aB hsh (.tup (eP ((aI (min (L p.1) (R p.2)) M).1 * 1) ((aI (min (L p.1) (R p.2)) M).2 * (1+(hf:Int))))));have fsh:bO (aJ (aJ G5 r1 (.tup [.int 1,.int (1+(hf:Int))])) sh (.tup (eP ((aI (min (L p.1) (R p.2)) M).1 * 1) ((aI (min (L p.1) (R p.2)) M).2 * (1+(hf:Int)))))) sh n M:=by
  unfold bO;have rr:=cU mn.1 M1;rw [<- dB (a:=(aI (min (L p.1) (R p.2)) M).1 * 1) (b:=(aI (min (L p.1) (R p.2)) M).2 * (1+(hf:Int))) (c:=n) (d:=M) (by have:=Fq.1.1;omega) (ow (by have:=Fq.2.2;omega:0 < (aI (min (L p.1) (R p.2)) M).2) (by omega)) n0.1 M1 (by rw [Int.mul_one,rr];rw [en] at *;grind)];exact aC
 generalize aJ (aJ G5 r1 (.tup [.int 1,.int (1+(hf:Int))])) sh (.tup (eP ((aI (min (L p.1) (R p.2)) M).1 * 1) ((aI (min (L p.1) (R p.2)) M).2 * (1+(hf:Int)))))=G6 at ss fsh ⊢;replace S4:=S4.same ss;replace va1:=va1.ts (TS.of ss);replace va2:=va2.ts (TS.of ss);clear ss sr hr1 hsh fq g1 g2 fq1 fq2 s5;have il:=pK n0.1 M1;have ri:∀ {x:Nat},x<=hv - hf->x<=hv:=fun h=>by omega
 refine ⟨_,rfl,sh,_,_,_,rfl,rfl,aV.of fsh,qS _ _,_,_,rfl,rfl,_,rfl,fH (fun cs=>?_) (fun _=>⟨rs',us',es,L,R,hv - hf,_,_,_,_,rfl,by omega,S4.half (by omega)⟩)⟩;have np:0 < n:=il.mp (bc cs);refine ⟨_,rfl,_,rfl,_,rfl,_,rfl,cE,fun kt hkt=>?_⟩;have sk:=aB hkt (.tup [u1,u2]);replace S4:=S4.same sk;replace va1:=va1.ts (TS.of sk);replace va2:=va2.ts (TS.of sk);replace fsh:bO _ sh n M:=sk _ _ fsh;have hk:QrV (aJ G6 kt (.tup [u1,u2])) kt (cX b p):=⟨u1,u2,aC,va1,va2⟩
 generalize aJ G6 kt (.tup [u1,u2])=G7 at S4 va1 va2 fsh hk ⊢;clear sk hkt;obtain ⟨ldn,hdn,ldl,pd⟩:=S4.pg.put (e:=cX b p) hk.vq fsh;refine ⟨g,rfl,.inr ⟨ldn,lM (cX b p),kt,hdn,rfl,hk.nat,by rw [ldl];exact aK (by omega),fun G8 D8 o8=>?_⟩⟩;obtain ⟨ne1,ne2,ne3,ne4,ne5⟩:=S4.ne;have gx:∃ φ,G7 g=some (.ext φ):=hdn.ext;obtain ⟨φ,gx⟩:=gx;have t8:TS G7 G8:=fun c us e=>by rw [o8 c (cF e gx (by intro z;cases z))];exact e
 have P8:=pd D8 t8;have nm:=S4.n1;have S8:eN P w b H G8 d l dl dr ls g (es1.map (·.1)) (es2.map (·.1)) prs M rs' us' (kF es (cX b p) n) L R hv:=by
  have kp:∀ {c:Addr}{u:HO},c≠g->G7 c=some u->G8 c=some u:=fun h e=>by rw [o8 _ h];exact e
  refine ⟨⟨?_,S4.dL.ne,kp ne3 S4.dL.lst⟩,fun c u e n1 n2=>kp (fun z=>by rw [z,S4.fr.2.2.1] at e;cases e) (S4.o _ _ e n1 n2),S4.tw.mono fun _ _ z=>lX.ts t8 z,S4.rn,S4.rp,S4.lf.keep t8 fun u e=>kp ne4.symm e,S4.rt.keep t8 fun u e=>kp ne5.symm e,P8,S4.li.put pr pe pn np (by omega) (by have:=S4.li.z;omega),S4.lb,S4.rb,S4.h3,S4.n1,S4.fr⟩;obtain ⟨sd,nn,l',q⟩:=S4.dL.deal;exact ⟨sd,nn,l',⟨kp nm.2.2.2.2.1.symm q.dc,kp nm.2.2.2.2.2.1.symm q.lc,q.s0,q.s1,q.n0,q.l0⟩⟩
 replace va1:=va1.ts t8;replace va2:=va2.ts t8;replace fsh:bO _ sh n M:=t8 _ _ fsh;clear S4 P8 pd D8 o8 gx hdn hk t8;obtain ⟨q1,g1,fq1⟩:=S8.lf.at kx va1;refine ⟨_,rfl,_,rfl,dl,_,rfl,g1,_,rfl,q1,sh,L p.1,n,M,rfl,fq1,fsh,n0.1,by omega,by omega,M1,M2,fun r9 hr9 G9 s9 _ f9=>?_⟩;replace S8:=S8.same s9;replace va1:=va1.ts (TS.of s9);replace va2:=va2.ts (TS.of s9);replace fsh:bO _ sh n M:=s9 _ _ fsh;obtain ⟨GA,pA,LA,tA,kA⟩:=S8.lf.put A.ly.zk kx va1 f9;refine ⟨_,rfl,_,rfl,dl,GA,rfl,pA,?_⟩;have kp:∀ {c:Addr}{u:HO},c≠dl->G9 c=some u->GA c=some u:=fun h e=>by rw [kA _ h];exact e
 have nm:=S8.n1;have dh:=S8.half (show hv - hf<=hv by omega);have SA:eN P w b H GA d l dl dr ls g (es1.map (·.1)) (es2.map (·.1)) prs M rs' us' (kF es (cX b p) n) (fun y=>if y=p.1 then L p.1 - n else L y) R (hv - hf):=by
  refine ⟨⟨?_,S8.dL.ne,kp S8.ne.1 S8.dL.lst⟩,fun c u e n1 n2=>kp (fun z=>by rw [z,S8.fr.1] at e;cases e) (S8.o _ _ e n1 n2),S8.tw.mono fun _ _ z=>lX.ts tA z,S8.rn,S8.rp,LA,S8.rt.keep tA fun u e=>kp nm.2.2.2.2.2.2.symm e,S8.pg.keep tA fun u e=>kp S8.ne.2.2.2.1 e,S8.li,fun x=>?_,dh.rb,dh.h3,S8.n1,S8.fr⟩
  ·obtain ⟨sd,nn,l',q⟩:=S8.dL.deal;exact ⟨sd,nn,l',⟨kp nm.1.symm q.dc,kp nm.2.1.symm q.lc,q.s0,q.s1,q.n0,q.l0⟩⟩
  ·show _/\_/\_
   by_cases cx:x=p.1
   ·rw [bb cx];exact ⟨by omega,by omega,Int.dvd_sub (dh.lb p.1).2.2 dn⟩
   ·rw [ao cx];exact dh.lb x
 replace va1:=va1.ts tA;replace va2:=va2.ts tA;replace fsh:bO _ sh n M:=tA _ _ fsh;clear S8 dh LA pA kA kp nm g1 fq1 s9 f9 tA;obtain ⟨q2,g2,fq2⟩:=SA.rt.at ky va2;refine ⟨_,rfl,_,rfl,dr,_,rfl,g2,_,rfl,q2,sh,R p.2,n,M,rfl,fq2,fsh,n0.1,by omega,by omega,M1,M2,fun rB hrB GB sB _ fB'=>?_⟩;replace SA:=SA.same sB;replace va2:=va2.ts (TS.of sB);obtain ⟨GC,pC,RC,tC,kC⟩:=SA.rt.put A.ly.zq ky va2 fB';refine ⟨_,rfl,_,rfl,dr,GC,rfl,pC,?_⟩;have kp:∀ {c:Addr}{u:HO},c≠dr->GB c=some u->GC c=some u:=fun h e=>by rw [kC _ h];exact e
 have nm:=SA.n1;refine ⟨rs',us',_,_,_,hv - hf,_,_,_,_,rfl,by omega,⟨⟨?_,SA.dL.ne,kp SA.ne.2.1 SA.dL.lst⟩,fun c u e n1 n2=>kp (fun z=>by rw [z,SA.fr.2.1] at e;cases e) (SA.o _ _ e n1 n2),SA.tw.mono fun _ _ z=>lX.ts tC z,SA.rn,SA.rp,SA.lf.keep tC fun u e=>kp nm.2.2.2.2.2.2 e,RC,SA.pg.keep tC fun u e=>kp SA.ne.2.2.2.2 e,SA.li,SA.lb,fun x=>?_,SA.h3,SA.n1,SA.fr⟩⟩
 ·obtain ⟨sd,nn,l',q⟩:=SA.dL.deal;exact ⟨sd,nn,l',⟨kp nm.2.2.1.symm q.dc,kp nm.2.2.2.1.symm q.lc,q.s0,q.s1,q.n0,q.l0⟩⟩
 ·show _/\_/\_
  by_cases cx:x=p.2
  ·rw [bb cx];exact ⟨by omega,by omega,Int.dvd_sub (SA.rb p.2).2.2 dn⟩
  ·rw [ao cx];exact SA.rb x
theorem bH9 (C_Draw:Cl P w K mg base 1 spDraw "_law_draw") (C_LLow:Cl P w K mg base 1 spLow "_law_lowest") (C_Plus:Cl P w K mg base 2 spPlus "_law_plus") (C_Sub:Cl P w K mg base 2 spSub "_law_less") (m_len:mg "len"=none) (m_list:mg "list"=none) (m_int:mg "int"=none):hU P w K mg base "_law_bent" "_law_bent" bN4 3 ["_law_deal_here","_law_one","_law_other","_law_shares_here"] (aH2 P w):=by
 refine jU ["_law_deal_here","_law_one","_law_other","_law_shares_here","_law_pair","_law_share","_law_way","_law_tiny","_law_strange","_law_x","_law_y"] fun H Q nd hr h=>?_
 obtain ⟨d,l,b,t1,t2,g,c1,c2,es1,es2,es,M,rfl,D,⟨us1,h1,tw1⟩,⟨us2,h2,tw2⟩,k1,k2,PG,nd',zl,ok,ngd,ngl,M1,M2,k⟩:=h;refine ⟨_,(aG (bN (gF dW (nU rZ m_len fh (aP (pv 3))) aD) (aF (aQ (bP7 P w))) aS)
  (eJ 4 nd (cS cN (qQ yS m_list gz (aP (pv 3))) (bV C_Draw hr (aA (pv 0) (aP (nU rZ m_len fh (aP (pv 3)))))))
  (eJ 5 nd (bF0 P w hr (pv 3) (pv 4) ⟨rfl,rfl,rfl,rfl⟩)
  (eJ 6 nd (bV C_Draw hr (aA (pv 0) (aP aD)))
  (eJ 7 nd (bV C_LLow hr (aA (cS aM (pv 5) aD) (aP (aO bU (cS aM (pv 5) aD) aD))))
  (aG (cZ (bN (gF dW (pv 6) aD) (aF (aF7 P w hr (pv 3) (pv 4) (bV C_Plus hr (aA (pv 5) (aP (pv 7)))))) aS))
  (aG (cZ (bN (gF dW (pv 6) aD) (aF (aF7 P w hr (pv 3) (pv 4) (bV C_Sub hr (aA (pv 5) (aP (pv 7)))))) aS))
  (aG (cZ (bN (gF dW (pv 6) aD) (aF (aF7 P w hr (pv 3) (pv 4) (aX (aA aD (aP aD))))) aS))
  (aG (cZ (bN (gF dW (pv 6) aD) (eJ 8 nd (cS cN (dM (aA (aO mC aD aD) (aP (aX (aA aD (aA aD (aP aD))))))) (bV C_Draw hr (aA (pv 0) (aP aD))))
  (eJ 9 nd (cS cN (dM (aA (cS aM (cS aM (pv 1) (bV C_Draw hr (aA (pv 0) (aP (nU bJ m_len fh (aP (pv 1))))))) aD) (aP (pv 8)))) (qQ jF m_int pk (aP (pec dW (bV C_Draw hr (aA (pv 0) (aP aD))) aD))))
  (eJ 10 nd (cS cN (dM (aA (cS aM (cS aM (pv 2) (bV C_Draw hr (aA (pv 0) (aP (nU bJ m_len fh (aP (pv 2))))))) aD) (aP (pv 8)))) (qQ jF m_int pk (aP (pec dW (bV C_Draw hr (aA (pv 0) (aP aD))) aD))))
  (aF (aF7 P w hr (pv 3) (aX (aA (pv 9) (aP (pv 10)))) (pv 5)))))) aS))
  (aG (cZ (bN (gF iM (pv 6) aD) (aF (aF7 P w hr (pv 3) (pv 4) (pv 5))) aS))
  (aF (aQ (pv 3))))))))))))),?_⟩
 have l1:=tw1.length;have l2:=tw2.length;have z1:=k1.l2;have z2:=k2.l2;have z1':=k1.l1;have z2':=k2.l1;obtain ⟨xs,hd,lx,wk⟩:=PG.walk;refine ⟨_,rfl,g,xs,rfl,hd,rfl,_,rfl,?_⟩
 by_cases c0:xs.length=0
 ·refine cW (by simpa using c0) fun g' hg'=>?_
  have s:=aB hg' (dN P w g' []);have ng:=bE D hg';exact k _ g' [] ⟨[],⟨[],aC,rfl,fun _ z=>absurd z bh⟩,rfl,fun _ z=>absurd z bh,fun _ z=>absurd z bh⟩ ⟨pb,bz _,fun _ z=>absurd z bh,fun _ z=>absurd z bh⟩ ng.1 ng.2 (D.same s) (TS.of s) fun c o _ _ _ e=>s _ _ e
 refine cM (by simpa using c0) ?_;refine ⟨_,rfl,g,xs,rfl,hd,fun ll hll=>?_⟩;have sl:=aB hll (.lst (xs.map fun y=> .ref y.2.1));have nl:=bE D hll;have gl:aJ H ll (.lst (xs.map fun y=> .ref y.2.1)) ll=some (.lst (xs.map fun y=> .ref y.2.1)):=aC;have hd1:=sl _ _ hd;have PG1:=PG.same sl;have D1:=D.same sl;generalize aJ H ll (.lst (xs.map fun y=> .ref y.2.1))=H1 at sl gl hd1 PG1 D1 ⊢;refine ⟨_,rfl,_,rfl,g,xs,rfl,hd1,d,l,xs.length,rfl,D1,by omega,by omega,fun y H2 y0 y1 D2 o2=>?_⟩;have jl:y.toNat < xs.length:=by omega
 obtain ⟨e,q0,he,ek,eq,hq0,qv⟩:=wk y.toNat _ (aj jl);have me:=bo he;obtain ⟨m0,mM,a1,a2⟩:=ok e me;have t2':=(TS.of sl).trans (TS.out D1 o2);generalize htp:xs[y.toNat].2.1=tp at qv;refine ⟨ll,_,_,.ref tp,rfl,rfl,bK.of (o2 _ _ gl nl.1 nl.2),tI (n:=y.toNat) (by omega) (by rw [bf,aj jl];exact cg (fun a=>some (V.ref a)) htp),?_⟩;have PG2:=((PG1.keep (TS.out D1 o2) fun u e=>o2 _ _ e ngd ngl).scale (fun e he=>by have:=ok e he;omega) M1)
 have he2:(gC es)[y.toNat]?=some (e.1,e.2 * 60):=by unfold gC;rw [bf,he];rfl
 obtain ⟨zs,q,DZ,hz,fq,er⟩:=PG2.at he2;refine ⟨_,rfl,g,rfl,⟨_,DZ⟩,_,rfl,tO zs,lM e.1,tp,_,y.toNat,DZ,rfl,(qv.ts t2').nat,hz,fun H3 D3 o3=>?_⟩;obtain ⟨φ,gx⟩:=DZ.ext;have t3:TS H2 H3:=fun c us e=>by rw [o3 c (cF e gx (by intro z;cases z))];exact e
 have kp:∀ {c:Addr}{u:HO},c≠g->H2 c=some u->H3 c=some u:=fun h e=>by rw [o3 _ h];exact e
 have DD3:cD H3 d l:=by
  obtain ⟨sd,nn,l',w⟩:=D2;exact ⟨sd,nn,l',⟨kp ngd.symm w.dc,kp ngl.symm w.lc,w.s0,w.s1,w.n0,w.l0⟩⟩
 have P3:=er D3 t3;have tH3:=t2'.trans t3;have kH3:∀ c o,c≠d->c≠l->c≠g->H c=some o->H3 c=some o:=fun c o n1 n2 n3 e=>kp n3 (o2 _ _ (sl _ _ e) n1 n2)
 have fq3:bO H3 q (e.2 * 60) (M * 60):=t3 _ _ fq;have qv3:=qv.ts tH3;generalize em:e.2=m at m0 mM fq3 fq;generalize ee:e.1=e0 at a1 a2 qv3 hz;have kk:∀ x∈(gC es).eraseIdx y.toNat,∃ f∈es,x=(f.1,f.2 * 60):=fun x hx=>by
  have:=(cw _ _).subset hx;unfold gC at this;obtain ⟨f,hf,rfl⟩:=ap.mp this;exact ⟨f,hf,rfl⟩
 have nd3:(((gC es).eraseIdx y.toNat).map (·.1)).Nodup:=by
  have:((gC es).map (·.1)).Nodup:=by rw [aJ2];exact nd'
  exact this.sublist ((cw _ _).map _)
 have z3:((gC es).eraseIdx y.toNat).length<=150:=cj (cw _ _).length_le (by unfold gC;rw [af];exact zl);have mb3:∀ x∈(gC es).eraseIdx y.toNat,0<=x.2/\x.2<=2 * (M * 60):=fun x hx=>by
  obtain ⟨f,hf,rfl⟩:=kk x hx;have:=ok f hf;show 0<=f.2 * 60/\f.2 * 60<=_;omega
 have an3:∀ x∈(gC es).eraseIdx y.toNat,dS x.1.1.2/\dS x.1.2.2:=fun x hx=>by
  obtain ⟨f,hf,rfl⟩:=kk x hx;have:=ok f hf;exact ⟨this.2.2.1,this.2.2.2⟩
 generalize (gC es).eraseIdx y.toNat=es' at P3 nd3 z3 mb3 an3;clear kk PG2 he2 hz er DZ gx t3 kp D2 o2 hd1 PG1 D1 gl nl hll sl fq wk hq0 qv eq;refine ⟨_,rfl,d,l,8,rfl,DD3,by decide,by decide,fun wy H4 w0 w1 D4 o4=>?_⟩;have t4:=TS.out DD3 o4;have fq4:bO H4 q (m * 60) (M * 60):=t4 _ _ fq3;have F0:=bH (m:=m * 60) (M:=M * 60) (by omega) (by omega) (by omega) (by omega);have rr:=cU (show 0<=m * 60 by omega) (show 1<=M * 60 by omega);have y2:1<=(aI (m * 60) (M * 60)).2:=F0.2.2;have x0:0<=(aI (m * 60) (M * 60)).1:=F0.1.1;have bx:(aI (m * 60) (M * 60)).1 < 2 ^ 180:=F0.1.2;have byy:(aI (m * 60) (M * 60)).2 < 2 ^ 180:=F0.2.1.2;refine ⟨_,rfl,q,_,_,_,rfl,rfl,aV.of fq4,qS _ _,_,rfl,q,_,_,_,rfl,rfl,aV.of fq4,nH _ _,_,_,rfl,rfl,⟨⟨by omega,by omega⟩,⟨by omega,by omega⟩⟩,_,_,rfl,x0,by omega,by omega,fun ti hti=>?_⟩;have sT:=aB hti (.tup (eP (aI (m * 60) (M * 60)).1 ((aI (m * 60) (M * 60)).2 * 60)));have fT:bO (aJ H4 ti (.tup (eP (aI (m * 60) (M * 60)).1 ((aI (m * 60) (M * 60)).2 * 60)))) ti m (M * 60):=by
  unfold bO;rw [<- dB (a:=(aI (m * 60) (M * 60)).1) (b:=(aI (m * 60) (M * 60)).2 * 60) (c:=m) (d:=M * 60) x0 (by omega) (by omega) (by omega) (by grind)];exact aC
 have S0:fF P w H _ d l g tp q ti e0 m (M * 60) es' 150:=⟨D4.same sT,(tH3.trans t4).trans (TS.of sT),fun c o n1 n2 n3 e=>sT _ _ (o4 _ _ (kH3 c o n1 n2 n3 e) n1 n2),(P3.keep t4 fun u e=>o4 _ _ e ngd ngl).same sT,nd3,z3,mb3,an3,(qv3.ts t4).ts (TS.of sT),⟨a1,a2⟩,sT _ _ fq4,fT,ngd,ngl⟩
 generalize aJ H4 ti (.tup (eP (aI (m * 60) (M * 60)).1 ((aI (m * 60) (M * 60)).2 * 60)))=H5 at S0 ⊢;clear sT fT hti fq4 t4 o4 D4 DD3 P3 tH3 kH3 fq3 qv3 nd3 z3 mb3 an3 t2';have Fs:=bH (m:=m * 60) (M:=M * 60) (by omega) (by omega) (by omega) (by omega);have Ft:=bH (m:=m) (M:=M * 60) (by omega) (by omega) (by omega) (by omega);refine ⟨fun σ' G=>∃ es v8 v9 v10,σ'=[some (.ref d),some (.ref t1),some (.ref t2),some (.ref g),some (.ref tp),some (.ref q),some (.int wy),some (.ref ti),v8,v9,v10]/\fF P w H G d l g tp q ti e0 m (M * 60) es 151,?_,?_⟩
 ·refine ⟨_,rfl,rfl,_,rfl,fH (fun _=>?_) (fun _=>⟨es',_,_,_,rfl,S0.mono (by omega)⟩)⟩;refine ⟨_,rfl,_,rfl,q,ti,_,_,rfl,S0.fs,S0.ft,Fs,Ft,fun r hr'=>?_⟩;rw [dU (show 0<=m * 60 by omega) (show 0<=m by omega) (show 1<=M * 60 by omega)];obtain ⟨G',eG,sG,fG⟩:=sX (m:=m * 60+m) (M:=M * 60) hr';rw [eG];have S1:=S0.same sG;exact ⟨_,rfl,_,rfl,g,rfl,S1.put S1.kq fG (by omega) (by omega) S1.ka (by decide) fun G2 S2=>⟨_,_,_,_,rfl,S2⟩⟩
 clear S0;rintro σ' GA ⟨es',v8,v9,v10,rfl,S0⟩;refine ⟨fun σ' G=>∃ es v8 v9 v10,σ'=[some (.ref d),some (.ref t1),some (.ref t2),some (.ref g),some (.ref tp),some (.ref q),some (.int wy),some (.ref ti),v8,v9,v10]/\fF P w H G d l g tp q ti e0 m (M * 60) es 152,?_,?_⟩
 ·refine ⟨_,rfl,rfl,_,rfl,fH (fun _=>?_) (fun _=>⟨es',_,_,_,rfl,S0.mono (by omega)⟩)⟩;refine ⟨_,rfl,_,rfl,q,ti,m * 60,m,M * 60,rfl,S0.fs,S0.ft,by omega,by omega,by omega,by omega,by omega,fun r hr' G' sG _ fG=>?_⟩;have S1:=S0.same sG;exact ⟨_,rfl,_,rfl,g,rfl,S1.put S1.kq fG (by omega) (by omega) S1.ka (by decide) fun G2 S2=>⟨_,_,_,_,rfl,S2⟩⟩
 clear S0;rintro σ' GA ⟨es',v8,v9,v10,rfl,S0⟩;refine ⟨fun σ' G=>∃ es v8 v9 v10,σ'=[some (.ref d),some (.ref t1),some (.ref t2),some (.ref g),some (.ref tp),some (.ref q),some (.int wy),some (.ref ti),v8,v9,v10]/\fF P w H G d l g tp q ti e0 m (M * 60) es 153,?_,?_⟩
 ·refine ⟨_,rfl,rfl,_,rfl,fH (fun _=>?_) (fun _=>⟨es',_,_,_,rfl,S0.mono (by omega)⟩)⟩;refine ⟨cE,fun r hr'=>?_⟩;have S1:=S0.same (aB hr' (.tup [.int 0,.int 1]));have f1:bO (aJ GA r (.tup [.int 0,.int 1])) r 0 (M * 60):=by unfold bO;rw [cQ (show 1<=M * 60 by omega)];exact aC
  exact ⟨_,rfl,_,rfl,g,rfl,S1.put S1.kq f1 (by omega) (by omega) S1.ka (by decide) fun G2 S2=>⟨_,_,_,_,rfl,S2⟩⟩
 clear S0;rintro σ' GA ⟨es',v8,v9,v10,rfl,S0⟩;refine ⟨fun σ' G=>∃ es v8 v9 v10,σ'=[some (.ref d),some (.ref t1),some (.ref t2),some (.ref g),some (.ref tp),some (.ref q),some (.int wy),some (.ref ti),v8,v9,v10]/\fF P w H G d l g tp q ti e0 m (M * 60) es 154,?_,?_⟩
 ·refine ⟨_,rfl,rfl,_,rfl,fH (fun _=>?_) (fun _=>⟨es',_,_,_,rfl,S0.mono (by omega)⟩)⟩;refine ⟨_,_,rfl,rfl,⟨by decide,by decide,by decide⟩,by show 3<=sizeLine;decide,fun p7 hp7=>⟨cE,fun lq hlq=>?_⟩⟩;have nq:=bE (S0.D.same (aB hp7 (.tup [.int 7,.int 7,.int 7]))) hlq;have g7:=aB hlq (.lst [.int (10 ^ (9:Int).toNat),.ref p7]) _ _ (aC (H:=GA) (a:=p7) (o:= .tup [.int 7,.int 7,.int 7]));have gq:aJ (aJ GA p7 (.tup [.int 7,.int 7,.int 7])) lq (.lst [.int (10 ^ (9:Int).toNat),.ref p7]) lq=some (.lst [.int (10 ^ (9:Int).toNat),.ref p7]):=aC;have S:=S0.same ((aB hp7 (.tup [.int 7,.int 7,.int 7])).trans (aB hlq (.lst [.int (10 ^ (9:Int).toNat),.ref p7])));generalize aJ (aJ GA p7 (.tup [.int 7,.int 7,.int 7])) lq (.lst [.int (10 ^ (9:Int).toNat),.ref p7])=GB at g7 gq S ⊢;clear S0 hlq hp7;refine ⟨_,rfl,d,l,2,rfl,S.D,by decide,by decide,fun ys GC ys0 ys1 DC oC=>?_⟩;replace gq:=oC _ _ gq nq.1 nq.2;replace g7:=TS.out S.D oC _ _ g7
  replace S:=S.out DC oC;obtain ⟨sv,sz0,hs,vs,as0⟩:∃ v x,uJ [V.int (10 ^ (9:Int).toNat),.ref p7] ys=some v/\hJ GC v x/\dS x.2:=by
   have:ys=0\/ys=1:=by omega
   rcases this with rfl | rfl
   ·exact ⟨_,(false,[1000000000]),rfl,⟨1000000000,rfl,rfl⟩,aQ8⟩
   ·exact ⟨_,(true,[7,7,7]),rfl,⟨p7,rfl,g7⟩,aL4⟩
  refine ⟨lq,_,_,_,rfl,rfl,bK.of gq,hs,?_⟩;clear g7 gq nq oC DC;refine ⟨_,rfl,_,rfl,_,rfl,t1,us1,rfl,.inr (aV.of (S.ts _ _ h1)),d,l,us1.length,rfl,S.D,by omega,by omega,fun yX GG y0 y1 D2 o2=>?_⟩;replace vs:=vs.ts (TS.out S.D o2);replace S:=S.out D2 o2;clear o2 D2;have yl:yX.toNat < us1.length:=by omega
  obtain ⟨eX,_,meX,ttX,uX,ppX,evX,htX,vxX,_⟩:=dO.at tw1 (aj yl);refine ⟨t1,_,_,_,rfl,rfl,aV.of (S.ts _ _ h1),(tI (n:=yX.toNat) (by omega) (aj yl)).trans (cg some evX),ttX,_,_,_,rfl,rfl,aV.of (S.ts _ _ htX),rfl,_,rfl,cE,fun lz hlz=>?_⟩;have nz:=bE S.D hlz;have sz:=aB hlz (.lst [uX,sv]);have hz:aJ GG lz (.lst [uX,sv]) lz=some (.lst [uX,sv]):=aC;replace S:=S.same sz;replace vs:=vs.ts (TS.of sz);generalize aJ GG lz (.lst [uX,sv])=GH at S vs hz ⊢;clear sz hlz;refine ⟨_,rfl,d,l,4,rfl,S.D,by decide,by decide,fun wX GI w0 w1 D3 o3=>⟨rfl,.inr ⟨_,rfl,?_⟩⟩⟩;replace hz:=o3 _ _ hz nz.1 nz.2;replace vs:=vs.ts (TS.out S.D o3);replace S:=S.out D3 o3;clear o3 D3;have vu:=vxX.ts S.ts;obtain ⟨rX,zX,hrX,vrX,arX⟩:∃ r z,uJ [uX,sv] (if decide (V.int wX=V.int 0)=true then 1 else 0)=some r/\hJ GI r z/\dS z.2:=by
   by_cases c:wX=0
   ·exact ⟨sv,sz0,by rw [am (by rw [c])];rfl,vs,as0⟩
   ·exact ⟨uX,(b,eX.1),by rw [bu (fun z=>c (V.int.inj z))];rfl,vu,k1.an _ meX⟩
  refine ⟨lz,_,_,_,rfl,rfl,bK.of hz,hrX,?_⟩;clear hz nz vu;refine ⟨_,rfl,_,rfl,_,rfl,t2,us2,rfl,.inr (aV.of (S.ts _ _ h2)),d,l,us2.length,rfl,S.D,by omega,by omega,fun yY GG y0 y1 D2 o2=>?_⟩;have SX:=S;replace vs:=vs.ts (TS.out S.D o2);replace S:=S.out D2 o2;replace vrX:=vrX.ts (TS.out SX.D o2);clear o2 D2 SX;have yl:yY.toNat < us2.length:=by omega
  obtain ⟨eY,_,meY,ttY,uY,ppY,evY,htY,vxY,_⟩:=dO.at tw2 (aj yl);refine ⟨t2,_,_,_,rfl,rfl,aV.of (S.ts _ _ h2),(tI (n:=yY.toNat) (by omega) (aj yl)).trans (cg some evY),ttY,_,_,_,rfl,rfl,aV.of (S.ts _ _ htY),rfl,_,rfl,cE,fun lz hlz=>?_⟩;have nz:=bE S.D hlz;have sz:=aB hlz (.lst [uY,sv]);have hz:aJ GG lz (.lst [uY,sv]) lz=some (.lst [uY,sv]):=aC;replace S:=S.same sz;replace vs:=vs.ts (TS.of sz);replace vrX:=vrX.ts (TS.of sz);generalize aJ GG lz (.lst [uY,sv])=GH at S vs hz vrX ⊢;clear sz hlz;refine ⟨_,rfl,d,l,4,rfl,S.D,by decide,by decide,fun wY GI w0 w1 D3 o3=>⟨rfl,.inr ⟨_,rfl,?_⟩⟩⟩;replace hz:=o3 _ _ hz nz.1 nz.2;replace vs:=vs.ts (TS.out S.D o3);replace vrX:=vrX.ts (TS.out S.D o3);replace S:=S.out D3 o3;clear o3 D3;have vu:=vxY.ts S.ts;obtain ⟨rY,zY,hrY,vrY,arY⟩:∃ r z,uJ [uY,sv] (if decide (V.int wY=V.int 0)=true then 1 else 0)=some r/\hJ GI r z/\dS z.2:=by
   by_cases c:wY=0
   ·exact ⟨sv,sz0,by rw [am (by rw [c])];rfl,vs,as0⟩
   ·exact ⟨uY,(b,eY.1),by rw [bu (fun z=>c (V.int.inj z))];rfl,vu,k2.an _ meY⟩
  refine ⟨lz,_,_,_,rfl,rfl,bK.of hz,hrY,?_⟩;clear hz nz vu;refine ⟨_,rfl,_,rfl,_,rfl,_,rfl,cE,fun kt hkt=>?_⟩;have sk:=aB hkt (.tup [rX,rY]);replace S:=S.same sk;exact ⟨g,rfl,S.put (e:=(zX,zY)) ⟨rX,rY,aC,vrX.ts (TS.of sk),vrY.ts (TS.of sk)⟩ S.fs (by omega) (by omega) ⟨arX,arY⟩ (by decide) fun G2 S2=>⟨_,_,_,_,rfl,S2⟩⟩
 clear S0;rintro σ' GA ⟨es',v8,v9,v10,rfl,S0⟩;refine ⟨fun σ' G=>∃ es v8 v9 v10,σ'=[some (.ref d),some (.ref t1),some (.ref t2),some (.ref g),some (.ref tp),some (.ref q),some (.int wy),some (.ref ti),v8,v9,v10]/\fF P w H G d l g tp q ti e0 m (M * 60) es 155,?_,?_⟩
 ·refine ⟨_,rfl,_,_,rfl,rfl,_,rfl,fH (fun _=>?_) (fun _=>⟨es',_,_,_,rfl,S0.mono (by omega)⟩)⟩;exact ⟨_,rfl,_,rfl,_,rfl,g,rfl,S0.put S0.kq S0.fs (by omega) (by omega) S0.ka (by decide) fun G2 S2=>⟨_,_,_,_,rfl,S2⟩⟩
 clear S0;rintro σ' GA ⟨es',v8,v9,v10,rfl,S⟩;exact ⟨_,rfl,k GA g es' S.pg ⟨S.nd,cj S.z (by decide),S.mb,S.an⟩ S.ne.1 S.ne.2 S.D S.ts S.kp⟩
theorem bJ0 (C_Fac:Cl P w K mg base 2 spFac "_law_factor") (C_Prs:Cl P w K mg base 2 spPrs "_law_pairs") (C_Som:Cl P w K mg base 2 spSome "_law_some") (C_Ovr:Cl P w K mg base 3 spOvB "_law_over") (C_Blw:Cl P w K mg base 1 spLessF "_law_below") (C_Res:Cl P w K mg base 3 spRes "_law_rest") (C_Brk:Cl P w K mg base 4 spBkB "_law_breaks") (C_Draw:Cl P w K mg base 1 spDraw "_law_draw") (C_Lai:Cl P w K mg base 3 (aK2 P w) "_law_laid") (C_Ben:Cl P w K mg base 3 (aH2 P w) "_law_bent") (C_LIsP:Cl P w K mg base 3 (aB8 P w) "_law_is_pairing") (C_Sub:Cl P w K mg base 2 spSub "_law_less") (C_Lck:Cl P w K mg base 3 (bA4 P w) "_law_lacks"):hU P w K mg base "_law_asked" "_law_asked" bN5 5 ["_law_deal_here","_law_one","_law_other"] (aZ1 P w):=by
 refine jU ["_law_deal_here","_law_one","_law_other","_law_factor_here","_law_pairs_here","_law_laid_here","_law_shares_here","_law_rest_here","_law_due","_law_answers","_law_here","_law_there","_law_above"] fun H Q nd hr h=>?_
 obtain ⟨d,l,b,t1,t2,c1,c2,es1,es2,rfl,D,h1,h2,k1,k2,k⟩:=h;have hr1:bW 1 _:=hr.mono (by decide);have hr2:bW 2 _:=hr.mono (by decide);refine ⟨_,(eJ 3 nd (bV C_Fac hr (aA (pv 0) (aA (pv 1) (aP (pv 2)))))
  (eJ 4 nd (bV C_Prs hr (aA (pv 0) (aA (pv 1) (aP (pv 2)))))
  (aG (bN (gF dW (bV C_Draw hr (aA (pv 0) (aP aD))) aD) (eJ 5 nd (bV C_Lai hr (aA (pv 0) (aA (pv 1) (aA (pv 2) (aA (pv 4) (aP (pv 3)))))))
  (eJ 6 nd (bV C_Ben hr (aA (pv 0) (aA (pv 1) (aA (pv 2) (aP (pv 5))))))
  (eJ 7 nd (bV C_Res hr (aA (pv 0) (aP (bV C_Lck hr (aP (pv 6))))))
  (eJ 8 nd (bV C_LIsP hr (aA (pv 1) (aA (pv 2) (aA (pv 4) (aA (pv 3) (aA (pv 7) (aP (pv 6))))))))
  (aF (aQ (aX (aA (pv 4) (aA (pv 3) (aA (pv 7) (aA (aX (aA dH (aP (pv 6)))) (aP (pv 8))))))))))))) aS)
  (eJ 9 nd (bV C_Som hr (aA (pv 0) (aP (pv 1))))
  (aG (jZ (bV C_Ovr hr (aA (pv 1) (aA (pv 2) (aA (pv 4) (aA (pv 3) (aP (pv 9))))))) (eU rfl (aL (dR 10 nd) (aL (dR 11 nd) bG))))
  (eJ 12 nd (aX (aA aD (aP aD)))
  (aG (cZ (bN (gR (bV C_Blw hr (aA (pv 11) (aP (pv 10))))) (aF (psz 12 nd (bV C_Sub hr (aA (pv 10) (aP (pv 11)))))) aS))
  (eJ 7 nd (bV C_Res hr (aA (pv 0) (aP (pv 12))))
  (eJ 8 nd (bV C_Brk hr (aA (pv 1) (aA (pv 2) (aA (pv 4) (aA (pv 3) (aA (pv 7) (aP (pv 9))))))))
  (aF (aQ (aX (aA (pv 4) (aA (pv 3) (aA (pv 7) (aA (aX (aA dH (aP (pv 9)))) (aP (pv 8)))))))))))))))))),?_⟩
 refine ⟨_,rfl,_,rfl,_,rfl,d,l,b,t1,t2,c1,c2,es1,es2,rfl,D,h1,h2,k1,k2,fun H6 p4 fac hp4 fo D6 o6=>?_⟩;replace h1:=h1.ts (TS.out D o6);replace h2:=h2.ts (TS.out D o6);refine ⟨_,rfl,_,rfl,_,rfl,d,l,b,t1,t2,c1,c2,es1,es2,rfl,D6,h1,h2,k1,k2,fun H7 p3 ws3 prs h3 tw3 ly D7 o7=>?_⟩;have A:nB b H7 t1 t2 p3 p4 c1 c2 es1 es2 fac ws3 prs:=⟨⟨h1.ts (TS.out D6 o7),h2.ts (TS.out D6 o7),TS.out D6 o7 _ _ hp4,k1,k2,fo⟩,h3,tw3,ly⟩
 have o07:=o6.trans o7;clear h1 h2 hp4 h3 tw3;obtain ⟨m0,M8⟩:=A.ask.base;have N1:=m0.m1;refine ⟨_,rfl,d,l,2,rfl,D7,by decide,by decide,fun y H8 y0 y1 D8 o8=>⟨rfl,_,rfl,?_⟩⟩;replace A:=A.ts (TS.out D7 o8);replace o07:=o07.trans o8;clear D7 o8 D6 o6 o7 D
 by_cases c0:y=0
 ·refine cW (by simpa using c0) ?_;refine ⟨_,rfl,_,rfl,_,rfl,_,rfl,_,rfl,d,l,b,t1,t2,p3,p4,c1,c2,es1,es2,fac,ws3,prs,rfl,D8,A,fun H9 g es G I hg D9 o9=>?_⟩;replace A:=A.ts (TS.out D8 o9);have o08:=o07;replace o07:=o07.trans o9;have ng:=bE D8 hg;have few:=A.ly.few (by rw [af];exact k1.l2) (by rw [af];exact k2.l2);have lz:=I.z;have anp:∀ p∈prs,dS p.1/\dS p.2:=fun p hp=>by
   obtain ⟨q1,q2⟩:=ly.pr p hp;obtain ⟨f1,g1,e1⟩:=ap.mp q1;obtain ⟨f2,g2,e2⟩:=ap.mp q2;rw [<- e1, <- e2];exact ⟨k1.an f1 g1,k2.an f2 g2⟩
  generalize eM:c1 * (fac.2 * c2) * 8=M at G I;have fg:∀ c o,H8 c=some o->c≠g:=fun c o e z=>by rw [z,hg] at e;cases e
  refine ⟨_,rfl,_,rfl,_,rfl,_,rfl,d,l,b,t1,t2,g,c1,c2,es1,es2,es,M,rfl,D9,A.ask.h1,A.ask.h2,k1,k2,G,I.nd,by simp only [List.length_nil,Nat.add_zero] at lz;omega,fun e he=>?_,ng.1,ng.2,by omega,by omega,fun H10 g2 es2' G2 O2 n1 n2 D10 t10 kp10=>?_⟩
  ·obtain ⟨p,hp,ep,_⟩:=I.m e he;have:=I.v e he;rw [ep];exact ⟨this.1,this.2,anp p hp⟩
  replace A:=A.ts t10;have N2:1<=M * 60:=by omega
  have N3:M * 60 < 2 ^ 127:=by omega
  refine ⟨_,rfl,_,rfl,g2,es2',M * 60,rfl,G2,O2,N2,N3,fun H11 q W s11 fW W0 W1=>?_⟩;refine ⟨d,l,q,W,M * 60,rfl,D10.same s11,fW,W0,W1,N2,N3,fun H12 p5 rM N f5 dv Na Nb r0 r1 D12 o12=>?_⟩;obtain ⟨kk,rfl⟩:=dv;have kk1:1<=kk:=by
   by_cases c:1<=kk
   ·exact c
   ·have:=gf (show kk<=0 by omega) (show 0<=M * 60 by omega);omega
  have t12:=(TS.of s11).trans (TS.out (D10.same s11) o12);replace A:=A.ts t12;have G3:=((G2.same s11).keep (TS.out (D10.same s11) o12) fun u e=>o12 _ _ e n1 n2).scaleK (k:=kk) (fun e he=>(O2.m e he).1) N2 kk1;have O3:=O2.scaleK kk1;have mm:MOk c1 c2 fac (M * 60 * kk):=⟨by rw [<- eM];exact ⟨8 * 60 * kk,by grind⟩,Na,Nb⟩
  refine ⟨_,rfl,_,rfl,_,rfl,_,rfl,_,rfl,_,rfl,b,t1,t2,p3,p4,p5,g2,c1,c2,es1,es2,fac,ws3,prs,_,_,rM,rfl,A,mm,G3,O3,f5,r0,r1,fun H13 s13=>?_⟩;refine ⟨_,rfl,_,rfl,_,rfl,_,rfl,cE,fun tt htt=>⟨_,rfl,by show 5<=sizeLine;decide,fun r hr'=>?_⟩⟩;have sA:=s13.trans ((aB htt (.tup [.str "paired",.ref g2])).trans (aB hr' (.tup [.ref p3,.ref p4,.ref p5,.ref tt,.bl (xS b es1 es2 prs fac (aC9 kk es2') rM (M * 60 * kk))])));refine k _ _ ⟨r,p3,p4,p5,tt,_,fac,ws3,prs,_,rM,rfl,aC,A.ts (TS.of sA),mm,sA _ _ f5,r0,r1,.inl ⟨g2,_,aB hr' _ _ _ aC,G3.same sA,O3,rfl⟩⟩ (D12.same sA) ?_;exact fun c o e c1 c2=>sA _ _ (o12 _ _ (s11 _ _ (kp10 c o c1 c2 (fg c o (o08 c o e c1 c2)) (o07 c o e c1 c2))) c1 c2)
 refine cM (by simpa using c0) ?_;refine ⟨_,rfl,_,rfl,d,l,b,t1,c1,es1,rfl,D8,A.ask.h1,k1,fun H9 ta us zs ha tz zl an D9 o9=>?_⟩;replace A:=A.ts (TS.out D8 o9);replace o07:=o07.trans o9;have Z:=A.scl m0;have n0:=Z.hb (jA b zs);have t0:=Z.tb prs (jA b zs);have M2:=m0.m2;generalize eM:c1 * (fac.2 * c2)=M at m0 Z n0 t0 M8 N1 M2;refine ⟨_,rfl,_,rfl,_,rfl,_,rfl,_,rfl,b,t1,t2,p3,p4,ta,c1,c2,es1,es2,fac,ws3,prs,us,zs,M,rfl,A,m0,ha,tz,fun H10 r q1 q2 s10 hr1 f1 f2=>?_⟩;generalize hM es1 M (jA b zs)=hh at n0 f1;generalize tM prs es2 fac M (jA b zs)=th at t0 f2;refine ⟨r,_,rfl,aV.of hr1,rfl,_,_,rfl,_,_,rfl,rfl,?_⟩;refine ⟨cE,fun qa hqa=>?_⟩;have sa:=aB hqa (.tup [.int 0,.int 1]);have fa:bO (aJ H10 qa (.tup [.int 0,.int 1])) qa 0 M:=by unfold bO;rw [cQ N1];exact aC
 replace f1:bO (aJ H10 qa (.tup [.int 0,.int 1])) q1 hh M:=sa _ _ f1;replace f2:bO (aJ H10 qa (.tup [.int 0,.int 1])) q2 th M:=sa _ _ f2;have sB:=s10.trans sa;generalize aJ H10 qa (.tup [.int 0,.int 1])=H11 at fa f1 f2 sB ⊢;clear sa hqa s10 hr1;refine ⟨fun σ' G=>∃ q W,σ'=[some (.ref d),some (.ref t1),some (.ref t2),some (.ref p4),some (.ref p3),none,none,none,none,some (.ref ta),some (.ref q1),some (.ref q2),some (.ref q)]/\aT H9 G/\bO G q W M/\0<=W/\W<=M,?_,?_⟩
 ·obtain ⟨B1,B2,B3,B4,el⟩:=nX t0.1 t0.2 n0.1 (show hh < 2 ^ 174 by omega) N1 M2;refine ⟨_,rfl,_,rfl,q2,q1,_,_,_,_,rfl,f2,f1,B1,B2,B3,B4,?_⟩;rw [el];refine ⟨_,rfl,fH (fun c=>?_) (fun _=>⟨qa,0,rfl,sB,fa,jz _,by omega⟩)⟩;have c:=bc c;exact ⟨_,rfl,_,rfl,q1,q2,hh,th,M,rfl,f1,f2,t0.1,by omega,by omega,N1,M2,fun r2 hr2 G2 s2 _ f3=>⟨r2,_,rfl,sB.trans s2,f3,by omega,by omega⟩⟩
 rintro σ' G ⟨q,W,rfl,sG,fW,W0,W1⟩;refine ⟨_,rfl,_,rfl,d,l,q,W,M,rfl,D9.same sG,fW,W0,W1,N1,by omega,fun H12 p5 rM N f5 dv Na Nb r0 r1 D12 o12=>?_⟩;have t12:=(TS.of sG).trans (TS.out (D9.same sG) o12);replace A:=A.ts t12;have mm:MOk c1 c2 fac N:=⟨by rw [eM];exact dv,Na,Nb⟩
 refine ⟨_,rfl,_,rfl,_,rfl,_,rfl,_,rfl,_,rfl,b,t1,t2,p3,p4,p5,ta,c1,c2,es1,es2,fac,ws3,prs,us,zs,N,rM,rfl,A,mm,t12 _ _ ha,tz.mono (fun _ _ z=>hJ.ts t12 z),zl,f5,r0,r1,fun H13 s13=>?_⟩;refine ⟨_,rfl,_,rfl,_,rfl,_,rfl,cE,fun tt htt=>⟨_,rfl,by show 5<=sizeLine;decide,fun r hr'=>?_⟩⟩;have sA:=s13.trans ((aB htt (.tup [.str "broken",.ref ta])).trans (aB hr' (.tup [.ref p3,.ref p4,.ref p5,.ref tt,.bl (xY b es1 es2 prs fac zs rM N)])));refine k _ _ ⟨r,p3,p4,p5,tt,_,fac,ws3,prs,_,rM,rfl,aC,A.ts (TS.of sA),mm,sA _ _ f5,r0,r1,.inr ⟨ta,us,zs,aB hr' _ _ _ aC,sA _ _ (t12 _ _ ha),tz.mono (fun _ _ z=>hJ.ts (t12.trans (TS.of sA)) z),zl,an,rfl⟩⟩ (D12.same sA) ?_;exact o07.trans ((bP.of sG).trans (o12.trans (bP.of sA)))
theorem bC8 (C_Deal:Cl P w K mg base 1 (aR5 K) "_law_deal") (C_Two:Cl P w K mg base 3 spTwo "_law_two") (C_Pool:Cl P w K mg base 2 spPool "_law_pool") (C_Ask:Cl P w K mg base 5 (aZ1 P w) "_law_asked") (C_Shw:Cl P w K mg base 6 (aY9 P w) "shows") (C_Draw:Cl P w K mg base 1 spDraw "_law_draw") (m_list:mg "list"=none) (m_repr:mg "repr"=none) (m_range:mg "range"=none) (m_reversed:mg "reversed"=none) (m_isinstance:mg "isinstance"=none) (m_bool:mg "bool"=none):hU P w K mg base "law" "law" aP2 7 ["_law_script"] (aA6 K):=by
 refine jU ["_law_script","_law_deal_here","_law_one","_law_other","_law_asked_here","_law_pairs_here","_law_factor_here","_law_rest_here","_law_told","_law_due","_law_kept","_law_found"] fun H Q nd hr h=>?_
 obtain ⟨sa,ns,rfl,hS,hlen,k⟩:=h;refine ⟨_,(eJ 1 nd (bV C_Deal hr (aA (pv 0) (aP aD)))
  (aG (jZ (bV C_Two hr (aA (pv 1) (aA (bV C_Pool hr (aA (pv 1) (aP (aO dZ aD (bV C_Draw hr (aA (pv 1) (aP aD))))))) (aP aD)))) (bB5 rfl (aL (dR 2 nd) (aL (dR 3 nd) bG))))
  (aG (jK ["_law_turn","_law_deal_here","_law_one","_law_other"] [none,some 1,some 2,some 3] (i:=4) nd rfl (jt rfl) (hV (by rfl) m_range (aP aD)) (fun _ _ _ _=>(dR 0)) (fun _ _ _ _=>eB) (fun _ _ _ _=>(bV C_Ask hr (aA (pv 1) (aA (pv 2) (aP (pv 3)))))))
  (eJ 4 nd (aO bD8 (pv 4) (oU (pv 4) (by rfl) m_list (by rfl) m_reversed))
  (aG (pfr (gP (pv 4)) (eU rfl (aL (dR 5 nd) (aL (dR 6 nd) (aL (dR 7 nd) (aL (dR 8 nd) (aL (dR 9 nd) bG))))))
  (eJ 10 nd (nU (pJ K P w hr) m_repr zi (aP (pv 8)))
  (eJ 11 nd (bV C_Shw hr (aA (pv 2) (aA (pv 3) (aA (pv 5) (aA (pv 6) (aA (pv 7) (aP (pv 8))))))))
  (aF (bN (PW.pt (wH (tP (gR (nU wC m_isinstance PyProof.Rows.boot_isinstance (aA (pv 11) (aP (aS4 (v:= .ty "bool") (by rfl) m_bool PyProof.Rows.boot_bool rfl)))))) (wH (gF aO2 (pv 11) (pv 9)) (tS (gF aO2 (nU (pJ K P w hr) m_repr zi (aP (pv 8))) (pv 10)))))) (aF (aQ gO)) aS)))))
  (aF (aQ gO))))))),?_⟩
 refine ⟨_,rfl,sa,ns,0,rfl,hS,hlen,by decide,by decide,fun d l H1 nd' nl D1 s1=>?_⟩;refine ⟨_,rfl,_,rfl,_,rfl,d,l,5,rfl,D1,by decide,by decide,fun x H3 x0 x1 D3 o3=>⟨_,_,rfl,rfl,d,l,1+x,rfl,D3,by omega,by omega,fun b H4 r us as P4 pl hr4 D4 o4=>?_⟩⟩;have nr:=bE D3 hr4;refine ⟨d,l,r,9,b,us,as,rfl,D4,P4,nr.2,by omega,by omega,by decide,by decide,fun H5 p0 t1 t2 es1 es2 c1 c2 hp0 h1 h2 k1 k2 D5 o5=>?_⟩;refine ⟨p0,_,rfl,bK.of hp0,rfl,_,_,rfl,_,_,rfl,rfl,?_⟩;clear P4 hp0 o5 o4 o3 D4 D3 D1 s1;refine ⟨8,rfl,by decide,by decide,iE (n:=8) (fun i ys σ G=>cD G d l/\bP d l H5 G/\(∃ v,σ=[v,some (.ref d),some (.ref t1),some (.ref t2)])/\ys.length=i/\∀ v∈ys,xL P w b G v t1 t2 c1 c2 es1 es2) (aK (by decide)) ⟨D5,bP.refl _,⟨_,rfl⟩,rfl,fun _ z=>absurd z bh⟩ (by rintro i ys σ G ⟨_,_,_,e,_⟩;rw [e];exact ak _) ?_ ?_⟩
 ·rintro i ys σ G hi ⟨DG,oG,⟨v,rfl⟩,ly,al⟩;refine ⟨_,rfl,_,rfl,_,rfl,d,l,b,t1,t2,c1,c2,es1,es2,rfl,DG,h1.ts (TS.out D5 oG),h2.ts (TS.out D5 oG),k1,k2,fun G2 u aR D2 o2=>⟨D2,oG.trans o2,⟨_,rfl⟩,by rw [cb,ly];rfl,fun y hy=>?_⟩⟩;rcases cf.mp hy with q | q
  ·exact (al y q).out DG o2
  ·rw [bw.mp q];exact aR
 rintro ys σ G ⟨DG,oG,_,ly,al⟩ la hla;have sa1:=aB hla (.lst ys);have ha1:aJ G la (.lst ys) la=some (.lst ys):=aC;have al1:∀ v∈ys,xL P w b (aJ G la (.lst ys)) v t1 t2 c1 c2 es1 es2:=fun v hv=>(al v hv).out DG (bP.of sa1)
 have D1:=DG.same sa1;generalize aJ G la (.lst ys)=G1 at ha1 al1 D1 ⊢;clear al sa1 hla;refine ⟨_,rfl,_,rfl,la,ys,rfl,bK.of ha1,fun lr hlr=>?_⟩;have sr:=aB hlr (.lst ys.reverse);refine ⟨la,lr,ys,ys.reverse,rfl,rfl,sr _ _ ha1,aC,by rw [jr,ly];show 8+8<=sizeLine;decide,fun lc hlc=>?_⟩;have sc:=sr.trans (aB hlc (.lst (ys++ys.reverse)));have hc:aJ (aJ G1 lr (.lst ys.reverse)) lc (.lst (ys++ys.reverse)) lc=some (.lst (ys++ys.reverse)):=aC;have al2:∀ v∈ys++ys.reverse,xL P w b (aJ (aJ G1 lr (.lst ys.reverse)) lc (.lst (ys++ys.reverse))) v t1 t2 c1 c2 es1 es2:=fun v hv=>(al1 v (by
  rcases cf.mp hv with q | q
  ·exact q
  ·exact List.mem_reverse.mp q)).out D1 (bP.of sc)
 have D2:=D1.same sc;have lz:(ys++ys.reverse).length=16:=by rw [cb,jr,ly]
 generalize aJ (aJ G1 lr (.lst ys.reverse)) lc (.lst (ys++ys.reverse))=G2 at hc al2 D2 ⊢;generalize ys++ys.reverse=zs at hc al2 lz;clear al1 sc sr hlr hlc ha1;refine ⟨_,rfl,lc,rfl,⟨_,bK.of hc⟩,pU (xs:=zs) (fun i σ G=>∃ v5 v6 v7 v8 v9 v10 v11,σ=[some (.ref sa),some (.ref d),some (.ref t1),some (.ref t2),some (.ref lc),v5,v6,v7,v8,v9,v10,v11]/\aT G2 G) ⟨_,_,_,_,_,_,_,rfl,aT.refl _⟩ (by rintro i σ G _ ⟨_,_,_,_,_,_,_,_,s⟩;exact bK.of (s _ _ hc)) ?_ ?_⟩
 ·rintro i v σ G hv ⟨v5,v6,v7,v8,v9,v10,v11,rfl,s⟩;obtain ⟨r,p3,p4,p5,tt,du,fac,ws3,prs,M,rM,rfl,g1,A,mm,f5,r0,r1,T⟩:=(al2 v (bo hv)).out D2 (bP.of s);obtain ⟨tx,ht⟩:=aD3 T mm.m1 mm.m2;refine ⟨r,_,rfl,aV.of g1,rfl,_,_,rfl,_,_,rfl,_,_,rfl,_,_,rfl,_,_,rfl,rfl,?_⟩;refine ⟨_,rfl,ht K G (aT.refl _) _ ?_⟩;refine ⟨_,rfl,_,rfl,_,rfl,_,rfl,_,rfl,_,rfl,b,t1,t2,p3,p4,p5,tt,c1,c2,es1,es2,fac,ws3,prs,M,rM,du,rfl,A,mm,f5,r0,r1,T,fun G3 s3=>?_⟩;refine ⟨_,rfl,_,_,_,true,rfl,.bl _,rfl,_,rfl,cM (by decide) ⟨_,rfl,_,rfl,rfl,_,rfl,cM (by simp) ⟨_,rfl,ht K G3 s3 _ ⟨_,rfl,rfl,_,rfl,cM (by simp) ⟨_,_,_,_,_,_,_,rfl,s.trans s3⟩⟩⟩⟩⟩
 ·rintro σ G ⟨v5,v6,v7,v8,v9,v10,v11,rfl,s⟩;exact k G
end
theorem all_mk {l:W.OpenLaw}{w:World}{K:W.Frag}{h:Heap}{mg:Str->Option Value}{fa:Addr}(X:K.In h) (G:h.Ns mainGlobals mg) (hfa:mg "law"=some (.ref fa))
  (t1:TopAt K "common_divisor" bO4)
  (t2:TopAt K "lowest" bM7)
  (t3:TopAt K "added" bN2)
  (t4:TopAt K "times" aM3)
  (t5:TopAt K "less" aY6)
  (t6:TopAt K "are_rising" bO7)
  (t7:TopAt K "come_to" bA1)
  (t8:TopAt K "come_to_each" bR2)
  (t9:TopAt K "is_pairing" bK9)
  (t10:TopAt K "is_breaking" bM4)
  (t11:TopAt K "shows" bN0)
  (t12:TopAt K "_law_deal" aN0)
  (t13:TopAt K "_law_draw" aK0)
  (t14:TopAt K "_law_lowest" bA6)
  (t15:TopAt K "_law_pool" aZ6)
  (t16:TopAt K "_law_shares" bP0)
  (t17:TopAt K "_law_two" bQ6)
  (t18:TopAt K "_law_plus" bA0)
  (t19:TopAt K "_law_times" aZ8)
  (t20:TopAt K "_law_below" bR5)
  (t21:TopAt K "_law_factor" bQ8)
  (t22:TopAt K "_law_pairs" bR0)
  (t23:TopAt K "_law_is_pairing" bA7)
  (t24:TopAt K "_law_over" bM0)
  (t25:TopAt K "_law_breaks" bN6)
  (t26:TopAt K "_law_lesser" bK6)
  (t27:TopAt K "_law_less" bR1)
  (t28:TopAt K "_law_laid" bP5)
  (t29:TopAt K "_law_bent" bN4)
  (t30:TopAt K "_law_some" bN3)
  (t31:TopAt K "_law_rest" bN8)
  (t32:TopAt K "_law_lacks" bL1)
  (t33:TopAt K "_law_asked" bN5)
  (t34:TopAt K "law" aP2)
  (z_all:W.nsIn K mainGlobals "all"=some none)
  (z_range:W.nsIn K mainGlobals "range"=some none)
  (z_len:W.nsIn K mainGlobals "len"=some none)
  (z_dict:W.nsIn K mainGlobals "dict"=some none)
  (z_any:W.nsIn K mainGlobals "any"=some none)
  (z_list:W.nsIn K mainGlobals "list"=some none)
  (z_max:W.nsIn K mainGlobals "max"=some none)
  (z_reversed:W.nsIn K mainGlobals "reversed"=some none)
  (z_sorted:W.nsIn K mainGlobals "sorted"=some none)
  (z_tuple:W.nsIn K mainGlobals "tuple"=some none)
  (z_sum:W.nsIn K mainGlobals "sum"=some none)
  (z_zip:W.nsIn K mainGlobals "zip"=some none)
  (z_int:W.nsIn K mainGlobals "int"=some none)
  (z_repr:W.nsIn K mainGlobals "repr"=some none)
  (z_isinstance:W.nsIn K mainGlobals "isinstance"=some none)
  (z_bool:W.nsIn K mainGlobals "bool"=some none) :
  ∃ fd:FuncData,(∀ (s:Shared) (v:Value),BindsTo s fd ⟨[v],[]⟩ [("_law_script",v)])/\∀ base:Heap,K.In base->base.Ns mainGlobals mg->nF l.prog w K mg base CX0 7 fa fd ["_law_script"] (aA6 K):=by
 obtain ⟨_,la,oc,od,kV,dc,pm,an,cd,ct,sl,lk,lc,lp⟩:=t34
 cases hfa.symm.trans (W.mg_of X G la)
 refine ⟨W.fnOf "law" "law" (cA aP2) (bS aP2) (aW aP2) .none kV dc pm an cd ct,fun s v=> .of_eq rfl,fun base _ _=>?_⟩;have Z:Zx l.prog w K mg base:= .of X G;have y_all:=Z.no _ z_all;have y_range:=Z.no _ z_range;have y_len:=Z.no _ z_len;have y_dict:=Z.no _ z_dict;have y_any:=Z.no _ z_any;have y_list:=Z.no _ z_list;have y_max:=Z.no _ z_max;have y_reversed:=Z.no _ z_reversed;have y_sorted:=Z.no _ z_sorted;have y_tuple:=Z.no _ z_tuple;have y_sum:=Z.no _ z_sum;have y_zip:=Z.no _ z_zip;have y_int:=Z.no _ z_int;have y_repr:=Z.no _ z_repr;have y_isinstance:=Z.no _ z_isinstance;have y_bool:=Z.no _ z_bool;have C1:=Z.c2 t1 (bB8);have C2:=Z.c2 t2 (bI0 C1);have C3:=Z.c2 t3 (bH5 C2);have C4:=Z.c2 t4 (aN8 C2);have C5:=Z.c2 t5 (aU1);have C6:=Z.c1 t6 (bJ1 y_all y_range y_len);have C7:=Z.c1 t7 (aX7 C3);have C8:=Z.c2 t8 (bG8 C3);have C9:=Z.c6 t9 (bG1 C8 C5 C3 C4 C7 y_dict y_any y_all y_list);have C10:=Z.c6 t10 (bC6 C7 C4 C5 C3 C6 y_dict y_all)
 have C11:=Z.c6 t11 (bI2 C9 C10);have C12:=Z.c2 t12 fun F=>aX4 F y_max y_reversed y_list
 have C13:=Z.c2 t13 fun F=>aW3 F y_len
 have C14:=Z.c2 t14 (aS7);have C15:=Z.c2 t15 (aX1 C13 y_range y_sorted y_tuple);have C16:=Z.c2 t16 (bG7 C14 y_sum y_tuple y_zip);have C17:=Z.c3 t17 (bE0 C13 C16 y_range y_list y_len);have C18:=Z.c2 t18 (aT0 C14);have C19:=Z.c2 t19 (aV5 C14);have C20:=Z.c2 t20 (bB6);have C21:=Z.c3 t21 (bE8 C14 C13 y_dict y_max y_len);have C22:=Z.c3 t22 (bK4 C13 y_tuple);have C23:=Z.c6 t23 (aS3 C18 C20 C19);have C24:=Z.c5 t24 (bK5 C19 C18);have C25:=Z.c6 t25 (bF8 C24 C20 C18 y_list);have C26:=Z.c2 t26 (bF7 C20 y_int);have C27:=Z.c2 t27 (bC5 C14);have C28:=Z.c5 t28 (bI5 C13 C19 C26 C27 y_dict y_list y_int y_len);have C29:=Z.c4 t29 (bH9 C13 C14 C18 C27 y_len y_list y_int);have C30:=Z.c2 t30 (bE4 C13 y_tuple y_len);have C31:=Z.c2 t31 (bI7 C13 C14 C27 C18);have C32:=Z.c1 t32 (bG5 C20 C18 C27);have C33:=Z.c3 t33 (bJ0 C21 C22 C30 C24 C20 C31 C25 C13 C28 C29 C23 C27 C32);exact bC8 C12 C17 C15 C33 C11 C13 y_list y_repr y_range y_reversed y_isinstance y_bool (aI4 lk lc lp)
theorem walk {l:W.OpenLaw}{q:Program}{loose:List Str}{XP:(Str->Option Value)->Heap->Prop}{YP:World->Heap->Prop}{d:DefRec}{K:Params->W.Frag}(hn:l.most=some 63) (hdf:d.params.defaults=[])
  (hY:∀ (w:World) (h:Heap),YP w h->(K w.params).In h)
  (F:∀ (w:World) (mg:Str->Option Value) (fa:Addr) (h:Heap),(K w.params).In h->h.Ns mainGlobals mg->mg d.name=some (.ref fa) ->
   ∃ fd:FuncData,(∀ (s:Shared) (u:Value),BindsTo s fd ⟨[u],[]⟩ [("_law_script",u)])/\∀ base:Heap,(K w.params).In base->base.Ns mainGlobals mg->nF l.prog w (K w.params) mg base CX0 7 fa fd ["_law_script"] (aA6 (K w.params))) :
  W.WalkO q loose XP YP l.row.toRowW d [] (fun f vs=>PySem.call f vs) :=
 L2.walk_of (n:=63) (k:=7) (x:="_law_script") (CX:=fun _=>CX0) (sp:=fun w=>aA6 (K w.params)) hn (by decide) hdf ⟨rfl,by decide,by decide,rfl⟩ hY F (fun _ _ a ns hl _ hS=>⟨a,ns,rfl,hS,hl,fun _=>rfl⟩) fun _ _ _ _ _ z=>z
end Mine
open PySem PySem.W PyProof.Rows
namespace PySem.W.Fast
def tw10011535599856204616:=0
def tw10059672609073306343:=0
def tw10306289879349034900:=0
def tw10378876381380180269:=0
def tw10530617087740455708:=0
def tw10643857078944179342:=0
def tw10712536209253159676:=0
def tw10804130342696131986:=0
def tw10836268927885630722:=0
def tw10858021614289034719:=0
def tw10906368085057547892:=0
def tw10911776740546563725:=0
def tw10919365377236987952:=0
def tw11072231207973429972:=0
def tw11089295317274352814:=0
def tw11114287957054616673:=0
def tw11138717260430571355:=0
def tw11149622267925343367:=0
def tw11173480762512672:=0
def tw1129439605302737691:=0
def tw11559854547513011655:=0
def tw11562674189533775620:=0
def tw11564013148810642924:=0
def tw11705985758718209983:=0
def tw11773352658578681:=0
def tw11778072047574415643:=0
def tw11854235209965117179:=0
def tw1185851666737896013:=0
def tw11952621695986264801:=0
def tw119941268081244623:=0
def tw12022021039798905182:=0
def tw12090589602886968956:=0
def tw12195193540729718421:=0
def tw12270806379490813396:=0
def tw12430862189902131909:=0
def tw12626834106101344138:=0
def tw12660479367665520314:=0
def tw12692795462313830878:=0
def tw12742225091676380869:=0
def tw127910585760836631:=0
def tw12825656197299310023:=0
def tw12848381404170911477:=0
def tw128567311040988625:=0
def tw1294165659260914015:=0
def tw12992250226800942693:=0
def tw13077034341258583355:=0
def tw13160773024530128454:=0
def tw1316865533393106986:=0
def tw13259745418184269349:=0
def tw13354019892620177063:=0
def tw13386782125454032820:=0
def tw13481970247704704988:=0
def tw1363119148468623784:=0
def tw13653211687649396359:=0
def tw1375636771547865739:=0
def tw13774241366215907406:=0
def tw1379789081298448560:=0
def tw13911244917245972348:=0
def tw13911456096249652824:=0
def tw13918094810433162498:=0
def tw13951798728189825604:=0
def tw14068938315467813295:=0
def tw14089012614919186096:=0
def tw1413698992045591289:=0
def tw14221839720245087845:=0
def tw14298736330664444586:=0
def tw14503798552482446264:=0
def tw14533839966149882162:=0
def tw14607699167458971412:=0
def tw14906815293599513947:=0
def tw14970702954547039777:=0
def tw15567982145309985044:=0
def tw15709186459489616437:=0
def tw15738240329829803723:=0
def tw15818192514937362573:=0
def tw15837772114653661154:=0
def tw15851857515642697775:=0
def tw15907233569251407375:=0
def tw15954935811531217700:=0
def tw16105182727441191719:=0
def tw16132237255514931697:=0
def tw16162207710152353159:=0
def tw16260684149436231620:=0
def tw16409660410376280095:=0
def tw16464074534024665482:=0
def tw1655873150781193457:=0
def tw16737343224402144656:=0
def tw16848871488163666313:=0
def tw16914270230573980257:=0
def tw16915049749008981678:=0
def tw16926195438065876252:=0
def tw16958091583471940222:=0
def tw17000419704661203074:=0
def tw17139725570436314398:=0
def tw17199782948389185961:=0
def tw17334356955548228934:=0
def tw173987247231195002:=0
def tw17428275088674650798:=0
def tw17520701721746244294:=0
def tw17551880463454733482:=0
def tw1761504819574289355:=0
def tw17743575280754653951:=0
def tw17865491943795357569:=0
def tw17926102286003966846:=0
def tw1801256234855523578:=0
def tw18090409776160026017:=0
def tw1822783370950605917:=0
def tw18330303804333410894:=0
def tw18335624831133425140:=0
def tw1841669348239302115:=0
def tw18431404452747949494:=0
def tw1966458317652939966:=0
def tw2006571446278985306:=0
def tw2025470774528189877:=0
def tw2039662756084962230:=0
def tw2049160441721106707:=0
def tw2080729966610297159:=0
def tw2091926972664817805:=0
def tw2197007087103788639:=0
def tw2224342756176103379:=0
def tw2458992660719912206:=0
def tw250584319319028058:=0
def tw2565087780169215844:=0
def tw2591033441570052586:=0
def tw2653228962536650529:=0
def tw2658219650467107025:=0
def tw2734934235231068118:=0
def tw2796476408559647564:=0
def tw2812303302106086478:=0
def tw2858298193840994066:=0
def tw2882336230051672417:=0
def tw3101118470256015513:=0
def tw3234811594163988696:=0
def tw3645439234043965706:=0
def tw3761262141944821204:=0
def tw38749932962468369:=0
def tw3882413472789488614:=0
def tw4003932899897112006:=0
def tw4094455995690881442:=0
def tw4108356195778351209:=0
def tw4134133106029990098:=0
def tw4293380073986508911:=0
def tw4355919603744821017:=0
def tw4582997834946646039:=0
def tw4713826264279140234:=0
def tw4924870278756420016:=0
def tw4982434456087723622:=0
def tw501881672891030716:=0
def tw509608641744153389:=0
def tw5101328843755645698:=0
def tw5161045889430802304:=0
def tw5213343406853532755:=0
def tw5306188974503868880:=0
def tw5459749146384360957:=0
def tw5465850334654924891:=0
def tw5553941081015604754:=0
def tw5566759418045625382:=0
def tw5602758918020529573:=0
def tw5650387901528776625:=0
def tw565933767179038819:=0
def tw5675156160236219376:=0
def tw5764624551642295612:=0
def tw5858786113856354667:=0
def tw5990096549195754001:=0
def tw6151468361100487672:=0
def tw628745886777826261:=0
def tw6330696987002814207:=0
def tw6534233143573332003:=0
def tw6876456356564371596:=0
def tw6897171942724896:=0
def tw6919602879895576801:=0
def tw7208383787161629012:=0
def tw7247056086202330630:=0
def tw7273472710595139132:=0
def tw7340723848449793769:=0
def tw7408386615340068927:=0
def tw7471368231987557007:=0
def tw760330332960936493:=0
def tw7632612015124790769:=0
def tw7714737016109038248:=0
def tw7741518523686979697:=0
def tw7768639982410127612:=0
def tw7812076004748734700:=0
def tw7918104600892589438:=0
def tw8076688991274629243:=0
def tw8555727392980056271:=0
def tw8604384645493713211:=0
def tw8659939349618639527:=0
def tw8679503171245613607:=0
def tw8695336226400724882:=0
def tw9103457743473976739:=0
def tw9152613598996036135:=0
def tw9164220613888176489:=0
def tw961154875855618976:=0
def tw9672391632038884461:=0
def tw9730025332468679495:=0
def tw9832942295207617124:=0
def tw9924440956636767864:=0
end PySem.W.Fast
set_option maxRecDepth 100000 in
set_option maxHeartbeats 0 in
theorem PySem.Challenge.cw_pairedthrows_k30_pairings_and_sets_looke_holds : PySem.Challenge.rw_pairedthrows_k30_pairings_and_sets_looke.Holds := by
  w_on;o_law;k_head;(case hw=>w_witness2)
  k_fill
  refine Mine.walk (l:=PySem.Challenge.rw_pairedthrows_k30_pairings_and_sets_looke) rfl rfl (fun w h Y=>PySem.W.kIn_of Y) ?F
  case F =>
    intro w mg fa h KX G hmg
    refine' Mine.all_mk KX G hmg ?a0 ?a1 ?a2 ?a3 ?a4 ?a5 ?a6 ?a7 ?a8 ?a9 ?a10 ?a11 ?a12 ?a13 ?a14 ?a15 ?a16 ?a17 ?a18 ?a19 ?a20 ?a21 ?a22 ?a23 ?a24 ?a25 ?a26 ?a27 ?a28 ?a29 ?a30 ?a31 ?a32 ?a33 ?a34 ?a35 ?a36 ?a37 ?a38 ?a39 ?a40 ?a41 ?a42 ?a43 ?a44 ?a45 ?a46 ?a47 ?a48 ?a49
    case a34|a35|a36|a37|a38|a39|a40|a41|a42|a43|a44|a45|a46|a47|a48|a49=>k_is
    case a0|a1|a2|a3|a4|a5|a6|a7|a8|a9|a10|a11|a12|a13|a14|a15|a16|a17|a18|a19|a20|a21|a22|a23|a24|a25|a26|a27|a28|a29|a30|a31|a32|a33=>apply L2.TopAt.of<;>k_is
