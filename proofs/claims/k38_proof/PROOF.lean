import PyProof.Rows.All
import Wide.All
import OpenK.AllK
import Wide.FinOn
import Lean
import PyProof.EqAt
import PyProof.EqKinds
import PyProof.TupleCall
import KE.KDictOf
import PyProof.AttrMissHeap
import KE.KSortTup
import PyProof.Rows.InDataRows
import KE.KRevSl
import PyProof.Rows.SetFrom
import PyProof.Rows.SortStr
import KE.KDictLaws
import KE.KItemsList
import PySem.Challenge.RW_pairedthrows_k38_papers_written
set_option Elab.async false
set_option linter.all false
set_option maxRecDepth 100000
noncomputable section
theorem oqa {a b c:Int}(h:a<=b:=by assumption)(g:b<=c:=by decide +kernel):a<=c:=Int.le_trans h g
theorem oqb {a b c:Int}(h:b<=c:=by assumption)(g:a<=b:=by decide +kernel):a<=c:=Int.le_trans g h
theorem oqc {a b c:Int}(h:a<=b:=by assumption)(g:b< c:=by decide +kernel):a< c:=Int.lt_of_le_of_lt h g
theorem oqe {a b c:Int}(h:b<=c:=by assumption)(g:a< b:=by decide +kernel):a< c:=Int.lt_of_lt_of_le g h
theorem oqf {a b c:Nat}(h:a<=b:=by assumption)(g:b<=c:=by decide +kernel):a<=c:=Nat.le_trans h g
theorem oqj {a b c:Nat}(h:a<=b:=by assumption)(g:b<=c:=by assumption):a<=c:=Nat.le_trans h g
theorem oqn {a b:Int}(h:a<=b:=by assumption):0<=b - a:=Int.sub_nonneg_of_le h
theorem oqo {a b c:Nat}(h:a = b:=by assumption)(g:b<=c:=by assumption):a<=c:=h ▸ g
theorem oqq {n m:Nat} {c:Int}(h:n<=m:=by assumption)(g:(m:Int)< c:=by decide +kernel):(n:Int)< c:=Int.lt_of_le_of_lt (Int.ofNat_le.mpr h) g
theorem oqt {a b:Int}(h:b< a:=by assumption):a ≠ b:=Int.ne_of_gt h
theorem oqx {a b c:Nat}(h:a< b:=by assumption)(g:b<=c:=by decide +kernel):a<=c:=Nat.le_of_lt (Nat.lt_of_lt_of_le h g)
theorem oqC {a b c:Nat}(h:a + b<=c:=by assumption):a<=c:=Nat.le_trans (Nat.le_add_right a b) h
theorem oqD {a b c:Nat}(h:a + b<=c:=by assumption):b<=c:=Nat.le_trans (Nat.le_add_left b a) h
theorem oqI {a b:Nat}:a<=a + b:=Nat.le_add_right a b
theorem oqJ {a b:Nat}:a<=b + a:=Nat.le_add_left a b
theorem oqN {a b c:Nat}(h:b = a:=by assumption)(g:b<=c:=by assumption):a<=c:=h ▸ g
local macro_rules|`(tactic|omega)=>`(tactic|lia)
namespace L2
open PySem PySem.Spec PyProof.Rows
def aa:=@wpAny_bind
def ac:=@List.length_map
def ae:=@Heap.get?_push_of_some
def af:=@wpAny_pure
def ag:=@decide_eq_true
def ai:=@of_decide_eq_true
def aj:=@Nat.le_refl
def ak:=@if_neg
def am:=@List.length_append
def ao:=@List.mem_cons_self
def aq:=@List.mem_cons_of_mem
def ar:=@List.getElem?_eq_getElem
def au:=@List.not_mem_nil
def av:=@Heap.lt_size
def ax:=@List.mem_singleton
def ay:=@if_pos
def az:=@Heap.get?_push_size
def bc:=@List.getElem?_eq_some_iff
def be:=@List.mem_of_getElem?
def bj:=@Nat.zero_le
def bm:=@List.map_append
def bo:=@List.length_cons
def bq:=@Nat.ne_of_lt
def br:=@PySem.F.plainAttrs_list
def bt:=@List.size_toArray
def bu:=@Nat.le_of_lt
def bv:=@List.take_length
def bw:=@List.mem_append_right
def bx:=@Bool.false_ne_true
def bz:=@Nat.lt_of_le_of_lt
def cf:=@List.mem_cons
def cg:=@List.mem_append
def cj:=@List.getElem?_map
def cm:=@Nat.lt_of_lt_of_le
def cp:=@List.length_take
def cq:=@Int.toNat_natCast
def cu:=@Nat.le_trans
def cv:=@List.length_singleton
def cx:=@List.mem_append_left
def cy:=@List.mem_map
def cz:=@decide_eq_false
def da:=@decide_eq_true_eq
def db:=@Array.length_toList
def de:=@Nat.ne_of_gt
def dh:=@wpAny_callSpecial?_slot
def di:=@Int.mul_nonneg
def dj:=@wpAny_newObj_type
def dk:=@PySem.F.slot_list_append
def dm:=@PySem.F.type_list_append
def dq:=@List.map_cons
def du:=@Heap.get?_update_other
def dv:=@Heap.get?_update_self
def dw:=@List.getD_eq_getElem?_getD
def dy:=@wpAny_call_entry
def dz:=@Option.some.inj
def ee:=@List.append_assoc
def ef:=@Nat.lt_succ_self
def eh:=@List.length_eq_zero_iff
def ej:=@List.filter_cons_of_neg
def en:=@List.filter_cons_of_pos
def eo:=@PyProof.Rows.boot_tuple
def fb:=@List.flatMap_append
def fc:=@congrArg
def ff:=@List.flatMap_cons
def fg:=@Nat.mul_le_mul_right
def fh:=@PyProof.Rows.callWith_type1
def fi:=@Obj.data_mapFields
def fj:=@wpAny_mono
def fq:=@List.append_nil
def fw:=@List.take_append_drop
def fz:=@Int.pow_nonneg
def gb:=@PySem.boot_len
def gc:=@Int.eq_ofNat_of_zero_le
def ge:=@Calls.spliced_cons
def gg:=@wpAny_field
def gh:=@List.replicate_succ
def gi:=@Heap.size_push
def gj:=@wpAny_Call_Name_kw
def gm:=@List.foldl_cons
def gt:=@Around.under_plainId
def gu:=@Int.mul_pos
def gx:=@wpAny_truthy_bool
def gy:=@Nat.lt_irrefl
def ia:=@PySem.F.slot_list_extend
def ib:=@PySem.F.type_list_extend
def ic:=@PySem.W.kia_one
def ie:=@PassesOwn.never
def ig:=@Nat.le_add_right
def ii:=@wpAny_holding
def ij:=@Nat.sub_lt_sub_left
def ik:=@List.length_reverse
def im:=@codeAny_builtin
def io:=@PySem.F.plain_extend_loop
def ip:=@PyProof.Rows.boot_int
def iq:=@Int.le_of_lt
def ir:=@True.intro
def iu:=@wpAny_seqItems
def iw:=@wpAny_setField
def iy:=@List.mem_of_mem_take
def iz:=@Int.dvd_of_emod_eq_zero
def jb:=@Calls.spliced_nil
def jc:=@List.length_nil
def jd:=@beq_eq_false_iff_ne
def je:=@Heap.SameBut.update
def jf:=@PyProof.Rows.boot_list
def jg:=@PyProof.Rows.boot_repr
def jh:=@List.mem_flatMap
def ji:=@builtinLookup_eq_fast
def jj:=@Obj.isFreed_of_fields
def jm:=@List.length_filter_le
def jn:=@PyProof.Rows.slot_tuple_getitem
def jo:=@sizeLine_eq
def jp:=@Int.pow_succ
def jq:=@piled_cons
def jr:=@List.flatten_cons
def js:=@Nat.lt_succ_of_lt
def ju:=@plainId_quiet
def jv:=@Int.mul_le_mul_of_nonneg_left
def jw:=@PySem.mem_of_lookup
def jx:=@Bool.and_eq_true
def jy:=@Nat.le_succ
def jz:=@Calls.callWith_builtin
def ka:=@Int.natCast_nonneg
def kb:=@Or.inl
def ke:=@wpAny_passesOwn
def kg:=@List.nodup_cons
def kh:=@PySem.F.slot_dict_get
def ki:=@Array.getElem?_toList
def kj:=@wpAny_updateSeq
def km:=@PySem.F.slot_list_pop
def ko:=@PySem.F.type_list_pop
def kq:=@Int.emod_nonneg
def kr:=@F.slot_tuple_iterator_next
def ku:=@strLen_append
def lg:=@wpAny_pyIter_list
def lh:=@List.reverse_cons
def lj:=@wpAny_setState_of
def lm:=@Array.getElem?_eq_getElem
def lq:=@codeAny_mono
def ma:=@PySem.F.args_tuple_add_2
def md:=@wpAny_isInstance
def mh:=@List.getElem_mem
def mi:=@wpAny_askSetting
def mj:=@Int.pow_zero
def mn:=@List.countP_cons
def mq:=@wpAny_setEntries_of
def my:=@PySem.F.entry_tuple_add
def mz:=@wpAny_getItem_str_slice
def na:=@PySem.F.plain_list_iadd
def ng:=@wpAny_attempt
def nh:=@List.map_take
def nj:=@List.sum_cons
def nq:=@Bool.eq_iff_iff
def nr:=@tupleKind_room_in1
def nt:=@wpAny_specialOf
def nu:=@typeLookup_type
def nv:=@Int.emod_lt_of_pos
def ny:=@PySem.F.slot_tuple_add
def og:=@Obj.cls_mapFields
def oh:=@List.nodup_append
def oj:=@wpAny_typeOf
def om:=@List.getElem?_eq_none
def on:=@Array.size_eq_one_iff
def oo:=@PySem.F.slot_zip_next
def oq:=@PyProof.Rows.boot_isinstance
def ou:=@wpAny_rule
def ow:=@Calls.evalArgs_plain
def ox:=@List.length_drop
def oy:=@Nat.not_lt
def oz:=@Nat.pow_le_pow_right
def pd:=@Int.mul_ediv_cancel'
def pf:=@List.dropLast_concat
def ph:=@List.any_cons
def pi:=@Int.mul_one
def pw:=@Int.le_refl
def pz:=@Array.toList_append
def qc:=@List.mem_filter
def qd:=@List.nil_append
def qe:=@Classical.byContradiction
def qf:=@List.drop_eq_getElem_cons
def qg:=@wpAny_pyIter_tuple
def qh:=@slot_listiter_next
def qj:=@List.filterMap_cons_none
def qk:=@PySem.F.args_dict_get_3
def qm:=@PySem.F.plainAttrs_dict
def qo:=@PyProof.Rows.intBits_le
def qp:=@F.plain_set_update_loop
def qq:=@List.foldl_append
def qr:=@List.length_range
def qu:=@Sum.inr.inj
def qv:=@PySem.F.entry_dict_get
def qw:=@Paired.length
def qx:=@noFill_tuple_add
def qy:=@List.flatMap_nil
def qz:=@List.length_replicate
def re:=@List.countP_le_length
def rf:=@PyProof.Rows.boot_max
def rg:=@List.eraseIdx_eq_take_drop_succ
def rh:=@wpAny_execs_nil
def rj:=@Option.map_some
def rn:=@Nat.succ_mul
def ro:=@Array.toArray_toList
def rq:=@post_val_or_str
def sf:=@Txt.slice_le
def si:=@wpAny_loadPart'
def sj:=@wpAny_ite_split
def sk:=@Int.natCast_mul
def sn:=@Int.mul_comm
def sr:=@List.map_map
def su:=@Int.zero_add
def sv:=@List.replicate_succ'
def sw:=@PyProof.Rows.int_text_len_1921
def sy:=@List.eq_nil_of_length_eq_zero
def tj:=@List.filterMap_cons
def ua:=@Int.ediv_mul_cancel
def ub:=@List.mem_range
def uc:=@List.nodup_nil
def ud:=@F.args_tuple_iterator_next_1
def ue:=@isSubtype_stop
def uf:=@wpAny_fieldsOf
def ug:=@PySem.F.slot_dict_setdefault
def uh:=@Int.one_mul
def ui:=@assignInOrder_cons
def uj:=@List.mem_filterMap
def uk:=@F.entry_tuple_iterator_next
def um:=@PySem.F.plain_proto_collect
def uo:=@of_decide_eq_false
def uq:=@List.filter_append
def ut:=@Calls.Name_function_global
def uu:=@seq_tuple_add
def uv:=@PyProof.Rows.boot_reversed
def uw:=@Int.fdiv_eq_ediv_of_nonneg
def ux:=@List.length_eraseIdx_of_lt
def uy:=@List.nodup_iff_pairwise_ne
def uz:=@PySem.int_text_length_le10
def va:=@Option.isSome_map
def vb:=@wpAny_Call_method
def vc:=@Array.toList_push
def vd:=@List.getElem?_append_left
def ve:=@call_meets
def vf:=@Decidable.byContradiction
def vg:=@Calls.call_function_entry
def vh:=@PySem.F.entry_extend_loop
def vi:=@Nat.le_of_eq
def vj:=@Option.isSome_iff_exists
def vk:=@List.map_nil
def vm:=@call_meetsIn
def vn:=@concat_meets
def vo:=@wpAny_comprehension_free
def vp:=@PyProof.noPylong_of_log2
def vq:=@List.all_eq_true
def vv:=@List.ext_getElem
def vw:=@List.length_erase_of_mem
def vx:=@Nat.gcd_pos_of_pos_right
def vy:=@Nat.zero_add
def vz:=@PyProof.Rows.boot_sorted
def wb:=@Int.le_trans
def wc:=@F.entry_set_update_loop
def we:=@Int.mul_ediv_mul_of_pos
def wf:=@Int.natCast_dvd_natCast
def wg:=@PySem.F.args_zip_next_1
def wj:=@Int.emod_eq_zero_of_dvd
def wm:=@List.of_mem_zip
def wo:=@join_length_add
def wp:=@Int.natCast_add
def wq:=@List.getElem?_set_self
def wt:=@PySem.W.cellsFrom_some
def wu:=@meets_dict_get_default
def wv:=@subscriptTail_builtinR
def wx:=@Nat.log2_lt
def wy:=@wpAny_of_eq
def xa:=@List.getElem_cons_drop
def xb:=@Array.getElem?_eq_none
def xc:=@strsAre_map
def xf:=@Int.pow_pos
def xg:=@PySem.F.entry_zip_next
def xh:=@wpAny_isTrue_Compare1
def xj:=@PySem.F.type_dict_get
def xk:=@Or.inr
def xm:=@isSubtype_type
def xn:=@List.getElem?_reverse
def xo:=@F.slot_enumerate_next
def xp:=@Int.mul_le_mul
def xq:=@List.filterMap_append
def xr:=@List.countP_mono_left
def xt:=@List.eq_nil_or_concat
def xu:=@PySem.ofString_length
def xy:=@List.concat_eq_append
def xz:=@PyProof.Rows.boot_min
def yb:=@List.getElem?_set_ne
def yc:=@wpAny_loadName_local
def yd:=@Array.mem_toList_iff
def ye:=@beq_iff_eq
def yf:=@Prod.ext
def yg:=@List.length_dropLast
def yh:=@codeAny_extend_loopS
def yi:=@Int.natAbs_of_nonneg
def yj:=@wpAny_pyIter_revIter
def yk:=@entry_proto_collect'
def ym:=@List.mem_erase_of_ne
def yn:=@List.mem_iff_getElem
def yo:=@Constant_none
def yq:=@wpAny_standAt
def yt:=@List.all_cons
def yu:=@Walks.listRev
def yv:=@wpAny_handled
def yw:=@List.map_drop
def yx:=@wpAny_loadName_cell
def yy:=@entry_tuple_getitem
def yz:=@List.getElem_of_mem
def zb:=@entry_listiter_next
def zc:=@Int.toNat_of_nonneg
def zd:=@List.reverse_append
def ze:=@SeqAt.EqAt.int_str
def zh:=@SeqAt.EqAt.str_int
def zj:=@PySem.W.callWith_K
def zk:=@Nat.lt_trans
def zm:=@args_tuple_getitem
def zn:=@F.args_list_init_2
def zo:=@call_reversed_list
def zp:=@args_listiter_next
def zr:=@List.pairwise_cons
def zt:=@Nat.gcd_comm
def zu:=@Int.lt_trans
def zw:=@Nat.sub_zero
def zx:=@piled_nil
def zy:=@wpAny_assign_Name
def aAa:=@wpAny_throw
end L2
namespace L2
open PySem PySem.Spec PyProof.Rows
abbrev Key:=Sum Int Str
def kD:Key->Value->Bool
 | .inl k,v=>Value.isInt k v
 | .inr x,v=>Value.isStrOf x v
def bS1 (w:World):Key->Int
 | .inl k=>hashInt k
 | .inr x=>hashStr w x
theorem cG:∀ {k:Key}{v:Value},kD k v=true->(∃ i t,k=Sum.inl i/\v=Value.int i t)\/(∃ x t,k=Sum.inr x/\v=Value.str x t)
 | .inl i,v,h=>by
  obtain ⟨t,e⟩:=Value.isInt_shape (k:=i) (v:=v) h
  exact .inl ⟨i,t,rfl,e⟩
 | .inr x,v,h=>by
  obtain ⟨t,e⟩:=Value.isStrOf_shape (x:=x) (v:=v) h
  exact .inr ⟨x,t,rfl,e⟩
theorem aP3 (i:Int) (t:Tok):kD (.inl i) (.int i t)=true:=by simp [kD,Value.isInt]
theorem uX (x:Str) (t:Tok):kD (.inr x) (.str x t)=true:=by simp [kD,Value.isStrOf]
theorem bX3 (a b:Int):decide ((Sum.inl a:Key)=Sum.inl b)=(a == b):=by
 by_cases e:a=b
 ·subst e;simp
 ·have h:¬ (Sum.inl a:Key)=Sum.inl b:=fun q=>e (Sum.inl.inj q)
  rw [cz h]
  exact (jd.mpr e).symm
theorem bU9 (a b:Str):decide ((Sum.inr a:Key)=Sum.inr b)=decide (a=b):=by
 by_cases e:a=b
 ·subst e;simp
 ·have h:¬ (Sum.inr a:Key)=Sum.inr b:=fun q=>e (qu q)
  rw [cz h,cz e]
theorem bP8 (a:Int) (b:Str):decide ((Sum.inl a:Key)=Sum.inr b)=false:=cz (fun q=>nomatch q)
theorem bU8 (a:Str) (b:Int):decide ((Sum.inr a:Key)=Sum.inl b)=false:=cz (fun q=>nomatch q)
def aY (prog:Program) (w:World):PySem.KeyKind prog w Key where
 is:=kD
 hash:=bS1 w
 inj:=fun v a b ha hb=>by
  rcases cG ha with ⟨i,t,rfl,rfl⟩ | ⟨x,t,rfl,rfl⟩
  ·rcases cG hb with ⟨j,u,rfl,e⟩ | ⟨y,u,rfl,e⟩
   ·injection e with e1 _;rw [e1]
   ·exact nomatch e
  ·rcases cG hb with ⟨j,u,rfl,e⟩ | ⟨y,u,rfl,e⟩
   ·exact nomatch e
   ·injection e with e1 _;rw [e1]
 byValue:=fun k v h=>by
  rcases cG h with ⟨i,t,rfl,rfl⟩ | ⟨x,t,rfl,rfl⟩ <;> rfl
 pyHash:=fun hv h=>by
  rcases cG hv with ⟨i,t,rfl,rfl⟩ | ⟨x,t,rfl,rfl⟩
  ·exact wpAny_pyHash_int h
  ·exact wpAny_pyHash_str h
 eqBool:=fun hu hv h=>by
  rcases cG hu with ⟨i,t,rfl,rfl⟩ | ⟨x,t,rfl,rfl⟩
  ·rcases cG hv with ⟨j,u,rfl,rfl⟩ | ⟨y,u,rfl,rfl⟩
   ·rw [bX3] at h;exact wpAny_eqBool_int h
   ·rw [bP8] at h;exact ze i t y u _ _ _ _ h
  ·rcases cG hv with ⟨j,u,rfl,rfl⟩ | ⟨y,u,rfl,rfl⟩
   ·rw [bU8] at h;exact zh x t j u _ _ _ _ h
   ·rw [bU9] at h;exact wpAny_eqBool_str h
 «strs» :=fun k x t v h=>by
  rcases cG h with ⟨i,u,rfl,e⟩ | ⟨y,u,rfl,e⟩
  ·exact nomatch e
  ·injection e with e1 _
   subst e1
   cases v <;> rfl
theorem xT (prog:Program) (w:World) (i:Int) (t:Tok):(aY prog w).is (.inl i) (.int i t)=true:=aP3 i t
theorem zP (prog:Program) (w:World) (x:Str) (t:Tok):(aY prog w).is (.inr x) (.str x t)=true:=uX x t
inductive V where
 | non | bl (b:Bool) | int (i:Int) | str (x:Str) | byt (b:Array UInt8) | flt (b:UInt64) | ref (a:Addr) | ty (n:String)
 deriving DecidableEq
def bL:V->Value->Prop
 | .non,u=>u=Value.none
 | .bl b,u=>u=Value.bool b
 | .int i,u=>∃ t,u=Value.int i t
 | .str x,u=>∃ t,u=Value.str x t
 | .byt b,u=>∃ t,u=Value.bytes b t
 | .flt b,u=>∃ t,u=Value.float b t
 | .ref a,u=>u=Value.ref a
 | .ty n,u=>u=Value.type n
abbrev bF:List V->List Value->Prop:=Paired bL
theorem bF.length {xs:List V}{us:List Value}(r:bF xs us):xs.length=us.length:=qw r
theorem bF.get:∀ {xs:List V}{us:List Value}{i:Nat}{x:V},bF xs us->xs[i]?=some x->∃ u,us[i]?=some u/\bL x u
 | _,_,_,_,.nil,e=>by simp at e
 | _,_,0,_,.cons r _,e=>by simp at e;subst e;exact ⟨_,rfl,r⟩
 | _,_,i+1,x,.cons _ t,e=>by
  obtain ⟨u,h1,h2⟩:=bF.get (i:=i) (x:=x) t (by simpa using e)
  exact ⟨u,by simpa using h1,h2⟩
theorem bF.append:∀ {xs ys:List V}{us ws:List Value},bF xs us->bF ys ws->bF (xs++ys) (us++ws)
 | _,_,_,_,.nil,s=>s
 | _,_,_,_,.cons r t,s=> .cons r (bF.append t s)
theorem bF.take:∀ {xs:List V}{us:List Value}(n:Nat),bF xs us->bF (xs.take n) (us.take n)
 | _,_,0,_=> .nil
 | _,_,_+1,.nil=> .nil
 | _,_,n+1,.cons r t=> .cons r (bF.take n t)
theorem bF.drop:∀ {xs:List V}{us:List Value}(n:Nat),bF xs us->bF (xs.drop n) (us.drop n)
 | _,_,0,r=>r
 | _,_,_+1,.nil=> .nil
 | _,_,n+1,.cons _ t=>bF.drop n t
def jE:Option V->Option Value->Prop
 | some v,some u=>bL v u
 | none,none=>True
 | _,_=>False
def KV {κ: Type}:List (κ×V)->List (κ×Value)->Prop:=Paired fun (p:κ×V) (q:κ×Value)=>p.1=q.1/\bL p.2 q.2
def kV:Key->V
 | .inl i=> .int i
 | .inr x=> .str x
inductive HO where
 | lst (xs:List V)
 | tup (xs:List V)
 | dK (kvs:List (Key×V)) | dT (kvs:List (List Key×V))
 | set (S:Int->Bool) (n:Nat)
 | ins (C dx:Addr) (fs:List (Str×V))
 | own (x:Addr)
 | xd (fs:List (Str×V))
 | met (f x:Addr)
 | rng (lo hi:Int)
 | frz (o:Obj) (u:HO)
 | tbl (ps:Array Value)
 | ext (φ: Heap->Prop)
abbrev Hp:=Addr->Option HO
def aQ (H:Hp) (a:Addr) (o:HO):Hp:=fun b=>if b=a then some o else H b
theorem aD {H:Hp}{a:Addr}{o:HO}:aQ H a o a=some o:=by unfold aQ;rw [ay rfl]
theorem aI {H:Hp}{a b:Addr}{o:HO}(h:b≠a):aQ H a o b=H b:=by unfold aQ;rw [ak h]
theorem aH1 {H:Hp}{a:Addr}{o u:HO}:aQ (aQ H a o) a u=aQ H a u:=by
 funext b;unfold aQ;split <;> rfl
theorem dD {H:Hp}{a b:Addr}{o u:HO}(h:H a=some o) (h':H b=some u) (d:o≠u):a≠b:=by
 intro e;subst e;rw [h] at h';exact d (dz h')
theorem aL {H:Hp}{a b:Addr}{o:HO}(h:H a=some o) (h':H b=none):a≠b:=by
 intro e;subst e;rw [h] at h';cases h'
def kI (h:Heap) (a:Addr) (its:Array Value):Prop:=∃ o,h.get? a=some o/\o.cls= .type "tuple"/\∃ n,o.data= .seq its n/\o.dict=none
theorem kI.is {h:Heap}{a:Addr}{its:Array Value}(x:kI h a its):IsTup h a its:=by obtain ⟨o,e,c,n,d,_⟩:=x;exact ⟨o,e,c,n,d⟩
theorem kI.new (h:Heap) (its:Array Value):kI (h.push { cls:= .type "tuple",data:= .seq its }) h.objs.size its:=⟨_,az _ rfl,rfl,_,rfl,rfl⟩
section
variable (P:Program) (w:World)
def dH (H:Hp) (h:Heap) (a:Addr):HO->Prop
 | .lst xs=>xs.length<=sizeLine/\∃ (its:List Value) (n:Nat),bF xs its/\h.get? a=some { cls:= .type "list",data:= .seq its.toArray n }
 | .tup xs=>xs.length<=sizeLine/\∃ its:List Value,bF xs its/\kI h a its.toArray
 | .dK kvs=>kvs.length<=sizeLine/\(a == sysModules)=false/\∃ vs,KV kvs vs/\h.DictOf (aY P w) a vs
 | .dT kvs=>kvs.length<=sizeLine/\(a == sysModules)=false/\∃ xs:List (List Key×Addr×Value),
   Paired (fun (p:List Key×V) (q:List Key×Addr×Value)=>p.1=q.1/\H q.2.1=some (.tup (p.1.map kV))/\bL p.2 q.2.2) kvs xs /\
   ∃ o es ep,h.get? a=some o/\o.ExactDict/\o.data= .dict es ep/\es.toList=xs.map (entryOfKey (tupleKind (aY P w)))/\(xs.map (·.1)).Nodup
 | .set S n=>h.SetOf (intKind P w) a S n
 | .ins C dx fs=>H dx=some (.own a)/\fs.length<=1000/\dx≠a/\h.get? a=some (PySem.W.instObj C dx) /\
   ∃ mA,h.Ns1 dx mA/\(∀ f,jE (fs.lookup f) (mA f))/\PySem.Within mA (fs.map (·.1))
 | .own _=>∃ o,h.get? a=some o
 | .xd fs=>∃ mA,h.Ns1 a mA/\∀ f,jE (fs.lookup f) (mA f)
 | .rng lo hi=>∃ t u v,h.get? a=some { cls:= .type "range",data:= .fields #[.int lo t,.int hi u,.int 1 v] }
 | .frz o u=>h.get? a=some o/\dH H h a u
 | .tbl ps=>h.get? a=some { cls:= .none,data:= .fields ps }
 | .met f x=>h.get? a=some (PySem.W.methodObj (.ref f) (.ref x))
 | .ext φ=>φ h/\(∃ o,h.get? a=some o)/\∀ h1 h2:Heap,φ h1->(∀ o,h1.get? a=some o->h2.get? a=some o)->φ h2
def mN (H:Hp) (h:Heap):Prop:=∀ a o,H a=some o->dH P w H h a o
end
section
variable {P:Program}{w:World}{H H':Hp}{h h':Heap}{a:Addr}{o:HO}
theorem dH.lt (x:dH P w H h a o):a < h.objs.size:=by
 cases o with
 | lst xs=>obtain ⟨_,_,_,_,e⟩:=x;exact av e
 | tup xs=>obtain ⟨_,_,_,p⟩:=x;exact p.is.lt
 | dK kvs=>obtain ⟨_,_,_,_,o,_,_,e,_⟩:=x;exact av e
 | dT kvs=>obtain ⟨_,_,_,_,o,_,_,e,_⟩:=x;exact av e
 | set S n=>obtain ⟨o,_,_,_,e,_⟩:=x;exact av e
 | ins C dx fs=>obtain ⟨_,_,_,e,_⟩:=x;exact av e
 | own y=>obtain ⟨_,e⟩:=x;exact av e
 | xd fs=>obtain ⟨_,⟨_,_,_,e,_⟩,_⟩:=x;exact av e
 | rng lo hi=>obtain ⟨_,_,_,e⟩:=x;exact av e
 | frz ob u=>obtain ⟨e,_⟩:=x;exact av e
 | tbl ps=>exact av (show h.get? a=some _ from x)
 | met f y=>exact av (show h.get? a=some _ from x)
 | ext φ=>obtain ⟨_,⟨_,e⟩,_⟩:=x;exact av e
theorem Paired.mapP {α β: Type}{F G:α->β->Prop}:∀ {l₁:List α}{l₂:List β},Paired F l₁ l₂->(∀ a b,F a b->G a b)->Paired G l₁ l₂
 | _,_,.nil,_=> .nil
 | _,_,.cons r t,f=> .cons (f _ _ r) (Paired.mapP t f)
theorem dH.stay (x:dH P w H h a o) (k:∀ b u,(b=a\/H b=some (.own a))->h.get? b=some u->h'.get? b=some u)
  (ho:∀ b,H b=some (.own a)->H' b=some (.own a)) (ht:∀ b xs,H b=some (.tup xs)->H' b=some (.tup xs)):dH P w H' h' a o:=by
 induction o with
 | lst xs=>obtain ⟨z,its,n,r,e⟩:=x;exact ⟨z,its,n,r,k _ _ (.inl rfl) e⟩
 | tup xs=>obtain ⟨z,its,r,ob,e,c⟩:=x;exact ⟨z,its,r,ob,k _ _ (.inl rfl) e,c⟩
 | dK kvs=>obtain ⟨z,y,vs,r,ob,es,ep,e,c⟩:=x;exact ⟨z,y,vs,r,ob,es,ep,k _ _ (.inl rfl) e,c⟩
 | dT kvs =>
  obtain ⟨z,y,xs,r,ob,es,ep,e,c⟩:=x
  exact ⟨z,y,xs,Paired.mapP r fun p q z=>⟨z.1,ht _ _ z.2.1,z.2.2⟩,ob,es,ep,k _ _ (.inl rfl) e,c⟩
 | set S n=>obtain ⟨ob,es,ep,t,e,c⟩:=x;exact ⟨ob,es,ep,t,k _ _ (.inl rfl) e,c⟩
 | ins C dx fs =>
  obtain ⟨d,z,ne,e,mA,⟨od,es,ep,e2,c⟩,r⟩:=x
  exact ⟨ho _ d,z,ne,k _ _ (.inl rfl) e,mA,⟨od,es,ep,k _ _ (.inr d) e2,c⟩,r⟩
 | own y=>obtain ⟨ob,e⟩:=x;exact ⟨ob,k _ _ (.inl rfl) e⟩
 | xd fs=>obtain ⟨mA,⟨od,es,ep,e,c⟩,r⟩:=x;exact ⟨mA,⟨od,es,ep,k _ _ (.inl rfl) e,c⟩,r⟩
 | rng lo hi=>obtain ⟨t,u,v,e⟩:=x;exact ⟨t,u,v,k _ _ (.inl rfl) e⟩
 | frz ob u ih=>obtain ⟨e,q⟩:=x;exact ⟨k _ _ (.inl rfl) e,ih q⟩
 | tbl ps =>
  have e:h.get? a=some { cls:= .none,data:= .fields ps }:=x
  show h'.get? a=some { cls:= .none,data:= .fields ps }
  exact k a _ (.inl rfl) e
 | met f y =>
  have e:h.get? a=some (PySem.W.methodObj (.ref f) (.ref y)):=x
  show h'.get? a=some (PySem.W.methodObj (.ref f) (.ref y))
  exact k a _ (.inl rfl) e
 | ext φ=>obtain ⟨p,⟨o,e⟩,st⟩:=x;exact ⟨st _ _ p fun o q=>k _ _ (.inl rfl) q,⟨o,k _ _ (.inl rfl) e⟩,st⟩
theorem mN.lt (x:mN P w H h) (e:H a=some o):a < h.objs.size:=(x a o e).lt
theorem mN.fresh (x:mN P w H h) (e:h.objs.size<=a):H a=none:=by
 cases q:H a with
 | none=>rfl
 | some u=>exact absurd (cm (x.lt q) e) (gy _)
theorem mN.kept (x:mN P w H h) (k:∀ b u,h.get? b=some u->h'.get? b=some u):mN P w H h':=fun a o e =>
 (x a o e).stay (fun b u _ q=>k b u q) (fun _ q=>q) fun _ _ q=>q
theorem mN.laid (x:mN P w H h) (k:∀ b u,h.get? b=some u->h'.get? b=some u) (hp:h.objs.size<=a) (new:dH P w (aQ H a o) h' a o):mN P w (aQ H a o) h':=fun b u e=>by
 have hn:=x.fresh hp
 by_cases hb:b=a
 ·subst hb;rw [aD] at e;cases e;exact new
 ·rw [aI hb] at e
  exact (x b u e).stay (fun c v _ q=>k c v q) (fun c q=>by rw [aI (aL q hn)];exact q) fun c xs q=>by rw [aI (aL q hn)];exact q
end
def Rd (H:Hp) (a:Addr) (u:HO):Prop:=H a=some u\/∃ o,H a=some (.frz o u)
theorem Rd.ok {P:Program}{w:World}{H:Hp}{h:Heap}{a:Addr}{u:HO}(r:Rd H a u) (x:mN P w H h):dH P w H h a u:=by
 rcases r with r | ⟨o,r⟩
 ·exact x a u r
 ·obtain ⟨_,q⟩:=x a _ r
  exact q
def Mut:Option HO->Prop
 | some (.lst _)=>True
 | some (.dK _)=>True
 | some (.dT _)=>True
 | some (.set _ _)=>True
 | some (.ins _ _ _)=>True
 | some (.ext _)=>True
 | _=>False
section
variable {P:Program}{w:World}{H:Hp}{h h':Heap}{x e:Addr}{o':HO}
theorem mN.write (ok:mN P w H h) (mu:Mut (H x)) (he:e=x\/H e=some (.own x)) (k:∀ b u,b≠e->h.get? b=some u->h'.get? b=some u) (heo:∃ u,h'.get? e=some u)
  (new:dH P w (aQ H x o') h' x o'):mN P w (aQ H x o') h':=fun b u q=>by
 have nown:∀ c y,H c=some (.own y)->c≠x:=fun c y r z=>by subst z;rw [r] at mu;exact mu
 have ntup:∀ c xs,H c=some (.tup xs)->c≠x:=fun c xs r z=>by subst z;rw [r] at mu;exact mu
 by_cases hb:b=x
 ·subst hb;rw [aD] at q;cases q;exact new
 ·rw [aI hb] at q
  by_cases hbe:b=e
  ·have q':H b=some (.own x):=by
    rcases he with z | z
    ·exact absurd (hbe.trans z) hb
    ·rw [hbe];exact z
   rw [q] at q';cases q'
   obtain ⟨v,hv⟩:=heo
   exact ⟨v,by rw [hbe];exact hv⟩
  ·refine (ok b u q).stay (fun c v hc r=>k c v ?_ r) (fun c r=>by rw [aI (nown c b r)];exact r) fun c xs r=>by rw [aI (ntup c xs r)];exact r
   rcases hc with rfl | hc
   ·exact hbe
   ·rintro rfl
    rcases he with z | z
    ·exact nown c b hc z
    ·rw [hc] at z;cases z;exact hb rfl
end
structure Un (fs ex:List Addr) (H H':Hp) (h h':Heap):Prop where
 keep:∀ b o,h.get? b=some o->H b=none->b∉fs->b∉ex->h'.get? b=some o
 slot:∀ b o,h.get? b=some o->H b=none->b∈fs->b∉ex->∃ sl,h'.get? b=some { o with slots:=sl }
 free:∀ b o,h.get? b=some o->H b=none->b∉ex->H' b=none
 there:∀ b o,h.get? b=some o->b∉ex->∃ o',h'.get? b=some o'
 tups:∀ b xs,H b=some (.tup xs)->H' b=some (.tup xs)
 frzs:∀ b o u,H b=some (.frz o u)->H' b=some (.frz o u)
 tbls:∀ b ps,H b=some (.tbl ps)->∃ more,H' b=some (.tbl (ps++more))
section
variable {fs fs' ex ex':List Addr}{H H1 H2:Hp}{h h1 h2 h':Heap}{a x e:Addr}{o:HO}
theorem Un.any (u:Un fs ex H H1 h h1) {b:Addr}{ob:Obj}(q:h.get? b=some ob) (n:H b=none) (hx:b∉ex):∃ sl,h1.get? b=some { ob with slots:=sl }:=by
 by_cases hb:b∈fs
 ·exact u.slot b ob q n hb hx
 ·exact ⟨ob.slots,u.keep b ob q n hb hx⟩
theorem Un.kept (k:∀ b u,h.get? b=some u->h'.get? b=some u):Un fs ex H H h h' :=
 ⟨fun b ob q _ _ _=>k b ob q,fun b ob q _ _ _=>⟨ob.slots,k b ob q⟩,fun _ _ _ n _=>n,fun b ob q _=>⟨ob,k b ob q⟩,fun _ _ q=>q,fun _ _ _ q=>q,fun _ ps q=>⟨#[],by rw [q];simp⟩⟩
theorem Un.refl:Un fs ex H H h h:=Un.kept fun _ _ q=>q
theorem Un.laid (k:∀ b u,h.get? b=some u->h'.get? b=some u) (hp:h.objs.size<=a) (hn:H a=none):Un fs ex H (aQ H a o) h h' where
 keep:=fun b u q _ _ _=>k b u q
 slot:=fun b u q _ _ _=>⟨u.slots,k b u q⟩
 free:=fun b u q n _=>by rw [aI (bq (cm (av q) hp))];exact n
 there:=fun b u q _=>⟨u,k b u q⟩
 tups:=fun b xs q=>by rw [aI (aL q hn)];exact q
 frzs:=fun b u xs q=>by rw [aI (aL q hn)];exact q
 tbls:=fun b ps q=>⟨#[],by rw [aI (aL q hn),q];simp⟩
theorem Un.write (mu:Mut (H x)) (he:e=x\/H e=some (.own x)) (k:∀ b u,b≠e->h.get? b=some u->h'.get? b=some u) (heo:∃ u,h'.get? e=some u):Un fs ex H (aQ H x o) h h':=by
 have hx:∀ b,H b=none->b≠x:=fun b n z=>by subst z;rw [n] at mu;exact mu
 have hb:∀ b,H b=none->b≠e:=fun b n z=>by
  subst z
  rcases he with r | r
  ·exact hx b n r
  ·rw [n] at r;cases r
 have hm:∀ b u,H b=some u->¬ Mut (some u)->b≠x:=fun b u q nm z=>by subst z;rw [q] at mu;exact nm mu
 refine ⟨fun b u q n _ _=>k b u (hb b n) q,fun b u q n _ _=>⟨u.slots,k b u (hb b n) q⟩,fun b u q n _=>by rw [aI (hx b n)];exact n,fun b u q _=>?_,
  fun b xs q=>by rw [aI (hm b _ q fun z=>z)];exact q,fun b u xs q=>by rw [aI (hm b _ q fun z=>z)];exact q,fun b ps q=>⟨#[],by rw [aI (hm b _ q fun z=>z),q];simp⟩⟩
 by_cases hbe:b=e
 ·subst hbe;exact heo
 ·exact ⟨u,k b u hbe q⟩
end
def trk (h:Heap) (H:Hp):List Addr:=(List.range h.objs.size).filter fun a=>(H a).isSome
def wZ (h:Heap) (H:Hp):Heap:=PySem.W.hideAll h (trk h H)
theorem aN9 (h:Heap) (H:Hp):(wZ h H).objs.size=h.objs.size:=PySem.W.hideAll_size _ _
theorem bB6 {h:Heap}{H:Hp}{b:Addr}{o:Obj}(e:h.get? b=some o) (n:H b=none):(wZ h H).get? b=some o :=
 PySem.W.hideAll_get _ e fun hm=>by
  have q:(H b).isSome=true:=(qc.mp hm).2
  rw [n] at q;simp at q
theorem bI2 {h:Heap}{H:Hp}{b:Addr}{o:Obj}(e:(wZ h H).get? b=some o):h.get? b=some o/\H b=none:=by
 have e':h.get? b=some o:=PySem.W.of_hideAll (trk h H) e
 refine ⟨e',?_⟩
 cases q:H b with
 | none=>rfl
 | some x =>
  have hm:b∈trk h H:=qc.mpr ⟨ub.mpr (av e'),by simp [q]⟩
  have z:(wZ h H).get? b=none:=PySem.W.hideAll_none (trk h H) hm
  rw [z] at e;cases e
def bC7 (g h:Heap) (L:Addr):List (Addr×Obj):=(List.range h.objs.size).filterMap fun a=>if a=L\/(g.get? a).isSome=true then none else (h.get? a).map fun o=>(a,o)
def eO (g h:Heap) (L d:Addr):List (Addr×Obj):=(bC7 g h L).filter fun p=>decide (p.1≠d)
structure Mod (K:PySem.W.Frag) (mg:Str->Option Value) (base:Heap):Prop where
 kin:K.In base
 glob:base.Ns mainGlobals mg
 blt:∃ mb,base.Ns builtinsNs mb/\∀ x:Str,x≠"__name__"->mb x=bootBuiltins x
 nolimit:base.NoLimit
structure Cx where
 prog:Program
 w:World
 K:PySem.W.Frag
 mg:Str->Option Value
 base:Heap
 A:Around
 N:List Str
 s₀:Shared
 H₀:Hp
 env:Env
 outer:List Env
 stack:List Env
 ex:List Addr
 fn:Str->Bool
 calm:Bool
 pn:List (Addr×Obj)
 xe:Value->Shared->Prop
def frs (l:List Env):List Addr:=l.filterMap (·.frame)
abbrev Cx.fs (X:Cx):List Addr:=frs X.outer
def Vis (sc:Scope) (x:Str):Prop:=sc.names.lookup x=some .local\/sc.names.lookup x=some .cell\/sc.names.lookup x=some .free
def Loc (sc:Scope) (x:Str):Prop:=sc.names.lookup x=some .local\/sc.names.lookup x=some .cell
def cM2 (env:Env) (h:Heap) (m:Str->Option Value) (x:Str) (u:Value):Prop :=
 (env.kindOf x=some .local/\m x=some u)\/((env.kindOf x=some .cell\/env.kindOf x=some .free)/\∃ c,env.cells.lookup x=some c/\h.IsCell c (some u))
structure Cx.Ok (X:Cx):Prop where
 mod:Mod X.K X.mg X.base
 kind:X.env.scope.kind= .function
 glob:X.env.globals=mainGlobals
 blt:X.env.builtins=builtinsNs
 above:X.s₀.heap.objs.size<=X.env.locals
 inj:∀ x y c,X.env.cells.lookup x=some c->X.env.cells.lookup y=some c->x=y
 has:∀ x,(X.env.kindOf x=some .cell\/X.env.kindOf x=some .free)->∃ c,X.env.cells.lookup x=some c
 cab:∀ x c,X.fn x=true->X.env.cells.lookup x=some c->X.s₀.heap.objs.size<=c
 hd:X.calm=true->X.A.handled=none
 frames:X.A.frames=some X.stack
 stk:X.stack=X.outer\/(X.stack=X.env :: X.outer/\X.env.frame=some X.env.locals)
 exf:∀ b∈X.ex,b≠X.env.locals/\∀ x c,X.env.cells.lookup x=some c->c≠b
 bs:∀ b o,X.base.get? b=some o->X.s₀.heap.get? b=some o/\X.H₀ b=none
 bsz:X.base.objs.size<=X.s₀.heap.objs.size
 noex:∀ b o,X.base.get? b=some o->b∉X.ex
 exfs:∀ b∈X.ex,b∉X.fs
 funs:X.s₀.heap.FunFrames X.base X.outer
 frf:∀ b∈X.fs,X.H₀ b=none
structure aW (X:Cx) (pins:List (Addr×Obj)) (σ: List (Option V)) (H:Hp) (s:Shared):Prop where
 ok:X.Ok
 os:s.os=X.s₀.os
 bare:AllBare s.gens
 base:Un X.fs X.ex X.H₀ H X.s₀.heap s.heap
 loc:∃ m,s.heap.Ns X.env.locals m/\∀ (i:Nat) (x:Str) (v:V),X.N[i]?=some x->σ[i]?=some (some v)->Vis X.env.scope x->∃ u,bL v u/\cM2 X.env s.heap m x u
 cell:∀ x c,X.env.cells.lookup x=some c->∃ v,s.heap.IsCell c v
 free:H X.env.locals=none
 freeC:∀ x c,X.env.cells.lookup x=some c->H c=none
 pin:∀ p∈X.pn++pins,s.heap.get? p.1=some p.2/\H p.1=none/\p.1≠X.env.locals/\p.1∉X.fs/\∀ v,p.2.data≠ .cell v
 hok:mN X.prog X.w H s.heap
 len:σ.length=X.N.length
section
variable {X:Cx}{pins:List (Addr×Obj)}{σ: List (Option V)}{H H':Hp}{s:Shared}{h':Heap}
theorem Cx.Ok.nofr (ok:X.Ok) {b:Addr}{o:Obj}(e:X.base.get? b=some o):b∉X.fs:=fun hb=>by
 have:=(ok.funs.mem hb).1
 rw [e] at this;cases this
theorem aW.bs (I:aW X pins σ H s):∀ b o,X.base.get? b=some o->s.heap.get? b=some o/\H b=none:=fun b o e =>
 ⟨I.base.keep b o (I.ok.bs b o e).1 (I.ok.bs b o e).2 (I.ok.nofr e) (I.ok.noex b o e),I.base.free b o (I.ok.bs b o e).1 (I.ok.bs b o e).2 (I.ok.noex b o e)⟩
theorem aW.bk (I:aW X pins σ H s):∀ b o,X.base.get? b=some o->s.heap.get? b=some o:=fun b o e=>(I.bs b o e).1
theorem aW.mod (I:aW X pins σ H s):Mod X.K X.mg X.base:=I.ok.mod
theorem aW.kIn (I:aW X pins σ H s):X.K.In s.heap:=I.ok.mod.kin.keeps I.bk
theorem aW.lt (I:aW X pins σ H s):X.env.locals < s.heap.objs.size:=by obtain ⟨_,hn,_⟩:=I.loc;exact hn.lt
theorem aW.sz (I:aW X pins σ H s):X.s₀.heap.objs.size<=s.heap.objs.size:=cu I.ok.above (bu I.lt)
theorem aW.nofs (I:aW X pins σ H s) {a:Addr}(h:s.heap.objs.size<=a):a∉X.fs:=fun hb=>by
 obtain ⟨_,o,ho,_⟩:=I.ok.funs.mem hb
 exact absurd (cm (av ho) (cu I.sz h)) (gy _)
theorem aW.cne (I:aW X pins σ H s):∀ x c,X.env.cells.lookup x=some c->c≠X.env.locals:=fun x c e z=>by
 obtain ⟨v,o,ho,hd⟩:=I.cell x c e
 obtain ⟨m,⟨o',es,ep,ho',hd',_⟩,_⟩:=I.loc
 rw [z,ho'] at ho;cases ho;rw [hd'] at hd;cases hd
theorem aW.funs (I:aW X pins σ H s):s.heap.FunFrames X.base X.outer:=by
 have all:∀ (l:List Env),(∀ b∈frs l,b∈X.fs)->X.s₀.heap.FunFrames X.base l->s.heap.FunFrames X.base l:=by
  intro l
  induction l with
  | nil=>intro _ _;trivial
  | cons env r ih =>
   intro hs hl
   obtain ⟨hk,⟨L,o,hf,hn,ho,hd⟩,hr⟩:=hl
   have hL:L∈X.fs:=hs L (by unfold frs;rw [tj,hf];exact ao)
   obtain ⟨sl,e⟩:=I.base.slot L o ho (I.ok.frf L hL) hL fun z=>I.ok.exfs L z hL
   exact ⟨hk,⟨L,_,hf,hn,e,hd⟩,ih (fun b hb=>hs b (by unfold frs;rw [tj,hf];exact aq _ hb)) hr⟩
 exact all X.outer (fun _ hb=>hb) I.ok.funs
theorem aW.stack (I:aW X pins σ H s):s.heap.FunFrames X.base X.stack:=by
 rcases I.ok.stk with e | ⟨e,hf⟩
 ·rw [e];exact I.funs
 ·rw [e]
  obtain ⟨m,hn,_⟩:=I.loc
  refine .cons (by rw [I.ok.kind];decide) hf hn ?_ I.funs
  exact Heap.get?_none_of_le (cu I.ok.bsz I.ok.above)
theorem aW.stkSub (I:aW X pins σ H s):∀ b∈frs X.stack,b∈X.env.locals :: X.fs:=fun b hb=>by
 rcases I.ok.stk with e | ⟨e,hf⟩
 ·rw [e] at hb;exact aq _ hb
 ·rw [e] at hb
  unfold frs at hb
  rw [tj,hf] at hb
  exact hb
theorem aW.stkFree (I:aW X pins σ H s):∀ b∈frs X.stack,H b=none:=fun b hb=>by
 rcases cf.mp (I.stkSub b hb) with e | hb
 ·rw [e];exact I.free
 ·obtain ⟨_,o,ho,_⟩:=I.ok.funs.mem hb
  exact I.base.free b o ho (I.ok.frf b hb) fun z=>I.ok.exfs b z hb
theorem aW.step {g':Array GenState}{t':Nat}{d':Drawn}{ch:List Addr}(I:aW X pins σ H s)
  (hch:∀ b∈ch,(b∈X.ex\/X.s₀.heap.objs.size<=b)/\b≠X.env.locals/\(∀ x c,X.env.cells.lookup x=some c->c≠b)/\∀ p∈X.pn++pins,p.1≠b)
  (keep:∀ b o,b≠X.env.locals->b∉X.fs->b∉ch->s.heap.get? b=some o->H b=none->h'.get? b=some o)
  (slot:∀ b o,b≠X.env.locals->b∈X.fs->b∉ch->s.heap.get? b=some o->H b=none->∃ sl,h'.get? b=some { o with slots:=sl }) (free:∀ b o,b∉ch->s.heap.get? b=some o->H b=none->H' b=none)
  (there:∀ b o,b∉ch->s.heap.get? b=some o->∃ o',h'.get? b=some o')
  (tups:∀ b xs,H b=some (.tup xs)->H' b=some (.tup xs)) (frzs:∀ b o u,H b=some (.frz o u)->H' b=some (.frz o u)) (tbls:∀ b ps,H b=some (.tbl ps)->∃ more,H' b=some (.tbl (ps++more)))
  (ns:∀ m,s.heap.Ns X.env.locals m->h'.Ns X.env.locals m) (hok:mN X.prog X.w H' h') (hg:AllBare g') :
  aW X pins σ H' { s with heap:=h',gens:=g',drawn:=d',toks:=t' }:=by
 have neL:∀ b o,X.s₀.heap.get? b=some o->b≠X.env.locals:=fun b o e=>bq (cm (av e) I.ok.above)
 have neC:∀ b o,X.s₀.heap.get? b=some o->b∉X.ex->b∉ch:=fun b o e hx hb=>by
  rcases (hch b hb).1 with z | z
  ·exact hx z
  ·exact absurd (cm (av e) z) (gy _)
 have cellK:∀ x c,X.env.cells.lookup x=some c->∀ v,s.heap.IsCell c v->h'.IsCell c v:=fun x c e v ⟨o,ho,hd⟩=>by
  have nch:c∉ch:=fun z=>(hch c z).2.2.1 x c e rfl
  by_cases hc:c∈X.fs
  ·obtain ⟨sl,q⟩:=slot c o (I.cne x c e) hc nch ho (I.freeC x c e)
   exact ⟨_,q,hd⟩
  ·exact ⟨o,keep c o (I.cne x c e) hc nch ho (I.freeC x c e),hd⟩
 refine ⟨I.ok,I.os,hg,⟨fun b o e n hb hx=>?_,fun b o e n hb hx=>?_,fun b o e n hx=>?_,fun b o e hx=>?_,fun b xs e=>tups b xs (I.base.tups b xs e),fun b o xs e=>frzs b o xs (I.base.frzs b o xs e),fun b ps e=>?_⟩,?_,fun x c e=>?_,?_,fun x c e=>?_,fun p hp=>?_,hok,I.len⟩
 ·exact keep b o (neL b o e) hb (neC b o e hx) (I.base.keep b o e n hb hx) (I.base.free b o e n hx)
 ·obtain ⟨sl,e1⟩:=I.base.slot b o e n hb hx
  obtain ⟨sl',e2⟩:=slot b _ (neL b o e) hb (neC b o e hx) e1 (I.base.free b o e n hx)
  exact ⟨sl',e2⟩
 ·obtain ⟨o',e1⟩:=I.base.there b o e hx
  exact free b o' (neC b o e hx) e1 (I.base.free b o e n hx)
 ·obtain ⟨o',e1⟩:=I.base.there b o e hx
  exact there b o' (neC b o e hx) e1
 ·obtain ⟨m1,e1⟩:=I.base.tbls b ps e
  obtain ⟨m2,e2⟩:=tbls b _ e1
  exact ⟨m1++m2,by rw [e2,Array.append_assoc]⟩
 ·obtain ⟨m,hn,hl⟩:=I.loc
  refine ⟨m,ns m hn,fun i x v e1 e2 e3=>?_⟩
  obtain ⟨u,r,l⟩:=hl i x v e1 e2 e3
  refine ⟨u,r,?_⟩
  rcases l with l | ⟨k,c,e,z⟩
  ·exact .inl l
  ·exact .inr ⟨k,c,e,cellK x c e _ z⟩
 ·obtain ⟨v,z⟩:=I.cell x c e
  exact ⟨v,cellK x c e v z⟩
 ·obtain ⟨m,⟨o,_,_,ho,_⟩,_⟩:=I.loc
  exact free _ o (fun z=>(hch _ z).2.1 rfl) ho I.free
 ·obtain ⟨v,o,ho,hd⟩:=I.cell x c e
  exact free c o (fun z=>(hch c z).2.2.1 x c e rfl) ho (I.freeC x c e)
 ·obtain ⟨e,n,ne,nf,d⟩:=I.pin p hp
  have nch:p.1∉ch:=fun z=>(hch p.1 z).2.2.2 p hp rfl
  exact ⟨keep p.1 p.2 ne nf nch e n,free p.1 p.2 nch e n,ne,nf,d⟩
theorem aW.un {t':Nat}(I:aW X pins σ H s) (u:Un X.fs [] H H' s.heap h') (hok:mN X.prog X.w H' h'):aW X pins σ H' { s with heap:=h',toks:=t' }:=by
 obtain ⟨m,⟨o,es,ep,ho,r⟩,_⟩:=id I.loc
 obtain ⟨sl,hL⟩:=u.any ho I.free (by simp)
 exact I.step (g':=s.gens) (d':=s.drawn) (ch:=[]) (fun _ z=>nomatch z) (fun b o _ hb _ e n=>u.keep b o e n hb (by simp)) (fun b o _ hb _ e n=>u.slot b o e n hb (by simp)) (fun b o _ e n=>u.free b o e n (by simp)) (fun b o _ e=>u.there b o e (by simp)) u.tups u.frzs u.tbls (fun m' hm=>by
  obtain ⟨o',es',ep',ho',r'⟩:=hm
  rw [ho] at ho';cases ho'
  exact ⟨_,es',ep',hL,r'⟩) hok I.bare
theorem aW.call {g':Array GenState}{t':Nat}{d':Drawn}{ch:List Addr}(I:aW X pins σ H s) (u:Un (frs X.stack) ch H H' s.heap h') (hok:mN X.prog X.w H' h') (hg:AllBare g')
  (hch:∀ b∈ch,(b∈X.ex\/X.s₀.heap.objs.size<=b)/\b≠X.env.locals/\(∀ x c,X.env.cells.lookup x=some c->c≠b)/\∀ p∈X.pn++pins,p.1≠b) :
  aW X pins σ H' { s with heap:=h',gens:=g',drawn:=d',toks:=t' }:=by
 obtain ⟨m,⟨o,es,ep,ho,r⟩,_⟩:=id I.loc
 obtain ⟨sl,hL⟩:=u.any ho I.free fun z=>(hch _ z).2.1 rfl
 exact I.step (ch:=ch) hch (fun b o hL hb hc e n=>u.keep b o e n (fun z=>(cf.mp (I.stkSub b z)).elim hL hb) hc) (fun b o _ _ hc e n=>u.any e n hc) (fun b o hc e n=>u.free b o e n hc) (fun b o hc e=>u.there b o e hc) u.tups u.frzs u.tbls (fun m' hm=>by
  obtain ⟨o',es',ep',ho',r'⟩:=hm
  rw [ho] at ho';cases ho'
  exact ⟨_,es',ep',hL,r'⟩) hok hg
theorem aW.turned {t':Nat}{it:Addr}(I:aW X pins σ H s) (k:∀ b o,b≠it->s.heap.get? b=some o->h'.get? b=some o) (hn:H it=none) (hL:it≠X.env.locals)
  (h1:it∈X.ex\/X.s₀.heap.objs.size<=it) (h2:∀ x c,X.env.cells.lookup x=some c->c≠it) (h3:∀ p∈X.pn++pins,p.1≠it):aW X pins σ H { s with heap:=h',toks:=t' }:=by
 have nit:∀ b u,H b=some u->b≠it:=fun b u e z=>by rw [z,hn] at e;cases e
 refine I.step (g':=s.gens) (d':=s.drawn) (ch:=[it]) (fun b hb=>?_) (fun b o _ _ hc e _=>k b o (fun z=>hc (by simp [z])) e) (fun b o _ _ hc e _=>⟨o.slots,k b o (fun z=>hc (by simp [z])) e⟩) (fun _ _ _ _ n=>n)
  (fun b o hc e=>⟨o,k b o (fun z=>hc (by simp [z])) e⟩) (fun _ _ e=>e) (fun _ _ _ e=>e) (fun b ps e=>⟨#[],by rw [e];simp⟩) (fun m hm=>?_) (fun b u e=>?_) I.bare
 ·have e:b=it:=by simpa using hb
  subst e
  exact ⟨h1,hL,h2,h3⟩
 ·obtain ⟨o,es,ep,ho,r⟩:=hm
  exact ⟨o,es,ep,k _ o (Ne.symm hL) ho,r⟩
 ·refine (I.hok b u e).stay (fun c v hc q=>k c v ?_ q) (fun _ q=>q) fun _ _ q=>q
  rcases hc with z | z
  ·rw [z];exact nit b u e
  ·exact nit c _ z
theorem aW.tok (I:aW X pins σ H s) (t:Nat):aW X pins σ H { s with toks:=t }:=I.un (h':=s.heap) (t':=t) Un.refl I.hok
theorem aW.kept {t':Nat}(I:aW X pins σ H s) (k:∀ b u,s.heap.get? b=some u->h'.get? b=some u):aW X pins σ H { s with heap:=h',toks:=t' }:=I.un (Un.kept k) (I.hok.kept k)
theorem aW.laid {a:Addr}{o:HO}{t':Nat}(I:aW X pins σ H s) (k:∀ b u,s.heap.get? b=some u->h'.get? b=some u) (hp:s.heap.objs.size<=a) (new:dH X.prog X.w (aQ H a o) h' a o) :
  aW X pins σ (aQ H a o) { s with heap:=h',toks:=t' }:=I.un (Un.laid k hp (I.hok.fresh hp)) (I.hok.laid k hp new)
theorem aW.write {x e:Addr}{o:HO}{t':Nat}(I:aW X pins σ H s) (mu:Mut (H x)) (he:e=x\/H e=some (.own x)) (k:∀ b u,b≠e->s.heap.get? b=some u->h'.get? b=some u) (heo:∃ u,h'.get? e=some u)
  (new:dH X.prog X.w (aQ H x o) h' x o):aW X pins σ (aQ H x o) { s with heap:=h',toks:=t' }:=I.un (Un.write mu he k heo) (I.hok.write mu he k heo new)
theorem aW.pins_of {pins':List (Addr×Obj)}(I:aW X pins σ H s) (h:∀ p∈pins',s.heap.get? p.1=some p.2/\H p.1=none/\p.1≠X.env.locals/\p.1∉X.fs/\∀ v,p.2.data≠ .cell v):aW X pins' σ H s :=
 ⟨I.ok,I.os,I.bare,I.base,I.loc,I.cell,I.free,I.freeC,fun p hp=>(cg.mp hp).elim (fun z=>I.pin p (cx _ z)) (h p),I.hok,I.len⟩
theorem yP {N:List Str}(hN:N.Nodup) {i j:Nat}{x:Str}(a:N[i]?=some x) (b:N[j]?=some x):i=j:=by
 obtain ⟨h1,e1⟩:=bc.mp a
 obtain ⟨h2,e2⟩:=bc.mp b
 exact (List.getElem_inj hN).mp (e1.trans e2.symm)
theorem uZ {M:Model}{A:Around}{E:Value->Shared->Prop}{i:Nat}{x:Str}{v:V}{u:Value}{Q:Unit->Shared->Prop}(I:aW X pins σ H s) (hN:X.N.Nodup) (hi:X.N[i]?=some x) (hx:Loc X.env.scope x) (r:bL v u)
  (h:∀ s',aW X pins (σ.set i (some v)) H s'->(∃ a,Heap.SameBut a s.heap s'.heap/\(a=X.env.locals\/X.env.cells.lookup x=some a))->Q () s') (hf:X.fn x=true\/X.env.scope.names.lookup x=some .local:=by first | exact .inl rfl | exact .inr rfl | assumption):wpAny M A (storeName X.env x u) Q E s:=by
 obtain ⟨m,hn,hl⟩:=id I.loc
 have hcls:(X.env.scope.kind == .class || (X.env.scope.kind == .module && X.env.locals != X.env.globals))=false:=by rw [I.ok.kind];rfl
 have hiσ: i < σ.length:=by rw [I.len];exact (bc.mp hi).1
 have cne:=I.cne
 have tracked:∀ {a:Addr}{h':Heap},(∃ o,s.heap.get? a=some o/\H a=none)->Heap.SameBut a s.heap h'->mN X.prog X.w H h':=fun {a h'} ha hs b ob e=>by
  obtain ⟨_,_,hfree⟩:=ha
  refine (I.hok b ob e).stay (fun c w' hc q=>(hs.2 c ?_).trans q) (fun _ q=>q) fun _ _ q=>q
  rintro rfl
  rcases hc with rfl | hc
  ·rw [hfree] at e;cases e
  ·rw [hfree] at hc;cases hc
 rcases hx with hk | hk
 ·refine wpAny_storeName_local hk hn (fun h' hn' hs=>?_) hcls
  obtain ⟨oL,_,_,hoL,_⟩:=id hn
  refine h _ ⟨I.ok,I.os,I.bare,⟨fun b o e n hb hx=>?_,fun b o e n hb hx=>?_,I.base.free,fun b o e hx=>?_,I.base.tups,I.base.frzs,I.base.tbls⟩,⟨_,hn',fun j y v' e1 e2 e3=>?_⟩,fun y c e=>?_,I.free,I.freeC,fun p hp=>?_,tracked ⟨oL,hoL,I.free⟩ hs,by simpa using I.len⟩ ⟨_,hs,.inl rfl⟩
  ·exact (hs.2 b (bq (cm (av e) I.ok.above))).trans (I.base.keep b o e n hb hx)
  ·obtain ⟨sl,e1⟩:=I.base.slot b o e n hb hx
   exact ⟨sl,(hs.2 b (bq (cm (av e) I.ok.above))).trans e1⟩
  ·obtain ⟨o',e1⟩:=I.base.there b o e hx
   exact ⟨o',(hs.2 b (bq (cm (av e) I.ok.above))).trans e1⟩
  ·by_cases hj:j=i
   ·subst hj
    rw [hi] at e1;cases e1
    rw [wq hiσ] at e2
    cases e2
    exact ⟨u,r,.inl ⟨hk,by simp⟩⟩
   ·rw [yb (Ne.symm hj)] at e2
    obtain ⟨u',r',q⟩:=hl j y v' e1 e2 e3
    refine ⟨u',r',?_⟩
    rcases q with ⟨k,e⟩ | ⟨k,c,e,z⟩
    ·refine .inl ⟨k,?_⟩
     have:y≠x:=fun e=>hj (yP hN e1 (e ▸ hi))
     simp [this,e]
    ·exact .inr ⟨k,c,e,z.sameBut hs (cne y c e)⟩
  ·obtain ⟨w',z⟩:=I.cell y c e
   exact ⟨w',z.sameBut hs (cne y c e)⟩
  ·obtain ⟨e,n,ne,nf,d⟩:=I.pin p hp
   exact ⟨(hs.2 p.1 ne).trans e,n,ne,nf,d⟩
 ·have hfn:X.fn x=true:=by
   rcases hf with z | z
   ·exact z
   ·rw [z] at hk;cases hk
  obtain ⟨c,hc⟩:=I.ok.has x (.inl hk)
  obtain ⟨w',z⟩:=I.cell x c hc
  refine wpAny_storeName_cell I.ok.kind hk hc z (fun h' hc' hs=>?_)
  obtain ⟨oc,hoc,hocd⟩:=id z
  refine h { s with heap:=h' } ⟨I.ok,I.os,I.bare,⟨fun b o e n hb hx=>?_,fun b o e n hb hx=>?_,I.base.free,fun b o e hx=>?_,I.base.tups,I.base.frzs,I.base.tbls⟩,⟨m,hn.sameBut hs (Ne.symm (cne x c hc)),fun j y v' e1 e2 e3=>?_⟩,fun y c' e=>?_,I.free,I.freeC,fun p hp=>?_,tracked ⟨oc,hoc,I.freeC x c hc⟩ hs,by simpa using I.len⟩ ⟨c,hs,.inr hc⟩
  ·exact (hs.2 b (bq (cm (av e) (I.ok.cab x c hfn hc)))).trans (I.base.keep b o e n hb hx)
  ·obtain ⟨sl,e1⟩:=I.base.slot b o e n hb hx
   exact ⟨sl,(hs.2 b (bq (cm (av e) (I.ok.cab x c hfn hc)))).trans e1⟩
  ·obtain ⟨o',e1⟩:=I.base.there b o e hx
   exact ⟨o',(hs.2 b (bq (cm (av e) (I.ok.cab x c hfn hc)))).trans e1⟩
  ·by_cases hj:j=i
   ·subst hj
    rw [hi] at e1;cases e1
    rw [wq hiσ] at e2
    cases e2
    exact ⟨u,r,.inr ⟨.inl hk,c,hc,hc'⟩⟩
   ·rw [yb (Ne.symm hj)] at e2
    obtain ⟨u',r',q⟩:=hl j y v' e1 e2 e3
    refine ⟨u',r',?_⟩
    rcases q with q | ⟨k,c',e,z'⟩
    ·exact .inl q
    ·refine .inr ⟨k,c',e,z'.sameBut hs ?_⟩
     rintro rfl
     exact hj (yP hN e1 (I.ok.inj _ _ _ e hc ▸ hi))
  ·by_cases hcc:c'=c
   ·subst hcc;exact ⟨_,hc'⟩
   ·obtain ⟨w2,z2⟩:=I.cell y c' e
    exact ⟨w2,z2.sameBut hs hcc⟩
  ·obtain ⟨e,n,ne,nf,d⟩:=I.pin p hp
   refine ⟨(hs.2 p.1 ?_).trans e,n,ne,nf,d⟩
   intro q
   rw [q,hoc] at e
   have q':oc=p.2:=dz e
   exact d w' (by rw [<- q'];exact hocd)
theorem kJ {M:Model}{A:Around}{E:Value->Shared->Prop}{i:Nat}{x:Str}{v:V}{u:Value}{Q:Unit->Shared->Prop}(I:aW X pins σ H s) (hN:X.N.Nodup) (hi:X.N[i]?=some x) (hx:Loc X.env.scope x) (r:bL v u)
  (h:∀ s',aW X pins (σ.set i (some v)) H s'->Q () s') (hf:X.fn x=true\/X.env.scope.names.lookup x=some .local:=by first | exact .inl rfl | exact .inr rfl | assumption):wpAny M A (storeName X.env x u) Q E s :=
 uZ I hN hi hx r (fun s' I' _=>h s' I') hf
theorem aW.call' {s':Shared}{ch:List Addr}(I:aW X pins σ H s) (ho:s'.os=s.os) (u:Un (frs X.stack) ch H H' s.heap s'.heap) (hok:mN X.prog X.w H' s'.heap) (hg:AllBare s'.gens)
  (hch:∀ b∈ch,(b∈X.ex\/X.s₀.heap.objs.size<=b)/\b≠X.env.locals/\(∀ x c,X.env.cells.lookup x=some c->c≠b)/\∀ p∈X.pn++pins,p.1≠b):aW X pins σ H' s':=by
 obtain ⟨h',g',d',t',o'⟩:=s'
 have e:o'=s.os:=ho
 subst e
 exact I.call (g':=g') (t':=t') (d':=d') u hok hg hch
end
abbrev XK:=Value->Option Addr->Hp->Prop
abbrev St:=List (Option V)
abbrev VK:=V->Hp->Prop
abbrev TE:=St->Hp->VK->Prop
abbrev TT:=St->Hp->(Bool->Hp->Prop)->Prop
abbrev TA:=St->Hp->(List V->Hp->Prop)->Prop
structure kF where
 nx:St->Hp->Prop
 rt:VK
 bk:St->Hp->Prop:=fun _ _=>False
 ct:St->Hp->Prop:=fun _ _=>False
abbrev TS:=kF->St->Hp->Prop
def EP (X:Cx) (pins:List (Addr×Obj)) (σ: St) (Q:VK) (u:Value) (s':Shared):Prop:=∃ v H',aW X pins σ H' s'/\bL v u/\Q v H'
def TP (X:Cx) (pins:List (Addr×Obj)) (σ: St) (Q:Bool->Hp->Prop) (b:Bool) (s':Shared):Prop:=∃ H',aW X pins σ H' s'/\Q b H'
def AP (X:Cx) (pins:List (Addr×Obj)) (σ: St) (Q:List V->Hp->Prop) (us:List Value) (s':Shared):Prop:=∃ vs H',aW X pins σ H' s'/\bF vs us/\Q vs H'
def SP (X:Cx) (pins:List (Addr×Obj)) (D:kF) (f:Flow) (s':Shared):Prop :=
 match f with
 | .next=>∃ σ' H',aW X pins σ' H' s'/\D.nx σ' H'
 | .brk=>∃ σ' H',aW X pins σ' H' s'/\D.bk σ' H'
 | .cont=>∃ σ' H',aW X pins σ' H' s'/\D.ct σ' H'
 | .ret u=>∃ v σ' H',aW X pins σ' H' s'/\bL v u/\D.rt v H'
def PE (X:Cx) (e:Expr) (t:TE):Prop :=
 ∀ (pins:List (Addr×Obj)) (s:Shared) (σ: St) (H:Hp) (Q:VK),aW X pins σ H s->t σ H Q->wpAny (model X.prog X.w) X.A (eval e X.env) (EP X pins σ Q) X.xe s
def PT (X:Cx) (e:Expr) (t:TT):Prop :=
 ∀ (pins:List (Addr×Obj)) (s:Shared) (σ: St) (H:Hp) (Q:Bool->Hp->Prop),aW X pins σ H s->t σ H Q->wpAny (model X.prog X.w) X.A (isTrue e X.env (eval e X.env)) (TP X pins σ Q) X.xe s
def PW (X:Cx) (e:Expr) (t:TT):Prop :=
 ∀ (whole:Sem Value) (pins:List (Addr×Obj)) (s:Shared) (σ: St) (H:Hp) (Q:Bool->Hp->Prop),aW X pins σ H s->t σ H Q->wpAny (model X.prog X.w) X.A (isTrue e X.env whole) (TP X pins σ Q) X.xe s
theorem PW.pt {X:Cx}{e:Expr}{t:TT}(h:PW X e t):PT X e t:=h _
def PA (X:Cx) (es:List Expr) (t:TA):Prop :=
 ∀ (pos:Pos) (pins:List (Addr×Obj)) (s:Shared) (σ: St) (H:Hp) (Q:List V->Hp->Prop),aW X pins σ H s->t σ H Q->wpAny (model X.prog X.w) X.A (spliced (backTo pos (starEach es X.env))) (AP X pins σ Q) X.xe s
def PS (X:Cx) (st:Stmt) (t:TS):Prop :=
 ∀ (pins:List (Addr×Obj)) (s:Shared) (σ: St) (H:Hp) (D:kF),aW X pins σ H s->t D σ H->wpAny (model X.prog X.w) X.A (exec st X.env) (SP X pins D) X.xe s
def xG (X:Cx) (st:List Stmt) (t:TS):Prop :=
 ∀ (pins:List (Addr×Obj)) (s:Shared) (σ: St) (H:Hp) (D:kF),aW X pins σ H s->t D σ H->wpAny (model X.prog X.w) X.A (execs st X.env) (SP X pins D) X.xe s
theorem cW {α: Type}{t:Sem α}{Q Q':α->Shared->Prop}{M:Model}{A:Around}{E:Value->Shared->Prop}{s:Shared}(h:wpAny M A t Q E s) (hQ:∀ a s,Q a s->Q' a s):wpAny M A t Q' E s:=fj h hQ fun _ _ x=>x
section
variable {X:Cx}
def mQ (i:Nat):TE:=fun σ H Q=>∃ v,σ[i]?=some (some v)/\Q v H
def tC (v:V):TE:=fun _ H Q=>Q v H
theorem bT1 {i:Nat}{x:Str}{pos:Pos}(hN:X.N[i]?=some x) (hv:Vis X.env.scope x) (hd:(x == ("__debug__": Str))=false:=by decide) (hcd:(x == ("__classdict__": Str))=false:=by decide):PE X (.Name x pos) (mQ i):=by
 intro pins s σ H Q I h
 obtain ⟨v,e,h⟩:=h
 obtain ⟨m,hn,hl⟩:=I.loc
 obtain ⟨u,r,l⟩:=hl i x v hN e hv
 have fin:EP X pins σ Q u s:=⟨v,H,I,r,h⟩
 rcases l with ⟨hk,hm⟩ | ⟨hk,c,hc,hcell⟩
 ·exact wpAny_Name (yc I.ok.kind hk hn hm fin) hd
 ·rcases hk with hk | hk
  ·exact wpAny_Name (yx I.ok.kind hk hc hcell fin) hd
  ·exact wpAny_Name (wpAny_loadName_free I.ok.kind hk hc hcell fin hcd) hd
theorem aC {i j pos}:PE X (.Constant (.int i) j pos) (tC (.int i)):=fun _ _ _ H _ I h=>wpAny_Constant_int ⟨.int i,H,I.tok _,⟨_,rfl⟩,h⟩
theorem rZ {b j pos}:PE X (.Constant (.bool b) j pos) (tC (.bl b)):=fun _ _ _ H _ I h=>Constant_bool ⟨.bl b,H,I,rfl,h⟩
theorem oM {j pos}:PE X (.Constant .none j pos) (tC .non):=fun _ _ _ H _ I h=>yo ⟨.non,H,I,rfl,h⟩
theorem aH {x j pos}:PE X (.Constant (.str x) j pos) (tC (.str x)):=fun _ _ _ H _ I h=>Calls.Constant_str ⟨.str x,H,I.tok _,⟨_,rfl⟩,h⟩
def Gl (X:Cx) (x:Str):Prop:=X.env.kindOf x=some .globalImplicit
theorem xE {E:Value->Shared->Prop}{pins:List (Addr×Obj)}{s:Shared}{σ: St}{H:Hp}{x:Str}{u:Value}{pos:Pos}{Q:Value->Shared->Prop}(I:aW X pins σ H s) (hg:Gl X x) (hm:X.mg x=some u) (h:Q u s)
  (hd:(x == ("__debug__": Str))=false:=by decide):wpAny (model X.prog X.w) X.A (eval (.Name x pos) X.env) Q E s :=
 ut I.ok.kind hg (Calls.loadGlobal_global (by rw [I.ok.glob];exact I.mod.glob.keeps I.bk) hm h) hd
theorem iT {E:Value->Shared->Prop}{pins:List (Addr×Obj)}{s:Shared}{σ: St}{H:Hp}{x:Str}{u:Value}{pos:Pos}{Q:Value->Shared->Prop}(I:aW X pins σ H s) (hg:Gl X x) (hm:X.mg x=none) (hv:bootBuiltins x=some u) (h:Q u s)
  (hn:x≠"__name__":=by decide) (hd:(x == ("__debug__": Str))=false:=by decide):wpAny (model X.prog X.w) X.A (eval (.Name x pos) X.env) Q E s:=by
 obtain ⟨mb,h1,h2⟩:=I.mod.blt
 exact ut I.ok.kind hg (Calls.loadGlobal_builtin (by rw [I.ok.glob];exact I.mod.glob.keeps I.bk) hm (by rw [I.ok.blt];exact h1.keeps I.bk) ((h2 x hn).trans hv) h) hd
theorem bI0 {x:Str}{v:V}{u:Value}{pos:Pos}(hg:Gl X x) (hm:X.mg x=some u) (r:bL v u) (hd:(x == ("__debug__": Str))=false:=by decide):PE X (.Name x pos) (tC v) :=
 fun _ _ _ H _ I h=>xE I hg hm ⟨v,H,I,r,h⟩ hd
theorem vV {x:Str}{v:V}{u:Value}{pos:Pos}(hg:Gl X x) (hm:X.mg x=none) (hv:bootBuiltins x=some u) (r:bL v u) (hn:x≠"__name__":=by decide) (hd:(x == ("__debug__": Str))=false:=by decide):PE X (.Name x pos) (tC v) :=
 fun _ _ _ H _ I h=>iT I hg hm hv ⟨v,H,I,r,h⟩ hn hd
variable {a b:Expr}{ta tb:TE}{pos:Pos}
def PC (X:Cx) (op:CmpOp) (a b:Expr) (t:TE):Prop :=
 ∀ (pins:List (Addr×Obj)) (s:Shared) (σ: St) (H:Hp) (Q:VK),aW X pins σ H s->t σ H Q ->
  wpAny (model X.prog X.w) X.A (eval a X.env) (fun v s₁=>wpAny (model X.prog X.w) X.A (eval b X.env) (fun u s₂=>wpAny (model X.prog X.w) X.A (compareOp op v u) (EP X pins σ Q) X.xe s₂) X.xe s₁) X.xe s
theorem zE (b:Expr) {op:CmpOp}(h:op≠ .In) (h2:op≠ .NotIn):behindInMarks op b=false:=by
 have e1:(op == CmpOp.In)=false:=by cases op <;> first | rfl | exact absurd rfl h
 have e2:(op == CmpOp.NotIn)=false:=by cases op <;> first | rfl | exact absurd rfl h2
 cases b <;> simp [behindInMarks,e1,e2]
def cM4 (ta:TE):TE:=fun σ H Q=>ta σ H fun x H1=>Q (.bl (decide (x= .non))) H1
def cE4 (ta:TE):TE:=fun σ H Q=>ta σ H fun x H1=>Q (.bl (!decide (x= .non))) H1
theorem bL.none_iff {x:V}{v:Value}(r:bL x v):(v == Value.none)=decide (x= .non):=by
 cases x with
 | non=>cases r;rfl
 | bl _=>cases r;rfl
 | int _=>obtain ⟨t,rfl⟩:=r;rfl
 | str _=>obtain ⟨t,rfl⟩:=r;rfl
 | byt _=>obtain ⟨t,rfl⟩:=r;rfl
 | flt _=>obtain ⟨t,rfl⟩:=r;rfl
 | ref _=>cases r;rfl
 | ty _=>cases r;rfl
theorem aD3 {j pos'} (ha:PE X a ta):PC X .Is a (.Constant .none j pos') (cM4 ta):=by
 intro pins s σ H Q I h
 refine cW (ha pins s σ H _ I h) ?_;rintro v s1 ⟨x,H1,I1,r1,q1⟩
 exact yo (is_none_gen ⟨.bl _,H1,I1,by rw [r1.none_iff];rfl,q1⟩)
theorem bJ0 {j pos'} (ha:PE X a ta):PC X .IsNot a (.Constant .none j pos') (cE4 ta):=by
 intro pins s σ H Q I h
 refine cW (ha pins s σ H _ I h) ?_;rintro v s1 ⟨x,H1,I1,r1,q1⟩
 exact yo (isnot_none_gen ⟨.bl _,H1,I1,by rw [r1.none_iff];rfl,q1⟩)
def tB (t:TE):TT:=fun σ H Q=>t σ H fun x H1=>∃ c,x= .bl c/\Q c H1
theorem wE {op:CmpOp}{t:TE}(h:PC X op a b t) (h1:behindInMarks op b=false:=by first | exact zE _ (by decide) (by decide) | rfl):PE X (.Compare a [op] [b] pos) t:=fun pins s σ H Q I hw=>wpAny_Compare1 (h pins s σ H Q I hw) h1
theorem aY8 {op:CmpOp}{t:TE}(h:PC X op a b t) (h1:behindInMarks op b=false:=by first | exact zE _ (by decide) (by decide) | rfl):PT X (.Compare a [op] [b] pos) (tB t):=by
 intro pins s σ H Q I hw
 refine xh (cW (h pins s σ H _ I hw) fun v s1 h1=>cW h1 fun u s2 h2=>cW h2 fun c s3 ⟨x,H1,I1,r1,q1⟩=>?_) h1
 obtain ⟨d,rfl,q⟩:=q1
 cases r1
 exact gx ⟨H1,I1,q⟩
theorem fJ {e:Expr}{t:TE}(h:PE X e t) (he:∀ whole,isTrue e X.env whole=(do let v <- whole;standAt e.pos;holding [v] (truthy v)):=by intro _;rfl):PT X e (tB t):=by
 intro pins s σ H Q I hw
 refine isTrue_plain (cW (h pins s σ H _ I hw) ?_) (he _);rintro v s1 ⟨x,H1,I1,r1,q1⟩
 obtain ⟨d,rfl,q⟩:=q1
 cases r1
 exact gx ⟨H1,I1,q⟩
variable {tA tB':TT}{eO:List Expr}
def cM6 (t u:TT):TT:=fun σ H Q=>t σ H fun c H1=>if c=true then u σ H1 Q else Q false H1
def tOr (t u:TT):TT:=fun σ H Q=>t σ H fun c H1=>if c=true then Q true H1 else u σ H1 Q
def cL9 (t:TT):TT:=fun σ H Q=>t σ H fun c H1=>Q (!c) H1
theorem gZ (ha:PT X a tA):PW X (.BoolOp .And [a] pos) tA:=by
 intro wh pins s σ H Q I h
 refine isTrue_and (cW (ha pins s σ H Q I h) fun c s1 e=>?_)
 cases c with
 | true=>exact isTrue_and_nil e
 | false=>exact e
theorem oP (ha:PT X a tA):PW X (.BoolOp .Or [a] pos) tA:=by
 intro wh pins s σ H Q I h
 refine isTrue_or (cW (ha pins s σ H Q I h) fun c s1 e=>?_)
 cases c with
 | false=>exact isTrue_or_nil e
 | true=>exact e
theorem iG (ha:PT X a tA) (hb:PW X (.BoolOp .And (b :: eO) pos) tB'):PW X (.BoolOp .And (a :: b :: eO) pos) (cM6 tA tB'):=by
 intro wh pins s σ H Q I h
 refine isTrue_and (cW (ha pins s σ H _ I h) ?_);rintro c s1 ⟨H1,I1,q1⟩
 cases c with
 | true=>exact hb wh pins s1 σ H1 Q I1 q1
 | false=>exact ⟨H1,I1,q1⟩
theorem vJ (ha:PT X a tA) (hb:PW X (.BoolOp .Or (b :: eO) pos) tB'):PW X (.BoolOp .Or (a :: b :: eO) pos) (tOr tA tB'):=by
 intro wh pins s σ H Q I h
 refine isTrue_or (cW (ha pins s σ H _ I h) ?_);rintro c s1 ⟨H1,I1,q1⟩
 cases c with
 | true=>exact ⟨H1,I1,q1⟩
 | false=>exact hb wh pins s1 σ H1 Q I1 q1
theorem kW (ha:PT X a tA):PT X (.UnaryOp .Not a pos) (cL9 tA):=by
 intro pins s σ H Q I h
 exact isTrue_not (ha pins s σ H (fun c H1=>Q (!c) H1) I h)
def cJ4 (ta tb:TE):TE:=fun σ H Q=>ta σ H fun x H1=>∃ c,x= .bl c/\if c=true then tb σ H1 Q else Q (.bl false) H1
def cK7 (ta tb:TE):TE:=fun σ H Q=>ta σ H fun x H1=>∃ c,x= .bl c/\if c=true then Q (.bl true) H1 else tb σ H1 Q
def cC0 (ta:TE):TE:=fun σ H Q=>ta σ H fun x H1=>∃ c,x= .bl c/\Q (.bl (!c)) H1
theorem mJ {op} {t:TE}(h:PE X a t):PE X (.BoolOp op [a] pos) t:=fun pins s σ H Q I hw=>BoolOp_one (h pins s σ H Q I hw)
theorem mL (ha:PE X a ta) (hb:PE X (.BoolOp .And (b :: eO) pos) tb):PE X (.BoolOp .And (a :: b :: eO) pos) (cJ4 ta tb):=by
 intro pins s σ H Q I h
 refine BoolOp_and (cW (ha pins s σ H _ I h) ?_);rintro v s1 ⟨x,H1,I1,r1,q1⟩
 obtain ⟨c,rfl,q1⟩:=q1
 cases r1
 refine gx ?_
 cases c with
 | true=>exact hb pins s1 σ H1 Q I1 q1
 | false=>exact ⟨.bl false,H1,I1,rfl,q1⟩
theorem cI8 (ha:PE X a ta) (hb:PE X (.BoolOp .Or (b :: eO) pos) tb):PE X (.BoolOp .Or (a :: b :: eO) pos) (cK7 ta tb):=by
 intro pins s σ H Q I h
 refine BoolOp_or (cW (ha pins s σ H _ I h) ?_);rintro v s1 ⟨x,H1,I1,r1,q1⟩
 obtain ⟨c,rfl,q1⟩:=q1
 cases r1
 refine gx ?_
 cases c with
 | false=>exact hb pins s1 σ H1 Q I1 q1
 | true=>exact ⟨.bl true,H1,I1,rfl,q1⟩
theorem aF2 (ha:PE X a ta):PE X (.UnaryOp .Not a pos) (cC0 ta):=by
 intro pins s σ H Q I h
 refine UnaryOp_ (cW (ha pins s σ H _ I h) ?_);rintro v s1 ⟨x,H1,I1,r1,q1⟩
 obtain ⟨c,rfl,q1⟩:=q1
 cases r1
 exact not_of (gx ⟨.bl (!c),H1,I1,rfl,q1⟩)
def tIf (t:TT) (ta tb:TE):TE:=fun σ H Q=>t σ H fun c H1=>if c=true then ta σ H1 Q else tb σ H1 Q
theorem iZ {c:Expr}(hc:PT X c tA) (ha:PE X a ta) (hb:PE X b tb):PE X (.IfExp c a b pos) (tIf tA ta tb):=by
 intro pins s σ H Q I h
 refine wpAny_IfExp (cW (hc pins s σ H _ I h) ?_);rintro d s1 ⟨H1,I1,q1⟩
 cases d with
 | true=>exact ha pins s1 σ H1 Q I1 q1
 | false=>exact hb pins s1 σ H1 Q I1 q1
end
def bC (K:PySem.W.Frag) (H:Hp) (a:Addr) (xs:List V):Prop :=
 Rd H a (.lst xs) \/
  ∃ (o:Obj) (its:Array Value) (n:Nat),K.lookup a=some o/\o.cls= .type "list"/\o.dict=none/\o.data= .seq its n/\its.size<=sizeLine/\bF xs its.toList
def aO (K:PySem.W.Frag) (H:Hp) (a:Addr) (xs:List V):Prop :=
 Rd H a (.tup xs) \/
  ∃ (o:Obj) (its:Array Value) (n:Nat),K.lookup a=some o/\o.cls= .type "tuple"/\o.data= .seq its n/\its.size<=sizeLine/\bF xs its.toList
def cL4:Value->Option V
 | .none=>some .non
 | .bool b=>some (.bl b)
 | .int i _=>some (.int i)
 | .str x _=>some (.str x)
 | .bytes b _=>some (.byt b)
 | .float b _=>some (.flt b)
 | .ref a=>some (.ref a)
 | .type n=>some (.ty n)
 | _=>none
theorem bL.abs {x:V}{u:Value}(r:bL x u):cL4 u=some x:=by
 cases x with
 | non=>cases r;rfl
 | bl _=>cases r;rfl
 | int _=>obtain ⟨t,rfl⟩:=r;rfl
 | str _=>obtain ⟨t,rfl⟩:=r;rfl
 | byt _=>obtain ⟨t,rfl⟩:=r;rfl
 | flt _=>obtain ⟨t,rfl⟩:=r;rfl
 | ref _=>cases r;rfl
 | ty _=>cases r;rfl
theorem bL.inj {x y:V}{u:Value}(r:bL x u) (q:bL y u):x=y:=dz (r.abs.symm.trans q.abs)
theorem bF.inj:∀ {xs ys:List V}{us:List Value},bF xs us->bF ys us->xs=ys
 | _,_,_,.nil,.nil=>rfl
 | _,_,_,.cons r t,.cons r' t'=>by rw [r.inj r',bF.inj t t']
section
variable {X:Cx}{pins:List (Addr×Obj)}{σ: St}{H:Hp}{s:Shared}{a:Addr}{xs ys:List V}
theorem bC.of {K:PySem.W.Frag}(h:H a=some (.lst xs)):bC K H a xs:= .inl (.inl h)
theorem aO.of {K:PySem.W.Frag}(h:H a=some (.tup xs)):aO K H a xs:= .inl (.inl h)
theorem aW.list (I:aW X pins σ H s) (h:bC X.K H a xs):∃ its:List Value,bF xs its/\PlainL s.heap a its.toArray/\xs.length<=sizeLine:=by
 rcases h with h | ⟨o,its,n,hk,hc,hd,hs,hz,r⟩
 ·obtain ⟨z,its,n,r,e⟩:=h.ok I.hok
  exact ⟨its,r,⟨_,n,e,rfl,rfl,rfl⟩,z⟩
 ·refine ⟨its.toList,r,⟨o,n,I.kIn a o hk,hc,hd,by simpa using hs⟩,?_⟩
  have e:=r.length
  simp only [Array.length_toList] at e
  (exact oqo)
theorem aW.tuple (I:aW X pins σ H s) (h:aO X.K H a xs):∃ its:List Value,bF xs its/\IsTup s.heap a its.toArray/\xs.length<=sizeLine:=by
 rcases h with h | ⟨o,its,n,hk,hc,hs,hz,r⟩
 ·obtain ⟨z,its,r,p⟩:=h.ok I.hok
  exact ⟨its,r,p.is,z⟩
 ·refine ⟨its.toList,r,⟨o,I.kIn a o hk,hc,n,by simpa using hs⟩,?_⟩
  have e:=r.length
  simp only [Array.length_toList] at e
  (exact oqo)
theorem aW.list_inj (I:aW X pins σ H s) (h:bC X.K H a xs) (h':bC X.K H a ys):xs=ys:=by
 obtain ⟨its,r,⟨o,n,e,_,_,d⟩,_⟩:=I.list h
 obtain ⟨its',r',⟨o',n',e',_,_,d'⟩,_⟩:=I.list h'
 rw [e] at e';cases e'
 rw [d] at d'
 injection d' with d1 _
 have:its=its':=by simpa using fc Array.toList d1
 subst this
 exact r.inj r'
theorem aW.tuple_inj (I:aW X pins σ H s) (h:aO X.K H a xs) (h':aO X.K H a ys):xs=ys:=by
 obtain ⟨its,r,⟨o,e,_,n,d⟩,_⟩:=I.tuple h
 obtain ⟨its',r',⟨o',e',_,n',d'⟩,_⟩:=I.tuple h'
 rw [e] at e';cases e'
 rw [d] at d'
 injection d' with d1 _
 have:its=its':=by simpa using fc Array.toList d1
 subst this
 exact r.inj r'
end
abbrev Cx.wish (X:Cx) (E:Value->Shared->Prop):Cx:={ X with xe:=E }
abbrev Cx.nox (X:Cx):Cx:=X.wish fun _ _=>False
theorem Cx.Ok.wish {X:Cx}(ok:X.Ok) (E:Value->Shared->Prop):(X.wish E).Ok :=
 ⟨ok.mod,ok.kind,ok.glob,ok.blt,ok.above,ok.inj,ok.has,ok.cab,ok.hd,ok.frames,ok.stk,ok.exf,ok.bs,ok.bsz,ok.noex,ok.exfs,ok.funs,ok.frf⟩
theorem Cx.Ok.unwish {X:Cx}{E:Value->Shared->Prop}(ok:(X.wish E).Ok):X.Ok :=
 ⟨ok.mod,ok.kind,ok.glob,ok.blt,ok.above,ok.inj,ok.has,ok.cab,ok.hd,ok.frames,ok.stk,ok.exf,ok.bs,ok.bsz,ok.noex,ok.exfs,ok.funs,ok.frf⟩
section
variable {X:Cx}{pins:List (Addr×Obj)}{σ: St}{H:Hp}{s:Shared}{E:Value->Shared->Prop}
theorem aW.wish (I:aW X pins σ H s) (E:Value->Shared->Prop):aW (X.wish E) pins σ H s:=⟨I.ok.wish E,I.os,I.bare,I.base,I.loc,I.cell,I.free,I.freeC,I.pin,I.hok,I.len⟩
theorem aW.unwish (I:aW (X.wish E) pins σ H s):aW X pins σ H s:=⟨I.ok.unwish,I.os,I.bare,I.base,I.loc,I.cell,I.free,I.freeC,I.pin,I.hok,I.len⟩
theorem SP.unwish {D:kF}{f:Flow}{s':Shared}(h:SP (X.wish E) pins D f s'):SP X pins D f s':=by
 cases f with
 | next=>obtain ⟨σ',H',I,q⟩:=h;exact ⟨σ',H',I.unwish,q⟩
 | brk=>obtain ⟨σ',H',I,q⟩:=h;exact ⟨σ',H',I.unwish,q⟩
 | cont=>obtain ⟨σ',H',I,q⟩:=h;exact ⟨σ',H',I.unwish,q⟩
 | ret u=>obtain ⟨v,σ',H',I,r,q⟩:=h;exact ⟨v,σ',H',I.unwish,r,q⟩
theorem xG.nox {st:List Stmt}{t:TS}(h:xG X.nox st t):xG X st t:=fun pins s σ H D I hw =>
 fj (h pins s σ H D (I.wish _) hw) (fun _ _ q=>q.unwish) fun _ _ z=>False.elim z
end
section
variable {X:Cx}{st:Stmt}{eO:List Stmt}{t u:TS}{e:Expr}{te:TE}{pos:Pos}
def tNext:TS:=fun D σ H=>D.nx σ H
def aZ8 (t u:TS):TS:=fun D σ H=>t { D with nx:=u D } σ H
theorem aR:xG X [] tNext:=fun _ _ σ H _ I h=>rh ⟨σ,H,I,h⟩
theorem aF (h1:PS X st t) (h2:xG X eO u):xG X (st :: eO) (aZ8 t u):=by
 intro pins s σ H D I h
 refine wpAny_execs_cons (cW (h1 pins s σ H { D with nx:=u D } I h) fun f s1 q=>?_)
 cases f with
 | next =>
  obtain ⟨σ',H',I',q⟩:=q
  exact h2 pins s1 σ' H' D I' q
 | ret v=>exact q
 | brk=>exact q
 | cont=>exact q
theorem aE (h1:PS X st t):xG X [st] t:=by
 intro pins s σ H D I h
 refine wpAny_execs_cons (cW (h1 pins s σ H D I h) fun f s1 q=>?_)
 cases f with
 | next=>exact rh q
 | ret v=>exact q
 | brk=>exact q
 | cont=>exact q
theorem aW.quiet {pins:List (Addr×Obj)}{σ: St}{H:Hp}{s:Shared}(I:aW X pins σ H s):interactive X.env=false:=by simp [interactive,I.ok.kind]
def cF9 (te:TE):TS:=fun D σ H=>te σ H fun _ H1=>D.nx σ H1
theorem cY (he:PE X e te) (hs:swapsWith e none pos.line X.env=pure false:=by rfl):PS X (.Expr e pos) (cF9 te):=by
 intro pins s σ H D I h
 refine wpAny_Expr_any (cW (he pins s σ H _ I h) ?_) I.quiet hs;rintro v s1 ⟨x,H1,I1,r1,q1⟩;exact ⟨σ,H1,I1,q1⟩
def bC4 (te:TE):TS:=fun D σ H=>te σ H D.rt
theorem aJ (he:PE X e te):PS X (.Return (some e) pos) (bC4 te):=by
 intro pins s σ H D I h
 refine wpAny_Return_some (cW (he pins s σ H _ I h) ?_);rintro v s1 ⟨x,H1,I1,r1,q1⟩;exact ⟨x,σ,H1,I1,r1,q1⟩
def bV3 (c:TT) (t u:TS):TS:=fun D σ H=>c σ H fun b H1=>if b=true then t D σ H1 else u D σ H1
theorem bB {c:Expr}{a b:List Stmt}{tc:TT}(hc:PT X c tc) (ha:xG X a t) (hb:xG X b u):PS X (.If c a b pos) (bV3 tc t u):=by
 intro pins s σ H D I h
 refine wpAny_If (cW (hc pins s σ H _ I h) ?_);rintro d s1 ⟨H1,I1,q1⟩
 cases d with
 | true=>exact ha pins s1 σ H1 D I1 q1
 | false=>exact hb pins s1 σ H1 D I1 q1
def tNever:TS:=fun _ _ _=>False
theorem jC {sts:List Stmt}:xG X sts tNever:=fun _ _ _ _ _ _ h=>h.elim
end
abbrev TG:=V->St->Hp->(St->Hp->Prop)->Prop
abbrev TGs:=List V->St->Hp->(St->Hp->Prop)->Prop
def PG (X:Cx) (target:Expr) (t:TG):Prop :=
 ∀ (pins:List (Addr×Obj)) (s:Shared) (σ: St) (H:Hp) (v:V) (u:Value) (Q:St->Hp->Prop),aW X pins σ H s->bL v u->t v σ H Q ->
  wpAny (model X.prog X.w) X.A (assign target X.env u) (fun _ s'=>∃ σ' H',aW X pins σ' H' s'/\Q σ' H') X.xe s
def PGs (X:Cx) (ts:List Expr) (t:TGs):Prop :=
 ∀ (pins:List (Addr×Obj)) (s:Shared) (σ: St) (H:Hp) (vs:List V) (us:List Value) (Q:St->Hp->Prop),aW X pins σ H s->bF vs us->t vs σ H Q ->
  wpAny (model X.prog X.w) X.A (assignInOrder ((assignEach ts X.env).map (·.2)) us) (fun _ s'=>∃ σ' H',aW X pins σ' H' s'/\Q σ' H') X.xe s
abbrev TIp:=V->V->Hp->VK->Prop
def PIp (X:Cx) (op:Operator) (t:TIp):Prop :=
 ∀ (pins:List (Addr×Obj)) (s:Shared) (σ: St) (H:Hp) (x y:V) (v u:Value) (Q:VK),aW X pins σ H s->bL x v->bL y u->t x y H Q ->
  wpAny (model X.prog X.w) X.A (inplaceOp op v u) (EP X pins σ Q) X.xe s
section
variable {X:Cx}{pos:Pos}
def rQ (i:Nat):TG:=fun v σ H Q=>Q (σ.set i (some v)) H
theorem pT {i:Nat}{x:Str}(hN:X.N.Nodup) (hi:X.N[i]?=some x) (hx:Loc X.env.scope x) (hf:X.fn x=true\/X.env.scope.names.lookup x=some .local:=by first | exact .inl rfl | exact .inr rfl | assumption):PG X (.Name x pos) (rQ i):=by
 intro pins s σ H v u Q I r h
 exact zy (kJ I hN hi hx r (fun s' I'=>⟨_,H,I',h⟩) hf)
def gNil:TGs:=fun vs σ H Q=>vs=[]/\Q σ H
def cA4 (t:TG) (u:TGs):TGs:=fun vs σ H Q=>∃ v r,vs=v :: r/\t v σ H fun σ' H'=>u r σ' H' Q
theorem dP:PGs X [] gNil:=by
 intro pins s σ H vs us Q I r h
 obtain ⟨e,h⟩:=h
 subst e
 cases r
 exact assignInOrder_nil ⟨σ,H,I,h⟩
theorem aX {e:Expr}{es:List Expr}{t:TG}{u:TGs}(h1:PG X e t) (h2:PGs X es u)
  (hs:(assignEach (e :: es) X.env).map (·.2)=assign e X.env :: (assignEach es X.env).map (·.2):=by rfl):PGs X (e :: es) (cA4 t u):=by
 intro pins s σ H vs us Q I r h
 obtain ⟨v,vr,e1,h⟩:=h
 subst e1
 cases r with
 | cons r rr =>
  rw [hs]
  refine ui (cW (h1 pins s σ H _ _ _ I r h) ?_);rintro _ s1 ⟨σ1,H1,I1,q1⟩
  exact h2 pins s1 σ1 H1 _ _ Q I1 rr q1
def cJ3 (K:PySem.W.Frag) (n:Nat) (t:TGs):TG:=fun v σ H Q=>∃ a xs,v= .ref a/\aO K H a xs/\xs.length=n/\t xs σ H Q
theorem eV {es:List Expr}{k:Nat}{t:TGs}{n:Nat}(hc:X.calm=true) (h:PGs X es t)
  (hn:(assignEach es X.env).length=n:=by rfl) (hst:(assignEach es X.env).findIdx? (·.1)=none:=by rfl):PG X (.Tuple es k pos) (cJ3 X.K n t):=by
 intro pins s σ H v u Q I r hw
 obtain ⟨a,xs,e1,hq,hl,hw⟩:=hw
 subst e1
 cases r
 obtain ⟨its,rv,ht,hz⟩:=I.tuple hq
 refine assign_Tuple_tuple (I.ok.hd hc) ht (by simp [hn, <- hl,rv.length]) hst fun h' hx=>?_
 have I1:aW X pins σ H { s with heap:=h' }:=I.kept (t':=s.toks) fun b o e=>hx b o (bq (av e)) e
 exact h pins _ σ H xs _ Q I1 (by simpa using rv) hw
def bB0 (te:TE) (g:TG):TS:=fun D σ H=>te σ H fun x H1=>g x σ H1 D.nx
theorem gC {tg e:Expr}{te:TE}{g:TG}(he:PE X e te) (hg:PG X tg g) (hs:swapsWithSole [tg] e pos.line X.env=pure false:=by rfl) (hw:swappedStores [tg] e X.env=pure none:=by rfl)
  (h1:(assignEach [tg] X.env).map (·.2)=[assign tg X.env]:=by rfl):PS X (.Assign [tg] e pos) (bB0 te g):=by
 intro pins s σ H D I h
 refine wpAny_Assign_stores (cW (he pins s σ H _ I h) ?_) hs hw;rintro v s1 ⟨x,H1,I1,r1,q1⟩
 rw [h1]
 exact cW (hg pins s1 σ H1 x v _ I1 r1 q1) fun _ s2 q=>q
theorem kY {i:Nat}{x:Str}{e:Expr}{te:TE}{pos':Pos}(hN:X.N.Nodup) (hi:X.N[i]?=some x) (hx:Loc X.env.scope x) (he:PE X e te) (hs:swapsWith e (some (.Name x pos')) pos.line X.env=pure false:=by rfl) (hf:X.fn x=true\/X.env.scope.names.lookup x=some .local:=by first | exact .inl rfl | exact .inr rfl | assumption) :
  PS X (.Assign [.Name x pos'] e pos) (bB0 te (rQ i)):=by
 intro pins s σ H D I h
 refine wpAny_Assign_Name (cW (he pins s σ H _ I h) ?_) hs;rintro v s1 ⟨y,H1,I1,r1,q1⟩
 exact kJ I1 hN hi hx r1 (fun s2 I2=>⟨_,H1,I2,q1⟩) hf
def cL8 (i j:Nat) (ta:TA):TS:=fun D σ H=>ta σ H fun vs H1=>∃ v w,vs=[v,w]/\D.nx ((σ.set i (some v)).set j (some w)) H1
theorem bO3 {i j:Nat}{x y:Str}{a b:Expr}{ta:TA}{px py pt:Pos}{kt k2 pt2} (hc:X.calm=true) (hN:X.N.Nodup) (hi:X.N[i]?=some x) (hj:X.N[j]?=some y) (hij:i≠j)
  (hx:X.env.scope.names.lookup x=some .local) (hy:X.env.scope.names.lookup y=some .local) (ha:PA X [a,b] ta)
  (hw:swappedStores [.Tuple [.Name x px,.Name y py] kt pt] (.Tuple [a,b] k2 pt2) X.env=pure (some [x,y]))
  (hs:swapsWithSole [.Tuple [.Name x px,.Name y py] kt pt] (.Tuple [a,b] k2 pt2) pos.line X.env=pure false:=by rfl) :
  PS X (.Assign [.Tuple [.Name x px,.Name y py] kt pt] (.Tuple [a,b] k2 pt2) pos) (cL8 i j ta):=by
 intro pins s σ H D I h
 rw [exec_Assign_arm]
 refine aa (yq ?_)
 rw [hs]
 refine aa (af ?_)
 rw [ak (by decide)]
 refine aa (Tuple_ (cW (ha _ pins s σ H _ I h) ?_));rintro us s1 ⟨vs,H1,I1,r1,q1⟩
 obtain ⟨v,w,e1,q1⟩:=q1
 subst e1
 obtain ⟨u1,u2,rfl,rv,rw'⟩:∃ u1 u2,us=[u1,u2]/\bL v u1/\bL w u2:=by
  cases r1 with
  | cons p q =>
   cases q with
   | cons p' q' =>
    cases q'
    exact ⟨_,_,rfl,p,p'⟩
 refine dj ?_ (by show 2<=sizeLine;decide)
 have I2:aW X pins σ H1 { s1 with heap:=s1.heap.push { cls:= .type "tuple",data:= .seq [u1,u2].toArray } }:=I1.kept (t':=s1.toks) fun b o e=>ae _ e
 rw [hw]
 refine aa (af ?_)
 show wpAny (model X.prog X.w) X.A (do rule "assign.swapped-stores";let items <- unpackItems (.ref s1.heap.objs.size) 2 none;assignInOrder [fun v=>bindName X.env y v,fun v=>bindName X.env x v] items.reverse;pure Flow.next) _ _ _
 refine aa (ou (aa (unpackItems_tuple (items:= #[u1,u2]) (I.ok.hd hc) (IsTup.new s1.heap _) fun h' hx'=>?_)))
 have I3:=I2.kept (h':=h') (t':=s1.toks) fun b o e=>hx' b o (bq (av e)) e
 show wpAny _ _ (assignInOrder [fun v=>bindName X.env y v,fun v=>bindName X.env x v] [u2,u1] >>= fun _=>pure Flow.next) _ _ _
 refine aa (ui (wpAny_bindName (kJ I3 hN hj (.inl hy) rw' (fun s2 I4=>?_) (.inr hy))))
 refine ui (wpAny_bindName (kJ I4 hN hi (.inl hx) rv (fun s3 I5=>assignInOrder_nil (af ?_)) (.inr hx)))
 rw [List.set_comm _ _ (Ne.symm hij)] at I5
 exact ⟨_,H1,I5,q1⟩
def cL5 (i:Nat) (te:TE) (ti:TIp):TS:=fun D σ H=>∃ x,σ[i]?=some (some x)/\te σ H fun y H1=>ti x y H1 fun z H2=>D.nx (σ.set i (some z)) H2
theorem bX0 {i:Nat}{x:Str}{e:Expr}{te:TE}{op:Operator}{ti:TIp}{pos':Pos}(hN:X.N.Nodup) (hi:X.N[i]?=some x) (hx:Loc X.env.scope x) (he:PE X e te) (ho:PIp X op ti) (hf:X.fn x=true\/X.env.scope.names.lookup x=some .local:=by first | exact .inl rfl | exact .inr rfl | assumption) :
  PS X (.AugAssign (.Name x pos') op e pos) (cL5 i te ti):=by
 intro pins s σ H D I h
 obtain ⟨v,e1,h⟩:=h
 obtain ⟨m,hn,hl⟩:=I.loc
 have vis:Vis X.env.scope x:=by rcases hx with k | k;exact .inl k;exact .inr (.inl k)
 obtain ⟨u,r,l⟩:=hl i x v hi e1 vis
 refine wpAny_AugAssign_Name ?_
 have go:wpAny (model X.prog X.w) X.A (eval e X.env) (fun w s₂=>wpAny (model X.prog X.w) X.A (inplaceOp op u w) (fun r s₃=>wpAny (model X.prog X.w) X.A (storeName X.env x r) (fun _=>SP X pins D .next) X.xe s₃) X.xe s₂) X.xe s:=by
  refine cW (he pins s σ H _ I h) ?_;rintro w s1 ⟨y,H1,I1,r1,q1⟩
  refine cW (ho pins s1 σ H1 v y u w _ I1 r r1 q1) ?_;rintro z s2 ⟨zv,H2,I2,r2,q2⟩
  exact kJ I2 hN hi hx r2 (fun s3 I3=>⟨_,H2,I3,q2⟩) hf
 rcases l with ⟨hk,hm⟩ | ⟨hk,c,hc,hcell⟩
 ·exact yc I.ok.kind hk hn hm go
 ·rcases hk with hk | hk
  ·exact yx I.ok.kind hk hc hcell go
  ·rcases hx with k | k
   ·have:X.env.scope.names.lookup x=some .free:=hk
    rw [k] at this;cases this
   ·have:X.env.scope.names.lookup x=some .free:=hk
    rw [k] at this;cases this
def ipI (f:Int->Int->Int):TIp:=fun x y H Q=>∃ i j,x= .int i/\y= .int j/\Q (.int (f i j)) H
theorem bV8:PIp X .Add (ipI fun i j=>i+j):=by
 intro pins s σ H x y v u Q I r1 r2 h
 obtain ⟨i,j,e1,e2,q⟩:=h
 subst e1;subst e2
 obtain ⟨t,rfl⟩:=r1
 obtain ⟨t',rfl⟩:=r2
 exact iadd_int ⟨.int _,H,I.tok _,⟨_,rfl⟩,q⟩
def bT9 (c:TT) (tb:TS):TS:=fun D σ H=>∃ W:Nat->St->Hp->Prop,(∃ m,W m σ H)/\∀ m σ H,W m σ H ->
 c σ H fun b H1=>if b=true then ∃ N:St->Hp->Prop,(∀ σ' H',N σ' H'->∃ m',m' < m/\W m' σ' H')/\tb { D with nx:=N,ct:=N,bk:=D.nx } σ H1 else D.nx σ H1
theorem fP {c:Expr}{body:List Stmt}{tc:TT}{tb:TS}(hp:PassesOwn (model X.prog X.w) X.A X.env X.xe) (hc:PT X c tc) (hb:xG X body tb):PS X (.While c body [] pos) (bT9 tc tb):=by
 intro pins s σ H D I h
 obtain ⟨W,⟨m0,w0⟩,turn⟩:=h
 refine wpAny_While (codeAny_whileLoop (fun n s'=>∃ σ' H',aW X pins σ' H' s'/\W n σ' H') ?_ m0 ⟨σ,H,I,w0⟩)
 rintro n s1 ⟨σ1,H1,I1,w1⟩
 refine ke hp (cW (hc pins s1 σ1 H1 _ I1 (turn n σ1 H1 w1)) ?_);rintro b s2 ⟨H2,I2,q2⟩
 cases b with
 | true =>
  obtain ⟨N,hN,q2⟩:=q2
  rw [ay rfl]
  refine ke hp (cW (hb pins s2 σ1 H2 _ I2 q2) fun f s3 q3=>?_)
  cases f with
  | next =>
   obtain ⟨σ3,H3,I3,n3⟩:=q3
   obtain ⟨m',hm,w3⟩:=hN σ3 H3 n3
   exact ⟨m',hm,σ3,H3,I3,w3⟩
  | cont =>
   obtain ⟨σ3,H3,I3,n3⟩:=q3
   obtain ⟨m',hm,w3⟩:=hN σ3 H3 n3
   exact ⟨m',hm,σ3,H3,I3,w3⟩
  | brk=>exact q3
  | ret v=>exact q3
 | false =>
  rw [ak bx]
  exact rh ⟨σ1,H2,I2,q2⟩
end
structure It where
 go:Nat->Hp->Prop
 yld:Nat->Hp->V->Hp->Prop
 stop:Nat->Hp->Prop
def lW (X:Cx) (pins:List (Addr×Obj)) (H:Hp) (b:Addr):Prop :=
 H b=none/\b≠X.env.locals/\b∉X.fs/\(b∈X.ex\/X.s₀.heap.objs.size<=b)/\(∀ x c,X.env.cells.lookup x=some c->c≠b)/\∀ p∈X.pn++pins,p.1≠b
theorem aW.fpOk {X:Cx}{pins:List (Addr×Obj)}{σ: St}{H H':Hp}{s:Shared}{b:Addr}(I:aW X pins σ H s) (hb:s.heap.objs.size<=b) (hn:H' b=none):lW X pins H' b:=by
 refine ⟨hn,de (cm I.lt hb),I.nofs hb,.inr (cu I.sz hb),fun x c e z=>?_,fun p hp z=>?_⟩
 ·obtain ⟨v,q⟩:=I.cell x c e
  exact absurd (cm q.lt (by rw [z];exact hb)) (gy _)
 ·exact absurd (cm (av (I.pin p hp).1) (by rw [z];exact hb)) (gy _)
structure aB2 (P:Program) (w:World) (K:PySem.W.Frag) (tg:Expr) (J:It) (fp:List Addr) (it:Addr) (tn:Nat->Heap->Prop):Prop where
 mem:it∈fp
 obj:∀ i h,tn i h->∀ b∈fp,∃ o,h.get? b=some o/\∀ v,o.data≠ .cell v
 keep:∀ i h h',tn i h->(∀ b∈fp,∀ o,h.get? b=some o->h'.get? b=some o)->tn i h'
 item:∀ (X:Cx),X.prog=P->X.w=w->X.K=K->X.calm=true->∀ (i:Nat) (pins:List (Addr×Obj)) (s:Shared) (σ: St) (H:Hp) (E:Value->Shared->Prop),aW X pins σ H s->(∀ b∈fp,lW X pins H b)->tn i s.heap->J.go i H ->
  wpAny (model P w) X.A (pyNext (.ref it)) (fun r s1=>∃ u,r=some u /\
   wpAny (model P w) X.A (letOwnedTupleGo tg (.ref it) u) (fun _ s2=>∃ x H',aW X pins σ H' s2/\bL x u/\J.yld i H x H'/\tn (i+1) s2.heap/\∀ b∈fp,H' b=none) E s1) E s
 done:∀ (X:Cx),X.prog=P->X.w=w->X.K=K->X.calm=true->∀ (i:Nat) (pins:List (Addr×Obj)) (s:Shared) (σ: St) (H:Hp) (E:Value->Shared->Prop),aW X pins σ H s->(∀ b∈fp,lW X pins H b)->tn i s.heap->J.stop i H ->
  wpAny (model P w) X.A (pyNext (.ref it)) (fun r s1=>r=none/\aW X pins σ H s1) E s
 self:∀ (A:Around) (i:Nat) (s:Shared) (Q:Value->Shared->Prop) (E:Value->Shared->Prop),tn i s.heap->Q (.ref it) s->wpAny (model P w) A (pyIter (.ref it)) Q E s
abbrev TI:=St->Hp->(It->Hp->Prop)->Prop
def PIE (X:Cx) (pins:List (Addr×Obj)) (σ: St) (tg:Expr) (R:It->Hp->Prop) (itv:Value) (s2:Shared):Prop :=
 ∃ (it:Addr) (fp:List Addr) (tn:Nat->Heap->Prop) (J:It) (H':Hp),itv= .ref it/\aW X pins σ H' s2/\aB2 X.prog X.w X.K tg J fp it tn/\tn 0 s2.heap/\(∀ b∈fp,lW X pins H' b)/\R J H'
def PI (X:Cx) (tg iter:Expr) (wi:TI):Prop :=
 ∀ (pins:List (Addr×Obj)) (s:Shared) (σ: St) (H:Hp) (R:It->Hp->Prop),aW X pins σ H s->wi σ H R ->
  wpAny (model X.prog X.w) X.A (eval iter X.env) (fun v s1=>wpAny (model X.prog X.w) X.A (pyIter v) (PIE X pins σ tg R) X.xe s1) X.xe s
theorem go_of {M : Model}{A : Around}{E : Value -> Shared -> Prop}{s : Shared}{tg : Expr}{it : Addr}{u : Value}{o : Obj}{n : String}{vs : Array Value}{Q : Unit -> Shared -> Prop}(ho : s.heap.get? it = some o) (hc : o.cls = .type n) (hd : o.data = .fields vs)
    (hn : ["enumerate", "zip", "dict_itemiterator", "dict_reverseitemiterator", "odict_iterator", "itertools.zip_longest", "itertools.pairwise"].contains n = false) (hQ : Q () s) : wpAny M A (letOwnedTupleGo tg (.ref it) u) Q E s := by
  unfold letOwnedTupleGo
  cases tg <;> first
    | exact af hQ
    | (cases u <;> first
        | exact af hQ
        | (refine aa (wpAny_load ho ?_)
           rw [hc, hd]
           show wpAny M A (if (["enumerate", "zip", "dict_itemiterator", "dict_reverseitemiterator", "odict_iterator", "itertools.zip_longest", "itertools.pairwise"].contains n && vs[0]? == some (rawInt _)) = true then _ else _) Q E s
           rw [ak (by intro h; rw [hn, Bool.false_and] at h; cases h)]
           exact af hQ))
def Itl (K:PySem.W.Frag) (a:Addr):It :=
 ⟨fun i H=>∃ xs x,bC K H a xs/\xs[i]?=some x,fun i H x H'=>H'=H/\∀ xs,bC K H a xs->xs[i]?=some x,fun i H=>∃ xs,bC K H a xs/\xs.length<=i⟩
def Itt (K:PySem.W.Frag) (a:Addr):It :=
 ⟨fun i H=>∃ xs x,aO K H a xs/\xs[i]?=some x,fun i H x H'=>H'=H/\∀ xs,aO K H a xs->xs[i]?=some x,fun i H=>∃ xs,aO K H a xs/\xs.length<=i⟩
def Itr (lo:Int) (n:Nat):It:=⟨fun i _=>i < n,fun i H x H'=>H'=H/\x= .int (lo+i),fun i _=>n<=i⟩
theorem aM5 {P:Program}{w:World}{K:PySem.W.Frag}{tg:Expr}(a it:Addr):aB2 P w K tg (Itl K a) [it] it (fun i h=>h.IsListIter it a i) where
 mem:=by simp
 obj:=fun i h st b hb=>by
  have e:b=it:=by simpa using hb
  subst e
  obtain ⟨o,e,c,d⟩:=st
  exact ⟨o,e,fun v z=>by rw [d] at z;cases z⟩
 keep:=fun i h h' st k=>st.at fun o e=>k it (by simp) o e
 item:=by
  intro X hP hw hK hc i pins s σ H E I hf st hg
  subst hP hw hK
  obtain ⟨xs,x,hq,hx⟩:=hg
  obtain ⟨its,rv,p,hz⟩:=I.list hq
  obtain ⟨u,hu,ru⟩:=rv.get hx
  obtain ⟨f0,f1,f2,f3,f4,f5⟩:=hf it (by simp)
  refine wpAny_pyNext_list_item st p.isList (x:=u) (by simpa using hu) fun h' st' sb=>?_
  have I1:aW X pins σ H { s with heap:=h' }:=I.turned (t':=s.toks) (fun b o hb e=>(sb.2 b hb).trans e) f0 f1 f3 f4 f5
  obtain ⟨o,e,c,d⟩:=id st'
  exact ⟨u,rfl,go_of (s:={ s with heap:=h' }) e c d (by decide) ⟨x,H,I1,ru,⟨rfl,fun ys hy=>by rw [I.list_inj hy hq];exact hx⟩,st',fun b hb=>(hf b hb).1⟩⟩
 done:=by
  intro X hP hw hK hc i pins s σ H E I hf st hg
  subst hP hw hK
  obtain ⟨xs,hq,hx⟩:=hg
  obtain ⟨its,rv,p,hz⟩:=I.list hq
  obtain ⟨f0,f1,f2,f3,f4,f5⟩:=hf it (by simp)
  have hl:=rv.length
  exact wpAny_pyNext_list_end (I.ok.hd hc) st p.isList (by simp;(exact oqN)) fun h' eb=>⟨rfl,I.turned (t':=s.toks) (fun b o hb e=>eb b o hb e) f0 f1 f3 f4 f5⟩
 self:=fun _ _ _ _ _ st h=>wpAny_pyIter_listiter st h
theorem aE0 {P:Program}{w:World}{K:PySem.W.Frag}{tg:Expr}(a it:Addr):aB2 P w K tg (Itt K a) [it] it (fun i h=>h.IsTupleIter it a i) where
 mem:=by simp
 obj:=fun i h st b hb=>by
  have e:b=it:=by simpa using hb
  subst e
  obtain ⟨o,e,c,d⟩:=st
  exact ⟨o,e,fun v z=>by rw [d] at z;cases z⟩
 keep:=fun i h h' st k=>st.at fun o e=>k it (by simp) o e
 item:=by
  intro X hP hw hK hc i pins s σ H E I hf st hg
  subst hP hw hK
  obtain ⟨xs,x,hq,hx⟩:=hg
  obtain ⟨its,rv,p,hz⟩:=I.tuple hq
  obtain ⟨u,hu,ru⟩:=rv.get hx
  obtain ⟨f0,f1,f2,f3,f4,f5⟩:=hf it (by simp)
  refine wpAny_pyNext_tuple_item st (show s.heap.IsTuple a its.toArray from p) (x:=u) (by simpa using hu) fun h' st' sb=>?_
  have I1:aW X pins σ H { s with heap:=h' }:=I.turned (t':=s.toks) (fun b o hb e=>(sb.2 b hb).trans e) f0 f1 f3 f4 f5
  obtain ⟨o,e,c,d⟩:=id st'
  exact ⟨u,rfl,go_of (s:={ s with heap:=h' }) e c d (by decide) ⟨x,H,I1,ru,⟨rfl,fun ys hy=>by rw [I.tuple_inj hy hq];exact hx⟩,st',fun b hb=>(hf b hb).1⟩⟩
 done:=by
  intro X hP hw hK hc i pins s σ H E I hf st hg
  subst hP hw hK
  obtain ⟨xs,hq,hx⟩:=hg
  obtain ⟨its,rv,p,hz⟩:=I.tuple hq
  obtain ⟨f0,f1,f2,f3,f4,f5⟩:=hf it (by simp)
  have hl:=rv.length
  exact wpAny_pyNext_tuple_end (I.ok.hd hc) st (show s.heap.IsTuple a its.toArray from p) (by simp;(exact oqN)) fun h' eb=>⟨rfl,I.turned (t':=s.toks) (fun b o hb e=>eb b o hb e) f0 f1 f3 f4 f5⟩
 self:=fun _ _ _ _ _ st h=>wpAny_pyIter_tupleiter st h
theorem aB4 {P:Program}{w:World}{K:PySem.W.Frag}{tg:Expr}(it:Addr) (lo:Int) (n:Nat):aB2 P w K tg (Itr lo n) [it] it (fun i h=>IsRangeIter h it (lo+(i:Nat) * 1) ((n:Int) - (i:Nat)) 1) where
 mem:=by simp
 obj:=fun i h st b hb=>by
  have e:b=it:=by simpa using hb
  subst e
  exact ⟨_,st,fun v z=>by
   have z':Data.fields _=Data.cell v:=z
   cases z'⟩
 keep:=fun i h h' st k=>k it (by simp) _ st
 item:=by
  intro X hP hw hK hc i pins s σ H E I hf st hg
  subst hP hw hK
  obtain ⟨f0,f1,f2,f3,f4,f5⟩:=hf it (by simp)
  have W:=Walks.range (prog:=X.prog) (w:=X.w) (I.ok.hd hc) it lo 1 n
  refine W.item i s _ _ hg st fun v h' tk hv st' kk=>?_
  obtain ⟨t,rfl⟩:=hv
  have I1:aW X pins σ H { s with heap:=h',toks:=tk }:=I.turned (fun b o hb e=>kk b o (by simpa using hb) e) f0 f1 f3 f4 f5
  refine ⟨_,rfl,go_of (s:={ s with heap:=h',toks:=tk }) (n:="range_iterator") st' rfl rfl (by decide) ⟨.int (lo+i),H,I1,⟨t,?_⟩,⟨rfl,rfl⟩,st',fun b hb=>(hf b hb).1⟩⟩
  rw [pi]
 done:=by
  intro X hP hw hK hc i pins s σ H E I hf st hg
  subst hP hw hK
  obtain ⟨f0,f1,f2,f3,f4,f5⟩:=hf it (by simp)
  exact wpAny_pyNext_range_end (I.ok.hd hc) st (by have:n<=i:=hg;lia) fun h' eb=>⟨rfl,I.turned (t':=s.toks) (fun b o hb e=>eb b o hb e) f0 f1 f3 f4 f5⟩
 self:=fun _ _ _ _ _ st h=>wpAny_pyIter_rangeiter st h
section
variable {X:Cx}{tg:Expr}
def bL0 (K:PySem.W.Frag) (tl:TE):TI:=fun σ H R=>tl σ H fun x H1=>∃ a,x= .ref a/\(∃ xs,bC K H1 a xs)/\R (Itl K a) H1
def cK8 (K:PySem.W.Frag) (tl:TE):TI:=fun σ H R=>tl σ H fun x H1=>∃ a,x= .ref a/\(∃ xs,aO K H1 a xs)/\R (Itt K a) H1
theorem bX {l:Expr}{tl:TE}(hl:PE X l tl):PI X tg l (bL0 X.K tl):=by
 intro pins s σ H R I h
 refine cW (hl pins s σ H _ I h) ?_;rintro v s1 ⟨x,H1,I1,r1,q1⟩
 obtain ⟨a,e,⟨xs,hq⟩,q⟩:=q1
 subst e
 cases r1
 obtain ⟨its,rv,p,hz⟩:=I1.list hq
 refine lg p.isList ?_
 refine ⟨s1.heap.objs.size,[s1.heap.objs.size],_,_,H1,rfl,I1.kept (t':=s1.toks) fun b o e=>ae _ e,aM5 a _,⟨_,az _ rfl,rfl,rfl⟩,fun b hb=>?_,q⟩
 have e:b=s1.heap.objs.size:=by simpa using hb
 subst e
 exact I1.fpOk (aj _) (I1.hok.fresh (aj _))
theorem kL {l:Expr}{tl:TE}(hl:PE X l tl):PI X tg l (cK8 X.K tl):=by
 intro pins s σ H R I h
 refine cW (hl pins s σ H _ I h) ?_;rintro v s1 ⟨x,H1,I1,r1,q1⟩
 obtain ⟨a,e,⟨xs,hq⟩,q⟩:=q1
 subst e
 cases r1
 obtain ⟨its,rv,p,hz⟩:=I1.tuple hq
 refine qg (show s1.heap.IsTuple a its.toArray from p) ?_
 refine ⟨s1.heap.objs.size,[s1.heap.objs.size],_,_,H1,rfl,I1.kept (t':=s1.toks) fun b o e=>ae _ e,aE0 a _,⟨_,az _ rfl,rfl,rfl⟩,fun b hb=>?_,q⟩
 have e:b=s1.heap.objs.size:=by simpa using hb
 subst e
 exact I1.fpOk (aj _) (I1.hok.fresh (aj _))
theorem aT4 {pins:List (Addr×Obj)}{σ: St}{H:Hp}{s:Shared}{R:It->Hp->Prop}{E:Value->Shared->Prop}{lo hi:Int}{t u v:Tok}{tk:Nat}(I:aW X pins σ H s) (h1: -(2 ^ 62)<=lo) (h2:lo < 2 ^ 62) (h3: -(2 ^ 62)<=hi) (h4:hi < 2 ^ 62)
  (q:R (Itr lo (hi - lo).toNat) H):wpAny (model X.prog X.w) X.A (pyIter (.ref s.heap.objs.size)) (PIE X pins σ tg R) E { s with heap:=s.heap.push { cls:= .type "range",data:= .fields #[.int lo t,.int hi u,.int 1 v] },toks:=tk }:=by
 refine wpAny_pyIter_range (IsRange.new ..) (small_one h1 h2 h3 h4) ?_
 have I1:aW X pins σ H { s with heap:=s.heap.push { cls:= .type "range",data:= .fields #[.int lo t,.int hi u,.int 1 v] },toks:=tk }:=I.kept fun b o e=>ae _ e
 refine ⟨(s.heap.push { cls:= .type "range",data:= .fields #[.int lo t,.int hi u,.int 1 v] }).objs.size,[(s.heap.push { cls:= .type "range",data:= .fields #[.int lo t,.int hi u,.int 1 v] }).objs.size],_,_,H,rfl,
  I1.kept (t':=tk) fun b o e=>ae _ e,aB4 _ lo (hi - lo).toNat,?_,fun b hb=>?_,q⟩
 ·have e1:lo+((0:Nat):Int) * 1=lo:=by simp
  have e2:(((hi - lo).toNat:Nat):Int) - ((0:Nat):Int)=Builtin.Range.rangeSize lo hi 1:=by rw [rangeSize_one];split <;> lia
  show IsRangeIter _ _ (lo+((0:Nat):Int) * 1) ((((hi - lo).toNat:Nat):Int) - ((0:Nat):Int)) 1
  rw [e1,e2]
  exact az _ rfl
 ·have e:b=(s.heap.push { cls:= .type "range",data:= .fields #[.int lo t,.int hi u,.int 1 v] }).objs.size:=by simpa using hb
  subst e
  exact I1.fpOk (aj _) (I1.hok.fresh (aj _))
def cJ2 (ta:TA):TI:=fun σ H R=>ta σ H fun vs H1=>∃ j:Int,vs=[.int j]/\ -(2 ^ 62)<=j/\j < 2 ^ 62/\R (Itr 0 j.toNat) H1
theorem dN {a:Expr}{ta:TA}{p pos:Pos}(hg:Gl X "range") (hm:X.mg "range"=none) (ha:PA X [a] ta) (hs:starEach [a] X.env=[(false,eval a X.env)]:=by rfl):PI X tg (.Call (.Name "range" p) [a] [] pos) (cJ2 ta):=by
 intro pins s σ H R I h
 refine Call_ (iT I hg hm boot_range (fh (cW (ha pos pins s σ H _ I h) ?_) hs rfl));rintro us s1 ⟨vs,H1,I1,r1,q1⟩
 obtain ⟨j,e,q1,q2,q⟩:=q1
 subst e
 cases r1 with
 | cons r rr =>
  cases rr
  obtain ⟨t,rfl⟩:=r
  exact call_range_1 (aT4 I1 (by lia) (by lia) q1 q2 (by simpa using q))
def cH9 (wi:TI) (g:TG) (tb:TS):TS:=fun D σ H=>wi σ H fun J H1=>∃ W:Nat->Nat->St->Hp->Prop,(∃ m,W 0 m σ H1)/\∀ i m σ H,W i m σ H ->
 (J.stop i H/\D.nx σ H)\/(J.go i H/\∃ N:St->Hp->Prop,(∀ σ' H',N σ' H'->∃ m',m' < m/\W (i+1) m' σ' H')/\∀ x H',J.yld i H x H'->g x σ H' fun σ2 H2=>tb { D with nx:=N,ct:=N,bk:=D.nx } σ2 H2)
def iK (fp:List Addr) (h:Heap):List (Addr×Obj):=fp.filterMap fun b=>(h.get? b).map fun o=>(b,o)
theorem iF {fp:List Addr}{h:Heap}{b:Addr}{o:Obj}(hb:b∈fp) (e:h.get? b=some o):(b,o)∈iK fp h:=uj.mpr ⟨b,hb,by rw [e];rfl⟩
theorem vK {fp:List Addr}{h:Heap}{p:Addr×Obj}(hp:p∈iK fp h):p.1∈fp/\h.get? p.1=some p.2:=by
 obtain ⟨b,hb,e⟩:=uj.mp hp
 cases q:h.get? b with
 | none=>rw [q] at e;cases e
 | some o =>
  rw [q] at e
  have e':(b,o)=p:=dz e
  subst e'
  exact ⟨hb,q⟩
theorem aW.pinned {pins:List (Addr×Obj)}{σ: St}{H:Hp}{s:Shared}{fp:List Addr}(I:aW X pins σ H s) (hf:∀ b∈fp,lW X pins H b) (ho:∀ b∈fp,∃ o,s.heap.get? b=some o/\∀ v,o.data≠ .cell v):aW X (pins++iK fp s.heap) σ H s :=
 I.pins_of fun p hp=>(cg.mp hp).elim (fun z=>I.pin p (bw _ z)) fun z=>by
  obtain ⟨hb,e⟩:=vK z
  obtain ⟨f0,f1,f2,_⟩:=hf p.1 hb
  obtain ⟨o,e',d⟩:=ho p.1 hb
  rw [e] at e';cases e'
  exact ⟨e,f0,f1,f2,d⟩
theorem aW.unpinned {pins pl:List (Addr×Obj)}{σ: St}{H:Hp}{s:Shared}(I:aW X (pins++pl) σ H s):aW X pins σ H s:=I.pins_of fun p hp=>I.pin p (bw _ (cx _ hp))
theorem bA6 {iter:Expr}{body:List Stmt}{wi:TI}{g:TG}{tb:TS}{pos:Pos}(hp:PassesOwn (model X.prog X.w) X.A X.env X.xe) (hc:X.calm=true) (hi:PI X tg iter wi) (hg:PG X tg g) (hb:xG X body tb)
  (hs:∀ x,foldedSetIterable iter X.env x=pure x:=by intro _;rfl):PS X (.For tg iter body [] pos) (cH9 wi g tb):=by
 intro pins s σ H D I h
 refine wpAny_For (cW (hi pins s σ H _ I h) fun v s1 h1=>cW h1 fun itv s2 h2=>?_) hs
 obtain ⟨it,fp,tn,J,H2,e,I2,T,st2,f2,W,⟨m0,w0⟩,turn⟩:=h2
 subst e
 have stat:∀ {H':Hp},(∀ b∈fp,H' b=none)->∀ b∈fp,lW X pins H' b:=fun hn b hb=>⟨hn b hb,(f2 b hb).2⟩
 refine codeAny_forLoop_any (fun n s'=>∃ i σ' H',aW X pins σ' H' s'/\tn i s'.heap/\(∀ b∈fp,H' b=none)/\W i n σ' H') ?_ m0 ⟨0,σ,H2,I2,st2,fun b hb=>(f2 b hb).1,w0⟩
 rintro n s3 ⟨i,σ3,H3,I3,st3,fr3,w3⟩
 rcases turn i n σ3 H3 w3 with ⟨stop,qn⟩ | ⟨go,N,hN,step⟩
 ·refine ke hp (cW (T.done X rfl rfl rfl hc i pins s3 σ3 H3 X.xe I3 (stat fr3) st3 stop) ?_);rintro r s4 ⟨hr,I4⟩
  subst hr
  exact rh ⟨σ3,H3,I4,qn⟩
 ·refine ke hp (cW (T.item X rfl rfl rfl hc i pins s3 σ3 H3 X.xe I3 (stat fr3) st3 go) ?_);rintro r s4 ⟨u,hr,h4⟩
  subst hr
  refine ke hp (cW h4 ?_);rintro _ s5 ⟨x,H5,I5,r5,y5,st5,fr5⟩
  have I5':=I5.pinned (stat fr5) (T.obj _ _ st5)
  refine ke hp (cW (hg _ s5 σ3 H5 x u _ I5' r5 (step x H5 y5)) ?_);rintro _ s6 ⟨σ6,H6,I6,q6⟩
  refine ke hp (cW (hb _ s6 σ6 H6 _ I6 q6) fun f s7 q7=>?_)
  have again:∀ {σ7:St}{H7:Hp},aW X (pins++iK fp s5.heap) σ7 H7 s7->N σ7 H7->∃ m,m < n/\∃ i σ' H',aW X pins σ' H' s7/\tn i s7.heap/\(∀ b∈fp,H' b=none)/\W i m σ' H':=fun {σ7 H7} I7 n7=>by
   obtain ⟨m',hm,w7⟩:=hN σ7 H7 n7
   refine ⟨m',hm,i+1,σ7,H7,I7.unpinned,T.keep _ _ _ st5 fun b hb o e=>(I7.pin (b,o) (bw _ (bw _ (iF hb e)))).1,fun b hb=>?_,w7⟩
   obtain ⟨o,e,d⟩:=T.obj _ _ st5 b hb
   exact (I7.pin (b,o) (bw _ (bw _ (iF hb e)))).2.1
  cases f with
  | next=>obtain ⟨σ7,H7,I7,n7⟩:=q7;exact again I7 n7
  | cont=>obtain ⟨σ7,H7,I7,n7⟩:=q7;exact again I7 n7
  | brk=>obtain ⟨σ7,H7,I7,q7⟩:=q7;exact ⟨σ7,H7,I7.unpinned,q7⟩
  | ret v=>obtain ⟨x7,σ7,H7,I7,r7,q7⟩:=q7;exact ⟨x7,σ7,H7,I7.unpinned,r7,q7⟩
end
theorem zM {K:PySem.W.Frag}{a:Addr}{xs:List V}{g:TG}{tb:TS}{D:kF}{σ: St}{H:Hp}(Pv:Nat->St->Hp->Prop) (h0:Pv 0 σ H) (hl:∀ i σ H,i<=xs.length->Pv i σ H->bC K H a xs)
  (hs:∀ i x σ H,xs[i]?=some x->Pv i σ H->g x σ H fun σ2 H2=>tb { D with nx:=Pv (i+1),ct:=Pv (i+1),bk:=D.nx } σ2 H2) (hd:∀ σ H,Pv xs.length σ H->D.nx σ H) :
  ∃ W:Nat->Nat->St->Hp->Prop,(∃ m,W 0 m σ H)/\∀ i m σ H,W i m σ H ->
   ((Itl K a).stop i H/\D.nx σ H)\/((Itl K a).go i H/\∃ N:St->Hp->Prop,(∀ σ' H',N σ' H'->∃ m',m' < m/\W (i+1) m' σ' H')/\∀ x H',(Itl K a).yld i H x H'->g x σ H' fun σ2 H2=>tb { D with nx:=N,ct:=N,bk:=D.nx } σ2 H2):=by
 refine ⟨fun i m σ H=>m=xs.length - i/\i<=xs.length/\Pv i σ H,⟨xs.length,by simp,bj _,h0⟩,?_⟩
 rintro i m σ H ⟨rfl,hi,p⟩
 have q:=hl i σ H hi p
 by_cases hlt:i < xs.length
 ·refine .inr ⟨⟨xs,xs[i],q,by simp [hlt]⟩,Pv (i+1),fun σ' H' p'=>⟨xs.length - (i+1),ij hlt (ef i),rfl,hlt,p'⟩,fun x H' y=>?_⟩
  obtain ⟨e,y⟩:=y
  subst e
  exact hs i x σ _ (y xs q) p
 ·have e:i=xs.length:=by lia
  subst e
  exact .inl ⟨⟨xs,q,aj _⟩,hd σ H p⟩
theorem wG {K:PySem.W.Frag}{a:Addr}{xs:List V}{g:TG}{tb:TS}{D:kF}{σ: St}{H:Hp}(Pv:Nat->St->Hp->Prop) (h0:Pv 0 σ H) (hl:∀ i σ H,i<=xs.length->Pv i σ H->aO K H a xs)
  (hs:∀ i x σ H,xs[i]?=some x->Pv i σ H->g x σ H fun σ2 H2=>tb { D with nx:=Pv (i+1),ct:=Pv (i+1),bk:=D.nx } σ2 H2) (hd:∀ σ H,Pv xs.length σ H->D.nx σ H) :
  ∃ W:Nat->Nat->St->Hp->Prop,(∃ m,W 0 m σ H)/\∀ i m σ H,W i m σ H ->
   ((Itt K a).stop i H/\D.nx σ H)\/((Itt K a).go i H/\∃ N:St->Hp->Prop,(∀ σ' H',N σ' H'->∃ m',m' < m/\W (i+1) m' σ' H')/\∀ x H',(Itt K a).yld i H x H'->g x σ H' fun σ2 H2=>tb { D with nx:=N,ct:=N,bk:=D.nx } σ2 H2):=by
 refine ⟨fun i m σ H=>m=xs.length - i/\i<=xs.length/\Pv i σ H,⟨xs.length,by simp,bj _,h0⟩,?_⟩
 rintro i m σ H ⟨rfl,hi,p⟩
 have q:=hl i σ H hi p
 by_cases hlt:i < xs.length
 ·refine .inr ⟨⟨xs,xs[i],q,by simp [hlt]⟩,Pv (i+1),fun σ' H' p'=>⟨xs.length - (i+1),ij hlt (ef i),rfl,hlt,p'⟩,fun x H' y=>?_⟩
  obtain ⟨e,y⟩:=y
  subst e
  exact hs i x σ _ (y xs q) p
 ·have e:i=xs.length:=by lia
  subst e
  exact .inl ⟨⟨xs,q,aj _⟩,hd σ H p⟩
theorem jJ {lo:Int}{n:Nat}{g:TG}{tb:TS}{D:kF}{σ: St}{H:Hp}(Pv:Nat->St->Hp->Prop) (h0:Pv 0 σ H)
  (hs:∀ i σ H,i < n->Pv i σ H->g (.int (lo+i)) σ H fun σ2 H2=>tb { D with nx:=Pv (i+1),ct:=Pv (i+1),bk:=D.nx } σ2 H2) (hd:∀ σ H,Pv n σ H->D.nx σ H) :
  ∃ W:Nat->Nat->St->Hp->Prop,(∃ m,W 0 m σ H)/\∀ i m σ H,W i m σ H ->
   ((Itr lo n).stop i H/\D.nx σ H)\/((Itr lo n).go i H/\∃ N:St->Hp->Prop,(∀ σ' H',N σ' H'->∃ m',m' < m/\W (i+1) m' σ' H')/\∀ x H',(Itr lo n).yld i H x H'->g x σ H' fun σ2 H2=>tb { D with nx:=N,ct:=N,bk:=D.nx } σ2 H2):=by
 refine ⟨fun i m σ H=>m=n - i/\i<=n/\Pv i σ H,⟨n,by simp,bj _,h0⟩,?_⟩
 rintro i m σ H ⟨rfl,hi,p⟩
 by_cases hlt:i < n
 ·refine .inr ⟨hlt,Pv (i+1),fun σ' H' p'=>⟨n - (i+1),ij hlt (ef i),rfl,hlt,p'⟩,fun x H' y=>?_⟩
  obtain ⟨e,y⟩:=y
  subst e y
  exact hs i σ _ hlt p
 ·have e:i=n:=by lia
  subst e
  exact .inl ⟨aj _,hd σ H p⟩
abbrev R2:=V->V->Hp->VK->Prop
def jU (X:Cx) (f:Value->Value->Sem Value) (r:R2):Prop :=
 ∀ (pins:List (Addr×Obj)) (s:Shared) (σ: St) (H:Hp) (x y:V) (v u:Value) (Q:VK),aW X pins σ H s->bL x v->bL y u->r x y H Q ->
  wpAny (model X.prog X.w) X.A (f v u) (EP X pins σ Q) X.xe s
def UnR (X:Cx) (f:Value->Sem Value) (r:V->Hp->VK->Prop):Prop :=
 ∀ (pins:List (Addr×Obj)) (s:Shared) (σ: St) (H:Hp) (x:V) (v:Value) (Q:VK),aW X pins σ H s->bL x v->r x H Q ->
  wpAny (model X.prog X.w) X.A (f v) (EP X pins σ Q) X.xe s
def gM (X:Cx) (f:Value) (r:List V->Hp->VK->Prop):Prop :=
 ∀ (pins:List (Addr×Obj)) (s:Shared) (σ: St) (H:Hp) (xs:List V) (us:List Value) (Q:VK),aW X pins σ H s->bF xs us->r xs H Q ->
  wpAny (model X.prog X.w) X.A (call f us) (EP X pins σ Q) X.xe s
def cM3 (X:Cx) (r:V->Hp->(Bool->Hp->Prop)->Prop):Prop :=
 ∀ (pins:List (Addr×Obj)) (s:Shared) (σ: St) (H:Hp) (x:V) (v:Value) (Q:Bool->Hp->Prop),aW X pins σ H s->bL x v->r x H Q ->
  wpAny (model X.prog X.w) X.A (truthy v) (TP X pins σ Q) X.xe s
def tOp (r:R2) (ta tb:TE):TE:=fun σ H Q=>ta σ H fun x H1=>tb σ H1 fun y H2=>r x y H2 Q
def tUn (r:V->Hp->VK->Prop) (ta:TE):TE:=fun σ H Q=>ta σ H fun x H1=>r x H1 Q
def rI (C:Int->Int->Prop) (g:Int->Int->V):R2:=fun x y H Q=>∃ i j,x= .int i/\y= .int j/\C i j/\Q (g i j) H
def rI0 (g:Int->Int->V):R2:=fun x y H Q=>∃ i j,x= .int i/\y= .int j/\Q (g i j) H
def rU (g:Int->V):V->Hp->VK->Prop:=fun x H Q=>∃ i,x= .int i/\Q (g i) H
section
variable {X:Cx}{a b c:Expr}{ta tb tc:TE}{pos:Pos}
theorem bU6 (ha:PE X a ta) (hb:PE X b tb) {pins:List (Addr×Obj)}{s:Shared}{σ: St}{H:Hp}{R:V->V->Hp->Prop}(I:aW X pins σ H s)
  (h:ta σ H fun x H1=>tb σ H1 fun y H2=>R x y H2) {Q:Value->Shared->Prop}{f:Value->Value->Sem Value}
  (hf:∀ v u s2 x y H2,aW X pins σ H2 s2->bL x v->bL y u->R x y H2->wpAny (model X.prog X.w) X.A (f v u) Q X.xe s2) :
  wpAny (model X.prog X.w) X.A (eval a X.env) (fun v s₁=>wpAny (model X.prog X.w) X.A (eval b X.env) (fun u s₂=>wpAny (model X.prog X.w) X.A (f v u) Q X.xe s₂) X.xe s₁) X.xe s:=by
 refine cW (ha pins s σ H _ I h) ?_;rintro v s1 ⟨x,H1,I1,r1,q1⟩
 refine cW (hb pins s1 σ H1 _ I1 q1) ?_;rintro u s2 ⟨y,H2,I2,r2,q2⟩
 exact hf v u s2 x y H2 I2 r1 r2 q2
theorem aK {op:Operator}{r:R2}(ho:jU X (binaryOp op) r) (ha:PE X a ta) (hb:PE X b tb):PE X (.BinOp a op b pos) (tOp r ta tb):=by
 intro pins s σ H Q I h
 exact wpAny_BinOp (bU6 ha hb I h fun v u s2 x y H2 I2 rx ry q=>ho pins s2 σ H2 x y v u Q I2 rx ry q)
theorem nB {op:UnaryOp}{r:V->Hp->VK->Prop}(ho:UnR X (unaryOp op) r) (ha:PE X a ta):PE X (.UnaryOp op a pos) (tUn r ta):=by
 intro pins s σ H Q I h
 refine UnaryOp_ (cW (ha pins s σ H _ I h) ?_);rintro v s1 ⟨x,H1,I1,r1,q1⟩;exact ho pins s1 σ H1 x v Q I1 r1 q1
theorem opI {f:Value->Value->Sem Value}{C:Int->Int->Prop}{g:Int->Int->Int}
  (rule:∀ (i j:Int) (t u:Tok) (s:Shared) (Q:Value->Shared->Prop) (E:Value->Shared->Prop),C i j->Q (.int (g i j) s.toks) { s with toks:=s.toks+1 }->wpAny (model X.prog X.w) X.A (f (.int i t) (.int j u)) Q E s) :
  jU X f (rI C fun i j=> .int (g i j)):=by
 intro pins s σ H x y v u Q I rx ry h
 obtain ⟨i,j,rfl,rfl,hc,q⟩:=h
 obtain ⟨t,rfl⟩:=rx
 obtain ⟨t',rfl⟩:=ry
 exact rule i j t t' s _ _ hc ⟨.int (g i j),H,I.tok _,⟨_,rfl⟩,q⟩
theorem cK1 {f:Value->Value->Sem Value}{g:Int->Int->Int}
  (rule:∀ (i j:Int) (t u:Tok) (s:Shared) (Q:Value->Shared->Prop) (E:Value->Shared->Prop),Q (.int (g i j) s.toks) { s with toks:=s.toks+1 }->wpAny (model X.prog X.w) X.A (f (.int i t) (.int j u)) Q E s) :
  jU X f (rI0 fun i j=> .int (g i j)):=by
 intro pins s σ H x y v u Q I rx ry h
 obtain ⟨i,j,rfl,rfl,q⟩:=h
 obtain ⟨t,rfl⟩:=rx
 obtain ⟨t',rfl⟩:=ry
 exact rule i j t t' s _ _ ⟨.int (g i j),H,I.tok _,⟨_,rfl⟩,q⟩
theorem bC9 {f:Value->Value->Sem Value}{g:Int->Int->Bool}
  (rule:∀ (i j:Int) (t u:Tok) (s:Shared) (Q:Value->Shared->Prop) (E:Value->Shared->Prop),Q (.bool (g i j)) s->wpAny (model X.prog X.w) X.A (f (.int i t) (.int j u)) Q E s) :
  jU X f (rI0 fun i j=> .bl (g i j)):=by
 intro pins s σ H x y v u Q I rx ry h
 obtain ⟨i,j,rfl,rfl,q⟩:=h
 obtain ⟨t,rfl⟩:=rx
 obtain ⟨t',rfl⟩:=ry
 exact rule i j t t' s _ _ ⟨.bl (g i j),H,I,rfl,q⟩
def cK9 (i j:Int):Prop:=0<=j/\j<=1000000/\i.natAbs < 2 ^ 64
def bE9 (i j:Int):Prop:=(-(2 ^ 64) < i/\i < 2 ^ 64)\/(-(2 ^ 64) < j/\j < 2 ^ 64)
theorem bE9.ok {i j:Int}(h:bE9 i j):IntMulOk i j:=by
 rcases h with ⟨h1,h2⟩ | ⟨h1,h2⟩
 ·exact .of_left (intBits_le_64 h1 h2)
 ·exact .of_right (intBits_le_64 h1 h2)
theorem cB:jU X (binaryOp .Add) (rI0 fun i j=> .int (i+j)):=cK1 fun _ _ _ _ _ _ _ q=>add_int q
theorem cV:jU X (binaryOp .Sub) (rI0 fun i j=> .int (i - j)):=cK1 fun _ _ _ _ _ _ _ q=>sub_int q
theorem gP:jU X (binaryOp .Mult) (rI bE9 fun i j=> .int (i * j)):=opI fun _ _ _ _ _ _ _ hc q=>mul_int q hc.ok
theorem fR:jU X (binaryOp .Mod) (rI (fun _ j=>0 < j) fun i j=> .int (i % j)):=opI fun i j _ _ _ _ _ hc q=>by
 have h1:(0:Int) < j:=hc
 exact mod_int' (by (exact oqt)) (by rw [Int.fmod_eq_emod_of_nonneg i (by (exact iq ‹_›))];exact q)
theorem bV7:jU X (binaryOp .Pow) (rI cK9 fun i j=> .int (i ^ j.toNat)):=opI fun _ _ _ _ _ _ _ hc q=>pow_int_small hc.1 hc.2.1 hc.2.2 q
theorem unI {f:Value->Sem Value}{g:Int->Int}
  (rule:∀ (i:Int) (t:Tok) (s:Shared) (Q:Value->Shared->Prop) (E:Value->Shared->Prop),Q (.int (g i) s.toks) { s with toks:=s.toks+1 }->wpAny (model X.prog X.w) X.A (f (.int i t)) Q E s) :
  UnR X f (rU fun i=> .int (g i)):=by
 intro pins s σ H x v Q I rx h
 obtain ⟨i,rfl,q⟩:=h
 obtain ⟨t,rfl⟩:=rx
 exact rule i t s _ _ ⟨.int (g i),H,I.tok _,⟨_,rfl⟩,q⟩
theorem jY:UnR X (unaryOp .USub) (rU fun i=> .int (-i)):=unI fun _ _ _ _ _ q=>neg_int q
end
def bZ6:V->V->Bool
 | .non,.non=>true | .non,.int _=>true | .int _,.non=>true | .non,.bl _=>true | .bl _,.non=>true | .non,.str _=>true | .str _,.non=>true
 | .int _,.int _=>true | .bl _,.bl _=>true | .str _,.str _=>true | .byt _,.byt _=>true
 | .int _,.str _=>true | .str _,.int _=>true | .bl _,.str _=>true | .str _,.bl _=>true
 | _,_=>false
def rEq:R2:=fun x y H Q=>bZ6 x y=true/\Q (.bl (decide (x=y))) H
def rNe:R2:=fun x y H Q=>bZ6 x y=true/\Q (.bl (!decide (x=y))) H
theorem aG3 {i j:Int}:decide (V.int i=V.int j)=(i == j):=by
 rw [nq]
 simp
theorem bC1 {i j:Bool}:decide (V.bl i=V.bl j)=(i == j):=by
 rw [nq]
 simp
theorem aG9 {i j:Str}:decide (V.str i=V.str j)=(i == j):=by
 rw [nq]
 simp
theorem aL5 {i j:Array UInt8}:decide (V.byt i=V.byt j)=(i.toList == j.toList):=by
 rw [nq]
 cases i
 cases j
 simp
section
variable {X:Cx}{a b c:Expr}{ta tb tc:TE}{pos:Pos}
theorem bZ {pins:List (Addr×Obj)}{σ: St}{H:Hp}{s:Shared}{Q:VK}{k k':Bool}(I:aW X pins σ H s) (q:Q (.bl k) H) (e:k=k'):EP X pins σ Q (.bool k') s:=by
 subst e
 exact ⟨.bl k,H,I,rfl,q⟩
theorem cH:jU X (compareOp .Eq) rEq:=by
 intro pins s σ H x y v u Q I rx ry h
 obtain ⟨hs,q⟩:=h
 cases x with
 | non =>
  cases rx
  cases y with
  | non=>cases ry;exact PySem.EqNone.eq_none_none (bZ I q (by simp))
  | bl j=>cases ry;exact PySem.EqNone.eq_none_bool (bZ I q (by simp))
  | int j=>obtain ⟨t',rfl⟩:=ry;exact PySem.EqNone.eq_none_int (bZ I q (by simp))
  | str j=>obtain ⟨t',rfl⟩:=ry;exact PySem.EqNone.eq_none_str (bZ I q (by simp))
  | _=>exact absurd (show false=true from hs) bx
 | bl i =>
  cases rx
  cases y with
  | non=>cases ry;exact PySem.EqNone.eq_bool_none (bZ I q (by simp))
  | bl j=>cases ry;exact eq_bool (bZ I q bC1)
  | str j=>obtain ⟨t',rfl⟩:=ry;exact PySem.EqMixed.eq_bool_str (bZ I q (by simp))
  | _=>exact absurd (show false=true from hs) bx
 | int i =>
  obtain ⟨t,rfl⟩:=rx
  cases y with
  | non=>cases ry;exact PySem.EqNone.eq_int_none (bZ I q (by simp))
  | int j=>obtain ⟨t',rfl⟩:=ry;exact eq_int (bZ I q aG3)
  | str j=>obtain ⟨t',rfl⟩:=ry;exact PySem.EqMixed.eq_int_str (bZ I q (by simp))
  | _=>exact absurd (show false=true from hs) bx
 | str i =>
  obtain ⟨t,rfl⟩:=rx
  cases y with
  | non=>cases ry;exact PySem.EqNone.eq_str_none (bZ I q (by simp))
  | bl j=>cases ry;exact PySem.EqMixed.eq_str_bool (bZ I q (by simp))
  | int j=>obtain ⟨t',rfl⟩:=ry;exact PySem.EqMixed.eq_str_int (bZ I q (by simp))
  | str j=>obtain ⟨t',rfl⟩:=ry;exact eq_str (bZ I q aG9)
  | _=>exact absurd (show false=true from hs) bx
 | byt i =>
  obtain ⟨t,rfl⟩:=rx
  cases y with
  | byt j=>obtain ⟨t',rfl⟩:=ry;exact PySem.W.eq_bytes (bZ I q aL5)
  | _=>exact absurd (show false=true from hs) bx
 | _=>cases y <;> exact absurd (show false=true from hs) bx
theorem qK:jU X (compareOp .NotEq) rNe:=by
 intro pins s σ H x y v u Q I rx ry h
 obtain ⟨hs,q⟩:=h
 cases x with
 | non =>
  cases rx
  cases y with
  | non=>cases ry;exact PySem.EqNone.ne_none_none (bZ I q (by simp))
  | bl j=>cases ry;exact PySem.EqNone.ne_none_bool (bZ I q (by simp))
  | int j=>obtain ⟨t',rfl⟩:=ry;exact PySem.EqNone.ne_none_int (bZ I q (by simp))
  | str j=>obtain ⟨t',rfl⟩:=ry;exact PySem.EqNone.ne_none_str (bZ I q (by simp))
  | _=>exact absurd (show false=true from hs) bx
 | bl i =>
  cases rx
  cases y with
  | non=>cases ry;exact PySem.EqNone.ne_bool_none (bZ I q (by simp))
  | bl j=>cases ry;exact ne_bool (bZ I q (fc not bC1))
  | str j=>obtain ⟨t',rfl⟩:=ry;exact PySem.EqMixed.ne_bool_str (bZ I q (by simp))
  | _=>exact absurd (show false=true from hs) bx
 | int i =>
  obtain ⟨t,rfl⟩:=rx
  cases y with
  | non=>cases ry;exact PySem.EqNone.ne_int_none (bZ I q (by simp))
  | int j=>obtain ⟨t',rfl⟩:=ry;exact ne_int (bZ I q (fc not aG3))
  | str j=>obtain ⟨t',rfl⟩:=ry;exact PySem.EqMixed.ne_int_str (bZ I q (by simp))
  | _=>exact absurd (show false=true from hs) bx
 | str i =>
  obtain ⟨t,rfl⟩:=rx
  cases y with
  | non=>cases ry;exact PySem.EqNone.ne_str_none (bZ I q (by simp))
  | bl j=>cases ry;exact PySem.EqMixed.ne_str_bool (bZ I q (by simp))
  | int j=>obtain ⟨t',rfl⟩:=ry;exact PySem.EqMixed.ne_str_int (bZ I q (by simp))
  | str j=>obtain ⟨t',rfl⟩:=ry;exact ne_str (bZ I q (fc not aG9))
  | _=>exact absurd (show false=true from hs) bx
 | byt i =>
  obtain ⟨t,rfl⟩:=rx
  cases y with
  | byt j=>obtain ⟨t',rfl⟩:=ry;exact PySem.W.ne_bytes (bZ I q (fc not aL5))
  | _=>exact absurd (show false=true from hs) bx
 | _=>cases y <;> exact absurd (show false=true from hs) bx
theorem nK:jU X (compareOp .Lt) (rI0 fun i j=> .bl (decide (i < j))):=bC9 fun _ _ _ _ _ _ _ q=>lt_int q
theorem bJ7:jU X (compareOp .LtE) (rI0 fun i j=> .bl (decide (i<=j))):=bC9 fun _ _ _ _ _ _ _ q=>le_int q
theorem kM:jU X (compareOp .Gt) (rI0 fun i j=> .bl (decide (j < i))):=bC9 fun _ _ _ _ _ _ _ q=>gt_int q
theorem yN:jU X (compareOp .GtE) (rI0 fun i j=> .bl (decide (j<=i))):=bC9 fun _ _ _ _ _ _ _ q=>ge_int q
theorem oG (b:Expr) {op:CmpOp}(h:op≠ .In:=by decide) (h2:op≠ .NotIn:=by decide):behindInMarks op b=false:=by
 have e1:(op == CmpOp.In)=false:=by cases op <;> first | rfl | exact absurd rfl h
 have e2:(op == CmpOp.NotIn)=false:=by cases op <;> first | rfl | exact absurd rfl h2
 cases b <;> simp [behindInMarks,e1,e2]
theorem bE5 {op:CmpOp}{r:R2}(ho:jU X (compareOp op) r) (ha:PE X a ta) (hb:PE X b tb) (hm:behindInMarks op b=false):PE X (.Compare a [op] [b] pos) (tOp r ta tb):=by
 intro pins s σ H Q I h
 exact wpAny_Compare1 (bU6 ha hb I h fun v u s2 x y H2 I2 rx ry q=>ho pins s2 σ H2 x y v u Q I2 rx ry q) hm
def xL (t:TE):TT:=fun σ H Q=>t σ H fun x H'=>∃ k,x= .bl k/\Q k H'
theorem nP {op:CmpOp}{r:R2}(ho:jU X (compareOp op) r) (ha:PE X a ta) (hb:PE X b tb) (hm:behindInMarks op b=false):PT X (.Compare a [op] [b] pos) (xL (tOp r ta tb)):=by
 intro pins s σ H Q I h
 refine xh (cW (ha pins s σ H _ I h) fun v s1 ⟨x,H1,I1,r1,q1⟩=>cW (hb pins s1 σ H1 _ I1 q1) fun u s2 ⟨y,H2,I2,r2,q2⟩ =>
  cW (ho pins s2 σ H2 x y v u _ I2 r1 r2 q2) fun c s3 ⟨z,H3,I3,r3,k,e,q3⟩=>?_) hm
 subst e
 cases r3
 exact gx ⟨H3,I3,q3⟩
def bR8 (r r':R2) (ta tb tc:TE):TE:=fun σ H Q=>ta σ H fun x H1=>tb σ H1 fun y H2=>r x y H2 fun z H3=>∃ k,z= .bl k /\
 (if k=true then tc σ H3 fun w' H4=>r' y w' H4 Q else Q (.bl false) H3)
theorem yW {op op':CmpOp}{r r':R2}(ho:jU X (compareOp op) r) (ho':jU X (compareOp op') r') (ha:PE X a ta) (hb:PE X b tb) (hc:PE X c tc)
  (hm:lastMarks [op,op'] [b,c]=false:=by with_unfolding_all rfl):PT X (.Compare a [op,op'] [b,c] pos) (xL (bR8 r r' ta tb tc)):=by
 intro pins s σ H Q I h
 refine isTrue_chain (cW (ha pins s σ H _ I h) fun v s1 ⟨x,H1,I1,r1,q1⟩=>test_link (cW (hb pins s1 σ H1 _ I1 q1) fun u s2 ⟨y,H2,I2,r2,q2⟩ =>
  cW (ho pins s2 σ H2 x y v u _ I2 r1 r2 q2) fun d s3 ⟨z,H3,I3,r3,k,e,q3⟩=>?_)) hm
 subst e
 cases r3
 refine gx ?_
 cases k with
 | false =>
  obtain ⟨k',e',q'⟩:=q3
  cases e'
  exact ite_ff ⟨H3,I3,q'⟩
 | true =>
  refine ite_tt (test_last (cW (hc pins s3 σ H3 _ I3 q3) ?_));rintro w' s4 ⟨z',H4,I4,r4,q4⟩;refine cW (ho' pins s4 σ H4 y z' u w' _ I4 r2 r4 q4) ?_;rintro d' s5 ⟨z2,H5,I5,r5,k2,e2,q5⟩
  subst e2
  cases r5
  exact gx ⟨H5,I5,q5⟩
def cB6 (K:PySem.W.Frag) (x:V) (H:Hp) (k:Bool):Prop :=
 match x with
 | .non=>k=false
 | .bl b=>k=b
 | .int i=>k=(i != 0)
 | .str y=>y.length<=sizeLine/\k=((y.length:Int) != 0)
 | .byt y=>y.size<=sizeLine/\k=((y.size:Int) != 0)
 | .ref p=>(∃ xs,bC K H p xs/\k= !xs.isEmpty)\/(∃ xs,aO K H p xs/\k= !xs.isEmpty)\/∃ kvs,H p=some (.dK kvs)/\k= !kvs.isEmpty
 | _=>False
theorem aA7 {κ: Type}{kvs:List (κ×V)}{vs:List (κ×Value)}(r:KV kvs vs):(!vs.isEmpty)= !kvs.isEmpty:=by
 cases r <;> rfl
theorem rY {xs:List V}{its:List Value}(r:bF xs its):(!its.toArray.isEmpty)= !xs.isEmpty:=by
 cases r <;> simp
theorem sI:(sizeLine:Nat) < 2 ^ 63:=by rw [jo];decide
theorem bW3:cM3 X (fun x H Q=>∃ k,cB6 X.K x H k/\Q k H):=by
 intro pins s σ H x v Q I rx h
 obtain ⟨k,e,q⟩:=h
 have hl:=sI
 have hs:sizeLine=16777216:=jo
 cases x with
 | non =>
  cases rx
  have e':k=false:=e
  subst e'
  exact truthy_none ⟨H,I,q⟩
 | bl b =>
  cases rx
  have e':k=b:=e
  subst e'
  exact gx ⟨H,I,q⟩
 | int i =>
  obtain ⟨t,rfl⟩:=rx
  have e':k=(i != 0):=e
  subst e'
  exact PySem.P.truthy_int ⟨H,I,q⟩
 | str y =>
  obtain ⟨t,rfl⟩:=rx
  obtain ⟨hy,e'⟩:y.length<=sizeLine/\k=((y.length:Int) != 0):=e
  subst e'
  exact PySem.P.truthy_str (by lia) ⟨H,I.tok _,q⟩
 | byt y =>
  obtain ⟨t,rfl⟩:=rx
  obtain ⟨hy,e'⟩:y.size<=sizeLine/\k=((y.size:Int) != 0):=e
  subst e'
  exact PySem.W.truthy_bytes (by (exact oqf)) ⟨H,I.tok _,q⟩
 | ref p =>
  cases rx
  have e':(∃ xs,bC X.K H p xs/\k= !xs.isEmpty)\/(∃ xs,aO X.K H p xs/\k= !xs.isEmpty)\/∃ kvs,H p=some (.dK kvs)/\k= !kvs.isEmpty:=e
  rcases e' with ⟨xs,hx,e'⟩ | ⟨xs,hx,e'⟩ | ⟨kvs,hx,e'⟩
  ·subst e'
   obtain ⟨its,r,pl,hz⟩:=I.list hx
   have hlen:=r.length
   exact wpAny_truthy_list pl.isList (by simp only [List.size_toArray];lia) ⟨H,I.tok _,by rw [rY r];exact q⟩
  ·subst e'
   obtain ⟨its,r,pl,hz⟩:=I.tuple hx
   have hlen:=r.length
   exact truthy_tuple pl (by simp only [List.size_toArray];lia) ⟨H,I.tok _,by rw [rY r];exact q⟩
  ·subst e'
   obtain ⟨hz,hS,vs,r,m⟩:kvs.length<=sizeLine/\(p == sysModules)=false/\∃ vs,KV kvs vs/\s.heap.DictOf (aY X.prog X.w) p vs:=I.hok p _ hx
   have hlen:kvs.length=vs.length:=qw r
   exact wpAny_truthy_dict hS m (by lia) ⟨H,I.tok _,by rw [aA7 r];exact q⟩
 | _=>exact (show False from e).elim
theorem jL (ha:PE X a ta) (he:∀ whole,isTrue a X.env whole=(do let v <- whole;standAt a.pos;holding [v] (truthy v))) :
  PT X a (fun σ H Q=>ta σ H fun x H'=>∃ k,cB6 X.K x H' k/\Q k H'):=by
 intro pins s σ H Q I h
 refine isTrue_plain (cW (ha pins s σ H _ I h) ?_) (he _);rintro v s1 ⟨x,H1,I1,r1,q1⟩;exact bW3 pins s1 σ H1 x v Q I1 r1 q1
theorem rT:jU X (binaryOp .Add) (fun x y H Q=>∃ i j,x= .str i/\y= .str j/\i.length+j.length<=sizeLine/\Q (.str (i++j)) H):=by
 intro pins s σ H x y v u Q I rx ry h
 obtain ⟨i,j,rfl,rfl,hz,q⟩:=h
 obtain ⟨t,rfl⟩:=rx
 obtain ⟨t',rfl⟩:=ry
 exact add_str (fun t' tk=>⟨.str (i++j),H,I.tok _,⟨_,rfl⟩,q⟩) hz
theorem jZ {x:V}{us:List Value}(r:bF [x] us):∃ u,us=[u]/\bL x u:=by
 cases r with
 | cons r1 r2=>cases r2;exact ⟨_,rfl,r1⟩
theorem aF8 {x y:V}{us:List Value}(r:bF [x,y] us):∃ u w',us=[u,w']/\bL x u/\bL y w':=by
 cases r with
 | cons r1 r2 =>
  cases r2 with
  | cons r3 r4=>cases r4;exact ⟨_,_,rfl,r1,r3⟩
theorem aM6 (hc:X.calm=true):gM X (.builtin "max") (fun xs H Q=>∃ i j,xs=[.int i,.int j]/\Q (.int (if j > i then j else i)) H):=by
 intro pins s σ H xs us Q I r h
 obtain ⟨i,j,rfl,q⟩:=h
 obtain ⟨u,w',rfl,⟨t,rfl⟩,⟨t',rfl⟩⟩:=aF8 r
 refine max_two_ints (I.ok.hd hc) fun h' tk k=>⟨_,H,I.kept k,?_,q⟩
 by_cases hj:j > i
 ·rw [ay hj,ay hj];exact ⟨_,rfl⟩
 ·rw [ak hj,ak hj];exact ⟨_,rfl⟩
theorem vI (hc:X.calm=true):gM X (.builtin "min") (fun xs H Q=>∃ i j,xs=[.int i,.int j]/\Q (.int (if j < i then j else i)) H):=by
 intro pins s σ H xs us Q I r h
 obtain ⟨i,j,rfl,q⟩:=h
 obtain ⟨u,w',rfl,⟨t,rfl⟩,⟨t',rfl⟩⟩:=aF8 r
 refine min_two_ints (I.ok.hd hc) fun h' tk k=>⟨_,H,I.kept k,?_,q⟩
 by_cases hj:j < i
 ·rw [ay hj,ay hj];exact ⟨_,rfl⟩
 ·rw [ak hj,ak hj];exact ⟨_,rfl⟩
theorem fY:gM X (.type "int") (fun xs H Q=>(∃ i,xs=[.int i]/\Q (.int i) H)\/∃ k,xs=[.bl k]/\Q (.int (if k then 1 else 0)) H):=by
 intro pins s σ H xs us Q I r h
 rcases h with ⟨i,rfl,q⟩ | ⟨k,rfl,q⟩
 ·obtain ⟨u,rfl,t,rfl⟩:=jZ r
  exact call_int_int ⟨.int i,H,I,⟨_,rfl⟩,q⟩
 ·obtain ⟨u,rfl,r1⟩:=jZ r
  cases r1
  exact call_int_bool ⟨.int (if k then 1 else 0),H,I.tok _,⟨_,rfl⟩,q⟩
end
structure aN5 (h:Heap) (x dx C:Addr) (mA:Str->Option Value):Prop where
 obj:h.get? x=some (PySem.W.instObj C dx)
 ns:h.Ns1 dx mA
 ne:dx≠x
theorem aL9 {h:Heap}{dx:Addr}{mA:Str->Option Value}(n:h.Ns1 dx mA):∃ od,h.get? dx=some od/\∀ name,PySem.W.lookIn name od=some (mA name):=by
 obtain ⟨o,es,ep,ho,hd,hk,_,hm⟩:=n
 refine ⟨o,ho,fun name=>?_⟩
 have e:=hm name
 unfold nsFind findBy at e
 rw [<- Array.find?_toList] at e
 unfold PySem.W.lookIn
 rw [hd]
 dsimp only
 split
 ·rename_i y q
  rw [q] at e
  exact fc some e
 ·rename_i q
  rw [q] at e
  have a:es.toList.any (·.refKey)=false:=by
   rw [List.any_eq_false]
   intro y hy
   obtain ⟨z,t,hkey⟩:=hk y (yd.mp hy)
   simp [DictEntry.refKey,hkey]
  have a':¬ es.toList.any (·.refKey)=true:=by rw [a];exact bx
  rw [ak a']
  exact fc some e
theorem aN5.look {h:Heap}{x dx C:Addr}{mA:Str->Option Value}(I:aN5 h x dx C mA):∃ od,PySem.W.InstAt h x (PySem.W.instObj C dx) C (some od)/\∀ name,PySem.W.lookIn name od=some (mA name) :=by
 obtain ⟨od,ho,hl⟩:=aL9 I.ns
 exact ⟨od,⟨I.obj,rfl,rfl,ho⟩,hl⟩
section
variable {prog:Program}{w:World}{A:Around}{E:Value->Shared->Prop}{s:Shared}{K:PySem.W.Frag}{x dx C f:Addr}{mA:Str->Option Value}{name:Str}{v:Value}
theorem bD3 {expr:Bool}{Q:Value->Shared->Prop}(X:K.In s.heap) (I:aN5 s.heap x dx C mA) (hg:PySem.W.plainGet K C name=true) (hh:PySem.W.hasDictIn K C=true)
  (ha:PySem.W.findIn K (.ref C) name=some none) (hv:mA name=some v) (hv':PySem.W.handedIn v=true) (h:Q v { s with toks:=s.toks+1 }) :
  wpAny (model prog w) A (getAttr (.ref x) name expr) Q E s:=by
 obtain ⟨od,J,hl⟩:=I.look
 exact PySem.W.get_value X J (PySem.W.plainGet_of hg).1 (PySem.W.findObj_own hh ha rfl (by rw [hl,hv])) hv' h
theorem bI9 {ns:List Str}{Q:Unit->Shared->Prop}(X:K.In s.heap) (I:aN5 s.heap x dx C mA)
  (hs:PySem.W.findIn K (.ref C) "__setattr__"=some (some (.builtin "object.__setattr__"))) (hp:PySem.W.plainOver K C=true) (ht:PySem.W.takerIn K C name=some none) (hh:PySem.W.hasDictIn K C=true)
  (hw:PySem.Within mA ns) (hsz:ns.length<=sizeLine)
  (h:∀ h',aN5 h' x dx C (fun y=>if y=name then some v else mA y)->Heap.SameBut dx s.heap h'->Q () { s with heap:=h',toks:=s.toks+2 }) :
  wpAny (model prog w) A (setAttr (.ref x) name v) Q E s:=by
 obtain ⟨od,J,hl⟩:=I.look
 refine PySem.W.set_plain X J hs (PySem.W.osa_open (s:={ s with toks:=s.toks+1 }) (r:=none) X J hp ht fun b=>?_)
 obtain ⟨cd,hc,hd'⟩:=PySem.W.any_some hh
 have hx:s.heap.get? x=some ⟨.ref C,some dx,.plain, #[]⟩:=I.obj
 refine aa (af (aa (aa (wpAny_loadPart hx (aa (PySem.W.Looks.here (s:={ s with toks:=s.toks+1 }) (PySem.W.looks_clsIn X hc) ?_))))))
 rw [hd']
 refine af (a:=some dx) (aa (af (aa ?_)))
 refine wpAny_nsSet1 (s:={ s with toks:=s.toks+1 }) I.ns fun h' hn2 hs2=>?_
 obtain ⟨oD,esD,epD,hoD,hdD,hcD⟩:=hn2.count (PySem.Within.cons name v hw)
 refine aa (wpAny_lookBehind hoD (by rw [hdD];exact pastItsLine_dict (cu hcD (by rw [bo];lia))) ?_)
 exact af (h _ ⟨(hs2.2 _ (Ne.symm I.ne)).trans I.obj,hn2,I.ne⟩ hs2)
theorem aZ1 {R:Result->Shared->Prop}{vs:List Value}{kw:List (Str×Value)}(X:K.In s.heap) (hm:PySem.W.makesIn K C=true)
  (hi:PySem.W.findIn K (.ref C) "__init__"=some (some (.ref f))) (hf:PySem.W.typeIn K (.ref f)=some (.type "function"))
  (h:codeAny (model prog w) (A.under (.builtin "type.__call__" ⟨.ref C :: vs,kw⟩)) (.call (.ref f) ⟨.ref (s.heap.objs.size+1) :: vs,kw⟩) (PySem.W.InitBack (s.heap.objs.size+1) R)
   { s with heap:=(s.heap.push PySem.W.emptyDict).push (PySem.W.instObj C s.heap.objs.size) }) :
  codeAny (model prog w) A (.call (.ref C) ⟨vs,kw⟩) R s:=by
 obtain ⟨hh,g,d,t,os⟩:=s
 exact PySem.W.make_core (PySem.W.makes_of X hm) (PySem.W.looks_findIn X hi) (fun self=>PySem.W.bind_fn X self hf) (.inl rfl) h
end
def fC (f:Str) (v:V):List (Str×V)->List (Str×V)
 | []=>[(f,v)]
 | (g,x) :: r=>if g=f then (g,v) :: r else (g,x) :: fC f v r
theorem kZ (f g:Str) (v:V):∀ fs:List (Str×V),(fC f v fs).lookup g=if g=f then some v else fs.lookup g
 | []=>by
  show List.lookup g [(f,v)]=_
  by_cases h:g=f
  ·have hb:(g == f)=true:=ye.mpr h
   simp only [List.lookup,hb,if_pos h]
  ·have hb:(g == f)=false:=jd.mpr h
   simp only [List.lookup,hb,if_neg h]
 | (k,x) :: r=>by
  have ih:=kZ f g v r
  rw [show fC f v ((k,x) :: r)=(if k=f then (k,v) :: r else (k,x) :: fC f v r) from rfl]
  by_cases hk:k=f
  ·rw [ay hk]
   by_cases h:g=k
   ·have hb:(g == k)=true:=ye.mpr h
    simp only [List.lookup,hb,if_pos (h.trans hk)]
   ·have hb:(g == k)=false:=jd.mpr h
    simp only [List.lookup,hb,if_neg (fun e:g=f=>h (e.trans hk.symm))]
  ·rw [ak hk]
   by_cases h:g=k
   ·have hb:(g == k)=true:=ye.mpr h
    simp only [List.lookup,hb,if_neg (fun e:g=f=>hk (h.symm.trans e))]
   ·have hb:(g == k)=false:=jd.mpr h
    simp only [List.lookup,hb]
    exact ih
theorem oK (f:Str) (v:V):∀ fs:List (Str×V),f∈(fC f v fs).map (·.1)/\∀ g,g∈fs.map (·.1)->g∈(fC f v fs).map (·.1)
 | []=>⟨by simp [fC],fun g h=>by simp at h⟩
 | (k,x) :: r=>by
  obtain ⟨i1,i2⟩:=oK f v r
  rw [show fC f v ((k,x) :: r)=(if k=f then (k,v) :: r else (k,x) :: fC f v r) from rfl]
  by_cases hk:k=f
  ·rw [ay hk]
   subst hk
   exact ⟨by simp,fun g h=>by simpa using h⟩
  ·rw [ak hk]
   refine ⟨?_,fun g h=>?_⟩
   ·rw [dq]
    exact aq _ i1
   ·rw [dq] at h ⊢
    rcases cf.mp h with e | e
    ·exact cf.mpr (.inl e)
    ·exact aq _ (i2 g e)
theorem lC (f:Str) (v:V):∀ fs:List (Str×V),(fC f v fs).length<=fs.length+1
 | []=>by simp [fC]
 | (k,x) :: r=>by
  have ih:=lC f v r
  rw [show fC f v ((k,x) :: r)=(if k=f then (k,v) :: r else (k,x) :: fC f v r) from rfl]
  by_cases hk:k=f
  ·rw [ay hk,bo,bo];(exact jy _)
  ·rw [ak hk,bo,bo];lia
theorem jE.some_of {v:V}{o:Option Value}(r:jE (some v) o):∃ u,o=some u/\bL v u:=by
 cases o with
 | none=>exact (show False from r).elim
 | some u=>exact ⟨u,rfl,r⟩
theorem jE.none_of {o:Option Value}(r:jE none o):o=none:=by
 cases o with
 | none=>rfl
 | some u=>exact (show False from r).elim
theorem aM0 {v:V}{u:Value}(r:bL v u):PySem.W.handedIn u=true:=by
 cases v with
 | non=>cases (show u=Value.none from r);rfl
 | bl b=>cases (show u=Value.bool b from r);rfl
 | int i=>obtain ⟨t,e⟩:=(show ∃ t,u=Value.int i t from r);cases e;rfl
 | str x=>obtain ⟨t,e⟩:=(show ∃ t,u=Value.str x t from r);cases e;rfl
 | byt b=>obtain ⟨t,e⟩:=(show ∃ t,u=Value.bytes b t from r);cases e;rfl
 | flt b=>obtain ⟨t,e⟩:=(show ∃ t,u=Value.float b t from r);cases e;rfl
 | ref a=>cases (show u=Value.ref a from r);rfl
 | ty n=>cases (show u=Value.type n from r);rfl
section
variable {P:Program}{w:World}{H H':Hp}{h h':Heap}{a C dx:Addr}{fs fs':List (Str×V)}
theorem wY (hok:mN P w H h) (e:H a=some (.ins C dx fs)):∃ mA,aN5 h a dx C mA/\(∀ f,jE (fs.lookup f) (mA f))/\PySem.Within mA (fs.map (·.1))/\fs.length<=1000/\H dx=some (.own a):=by
 obtain ⟨d,z,ne,ob,mA,n,r,q⟩:=(show dH P w H h a (.ins C dx fs) from hok a _ e)
 exact ⟨mA,⟨ob,n,ne⟩,r,q,z,d⟩
end
structure Cls (K:PySem.W.Frag) (C:Addr):Prop where
 pg:PySem.W.plainGet K C Str.empty=true
 hd:PySem.W.hasDictIn K C=true
 po:PySem.W.plainOver K C=true
 sa:PySem.W.findIn K (.ref C) "__setattr__"=some (some (.builtin "object.__setattr__"))
theorem Cls.get {K:PySem.W.Frag}{C:Addr}(c:Cls K C) (f:Str):PySem.W.plainGet K C f=true:=c.pg
def iU (K:PySem.W.Frag) (C:Addr) (f:Str):Prop:=PySem.W.findIn K (.ref C) f=some none
theorem iU.taker {K:PySem.W.Frag}{C:Addr}{f:Str}(n:iU K C f):PySem.W.takerIn K C f=some none:=by
 unfold PySem.W.takerIn
 rw [show PySem.W.findIn K (.ref C) f=some none from n]
 rfl
section
variable {X:Cx}{pins:List (Addr×Obj)}{σ: St}{H:Hp}{s:Shared}{a C dx:Addr}{fs:List (Str×V)}{f:Str}{v:V}{A:Around}{E:Value->Shared->Prop}
theorem aC0 {b:Bool}{Q:Value->Shared->Prop}(I:aW X pins σ H s) (e:H a=some (.ins C dx fs)) (c:Cls X.K C) (n:iU X.K C f) (l:fs.lookup f=some v)
  (h:∀ u s',aW X pins σ H s'->bL v u->Q u s'):wpAny (model X.prog X.w) A (getAttr (.ref a) f b) Q E s:=by
 obtain ⟨mA,O,r,_,_,_⟩:=wY I.hok e
 obtain ⟨u,hu,ru⟩:=jE.some_of (v:=v) (o:=mA f) (by rw [<- l];exact r f)
 exact bD3 I.kIn O (c.get f) c.hd n hu (aM0 ru) (h u _ (I.tok _) ru)
theorem aF4 {y:V}{u:Value}{Q:Unit->Shared->Prop}(I:aW X pins σ H s) (e:H a=some (.ins C dx fs)) (c:Cls X.K C) (n:iU X.K C f) (hl:fs.length < 1000) (ry:bL y u)
  (h:∀ s',aW X pins σ (aQ H a (.ins C dx (fC f y fs))) s'->Q () s'):wpAny (model X.prog X.w) A (setAttr (.ref a) f u) Q E s:=by
 obtain ⟨mA,O,r,wi,_,ho⟩:=wY I.hok e
 have hz:(fs.map (·.1)).length<=sizeLine:=by rw [ac,jo];(exact oqf)
 refine bI9 I.kIn O c.sa c.po n.taker c.hd wi hz fun h' O' sb=>h _ ?_
 have hd:∃ o,h'.get? dx=some o:=by obtain ⟨o,_,_,e',_⟩:=O'.ns;exact ⟨o,e'⟩
 refine I.write (x:=a) (e:=dx) (by rw [e];exact ir) (.inr ho) (fun b q hb z=>(sb.2 b hb).trans z) hd ?_
 refine ⟨by rw [aI O.ne];exact ho,?_,O.ne,O'.obj,_,O'.ns,fun g=>?_,fun g hg=>?_⟩
 ·have:=lC f y fs;lia
 ·show jE ((fC f y fs).lookup g) (if g=f then some u else mA g)
  rw [kZ]
  by_cases q:g=f
  ·rw [ay q,ay q];exact ry
  ·rw [ak q,ak q];exact r g
 ·by_cases q:g=f
  ·rw [q];exact (oK f y fs).1
  ·refine (oK f y fs).2 g (wi g fun z=>hg ?_)
   show (if g=f then some u else mA g)=none
   rw [ak q];exact z
theorem aW.made (I:aW X pins σ H s):aW X pins σ (aQ (aQ H s.heap.objs.size (.own (s.heap.objs.size+1))) (s.heap.objs.size+1) (.ins C s.heap.objs.size []))
  { s with heap:=(s.heap.push PySem.W.emptyDict).push (PySem.W.instObj C s.heap.objs.size) }:=by
 have e1:(s.heap.push PySem.W.emptyDict).get? s.heap.objs.size=some PySem.W.emptyDict:=az s.heap rfl
 have e2:((s.heap.push PySem.W.emptyDict).push (PySem.W.instObj C s.heap.objs.size)).get? (s.heap.objs.size+1)=some (PySem.W.instObj C s.heap.objs.size):=by
  have:=az (s.heap.push PySem.W.emptyDict) (o:=PySem.W.instObj C s.heap.objs.size) rfl
  rwa [gi] at this
 have e3:(s.heap.push PySem.W.emptyDict).Ns s.heap.objs.size (fun _=>none):=⟨PySem.W.emptyDict, #[],_,e1,rfl,(fun e he=>absurd he (by simp)),fun _=>rfl⟩
 have I1:=I.laid (a:=s.heap.objs.size) (o:= .own (s.heap.objs.size+1)) (h':=s.heap.push PySem.W.emptyDict) (t':=s.toks) (fun b u q=>ae _ q) (aj _) ⟨_,e1⟩
 refine I1.laid (a:=s.heap.objs.size+1) (o:= .ins C s.heap.objs.size []) (t':=s.toks) (fun b u q=>ae _ q) (vi (gi _ _)) ?_
 have ne:s.heap.objs.size≠s.heap.objs.size+1:=bq (ef _)
 refine ⟨by rw [aI ne,aD],bj _,ne,e2,fun _=>none,(Heap.Ns1.of_empty e3).at fun o q=>ae _ q,fun _=>ir,fun y hy=>absurd rfl hy⟩
theorem bG7 {prog:Program}{w:World}{env:Env}{e:Expr}{f:Str}{pos:Pos}{s:Shared}{Q:Value->Shared->Prop}(hb:attributeBase e f env (eval e env)=eval e env)
  (h:wpAny (model prog w) A (eval e env) (fun o s₁=>wpAny (model prog w) A (getAttr o f true) Q E s₁) E s):wpAny (model prog w) A (eval (.Attribute e f pos) env) Q E s :=
 Attribute_any_ h (by rw [arm_eval_Attribute,hb])
end
def cB2 (K:PySem.W.Frag) (ta:TE) (f:Str):TE:=fun σ H Q=>ta σ H fun x H1=>∃ a C dx fs v,x= .ref a/\H1 a=some (.ins C dx fs)/\Cls K C/\iU K C f/\fs.lookup f=some v/\Q v H1
def cM8 (K:PySem.W.Frag) (ta tv:TE) (f:Str):TS:=fun D σ H=>tv σ H fun y H1=>ta σ H1 fun x H2=>∃ a C dx fs,x= .ref a/\H2 a=some (.ins C dx fs)/\Cls K C/\iU K C f/\fs.length < 1000 /\
 D.nx σ (aQ H2 a (.ins C dx (fC f y fs)))
section
variable {X:Cx}{o e value:Expr}{f:Str}{pos pos' tpos:Pos}{ta tv:TE}
theorem oH (he:PE X e ta) (hb:attributeBase e f X.env (eval e X.env)=eval e X.env):PE X (.Attribute e f pos) (cB2 X.K ta f):=by
 intro pins s σ H Q I h
 refine bG7 hb (cW (he pins s σ H _ I h) ?_);rintro u s1 ⟨x,H1,I1,rx,a,C,dx,fs,v,ex,ea,c,n,l,q⟩
 subst ex
 obtain rfl:u=Value.ref a:=rx
 exact aC0 I1 ea c n l fun u' s2 I2 ru=>⟨v,H1,I2,ru,q⟩
theorem wV (ha:PE X o ta) (hv:PE X value tv) (hs:swapsWith value (some (.Attribute o f pos')) pos.line X.env=pure false):PS X (.Assign [.Attribute o f pos'] value pos) (cM8 X.K ta tv f):=by
 intro pins s σ H D I h
 refine plainObj_wpAny_Assign_Attribute (cW (hv pins s σ H _ I h) ?_) hs;rintro u s1 ⟨y,H1,I1,ry,q⟩;refine cW (ha pins s1 σ H1 _ I1 q) ?_;rintro ov s2 ⟨x,H2,I2,rx,a,C,dx,fs,ex,ea,c,n,l,q2⟩
 subst ex
 obtain rfl:ov=Value.ref a:=rx
 exact aF4 I2 ea c n l ry fun s3 I3=>⟨σ,_,I3,q2⟩
end
section
variable {X:Cx}{pins:List (Addr×Obj)}{σ: St}{H:Hp}{s:Shared}{A:Around}{E:Value->Shared->Prop}{Q:Value->Shared->Prop}{c:Value}{b:Bool}
inductive oQ (K:PySem.W.Frag) (H:Hp):V->Value->Prop where
 | non:oQ K H .non (.type "NoneType")
 | bl (x:Bool):oQ K H (.bl x) (.type "bool")
 | int (i:Int):oQ K H (.int i) (.type "int")
 | str (x:Str):oQ K H (.str x) (.type "str")
 | flt (x:UInt64):oQ K H (.flt x) (.type "float")
 | lst {a:Addr}{xs:List V}(e:H a=some (.lst xs)):oQ K H (.ref a) (.type "list")
 | frz {a:Addr}{o:Obj}{xs:List V}(e:H a=some (.frz o (.lst xs))):oQ K H (.ref a) (.type "list")
 | tup {a:Addr}{xs:List V}(e:H a=some (.tup xs)):oQ K H (.ref a) (.type "tuple")
 | dK {a:Addr}{kvs:List (Key×V)}(e:H a=some (.dK kvs)):oQ K H (.ref a) (.type "dict")
 | dT {a:Addr}{kvs:List (List Key×V)}(e:H a=some (.dT kvs)):oQ K H (.ref a) (.type "dict")
 | ins {a C dx:Addr}{fs:List (Str×V)}(e:H a=some (.ins C dx fs)) (cl:Cls K C) (ha:PySem.W.findIn K (.ref C) "__class__"=some (some (.builtin "object.__class__")))
   (hn:PySem.W.specialIn K (.builtin "object.__class__") "__get__"=some (some (.builtin "getset_descriptor.__get__"))) (htk:PySem.W.takesIn K (.builtin "object.__class__")=some true)
   (hm:PySem.W.mroIn K C (.type "object")=some true):oQ K H (.ref a) (.ref C)
theorem aQ0 {x:V}{u t:Value}(I:aW X pins σ H s) (rx:bL x u) (ty:oQ X.K H x t) (e:PySem.W.kitOne X.K t c=some b) (h:∀ tk,Q (.bool b) { s with toks:=tk }) :
  wpAny (model X.prog X.w) A (call (.builtin "isinstance") [u,c]) Q E s:=by
 cases ty with
 | non=>cases (show u=Value.none from rx);exact ic PySem.W.kitx_none I.kIn ir e (fun z=>nomatch z) h
 | bl y=>cases (show u=Value.bool y from rx);exact ic PySem.W.kitx_bool I.kIn ir e (fun z=>nomatch z) h
 | int i=>obtain ⟨t,q⟩:=(show ∃ t,u=Value.int i t from rx);cases q;exact ic PySem.W.kitx_int I.kIn ir e (fun z=>nomatch z) h
 | str y=>obtain ⟨t,q⟩:=(show ∃ t,u=Value.str y t from rx);cases q;exact ic PySem.W.kitx_str I.kIn ir e (fun z=>nomatch z) h
 | flt y=>obtain ⟨t,q⟩:=(show ∃ t,u=Value.float y t from rx);cases q;exact ic PySem.W.kitx_float I.kIn ir e (fun z=>nomatch z) h
 | @lst a xs ea =>
  cases (show u=Value.ref a from rx)
  obtain ⟨_,_,n,_,h1⟩:=(show dH X.prog X.w H s.heap a (.lst xs) from I.hok a _ ea)
  exact ic PySem.W.kitx_list I.kIn ⟨_,h1,rfl⟩ e (fun z=>nomatch z) h
 | @frz a ob xs ea =>
  cases (show u=Value.ref a from rx)
  obtain ⟨_,_,_,n,_,h1⟩:=(show dH X.prog X.w H s.heap a (.frz ob (.lst xs)) from I.hok a _ ea)
  exact ic PySem.W.kitx_list I.kIn ⟨_,h1,rfl⟩ e (fun z=>nomatch z) h
 | @tup a xs ea =>
  cases (show u=Value.ref a from rx)
  obtain ⟨_,_,_,p⟩:=(show dH X.prog X.w H s.heap a (.tup xs) from I.hok a _ ea)
  obtain ⟨o,h1,h2,_⟩:=p
  exact ic PySem.W.kitx_tuple I.kIn ⟨o,h1,h2⟩ e (fun z=>nomatch z) h
 | @dK a kvs ea =>
  cases (show u=Value.ref a from rx)
  obtain ⟨_,_,vs,_,p⟩:=(show dH X.prog X.w H s.heap a (.dK kvs) from I.hok a _ ea)
  obtain ⟨o,es,ep,h1,h2,_⟩:=p
  exact ic PySem.W.kitx_dict I.kIn ⟨o,h1,h2.1⟩ e (fun z=>nomatch z) h
 | @dT a kvs ea =>
  cases (show u=Value.ref a from rx)
  obtain ⟨_,_,xs,_,o,es,ep,h1,h2,_⟩:=(show dH X.prog X.w H s.heap a (.dT kvs) from I.hok a _ ea)
  exact ic PySem.W.kitx_dict I.kIn ⟨o,h1,h2.1⟩ e (fun z=>nomatch z) h
 | @ins a C dx fs ea cl ha hn htk hm =>
  cases (show u=Value.ref a from rx)
  obtain ⟨mA,O,_⟩:=wY I.hok ea
  obtain ⟨od,J,_⟩:=O.look
  exact ic (PySem.W.kitx_own (cl.get _) cl.hd ha hn htk hm) I.kIn J e (fun z=>nomatch z) h
end
structure dQ (k:Nat) (A:Around):Prop where
 hd:A.handled=none
 dp:A.depth+3 * k+5 < recursionLimit
 un:A.units+16 * k+200 < cLine
 gd:A.guards=some []
theorem dQ.mono {j k:Nat}{A:Around}(r:dQ k A) (h:j<=k):dQ j A:=⟨r.hd,by have:=r.dp;lia,by have:=r.un;lia,r.gd⟩
theorem dQ.deeper {k:Nat}{A:Around}(r:dQ (k+1) A) (env:Env):dQ k (A.deeper env) :=
 ⟨r.hd,by have:=r.dp;show A.depth+1+3 * k+5 < _;lia,by have:=r.un;show A.units+3+16 * k+200 < _;lia,r.gd⟩
theorem aC6 {A:Around}{C:Addr}{us:List Value}{kw:List (Str×Value)}:(A.under (.builtin "type.__call__" ⟨.ref C :: us,kw⟩)).depth=A.depth+1:=by
 first | rfl | simp [Around.under,Code.weight,Code.isCreation,Code.isGuard,Code.isCaller,Code.frames,Code.isFrame,guardIds]
theorem aD8 {A:Around}{C:Addr}{us:List Value}{kw:List (Str×Value)}:(A.under (.builtin "type.__call__" ⟨.ref C :: us,kw⟩)).units=A.units+1:=by
 first | rfl | simp [Around.under,Code.cUnits,Code.frames,Code.isFrame]
theorem xV {A:Around}{C:Addr}{us:List Value}{kw:List (Str×Value)}:(A.under (.builtin "type.__call__" ⟨.ref C :: us,kw⟩)).guards=A.guards:=by
 have e:(Code.builtin "type.__call__" ⟨.ref C :: us,kw⟩).isGuard=false:=by
  show guardIds.contains "type.__call__"=false
  decide +kernel
 cases h:A.guards <;> simp [Around.under,Code.guards,pushGuards,e,h]
theorem dQ.make {k:Nat}{A:Around}(r:dQ (k+1) A) (C:Addr) (us:List Value) (kw:List (Str×Value)):dQ k (A.under (.builtin "type.__call__" ⟨.ref C :: us,kw⟩)) :=
 ⟨r.hd,by have:=r.dp;rw [aC6];lia,by have:=r.un;rw [aD8];lia,xV.trans r.gd⟩
theorem dQ.depth {k:Nat}{A:Around}(r:dQ k A):A.depth < recursionLimit:=by have:=r.dp;lia
theorem dQ.units {k:Nat}{A:Around}(r:dQ k A):A.units+64 < cLine:=by have:=r.un;lia
def tNil:TA:=fun _ H Q=>Q [] H
def iC (ta:TE) (tr:TA):TA:=fun σ H Q=>ta σ H fun x H1=>tr σ H1 fun xs H2=>Q (x :: xs) H2
section
variable {X:Cx}{e:Expr}{es:List Expr}{te:TE}{t:TA}{pos:Pos}
theorem cD:PA X [] tNil:=fun _ _ _ _ H Q I h=>jb ⟨[],H,I,.nil,h⟩
theorem aA (ha:PE X e te) (hr:PA X es t) (hs:starEach (e :: es) X.env=(false,eval e X.env) :: starEach es X.env:=by rfl):PA X (e :: es) (iC te t):=by
 intro pos pins s σ H Q I h
 rw [hs]
 show wpAny _ _ (spliced ((false,eval e X.env) :: backTo pos (starEach es X.env))) _ _ s
 refine ge (cW (ha pins s σ H _ I h) ?_);rintro u s1 ⟨x,H1,I1,r1,q1⟩
 refine cW (hr pos pins s1 σ H1 _ I1 q1) ?_;rintro us s2 ⟨xs,H2,I2,r2,q2⟩;exact ⟨x :: xs,H2,I2,.cons r1 r2,q2⟩
def bF2 (t:TA):TE:=fun σ H Q=>t σ H fun xs H1=>xs.length<=sizeLine/\∀ p,H1 p=none->Q (.ref p) (aQ H1 p (.tup xs))
def bH1 (t:TA):TE:=fun σ H Q=>t σ H fun xs H1=>xs.length<=sizeLine/\∀ p,H1 p=none->Q (.ref p) (aQ H1 p (.lst xs))
theorem aM {x1} (h:PA X es t):PE X (.Tuple es x1 pos) (bF2 t):=by
 intro pins s σ H Q I hq
 refine wpAny_Tuple_spliced (cW (h pos pins s σ H _ I hq) ?_);rintro us s1 ⟨xs,H1,I1,r,z,q⟩;refine ⟨by rw [<- r.length];exact z,?_⟩
 have hf:H1 s1.heap.objs.size=none:=I1.hok.fresh (aj _)
 refine ⟨.ref s1.heap.objs.size,aQ H1 s1.heap.objs.size (.tup xs),I1.laid (t':=s1.toks) (fun b u e=>ae _ e) (aj _) ?_,rfl,q _ hf⟩
 exact ⟨z,us,r,⟨_,az _ rfl,rfl,_,rfl,rfl⟩⟩
theorem bK (h:PA X es t):PE X (.List es pos) (bH1 t):=by
 intro pins s σ H Q I hq
 refine wpAny_List_spliced (cW (h pos pins s σ H _ I hq) ?_);rintro us s1 ⟨xs,H1,I1,r,z,q⟩;refine ⟨by rw [<- r.length];exact z,?_⟩
 have hf:H1 s1.heap.objs.size=none:=I1.hok.fresh (aj _)
 refine ⟨.ref s1.heap.objs.size,aQ H1 s1.heap.objs.size (.lst xs),I1.laid (t':=s1.toks) (fun b u e=>ae _ e) (aj _) ?_,rfl,q _ hf⟩
 exact ⟨z,us,0,r,az _ rfl⟩
end
abbrev Sp:=List V->Hp->VK->XK->Prop
abbrev CXT:=List Env->Hp->Shared->XK->Value->Shared->Prop
structure aA4 (P:Program) (w:World) (K:PySem.W.Frag) (mg:Str->Option Value) (base:Heap) (A:Around) (outer:List Env) (s:Shared) (H:Hp):Prop where
 frames:A.frames=some outer
 mod:Mod K mg base
 bs:∀ b o,base.get? b=some o->s.heap.get? b=some o/\H b=none
 bsz:base.objs.size<=s.heap.objs.size
 funs:s.heap.FunFrames base outer
 frf:∀ b∈frs outer,H b=none
 hok:mN P w H s.heap
 bare:AllBare s.gens
def CE (outer:List Env) (P:Program) (w:World) (H:Hp) (s:Shared) (Q:VK) (u:Value) (s':Shared):Prop :=
 ∃ v H',s'.os=s.os/\AllBare s'.gens/\Un (frs outer) [] H H' s.heap s'.heap/\mN P w H' s'.heap/\bL v u/\Q v H'
def CR (CX:CXT) (outer:List Env) (P:Program) (w:World) (H:Hp) (s:Shared) (Q:VK) (E:XK) (r:Result) (s':Shared):Prop :=
 match r with
 | .ok (.ret u)=>CE outer P w H s Q u s'
 | .ok _=>False
 | .error e=>CX outer H s E e s'
structure mM (P:Program) (w:World) (K:PySem.W.Frag) (mg:Str->Option Value) (base:Heap) (CX:CXT) (k:Nat) (f:Addr) (fd:FuncData) (ps:List Str) (sp:Sp):Prop where
 len:∀ vs H Q E,sp vs H Q E->vs.length=ps.length
 run:∀ (A:Around) (outer:List Env) (s:Shared) (H:Hp) (args:Args) (us:List Value) (vs:List V) (Q:VK) (E:XK),dQ k A->aA4 P w K mg base A outer s H->BindsTo s fd args (ps.zip us)->bF vs us->sp vs H Q E ->
  codeAny (model P w) A (.call (.ref f) args) (CR CX outer P w H s Q E) s
theorem aA4.make {P:Program}{w:World}{K:PySem.W.Frag}{mg:Str->Option Value}{base:Heap}{A:Around}{outer:List Env}{s:Shared}{H:Hp}(e:aA4 P w K mg base A outer s H) (C:Addr) (us:List Value) (kw:List (Str×Value)) :
  aA4 P w K mg base (A.under (.builtin "type.__call__" ⟨.ref C :: us,kw⟩)) outer s H:=⟨by first | exact e.frames | (simpa [Around.under,Code.envs,Code.isFrame,pushEnvs] using e.frames),e.mod,e.bs,e.bsz,e.funs,e.frf,e.hok,e.bare⟩
section
variable {X:Cx}{pins:List (Addr×Obj)}{σ: St}{H:Hp}{s s':Shared}
theorem aW.env0 (I:aW X pins σ H s):aA4 X.prog X.w X.K X.mg X.base X.A X.stack s H :=
 ⟨I.ok.frames,I.ok.mod,I.bs,cu I.ok.bsz I.sz,I.stack,I.stkFree,I.hok,I.bare⟩
theorem aW.after {Q:VK}{u:Value}(I:aW X pins σ H s) (h:CE X.stack X.prog X.w H s Q u s'):EP X pins σ Q u s':=by
 obtain ⟨v,H',os,bare,un,hok,r,q⟩:=h
 obtain ⟨hh,g,d,t,os'⟩:=s'
 obtain rfl:os'=s.os:=os
 exact ⟨v,H',I.call (h':=hh) (g':=g) (d':=d) (t':=t) (ch:=[]) un hok bare (fun b z=>absurd z (by simp)),r,q⟩
end
def aK1 (sp:Sp) (dvs:List V) (E:XK) (t:TA):TE:=fun σ H Q=>t σ H fun vs H1=>sp (vs++dvs) H1 Q E
def cD5 (C:Addr) (sp:Sp) (dvs:List V) (E:XK) (t:TA):TE:=fun σ H Q=>t σ H fun vs H1=>∀ x dx,H1 x=none->H1 dx=none->dx≠x ->
 sp (.ref x :: (vs++dvs)) (aQ (aQ H1 dx (.own x)) x (.ins C dx [])) (fun v H2=>v= .non/\Q (.ref x) H2) E
def gT (K:PySem.W.Frag) (fd:FuncData) (ps:List Str) (ds:List Value):Prop :=
 ∀ (s:Shared) (us:List Value),K.In s.heap->(us++ds).length=ps.length->BindsTo s fd ⟨us,[]⟩ (ps.zip (us++ds))
theorem gT.all {K:PySem.W.Frag}{fd:FuncData}{ps:List Str}(h:∀ us:List Value,us.length=ps.length->bindArgs fd ⟨us,[]⟩=pure (ps.zip us)):gT K fd ps []:=fun s us _ hl=>by
 rw [fq] at hl ⊢
 exact .of_eq (h us hl)
def sM (CX:CXT) (X:Cx) (E:XK):Prop:=∀ (pins:List (Addr×Obj)) (σ: St) (H:Hp) (s:Shared) (e:Value) (s':Shared),aW X pins σ H s->CX X.stack H s E e s'->X.xe e s'
section
variable {X:Cx}{CX:CXT}{k:Nat}{f C:Addr}{fd:FuncData}{ps:List Str}{sp:Sp}{dvs:List V}{ds:List Value}{E:XK}{x m:Str}{p pos apos:Pos}{e o:Expr}{es:List Expr}{ta:TE}{t:TA}
theorem bQ2 {pins:List (Addr×Obj)}{σ: St}{H:Hp}{s:Shared}{Q:VK}{us:List Value}{vs:List V}(F:mM X.prog X.w X.K X.mg X.base CX k f fd ps sp) (hr:dQ k X.A) (hb:gT X.K fd ps ds) (hd:bF dvs ds) (hx:sM CX X E)
  (I:aW X pins σ H s) (r:bF vs us) (h:sp (vs++dvs) H Q E):wpAny (model X.prog X.w) X.A (call (.ref f) us) (EP X pins σ Q) X.xe s:=by
 have r2:bF (vs++dvs) (us++ds):=r.append hd
 have hl:(us++ds).length=ps.length:=by rw [<- r2.length];exact F.len _ _ _ _ h
 refine wpAny_call (lq (F.run X.A X.stack s H ⟨us,[]⟩ (us++ds) (vs++dvs) Q E hr I.env0 (hb s us I.kIn hl) r2 h) fun r s' hq=>?_)
 cases r with
 | error e=>exact hx pins σ H s e s' I hq
 | ok fl =>
  cases fl with
  | ret u=>exact I.after hq
  | next=>exact False.elim hq
  | brk=>exact False.elim hq
  | cont=>exact False.elim hq
theorem bI5 (F:mM X.prog X.w X.K X.mg X.base CX k f fd ps sp) (hr:dQ k X.A) (hg:Gl X x) (hm:X.mg x=some (.ref f)) (hk:PySem.W.keepIn X.K (.ref f)=true) (hb:gT X.K fd ps ds) (hd:bF dvs ds) (hx:sM CX X E)
  (ha:PA X (e :: es) t) (hdb:(x == ("__debug__": Str))=false:=by decide) (he:starEach (e :: es) X.env=(false,eval e X.env) :: starEach es X.env:=by rfl) (hpl:(backTo pos (starEach es X.env)).any (·.1)=false:=by rfl) :
  PE X (.Call (.Name x p) (e :: es) [] pos) (aK1 sp dvs E t):=by
 intro pins s σ H Q I h
 refine gj (xE I hg hm ?_ hdb)
 refine zj (h₀:=X.base) I.ok.mod.kin hk (cW (ha pos pins s σ H _ I h) ?_) he hpl;rintro us s1 ⟨vs,H1,I1,r,q⟩;refine ⟨I1.kIn,?_⟩
 exact bQ2 F hr hb hd hx I1 r q
structure Mk (K:PySem.W.Frag) (C f:Addr):Prop where
 makes:PySem.W.makesIn K C=true
 init:PySem.W.findIn K (.ref C) "__init__"=some (some (.ref f))
 fn:PySem.W.isFn K (.ref f)=true
 kp:PySem.W.keepIn K (.ref C)=true
theorem aR1 {pins:List (Addr×Obj)}{σ: St}{H:Hp}{s:Shared}{Q:VK}{us:List Value}{vs:List V}(M:Mk X.K C f) (F:mM X.prog X.w X.K X.mg X.base CX k f fd ps sp) (hr:dQ (k+1) X.A) (hb:gT X.K fd ps ds) (hd:bF dvs ds)
  (hx:sM CX X E) (I:aW X pins σ H s) (r:bF vs us)
  (h:∀ x dx,H x=none->H dx=none->dx≠x->sp (.ref x :: (vs++dvs)) (aQ (aQ H dx (.own x)) x (.ins C dx [])) (fun v H2=>v= .non/\Q (.ref x) H2) E) :
  wpAny (model X.prog X.w) X.A (call (.ref C) us) (EP X pins σ Q) X.xe s:=by
 have hq:=h (s.heap.objs.size+1) s.heap.objs.size (I.hok.fresh (jy _)) (I.hok.fresh (aj _)) (bq (ef _))
 have I2:=aW.made (C:=C) I
 have r2:bF (V.ref (s.heap.objs.size+1) :: (vs++dvs)) (Value.ref (s.heap.objs.size+1) :: (us++ds)):= .cons rfl (r.append hd)
 have hl:(Value.ref (s.heap.objs.size+1) :: us++ds).length=ps.length:=by
  have e:=r2.length
  rw [F.len _ _ _ _ hq] at e
  exact e.symm
 refine wpAny_call (aZ1 (f:=f) I.kIn M.makes M.init (ye.mp M.fn) (lq (F.run _ X.stack _ _ ⟨Value.ref (s.heap.objs.size+1) :: us,[]⟩ (Value.ref (s.heap.objs.size+1) :: (us++ds)) _ _ E (hr.make C us [])
  (I2.env0.make C us []) (hb _ (Value.ref (s.heap.objs.size+1) :: us) I2.kIn hl) r2 hq) fun r s' hq'=>?_))
 cases r with
 | error e=>exact hx pins σ _ _ e s' I2 hq'
 | ok fl =>
  cases fl with
  | ret u =>
   obtain ⟨v,H',I3,rv,ev,q3⟩:=I2.after hq'
   subst ev
   exact ⟨rv,⟨V.ref (s.heap.objs.size+1),H',I3,rfl,q3⟩⟩
  | next=>exact False.elim hq'
  | brk=>exact False.elim hq'
  | cont=>exact False.elim hq'
theorem bD7 (M:Mk X.K C f) (F:mM X.prog X.w X.K X.mg X.base CX k f fd ps sp) (hr:dQ (k+1) X.A) (hg:Gl X x) (hm:X.mg x=some (.ref C)) (hb:gT X.K fd ps ds) (hd:bF dvs ds) (hx:sM CX X E)
  (ha:PA X (e :: es) t) (hdb:(x == ("__debug__": Str))=false:=by decide) (he:starEach (e :: es) X.env=(false,eval e X.env) :: starEach es X.env:=by rfl) (hpl:(backTo pos (starEach es X.env)).any (·.1)=false:=by rfl) :
  PE X (.Call (.Name x p) (e :: es) [] pos) (cD5 C sp dvs E t):=by
 intro pins s σ H Q I h
 refine gj (xE I hg hm ?_ hdb)
 refine zj (h₀:=X.base) I.ok.mod.kin M.kp (cW (ha pos pins s σ H _ I h) ?_) he hpl;rintro us s1 ⟨vs,H1,I1,r,q⟩;refine ⟨I1.kIn,?_⟩
 exact aR1 M F hr hb hd hx I1 r q
end
section
variable {X:Cx}{CX:CXT}{k:Nat}{f C:Addr}{fd:FuncData}{ps ks:List Str}{sp:Sp}{E:XK}{x m:Str}{p pos apos kpos:Pos}{e o:Expr}{es:List Expr}{kws:List Keyword}{te ta:TE}{t tk:TA}{nm:Option Str}
variable {g:List Value->List Value->List Value}{gV:List V->List V->List V}
end
structure lQ (N P:List Str) (sc:Scope):Prop where
 kind:sc.kind= .function
 co:sc.isCoroutine=false
 gen:sc.isGenerator=false
 nd:N.Nodup
 pre:N.take P.length=P
 par:∀ x∈P,sc.names.lookup x=some .local\/sc.names.lookup x=some .cell
 nofree:∀ y∈sc.names,y.2≠ .free
theorem uM {kindOf:Str->Option NameKind}{x:Str}:∀ {binds:List (Str×Value)}{m:Str->Option Value},(∀ v,(x,v)∉binds)->bindL kindOf binds m x=m x
 | [],_,_=>rfl
 | (n,v) :: r,m,h=>by
  unfold bindL
  rw [uM fun w hw=>h w (aq _ hw)]
  split
  ·have:x≠n:=by rintro rfl;exact h v ao
   simp [this]
  ·rfl
theorem vC {kindOf:Str->Option NameKind}{x:Str}:∀ {binds:List (Str×Value)}{m:Str->Option Value},(∀ v,(x,v)∉binds)->bindC kindOf binds m x=m x
 | [],_,_=>rfl
 | (n,v) :: r,m,h=>by
  unfold bindC
  rw [vC fun w hw=>h w (aq _ hw)]
  split
  ·rfl
  ·have:x≠n:=by rintro rfl;exact h v ao
   simp [this]
theorem uU {kindOf:Str->Option NameKind}{x:Str}{v:Value}:∀ {P:List Str}{vs:List Value}{i:Nat}{m:Str->Option Value},P.Nodup->P[i]?=some x->vs[i]?=some v->kindOf x=some .local ->
  bindL kindOf (P.zip vs) m x=some v
 | [],_,_,_,_,h,_,_=>by simp at h
 | _ :: _,[],_,_,_,_,h,_=>by simp at h
 | p :: P,w :: vs,0,m,nd,h1,h2,hk=>by
  simp at h1 h2;subst h1;subst h2
  show bindL kindOf ((p,w) :: P.zip vs) m p=_
  unfold bindL
  rw [uM fun v hv=>(kg.mp nd).1 (wm hv).1,ay hk]
  simp
 | p :: P,w :: vs,i+1,m,nd,h1,h2,hk=>by
  show bindL kindOf ((p,w) :: P.zip vs) m x=_
  unfold bindL
  exact uU (i:=i) (kg.mp nd).2 (by simpa using h1) (by simpa using h2) hk
theorem uJ {kindOf:Str->Option NameKind}{x:Str}{v:Value}:∀ {P:List Str}{vs:List Value}{i:Nat}{m:Str->Option Value},P.Nodup->P[i]?=some x->vs[i]?=some v->kindOf x≠some .local ->
  bindC kindOf (P.zip vs) m x=some v
 | [],_,_,_,_,h,_,_=>by simp at h
 | _ :: _,[],_,_,_,_,h,_=>by simp at h
 | p :: P,w :: vs,0,m,nd,h1,h2,hk=>by
  simp at h1 h2;subst h1;subst h2
  show bindC kindOf ((p,w) :: P.zip vs) m p=_
  unfold bindC
  rw [vC fun v hv=>(kg.mp nd).1 (wm hv).1,ak hk]
  simp
 | p :: P,w :: vs,i+1,m,nd,h1,h2,hk=>by
  show bindC kindOf ((p,w) :: P.zip vs) m x=_
  unfold bindC
  exact uJ (i:=i) (kg.mp nd).2 (by simpa using h1) (by simpa using h2) hk
def nS (N:List Str) (vs:List V):St:=vs.map some++List.replicate (N.length - vs.length) none
def aE3 (CX:CXT) (P:Program) (w:World) (K:PySem.W.Frag) (mg:Str->Option Value) (base:Heap) (N:List Str) (qual:Str) (scope:Scope) (f:Addr) (cd:Value) (A:Around) (outer:List Env) (s:Shared) (H:Hp) (E:XK):Cx where
 prog:=P
 w:=w
 K:=K
 mg:=mg
 base:=base
 A:=A.deeper (envOfC qual scope s.heap.objs.size f cd)
 N:=N
 s₀:=s
 H₀:=H
 env:=envOfC qual scope s.heap.objs.size f cd
 outer:=outer
 stack:=envOfC qual scope s.heap.objs.size f cd :: outer
 ex:=[]
 calm:=true
 fn:=fun _=>true
 pn:=[]
 xe:=fun e s'=>wpAny (model P w) (A.deeper (envOfC qual scope s.heap.objs.size f cd)) (leaving (envOfC qual scope s.heap.objs.size f cd) e) (fun _ s''=>CX outer H s E e s'') (fun e' s''=>CX outer H s E e' s'') s'
theorem zL {sc:Scope}{n:Nat}{x:Str}(h:sc.names.lookup x=some .cell):∃ c,(cellsFrom n sc.names []).lookup x=some c:=by
 have q:=wt sc.names n [] (.inl h)
 exact vj.mp q
theorem aO8 {CX:CXT}{P:Program}{w:World}{K:PySem.W.Frag}{mg:Str->Option Value}{base:Heap}{N ps:List Str}{qual:Str}{scope:Scope}{f:Addr}{cd:Value}{A:Around}{outer:List Env}{s s1:Shared}{H:Hp}{E:XK}{us:List Value}{vs:List V}
  (S:lQ N ps scope) (hd:A.handled=none) (e0:aA4 P w K mg base A outer s H) (hl:vs.length=ps.length) (r:bF vs us)
  (x:InCallC s s.heap.objs.size (bindL (envOfC qual scope s.heap.objs.size f cd).kindOf (ps.zip us) fun _=>none) (cellsFrom (s.heap.objs.size+1) scope.names []) (bindC (envOfC qual scope s.heap.objs.size f cd).kindOf (ps.zip us) fun _=>none) s1) :
  aW (aE3 CX P w K mg base N qual scope f cd A outer s H E) [] (nS N vs) H s1:=by
 have hpl:ps.length<=N.length:=by have:=fc List.length S.pre;rw [cp] at this;lia
 obtain ⟨h1,tk,rfl,hk⟩:=x.done
 have noA:∀ b:Addr,b∉(aE3 CX P w K mg base N qual scope f cd A outer s H E).ex:=fun b z=>absurd (show b∈([]:List Addr) from z) (by simp)
 refine ⟨⟨e0.mod,S.kind,rfl,rfl,aj _,fun y z c h1 h2=>?_,fun y hy=>?_,fun y c _ h=>?_,fun _=>hd,Around.frames_deeper e0.frames,.inr ⟨rfl,rfl⟩,fun b z=>absurd z (noA b),e0.bs,e0.bsz,fun b _ _=>noA b,fun b z=>absurd z (noA b),e0.funs,e0.frf⟩,
  rfl,e0.bare,Un.kept hk,⟨_,x.toInCall.ns,fun i y v h1 h2 h3=>?_⟩,fun y c h=>⟨_,x.cell y c h⟩,e0.hok.fresh (aj _),fun y c h=>?_,fun p hp=>absurd (show p∈([]:List (Addr×Obj)) from hp) (by simp),e0.hok.kept hk,?_⟩
 ·exact name_of_addr x.apart (jw h1) (jw h2)
 ·have hy:scope.names.lookup y=some .cell\/scope.names.lookup y=some .free:=hy
  rcases hy with hy | hy
  ·exact zL hy
  ·exact absurd rfl (S.nofree _ (jw hy))
 ·exact bu (x.above y c (jw h))
 ·have hi:i < vs.length:=by
   unfold nS at h2
   by_cases hi:i < vs.length
   ·exact hi
   ·rw [List.getElem?_append_right (by simpa using hi)] at h2
    rw [List.getElem?_replicate] at h2
    split at h2 <;> cases h2
  have ha:vs[i]?=some v:=by
   unfold nS at h2
   rw [vd (by simpa using hi),cj] at h2
   cases e:vs[i]? with
   | none=>rw [e] at h2;cases h2
   | some a=>rw [e] at h2;cases h2;rfl
  obtain ⟨u,hu,rv⟩:=r.get ha
  have hp:ps[i]?=some y:=by
   rw [<- S.pre,List.getElem?_take_of_lt (by lia)];exact h1
  have ndP:ps.Nodup:=by rw [<- S.pre];exact S.nd.sublist (List.take_sublist _ _)
  refine ⟨u,rv,?_⟩
  rcases S.par y (be hp) with k | k
  ·exact .inl ⟨k,uU ndP hp hu k⟩
  ·obtain ⟨c,e⟩:=zL (n:=s.heap.objs.size+1) k
   refine .inr ⟨.inl k,c,e,?_⟩
   have q:=x.cell y c e
   rw [uJ ndP hp hu (by show scope.names.lookup y≠_;rw [k];decide)] at q
   exact q
 ·exact e0.hok.fresh (bu (x.above y c (jw h)))
 ·unfold nS
  show _=N.length
  rw [am,ac,qz]
  lia
theorem cI4 {CX:CXT}{P:Program}{w:World}{K:PySem.W.Frag}{mg:Str->Option Value}{base:Heap}{k:Nat}{f:Addr}{name qual:Str}{params:Arguments}{body:List Stmt}{scope:Scope}{dV kV doc pm cdv ct oc:Value}{an od:Option Addr}
  {osl:Array (Option Value)}{N ps:List Str}{sp:Sp}(lk:K.lookup f=some ⟨oc,od,.func (PySem.W.fnOf name qual params body scope dV kV doc pm an cdv ct),osl⟩) (hcd:PySem.W.codeIn K cdv qual=true) (S:lQ N ps scope)
  (len:∀ vs H Q E,sp vs H Q E->vs.length=ps.length)
  (hbody:∀ (A:Around) (outer:List Env) (s:Shared) (H:Hp) (vs:List V) (Q:VK) (E:XK),dQ k (A.deeper (envOfC qual scope s.heap.objs.size f cdv))->sp vs H Q E ->
   ∃ t,xG (aE3 CX P w K mg base N qual scope f cdv A outer s H E) body t/\t { nx:=fun _ H'=>Q .non H',rt:=Q } (nS N vs) H) :
  mM P w K mg base CX (k+1) f (PySem.W.fnOf name qual params body scope dV kV doc pm an cdv ct) ps sp:=by
 refine ⟨len,fun A outer s H args us vs Q E hr e0 hb r hsp=>?_⟩
 have hl:=len _ _ _ _ hsp
 have KX:K.In s.heap:=e0.mod.kin.keeps fun b o e=>(e0.bs b o e).1
 have lim:s.heap.NoLimit:=e0.mod.nolimit.keeps fun b o e=>(e0.bs b o e).1
 have hkind:∀ y∈ps.zip us,scope.names.lookup y.1=some .local\/(scope.names.lookup y.1=some .cell/\((cellsFrom (s.heap.objs.size+1) scope.names []).lookup y.1).isSome=true):=fun ⟨n,v⟩ hy=>by
  rcases S.par n (wm hy).1 with q | q
  ·exact .inl q
  ·exact .inr ⟨q,wt _ _ _ (.inl q)⟩
 refine codeAny_call_function hr.depth (KX _ _ lk) rfl S.co S.gen rfl (PySem.W.codeRec_of KX hcd) (hb _ _ _ _ ?_)
 refine wpAny_newFunctionEnv_cells S.kind hkind fun env he s1 x=>?_
 subst he
 refine ⟨lim.keeps x.toInCall.keep,codeAny_func ?_⟩
 obtain ⟨t,ht,hq⟩:=hbody A outer s H vs Q E (hr.deeper _) hsp
 have I:aW (aE3 CX P w K mg base N qual scope f cdv A outer s H E) [] (nS N vs) H s1:=aO8 S hr.hd e0 hl r x
 refine fj (ht [] s1 (nS N vs) H _ I hq) (fun fl s' hs=>?_) fun e s' hs=>hs
 have fin:∀ {σ':St}{H':Hp}{v:V}{u:Value},aW (aE3 CX P w K mg base N qual scope f cdv A outer s H E) [] σ' H' s'->bL v u->Q v H'->CE outer P w H s Q u s' :=
  fun {σ' H' v u} J rv q=>⟨v,H',J.os,J.bare,J.base,J.hok,rv,q⟩
 cases fl with
 | ret u =>
  obtain ⟨v,σ',H',J,rv,q⟩:=hs
  exact fin J rv q
 | next =>
  obtain ⟨σ',H',J,q⟩:=hs
  exact fin (v:=V.non) (u:=Value.none) J rfl q
 | brk =>
  obtain ⟨_,_,_,q⟩:=hs
  exact False.elim q
 | cont =>
  obtain ⟨_,_,_,q⟩:=hs
  exact False.elim q
section
variable {X:Cx}{x:Str}{p pos:Pos}{e:Expr}{es:List Expr}{t:TA}{id T:String}{r:List V->Hp->VK->Prop}
def tCB (r:List V->Hp->VK->Prop) (t:TA):TE:=fun σ H Q=>t σ H fun vs H1=>r vs H1 Q
theorem rX (hc:gM X (.builtin id) r) (hg:Gl X x) (hm:X.mg x=none) (hv:bootBuiltins x=some (.builtin id)) (ha:PA X (e :: es) t) (hn:x≠"__name__":=by decide) (hdb:(x == ("__debug__": Str))=false:=by decide)
  (he:starEach (e :: es) X.env=(false,eval e X.env) :: starEach es X.env:=by rfl) (hpl:(backTo pos (starEach es X.env)).any (·.1)=false:=by rfl):PE X (.Call (.Name x p) (e :: es) [] pos) (tCB r t):=by
 intro pins s σ H Q I h
 refine gj (iT I hg hm hv ?_ hn hdb)
 refine PyProof.Rows.callWith_builtin1 (cW (ha pos pins s σ H _ I h) ?_) he hpl;rintro us s1 ⟨vs,H1,I1,r1,q1⟩;exact hc pins s1 σ H1 vs us Q I1 r1 q1
theorem aP8 (hc:gM X (.type T) r) (hg:Gl X x) (hm:X.mg x=none) (hv:bootBuiltins x=some (.type T)) (ha:PA X (e :: es) t) (hn:x≠"__name__":=by decide) (hdb:(x == ("__debug__": Str))=false:=by decide)
  (he:starEach (e :: es) X.env=(false,eval e X.env) :: starEach es X.env:=by rfl) (hpl:(backTo pos (starEach es X.env)).any (·.1)=false:=by rfl):PE X (.Call (.Name x p) (e :: es) [] pos) (tCB r t):=by
 intro pins s σ H Q I h
 refine gj (iT I hg hm hv ?_ hn hdb)
 refine fh (cW (ha pos pins s σ H _ I h) ?_) he hpl;rintro us s1 ⟨vs,H1,I1,r1,q1⟩;exact hc pins s1 σ H1 vs us Q I1 r1 q1
end
section
variable {κ: Type} [DecidableEq κ]
def bP (kvs:List (κ×V)) (k:κ):Option V:=(kvs.find? fun kv=>decide (kv.1=k)).map (·.2)
def cX (kvs:List (κ×V)) (k:κ) (v:V):List (κ×V) :=
 if (kvs.any fun kv=>decide (kv.1=k))=true then kvs.map (fun kv=>if kv.1=k then (kv.1,v) else kv) else kvs++[(k,v)]
theorem qH {k:κ}:bP ([]:List (κ×V)) k=none:=rfl
theorem dF {p:κ×V}{r:List (κ×V)}{k:κ}(e:p.1=k):bP (p :: r) k=some p.2:=by simp [bP,List.find?_cons,e]
theorem cK {p:κ×V}{r:List (κ×V)}{k:κ}(e:¬ p.1=k):bP (p :: r) k=bP r k:=by simp [bP,List.find?_cons,e]
theorem jI (k:κ):∀ kvs:List (κ×V),(kvs.any fun kv=>decide (kv.1=k))=(bP kvs k).isSome
 | []=>rfl
 | p :: r=>by
  rw [ph]
  by_cases e:p.1=k
  ·simp only [dF e,decide_eq_true e,Bool.true_or,Option.isSome_some]
  ·rw [cK e,cz e,Bool.false_or];exact jI k r
theorem zY (k j:κ) (y:V):∀ kvs:List (κ×V),bP (kvs.map fun kv=>if kv.1=k then (kv.1,y) else kv) j=(bP kvs j).map fun x=>if j=k then y else x
 | []=>rfl
 | p :: r=>by
  have ih:=zY k j y r
  rw [dq]
  by_cases h:p.1=k
  ·rw [ay h]
   by_cases e:p.1=j
   ·rw [dF (p:=(p.1,y)) e,dF e,rj,ay (e.symm.trans h)]
   ·rw [cK (p:=(p.1,y)) e,cK e,ih]
  ·rw [ak h]
   by_cases e:p.1=j
   ·rw [dF (p:=p) e,dF e,rj,ak (fun z=>h (e.trans z))]
   ·rw [cK (p:=p) e,cK e,ih]
theorem vD (k j:κ) (y:V):∀ kvs:List (κ×V),bP kvs k=none->bP (kvs++[(k,y)]) j=if j=k then some y else bP kvs j
 | [],_=>by
  by_cases e:k=j
  ·rw [ay e.symm];exact dF (p:=(k,y)) e
  ·rw [ak (fun z=>e z.symm)];exact cK (p:=(k,y)) e
 | p :: r,hn=>by
  rw [List.cons_append]
  have hk:¬ p.1=k:=fun z=>by rw [dF z] at hn;cases hn
  rw [cK hk] at hn
  have ih:=vD k j y r hn
  by_cases e:p.1=j
  ·rw [dF e,dF e,ak (fun z=>hk (e.trans z))]
  ·rw [cK e,cK e,ih]
theorem aP (kvs:List (κ×V)) (k j:κ) (y:V):bP (cX kvs k y) j=if j=k then some y else bP kvs j:=by
 unfold cX
 by_cases a:(kvs.any fun kv=>decide (kv.1=k))=true
 ·rw [ay a,zY]
  rw [jI] at a
  by_cases e:j=k
  ·obtain ⟨x,hx⟩:=vj.mp a
   rw [ay e,e,hx,rj,ay rfl]
  ·rw [ak e]
   cases bP kvs j with
   | none=>rfl
   | some x=>rw [rj,ak e]
 ·rw [ak a]
  refine vD k j y kvs ?_
  rw [jI] at a
  cases q:bP kvs k with
  | none=>rfl
  | some x=>rw [q] at a;exact (a rfl).elim
theorem bS (kvs:List (κ×V)) (k:κ) (v:V):(cX kvs k v).length<=kvs.length+1:=by
 unfold cX
 split
 ·rw [ac];(exact jy _)
 ·rw [am,bo,jc];(exact aj _)
theorem sX {kvs:List (κ×V)}{k:κ}(v:V) (h:bP kvs k=none):cX kvs k v=kvs++[(k,v)]:=by
 unfold cX
 rw [jI,h]
 exact ak (by decide)
theorem jE.isSome_eq {o:Option V}{u:Option Value}(r:jE o u):o.isSome=u.isSome:=by
 cases o with
 | none=>cases u with
  | none=>rfl
  | some _=>exact (show False from r).elim
 | some _=>cases u with
  | none=>exact (show False from r).elim
  | some _=>rfl
theorem jE.getD {o:Option V}{u:Option Value}{d:V}{d':Value}(r:jE o u) (rd:bL d d'):bL (o.getD d) (u.getD d'):=by
 cases o with
 | none=>cases u with
  | none=>exact rd
  | some _=>exact (show False from r).elim
 | some _=>cases u with
  | none=>exact (show False from r).elim
  | some _=>exact r
theorem KV.val {kvs:List (κ×V)}{vs:List (κ×Value)}(r:KV kvs vs) (k:κ):jE (bP kvs k) (valueAt vs k):=by
 unfold KV at r
 induction r with
 | nil=>exact ir
 | @cons p q ps qs h t ih =>
  obtain ⟨h1,h2⟩:=h
  by_cases e:p.1=k
  ·have e':q.1=k:=h1.symm.trans e
   have b:valueAt (q :: qs) k=some q.2:=by simp [valueAt,List.find?_cons,e']
   rw [dF e,b];exact h2
  ·have e':¬ q.1=k:=fun z=>e (h1.trans z)
   have b:valueAt (q :: qs) k=valueAt qs k:=by simp [valueAt,List.find?_cons,e']
   rw [cK e,b];exact ih
theorem KV.any {kvs:List (κ×V)}{vs:List (κ×Value)}(r:KV kvs vs) (k:κ):(kvs.any fun kv=>decide (kv.1=k))=vs.any fun kv=>decide (kv.1=k):=by
 unfold KV at r
 induction r with
 | nil=>rfl
 | cons h t ih=>rw [ph,ph,ih,h.1]
theorem KV.repl {kvs:List (κ×V)}{vs:List (κ×Value)}(r:KV kvs vs) (k:κ) {y:V}{u:Value}(ry:bL y u) :
  KV (kvs.map fun kv=>if kv.1=k then (kv.1,y) else kv) (vs.map fun kv=>if kv.1=k then (kv.1,u) else kv):=by
 unfold KV at r ⊢
 induction r with
 | nil=>exact .nil
 | @cons p q ps qs h t ih =>
  rw [dq,dq]
  refine .cons ?_ ih
  obtain ⟨h1,h2⟩:=h
  by_cases e:p.1=k
  ·rw [ay e,ay (h1.symm.trans e)];exact ⟨h1,ry⟩
  ·rw [ak e,ak (fun z=>e (h1.trans z))];exact ⟨h1,h2⟩
theorem KV.put {kvs:List (κ×V)}{vs:List (κ×Value)}(r:KV kvs vs) (k:κ) {y:V}{u:Value}(ry:bL y u):KV (cX kvs k y) (stored vs k u):=by
 unfold cX stored
 rw [r.any k]
 by_cases e:(vs.any fun kv=>decide (kv.1=k))=true
 ·rw [ay e,ay e];exact r.repl k ry
 ·rw [ak e,ak e];exact Paired.snoc r ⟨rfl,ry⟩
theorem KV.length {kvs:List (κ×V)}{vs:List (κ×Value)}(r:KV kvs vs):kvs.length=vs.length:=qw r
end
theorem nU {P:Program}{w:World}{k:Key}{u:Value}(r:bL (kV k) u):(aY P w).is k u=true:=by
 cases k with
 | inl i=>obtain ⟨t,e⟩:=(show ∃ t,u=Value.int i t from r);subst e;exact xT P w i t
 | inr x=>obtain ⟨t,e⟩:=(show ∃ t,u=Value.str x t from r);subst e;exact zP P w x t
theorem tZ {P:Program}{w:World}:∀ {ks:List Key}{us:List Value},bF (ks.map kV) us->ItemsAre (aY P w) ks us
 | [],_,r=>by rw [vk] at r;cases r;exact .nil
 | k :: ks,_,r=>by
  rw [dq] at r
  cases r with
  | cons h t=>exact .cons (nU h) (tZ t)
abbrev KT (H:Hp):List (List Key×V)->List (List Key×Addr×Value)->Prop:=Paired fun p q=>p.1=q.1/\H q.2.1=some (.tup (p.1.map kV))/\bL p.2 q.2.2
theorem KT.val {H:Hp}{kvs:List (List Key×V)}{xs:List (List Key×Addr×Value)}(r:KT H kvs xs) (k:List Key):jE (bP kvs k) ((atKey xs k).map (·.2)):=by
 induction r with
 | nil=>exact ir
 | @cons p q ps qs h t ih =>
  obtain ⟨h1,_,h2⟩:=h
  by_cases e:p.1=k
  ·have e':q.1=k:=h1.symm.trans e
   have b:atKey (q :: qs) k=some q.2:=by simp [atKey,List.find?_cons,e']
   rw [dF e,b];exact h2
  ·have e':¬ q.1=k:=fun z=>e (h1.trans z)
   have b:atKey (q :: qs) k=atKey qs k:=by simp [atKey,List.find?_cons,e']
   rw [cK e,b];exact ih
theorem KT.repl {H:Hp}{kvs:List (List Key×V)}{xs:List (List Key×Addr×Value)}(r:KT H kvs xs) (k:List Key) {y:V}{u:Value}(ry:bL y u) :
  KT H (kvs.map fun kv=>if kv.1=k then (kv.1,y) else kv) (xs.map (putAt k u)):=by
 induction r with
 | nil=>exact .nil
 | @cons p q ps qs h t ih =>
  rw [dq,dq]
  refine .cons ?_ ih
  obtain ⟨h1,h2,h3⟩:=h
  unfold putAt
  by_cases e:p.1=k
  ·rw [ay e,ay (h1.symm.trans e)];exact ⟨h1,h2,ry⟩
  ·rw [ak e,ak (fun z=>e (h1.trans z))];exact ⟨h1,h2,h3⟩
theorem KT.put {H:Hp}{kvs:List (List Key×V)}{xs:List (List Key×Addr×Value)}(r:KT H kvs xs) (k:List Key) {b:Addr}{y:V}{u:Value}(hb:H b=some (.tup (k.map kV))) (ry:bL y u) :
  KT H (cX kvs k y) (storedH xs k b u):=by
 have e:(kvs.any fun kv=>decide (kv.1=k))=(atKey xs k).isSome:=by
  rw [jI,(r.val k).isSome_eq,va]
 unfold cX storedH
 rw [e]
 by_cases q:(atKey xs k).isSome=true
 ·rw [ay q,ay q];exact r.repl k ry
 ·rw [ak q,ak q];exact Paired.snoc r ⟨rfl,hb,ry⟩
theorem KT.keeps {H H':Hp}{kvs:List (List Key×V)}{xs:List (List Key×Addr×Value)}(r:KT H kvs xs) (ht:∀ b ys,H b=some (.tup ys)->H' b=some (.tup ys)):KT H' kvs xs :=
 Paired.mapP r fun _ _ z=>⟨z.1,ht _ _ z.2.1,z.2.2⟩
section
variable {P:Program}{w:World}{H:Hp}{h:Heap}{a:Addr}
theorem bL7 {u:HO}(ok:mN P w H h) (e:Rd H a u):dH P w H h a u:=e.ok ok
theorem sZ {kvs:List (Key×V)}(ok:mN P w H h) (e:Rd H a (.dK kvs)):kvs.length<=sizeLine/\(a == sysModules)=false/\∃ vs,KV kvs vs/\h.DictOf (aY P w) a vs :=
 show dH P w H h a (.dK kvs) from bL7 ok e
theorem aG2 {kvs:List (Key×V)}(ok:mN P w H h) (e:H a=some (.dK kvs)):kvs.length<=sizeLine/\(a == sysModules)=false/\∃ vs,KV kvs vs/\h.DictOf (aY P w) a vs:=sZ ok (.inl e)
theorem nY {ks:List Key}(ok:mN P w H h) (e:H a=some (.tup (ks.map kV))):(tupleKind (aY P w)).is h ks a:=by
 obtain ⟨_,its,r,o,h1,h2,n,h3,_⟩:=(show dH P w H h a (.tup (ks.map kV)) from ok a _ e)
 exact ⟨o,its.toArray,n,h1,h2,h3,by simpa using tZ r⟩
theorem rK {kvs:List (List Key×V)}(ok:mN P w H h) (e:Rd H a (.dT kvs)):kvs.length<=sizeLine/\(a == sysModules)=false /\
  ∃ xs,KT H kvs xs/\h.DictOfH (tupleKind (aY P w)) a xs:=by
 obtain ⟨z,y,xs,r,o,es,ep,h1,h2,h3,h4,h5⟩:=(show dH P w H h a (.dT kvs) from bL7 ok e)
 refine ⟨z,y,xs,r,o,es,ep,h1,h2,h3,h4,fun x hx=>?_,h5⟩
 have all:∀ {l:List (List Key×V)}{m:List (List Key×Addr×Value)},KT H l m->∀ x∈m,(tupleKind (aY P w)).is h x.1 x.2.1:=by
  intro l m q
  induction q with
  | nil=>intro x hx;exact nomatch hx
  | @cons p q ps qs hq t ih =>
   intro x hx
   rcases cf.mp hx with e | hx
   ·subst e
    exact nY ok (by rw [<- hq.1];exact hq.2.1)
   ·exact ih x hx
 exact all r x hx
theorem cG3 {kvs:List (List Key×V)}(ok:mN P w H h) (e:H a=some (.dT kvs)):kvs.length<=sizeLine/\(a == sysModules)=false /\
  ∃ xs,KT H kvs xs/\h.DictOfH (tupleKind (aY P w)) a xs:=rK ok (.inl e)
end
def dG (H:Hp) (a:Addr) (y:V) (r:Option V):Prop :=
 (∃ kvs k,Rd H a (.dK kvs)/\y=kV k/\r=bP kvs k)\/∃ kvs k b,Rd H a (.dT kvs)/\y= .ref b/\H b=some (.tup (k.map kV))/\r=bP kvs k
def iY (H:Hp) (a:Addr) (y v:V) (H':Hp):Prop :=
 (∃ kvs k,H a=some (.dK kvs)/\y=kV k/\kvs.length < sizeLine/\H'=aQ H a (.dK (cX kvs k v))) \/
 ∃ kvs k b,H a=some (.dT kvs)/\y= .ref b/\H b=some (.tup (k.map kV))/\kvs.length < sizeLine/\H'=aQ H a (.dT (cX kvs k v))
theorem dG.k {H:Hp}{a:Addr}{kvs:List (Key×V)}{k:Key}(e:H a=some (.dK kvs)):dG H a (kV k) (bP kvs k):= .inl ⟨kvs,k,.inl e,rfl,rfl⟩
theorem dG.t {H:Hp}{a b:Addr}{kvs:List (List Key×V)}{k:List Key}(e:H a=some (.dT kvs)) (eb:H b=some (.tup (k.map kV))):dG H a (.ref b) (bP kvs k):= .inr ⟨kvs,k,b,.inl e,rfl,eb,rfl⟩
theorem iY.k {H:Hp}{a:Addr}{kvs:List (Key×V)}{k:Key}{v:V}(e:H a=some (.dK kvs)) (hl:kvs.length < sizeLine):iY H a (kV k) v (aQ H a (.dK (cX kvs k v))):= .inl ⟨kvs,k,e,rfl,hl,rfl⟩
theorem iY.t {H:Hp}{a b:Addr}{kvs:List (List Key×V)}{k:List Key}{v:V}(e:H a=some (.dT kvs)) (eb:H b=some (.tup (k.map kV))) (hl:kvs.length < sizeLine) :
  iY H a (.ref b) v (aQ H a (.dT (cX kvs k v))):= .inr ⟨kvs,k,b,e,rfl,eb,hl,rfl⟩
section
variable {X:Cx}{pins:List (Addr×Obj)}{σ: St}{H:Hp}{s:Shared}{a:Addr}{y v:V}{u r:Value}{o:Option V}{A:Around}{E:Value->Shared->Prop}
theorem aW.big (I:aW X pins σ H s):sysModules < s.heap.objs.size:=by
 have h:mainGlobals < s.heap.objs.size:=(I.mod.glob.keeps I.bk).lt
 exact zk (by decide) h
theorem aP9 {Q:Value->Shared->Prop}(hu:A.units+1 < cLine) (I:aW X pins σ H s) (g:dG H a y (some v)) (ry:bL y u) (h:∀ w' s',aW X pins σ H s'->bL v w'->Q w' s') :
  wpAny (model X.prog X.w) A (getItem (.ref a) u) Q E s:=by
 rcases g with ⟨kvs,k,e,ey,l⟩ | ⟨kvs,k,b,e,ey,eb,l⟩
 ·subst ey
  obtain ⟨z,hd,vs,rel,dd⟩:=sZ I.hok e
  obtain ⟨w',hw,rw'⟩:=jE.some_of (v:=v) (o:=valueAt vs k) (by rw [l];exact rel.val k)
  exact wpAny_getItem_of (nU ry) dd.mapOf hw (h w' _ (I.tok _) rw')
 ·subst ey
  cases (show u=Value.ref b from ry)
  obtain ⟨z,hd,xs,rel,dd⟩:=rK I.hok e
  obtain ⟨w',hw,rw'⟩:=jE.some_of (v:=v) (o:=(atKey xs k).map (·.2)) (by rw [l];exact rel.val k)
  obtain ⟨p,hp,hp2⟩:=Option.map_eq_some_iff.mp hw
  refine wpAny_getItem_heap (nr hu) (nY I.hok eb) dd hp ?_
  rw [hp2]
  exact h w' _ (I.tok _) rw'
theorem cL7 {Q:Value->Shared->Prop}(hu:A.units+1 < cLine) (I:aW X pins σ H s) (g:dG H a y o) (ry:bL y u) (h:∀ s',aW X pins σ H s'->Q (.bool o.isSome) s') :
  wpAny (model X.prog X.w) A (compareOp .In u (.ref a)) Q E s:=by
 rcases g with ⟨kvs,k,e,ey,l⟩ | ⟨kvs,k,b,e,ey,eb,l⟩
 ·subst ey
  obtain ⟨z,hd,vs,rel,dd⟩:=sZ I.hok e
  refine wpAny_in_of (nU ry) hd dd.mapOf ?_
  rw [<- (rel.val k).isSome_eq, <- l]
  exact h _ (I.tok _)
 ·subst ey
  cases (show u=Value.ref b from ry)
  obtain ⟨z,hd,xs,rel,dd⟩:=rK I.hok e
  refine wpAny_in_heap (nr hu) (nY I.hok eb) hd dd ?_
  have q:=(rel.val k).isSome_eq
  rw [va] at q
  rw [<- q, <- l]
  exact h _ (I.tok _)
theorem bD2 {Q:Value->Shared->Prop}(hu:A.units+1 < cLine) (I:aW X pins σ H s) (g:dG H a y o) (ry:bL y u) (h:∀ s',aW X pins σ H s'->Q (.bool (!o.isSome)) s') :
  wpAny (model X.prog X.w) A (compareOp .NotIn u (.ref a)) Q E s:=by
 rcases g with ⟨kvs,k,e,ey,l⟩ | ⟨kvs,k,b,e,ey,eb,l⟩
 ·subst ey
  obtain ⟨z,hd,vs,rel,dd⟩:=sZ I.hok e
  refine wpAny_notIn_of (nU ry) hd dd.mapOf ?_
  rw [<- (rel.val k).isSome_eq, <- l]
  exact h _ (I.tok _)
 ·subst ey
  cases (show u=Value.ref b from ry)
  obtain ⟨z,hd,xs,rel,dd⟩:=rK I.hok e
  refine wpAny_notIn_heap (nr hu) (nY I.hok eb) hd dd ?_
  have q:=(rel.val k).isSome_eq
  rw [va] at q
  rw [<- q, <- l]
  exact h _ (I.tok _)
theorem pM {h':Heap}{t':Nat}{ob:HO}(I:aW X pins σ H s) (mu:Mut (H a)) (hs:Heap.SameBut a s.heap h') (he:∃ q,h'.get? a=some q) (new:dH X.prog X.w (aQ H a ob) h' a ob) :
  aW X pins σ (aQ H a ob) { s with heap:=h',toks:=t' } :=
 I.write (x:=a) (e:=a) mu (.inl rfl) (fun b q hb z=>(hs.2 b hb).trans z) he new
theorem aB9 {P:Program}{w:World}{H':Hp}{h':Heap}{kvs:List (Key×V)}{vs:List (Key×Value)}(z:kvs.length<=sizeLine) (hd:(a == sysModules)=false) (rel:KV kvs vs) (dd:h'.DictOf (aY P w) a vs) :
  dH P w H' h' a (.dK kvs):=⟨z,hd,vs,rel,dd⟩
theorem aL8 {H':Hp}{Q:Unit->Shared->Prop}(hu:A.units+1 < cLine) (I:aW X pins σ H s) (g:iY H a y v H') (ry:bL y u) (rv:bL v r) (h:∀ s',aW X pins σ H' s'->Q () s') :
  wpAny (model X.prog X.w) A (setItem (.ref a) u r) Q E s:=by
 rcases g with ⟨kvs,k,e,ey,l,eH⟩ | ⟨kvs,k,b,e,ey,eb,l,eH⟩
 ·subst ey eH
  obtain ⟨z,hd,vs,rel,dd⟩:=aG2 I.hok e
  have hz:vs.length<=sizeLine:=by rw [<- rel.length];exact z
  have hl:(cX kvs k v).length<=sizeLine:=by have:=bS kvs k v;lia
  refine wpAny_setItem_pairs (hsz:=hz) (nU ry) dd fun h' dd' hs=>h _ ?_
  have he:∃ q,h'.get? a=some q:=by obtain ⟨q,_,_,hq,_⟩:=dd';exact ⟨q,hq⟩
  exact pM I (by rw [e];exact ir) hs he (aB9 hl hd (rel.put k rv) dd')
 ·subst ey eH
  cases (show u=Value.ref b from ry)
  obtain ⟨z,hd,xs,rel,dd⟩:=cG3 I.hok e
  have hz:xs.length<=sizeLine:=by rw [<- qw rel];exact z
  have hl:(cX kvs k v).length<=sizeLine:=by have:=bS kvs k v;lia
  refine wpAny_setItem_heap (hsz:=hz) (nr hu) (nY I.hok eb) dd fun h' dd' hs=>h _ ?_
  obtain ⟨q,es,ep,hq,h2,h3,h4,_,h5⟩:=dd'
  refine pM I (by rw [e];exact ir) hs ⟨q,hq⟩ ⟨hl,hd,_,(rel.put k eb rv).keeps fun c ys ec=>?_,q,es,ep,hq,h2,h3,h4,h5⟩
  rw [aI (dD ec e (fun z=>nomatch z))]
  exact ec
end
section
variable {X:Cx}{pins:List (Addr×Obj)}{σ: St}{H:Hp}{s:Shared}{a:Addr}{kvs:List (Key×V)}{k:Key}{u:Value}{A:Around}{E:Value->Shared->Prop}
end
def bO9 (i:Expr):Prop:=∀ ov iv,subscripted i false ov iv=operate [ov,iv] (getItem ov iv)
theorem bJ1 {prog:Program}{w:World}{A:Around}{E:Value->Shared->Prop}{s:Shared}{env:Env}{value slice:Expr}{pos:Pos}{T id:String}{Q:Value->Shared->Prop}
  (hl:typeLookup (.type T) "__getitem__"=pure (some (.builtin id))) (hs:bO9 slice)
  (h:wpAny (model prog w) A (eval value env) (fun o s₁=>wpAny (model prog w) A (eval slice env) (fun i s₂=>s₂.TypeIs o T/\wpAny (model prog w) A (getItem o i) Q E s₂) E s₁) E s) :
  wpAny (model prog w) A (eval (.Subscript value slice pos) env) Q E s:=by
 refine Subscript_ (fj h (fun o s₁ h₁=>fj h₁ (fun i s₂ h₂=>?_) fun _ _ x=>x) fun _ _ x=>x)
 obtain ⟨hT,h₂⟩:=h₂
 unfold subscriptTail
 refine aa ?_
 rw [getitemInPython_of_ne hT.not_modules]
 refine aa (nt hT hl ?_)
 have fin:wpAny (model prog w) A (subscripted slice false o i) (fun r s₃=>wpAny (model prog w) A (letTemporaryGo value o r >>= fun _=>pure r) Q E s₃) E s₂:=by
  rw [hs o i]
  exact wpAny_operating (fj h₂ (fun r s₃ h₃=>aa (wpAny_letTemporaryGo (af h₃))) fun _ _ x=>x)
 first
  | exact af (aa fin)
  | exact aa (af (aa fin))
  | exact aa fin
theorem yX {X:Cx}{pins:List (Addr×Obj)}{σ: St}{H:Hp}{s:Shared}{a:Addr}{y:V}{o:Option V}(I:aW X pins σ H s) (g:dG H a y o):s.TypeIs (.ref a) "dict":=by
 rcases g with ⟨kvs,k,e,_,_⟩ | ⟨kvs,k,b,e,_,_,_⟩
 ·obtain ⟨_,_,vs,_,dd⟩:=sZ I.hok e
  exact dd.typeIs
 ·obtain ⟨_,_,xs,_,dd⟩:=rK I.hok e
  exact dd.typeIs
def aW5 (td ty:TE):TE:=fun σ H Q=>td σ H fun x H1=>ty σ H1 fun y H2=>∃ a v,x= .ref a/\dG H2 a y (some v)/\Q v H2
def cN6 (ty td:TE):TE:=fun σ H Q=>ty σ H fun y H1=>td σ H1 fun x H2=>∃ a o,x= .ref a/\dG H2 a y o/\Q (.bl o.isSome) H2
def bF5 (ty td:TE):TE:=fun σ H Q=>ty σ H fun y H1=>td σ H1 fun x H2=>∃ a o,x= .ref a/\dG H2 a y o/\Q (.bl (!o.isSome)) H2
def aU1 (td ty tv:TE):TS:=fun D σ H=>tv σ H fun v H1=>td σ H1 fun x H2=>ty σ H2 fun y H3=>∃ a H4,x= .ref a/\iY H3 a y v H4/\D.nx σ H4
section
variable {X:Cx}{o i e value:Expr}{pos pos' tpos:Pos}{td ty tv:TE}
theorem iS (hu:X.A.units+1 < cLine) (ho:PE X o td) (hi:PE X i ty) (hs:bO9 i):PE X (.Subscript o i pos) (aW5 td ty):=by
 intro pins s σ H Q I h
 refine bJ1 PySem.F.slot_dict_getitem.lookup hs (cW (ho pins s σ H _ I h) ?_);rintro u s1 ⟨x,H1,I1,rx,q1⟩;refine cW (hi pins s1 σ H1 _ I1 q1) ?_;rintro iv s2 ⟨y,H2,I2,ry,a,v,ex,g,q2⟩
 subst ex
 obtain rfl:u=Value.ref a:=rx
 exact ⟨yX I2 g,aP9 hu I2 g ry fun w' s3 I3 rw'=>⟨v,H2,I3,rw',q2⟩⟩
theorem bX5 (hu:X.A.units+1 < cLine) (hi:PE X i ty) (ho:PE X o td):PC X .In i o (cN6 ty td):=by
 intro pins s σ H Q I h
 refine cW (hi pins s σ H _ I h) ?_;rintro iv s1 ⟨y,H1,I1,ry,q1⟩;refine cW (ho pins s1 σ H1 _ I1 q1) ?_;rintro u s2 ⟨x,H2,I2,rx,a,ov,ex,g,q2⟩
 subst ex
 obtain rfl:u=Value.ref a:=rx
 exact cL7 hu I2 g ry fun s3 I3=>⟨.bl ov.isSome,H2,I3,rfl,q2⟩
theorem aO0 (hu:X.A.units+1 < cLine) (hi:PE X i ty) (ho:PE X o td):PC X .NotIn i o (bF5 ty td):=by
 intro pins s σ H Q I h
 refine cW (hi pins s σ H _ I h) ?_;rintro iv s1 ⟨y,H1,I1,ry,q1⟩;refine cW (ho pins s1 σ H1 _ I1 q1) ?_;rintro u s2 ⟨x,H2,I2,rx,a,ov,ex,g,q2⟩
 subst ex
 obtain rfl:u=Value.ref a:=rx
 exact bD2 hu I2 g ry fun s3 I3=>⟨.bl (!ov.isSome),H2,I3,rfl,q2⟩
theorem pQ (hu:X.A.units+1 < cLine) (ho:PE X o td) (hi:PE X i ty) (hv:PE X value tv) (hs:swapsWith value (some (.Subscript o i pos')) pos.line X.env=pure false) :
  PS X (.Assign [.Subscript o i pos'] value pos) (aU1 td ty tv):=by
 intro pins s σ H D I h
 refine wpAny_Assign_Subscript (cW (hv pins s σ H _ I h) ?_) hs;rintro r s1 ⟨v,H1,I1,rv,q1⟩;refine cW (ho pins s1 σ H1 _ I1 q1) ?_;rintro u s2 ⟨x,H2,I2,rx,q2⟩;refine cW (hi pins s2 σ H2 _ I2 q2) ?_;rintro iv s3 ⟨y,H3,I3,ry,a,H4,ex,g,q3⟩
 subst ex
 obtain rfl:u=Value.ref a:=rx
 exact aL8 hu I3 g ry rv fun s4 I4=>⟨σ,H4,I4,q3⟩
end
theorem xU {P:Program}{w:World}{H:Hp}(h:Heap) (hb:sysModules < h.objs.size):dH P w H (h.push { cls:= .type "dict",data:= .dict #[] }) h.objs.size (.dK []) :=
 ⟨bj _,jd.mpr (Ne.symm (bq hb)),[],.nil,Heap.DictOf.new h⟩
theorem aR2 {P:Program}{w:World}{H:Hp}(h:Heap) (hb:sysModules < h.objs.size):dH P w H (h.push { cls:= .type "dict",data:= .dict #[] }) h.objs.size (.dT []) :=
 ⟨bj _,jd.mpr (Ne.symm (bq hb)),[],.nil,_, #[],0,az _ rfl,⟨rfl,rfl,rfl⟩,rfl,rfl,uc⟩
def tDNewK:TE:=fun _ H Q=>∀ p,H p=none->Q (.ref p) (aQ H p (.dK []))
def tDNewT:TE:=fun _ H Q=>∀ p,H p=none->Q (.ref p) (aQ H p (.dT []))
section
variable {X:Cx}{pos:Pos}
theorem zO:PE X (.Dict [] [] pos) tDNewK:=fun pins s σ H Q I h =>
 wpAny_Dict_empty ⟨.ref s.heap.objs.size,_,I.laid (a:=s.heap.objs.size) (o:= .dK []) (t':=s.toks) (fun _ _ q=>ae _ q) (aj _) (xU s.heap I.big),rfl,h _ (I.hok.fresh (aj _))⟩
theorem zC:PE X (.Dict [] [] pos) tDNewT:=fun pins s σ H Q I h =>
 wpAny_Dict_empty ⟨.ref s.heap.objs.size,_,I.laid (a:=s.heap.objs.size) (o:= .dT []) (t':=s.toks) (fun _ _ q=>ae _ q) (aj _) (aR2 s.heap I.big),rfl,h _ (I.hok.fresh (aj _))⟩
end
def aC5:List (TE×TE)->St->Hp->(List (V×V)->Hp->Prop)->Prop
 | [],_,H,Q=>Q [] H
 | (tk,tv) :: r,σ,H,Q=>tk σ H fun x H1=>tv σ H1 fun y H2=>aC5 r σ H2 fun ps H3=>Q ((x,y) :: ps) H3
abbrev VV:List (V×V)->List (Value×Value)->Prop:=Paired fun p q=>bL p.1 q.1/\bL p.2 q.2
def PPs (X:Cx) (pos:Pos) (gL:List (Option Expr)) (values:List Expr) (trs:List (TE×TE)):Prop :=
 ∀ (pins:List (Addr×Obj)) (s:Shared) (σ: St) (H:Hp) (Q:List (V×V)->Hp->Prop),aW X pins σ H s->aC5 trs σ H Q ->
  wpAny (model X.prog X.w) X.A (evalPairs (pairTrees gL values X.env pos)) (fun vs s'=>∃ ps H',aW X pins σ H' s'/\VV ps vs/\Q ps H') X.xe s
theorem xD {X:Cx}{pos:Pos}:PPs X pos [] [] []:=fun pins s σ H Q I h=>pairTrees_nil_walk ⟨[],H,I,.nil,h⟩
theorem eK {X:Cx}{pos:Pos}{k v:Expr}{ks:List (Option Expr)}{vs:List Expr}{tk tv:TE}{trs:List (TE×TE)}(hk:PE X k tk) (hv:PE X v tv) (hr:PPs X pos ks vs trs) :
  PPs X pos (some k :: ks) (v :: vs) ((tk,tv) :: trs):=fun pins s σ H Q I h =>
 pairTrees_cons_walk (cW (hk pins s σ H _ I h) fun u s1 ⟨x,H1,I1,rx,q1⟩=>cW (hv pins s1 σ H1 _ I1 q1) fun w2 s2 ⟨y,H2,I2,ry,q2⟩ =>
  cW (hr pins s2 σ H2 _ I2 q2) (by rintro ws s3 ⟨ps,H3,I3,rel,q3⟩;exact ⟨(x,y) :: ps,H3,I3,.cons ⟨rx,ry⟩ rel,q3⟩))
def fU (kvs more:List (Key×V)):List (Key×V):=more.foldl (fun acc kv=>cX acc kv.1 kv.2) kvs
theorem KV.merge:∀ {more:List (Key×V)}{rs:List (Key×Value)}{kvs:List (Key×V)}{vs:List (Key×Value)},KV more rs->KV kvs vs->KV (fU kvs more) (merged vs rs):=by
 intro more rs kvs vs r
 unfold KV at r
 induction r generalizing kvs vs with
 | nil=>intro q;exact q
 | @cons p q ps qs h t ih =>
  intro r0
  have e:KV (cX kvs p.1 p.2) (stored vs q.1 q.2):=by
   have:=r0.put p.1 h.2
   rw [<- h.1];exact this
  exact ih e
theorem mD:∀ (more kvs:List (Key×V)),(fU kvs more).length<=kvs.length+more.length
 | [],kvs=>by show kvs.length<=kvs.length+0;(exact oqI)
 | p :: r,kvs=>by
  have h1:=mD r (cX kvs p.1 p.2)
  have h2:=bS kvs p.1 p.2
  show (fU (cX kvs p.1 p.2) r).length<=_
  rw [bo];lia
theorem qJ {P:Program}{w:World}:∀ {kvs:List (Key×V)}{ws:List (Value×Value)},VV (kvs.map fun kv=>(kV kv.1,kv.2)) ws->∃ rs,Carries (aY P w) ws rs/\KV kvs rs
 | [],_,r=>by rw [vk] at r;cases r;exact ⟨[],ir,.nil⟩
 | p :: kvs,_,r=>by
  rw [dq] at r
  cases r with
  | @cons a b as bs h t =>
   obtain ⟨rs,c,q⟩:=qJ (P:=P) (w:=w) t
   obtain ⟨b1,b2⟩:=b
   exact ⟨(p.1,b2) :: rs,⟨nU h.1,rfl,c⟩,.cons ⟨rfl,h.2⟩ q⟩
def cI6 (trs:List (TE×TE)):TE:=fun σ H Q=>∀ p,H p=none->aC5 trs σ (aQ H p (.dK [])) fun ps H2=>H2 p=some (.dK [])/\∃ kvs:List (Key×V),ps=kvs.map (fun kv=>(kV kv.1,kv.2))/\kvs.length<=15/\Q (.ref p) (aQ H2 p (.dK (fU [] kvs)))
theorem vN {X:Cx}{pos:Pos}{gL:List (Option Expr)}{values:List Expr}{trs:List (TE×TE)}(h:PPs X pos gL values trs) (hall:gL.all (·.isSome)=true) (hl:gL.length=values.length) (h0:gL≠[])
  (h15:gL.length<=15):PE X (.Dict gL values pos) (cI6 trs):=by
 intro pins s σ H Q I q
 have hn:=I.hok.fresh (aj s.heap.objs.size)
 have I1:=I.laid (a:=s.heap.objs.size) (o:= .dK []) (h':=s.heap.push { cls:= .type "dict",data:= .dict #[] }) (t':=s.toks) (fun _ _ q=>ae _ q) (aj _) (xU s.heap I.big)
 refine wpAny_Dict_walk (knd:=aY X.prog X.w) hall hl h0 h15 (cW (h pins _ σ _ _ I1 (q _ hn)) ?_);rintro ws s2 ⟨ps,H2,I2,rel,e,kvs,ep,lk,q2⟩
 subst ep
 obtain ⟨rs,c,rk⟩:=qJ (P:=X.prog) (w:=X.w) rel
 obtain ⟨z,hd,vs0,r0,dd⟩:=aG2 I2.hok e
 cases r0
 refine ⟨rs,c,dd,fun h' dd' hs=>⟨.ref s.heap.objs.size,_,?_,rfl,q2⟩⟩
 have hz:(fU [] kvs).length<=sizeLine:=by
  have h1:=mD kvs []
  rw [jc] at h1
  rw [jo];lia
 have he:∃ q,h'.get? s.heap.objs.size=some q:=by obtain ⟨q,_,_,hq,_⟩:=dd';exact ⟨q,hq⟩
 exact pM I2 (by rw [e];exact ir) hs he (aB9 hz hd (rk.merge .nil) dd')
structure M1 (X:Cx) (o:Expr) (m:Str) (apos:Pos) (e:Expr) (cpos:Pos):Prop where
 base:attributeBase o m X.env (eval o X.env)=eval o X.env
 few:((backTo cpos (starEach [e] X.env)).all (fun x=> !x.1) && (backToKw cpos (keywordEach [] X.env)).all (fun x=>x.1.isSome)
  && decide (([e]:List Expr).length+([]:List Keyword).length+(if ([]:List Keyword).isEmpty then 0 else 1) < 30))=true
 line:(apos.endLine == cpos.line)=true
 trees:backTo cpos (starEach [e] X.env)=[(false,eval e X.env)]
structure M2 (X:Cx) (o:Expr) (m:Str) (apos:Pos) (e f:Expr) (cpos:Pos):Prop where
 base:attributeBase o m X.env (eval o X.env)=eval o X.env
 few:((backTo cpos (starEach [e,f] X.env)).all (fun x=> !x.1) && (backToKw cpos (keywordEach [] X.env)).all (fun x=>x.1.isSome)
  && decide (([e,f]:List Expr).length+([]:List Keyword).length+(if ([]:List Keyword).isEmpty then 0 else 1) < 30))=true
 line:(apos.endLine == cpos.line)=true
 trees:backTo cpos (starEach [e,f] X.env)=[(false,eval e X.env),(false,eval f X.env)]
def IsD (H:Hp) (a:Addr):Prop:=(∃ kvs,Rd H a (.dK kvs))\/∃ kvs,Rd H a (.dT kvs)
theorem aV6 {X:Cx}{pins:List (Addr×Obj)}{σ: St}{H:Hp}{s:Shared}{a:Addr}(I:aW X pins σ H s) (d:IsD H a) :
  s.TypeIs (.ref a) "dict"/\(∀ b,Value.ref a= .ref b->∃ ob,s.heap.get? b=some ob/\ob.dict=none)/\(a == sysModules)=false:=by
 rcases d with ⟨kvs,e⟩ | ⟨kvs,e⟩
 ·obtain ⟨_,hd,vs,_,dd⟩:=sZ I.hok e
  refine ⟨dd.typeIs,fun b q=>?_,hd⟩
  cases q
  obtain ⟨ob,_,_,h1,h2,_⟩:=dd
  exact ⟨ob,h1,h2.2.1⟩
 ·obtain ⟨_,hd,xs,_,dd⟩:=rK I.hok e
  refine ⟨dd.typeIs,fun b q=>?_,hd⟩
  cases q
  obtain ⟨ob,_,_,h1,h2,_⟩:=dd
  exact ⟨ob,h1,h2.2.1⟩
section
variable {X:Cx}{pins:List (Addr×Obj)}{σ: St}{H:Hp}{s:Shared}{a:Addr}{y d:V}{u r:Value}{o:Option V}{A:Around}{E:Value->Shared->Prop}
theorem bS8 {Q:Value->Shared->Prop}(hu:A.units+1 < cLine) (I:aW X pins σ H s) (g:dG H a y o) (ry:bL y u) (rd:bL d r) (h:∀ w' s',aW X pins σ H s'->bL (o.getD d) w'->Q w' s') :
  wpAny (model X.prog X.w) A (call (.builtin "dict.get") [.ref a,u,r]) Q E s:=by
 rcases g with ⟨kvs,k,e,ey,l⟩ | ⟨kvs,k,b,e,ey,eb,l⟩
 ·subst ey
  obtain ⟨z,hd,vs,rel,dd⟩:=sZ I.hok e
  refine vm kh dd.typeIs qv (qk _ _ _) (wu (aY X.prog X.w) a (nU ry) hd r) ⟨_,dd.mapOf,h _ _ (I.tok _) ?_⟩
  rw [l]
  exact (rel.val k).getD rd
 ·subst ey
  cases (show u=Value.ref b from ry)
  obtain ⟨z,hd,xs,rel,dd⟩:=rK I.hok e
  refine vm kh dd.typeIs qv (qk _ _ _) (meetsH_dict_get_default (tupleKind (aY X.prog X.w)) a b hd r) ⟨nr hu,k,xs,nY I.hok eb,dd,h _ _ (I.tok _) ?_⟩
  rw [l]
  exact (rel.val k).getD rd
end
def bY6 (td ty tx:TE):TE:=fun σ H Q=>td σ H fun x H1=>∃ a,x= .ref a/\IsD H1 a/\ty σ H1 fun y H2=>tx σ H2 fun z H3=>∃ o,dG H3 a y o/\Q (o.getD z) H3
section
variable {X:Cx}{o e f:Expr}{apos cpos:Pos}{td ty tx:TE}
theorem zF (hu:X.A.units+1 < cLine) (ho:PE X o td) (he:PE X e ty) (hf:PE X f tx) (m:M2 X o "get" apos e f cpos):PE X (.Call (.Attribute o "get" apos) [e,f] [] cpos) (bY6 td ty tx):=by
 intro pins s σ H Q I h
 refine vb m.base m.few m.line qm kh xj (cW (ho pins s σ H _ I h) ?_);rintro u s1 ⟨x,H1,I1,rx,a,ex,d,q1⟩
 subst ex
 obtain rfl:u=Value.ref a:=rx
 obtain ⟨t1,t2,_⟩:=aV6 I1 d
 refine ⟨t1,t2,?_⟩
 rw [m.trees]
 refine jz rfl (ow (ge (cW (he pins s1 σ H1 _ I1 q1) fun iv s2 ⟨y,H2,I2,ry,q2⟩ =>
  ge (cW (hf pins s2 σ H2 _ I2 q2) fun fv s3 ⟨z,H3,I3,rz,ov,g,q3⟩=>jb ?_))))
 exact bS8 hu I3 g ry rz fun w' s4 I4 rw'=>⟨_,H3,I4,rw',q3⟩
end
section
variable {X:Cx}{pins:List (Addr×Obj)}{σ: St}{H:Hp}{s:Shared}{a:Addr}{kvs:List (Key×V)}{A:Around}{E:Value->Shared->Prop}
end
section
variable {X:Cx}{pins:List (Addr×Obj)}{σ: St}{H:Hp}{s:Shared}{a:Addr}{y:V}{u:Value}{A:Around}{E:Value->Shared->Prop}
end
end L2
namespace HT
open PySem PyProof.Rows
section
open PySem.SeqAt
open PySem.AutoSeq1 (wpAny_loadPart')
open PySem.MeetsSeq PySem.MeetsSeq2 PySem.MeetsSeq3
end
section
variable {prog:Program}{w:World}{A:Around}{E:Value->Shared->Prop}{s:Shared}
theorem cat_tup {t b:Addr}{vs ws:List Value}{Q:Value->Shared->Prop}(ht:IsTup s.heap t vs.toArray) (hb:IsTup s.heap b ws.toArray) (hv:vs≠[])
  (h1:ws=[]->Q (.ref t) s) (h2:ws≠[]->Q (.ref s.heap.objs.size) { s with heap:=s.heap.push { cls:= .type "tuple",data:= .seq (vs++ws).toArray } })
  (hsz:vs.length+ws.length<=sizeLine):wpAny (model prog w) A (binaryOp .Add (.ref t) (.ref b)) Q E s:=by
 obtain ⟨⟨cls,dd,data,sl⟩,ho,hc,n,hd⟩:=id ht
 obtain ⟨⟨cls2,dd2,data2,sl2⟩,ho2,hc2,n2,hd2⟩:=id hb
 simp only at hc hd hc2 hd2
 subst hc hd hc2 hd2
 have e:vs.toArray++ws.toArray=(vs++ws).toArray:=by simp
 by_cases hw:ws=[]
 ·exact concat_meets ⟨_,ho,rfl⟩ ⟨_,ho2,rfl⟩ noFill_tuple_add seq_tuple_add PySem.F.slot_tuple_add PySem.F.entry_tuple_add (PySem.F.args_tuple_add_2 _ _)
   (tuple_addW1 t b vs.toArray ws.toArray n n2 dd dd2 sl sl2 (by simpa using hv) (by simp [hw])) ⟨ho,ho2,h1 hw⟩
 ·refine concat_meets ⟨_,ho,rfl⟩ ⟨_,ho2,rfl⟩ noFill_tuple_add seq_tuple_add PySem.F.slot_tuple_add PySem.F.entry_tuple_add (PySem.F.args_tuple_add_2 _ _)
   (tuple_addW2 t b vs.toArray ws.toArray n n2 dd dd2 sl sl2 (by simpa using hv) (by simpa using hw) (by rw [List.size_toArray,List.size_toArray];exact hsz)) ⟨ho,ho2,?_⟩
  rw [e]
  exact h2 hw
def sIx (n d:Nat):Option Int->Nat
 | none=>d
 | some v=>if v < 0 then (v+(n:Int)).toNat else min v.toNat n
theorem sIx_none (n d:Nat):sIx n d none=d:=rfl
theorem sIx_nat (n d k:Nat):sIx n d (some (k:Int))=min k n:=by
 show (if (k:Int) < 0 then ((k:Int)+(n:Int)).toNat else min (k:Int).toNat n)=min k n
 rw [if_neg (by lia),Int.toNat_natCast]
theorem bR6 (n d:Nat) (hd:d<=n) (o:Option Int):sIx n d o<=n:=by
 cases o with
 | none=>exact hd
 | some v =>
  show (if v < 0 then (v+(n:Int)).toNat else min v.toNat n)<=n
  by_cases hv:v < 0
  ·rw [if_pos hv];lia
  ·rw [if_neg hv];exact Nat.min_le_right _ _
theorem aG1 (v:Int) (n d:Nat):(if v < 0 then max (v+(n:Int)) 0 else min v (n:Int))=((sIx n d (some v):Nat):Int):=by
 show (if v < 0 then max (v+(n:Int)) 0 else min v (n:Int))=(((if v < 0 then (v+(n:Int)).toNat else min v.toNat n):Nat):Int)
 by_cases hv:v < 0
 ·simp only [if_pos hv];lia
 ·simp only [if_neg hv];lia
theorem aF1 (lo hi:Option Int) (n:Nat):Builtin.Slice.sliceAdjust lo hi 1 (n:Int)=(((sIx n 0 lo:Nat):Int),((sIx n n hi:Nat):Int)):=by
 have h1:¬ ((1:Int) < 0):=by lia
 unfold Builtin.Slice.sliceAdjust
 simp only [h1,if_false]
 refine Prod.ext ?_ ?_
 ·cases lo with
  | none=>rfl
  | some v=>exact aG1 v n 0
 ·cases hi with
  | none=>rfl
  | some v=>exact aG1 v n n
theorem aE8 (i j:Nat):Builtin.Slice.slicePlaces (i:Int) (j:Int) 1=j - i:=by
 unfold Builtin.Slice.slicePlaces
 have h1:(1:Int) > 0:=by lia
 simp only [h1,if_true,Int.ediv_one]
 split <;> lia
theorem rO {v:Value}{o:Option Int}{Q:Option Int->Shared->Prop}(p:IsPart v o) (h:Q o s):wpAny (model prog w) A (Builtin.Slice.slicePartIndex v) Q E s:=by
 cases p with
 | none=>exact slicePart_none h
 | int i t=>exact slicePart_int h
theorem jO {sl:Addr}{vl vu:Value}{lo hi:Option Int}{n:Nat}{Q:Int×Int×Nat->Shared->Prop}(hs:s.heap.IsSliceOf sl vl vu .none) (pl:IsPart vl lo) (pu:IsPart vu hi)
  (h:Q (((sIx n 0 lo:Nat):Int),1,sIx n n hi - sIx n 0 lo) s):wpAny (model prog w) A (Builtin.Slice.sliceApplied (.ref sl) (pure (n:Int))) Q E s:=by
 obtain ⟨os,hos,hcs,hds⟩:=id hs
 unfold Builtin.Slice.sliceApplied Builtin.Slice.sliceFields
 refine wpAny_bind (wpAny_bind (wpAny_field hos hds (x:=vl) rfl (wpAny_bind (wpAny_field hos hds (x:=vu) rfl (wpAny_bind (wpAny_field hos hds (x:= .none) rfl (wpAny_pure ?_)))))))
 refine wpAny_bind (slicePart_none ?_)
 show wpAny _ _ (if ((1:Int) == 0)=true then _ else _) _ _ s
 rw [if_neg (by decide)]
 refine wpAny_bind (rO pl (wpAny_bind (rO pu (wpAny_bind (wpAny_pure ?_)))))
 show wpAny _ _ (match Builtin.Slice.sliceAdjust lo hi 1 (n:Int) with | (lo,hi)=>pure (lo,(1:Int),Builtin.Slice.slicePlaces lo hi 1)) _ _ s
 rw [aF1 lo hi n]
 show wpAny _ _ (pure (((sIx n 0 lo:Nat):Int),(1:Int),Builtin.Slice.slicePlaces ((sIx n 0 lo:Nat):Int) ((sIx n n hi:Nat):Int) 1)) _ _ s
 rw [aE8]
 exact wpAny_pure h
theorem aR3 (xs:Array Value) (i k:Nat):((List.range k).filterMap fun (m:Nat)=>xs[((i:Int)+(m:Int) * 1).toNat]?).toArray=((xs.toList.drop i).take k).toArray:=by
 have e:(fun (m:Nat)=>xs[((i:Int)+(m:Int) * 1).toNat]?)=fun m=>xs[i+m]?:=by
  funext m
  have:((i:Int)+(m:Int) * 1).toNat=i+m:=by lia
  rw [this]
 rw [e]
 have:=pick_run xs i k
 rw [List.filterMap_map] at this
 have e2:((fun x=>xs[x]?) ∘ fun x=>i+x)=fun m=>xs[i+m]?:=rfl
 rw [e2] at this
 rw [this]
theorem getItem_tuple_cut {t sl:Addr}{items:Array Value}{vl vu:Value}{lo hi:Option Int}{Q:Value->Shared->Prop}(ht:IsTup s.heap t items) (hs:s.heap.IsSliceOf sl vl vu .none) (pl:IsPart vl lo) (pu:IsPart vu hi)
  (hw:¬ (sIx items.size 0 lo=0/\sIx items.size items.size hi=items.size))
  (h:Q (.ref s.heap.objs.size) { s with heap:=s.heap.push { cls:= .type "tuple",data:= .seq ((items.toList.drop (sIx items.size 0 lo)).take (sIx items.size items.size hi - sIx items.size 0 lo)).toArray } })
  (hsz:items.size<=sizeLine):wpAny (model prog w) A (getItem (.ref t) (.ref sl)) Q E s:=by
 have htake:sizeOk (.seq ((items.toList.drop (sIx items.size 0 lo)).take (sIx items.size items.size hi - sIx items.size 0 lo)).toArray):=by
  show ((items.toList.drop (sIx items.size 0 lo)).take (sIx items.size items.size hi - sIx items.size 0 lo)).toArray.size<=sizeLine
  rw [List.size_toArray,List.length_take,List.length_drop,Array.length_toList]
  lia
 have hj:sIx items.size items.size hi<=items.size:=bR6 _ _ (Nat.le_refl _) hi
 obtain ⟨os,hos,hcs,hds⟩:=id hs
 have hTs:s.TypeIs (.ref sl) "slice":=⟨os,hos,hcs⟩
 unfold getItem
 try with_reducible refine wpAny_holding ?_
 first | refine wpAny_bind (wpAny_pure ?_) | skip
 refine wpAny_bind (wpAny_sequenceKey ht.typeIs (by decide) ?_)
 refine wpAny_bind (wpAny_callSpecial?_slot (name:=Str.ofString "__getitem__") ht.typeIs PyProof.Rows.slot_tuple_getitem
  (wpAny_call_entry PyProof.Rows.slot_tuple_getitem ht.typeIs entry_tuple_getitem ?_ (args_tuple_getitem _ _)))
 show wpAny _ _ (Builtin.Tuple.tupleItemsOf (.ref t) >>= _) _ _ s
 refine wpAny_bind (tupleItemsOf_ ht ?_)
 refine wpAny_bind (wpAny_typeOf hTs ?_)
 rw [if_pos (by decide)]
 refine wpAny_bind (jO hs pl pu ?_)
 have hno:¬ ((((sIx items.size 0 lo:Nat):Int) == 0 && (1:Int) == 1 && (sIx items.size items.size hi - sIx items.size 0 lo) == items.size)=true):=by
  intro q
  rw [Bool.and_eq_true,Bool.and_eq_true] at q
  have q1:((sIx items.size 0 lo:Nat):Int)=0:=eq_of_beq q.1.1
  have q2:sIx items.size items.size hi - sIx items.size 0 lo=items.size:=eq_of_beq q.2
  exact hw ⟨by lia,by lia⟩
 show wpAny _ _ (if (((sIx items.size 0 lo:Nat):Int) == 0 && (1:Int) == 1 && (sIx items.size items.size hi - sIx items.size 0 lo) == items.size)=true then _ else _) _ _ s
 rw [if_neg hno,aR3]
 first
  | exact wpAny_bind (m:=Builtin.Tuple.tupleExact _) (wpAny_newObj_type (wpAny_pure ⟨_,rfl,wpAny_pure h⟩) htake)
  | exact wpAny_bind (m:=Builtin.Tuple.tupleExact _) (wpAny_newObj_type (wpAny_bind (wpAny_pure (wpAny_pure ⟨_,rfl,wpAny_pure h⟩))) htake)
  | exact wpAny_bind (wpAny_bind (m:=Builtin.Tuple.tupleExact _) (wpAny_newObj_type (wpAny_pure (wpAny_pure ⟨_,rfl,wpAny_pure h⟩)) htake))
  | exact wpAny_bind (wpAny_bind (m:=Builtin.Tuple.tupleExact _) (wpAny_newObj_type (wpAny_pure ⟨_,rfl,wpAny_pure h⟩) htake))
end
end HT
namespace L2
open PySem PySem.Spec PyProof.Rows
abbrev TO:=St->Hp->(Option Int->Hp->Prop)->Prop
def PO (X:Cx) (e:Option Expr) (t:TO):Prop :=
 ∀ (pins:List (Addr×Obj)) (s:Shared) (σ: St) (H:Hp) (Q:Option Int->Hp->Prop),aW X pins σ H s->t σ H Q ->
  wpAny (model X.prog X.w) X.A (evalPart e X.env) (fun u s'=>∃ o H',aW X pins σ H' s'/\IsPart u o/\Q o H') X.xe s
def tNoPart:TO:=fun _ H Q=>Q none H
def cC6 (t:TE):TO:=fun σ H Q=>t σ H fun x H1=>∃ i,x= .int i/\Q (some i) H1
section
variable {X:Cx}{e:Expr}{te:TE}{lo hi:Option Expr}{tl th:TO}{pos p2:Pos}
theorem eX:PO X none tNoPart:=by
 intro pins s σ H Q I h
 rw [evalPart_none]
 exact af ⟨none,H,I,.none,h⟩
theorem eG (h:PE X e te):PO X (some e) (cC6 te):=by
 intro pins s σ H Q I hw
 rw [evalPart_some]
 refine cW (h pins s σ H _ I hw) ?_;rintro u s1 ⟨x,H1,I1,r1,q1⟩
 obtain ⟨i,rfl,q⟩:=q1
 obtain ⟨t,rfl⟩:=r1
 exact ⟨some i,H1,I1,.int i t,q⟩
def SlR (X:Cx) (r:V->Option Int->Option Int->Hp->VK->Prop):Prop :=
 ∀ (pins:List (Addr×Obj)) (s:Shared) (σ: St) (H:Hp) (x:V) (v vl vu:Value) (lo hi:Option Int) (sl:Addr) (Q:VK),aW X pins σ H s->bL x v->s.heap.IsSliceOf sl vl vu .none->IsPart vl lo->IsPart vu hi->r x lo hi H Q ->
  ∃ T id,typeLookup (.type T) "__getitem__"=pure (some (.builtin id))/\s.TypeIs v T/\wpAny (model X.prog X.w) X.A (getItem v (.ref sl)) (EP X pins σ Q) X.xe s
def tSl (r:V->Option Int->Option Int->Hp->VK->Prop) (te:TE) (tl th:TO):TE:=fun σ H Q=>te σ H fun x H1=>tl σ H1 fun l H2=>th σ H2 fun u H3=>r x l u H3 Q
theorem dS {r:V->Option Int->Option Int->Hp->VK->Prop}(hr:SlR X r) (he:PE X e te) (hl:PO X lo tl) (hu:PO X hi th):PE X (.Subscript e (.Slice lo hi none p2) pos) (tSl r te tl th):=by
 intro pins s σ H Q I h
 refine Subscript_ (cW (he pins s σ H _ I h) ?_);rintro v s1 ⟨x,H1,I1,r1,q1⟩
 refine wpAny_Slice (cW (hl pins s1 σ H1 _ I1 q1) ?_);rintro vl s2 ⟨l,H2,I2,pl,q2⟩;refine cW (hu pins s2 σ H2 _ I2 q2) ?_;rintro vu s3 ⟨u,H3,I3,pu,q3⟩
 rw [evalPart_none]
 refine af ?_
 have I4:aW X pins σ H3 { s3 with heap:=s3.heap.push { cls:= .type "slice",data:= .fields #[vl,vu,.none] } }:=I3.kept (t':=s3.toks) fun b ob q=>ae _ q
 obtain ⟨T,id,hT,ht,hg⟩:=hr pins { s3 with heap:=s3.heap.push { cls:= .type "slice",data:= .fields #[vl,vu,.none] } } σ H3 x v vl vu l u s3.heap.objs.size Q I4 r1 (Heap.IsSliceOf.new ..) pl pu q3
 show wpAny (model X.prog X.w) X.A (subscriptTail e (.Slice lo hi none p2) v (.ref s3.heap.objs.size)) (EP X pins σ Q) X.xe { s3 with heap:=s3.heap.push { cls:= .type "slice",data:= .fields #[vl,vu,.none] } }
 exact tail_any (ops:=[.ref s3.heap.objs.size,v]) ht hT hg (by with_unfolding_all rfl)
def gK (xs:List V) (lo hi:Option Int):List V:=(xs.drop (HT.sIx xs.length 0 lo)).take (HT.sIx xs.length xs.length hi - HT.sIx xs.length 0 lo)
theorem pC (xs:List V) (lo hi:Option Int):(gK xs lo hi).length<=xs.length:=by
 unfold gK
 rw [cp,ox]
 lia
def cN4 (K:PySem.W.Frag):V->Option Int->Option Int->Hp->VK->Prop:=fun x lo hi H Q=>∃ a xs,x= .ref a/\aO K H a xs /\
 ¬ (HT.sIx xs.length 0 lo=0/\HT.sIx xs.length xs.length hi=xs.length)/\∀ p,H p=none->Q (.ref p) (aQ H p (.tup (gK xs lo hi)))
theorem aX3:SlR X (cN4 X.K):=by
 intro pins s σ H x v vl vu lo hi sl Q I rx hs pl pu h
 obtain ⟨a,xs,rfl,hx,hw,q⟩:=h
 cases rx
 obtain ⟨its,r,ht,hz⟩:=I.tuple hx
 have hlen:its.toArray.size=xs.length:=by rw [bt];exact r.length.symm
 refine ⟨"tuple",_,PyProof.Rows.slot_tuple_getitem.lookup,ht.typeIs,?_⟩
 refine HT.getItem_tuple_cut ht hs pl pu (by rw [hlen];exact hw) ?_ (by rw [hlen];exact hz)
 rw [hlen]
 refine ⟨.ref s.heap.objs.size,_,I.laid (t':=s.toks) (o:= .tup (gK xs lo hi)) (fun b ob q=>ae _ q) (aj _) ?_,rfl,q _ (I.hok.fresh (aj _))⟩
 exact ⟨cu (pC xs lo hi) hz,_,(r.drop (HT.sIx xs.length 0 lo)).take (HT.sIx xs.length xs.length hi - HT.sIx xs.length 0 lo),kI.new _ _⟩
def cD2 (K:PySem.W.Frag):R2:=fun x y H Q=>∃ a b xs ys,x= .ref a/\y= .ref b/\aO K H a xs/\aO K H b ys/\xs≠[]/\xs.length+ys.length<=sizeLine /\
 (ys=[]->Q (.ref a) H)/\(ys≠[]->∀ p,H p=none->Q (.ref p) (aQ H p (.tup (xs++ys))))
theorem bF.nil_iff {xs:List V}{us:List Value}(r:bF xs us):us=[]↔xs=[]:=by
 cases r with
 | nil=>simp
 | cons _ _=>simp
theorem aK0:jU X (binaryOp .Add) (cD2 X.K):=by
 intro pins s σ H x y v u Q I rx ry h
 obtain ⟨a,b,xs,ys,rfl,rfl,ha,hb,hx,hz,q1,q2⟩:=h
 cases rx
 cases ry
 obtain ⟨its,r1,p1,_⟩:=I.tuple ha
 obtain ⟨its2,r2,p2,_⟩:=I.tuple hb
 refine HT.cat_tup p1 p2 (fun z=>hx (r1.nil_iff.mp z)) (fun z=>⟨.ref a,H,I,rfl,q1 (r2.nil_iff.mp z)⟩) (fun z=>?_) (by rw [<- r1.length, <- r2.length];exact hz)
 refine ⟨.ref s.heap.objs.size,_,I.laid (t':=s.toks) (o:= .tup (xs++ys)) (fun b ob q=>ae _ q) (aj _) ?_,rfl,q2 (fun w=>z (r2.nil_iff.mpr w)) _ (I.hok.fresh (aj _))⟩
 exact ⟨by rw [am];exact hz,_,r1.append r2,kI.new _ _⟩
end
def ixN (n:Nat) (i:Int):Option Nat:=if 0<=i then (if i < n then some i.toNat else none) else if -(n:Int)<=i then some (i+n).toNat else none
def jH {α: Type}(xs:List α) (i:Int):Option α:=(ixN xs.length i).bind fun j=>xs[j]?
theorem bI7 {n:Nat}{i:Int}{j:Nat}(h:ixN n i=some j):seqIndex? i n=some j/\j < n/\ -(n:Int)<=i/\i < n:=by
 unfold ixN at h
 by_cases h0:0<=i
 ·rw [ay h0] at h
  by_cases h1:i < n
  ·rw [ay h1] at h
   have e:i.toNat=j:=dz h
   exact ⟨by rw [seqIndex_of h0 h1,e],by lia,by lia,h1⟩
  ·rw [ak h1] at h;cases h
 ·rw [ak h0] at h
  by_cases h1: -(n:Int)<=i
  ·rw [ay h1] at h
   have e:(i+n).toNat=j:=dz h
   exact ⟨by rw [seqIndex_neg (by lia) h1,e],by lia,h1,by lia⟩
  ·rw [ak h1] at h;cases h
theorem wB {α: Type}{xs:List α}{i:Int}{v:α}(h:jH xs i=some v):∃ j,seqIndex? i xs.length=some j/\xs[j]?=some v/\j < xs.length/\ -(xs.length:Int)<=i/\i < xs.length:=by
 unfold jH at h
 cases e:ixN xs.length i with
 | none=>rw [e] at h;cases h
 | some j =>
  rw [e] at h
  obtain ⟨h1,h2,h3,h4⟩:=bI7 e
  exact ⟨j,h1,h,h2,h3,h4⟩
theorem fB {α: Type}{xs:List α}{j:Nat}{v:α}(h:xs[j]?=some v):jH xs (j:Int)=some v:=by
 have hj:j < xs.length:=(bc.mp h).1
 have e:ixN xs.length (j:Int)=some j:=by
  unfold ixN
  rw [ay (by (exact ka _)),ay (by lia)];simp
 unfold jH;rw [e];exact h
def aL1 (b:Expr):Prop:=∀ o i,subscripted b false o i=operate [o,i] (getItem o i)
def IxR (X:Cx) (r:R2):Prop :=
 ∀ (value slice:Expr) (pins:List (Addr×Obj)) (s:Shared) (σ: St) (H:Hp) (x y:V) (v u:Value) (Q:VK),aW X pins σ H s->bL x v->bL y u->r x y H Q ->
  subscripted slice false v u=operate [v,u] (getItem v u)->wpAny (model X.prog X.w) X.A (subscriptTail value slice v u) (EP X pins σ Q) X.xe s
def MtR (X:Cx) (id:String) (r:V->List V->Hp->VK->Prop):Prop :=
 ∀ (pins:List (Addr×Obj)) (s:Shared) (σ: St) (H:Hp) (x:V) (xs:List V) (v:Value) (us:List Value) (Q:VK),aW X pins σ H s->bL x v->bF xs us->r x xs H Q ->
  wpAny (model X.prog X.w) X.A (call (.builtin id) (v :: us)) (EP X pins σ Q) X.xe s
section
variable {X:Cx}{a b:Expr}{ta tb:TE}{pos:Pos}
theorem cJ6 {r:R2}(hr:IxR X r) (ha:PE X a ta) (hb:PE X b tb) (hs:aL1 b):PE X (.Subscript a b pos) (tOp r ta tb):=by
 intro pins s σ H Q I h
 exact Subscript_ (bU6 ha hb I h fun v u s2 x y H2 I2 rx ry q=>hr a b pins s2 σ H2 x y v u Q I2 rx ry q (hs _ _))
def cK3 (K:PySem.W.Frag):R2:=fun x y H Q=>∃ p xs i v,x= .ref p/\y= .int i/\bC K H p xs/\jH xs i=some v/\Q v H
def aD6 (K:PySem.W.Frag):R2:=fun x y H Q=>∃ p xs i v,x= .ref p/\y= .int i/\aO K H p xs/\jH xs i=some v/\Q v H
def rIxS:R2:=fun x y H Q=>∃ z i c,x= .str z/\y= .int i/\z.length<=sizeLine/\jH z.cps.toList i=some c/\Q (.str ⟨#[c]⟩) H
theorem bQ:IxR X (cK3 X.K):=by
 intro value slice pins s σ H x y v u Q I rx ry h hs
 obtain ⟨p,xs,i,z,rfl,rfl,hq,he,q⟩:=h
 cases rx
 obtain ⟨t,rfl⟩:=ry
 obtain ⟨its,r,pl,hz⟩:=I.list hq
 obtain ⟨j,h1,h2,h3,h4,h5⟩:=wB he
 obtain ⟨w,ew,rw'⟩:=r.get h2
 have hl:=r.length
 have hn:=sI
 have fin:EP X pins σ Q w s:=⟨z,H,I,rw',q⟩
 by_cases h0:0<=i
 ·have hj:i.toNat=j:=by
   rw [seqIndex_of h0 h5] at h1
   exact dz h1
  exact item_listR pl.isList h0 (by lia) (by rw [hj];simpa using ew) fin hs
 ·have hj:(i+(its.toArray.size:Int)).toNat=j:=by
   rw [seqIndex_neg (by lia) h4] at h1
   rw [bt, <- hl]
   exact dz h1
  exact wv (x:=w) pl.isList.typeIs slot_list_getitem.lookup
   (wpAny_getItem_list_neg (Q:=fun r s'=>r=w/\EP X pins σ Q r s') pl.isList (by lia) (by rw [bt] <;> lia) (by lia) (by rw [hj];simpa using ew) ⟨rfl,fin⟩) hs
theorem aG:IxR X (aD6 X.K):=by
 intro value slice pins s σ H x y v u Q I rx ry h hs
 obtain ⟨p,xs,i,z,rfl,rfl,hq,he,q⟩:=h
 cases rx
 obtain ⟨t,rfl⟩:=ry
 obtain ⟨its,r,pl,hz⟩:=I.tuple hq
 obtain ⟨j,h1,h2,h3,h4,h5⟩:=wB he
 obtain ⟨w,ew,rw'⟩:=r.get h2
 have hl:=r.length
 have hn:=sI
 have fin:EP X pins σ Q w s:=⟨z,H,I,rw',q⟩
 exact wv (x:=w) pl.typeIs slot_tuple_getitem.lookup
  (getItem_tuple (j:=j) (Q:=fun r s'=>r=w/\EP X pins σ Q r s') pl (by lia) (by lia) (by rw [bt, <- hl];exact h1) (by simpa using ew) ⟨rfl,fin⟩) hs
theorem vY:IxR X rIxS:=by
 intro value slice pins s σ H x y v u Q I rx ry h hs
 obtain ⟨z,i,c,rfl,rfl,hz,he,q⟩:=h
 obtain ⟨t,rfl⟩:=rx
 obtain ⟨t',rfl⟩:=ry
 obtain ⟨j,h1,h2,h3,h4,h5⟩:=wB he
 have hl:z.cps.toList.length=z.length:=by simp [Str.length]
 rw [hl] at h1 h4 h5
 have hn:=sI
 exact tail_any (typeIs_str s z t) slot_str_getitem.lookup (getItem_str (c:=c) (by
  have e1:decide (i < -(2 ^ 63:Int))=false:=cz (by lia)
  have e2:decide (i ≥ 2 ^ 63)=false:=cz (by lia)
  rw [e1,e2,Bool.or_false]) (by rw [h1];simpa using h2) ⟨.str ⟨#[c]⟩,H,I.tok _,⟨_,rfl⟩,q⟩) hs
theorem wD (lo hi:Option Int) (n:Nat):(sliceBounds lo hi none n).1=((HT.sIx n 0 lo:Nat):Int)/\(sliceBounds lo hi none n).2.1=((HT.sIx n n hi:Nat):Int)/\(sliceBounds lo hi none n).2.2=1:=by
 refine ⟨?_,?_,rfl⟩
 ·cases lo with
  | none=>simp [sliceBounds,HT.sIx]
  | some i =>
   simp only [sliceBounds,HT.sIx,Option.getD_none,show (1:Int) > 0 by decide,if_true]
   by_cases h:i < 0
   ·simp only [h,if_true] <;> lia
   ·simp only [h,if_false] <;> lia
 ·cases hi with
  | none=>simp [sliceBounds,HT.sIx]
  | some i =>
   simp only [sliceBounds,HT.sIx,Option.getD_none,show (1:Int) > 0 by decide,if_true]
   by_cases h:i < 0
   ·simp only [h,if_true] <;> lia
   ·simp only [h,if_false] <;> lia
theorem tO (its:List Value) (lo hi:Option Int):slicePick its.toArray lo hi none=((its.drop (HT.sIx its.length 0 lo)).take (HT.sIx its.length its.length hi - HT.sIx its.length 0 lo)).toArray:=by
 obtain ⟨h1,h2,h3⟩:=wD lo hi its.toArray.size
 unfold slicePick
 rw [h1,h2,h3]
 simp only [sliceRange_one,pick_run,List.size_toArray] <;> rfl
def cN1 (K:PySem.W.Frag):V->Option Int->Option Int->Hp->VK->Prop:=fun x lo hi H Q=>∃ a xs,x= .ref a/\bC K H a xs/\∀ p,H p=none->Q (.ref p) (aQ H p (.lst (gK xs lo hi)))
theorem pL:SlR X (cN1 X.K):=by
 intro pins s σ H x v vl vu lo hi sl Q I rx hs pl pu h
 obtain ⟨a,xs,rfl,hx,q⟩:=h
 cases rx
 obtain ⟨its,r,ht,hz⟩:=I.list hx
 have hlen:=r.length
 refine ⟨"list",_,slot_list_getitem.lookup,ht.isList.typeIs,?_⟩
 refine wpAny_getItem_list_slice ht.isList hs pl pu .none (by simp) ?_ (by rw [List.size_toArray] <;> (exact oqN))
 rw [tO, <- hlen]
 refine ⟨.ref s.heap.objs.size,_,I.laid (t':=s.toks) (o:= .lst (gK xs lo hi)) (fun b ob q=>ae _ q) (aj _) ?_,rfl,q _ (I.hok.fresh (aj _))⟩
 exact ⟨cu (pC xs lo hi) hz,_,0,(r.drop (HT.sIx xs.length 0 lo)).take (HT.sIx xs.length xs.length hi - HT.sIx xs.length 0 lo),az _ rfl⟩
def lZ:V->Bool
 | .non=>true
 | .bl _=>true
 | .int _=>true
 | .str _=>true
 | _=>false
def eqV:V->V->Bool
 | .non,.non=>true
 | .bl a,.bl b=>a == b
 | .bl a,.int b=>(if a then 1 else 0) == b
 | .int a,.bl b=>a == (if b then 1 else 0)
 | .int a,.int b=>a == b
 | .str a,.str b=>a == b
 | _,_=>false
theorem bQ3 {A:Around}{s:Shared}{y x:V}{u v:Value}(ry:bL y u) (rx:bL x v) (fy:lZ y=true) (fx:lZ x=true):SeqAt.EqAt A s u v (eqV y x):=by
 cases y with
 | non =>
  cases ry
  cases x with
  | non=>cases rx;exact SeqAt.EqAt.same _
  | bl b=>cases rx;exact SeqAt.EqAt.none_bool b
  | int b=>obtain ⟨t,rfl⟩:=rx;exact SeqAt.EqAt.none_int b t
  | str b=>obtain ⟨t,rfl⟩:=rx;exact SeqAt.EqAt.none_str b t
  | _=>exact absurd (show false=true from fx) bx
 | bl a =>
  cases ry
  cases x with
  | non=>cases rx;exact SeqAt.EqAt.bool_none a
  | bl b=>cases rx;exact SeqAt.EqAt.bool_bool a b
  | int b=>obtain ⟨t,rfl⟩:=rx;exact SeqAt.EqAt.bool_int a b t
  | str b=>obtain ⟨t,rfl⟩:=rx;exact SeqAt.EqAt.bool_str a b t
  | _=>exact absurd (show false=true from fx) bx
 | int a =>
  obtain ⟨t',rfl⟩:=ry
  cases x with
  | non=>cases rx;exact SeqAt.EqAt.int_none a t'
  | bl b=>cases rx;exact SeqAt.EqAt.int_bool a t' b
  | int b=>obtain ⟨t,rfl⟩:=rx;exact SeqAt.EqAt.int_int a t' b t
  | str b=>obtain ⟨t,rfl⟩:=rx;exact ze a t' b t
  | _=>exact absurd (show false=true from fx) bx
 | str a =>
  obtain ⟨t',rfl⟩:=ry
  cases x with
  | non=>cases rx;exact SeqAt.EqAt.str_none a t'
  | bl b=>cases rx;exact SeqAt.EqAt.str_bool a t' b
  | int b=>obtain ⟨t,rfl⟩:=rx;exact zh a t' b t
  | str b=>obtain ⟨t,rfl⟩:=rx;exact SeqAt.EqAt.str_str a t' b t
  | _=>exact absurd (show false=true from fx) bx
 | _=>exact absurd (show false=true from fy) bx
def eqU (x:V) (u:Value):Bool:=match u with
 | .none=>eqV .non x
 | .bool b=>eqV (.bl b) x
 | .int i _=>eqV (.int i) x
 | .str z _=>eqV (.str z) x
 | _=>false
theorem bC3 {x y:V}{u:Value}(r:bL y u) (f:lZ y=true):eqU x u=eqV y x:=by
 cases y with
 | non=>cases r;rfl
 | bl b=>cases r;rfl
 | int i=>obtain ⟨t,rfl⟩:=r;rfl
 | str z=>obtain ⟨t,rfl⟩:=r;rfl
 | _=>exact absurd (show false=true from f) bx
theorem nQ {x:V}:∀ {xs:List V}{us:List Value},bF xs us->xs.all lZ=true->us.any (eqU x)=xs.any fun y=>eqV y x
 | _,_,.nil,_=>rfl
 | y :: xs,u :: us,.cons r t,f=>by
  rw [yt,jx] at f
  rw [ph,ph,bC3 r f.1,nQ t f.2]
theorem kN {A:Around}{s:Shared}{x:V}{v:Value}(rx:bL x v) (fx:lZ x=true):∀ {xs:List V}{us:List Value},bF xs us->xs.all lZ=true->∀ u∈us,SeqAt.EqAt A s u v (eqU x u)
 | _,_,.nil,_=>fun u hu=>by cases hu
 | y :: xs,u :: us,.cons r t,f=>fun u' hu=>by
  rw [yt,jx] at f
  rcases cf.mp hu with rfl | hu
  ·rw [bC3 r f.1];exact bQ3 r rx f.1 fx
  ·exact kN rx fx t f.2 u' hu
def mU (x:V) (xs:List V):Bool:=xs.any fun y=>eqV y x
def rIn (K:PySem.W.Frag) (neg:Bool):R2:=fun x y H Q=>∃ p xs,y= .ref p/\(bC K H p xs\/aO K H p xs)/\lZ x=true/\xs.all lZ=true/\Q (.bl (if neg then !mU x xs else mU x xs)) H
theorem bU:jU X (compareOp .In) (rIn X.K false):=by
 intro pins s σ H x y v u Q I rx ry h
 obtain ⟨p,xs,rfl,hq,fx,fs,q⟩:=h
 cases ry
 rcases hq with hq | hq
 ·obtain ⟨its,r,pl,hz⟩:=I.list hq
  refine SeqAt.in_listAt (eqU x) pl.isList (fun w hw=>kN rx fx r fs w (by simpa using hw)) ⟨.bl _,H,I,rfl,?_⟩
  rw [show its.toArray.any (eqU x)=its.any (eqU x) by simp,nQ r fs]
  exact q
 ·obtain ⟨its,r,pl,hz⟩:=I.tuple hq
  refine SeqAt.in_tupleAt (eqU x) pl (fun w hw=>kN rx fx r fs w (by simpa using hw)) ⟨.bl _,H,I,rfl,?_⟩
  rw [show its.toArray.any (eqU x)=its.any (eqU x) by simp,nQ r fs]
  exact q
theorem jV:jU X (compareOp .NotIn) (rIn X.K true):=by
 intro pins s σ H x y v u Q I rx ry h
 obtain ⟨p,xs,rfl,hq,fx,fs,q⟩:=h
 cases ry
 rcases hq with hq | hq
 ·obtain ⟨its,r,pl,hz⟩:=I.list hq
  refine SeqAt.notIn_listAt (eqU x) pl.isList (fun w hw=>kN rx fx r fs w (by simpa using hw)) ⟨.bl _,H,I,rfl,?_⟩
  rw [show its.toArray.any (eqU x)=its.any (eqU x) by simp,nQ r fs]
  exact q
 ·obtain ⟨its,r,pl,hz⟩:=I.tuple hq
  refine SeqAt.notIn_tupleAt (eqU x) pl (fun w hw=>kN rx fx r fs w (by simpa using hw)) ⟨.bl _,H,I,rfl,?_⟩
  rw [show its.toArray.any (eqU x)=its.any (eqU x) by simp,nQ r fs]
  exact q
theorem bO:gM X (.builtin "len") (fun xs H Q=>∃ p ys,xs=[.ref p]/\(bC X.K H p ys\/aO X.K H p ys)/\Q (.int ys.length) H):=by
 intro pins s σ H xs us Q I r h
 obtain ⟨p,ys,rfl,hq,q⟩:=h
 obtain ⟨u,rfl,rx⟩:=jZ r
 cases rx
 have hn:=sI
 rcases hq with hq | hq
 ·obtain ⟨its,r',pl,hz⟩:=I.list hq
  have hlen:=r'.length
  exact Calls.call_len_list pl.isList (by simp only [List.size_toArray] <;> lia) ⟨.int ys.length,H,I.tok _,⟨s.toks+1,by rw [bt,hlen]⟩,q⟩
 ·obtain ⟨its,r',pl,hz⟩:=I.tuple hq
  have hlen:=r'.length
  exact len_tuple pl (by simp only [List.size_toArray] <;> lia) ⟨.int ys.length,H,I.tok _,⟨s.toks+1,by rw [bt,hlen]⟩,q⟩
theorem hJ:gM X (.type "list") (fun xs H Q=>∃ p ys,xs=[.ref p]/\(bC X.K H p ys\/aO X.K H p ys)/\∀ l,H l=none->Q (.ref l) (aQ H l (.lst ys))):=by
 intro pins s σ H xs us Q I r h
 obtain ⟨p,ys,rfl,hq,q⟩:=h
 obtain ⟨u,rfl,rx⟩:=jZ r
 cases rx
 have fin:∀ (its:List Value),bF ys its->ys.length<=sizeLine->∀ (h':Heap) (c':Nat),(∀ b o',s.heap.get? b=some o'->h'.get? b=some o') ->
   h'.get? s.heap.objs.size=some { cls:= .type "list",dict:=none,data:= .seq its.toArray c',slots:= #[] }->EP X pins σ Q (.ref s.heap.objs.size) { s with heap:=h' }:=fun its r' hz h' c' kp e =>
  ⟨.ref s.heap.objs.size,_,I.laid (t':=s.toks) kp (aj _) (show dH X.prog X.w _ h' _ (.lst ys) from ⟨hz,its,c',r',e⟩),rfl,q _ (I.hok.fresh (aj _))⟩
 rcases hq with hq | hq
 ·obtain ⟨its,r',pl,hz⟩:=I.list hq
  have hlen:=r'.length
  obtain ⟨o,ho,hc,n,hd⟩:=pl.isList
  exact call_list_seq p (.inl rfl) ho hc hd (fun h' c' kp e=>fin its r' hz h' c' kp e) (by simp only [List.size_toArray] <;> (exact oqN))
 ·obtain ⟨its,r',pl,hz⟩:=I.tuple hq
  have hlen:=r'.length
  obtain ⟨o,ho,hc,n,hd⟩:=pl
  exact call_list_seq p (.inr rfl) ho hc hd (fun h' c' kp e=>fin its r' hz h' c' kp e) (by simp only [List.size_toArray] <;> (exact oqN))
theorem dC:gM X (.type "tuple") (fun xs H Q=>∃ p ys,xs=[.ref p]/\((bC X.K H p ys/\∀ l,H l=none->Q (.ref l) (aQ H l (.tup ys)))\/(aO X.K H p ys/\Q (.ref p) H))):=by
 intro pins s σ H xs us Q I r h
 obtain ⟨p,ys,rfl,h⟩:=h
 obtain ⟨u,rfl,rx⟩:=jZ r
 cases rx
 rcases h with ⟨hq,q⟩ | ⟨hq,q⟩
 ·obtain ⟨its,r',pl,hz⟩:=I.list hq
  have hlen:=r'.length
  refine call_tuple_list pl.isList (fun h' kp=>?_) (by simp only [List.size_toArray] <;> (exact oqN))
  have I1:aW X pins σ H { s with heap:=h' }:=I.kept (t':=s.toks) kp
  have I2:aW X pins σ (aQ H h'.objs.size (.tup ys)) { s with heap:=h'.push { cls:= .type "tuple",data:= .seq its.toArray } } :=
   I1.laid (t':=s.toks) (fun b o e=>ae _ e) (aj _) (show dH X.prog X.w _ _ _ (.tup ys) from ⟨hz,its,r',kI.new _ _⟩)
  exact ⟨.ref h'.objs.size,_,I2,rfl,q _ (I1.hok.fresh (aj _))⟩
 ·obtain ⟨its,r',pl,hz⟩:=I.tuple hq
  exact call_tuple_same pl ⟨.ref p,H,I,rfl,q⟩
def tyV (K:PySem.W.Frag) (T:String) (x:V) (H:Hp):Prop:=match x with
 | .str _=>T="str"
 | .int _=>T="int"
 | .ref p=>(T="list"/\∃ xs,bC K H p xs)\/(T="tuple"/\∃ o,K.lookup p=some o/\o.cls= .type "tuple"/\o.dict=none) \/
   (T="dict"/\((∃ kvs,H p=some (.dK kvs))\/∃ kvs,H p=some (.dT kvs)))\/(T="set"/\∃ S n,H p=some (.set S n))
 | _=>False
theorem aZ0 {pins:List (Addr×Obj)}{σ: St}{H:Hp}{s:Shared}{T:String}{x:V}{v:Value}(I:aW X pins σ H s) (r:bL x v) (ty:tyV X.K T x H) :
  s.TypeIs v T/\∀ a,v= .ref a->∃ ob,s.heap.get? a=some ob/\ob.dict=none:=by
 cases x with
 | str z =>
  obtain ⟨t,rfl⟩:=r
  cases (show T="str" from ty)
  exact ⟨typeIs_str s z t,fun _ e=>nomatch e⟩
 | int i =>
  obtain ⟨t,rfl⟩:=r
  cases (show T="int" from ty)
  exact ⟨typeIs_int s i t,fun _ e=>nomatch e⟩
 | ref p =>
  cases r
  rcases ty with ⟨rfl,xs,hq⟩ | ⟨rfl,o,hk,hc,hd⟩ | ⟨rfl,hk⟩ | ⟨rfl,S,n,hk⟩
  ·obtain ⟨its,_,pl,_⟩:=I.list hq
   refine ⟨pl.isList.typeIs,fun a e=>?_⟩
   cases e
   obtain ⟨o,n,e,c,hd,_⟩:=pl
   exact ⟨o,e,hd⟩
  ·refine ⟨⟨o,I.kIn p o hk,hc⟩,fun a e=>?_⟩
   cases e
   exact ⟨o,I.kIn _ o hk,hd⟩
  ·have z:∃ o,s.heap.get? p=some o/\o.ExactDict:=by
    rcases hk with ⟨kvs,hk⟩ | ⟨kvs,hk⟩
    ·obtain ⟨_,_,_,_,o,_,_,e,ex,_⟩:=I.hok p _ hk
     exact ⟨o,e,ex⟩
    ·obtain ⟨_,_,_,_,o,_,_,e,ex,_⟩:=I.hok p _ hk
     exact ⟨o,e,ex⟩
   obtain ⟨o,e,ex⟩:=z
   refine ⟨⟨o,e,ex.1⟩,fun a e2=>?_⟩
   cases e2
   exact ⟨o,e,ex.2.1⟩
  ·obtain ⟨o,_,_,_,e,ex,_⟩:=I.hok p _ hk
   refine ⟨⟨o,e,ex.1⟩,fun a e2=>?_⟩
   cases e2
   exact ⟨o,e,ex.2.1⟩
 | _=>exact False.elim ty
def cN7 (K:PySem.W.Frag) (T:String) (r:V->List V->Hp->VK->Prop) (to:TE):TE:=fun σ H Q=>to σ H fun x H1=>tyV K T x H1/\r x [] H1 Q
def tBM (K:PySem.W.Frag) (T:String) (r:V->List V->Hp->VK->Prop) (to:TE) (t:TA):TE:=fun σ H Q=>to σ H fun x H1=>tyV K T x H1/\t σ H1 fun xs H2=>r x xs H2 Q
variable {o e:Expr}{es:List Expr}{to:TE}{t:TA}{name:Str}{apos cpos:Pos}{T id:String}{r:V->List V->Hp->VK->Prop}
theorem qW (pa:PlainAttrs T) (slot:Slot T name id) (hty:typeOf (.builtin id)=pure (.type "method_descriptor")) (hm:MtR X id r) (ho:PE X o to)
  (hbase:attributeBase o name X.env (eval o X.env)=eval o X.env:=by rfl) (hline:(apos.endLine == cpos.line)=true:=by rfl):PE X (.Call (.Attribute o name apos) [] [] cpos) (cN7 X.K T r to):=by
 intro pins s σ H Q I h
 refine wpAny_Call_method0_late hbase hline (cW (ho pins s σ H _ I h) ?_);rintro v s1 ⟨x,H1,I1,r1,ty,q1⟩
 obtain ⟨h1,h2⟩:=aZ0 I1 r1 ty
 exact ⟨T,id,pa,slot,hty,h1,h2,jz rfl (PySem.evalArgs_none (hm pins s1 σ H1 x [] v [] Q I1 r1 .nil q1))⟩
theorem fN (pa:PlainAttrs T) (slot:Slot T name id) (hty:typeOf (.builtin id)=pure (.type "method_descriptor")) (hm:MtR X id r) (ho:PE X o to) (ha:PA X (e :: es) t)
  (hbase:attributeBase o name X.env (eval o X.env)=eval o X.env:=by rfl)
  (hfew:((backTo cpos (starEach (e :: es) X.env)).all (fun x=> !x.1) && (backToKw cpos (keywordEach [] X.env)).all (fun x=>x.1.isSome)
   && decide ((e :: es).length+([]:List Keyword).length+(if ([]:List Keyword).isEmpty then 0 else 1) < 30))=true:=by rfl)
  (hline:(apos.endLine == cpos.line)=true:=by rfl) (hs:starEach (e :: es) X.env=(false,eval e X.env) :: starEach es X.env:=by rfl) (hplain:(backTo cpos (starEach es X.env)).any (·.1)=false:=by rfl) :
  PE X (.Call (.Attribute o name apos) (e :: es) [] cpos) (tBM X.K T r to t):=by
 intro pins s σ H Q I h
 refine wpAny_Call_method_late hbase hfew hline rfl (cW (ho pins s σ H _ I h) ?_);rintro v s1 ⟨x,H1,I1,r1,ty,q1⟩
 obtain ⟨h1,h2⟩:=aZ0 I1 r1 ty
 refine ⟨T,id,pa,slot,hty,h1,h2,?_⟩
 have hA:=ha cpos pins s1 σ H1 _ I1 q1
 rw [hs] at hA ⊢
 refine jz (by show (false || (backTo cpos (starEach es X.env)).any (·.1))=false;rw [hplain] <;> rfl) (ow ?_)
 refine cW hA ?_;rintro us s2 ⟨vs,H2,I2,r2,q2⟩;exact hm pins s2 σ H2 x vs v us Q I2 r1 r2 q2
end
def MtM (X:Cx) (id:String) (r:V->List V->Hp->VK->Prop):Prop :=
 ∀ (pins:List (Addr×Obj)) (s:Shared) (σ: St) (H:Hp) (x:V) (xs:List V) (v:Value) (us:List Value) (Q:VK),aW X pins σ H s->bL x v->bF xs us->r x xs H Q ->
  wpAny (model X.prog X.w) X.A (call (.builtin id) (v :: us)) (EP X pins σ Q) X.xe s
theorem bF.one:∀ {x:V}{us:List Value},bF [x] us->∃ u,us=[u]/\bL x u
 | _,_,.cons r .nil=>⟨_,rfl,r⟩
theorem bF.zero:∀ {us:List Value},bF [] us->us=[]
 | _,.nil=>rfl
theorem bF.dropLast {xs:List V}{us:List Value}(h:bF xs us):bF xs.dropLast us.dropLast:=by
 induction h with
 | nil=>exact .nil
 | cons r t ih =>
  cases t with
  | nil=>exact .nil
  | cons q t'=>exact .cons r ih
theorem bF.reverse {xs:List V}{us:List Value}(h:bF xs us):bF xs.reverse us.reverse:=by
 induction h with
 | nil=>exact .nil
 | cons r t ih=>rw [lh,lh];exact bF.append ih (.cons r .nil)
theorem bF.rep {xs:List V}{us:List Value}(h:bF xs us):∀ k:Nat,bF (List.replicate k xs).flatten (List.replicate k us).flatten
 | 0=> .nil
 | k+1=>by
  rw [gh,gh,jr,jr]
  exact bF.append h (bF.rep h k)
theorem aC1 {α: Type}(l:List α):l.eraseIdx (l.length - 1)=l.dropLast:=by
 induction l with
 | nil=>rfl
 | cons a r ih =>
  cases r with
  | nil=>rfl
  | cons b r =>
   have e:(a :: b :: r).length - 1=((b :: r).length - 1)+1:=by
    rfl
   rw [e,List.eraseIdx_cons_succ,ih]
   all_goals rfl
theorem tP (its:List Value):∀ (k:Nat) (acc:List Value),
  List.foldl (fun x1 x2=>x1++x2) acc.toArray (List.replicate k its.toArray)=(acc++(List.replicate k its).flatten).toArray
 | 0,acc=>by simp
 | k+1,acc=>by
  have e:acc.toArray++its.toArray=(acc++its).toArray:=by simp
  have e2:(acc++its)++(List.replicate k its).flatten=acc++(List.replicate (k+1) its).flatten:=by
   rw [gh,jr,ee]
  rw [<- e2, <- tP its k (acc++its), <- e,gh,gm]
section
variable {X:Cx}{pins:List (Addr×Obj)}{σ: St}{H:Hp}{s:Shared}{l b:Addr}{xs ys zs:List V}
theorem aW.lset {its its':List Value}{n:Nat}{f:Array Value->Array Value}{t':Nat}(I:aW X pins σ H s) (hH:H l=some (.lst xs))
  (e:s.heap.get? l=some { cls:= .type "list",data:= .seq its.toArray n }) (hf:f its.toArray=its'.toArray) (hv:bF ys its') (hz:ys.length<=sizeLine) :
  aW X pins σ (aQ H l (.lst ys)) { s with heap:=s.heap.update l (Obj.mapSeq f),toks:=t' }:=by
 have q:=PySem.IsL.update e f
 rw [hf] at q
 refine I.write (x:=l) (e:=l) (by rw [hH];exact trivial) (.inl rfl) (fun b' u hb hu=>(du s.heap (Obj.mapSeq f) (Ne.symm hb)).trans hu) ⟨_,q⟩ ?_
 exact ⟨hz,its',_,hv,q⟩
theorem aW.lnew {its:List Value}{t':Nat}(I:aW X pins σ H s) (hv:bF ys its) (hz:ys.length<=sizeLine) :
  aW X pins σ (aQ H s.heap.objs.size (.lst ys)) { s with heap:=s.heap.push { cls:= .type "list",data:= .seq its.toArray },toks:=t' } :=
 I.laid (fun _ _ q=>ae _ q) (aj _) ⟨hz,its,0,hv,az _ rfl⟩
theorem aW.fresh (I:aW X pins σ H s):H s.heap.objs.size=none:=I.hok.fresh (aj _)
theorem aW.lstM (I:aW X pins σ H s) (hH:H l=some (.lst xs)):xs.length<=sizeLine/\∃ (its:List Value) (n:Nat),bF xs its/\xs.length=its.length/\s.heap.get? l=some { cls:= .type "list",data:= .seq its.toArray n }:=by
 obtain ⟨z,its,n,r,e⟩:=I.hok l _ hH
 exact ⟨z,its,n,r,r.length,e⟩
theorem yR {n:Nat}(h:n<=sizeLine):Builtin.List.listTooLong n=false:=by
 unfold Builtin.List.listTooLong
 exact cz (by lia)
end
section
variable {X:Cx}
def rAppend:V->List V->Hp->VK->Prop:=fun x vs H Q=>∃ l xs y,x= .ref l/\vs=[y]/\H l=some (.lst xs)/\xs.length < sizeLine/\Q .non (aQ H l (.lst (xs++[y])))
theorem dO:MtM X "list.append" rAppend:=by
 intro pins s σ H x vs v us Q I rx rv h
 obtain ⟨l,xs,y,rfl,rfl,hH,hz,q⟩:=h
 cases rx
 obtain ⟨u,rfl,ru⟩:=rv.one
 obtain ⟨z,its,n,r,hl,e⟩:=I.lstM hH
 refine ve F.slot_list_append ⟨_,e,rfl⟩ F.entry_list_append (F.args_list_append_2 _ _) (PySem.list_append l its.toArray n u (by rw [bt];(exact oqN))) ⟨e,?_⟩
 refine ⟨.non,_,I.lset (its':=its++[u]) hH e (by simp) (r.append (.cons ru .nil)) ?_,rfl,q⟩
 rw [am,cv]
 lia
def rExtend:V->List V->Hp->VK->Prop:=fun x vs H Q=>∃ l b xs zs,x= .ref l/\vs=[.ref b]/\H l=some (.lst xs)/\H b=some (.lst zs)/\xs.length+zs.length<=sizeLine/\Q .non (aQ H l (.lst (xs++zs)))
theorem gD:MtM X "list.extend" rExtend:=by
 intro pins s σ H x vs v us Q I rx rv h
 obtain ⟨l,b,xs,zs,rfl,rfl,hH,hB,hz,q⟩:=h
 cases rx
 obtain ⟨u,rfl,ru⟩:=rv.one
 cases ru
 obtain ⟨z,its,n,r,hl,e⟩:=I.lstM hH
 obtain ⟨z2,its2,n2,r2,hl2,e2⟩:=I.lstM hB
 have hsz:its.toArray.size+its2.toArray.size<=sizeLine:=by rw [bt,bt];lia
 have hlong:¬ (!its.toArray.isEmpty && Builtin.List.listTooLong (its.toArray.size+its2.toArray.size))=true:=by
  rw [yR hsz,Bool.and_false]
  exact bx
 refine ve F.slot_list_extend ⟨_,e,rfl⟩ F.entry_list_extend (F.args_list_extend_2 _ _)
  (AutoSeq1.list_extend_list_list_0 l its.toArray n b its2.toArray n2 hlong (by rw [bt];(exact oqN)) (by (exact oqf))) ⟨e,e2,?_⟩
 refine ⟨.non,_,I.lset (its':=its++its2) hH e (by simp) (r.append r2) ?_,rfl,q⟩
 rw [am]
 assumption
def rPop:V->List V->Hp->VK->Prop:=fun x vs H Q=>∃ l xs y,x= .ref l/\vs=[]/\H l=some (.lst xs)/\xs[xs.length - 1]?=some y/\Q y (aQ H l (.lst xs.dropLast))
theorem rM:MtM X "list.pop" rPop:=by
 intro pins s σ H x vs v us Q I rx rv h
 obtain ⟨l,xs,y,rfl,rfl,hH,hy,q⟩:=h
 cases rx
 have hus:=rv.zero
 subst hus
 obtain ⟨z,its,n,r,hl,e⟩:=I.lstM hH
 obtain ⟨u,hu,ru⟩:=r.get hy
 have hy':its.toArray[its.toArray.size - 1]?=some u:=by
  show its.toArray[its.length - 1]?=some u
  rw [<- ki, <- hl]
  exact hu
 refine ve F.slot_list_pop ⟨_,e,rfl⟩ F.entry_list_pop (F.args_list_pop_1 _) (MeetsSeq.list_pop_last l its.toArray n u hy' (by rw [bt];(exact oqN))) ⟨e,?_⟩
 refine ⟨y,_,I.lset (its':=its.dropLast) hH e ?_ r.dropLast ?_,ru,q⟩
 ·show its.toArray.eraseIdxIfInBounds (its.toArray.size - 1)=its.dropLast.toArray
  rw [bt,List.eraseIdxIfInBounds_toArray,aC1]
 ·rw [yg]
  lia
def rCat:R2:=fun x y H Q=>∃ l b xs zs,x= .ref l/\y= .ref b/\H l=some (.lst xs)/\H b=some (.lst zs)/\xs.length+zs.length<=sizeLine/\∀ p,H p=none->Q (.ref p) (aQ H p (.lst (xs++zs)))
theorem gQ:jU X (binaryOp .Add) rCat:=by
 intro pins s σ H x y v u Q I rx ry h
 obtain ⟨l,b,xs,zs,rfl,rfl,hH,hB,hz,q⟩:=h
 cases rx
 cases ry
 obtain ⟨z,its,n,r,hl,e⟩:=I.lstM hH
 obtain ⟨z2,its2,n2,r2,hl2,e2⟩:=I.lstM hB
 refine PySem.P.add_list e e2 ?_ (by rw [bt,bt];lia)
 have ea:its.toArray++its2.toArray=(its++its2).toArray:=by simp
 rw [ea]
 exact ⟨.ref _,_,I.lnew (t':=s.toks) (r.append r2) (by rw [am];assumption),rfl,q _ I.fresh⟩
def rRep:R2:=fun x y H Q=>∃ l k xs,x= .ref l/\y= .int k/\H l=some (.lst xs)/\ -(2 ^ 63)<=k/\k < 2 ^ 63/\xs.length * k.toNat<=sizeLine /\
 ∀ p,H p=none->Q (.ref p) (aQ H p (.lst (List.replicate k.toNat xs).flatten))
theorem bF3 {α: Type}(xs:List α) (k:Nat):(List.replicate k xs).flatten.length=k * xs.length:=by
 induction k with
 | zero=>simp
 | succ k ih=>rw [gh,jr,am,ih,rn,Nat.add_comm]
theorem aT6:jU X (binaryOp .Mult) rRep:=by
 intro pins s σ H x y v u Q I rx ry h
 obtain ⟨l,k,xs,rfl,rfl,hH,h1,h2,hz,q⟩:=h
 cases rx
 obtain ⟨t,rfl⟩:=ry
 obtain ⟨z,its,n,r,hl,e⟩:=I.lstM hH
 have hlen:its.toArray.size * k.toNat<=sizeLine:=by rw [bt, <- hl];exact hz
 have hcap:¬ its.toArray.size * k.toNat > (2 ^ 63 - 1) / 8:=by
  have:(sizeLine:Nat)<=(2 ^ 63 - 1) / 8:=by decide
  lia
 have hfit:¬ (!Builtin.List.listFitsIndex k)=true:=by
  rw [fitsIndex_both h1 h2]
  exact bx
 have hlong:¬ Builtin.List.listTooLong (its.toArray.size * k.toNat)=true:=by
  rw [yR hlen]
  exact bx
 have hnew:List.foldl (fun x1 x2=>x1++x2) #[] (List.replicate (if its.toArray.isEmpty=true then 0 else k.toNat) its.toArray)=(List.replicate k.toNat its).flatten.toArray:=by
  have f0:∀ m:Nat,List.foldl (fun x1 x2=>x1++x2) #[] (List.replicate m its.toArray)=(List.replicate m its).flatten.toArray:=fun m=>by
   have:=tP its m []
   rw [qd] at this
   exact this
  rw [f0]
  cases its with
  | nil=>simp
  | cons a r'=>rw [ak (by simp)]
 refine wpAny_binaryOp_repeat_ref (T:="list") (U:="int") (by decide) ⟨_,e,rfl⟩ (fun s'=>typeIs_int s' k t) noFill_list_mul F.fills_int_mul F.slot_int_rmul repeat_list F.slot_int_index.lookup
  (ve F.slot_int_rmul (typeIs_int s k t) F.entry_int_rmul (F.args_int_rmul_2 _ _) (int___rmul___int_list k t l its.toArray n)
   ⟨e,rfl,⟨_,e,rfl⟩,ve F.slot_list_mul ⟨_,e,rfl⟩ F.entry_list_mul (F.args_list_mul_2 _ _) (AutoListH.list___mul___list_int_3 l its.toArray n k t hfit hcap hlong) ⟨e,?_⟩⟩)
 rw [hnew]
 exact ⟨.ref _,_,I.lnew (t':=s.toks) (r.rep k.toNat) (by rw [bF3,Nat.mul_comm];exact hz),rfl,q _ I.fresh⟩
end
section
variable {prog:Program}{w:World}{A:Around}{E:Value->Shared->Prop}{s:Shared}
end
section
variable {X:Cx}
end
end L2
namespace Att
open PySem PySem.W PySem.Calls PyProof.Rows
theorem pI {P:Params}{h:Heap}:∀ (ns:List Int) (vs:List Value),WellAll P h vs (ns.map WData.int)->IntsAre vs ns:=by
 intro ns
 induction ns with
 | nil =>
  intro vs w
  rw [List.map_nil] at w
  cases w
  exact .nil
 | cons n ns ih =>
  intro vs w
  rw [List.map_cons] at w
  cases w with
  | cons a b =>
   cases a
   exact .cons _ _ (ih _ b)
theorem aO5 {l:OpenLaw}{n:Nat}(hn:l.most=some n) {P:Params}{h:Heap}{args:List WData}{vals:List Value}
  (hpre:l.row.toRowW.claim.pre args=true) (hwl:WellAll P h vals args) :
  ∃ a vs ns,vals=[Value.ref a]/\args=[WData.list (ns.map WData.int)]/\h.get? a=some { cls:= .type "list",data:= .seq vs.toArray }/\IntsAre vs ns/\ns.length<=n:=by
 have hsh:WShape.hasAll [] args [.list .int]=true:=(pre_splitW hpre).1
 have hc:l.pre.holds [] { args:=args }=true:=(pre_splitW hpre).2
 obtain ⟨d,r,rfl,h1,h2⟩:=hasAllW_cons hsh
 obtain rfl:=hasAllW_nil h2
 obtain ⟨xs,rfl,h3⟩:=hasW_list h1
 obtain ⟨ns,rfl⟩:=items_int h3
 have hlen:ns.length<=n:=by
  unfold OpenLaw.pre at hc
  have h4:(WTm.not (.lt (.lit (.int (n:Int))) (.len (.arg 0)))).holds [] { args:=[.list (ns.map .int)] }=true:=by
   have h4:=(holds_andW hc).1
   rw [hn] at h4
   exact h4
  have h5:=condW_of h4 (w_not (w_lt w_lit (w_len_list (w_arg rfl))))
  rw [List.length_map] at h5
  refine Nat.le_of_not_lt fun q=>?_
  have q':(n:Int) < ((ns.length:Nat):Int):=by lia
  first
   | (rw [decide_eq_true q'] at h5;exact absurd h5 (by decide))
   | (simp at h5;omega)
 cases hwl with
 | cons w1 w2 =>
  cases w2
  cases w1 with
  | list ho hall=>exact ⟨_,_,ns,rfl,rfl,ho,pI ns _ hall,hlen⟩
theorem aP6 (l:OpenLaw) (args:List WData):l.row.toRowW.claim.post args (.bool true) args=true :=
 postW_of (r:=l.row.toRowW) (X:=(true == true))
  (show WShape.has [] (.bool true) .bool=true by first | rfl | decide | simp [WShape.has,WShape.arms,WShape.armsAll])
  (show (WTm.eq .res (.lit (.bool true))).value [] { args:=args,res:=some (.bool true),after:=args }=some (.bool (true == true)) from w_eq_bool (w_res rfl) w_lit) rfl
theorem attach_call {l:OpenLaw}{n:Nat}{q:Program}{loose:List Str}{XP:(Str->Option Value)->Heap->Prop}{YP:World->Heap->Prop}{d:DefRec}
  (hn:l.most=some n) (hdf:d.params.defaults=[])
  (call:∀ (w:World) (s₀ s₁:Shared) (mg mb:Str->Option Value) (fa:Addr) (o:Obj) (pm cd doc:Value) (a:Addr) (vs:List Value) (ns:List Int),
   Ground q loose [] XP w s₀ mg mb s₁.heap->YP w s₁.heap ->
   s₁.heap.get? fa=some o->o.data= .func (docDef d.name d.params d.body d.scope pm cd doc)->s₁.heap.CodeRec cd d.name->mg d.name=some (.ref fa) ->
   s₁.heap.get? a=some { cls:= .type "list",data:= .seq vs.toArray }->IntsAre vs ns->ns.length<=n->s₁.gens= #[] ->
   codeAny (model l.prog w) callerA (.call (.ref fa) ⟨[.ref a],[]⟩) (fun r s'=>r= .ok (.ret (.bool true))/\OldK s₁.heap s'.heap/\s'.os=s₁.os/\AllBare s'.gens) s₁) :
  WalkO q loose XP YP l.row.toRowW d [] (fun f vs=>PySem.call f vs):=by
 intro w s₀ s₁ mg mb G Y fa o pm cd doc dV kV ho hd hcd hD hmg hg args vals as hpre hlay hrd hwl hlo
 obtain rfl:dV= .none:=Dflts.none hD hdf
 obtain rfl:kV= .none:=Dflts.noKw hD
 obtain ⟨a,vs,ns,rfl,rfl,hobj,hints,hlen⟩:=aO5 hn hpre hwl
 refine enter_call (codeAny_mono (call w s₀ s₁ mg mb fa o pm cd doc a vs ns G Y ho (fd_plain hd) hcd hmg hobj hints hlen hg) fun r s' hq=>?_)
 obtain ⟨rfl,h2,h3,h4⟩:=hq
 exact ⟨.inl ⟨.bool true,.bool true,[],rfl,fun _=>rfl,.bool true,aP6 l _,fun _=>⟨List.Pairwise.nil,fun _ hm=>(nomatch hm)⟩⟩,h2,h3,h4⟩
section
variable {prog:Program}{w:World}{A:Around}{E:Value->Shared->Prop}{s:Shared}{K:Frag}
def cM1 (h:Heap) (L d:Addr):List (Addr×Obj):=(List.range h.objs.size).filterMap fun a=>if a=L\/a=d then none else (h.get? a).map fun o=>(a,o)
end
end Att
namespace L2
open PySem PySem.Spec PyProof.Rows
theorem uA:∀ {vs:List Value}{ns:List Int},IntsAre vs ns->bF (ns.map V.int) vs
 | _,_,.nil=> .nil
 | _,_,.cons n t h=> .cons ⟨t,rfl⟩ (uA h)
def bR3 (H:Hp):Prop:=∀ b,H b=none\/∃ o xs,H b=some (.frz o (.lst xs))
theorem aS1 {P:Program}{w:World}{K:PySem.W.Frag}{mg mb:Str->Option Value}{CX:CXT}{k:Nat}{fa a:Addr}{fd:FuncData}{x:Str}{sp:Sp}{s₁:Shared}{vs:List Value}{ns:List Int}
  (KX:K.In s₁.heap) (hns:s₁.heap.Ns mainGlobals mg) (hb:s₁.heap.Ns builtinsNs mb) (hbb:∀ x:Str,x≠"__name__"->mb x=bootBuiltins x) (hlim:s₁.heap.NoLimit) (hg:s₁.gens= #[])
  (ha:s₁.heap.get? a=some { cls:= .type "list",data:= .seq vs.toArray }) (hi:IntsAre vs ns) (hl:ns.length<=sizeLine) (hr:dQ k callerA)
  (F:∀ base:Heap,K.In base->base.Ns mainGlobals mg->mM P w K mg base CX k fa fd [x] sp) (hbind:∀ (s:Shared) (u:Value),BindsTo s fd ⟨[u],[]⟩ [(x,u)])
  (hsp:∀ H:Hp,bR3 H->bC K H a (ns.map V.int)->sp [.ref a] H (fun v _=>v= .bl true) fun _ _ _=>False)
  (hCX:∀ H e s',CX [] H s₁ (fun _ _ _=>False) e s'->False) :
  codeAny (model P w) callerA (.call (.ref fa) ⟨[.ref a],[]⟩) (fun r s'=>r= .ok (.ret (.bool true))/\OldK s₁.heap s'.heap/\s'.os=s₁.os/\AllBare s'.gens) s₁:=by
 have rv:=uA hi
 have lenV:=hi.length
 have core:∀ H:Hp,bR3 H->bC K H a (ns.map V.int)->mN P w H s₁.heap->(∀ b,H b≠none->b=a)->(H a≠none->K.lookup a=none) ->
   codeAny (model P w) callerA (.call (.ref fa) ⟨[.ref a],[]⟩) (fun r s'=>r= .ok (.ret (.bool true))/\OldK s₁.heap s'.heap/\s'.os=s₁.os/\AllBare s'.gens) s₁:=by
  intro H hO hS hok hA hK
  have base_of:∀ {b:Addr}{o:Obj},s₁.heap.get? b=some o->H b=none->(wZ s₁.heap H).get? b=some o:=fun e n=>bB6 e n
  have noA:∀ {b:Addr}{o:Obj}{es:Array DictEntry}{ep:Nat},s₁.heap.get? b=some o->o.data= .dict es ep->H b=none:=fun {b o es ep} e d=>by
   cases q:H b with
   | none=>rfl
   | some u =>
    have e':b=a:=hA b (by rw [q];simp)
    subst e'
    rw [ha] at e;cases e
    have d':Data.seq vs.toArray _=Data.dict es ep:=d
    cases d'
  have nsK:∀ {b:Addr}{m:Str->Option Value},s₁.heap.Ns b m->(wZ s₁.heap H).Ns b m:=fun {b m} ⟨o,es,ep,e,d,r⟩=>⟨o,es,ep,base_of e (noA e d),d,r⟩
  have hKb:K.In (wZ s₁.heap H):=fun b o e=>base_of (KX b o e) (by
   cases q:H b with
   | none=>rfl
   | some u =>
    have e':b=a:=hA b (by rw [q];simp)
    subst e'
    rw [hK (by rw [q];simp)] at e;cases e)
  have hM:Mod K mg (wZ s₁.heap H):=⟨hKb,nsK hns,⟨mb,nsK hb,hbb⟩,let ⟨mc,h1,h2⟩:=hlim;⟨mc,nsK h1,h2⟩⟩
  have e0:aA4 P w K mg (wZ s₁.heap H) callerA [] s₁ H:=⟨rfl,hM,fun b o e=>bI2 e,vi (aN9 _ _),trivial,fun b hb=>absurd (show b∈([]:List Addr) from hb) (by simp),hok,.of_eq hg⟩
  refine lq ((F _ hKb (nsK hns)).run callerA [] s₁ H ⟨[.ref a],[]⟩ [.ref a] [.ref a] _ _ hr e0 (hbind s₁ (.ref a)) (.cons rfl .nil) (hsp H hO hS)) fun r s' h=>?_
  cases r with
  | error e=>exact (hCX H e s' h).elim
  | ok fl =>
   cases fl with
   | next=>exact False.elim h
   | brk=>exact False.elim h
   | cont=>exact False.elim h
   | ret u =>
    obtain ⟨v,H',os,bare,un,hok',r',q⟩:=h
    have q':v= .bl true:=q
    subst q'
    obtain rfl:u=Value.bool true:=r'
    refine ⟨rfl,OldK.of_keep fun b o e=>?_,os,bare⟩
    cases q:H b with
    | none=>exact un.keep b o e q (by intro z;exact absurd (show b∈([]:List Addr) from z) (by simp)) (by simp)
    | some u =>
     rcases hO b with z | ⟨ob,xs,z⟩
     ·rw [q] at z;cases z
     ·have z2:=un.frzs b ob _ z
      obtain ⟨e1,_⟩:=hok b _ z
      obtain ⟨e2,_⟩:=hok' b _ z2
      rw [e] at e1;cases e1
      exact e2
 cases hk:K.lookup a with
 | some o =>
  have e:=KX a o hk
  rw [ha] at e
  cases e
  refine core (fun _=>none) (fun _=> .inl rfl) (.inr ⟨_,vs.toArray,_,hk,rfl,rfl,rfl,by rw [bt,lenV];exact hl,by simpa using rv⟩) (fun b u z=>by have z':(none:Option HO)=some u:=z;cases z') (fun b z=>absurd rfl z) fun z=>absurd rfl z
 | none =>
  refine core (fun b=>if b=a then some (.frz { cls:= .type "list",data:= .seq vs.toArray } (.lst (ns.map V.int))) else none) (fun b=>?_) (.inl (.inr ⟨{ cls:= .type "list",data:= .seq vs.toArray },ay rfl⟩)) (fun b u z=>?_) (fun b z=>?_) fun _=>hk
  ·by_cases hb:b=a
   ·exact .inr ⟨_,_,ay hb⟩
   ·exact .inl (ak hb)
  ·by_cases hb:b=a
   ·have z':=(ay hb).symm.trans z
    cases z'
    subst hb
    exact ⟨ha,by rw [ac];exact hl,vs,_,rv,ha⟩
   ·have z':=(ak hb).symm.trans z
    cases z'
  ·by_cases hb:b=a
   ·exact hb
   ·exact absurd (ak hb) z
theorem walk_of {l:PySem.W.OpenLaw}{n k:Nat}{q:Program}{loose:List Str}{XP:(Str->Option Value)->Heap->Prop}{YP:World->Heap->Prop}{d:DefRec}{K:Params->PySem.W.Frag}{CX:World->CXT}{sp:World->Sp}{x:Str}
  (hn:l.most=some n) (hn2:n<=sizeLine) (hdf:d.params.defaults=[]) (hr:dQ k callerA)
  (hY:∀ (w:World) (h:Heap),YP w h->(K w.params).In h)
  (F:∀ (w:World) (mg:Str->Option Value) (fa:Addr) (h:Heap),(K w.params).In h->h.Ns mainGlobals mg->mg d.name=some (.ref fa) ->
   ∃ fd:FuncData,(∀ (s:Shared) (u:Value),BindsTo s fd ⟨[u],[]⟩ [(x,u)]) /\
    ∀ base:Heap,(K w.params).In base->base.Ns mainGlobals mg->mM l.prog w (K w.params) mg base (CX w) k fa fd [x] (sp w))
  (hsp:∀ (w:World) (H:Hp) (a:Addr) (ns:List Int),ns.length<=n->bR3 H->bC (K w.params) H a (ns.map V.int)->sp w [.ref a] H (fun v _=>v= .bl true) fun _ _ _=>False)
  (hCX:∀ (w:World) (H:Hp) (s:Shared) (e:Value) (s':Shared),CX w [] H s (fun _ _ _=>False) e s'->False) :
  PySem.W.WalkO q loose XP YP l.row.toRowW d [] (fun f vs=>PySem.call f vs):=by
 refine Att.attach_call hn hdf fun w s₀ s₁ mg mb fa o pm cd doc a vs ns G Y ho hd hcd hmg hobj hints hlen hg=>?_
 have KX:=hY w _ Y
 obtain ⟨fd,hb,hF⟩:=F w mg fa _ KX G.T.g hmg
 exact aS1 KX G.T.g G.T.b G.T.builtins G.T.nolimit hg hobj hints (cu hlen hn2) hr hF hb (fun H hO hS=>hsp w H a ns hlen hO hS) fun H e s'=>hCX w H s₁ e s'
def cU (s:Stmt):Arguments:=match s with
 | .FunctionDef _ a _ _ _ _ _ _ _ _=>a
 | _=>{ posonlyargs:=[],args:=[],vararg:=none,kwonlyargs:=[],kw_defaults:=[],kwarg:=none,defaults:=[] }
def cJ (s:Stmt):List Stmt:=match s with
 | .FunctionDef _ _ b _ _ _ _ _ _ _=>b
 | _=>[]
def bH (s:Stmt):Scope:=match s with
 | .FunctionDef _ _ _ _ _ _ sc _ _ _=>sc
 | _=>{ kind:= .function,names:=[],isGenerator:=false,isCoroutine:=false }
abbrev CX0:CXT:=fun _ _ _ _ _ _=>False
abbrev E0:XK:=fun _ _ _=>False
theorem bK8 {X:Cx}:sM CX0 X E0:=fun _ _ _ _ _ _ _ h=>h.elim
structure tE (K:PySem.W.Frag) (x qual:Str) (st:Stmt) (f:Addr) (fd:FuncData):Prop where
 ex:∃ (oc:Value) (od:Option Addr) (kV doc pm:Value) (an:Option Addr) (cdv ct:Value) (osl:Array (Option Value)),
  fd=PySem.W.fnOf x qual (cU st) (cJ st) (bH st) .none kV doc pm an cdv ct/\K.lookup f=some ⟨oc,od,.func fd,osl⟩/\PySem.W.codeIn K cdv qual=true
 kp:PySem.W.keepIn K (.ref f)=true
section
variable {P:Program}{w:World}{K:PySem.W.Frag}{mg:Str->Option Value}{base:Heap}
theorem tE.ok {x qual:Str}{st:Stmt}{f:Addr}{fd:FuncData}{N ps:List Str}{k:Nat}{sp:Sp}(F:tE K x qual st f fd) (S:lQ N ps (bH st)) (len:∀ vs H Q E,sp vs H Q E->vs.length=ps.length)
  (hbody:∀ (cdv:Value) (A:Around) (outer:List Env) (s:Shared) (H:Hp) (vs:List V) (Q:VK) (E:XK),dQ k (A.deeper (envOfC qual (bH st) s.heap.objs.size f cdv))->sp vs H Q E ->
   ∃ t,xG (aE3 CX0 P w K mg base N qual (bH st) f cdv A outer s H E).nox (cJ st) t/\t { nx:=fun _ H'=>Q .non H',rt:=Q } (nS N vs) H):mM P w K mg base CX0 (k+1) f fd ps sp:=by
 obtain ⟨oc,od,kV,doc,pm,an,cdv,ct,osl,rfl,lk,hcd⟩:=F.ex
 refine cI4 lk hcd S len fun A outer s H vs Q E hr hsp=>?_
 obtain ⟨t,h,q⟩:=hbody cdv A outer s H vs Q E hr hsp
 exact ⟨t,h.nox,q⟩
theorem tE.binds {x qual:Str}{st:Stmt}{f:Addr}{fd:FuncData}{ps:List Str}(F:tE K x qual st f fd)
  (h:∀ (kV doc pm:Value) (an:Option Addr) (cdv ct:Value) (us:List Value),us.length=ps.length->bindArgs (PySem.W.fnOf x qual (cU st) (cJ st) (bH st) .none kV doc pm an cdv ct) ⟨us,[]⟩=pure (ps.zip us)):gT K fd ps []:=by
 obtain ⟨oc,od,kV,doc,pm,an,cdv,ct,osl,rfl,lk,hcd⟩:=F.ex
 exact .all (h kV doc pm an cdv ct)
theorem aQ6 {x qual:Str}{st:Stmt}{f:Addr}{oc:Value}{od an:Option Addr}{osl:Array (Option Value)}{kV doc pm cdv ct:Value}(l:K.lookup f=some ⟨oc,od,.func (PySem.W.fnOf x qual (cU st) (cJ st) (bH st) .none kV doc pm an cdv ct),osl⟩)
  (c:PySem.W.codeIn K cdv qual=true) (k:PySem.W.keepIn K (.ref f)=true):tE K x qual st f (PySem.W.fnOf x qual (cU st) (cJ st) (bH st) .none kV doc pm an cdv ct):=⟨⟨oc,od,kV,doc,pm,an,cdv,ct,osl,rfl,l,c⟩,k⟩
end
theorem iR {A:Around}{k:Nat}(hr:dQ k A):A.units+1 < cLine:=bz (Nat.add_le_add_left (by decide:1<=64) _) hr.units
theorem aV {n:Nat}(h:n<=1000):n < sizeLine:=bz h (by decide)
section
variable {X:Cx}
theorem pv (i:Nat) {x:Str}{pos:Pos}(hN:X.N[i]?=some x:=by rfl) (hv:Vis X.env.scope x:=by first | exact kb rfl | exact xk (kb rfl) | exact xk (xk rfl)) (hd:(x == ("__debug__": Str))=false:=by decide)
  (hcd:(x == ("__classdict__": Str))=false:=by decide):PE X (.Name x pos) (mQ i):=bT1 hN hv hd hcd
end
theorem cG2 {A B:Prop}(h:B):if false=true then A else B:=by
 rw [ak bx]
 exact h
theorem nL {c A B:Prop} [Decidable c] (h1:c->A) (h2:¬ c->B):if c then A else B:=by
 by_cases h:c
 ·rw [ay h]
  exact h1 h
 ·rw [ak h]
  exact h2 h
theorem bL1 {c A B:Prop} [Decidable c] (hc:c) (h:B):if (!decide c)=true then A else B:=by
 rw [ag hc]
 exact cG2 h
def aS (H H':Hp):Prop:=∀ b o,H b=some o->H' b=some o
theorem aS.refl (H:Hp):aS H H:=fun _ _ h=>h
theorem aS.trans {H H1 H2:Hp}(a:aS H H1) (b:aS H1 H2):aS H H2:=fun c o h=>b c o (a c o h)
theorem aS.free {H H':Hp}(e:aS H H') {l:Addr}(h:H' l=Option.none):H l=Option.none:=by
 cases q:H l with
 | none=>rfl
 | some o =>
  rw [e l o q] at h
  cases h
theorem aS.seq {K:PySem.W.Frag}{H H':Hp}{a:Addr}{xs:List V}(e:aS H H') (h:bC K H a xs):bC K H' a xs:=by
 rcases h with (h | ⟨o,h⟩) | h
 ·exact .inl (.inl (e _ _ h))
 ·exact .inl (.inr ⟨o,e _ _ h⟩)
 ·exact .inr h
section
variable {κ: Type} [DecidableEq κ]
end
end L2
set_option maxHeartbeats 4000000
namespace L2
open PySem PySem.Spec PyProof.Rows
def vU (env:Env) (names:List (Str×NameKind)):List (Str×Addr) :=
 names.foldl (fun cs y=>if y.2 == NameKind.free then (y.1,(env.cells.lookup y.1).getD 0) :: cs else cs) []
theorem bB3 {env:Env}:∀ (names:List (Str×NameKind)) (cs:List (Str×Addr)),(∀ y∈names,y.2= .free->∃ c,env.cells.lookup y.1=some c) ->
  (forIn names cs fun (y:Str×NameKind) (r:List (Str×Addr))=>(if y.2 == NameKind.free then (do let a <- cellOf env y.1;pure (ForInStep.yield ((y.1,a) :: r))) else pure (ForInStep.yield r):Sem (ForInStep (List (Str×Addr))))) =
   pure (names.foldl (fun cs y=>if y.2 == NameKind.free then (y.1,(env.cells.lookup y.1).getD 0) :: cs else cs) cs)
 | [],cs,_=>rfl
 | (n,k) :: r,cs,h=>by
  have ih:=fun cs'=>bB3 (env:=env) r cs' fun y hy=>h y (aq _ hy)
  rw [List.forIn_cons,gm]
  by_cases hk:k= .free
  ·subst hk
   obtain ⟨c,hc⟩:=h (n,.free) ao rfl
   have e:cellOf env n=pure c:=by unfold cellOf;rw [hc]
   simp only [beq_self_eq_true,if_true,e,pure_bind,hc,Option.getD_some]
   exact ih _
  ·have hb:(k == NameKind.free)=false:=by simpa using hk
   simp only [hb,Bool.false_eq_true,if_false,pure_bind]
   exact ih _
theorem sV {scope:Scope}{env:Env}(h:∀ y∈scope.names,y.2= .free->∃ c,env.cells.lookup y.1=some c):closureFor scope env=pure (vU env scope.names):=by
 unfold closureFor
 have e:=bB3 (env:=env) scope.names [] h
 simp only [] at e ⊢
 refine Eq.trans ?_ (fc (fun m:Sem (List (Str×Addr))=>m >>= fun cs=>pure cs) e)
 rfl
theorem bB4 {env:Env}{x:Str}{c:Addr}:∀ (names:List (Str×NameKind)) (cs:List (Str×Addr)),(∀ y∈names,y.2= .free->∃ c,env.cells.lookup y.1=some c) ->
  (names.foldl (fun cs y=>if y.2 == NameKind.free then (y.1,(env.cells.lookup y.1).getD 0) :: cs else cs) cs).lookup x=some c->cs.lookup x=some c\/env.cells.lookup x=some c
 | [],_,_,e=> .inl e
 | (n,k) :: r,cs,h,e=>by
  rw [gm] at e
  have ih:=bB4 r _ (fun y hy=>h y (aq _ hy)) e
  rcases ih with q | q
  ·by_cases hk:k= .free
   ·subst hk
    obtain ⟨c',hc⟩:=h (n,.free) ao rfl
    simp only [beq_self_eq_true,if_true,hc,Option.getD_some,List.lookup_cons] at q
    cases hx:x == n with
    | true =>
     rw [hx] at q
     have:x=n:=by simpa using hx
     subst this
     simp only [Option.some.injEq] at q
     subst q
     exact .inr hc
    | false =>
     rw [hx] at q
     exact .inl q
   ·have hb:(k == NameKind.free)=false:=by simpa using hk
    simp only [hb,Bool.false_eq_true,if_false] at q
    exact .inl q
  ·exact .inr q
theorem aC8 {env:Env}{x:Str}:∀ (names:List (Str×NameKind)) (cs:List (Str×Addr)),((x,NameKind.free)∈names\/∃ c,cs.lookup x=some c) ->
  ∃ c,(names.foldl (fun cs y=>if y.2 == NameKind.free then (y.1,(env.cells.lookup y.1).getD 0) :: cs else cs) cs).lookup x=some c
 | [],_,e=>by rcases e with e | e;exact absurd e (by simp);exact e
 | (n,k) :: r,cs,e=>by
  rw [gm]
  refine aC8 r _ ?_
  rcases e with e | ⟨c,e⟩
  ·rcases cf.mp e with z | z
   ·cases z
    right
    simp only [beq_self_eq_true,if_true,List.lookup_cons]
    exact ⟨_,rfl⟩
   ·exact .inl z
  ·right
   by_cases hk:k= .free
   ·subst hk
    simp only [beq_self_eq_true,if_true,List.lookup_cons]
    cases hx:x == n with
    | true=>exact ⟨_,rfl⟩
    | false=>exact ⟨c,e⟩
   ·have hb:(k == NameKind.free)=false:=by simpa using hk
    simp only [hb,Bool.false_eq_true,if_false]
    exact ⟨c,e⟩
theorem mX {env:Env}{x:Str}:∀ {names:List (Str×NameKind)},(∀ y∈names,y.2≠ .cell) ->
  ((names.map fun (n,k)=>if (k == NameKind.free && env.scope.kind == .function && env.kindOf n == some .cell) then (n,NameKind.cell) else (n,k)).lookup x=some .cell \/
   (names.map fun (n,k)=>if (k == NameKind.free && env.scope.kind == .function && env.kindOf n == some .cell) then (n,NameKind.cell) else (n,k)).lookup x=some .free)->(x,NameKind.free)∈names
 | [],_,h=>by simp at h
 | (n,k) :: r,hc,h=>by
  have ih:= @mX env x r fun y hy=>hc y (aq _ hy)
  have hk:=hc (n,k) ao
  simp only [List.map_cons] at h
  by_cases cc:(k == NameKind.free && env.scope.kind == .function && env.kindOf n == some .cell)=true
  ·rw [ay cc] at h
   have kf:k= .free:=by
    simp only [Bool.and_eq_true,beq_iff_eq] at cc
    exact cc.1.1
   subst kf
   simp only [List.lookup_cons] at h
   cases hx:x == n with
   | true =>
    have:x=n:=by simpa using hx
    subst this
    exact ao
   | false=>rw [hx] at h;exact aq _ (ih h)
  ·rw [ak cc] at h
   simp only [List.lookup_cons] at h
   cases hx:x == n with
   | true =>
    rw [hx] at h
    have:x=n:=by simpa using hx
    subst this
    rcases h with h | h
    ·simp only [Option.some.injEq] at h
     exact absurd h hk
    ·simp only [Option.some.injEq] at h
     subst h
     exact ao
   | false=>rw [hx] at h;exact aq _ (ih h)
abbrev aX1 (ifs:List Expr) (env:Env):Sem Bool:=forIn ifs true fun c r =>
 if r=true then do
  let ok <- isTrue c env (eval c env)
  pure (ForInStep.yield ok)
 else pure (ForInStep.yield r)
def aU8 (X:Cx) (ifs:List Expr) (t:TT):Prop :=
 ∀ (pins:List (Addr×Obj)) (s:Shared) (σ: St) (H:Hp) (Q:Bool->Hp->Prop),aW X pins σ H s->t σ H Q ->
  wpAny (model X.prog X.w) X.A (aX1 ifs X.env) (TP X pins σ Q) X.xe s
def tYes:TT:=fun _ H Q=>Q true H
theorem eS {X:Cx}:aU8 X [] tYes:=fun _ _ _ H _ I h=>wpAny_tests_nil ⟨H,I,h⟩
theorem qP {X:Cx}{c:Expr}{t:TT}(h:PT X c t):aU8 X [c] t:=fun pins s σ H Q I q=>wpAny_tests_one (h pins s σ H Q I q)
abbrev aB3:Value->Shared->Prop:=fun _ _=>False
theorem aL7 {prog:Program}{w:World}{A:Around}{R:Result->Shared->Prop}{s0:Shared}{elt target iter:Expr}{ifs:List Expr}{scope:Scope}{pos:Pos}{it acc:Value}{env:Env}(W:Nat->Shared->Prop)
  (one:∀ k t,W k t->wpAny (model prog w) A (pyNext it) (fun r t1=>match r with
   | none=>R (.ok .next) t1
   | some v=>wpAny (model prog w) A (letOwnedTupleGo target it v) (fun _ t2=>wpAny (model prog w) A (assign target env v) (fun _ t3=>wpAny (model prog w) A (aX1 ifs env) (fun ok t4 =>
     if ok=true then wpAny (model prog w) A (eval elt env) (fun x t5=>wpAny (model prog w) A (call (.builtin "list.append") [acc,x]) (fun _ t6=>∃ j,j < k/\W j t6) aB3 t5) aB3 t4
     else ∃ j,j < k/\W j t4) aB3 t3) aB3 t2) aB3 t1) aB3 t)
  (k0:Nat) (h0:W k0 s0):codeAny (model prog w) A (.compLoop (.ListComp elt [⟨target,iter,ifs,0⟩] scope pos) 0 it acc env) R s0:=by
 refine codeAny_loop rfl W (fun k t hW=>?_) k0 h0
 refine wpAny_noted (m:=compTurn (.ListComp elt [⟨target,iter,ifs,0⟩] scope pos) 0 it acc env) ?_
 have no:∀ {P:Prop}{e:Value}{t:Shared},aB3 e t->P:=fun z=>z.elim
 rw [compTurn_list]
 refine aa (yq (aa (fj (one k t hW) (fun r t1 q1=>?_) fun _ _=>no)))
 match r with
 | none=>exact af q1
 | some v =>
  refine aa (fj q1 (fun _ t2 q2=>aa (fj q2 (fun _ t3 q3=>aa (fj q3 (fun ok t4 q4=>?_) fun _ _=>no)) fun _ _=>no)) fun _ _=>no)
  match ok with
  | false=>exact af ⟨rfl,q4⟩
  | true =>
   rw [ay rfl] at q4
   refine aa (aa (fj q4 (fun x t5 q5=>aa (fj q5 (fun _ t6 q6=>?_) fun _ _=>no)) fun _ _=>no))
   exact af (af ⟨rfl,q6⟩)
def yU (ix:List (Option Nat)) (σ: St):St:=ix.map fun o=>o.bind fun j=>σ[j]?.join
theorem aS8 {ix:List (Option Nat)}{σ: St}{i:Nat}{v:V}(h:(yU ix σ)[i]?=some (some v)):∃ j,ix[i]?=some (some j)/\σ[j]?=some (some v):=by
 unfold yU at h
 rw [cj] at h
 cases e:ix[i]? with
 | none=>rw [e] at h;cases h
 | some o =>
  rw [e] at h
  cases o with
  | none=>cases h
  | some j =>
   have h:some (σ[j]?.join)=some (some v):=h
   refine ⟨j,rfl,?_⟩
   cases q:σ[j]? with
   | none=>rw [q] at h;cases h
   | some z=>rw [q] at h;cases h;rfl
def vZ (N:List Str) (sc scope:Scope) (N':List Str) (ix:List (Option Nat)):Bool :=
 ix.length == N'.length && (ix.zip N').all (fun p=>match p.1 with | none=>true | some j=>N[j]? == some p.2 && scope.names.lookup p.2 == some NameKind.free) &&
 scope.names.all (fun y=>y.2 != NameKind.cell && (y.2 != NameKind.free || sc.names.lookup y.1 == some NameKind.cell || sc.names.lookup y.1 == some NameKind.free) && (y.2 != NameKind.local || scope.names.lookup y.1 == some NameKind.local)) &&
 scope.kind == ScopeKind.function
structure iD (N:List Str) (sc scope:Scope) (N':List Str) (ix:List (Option Nat)):Prop where
 len:ix.length=N'.length
 at_:∀ (i j:Nat) (x:Str),ix[i]?=some (some j)->N'[i]?=some x->N[j]?=some x/\scope.names.lookup x=some .free
 nocell:∀ y∈scope.names,y.2≠ .cell
 free:∀ y∈scope.names,y.2= .free->sc.names.lookup y.1=some .cell\/sc.names.lookup y.1=some .free
 loc:∀ y∈scope.names,y.2= .local->scope.names.lookup y.1=some .local
 kind:scope.kind= .function
theorem iD.of {N:List Str}{sc scope:Scope}{N':List Str}{ix:List (Option Nat)}(h:vZ N sc scope N' ix=true):iD N sc scope N' ix:=by
 unfold vZ at h
 simp only [Bool.and_eq_true,beq_iff_eq,List.all_eq_true] at h
 obtain ⟨⟨⟨h1,h2⟩,h3⟩,h4⟩:=h
 refine ⟨h1,fun i j x a b=>?_,fun y hy e=>?_,fun y hy e=>?_,fun y hy e=>?_,h4⟩
 ·have hm:(some j,x)∈ix.zip N':=be (i:=i) (by rw [List.getElem?_zip_eq_some];exact ⟨a,b⟩)
  have q:=h2 _ hm
  simp only [Bool.and_eq_true,beq_iff_eq] at q
  exact q
 ·have q:=h3 y hy
  simp only [Bool.and_eq_true,bne_iff_ne,ne_eq] at q
  exact q.1.1 e
 ·have q:=(h3 y hy).1.2
  rw [e] at q
  simpa using q
 ·have q:=(h3 y hy).2
  rw [e] at q
  simpa using q
def cM (X:Cx) (N':List Str) (scope:Scope) (C:Addr) (s₂:Shared) (H₂:Hp) (fp:List Addr):Cx where
 prog:=X.prog
 w:=X.w
 K:=X.K
 mg:=X.mg
 base:=X.base
 A:=X.A
 N:=N'
 s₀:=s₂
 H₀:=H₂
 env:=compEnvC scope (vU X.env scope.names) C X.env
 outer:=X.stack
 stack:=X.stack
 ex:=fp
 fn:=fun _=>false
 calm:=X.calm
 pn:=[]
 xe:=fun _ _=>False
section
variable {X:Cx}{N':List Str}{ix:List (Option Nat)}{scope:Scope}{pins:List (Addr×Obj)}{σ: St}{H₂:Hp}{s₂:Shared}{fp:List Addr}{C:Addr}
theorem iD.cells (S:iD X.N X.env.scope scope N' ix) (I:aW X pins σ H₂ s₂):∀ y∈scope.names,y.2= .free->∃ c,X.env.cells.lookup y.1=some c:=fun y hy e=>I.ok.has y.1 (S.free y hy e)
theorem iD.get (S:iD X.N X.env.scope scope N' ix) (I:aW X pins σ H₂ s₂) {x:Str}{c:Addr}(h:(vU X.env scope.names).lookup x=some c):X.env.cells.lookup x=some c:=by
 rcases bB4 scope.names [] (S.cells I) h with q | q
 ·exact absurd q (by simp)
 ·exact q
theorem aP5 (S:iD X.N X.env.scope scope N' ix) (I:aW X pins σ H₂ s₂) (hf:∀ b∈fp,lW X pins H₂ b) (hC:s₂.heap.objs.size<=C) (hfC:∀ b∈fp,b < s₂.heap.objs.size):(cM X N' scope C s₂ H₂ fp).Ok where
 mod:=I.ok.mod
 kind:=S.kind
 glob:=I.ok.glob
 blt:=I.ok.blt
 above:=hC
 inj:=fun x y c a b=>I.ok.inj x y c (S.get I a) (S.get I b)
 has:=fun x h=>aC8 scope.names [] (.inl (mX S.nocell h))
 cab:=fun x c h=>by cases h
 hd:=I.ok.hd
 frames:=I.ok.frames
 stk:= .inl rfl
 exf:=fun b hb=>⟨bq (cm (hfC b hb) hC),fun x c e=>(hf b hb).2.2.2.2.1 x c (S.get I e)⟩
 bs:=I.bs
 bsz:=cu I.ok.bsz I.sz
 noex:=fun b o e hb=>by
  rcases (hf b hb).2.2.2.1 with z | z
  ·exact I.ok.noex b o e z
  ·exact absurd (cm (av e) (cu I.ok.bsz z)) (gy _)
 exfs:=fun b hb hm=>by
  rcases cf.mp (I.stkSub b hm) with z | z
  ·exact (hf b hb).2.1 z
  ·exact (hf b hb).2.2.1 z
 funs:=I.stack
 frf:=I.stkFree
theorem aD1 (S:iD X.N X.env.scope scope N' ix) (I:aW X pins σ H₂ s₂) (hf:∀ b∈fp,lW X pins H₂ b) (hfC:∀ b∈fp,b < s₂.heap.objs.size) {D:Addr}{h₁:Heap}{tk:Nat}{m:Str->Option Value}{ob:Obj}
  (hC:s₂.heap.objs.size<=C) (hD:s₂.heap.objs.size<=D) (hDC:D≠C) (old:∀ b o,s₂.heap.get? b=some o->h₁.get? b=some o) (hn:h₁.Ns C m) (hob:h₁.get? D=some ob) (hd:∀ v,ob.data≠ .cell v) :
  aW (cM X N' scope C s₂ H₂ fp) [(D,ob)] (yU ix σ) H₂ { s₂ with heap:=h₁,toks:=tk }:=by
 have fr:∀ a,s₂.heap.objs.size<=a->H₂ a=none:=fun a ha=>I.hok.fresh ha
 have cOf:∀ x c,(vU X.env scope.names).lookup x=some c->X.env.cells.lookup x=some c:=fun x c e=>S.get I e
 refine ⟨aP5 S I hf hC hfC,rfl,I.bare,Un.kept old,⟨m,hn,fun i x v e1 e2 e3=>?_⟩,fun x c e=>?_,fr C hC,fun x c e=>I.freeC x c (cOf x c e),fun p hp=>?_,I.hok.kept old,?_⟩
 ·obtain ⟨j,q1,q2⟩:=aS8 e2
  obtain ⟨n1,n2⟩:=S.at_ i j x q1 e1
  have hm:(x,NameKind.free)∈scope.names:=jw n2
  have hv:Vis X.env.scope x:=by
   rcases S.free _ hm rfl with z | z
   ·exact .inr (.inl z)
   ·exact .inr (.inr z)
  obtain ⟨m0,_,hl⟩:=I.loc
  obtain ⟨u,r,l⟩:=hl j x v n1 q2 hv
  refine ⟨u,r,?_⟩
  have hne:¬ X.env.kindOf x=some .local:=fun z=>by
   have z:X.env.scope.names.lookup x=some .local:=z
   rcases S.free _ hm rfl with y | y
   ·rw [y] at z;cases z
   ·rw [y] at z;cases z
  rcases l with ⟨k,_⟩ | ⟨k,c,e,z⟩
  ·exact absurd k hne
  ·obtain ⟨c',hc'⟩:=aC8 (env:=X.env) (x:=x) scope.names [] (.inl hm)
   have hc'':=cOf x c' hc'
   rw [e] at hc''
   cases hc''
   have kk:(cM X N' scope C s₂ H₂ fp).env.kindOf x=some .cell\/(cM X N' scope C s₂ H₂ fp).env.kindOf x=some .free:=by
    rcases e3 with y | y | y
    ·exfalso
     have:∀ {names:List (Str×NameKind)},names.lookup x=some .free ->
      (names.map fun (n,k)=>if (k == NameKind.free && X.env.scope.kind == .function && X.env.kindOf n == some .cell) then (n,NameKind.cell) else (n,k)).lookup x=some .local->False:=by
      intro names
      induction names with
      | nil=>intro a;simp at a
      | cons p r ih =>
       obtain ⟨n,k⟩:=p
       intro a b
       simp only [List.map_cons] at b
       simp only [List.lookup_cons] at a
       cases hx:x == n with
       | true =>
        rw [hx] at a
        simp only [Option.some.injEq] at a
        subst a
        split at b
        ·simp [List.lookup_cons,hx] at b
        ·simp [List.lookup_cons,hx] at b
       | false =>
        rw [hx] at a
        split at b
        ·simp only [List.lookup_cons,hx] at b;exact ih a b
        ·simp only [List.lookup_cons,hx] at b;exact ih a b
     exact this n2 y
    ·exact .inl y
    ·exact .inr y
   obtain ⟨oc,ho,hod⟩:=z
   exact .inr ⟨kk,c,hc',oc,old _ _ ho,hod⟩
 ·obtain ⟨v,o,ho,hod⟩:=I.cell x c (cOf x c e)
  exact ⟨v,o,old _ _ ho,hod⟩
 ·have hp:p∈[(D,ob)]:=hp
  have e:p=(D,ob):=by simpa using hp
  subst e
  refine ⟨hob,fr D hD,hDC,fun hb=>?_,hd⟩
  have hb:D∈frs X.stack:=hb
  rcases cf.mp (I.stkSub D hb) with z | z
  ·exact absurd I.lt (by rw [<- z];exact oy.mpr hD)
  ·exact I.nofs hD z
 ·show (yU ix σ).length=N'.length
  unfold yU
  rw [ac,S.len]
theorem aC4 (I:aW X pins σ H₂ s₂) (hf:∀ b∈fp,lW X pins H₂ b) {pins':List (Addr×Obj)}{σ':St}{H':Hp}{s':Shared}{D:Addr}{ys:List V}{its:List Value}(hC:s₂.heap.objs.size<=C) (hD:s₂.heap.objs.size<=D)
  (J:aW (cM X N' scope C s₂ H₂ fp) pins' σ' H' s') (hn:H' D=none) (hl:s'.heap.PlainList D its.toArray) (r:bF ys its) (hz:ys.length<=sizeLine):aW X pins σ (aQ H' D (.lst ys)) s':=by
 have sb:Un (frs X.stack) fp H₂ H' s₂.heap s'.heap:=J.base
 have nD:∀ b u,H' b=some u->b≠D:=fun b u e=>aL e hn
 refine I.call' (ch:=fp) J.os ⟨sb.keep,sb.slot,fun b o e n hx=>?_,sb.there,fun b xs e=>?_,fun b o u e=>?_,fun b ps e=>?_⟩ (fun b u e=>?_) J.bare (fun b hb=>?_)
 ·rw [aI (bq (cm (av e) hD))]
  exact sb.free b o e n hx
 ·have q:=sb.tups b xs e
  rw [aI (nD b _ q)];exact q
 ·have q:=sb.frzs b o u e
  rw [aI (nD b _ q)];exact q
 ·obtain ⟨more,q⟩:=sb.tbls b ps e
  exact ⟨more,by rw [aI (nD b _ q)];exact q⟩
 ·by_cases hb:b=D
  ·subst hb
   rw [aD] at e
   cases e
   obtain ⟨n,hg⟩:=hl
   exact ⟨hz,its,n,r,hg⟩
  ·rw [aI hb] at e
   exact (J.hok b u e).stay (fun c v _ q=>q) (fun c q=>by rw [aI (nD c _ q)];exact q) fun c xs q=>by rw [aI (nD c _ q)];exact q
 ·obtain ⟨_,f1,_,f3,f4,f5⟩:=hf b hb
  exact ⟨f3,f1,f4,f5⟩
end
def uV (J:It) (g:TG) (tc:TT) (te:TE) (Kf:List V->Hp->Prop) (σ0:St) (H1:Hp):Prop :=
 ∃ W:Nat->Nat->List V->St->Hp->Prop,(∃ m,W 0 m [] σ0 H1)/\∀ i m ys σ' H',W i m ys σ' H'->ys.length < sizeLine /\
  ((J.stop i H'/\Kf ys H')\/(J.go i H'/\∃ N:List V->St->Hp->Prop,(∀ ys' σ2 H2,N ys' σ2 H2->∃ m',m' < m/\W (i+1) m' ys' σ2 H2)/\∀ x H'',J.yld i H' x H''->g x σ' H'' fun σ2 H2=>tc σ2 H2 fun b H3 =>
   if b=true then te σ2 H3 fun y H4=>N (ys++[y]) σ2 H4 else N ys σ2 H3))
def aZ2 (wi:TI) (ix:List (Option Nat)) (g:TG) (tc:TT) (te:TE):TE:=fun σ H Q =>
 wi σ H fun J H1=>uV J g tc te (fun ys H'=>∀ l,H' l=none->Q (.ref l) (aQ H' l (.lst ys))) (yU ix σ) H1
section
variable {X:Cx}{tg elt iter:Expr}{ifs:List Expr}{scope:Scope}{pos:Pos}{N':List Str}{ix:List (Option Nat)}{wi:TI}{g:TG}{tc:TT}{te:TE}
def bH3 (X:Cx) (pins:List (Addr×Obj)) (σ: St) (Kf:List V->Hp->Prop) (acc:Value) (C:Addr) (s':Shared):Prop :=
 ∃ D H' ys,acc= .ref D/\H' D=none/\aW X pins σ (aQ H' D (.lst ys)) s'/\(∃ m,s'.heap.Ns C m)/\H' C=none/\D≠C/\C≠X.env.locals/\X.s₀.heap.objs.size<=C/\(∀ x c,X.env.cells.lookup x=some c->c≠C)/\(∀ p∈X.pn++pins,p.1≠C)/\Kf ys H'
theorem uY {pins:List (Addr×Obj)}{s₂:Shared}{σ: St}{H₂:Hp}{it:Addr}{fp:List Addr}{tn:Nat->Heap->Prop}{J:It}{Kf:List V->Hp->Prop}{RR:Value->Addr->Result->Shared->Prop}{E:Value->Shared->Prop}
  (S:iD X.N X.env.scope scope N' ix) (hc:X.calm=true)
  (hg:∀ C s₂ H₂ fp,PG (cM X N' scope C s₂ H₂ fp) tg g) (ht:∀ C s₂ H₂ fp,aU8 (cM X N' scope C s₂ H₂ fp) ifs tc) (he:∀ C s₂ H₂ fp,PE (cM X N' scope C s₂ H₂ fp) elt te)
  (I2:aW X pins σ H₂ s₂) (T:aB2 X.prog X.w X.K tg J fp it tn) (st2:tn 0 s₂.heap) (f2:∀ b∈fp,lW X pins H₂ b) (w:uV J g tc te Kf (yU ix σ) H₂)
  (hR:∀ acc C s',bH3 X pins σ Kf acc C s'->RR acc C (.ok .next) s') :
  wpAny (model X.prog X.w) X.A (newList []) (fun acc s₃=>wpAny (model X.prog X.w) X.A (newFunctionEnv scope X.env.globals (vU X.env scope.names) [] X.env.qual none .none (some X.env)) (fun cenv s₄ =>
   codeAny (model X.prog X.w) X.A (.compStart (.ListComp elt [⟨tg,iter,ifs,0⟩] scope pos) 0 (.ref it) acc { cenv with scope:=relabel scope X.env }) (RR acc cenv.locals) s₄) E s₃) E s₂:=by
 obtain ⟨W,⟨m0,w0⟩,turn⟩:=w
 refine dj (wpAny_newFunctionEnv S.nocell (by intro y hy;simp at hy) (fun h₁ nsN sbN=>?_) S.kind)
 dsimp only at nsN sbN ⊢
 generalize eH:s₂.heap.push { cls:= .type "list",dict:=none,data:= .seq ([]:List Value).toArray }=G2 at nsN sbN ⊢
 have sizeC:G2.objs.size=s₂.heap.objs.size+1:=by rw [<- eH,gi]
 have neDC:s₂.heap.objs.size≠G2.objs.size:=by rw [sizeC];exact bq (ef _)
 have leC:s₂.heap.objs.size<=G2.objs.size:=by rw [sizeC];exact jy _
 have older:∀ b,b < s₂.heap.objs.size->b≠G2.objs.size/\b≠s₂.heap.objs.size:=fun b hb=>⟨by rw [sizeC];exact bq (js hb),bq hb⟩
 have keepOld:∀ b o,s₂.heap.get? b=some o->h₁.get? b=some o:=fun b o e=>sbN.extBut b o (older b (av e)).1 (ae _ (eH ▸ ae _ e))
 have accNew:h₁.PlainList s₂.heap.objs.size #[]:=⟨_,sbN.extBut _ _ neDC (ae _ (eH ▸ az _ rfl))⟩
 generalize eC:G2.objs.size=C at *
 generalize eD:s₂.heap.objs.size=D at *
 have hfC:∀ b∈fp,b < s₂.heap.objs.size:=fun b hb=>by
  obtain ⟨o,e,_⟩:=T.obj 0 _ st2 b hb
  exact av e
 have hfD:∀ b∈fp,b≠D:=fun b hb=>by have:=hfC b hb;rw [eD] at this;exact bq this
 have hfC':∀ b∈fp,b≠C:=fun b hb=>by have:=hfC b hb;rw [eD] at this;exact bq (cm this leC)
 have geD:s₂.heap.objs.size<=D:=by rw [eD];exact aj _
 have geC:s₂.heap.objs.size<=C:=by rw [eD];exact leC
 obtain ⟨nn,hob⟩:=id accNew
 have J1:aW (cM X N' scope C s₂ H₂ fp) [] (yU ix σ) H₂ { s₂ with heap:=h₁,toks:=s₂.toks+([]:List (Str×Value)).length } :=
  (aD1 S I2 f2 hfC geC geD neDC keepOld nsN hob (fun v z=>by cases z)).pins_of (fun p hp=>absurd hp (by simp))
 have nfsD:D∉frs X.stack:=fun hb=>by
  rcases cf.mp (I2.stkSub D hb) with z | z
  ·exact absurd I2.lt (by rw [<- z];exact oy.mpr geD)
  ·exact I2.nofs geD z
 have cOf:∀ x c,(vU X.env scope.names).lookup x=some c->c≠D/\c≠C:=fun x c e=>by
  obtain ⟨v,z⟩:=I2.cell x c (S.get I2 e)
  have:=z.lt
  rw [eD] at this
  exact ⟨bq this,bq (cm this leC)⟩
 have fpk:∀ {pl:List (Addr×Obj)}{H':Hp},(∀ b∈fp,H' b=none)->(∀ p∈pl,p.1∉fp)->∀ b∈fp,lW (cM X N' scope C s₂ H₂ fp) pl H' b:=fun {pl H'} hn hp b hb =>
  ⟨hn b hb,hfC' b hb,fun z=>by
    rcases cf.mp (I2.stkSub b z) with q | q
    ·exact (f2 b hb).2.1 q
    ·exact (f2 b hb).2.2.1 q,
   .inl hb,fun x c e=>(f2 b hb).2.2.2.2.1 x c (S.get I2 e),fun p hp' z=>hp p (by simpa [cM] using hp') (by rw [z];exact hb)⟩
 have dpk:∀ {H':Hp},H' D=none->∀ b∈[D],lW (cM X N' scope C s₂ H₂ fp) [] H' b:=fun {H'} hn b hb=>by
  have e:b=D:=by simpa using hb
  subst e
  exact ⟨hn,neDC,nfsD,.inr geD,fun x c e=>(cOf x c e).1,fun p hp=>absurd hp (by simp [cM])⟩
 have loop:codeAny (model X.prog X.w) X.A (.compLoop (.ListComp elt [⟨tg,iter,ifs,0⟩] scope pos) 0 (.ref it) (.ref D) (compEnvC scope (vU X.env scope.names) C X.env)) (RR (.ref D) C) { s₂ with heap:=h₁,toks:=s₂.toks+([]:List (Str×Value)).length }:=by
  refine aL7 (fun n s'=>∃ i ys σ' H' its,aW (cM X N' scope C s₂ H₂ fp) [] σ' H' s'/\tn i s'.heap/\(∀ b∈fp,H' b=none)/\H' D=none/\s'.heap.PlainList D its.toArray/\bF ys its/\W i n ys σ' H') ?_ m0
   ⟨0,[],_,H₂,[],J1,T.keep _ _ _ st2 fun b _ o e=>keepOld b o e,fun b hb=>(f2 b hb).1,I2.hok.fresh geD,accNew,.nil,w0⟩
  rintro n s3 ⟨i,ys,σ3,H3,its,I3,st3,fr3,dn3,pl3,rv3,w3⟩
  obtain ⟨nn3,hob3⟩:=id pl3
  have oD:∀ b∈[D],∃ o,s3.heap.get? b=some o/\∀ v,o.data≠ .cell v:=fun b hb=>by
   have e:b=D:=by simpa using hb
   subst e
   exact ⟨_,hob3,fun v z=>by cases z⟩
  have I3':aW (cM X N' scope C s₂ H₂ fp) (iK [D] s3.heap) σ3 H3 s3:=by
   have:=I3.pinned (dpk dn3) oD
   simpa using this
  have pD:(D,({ cls:= .type "list",data:= .seq its.toArray nn3 }:Obj))∈iK [D] s3.heap:=iF (by simp) hob3
  have npD:∀ p∈iK [D] s3.heap,p.1∉fp:=fun p hp z=>by
   have e:p.1=D:=by simpa using (vK hp).1
   exact hfD _ z e
  obtain ⟨hys,tt⟩:=turn i n ys σ3 H3 w3
  rcases tt with ⟨stop,qn⟩ | ⟨go,N,hN,step⟩
  ·refine fj (T.done (cM X N' scope C s₂ H₂ fp) rfl rfl rfl hc i (iK [D] s3.heap) s3 σ3 H3 (fun _ _=>False) I3' (fpk fr3 npD) st3 stop) (fun r s4 ⟨hr,I4⟩=>?_) fun _ _ z=>z
   subst hr
   have g4:=(I4.pin _ (bw _ pD)).1
   refine hR _ _ _ ⟨D,H3,ys,rfl,dn3,aC4 I2 f2 geC geD I4 dn3 ⟨nn3,g4⟩ rv3 (bu hys),?_,?_,neDC,?_,?_,?_,?_,qn⟩
   ·obtain ⟨m,hm,_⟩:=I4.loc
    exact ⟨m,hm⟩
   ·exact I4.free
   ·exact de (cm I2.lt geC)
   ·exact cu I2.sz geC
   ·intro x c e z
    obtain ⟨v,q⟩:=I2.cell x c e
    exact absurd (cm q.lt geC) (by rw [z];exact gy _)
   ·intro p hp z
    exact absurd (cm (av (I2.pin p hp).1) geC) (by rw [z];exact gy _)
  ·refine fj (T.item (cM X N' scope C s₂ H₂ fp) rfl rfl rfl hc i (iK [D] s3.heap) s3 σ3 H3 (fun _ _=>False) I3' (fpk fr3 npD) st3 go) (fun r s4 ⟨u,hr,h4⟩=>?_) fun _ _ z=>z
   subst hr
   refine fj h4 (?_) fun _ _ z=>z;rintro _ s5 ⟨x,H5,I5,r5,y5,st5,fr5⟩
   have I5':=I5.pinned (fpk fr5 npD) (T.obj _ _ st5)
   refine fj (hg C s₂ H₂ fp _ s5 σ3 H5 x u _ I5' r5 (step x H5 y5)) (?_) fun _ _ z=>z;rintro _ s6 ⟨σ6,H6,I6,q6⟩
   refine fj (ht C s₂ H₂ fp _ s6 σ6 H6 _ I6 q6) (?_) fun _ _ z=>z;rintro b s7 ⟨H7,I7,q7⟩
   have fin:∀ {s8:Shared}{σ8:St}{H8:Hp},aW (cM X N' scope C s₂ H₂ fp) (iK [D] s3.heap++iK fp s5.heap) σ8 H8 s8->s8.heap.get? D=some { cls:= .type "list",data:= .seq its.toArray nn3 }/\H8 D=none /\
     tn (i+1) s8.heap/\∀ b∈fp,H8 b=none:=fun {s8 σ8 H8} I8=>by
    have q:=I8.pin _ (bw _ (cx _ pD))
    refine ⟨q.1,q.2.1,T.keep _ _ _ st5 fun b hb o e=>(I8.pin (b,o) (bw _ (bw _ (iF hb e)))).1,fun b hb=>?_⟩
    obtain ⟨o,e,d⟩:=T.obj _ _ st5 b hb
    exact (I8.pin (b,o) (bw _ (bw _ (iF hb e)))).2.1
   cases b with
   | false =>
    obtain ⟨m',hm,w7⟩:=hN _ _ _ q7
    obtain ⟨a1,a2,a3,a4⟩:=fin I7
    exact ⟨m',hm,i+1,ys,σ6,H7,its,I7.pins_of fun p hp=>absurd hp (by simp),a3,a4,a2,⟨nn3,a1⟩,rv3,w7⟩
   | true =>
    refine fj (he C s₂ H₂ fp _ s7 σ6 H7 _ I7 q7) (?_) fun _ _ z=>z;rintro v s8 ⟨y,H8,I8,r8,n8⟩
    obtain ⟨m',hm,w8⟩:=hN _ _ _ n8
    obtain ⟨a1,a2,a3,a4⟩:=fin I8
    have hsz:its.toArray.size<=sizeLine:=by
     have:=rv3.length
     rw [bt]
     lia
    refine wpAny_list_append_plain (hsz:=hsz) ⟨nn3,a1⟩ fun h9 hl9 hs9=>?_
    have I9:aW (cM X N' scope C s₂ H₂ fp) [] σ6 H8 { s8 with heap:=h9 } :=
     (I8.pins_of (pins':=[]) fun p hp=>absurd hp (by simp)).turned (t':=s8.toks) (fun b o hb e=>(hs9.2 b hb).trans e) a2 neDC (.inr geD) (fun x c e=>(cOf x c e).1) fun p hp=>absurd hp (by simp [cM])
    refine ⟨m',hm,i+1,ys++[y],σ6,H8,its++[v],I9,T.keep _ _ _ a3 fun b hb o e=>(hs9.2 b (hfD b hb)).trans e,a4,a2,?_,rv3.append (.cons r8 .nil),w8⟩
    have e:(its++[v]).toArray=its.toArray.push v:=by simp
    rw [e];exact hl9
 exact codeAny_compStart_list loop (T.self _ 0 _ _ _ (T.keep _ _ _ st2 fun b _ o e=>keepOld b o e) loop)
theorem cZ (N':List Str) (ix:List (Option Nat)) (hi:PI X tg iter wi) (hg:∀ C s₂ H₂ fp,PG (cM X N' scope C s₂ H₂ fp) tg g) (ht:∀ C s₂ H₂ fp,aU8 (cM X N' scope C s₂ H₂ fp) ifs tc)
  (he:∀ C s₂ H₂ fp,PE (cM X N' scope C s₂ H₂ fp) elt te) (S:vZ X.N X.env.scope scope N' ix=true:=by rfl) (hc:X.calm=true:=by rfl) (hs:∀ x,foldedSetIterable iter X.env x=pure x:=by intro _;rfl) :
  PE X (.ListComp elt [⟨tg,iter,ifs,0⟩] scope pos) (aZ2 wi ix g tc te):=by
 intro pins s σ H Q I h
 have S:=iD.of S
 rw [eval_ListComp]
 refine vo (use:=none) (cl:=vU X.env scope.names) rfl hs (sV fun y hy e=>I.ok.has y.1 (S.free y hy e)) S.kind S.loc (cW (hi pins s σ H _ I h) fun xv s₁ h₁=>cW h₁ fun itv s₂ h₂=>?_)
 obtain ⟨it,fp,tn,J,H₂,rfl,I2,T,st2,f2,w⟩:=h₂
 refine uY (RR:=fun acc C=>compPost (model X.prog X.w) X.A X.xe none (EP X pins σ Q) acc C) S hc hg ht he I2 T st2 f2 w fun acc C s' ce=>?_
 obtain ⟨D,H',ys,rfl,dn,J',hm,cn,dc,c1,c2,c3,c4,kf⟩:=ce
 obtain ⟨m,hm⟩:=hm
 refine ⟨m,hm,fun h' hs'=>⟨.ref D,_,J'.turned (t':=s'.toks) (fun b o hb e=>(hs'.2 b hb).trans e) (by rw [aI dc.symm];exact cn) c1 (.inr c2) c3 c4,rfl,kf D dn⟩⟩
theorem vS (N':List Str) (ix:List (Option Nat)) {i:Nat}{x:Str}{pos' spos:Pos}(hN:X.N.Nodup) (hxi:X.N[i]?=some x) (hx:Loc X.env.scope x) (hi:PI X tg iter wi) (hg:∀ C s₂ H₂ fp,PG (cM X N' scope C s₂ H₂ fp) tg g) (ht:∀ C s₂ H₂ fp,aU8 (cM X N' scope C s₂ H₂ fp) ifs tc)
  (he:∀ C s₂ H₂ fp,PE (cM X N' scope C s₂ H₂ fp) elt te) (S:vZ X.N X.env.scope scope N' ix=true:=by rfl) (hc:X.calm=true:=by rfl) (hs:∀ x,foldedSetIterable iter X.env x=pure x:=by intro _;rfl)
  (hsw:swapsWith (.ListComp elt [⟨tg,iter,ifs,0⟩] scope pos) (some (.Name x pos')) spos.line X.env=pure true:=by rfl) (hf:X.fn x=true\/X.env.scope.names.lookup x=some .local:=by first | exact .inl rfl | exact .inr rfl | assumption) :
  PS X (.Assign [.Name x pos'] (.ListComp elt [⟨tg,iter,ifs,0⟩] scope pos) spos) (bB0 (aZ2 wi ix g tc te) (rQ i)):=by
 intro pins s σ H D I h
 have S:=iD.of S
 rw [exec_Assign_Name_used _ _ _ _ hsw]
 refine aa (yq (aa ?_))
 show wpAny _ X.A (do let _ <- comprehension (.ListComp elt [⟨tg,iter,ifs,0⟩] scope pos) scope X.env _ (newList []) false (eval iter X.env) (some (assign (.Name x pos') X.env))) _ _ s
 refine aa (fj (vo (use:=some (assign (.Name x pos') X.env)) (cl:=vU X.env scope.names) (Q:=fun _ s'=>SP X pins D .next s') rfl hs (sV fun y hy e=>I.ok.has y.1 (S.free y hy e)) S.kind S.loc
  (cW (hi pins s σ H _ I h) fun xv s₁ h₁=>cW h₁ fun itv s₂ h₂=>?_)) (fun _ s' hq=>af (af hq)) fun _ _ e=>e)
 obtain ⟨it,fp,tn,J,H₂,rfl,I2,T,st2,f2,w⟩:=h₂
 refine uY (RR:=fun acc C=>compPost (model X.prog X.w) X.A X.xe (some (assign (.Name x pos') X.env)) (fun _ s'=>SP X pins D .next s') acc C) S hc hg ht he I2 T st2 f2 w fun acc C s' ce=>?_
 obtain ⟨D',H',ys,rfl,dn,J',hm,cn,dc,c1,c2,c3,c4,kf⟩:=ce
 obtain ⟨m,hm⟩:=hm
 show wpAny _ X.A (assign (.Name x pos') X.env (.ref D')) _ _ _
 refine zy (uZ (v:= .ref D') J' hN hxi hx rfl (fun s2 J2 hsb=>?_) hf)
 obtain ⟨a,hsb,ha⟩:=hsb
 have hCa:C≠a:=by
  rcases ha with z | z
  ·rw [z];exact c1
  ·exact (c3 x a z).symm
 refine ⟨m,hm.sameBut hsb hCa,fun h' hs'=>?_⟩
 exact ⟨_,_,J2.turned (t':=s2.toks) (fun b o hb e=>(hs'.2 b hb).trans e) (by rw [aI dc.symm];exact cn) c1 (.inr c2) c3 c4,kf D' dn⟩
theorem dL {K:PySem.W.Frag}{a:Addr}{xs:List V}{Kf:List V->Hp->Prop}{σ0:St}{H1:Hp}(Pv:Nat->List V->St->Hp->Prop) (hz:xs.length < sizeLine) (h0:Pv 0 [] σ0 H1) (hb:∀ i ys σ H,Pv i ys σ H->ys.length<=i) (hl:∀ i ys σ H,i<=xs.length->Pv i ys σ H->bC K H a xs)
  (hs:∀ i x ys σ H,xs[i]?=some x->Pv i ys σ H->g x σ H fun σ2 H2=>tc σ2 H2 fun b H3=>if b=true then te σ2 H3 fun y H4=>Pv (i+1) (ys++[y]) σ2 H4 else Pv (i+1) ys σ2 H3) (hd:∀ ys σ H,Pv xs.length ys σ H->Kf ys H):uV (Itl K a) g tc te Kf σ0 H1:=by
 refine ⟨fun i m ys σ H=>m=xs.length - i/\i<=xs.length/\Pv i ys σ H,⟨xs.length,by simp,bj _,h0⟩,?_⟩
 rintro i m ys σ H ⟨rfl,hi,p⟩
 have q:=hl i ys σ H hi p
 refine ⟨bz (hb _ _ _ _ p) (bz hi hz),?_⟩
 by_cases hlt:i < xs.length
 ·refine .inr ⟨⟨xs,xs[i],q,by simp [hlt]⟩,Pv (i+1),fun ys' σ' H' p'=>⟨xs.length - (i+1),ij hlt (ef i),rfl,hlt,p'⟩,fun x H' y=>?_⟩
  obtain ⟨e,y⟩:=y
  subst e
  exact hs i x ys σ _ (y xs q) p
 ·have e:i=xs.length:=by lia
  subst e
  exact .inl ⟨⟨xs,q,aj _⟩,hd ys σ H p⟩
theorem qU {K:PySem.W.Frag}{a:Addr}{xs:List V}{Kf:List V->Hp->Prop}{σ0:St}{H1:Hp}(Pv:Nat->List V->St->Hp->Prop) (hz:xs.length < sizeLine) (h0:Pv 0 [] σ0 H1) (hb:∀ i ys σ H,Pv i ys σ H->ys.length<=i) (hl:∀ i ys σ H,i<=xs.length->Pv i ys σ H->aO K H a xs)
  (hs:∀ i x ys σ H,xs[i]?=some x->Pv i ys σ H->g x σ H fun σ2 H2=>tc σ2 H2 fun b H3=>if b=true then te σ2 H3 fun y H4=>Pv (i+1) (ys++[y]) σ2 H4 else Pv (i+1) ys σ2 H3) (hd:∀ ys σ H,Pv xs.length ys σ H->Kf ys H):uV (Itt K a) g tc te Kf σ0 H1:=by
 refine ⟨fun i m ys σ H=>m=xs.length - i/\i<=xs.length/\Pv i ys σ H,⟨xs.length,by simp,bj _,h0⟩,?_⟩
 rintro i m ys σ H ⟨rfl,hi,p⟩
 have q:=hl i ys σ H hi p
 refine ⟨bz (hb _ _ _ _ p) (bz hi hz),?_⟩
 by_cases hlt:i < xs.length
 ·refine .inr ⟨⟨xs,xs[i],q,by simp [hlt]⟩,Pv (i+1),fun ys' σ' H' p'=>⟨xs.length - (i+1),ij hlt (ef i),rfl,hlt,p'⟩,fun x H' y=>?_⟩
  obtain ⟨e,y⟩:=y
  subst e
  exact hs i x ys σ _ (y xs q) p
 ·have e:i=xs.length:=by lia
  subst e
  exact .inl ⟨⟨xs,q,aj _⟩,hd ys σ H p⟩
theorem iJ {lo:Int}{n:Nat}{Kf:List V->Hp->Prop}{σ0:St}{H1:Hp}(Pv:Nat->List V->St->Hp->Prop) (hz:n < sizeLine) (h0:Pv 0 [] σ0 H1) (hb:∀ i ys σ H,Pv i ys σ H->ys.length<=i)
  (hs:∀ i ys σ H,i < n->Pv i ys σ H->g (.int (lo+i)) σ H fun σ2 H2=>tc σ2 H2 fun b H3=>if b=true then te σ2 H3 fun y H4=>Pv (i+1) (ys++[y]) σ2 H4 else Pv (i+1) ys σ2 H3) (hd:∀ ys σ H,Pv n ys σ H->Kf ys H):uV (Itr lo n) g tc te Kf σ0 H1:=by
 refine ⟨fun i m ys σ H=>m=n - i/\i<=n/\Pv i ys σ H,⟨n,by simp,bj _,h0⟩,?_⟩
 rintro i m ys σ H ⟨rfl,hi,p⟩
 refine ⟨bz (hb _ _ _ _ p) (bz hi hz),?_⟩
 by_cases hlt:i < n
 ·refine .inr ⟨hlt,Pv (i+1),fun ys' σ' H' p'=>⟨n - (i+1),ij hlt (ef i),rfl,hlt,p'⟩,fun x H' y=>?_⟩
  obtain ⟨e,y⟩:=y
  subst e y
  exact hs i ys σ _ hlt p
 ·have e:i=n:=by lia
  subst e
  exact .inl ⟨aj _,hd ys σ H p⟩
end
theorem aX7:typeLookup (.type "list_reverseiterator") "__len__"=pure none:=by rw [nu,ji];kernel_rfl
theorem bJ2:typeLookup (.type "list_reverseiterator") "__length_hint__"=pure (some (.builtin "list_reverseiterator.__length_hint__")):=by rw [nu,ji];kernel_rfl
noncomputable abbrev newL:Obj:={ cls:= .type "list",data:= .seq #[] }
section
variable {prog:Program}{w:World}{A:Around}{E:Value->Shared->Prop}{Q:Value->Shared->Prop}{s:Shared}{it p:Addr}{items:Array Value}
theorem zW (hh:A.handled=none) (ne:p≠it) (hi:s.heap.IsRevIter it p ((items.size:Int) - 1)) (hp:s.heap.IsList p items) (hz:items.size<=sizeLine)
  (k:∀ t got c,(∀ b o,b≠it->s.heap.get? b=some o->t.heap.get? b=some o)->t.gens=s.gens->t.os=s.os ->
   t.heap.get? s.heap.objs.size=some { cls:= .type "list",dict:=none,data:= .seq got c,slots:= #[] }->got.toList=items.toList.reverse->Q (.ref s.heap.objs.size) t) :
  wpAny (model prog w) A (call (.type "list") [.ref it]) Q E s:=by
 let W:=(yu (prog:=prog) (w:=w) (A:=A.in1.in1) hh it p ne items).toS
 have st0:0<=items.size/\s.heap.IsRevIter it p ((items.size:Int) - 1 - ((0:Nat):Int))/\s.heap.IsList p items:=⟨bj _,by simpa using hi,hp⟩
 have itLt:it < s.heap.objs.size:=by
  obtain ⟨o,e,_⟩:=hi
  exact av e
 have pLt:p < s.heap.objs.size:=by
  obtain ⟨o,e,_⟩:=hp
  exact av e
 have fresh:s.heap.objs.size∉[it,p]:=fun m=>by
  rcases cf.mp m with z | z
  ·exact gy _ (z ▸ itLt)
  ·exact gy _ ((ax.mp z) ▸ pLt)
 have neS:s.heap.objs.size≠it:=fun z=>fresh (by rw [z];exact ao)
 refine callType_codes (Q₁:=fun o t=>o= .ref s.heap.objs.size/\t={ s with heap:=s.heap.push newL }) F.called_list (F.typeCall_list_1 _) F.entry_list_init (code_list_new _ ⟨rfl,rfl⟩) ?_
 rintro _ _ ⟨rfl,rfl⟩
 have hS:(s.heap.push newL).get? s.heap.objs.size=some newL:=az _ rfl
 refine ⟨⟨_,hS,rfl⟩,zn _ _,?_⟩
 refine aa (m:=Builtin.List.listItems (.ref s.heap.objs.size)) (aa (iu hS rfl (af ?_)))
 refine aa (m:=updateSeq s.heap.objs.size fun _=> #[]) (kj hS rfl (aa (wpAny_letGo ?_)))
 have hS2:=dv (Obj.mapSeq fun _=>(#[]:Array Value)) hS rfl
 have older:∀ b o,s.heap.get? b=some o->((s.heap.push newL).update s.heap.objs.size (Obj.mapSeq fun _=>(#[]:Array Value))).get? b=some o:=fun b o e =>
  (du _ _ (de (av e))).trans (ae _ e)
 have st1:=W.frame 0 s ((s.heap.push newL).update s.heap.objs.size (Obj.mapSeq fun _=>(#[]:Array Value))) s.toks st0 (aj _) fun b _ o e=>older b o e
 have ty:∀ i t,(fun (i:Nat) (t:Shared)=>i<=items.size/\t.heap.IsRevIter it p ((items.size:Int) - 1 - (i:Int))/\t.heap.IsList p items) i t->t.TypeIs (.ref it) "list_reverseiterator":=fun i t z=>z.2.1.typeIs
 unfold Builtin.List.listExtendWith
 refine aa (oj (ty 0 _ st1) ?_)
 have same:Builtin.List.listSameRef (.ref s.heap.objs.size) (.ref it)=false:=by simp [Builtin.List.listSameRef,neS]
 rw [ak (by rw [same];decide)]
 refine aa (W.self 0 _ _ _ st1 (aa (ii ?_)))
 unfold Builtin.List.listLengthHint
 refine aa (nt (ty 0 _ st1) aX7 ?_)
 refine aa (m:=specialOf (Value.ref it) (Str.ofString "__length_hint__")) (nt (ty 0 _ st1) bJ2 ?_)
 generalize hid:("list_reverseiterator.__length_hint__": String)=id0
 wp_delta
 rw [show splitId id0=some ("list_reverseiterator","__length_hint__") from by subst hid;decide +kernel]
 subst hid
 refine aa (md (b:=true) (ty 0 _ st1) (by rw [xm];kernel_rfl) (af ?_))
 rw [ak (by decide)]
 refine af ⟨ju F.plain_extend_loop _,yh W hz _ fresh _ items.size 0 _ _ _ rfl (bj _) st1 hS2 (ItemsOf.nil _) fun t got c mv at' its=>⟨rfl,?_⟩⟩
 refine k t got c (fun b o hb e=>mv.heap b o (fun m=>?_) (older b o e)) mv.gens mv.os at' ?_
 ·rcases cf.mp m with z | z
  ·exact absurd (av e) (by rw [z];exact gy _)
  ·exact hb (ax.mp z)
 ·obtain ⟨len,each⟩:=its
  refine List.ext_getElem? fun j=>?_
  by_cases hj:j < items.size
  ·have g:got[j]?=some got[j]:=lm (by lia)
   rw [xn (by simpa using hj),ki,ki,g, <- each j _ g]
   simp
  ·rw [om (by simp;lia),om (by simp;lia)]
end
noncomputable def aY6 (K:PySem.W.Frag) (te:TE):TE:=fun σ H Q=>te σ H fun x H1=>∃ a ys,x= .ref a/\bC K H1 a ys/\∀ l,H1 l=none->Q (.ref l) (aQ H1 l (.lst ys.reverse))
theorem qL {X:Cx}{e:Expr}{te:TE}{p1 p2 pos1 pos2:Pos}(he:PE X e te) (g1:Gl X "list") (m1:X.mg "list"=none) (g2:Gl X "reversed") (m2:X.mg "reversed"=none) (hc:X.calm=true:=by rfl)
  (hs1:starEach [.Call (.Name "reversed" p2) [e] [] pos2] X.env=[(false,eval (.Call (.Name "reversed" p2) [e] [] pos2) X.env)]:=by rfl) (hs2:starEach [e] X.env=[(false,eval e X.env)]:=by rfl) :
  PE X (.Call (.Name "list" p1) [.Call (.Name "reversed" p2) [e] [] pos2] [] pos1) (aY6 X.K te):=by
 intro pins s σ H Q I h
 refine gj (iT I g1 m1 jf ?_)
 refine fh ?_ hs1 rfl
 rw [hs1]
 refine ge (gj (iT I g2 m2 uv ?_))
 refine fh ?_ hs2 rfl
 rw [hs2]
 refine ge (cW (he pins s σ H _ I h) ?_);rintro u s1 ⟨x,H1,I1,r1,a,ys,ex,hq,q⟩;refine jb ?_
 subst ex
 cases r1
 obtain ⟨its,rv,pl,hz⟩:=I1.list hq
 have il:=pl.isList
 refine zo il (jb ?_)
 have I2:aW X pins σ H1 { s1 with heap:=s1.heap.push (revObj a ((its.toArray.size:Int) - 1)) }:=I1.kept (t':=s1.toks) fun b o e=>ae _ e
 have aLt:a < s1.heap.objs.size:=by
  obtain ⟨o,e,_⟩:=il
  exact av e
 have len:=rv.length
 obtain ⟨f0,f1,f2,f3,f4,f5⟩:lW X pins H1 s1.heap.objs.size:=I1.fpOk (aj _) (I1.hok.fresh (aj _))
 refine zW (p:=a) (items:=its.toArray) (I.ok.hd hc) (bq aLt) ⟨_,az _ rfl,rfl,rfl⟩ (il.at fun o e=>ae _ e) (by rw [bt];(exact oqN)) ?_
 intro t got c keep gens os at' eg
 obtain ⟨D,eD⟩:∃ D,(s1.heap.push (revObj a ((its.toArray.size:Int) - 1))).objs.size=D:=⟨_,rfl⟩
 have hD:(s1.heap.push (revObj a ((its.toArray.size:Int) - 1))).objs.size<=D:=vi eD
 dsimp only at at' ⊢
 rw [eD] at at' ⊢
 have fD:H1 D=none:=I2.hok.fresh hD
 have neT:∀ b u,H1 b=some u->b≠s1.heap.objs.size:=fun b u e z=>by rw [z,f0] at e;cases e
 refine ⟨.ref D,aQ H1 D (.lst ys.reverse),I2.call' (ch:=[s1.heap.objs.size]) os ⟨fun b o e n _ hx=>keep b o (fun z=>hx (by simp [z])) e,fun b o e n _ hx=>⟨o.slots,keep b o (fun z=>hx (by simp [z])) e⟩,fun b o e n _=>?_,fun b o e hx=>⟨o,keep b o (fun z=>hx (by simp [z])) e⟩,fun b xs e=>?_,fun b o u e=>?_,fun b ps e=>⟨#[],?_⟩⟩ (fun b u e=>?_) (by rw [gens];exact I2.bare) (fun b hb=>?_),rfl,q D fD⟩
 ·rw [aI (fun z=>absurd (av e) (by rw [z];exact oy.mpr hD))];exact n
 ·rw [aI (aL e fD)];exact e
 ·rw [aI (aL e fD)];exact e
 ·rw [aI (aL e fD),e];simp
 ·by_cases hb:b=D
  ·subst hb
   rw [aD] at e
   cases e
   have at2:t.heap.get? b=some { cls:= .type "list",dict:=none,data:= .seq its.reverse.toArray c,slots:= #[] }:=by
    rw [at', <- ro (xs:=got),eg]
   exact ⟨by rw [ik];exact hz,its.reverse,c,bF.reverse rv,at2⟩
  ·rw [aI hb] at e
   refine (I2.hok b u e).stay (fun c' v hc' q'=>keep c' v ?_ q') (fun c' q'=>by rw [aI (aL q' fD)];exact q') fun c' xs q'=>by rw [aI (aL q' fD)];exact q'
   rcases hc' with z | z
   ·rw [z];exact neT b u e
   ·exact neT c' _ z
 ·have z:b=s1.heap.objs.size:=by simpa using hb
  subst z
  exact ⟨f3,f1,f4,f5⟩
noncomputable def cA1 (i j:Int):Prop:=0 < j/\j < 2 ^ 250
theorem kO {X:Cx}:jU X (binaryOp .FloorDiv) (rI cA1 fun i j=> .int (i / j)):=opI fun i j _ _ _ _ _ hc q=>by
 obtain ⟨h0,h1⟩:=hc
 refine floordiv_int (by (exact oqt)) ?_ (.inl (vp ?_))
 ·rw [uw i (by (exact iq ‹_›))];exact q
 ·have h2:j.natAbs < 2 ^ 250:=by
   have e:((j.natAbs:Nat):Int)=j:=yi (by (exact iq ‹_›))
   have:((j.natAbs:Nat):Int) < ((2 ^ 250:Nat):Int):=by rw [e];exact_mod_cast h1
   exact Int.ofNat_lt.mp this
  have h3:j.natAbs≠0:=by lia
  have h4:j.natAbs.log2 < 250:=(wx h3).mpr h2
  exact cm h4 (by decide)
noncomputable def eR (sd n:Int) (l:Addr):List (Key×V):=[(.inr "seed",.int sd),(.inr "number",.int n),(.inr "left",.ref l)]
theorem ksn:¬ ((Sum.inr ("seed": Str):Key)=Sum.inr ("number": Str)):=by decide +kernel
theorem ksl:¬ ((Sum.inr ("seed": Str):Key)=Sum.inr ("left": Str)):=by decide +kernel
theorem knl:¬ ((Sum.inr ("number": Str):Key)=Sum.inr ("left": Str)):=by decide +kernel
theorem kns:¬ ((Sum.inr ("number": Str):Key)=Sum.inr ("seed": Str)):=by decide +kernel
theorem kls:¬ ((Sum.inr ("left": Str):Key)=Sum.inr ("seed": Str)):=by decide +kernel
theorem kln:¬ ((Sum.inr ("left": Str):Key)=Sum.inr ("number": Str)):=by decide +kernel
theorem aM7 (sd n:Int) (l:Addr):bP (eR sd n l) (Sum.inr "seed": Key)=some (.int sd):=by unfold eR;rw [dF rfl]
theorem xO (sd n:Int) (l:Addr):bP (eR sd n l) (Sum.inr "number": Key)=some (.int n):=by unfold eR;rw [cK ksn,dF rfl]
theorem aQ1 (sd n:Int) (l:Addr):bP (eR sd n l) (Sum.inr "left": Key)=some (.ref l):=by unfold eR;rw [cK ksl,cK knl,dF rfl]
theorem aV5 (sd n v:Int) (l:Addr):cX (eR sd n l) (Sum.inr "seed": Key) (.int v)=eR v n l:=by
 unfold cX eR
 simp
 exact ⟨fun z=>absurd (fc Sum.inr z) kns,fun z=>absurd (fc Sum.inr z) kls⟩
theorem aA6 (sd n v:Int) (l:Addr):cX (eR sd n l) (Sum.inr "number": Key) (.int v)=eR sd v l:=by
 unfold cX eR
 simp
 exact ⟨fun z=>absurd (fc Sum.inr z) ksn,fun z=>absurd (fc Sum.inr z) kln⟩
structure cI (H:Hp) (d l:Addr) (sd n:Int) (ls:List Int):Prop where
 dc:H d=some (.dK (eR sd n l))
 lc:H l=some (.lst (ls.map V.int))
 s0:0<=sd
 s1:sd < 2147483647
 n0:0<=n
 l0:∀ x∈ls,0<=x
noncomputable def dX (H:Hp) (d l:Addr):Prop:=∃ sd n ls,cI H d l sd n ls
theorem cI.ne {H:Hp}{d l:Addr}{sd n:Int}{ls:List Int}(D:cI H d l sd n ls):d≠l:=dD D.dc D.lc (by intro z;cases z)
noncomputable def eP (d l:Addr) (H H':Hp):Prop:=∀ b o,H b=some o->b≠d->b≠l->H' b=some o
theorem eP.refl {d l:Addr}(H:Hp):eP d l H H:=fun _ _ e _ _=>e
theorem eP.trans {d l:Addr}{H H1 H2:Hp}(a:eP d l H H1) (b:eP d l H1 H2):eP d l H H2:=fun c o e h1 h2=>b c o (a c o e h1 h2) h1 h2
theorem eP.of {d l:Addr}{H H':Hp}(s:aS H H'):eP d l H H':=fun c o e _ _=>s c o e
theorem eP.upd_d {d l:Addr}{H:Hp}{o:HO}:eP d l H (aQ H d o):=fun b u e h1 _=>by rw [aI h1];exact e
theorem eP.upd_l {d l:Addr}{H:Hp}{o:HO}:eP d l H (aQ H l o):=fun b u e _ h1=>by rw [aI h1];exact e
theorem aB {H:Hp}{p:Addr}(h:H p=none) (o:HO):aS H (aQ H p o):=fun b u q=>by rw [aI (aL q h)];exact q
theorem cI.seed {H:Hp}{d l:Addr}{sd n:Int}{ls:List Int}(D:cI H d l sd n ls) {v:Int}(h0:0<=v) (h1:v < 2147483647):cI (aQ H d (.dK (eR v n l))) d l v n ls :=
 ⟨aD,by rw [aI D.ne.symm];exact D.lc,h0,h1,D.n0,D.l0⟩
theorem cI.number {H:Hp}{d l:Addr}{sd n:Int}{ls:List Int}(D:cI H d l sd n ls) {v:Int}(h0:0<=v):cI (aQ H d (.dK (eR sd v l))) d l sd v ls :=
 ⟨aD,by rw [aI D.ne.symm];exact D.lc,D.s0,D.s1,h0,D.l0⟩
theorem cI.left {H:Hp}{d l:Addr}{sd n:Int}{ls ls':List Int}(D:cI H d l sd n ls) (h:∀ x∈ls',0<=x):cI (aQ H l (.lst (ls'.map V.int))) d l sd n ls' :=
 ⟨by rw [aI D.ne];exact D.dc,aD,D.s0,D.s1,D.n0,h⟩
theorem cI.out {H H':Hp}{d l:Addr}{sd n:Int}{ls:List Int}(D:cI H d l sd n ls) (s:aS H H'):cI H' d l sd n ls:=⟨s _ _ D.dc,s _ _ D.lc,D.s0,D.s1,D.n0,D.l0⟩
theorem dX.same {H H':Hp}{d l:Addr}(D:dX H d l) (s:aS H H'):dX H' d l:=by obtain ⟨sd,n,ls,q⟩:=D;exact ⟨sd,n,ls,q.out s⟩
theorem cI.gs {H:Hp}{d l:Addr}{sd n:Int}{ls:List Int}(D:cI H d l sd n ls):dG H d (.str "seed") (some (.int sd)):=by rw [<- aM7 sd n l];exact dG.k (k:=Sum.inr "seed") D.dc
theorem cI.gn {H:Hp}{d l:Addr}{sd n:Int}{ls:List Int}(D:cI H d l sd n ls):dG H d (.str "number") (some (.int n)):=by rw [<- xO sd n l];exact dG.k (k:=Sum.inr "number") D.dc
theorem cI.gl {H:Hp}{d l:Addr}{sd n:Int}{ls:List Int}(D:cI H d l sd n ls):dG H d (.str "left") (some (.ref l)):=by rw [<- aQ1 sd n l];exact dG.k (k:=Sum.inr "left") D.dc
theorem cI.ps {H:Hp}{d l:Addr}{sd n:Int}{ls:List Int}(D:cI H d l sd n ls) (v:Int):iY H d (.str "seed") (.int v) (aQ H d (.dK (eR v n l))):=by
 rw [<- aV5 sd n v l];exact iY.k (k:=Sum.inr "seed") D.dc (aV (by show 3<=1000;decide))
theorem cI.pn {H:Hp}{d l:Addr}{sd n:Int}{ls:List Int}(D:cI H d l sd n ls) (v:Int):iY H d (.str "number") (.int v) (aQ H d (.dK (eR sd v l))):=by
 rw [<- aA6 sd n v l];exact iY.k (k:=Sum.inr "number") D.dc (aV (by show 3<=1000;decide))
noncomputable def spDraw:Sp:=fun vs H Q _=>∃ (d l:Addr) (m:Int),vs=[.ref d,.int m]/\dX H d l/\0 < m/\m < 2 ^ 64 /\
 ∀ (r:Int) (H':Hp),0<=r->r < m->dX H' d l->eP d l H H'->Q (.int r) H'
noncomputable def aZ6 (K:PySem.W.Frag):Sp:=fun vs H Q _=>∃ (a:Addr) (ns:List Int) (b:Int),vs=[.ref a,.int b]/\bC K H a (ns.map V.int)/\ns.length<=63/\0<=b/\b<=1000 /\
 ∀ (d l:Addr) (H':Hp),H d=none->H l=none->dX H' d l->aS H H'->Q (.ref d) H'
theorem qG {ns:List Int}{i:Nat}{y:V}(h:(ns.map V.int)[i]?=some y):∃ z,y=V.int z/\ns[i]?=some z:=by
 rw [cj] at h
 cases e:ns[i]? with
 | none=>rw [e] at h;cases h
 | some z=>rw [e] at h;exact ⟨z,(dz h).symm,rfl⟩
mutual
def lX (K:PySem.W.Frag) (H:Hp):PyData->V->Prop
 | .none,v=>v= .non
 | .bool b,v=>v= .bl b
 | .int i,v=>v= .int i
 | .str x,v=>v= .str x
 | .tuple ds,v=>∃ a vs,v= .ref a/\aO K H a vs/\rR K H ds vs
 | .list ds,v=>∃ a vs,v= .ref a/\bC K H a vs/\rR K H ds vs
 | .dict _,_=>False
def rR (K:PySem.W.Frag) (H:Hp):List PyData->List V->Prop
 | [],vs=>vs=[]
 | d :: ds,vs=>∃ v r,vs=v :: r/\lX K H d v/\rR K H ds r
end
section
variable {X:Cx}{pins:List (Addr×Obj)}{σ: St}{H:Hp}{s:Shared}
mutual
theorem lX.reads (I:aW X pins σ H s):∀ (d:PyData) (v:V) (u:Value),lX X.K H d v->bL v u->∃ as,Reads s.heap u d as
 | .none,v,u,h,r=>by
  have h:v= .non:=h
  subst h;cases r;exact ⟨_,.none⟩
 | .bool b,v,u,h,r=>by
  have h:v= .bl b:=h
  subst h;cases r;exact ⟨_,.bool b⟩
 | .int i,v,u,h,r=>by
  have h:v= .int i:=h
  subst h;obtain ⟨t,rfl⟩:=r;exact ⟨_,.int i t⟩
 | .str x,v,u,h,r=>by
  have h:v= .str x:=h
  subst h;obtain ⟨t,rfl⟩:=r;exact ⟨_,.str x t⟩
 | .tuple ds,v,u,h,r=>by
  obtain ⟨a,vs,rfl,hs,hl⟩:=h
  cases r
  obtain ⟨its,rv,⟨o,ho,hc,n,hd⟩,_⟩:=I.tuple hs
  obtain ⟨as,ra⟩:=rR.reads I ds vs its hl rv
  exact ⟨_,.tuple ho hc hd (by simpa using ra)⟩
 | .list ds,v,u,h,r=>by
  obtain ⟨a,vs,rfl,hs,hl⟩:=h
  cases r
  obtain ⟨its,rv,pl,_⟩:=I.list hs
  obtain ⟨o,ho,hc,n,hd⟩:=pl.isList
  obtain ⟨as,ra⟩:=rR.reads I ds vs its hl rv
  exact ⟨_,.list ho hc hd (by simpa using ra)⟩
 | .dict _,v,u,h,r=>h.elim
theorem rR.reads (I:aW X pins σ H s):∀ (ds:List PyData) (vs:List V) (us:List Value),rR X.K H ds vs->bF vs us->∃ as,ReadsAll s.heap us ds as
 | [],vs,us,h,r=>by
  have h:vs=[]:=h
  subst h;cases r;exact ⟨_,.nil⟩
 | d :: ds,vs,us,h,r=>by
  obtain ⟨v,t,rfl,hd,ht⟩:=h
  cases r with
  | cons r1 r2 =>
   obtain ⟨as,ra⟩:=lX.reads I d v _ hd r1
   obtain ⟨bs,rb⟩:=rR.reads I ds t _ ht r2
   exact ⟨_,.cons ra rb⟩
end
end
section
variable {X:Cx}
def cM7 (K:PySem.W.Frag) (neg:Bool):R2:=fun x y H Q=>∃ d e,lX K H d x/\lX K H e y/\SeqAt.shaped d=true/\SeqAt.shaped e=true/\SeqAt.noMix d e=true/\Q (.bl (if neg then !Spec.same d e else Spec.same d e)) H
theorem bQ8 {k:Nat}(hr:dQ k X.A):jU X (compareOp .NotEq) (cM7 X.K true):=by
 intro pins s σ H x y v u Q I rx ry h
 obtain ⟨d,e,hd,he,sd,se,mx,q⟩:=h
 obtain ⟨as,ra⟩:=lX.reads I d x v hd rx
 obtain ⟨bs,rb⟩:=lX.reads I e y u he ry
 exact ne_dataH_same ra rb sd se hr.units mx ⟨.bl _,H,I,rfl,q⟩
theorem oF {K:PySem.W.Frag}{H:Hp}:∀ ns:List Int,rR K H (ns.map PyData.int) (ns.map V.int)
 | []=>rfl
 | n :: r=>⟨_,_,rfl,rfl,oF r⟩
theorem yI:∀ ns:List Int,PyData.canLayAll0 (ns.map PyData.int)=true
 | []=>rfl
 | _ :: r=>by simp [PyData.canLayAll0,PyData.canLay0,yI r]
theorem rS:∀ ns:List Int,PyData.depthAll (ns.map PyData.int)=0
 | []=>rfl
 | _ :: r=>by simp [PyData.depthAll,PyData.depth,rS r]
theorem oU (ns:List Int):SeqAt.shaped (.tuple (ns.map PyData.int))=true:=by
 simp [SeqAt.shaped,PyData.canLay0,PyData.depth,yI,rS]
theorem rL:∀ ns ms:List Int,SeqAt.noMixAll (ns.map PyData.int) (ms.map PyData.int)=true
 | [],[]=>rfl
 | [],_ :: _=>rfl
 | _ :: _,[]=>rfl
 | _ :: r,_ :: t=>by simp [SeqAt.noMixAll,SeqAt.noMix,rL r t]
theorem uI:∀ ns ms:List Int,Spec.sameAll (ns.map PyData.int) (ms.map PyData.int)=decide (ns=ms)
 | [],[]=>by simp [Spec.sameAll]
 | [],_ :: _=>by simp [Spec.sameAll]
 | _ :: _,[]=>by simp [Spec.sameAll]
 | a :: r,b :: t=>by
  simp only [List.map_cons,Spec.sameAll,Spec.same,uI r t]
  by_cases h:a=b <;> by_cases h':r=t <;> simp [h,h']
def cM5 (K:PySem.W.Frag) (neg:Bool):R2:=fun x y H Q=>∃ (p q:Addr) (ns ms:List Int),x= .ref p/\y= .ref q/\aO K H p (ns.map V.int)/\aO K H q (ms.map V.int)/\Q (.bl (if neg then !decide (ns=ms) else decide (ns=ms))) H
theorem bU5 {k:Nat}(hr:dQ k X.A):jU X (compareOp .NotEq) (cM5 X.K true):=by
 intro pins s σ H x y v u Q I rx ry h
 obtain ⟨p,q,ns,ms,ex,ey,h1,h2,hq⟩:=h
 refine bQ8 hr pins s σ H x y v u Q I rx ry ⟨.tuple (ns.map .int),.tuple (ms.map .int),⟨p,_,ex,h1,oF ns⟩,⟨q,_,ey,h2,oF ms⟩,oU ns,oU ms,rL ns ms,?_⟩
 rw [show Spec.same (.tuple (ns.map .int)) (.tuple (ms.map .int))=decide (ns=ms) from uI ns ms]
 exact hq
theorem kP:gM X (.builtin "isinstance") (fun xs H Q=>∃ x n t b,xs=[x,.ty n]/\oQ X.K H x t/\PySem.W.kitOne X.K t (.type n)=some b/\Q (.bl b) H):=by
 intro pins s σ H xs us Q I r h
 obtain ⟨x,n,t,b,rfl,ty,e,q⟩:=h
 obtain ⟨u,w',rfl,ru,rw'⟩:=aF8 r
 cases rw'
 exact aQ0 I ru ty e fun tk=>⟨.bl b,H,I.tok tk,rfl,q⟩
theorem aR0 (hc:X.calm=true:=by rfl):gM X (.builtin "all") (fun xs H Q=>∃ (p:Addr) (bs:List Bool),xs=[.ref p]/\bC X.K H p (bs.map V.bl)/\Q (.bl (bs.all id)) H):=by
 intro pins s σ H xs us Q I r h
 obtain ⟨p,bs,rfl,hq,q⟩:=h
 obtain ⟨u,rfl,ru⟩:=jZ r
 cases ru
 obtain ⟨its,rv,pl,hz⟩:=I.list hq
 have lp:p < s.heap.objs.size:=by
  obtain ⟨o,e,_⟩:=pl.isList
  exact av e
 refine call_all_walk (lg pl.isList ⟨s.heap.objs.size,_,_,_,_,_,fun i=>bs.getD i true,rfl,Walks.list (A:=X.A.in1) (I.ok.hd hc) s.heap.objs.size p (bq lp) its.toArray,⟨⟨_,az _ rfl,rfl,rfl⟩,pl.isList.at fun o e=>ae _ e⟩,?_,?_⟩)
 ·intro i v s1 Q1 E1 hv hq1
  have hi:its[i]?=some v:=by simpa using hv
  have hl:=rv.length
  rw [ac] at hl
  have hb:i < bs.length:=by
   have:=(bc.mp hi).1
   lia
  obtain ⟨u,hu,ru⟩:=rv.get (i:=i) (x:=V.bl bs[i]) (by rw [cj,ar hb];rfl)
  rw [hi] at hu
  cases hu
  cases ru
  have e:bs.getD i true=bs[i]:=by simp [List.getD,hb]
  dsimp only at hq1
  rw [e] at hq1
  exact gx hq1
 ·intro h' tk hk
  have kept:∀ b o,s.heap.get? b=some o->h'.get? b=some o:=fun b o e=>hk b o (by
   intro z
   have z:b=s.heap.objs.size:=by simpa using z
   exact absurd (av e) (by rw [z];exact gy _)) (ae _ e)
  refine ⟨.bl (bs.all id),H,I.kept kept,?_,q⟩
  show Value.bool _=Value.bool _
  have hl:=rv.length
  rw [ac] at hl
  have e:((List.range its.toArray.size).all fun i=>bs.getD i true)=bs.all id:=by
   rw [bt, <- hl]
   clear q hq rv pl hk hz hl
   rw [nq,vq,vq]
   constructor
   ·intro h b hb
    obtain ⟨i,hi,e⟩:=yz hb
    have:=h i (ub.mpr hi)
    simp [List.getD,hi] at this
    rw [<- e];exact this
   ·intro h i hi
    have hi:=ub.mp hi
    simp [List.getD,hi]
    exact h _ (mh hi)
  rw [e]
end
section
variable {X:Cx}(K:PySem.W.Frag)
theorem cL3 (hK:X.K=K:=by rfl):IxR X (cK3 K):=by subst hK;exact bQ
theorem sT (hK:X.K=K:=by rfl):IxR X (aD6 K):=by subst hK;exact aG
theorem inK (hK:X.K=K:=by rfl):jU X (compareOp .In) (rIn K false):=by subst hK;exact bU
theorem cN5 (hK:X.K=K:=by rfl):jU X (compareOp .NotIn) (rIn K true):=by subst hK;exact jV
end
theorem bD {c A B:Prop} [Decidable c] (hc:c) (h:A):if c then A else B:=by rw [ay hc];exact h
theorem aU {c A B:Prop} [Decidable c] (hc:¬ c) (h:B):if c then A else B:=by rw [ak hc];exact h
theorem jQ {α: Type}(v:α) (r:List α):jH (v :: r) 0=some v:=by
 have h:(0:Int) < ((v :: r).length:Int):=by simp
 unfold jH ixN
 rw [ay (by decide),ay h]
 rfl
section
variable {X:Cx}
theorem cM0 {es:List Expr}{k:Nat}{t:TGs}{n:Nat}{pos:Pos}(K:PySem.W.Frag) (hc:X.calm=true) (h:PGs X es t) (hK:X.K=K:=by rfl)
  (hn:(assignEach es X.env).length=n:=by rfl) (hst:(assignEach es X.env).findIdx? (·.1)=none:=by rfl):PG X (.Tuple es k pos) (cJ3 K n t):=by subst hK;exact eV hc h hn hst
end
def zX (i:Int):Prop:= -(2 ^ 250) < i/\i < 2 ^ 250
def cB4 (i j:Int):Prop:=zX i/\zX j
theorem zX.bits {i:Int}(h:zX i):Builtin.Int.intBits i<=2 ^ 20:=by
 have h1:i.natAbs < 2 ^ 250:=by
  have:=h.1;have:=h.2;lia
 exact cu (qo h1) (by decide)
theorem lH {X:Cx}:jU X (binaryOp .Mult) (rI cB4 fun i j=> .int (i * j)):=opI fun _ _ _ _ _ _ _ hc q=>mul_int q (IntMulOk.of_bits hc.1.bits hc.2.bits)
section
variable {X:Cx}
def cD0 (K:PySem.W.Frag):List V->Hp->VK->Prop:=fun xs H Q=>∃ (d:PyData) (p:Addr),xs=[.ref p]/\lX K H d (.ref p)/\d.showable=true/\d.hasDict=false/\d.depth<=64/\d.shown.length<=sizeLine/\Q (.str d.shown) H
theorem gA {k:Nat}(hr:dQ k X.A):gM X (.builtin "repr") (cD0 X.K):=by
 intro pins s σ H xs us Q I r h
 obtain ⟨d,p,rfl,hd,hs,hh,hdp,hz,q⟩:=h
 obtain ⟨u,rfl,ru⟩:=jZ r
 cases ru
 obtain ⟨as,ra⟩:=lX.reads I d (.ref p) (.ref p) hd rfl
 refine repr_of_reads' ra hs (fun z=>by rw [hh] at z;cases z) hr.gd (by have:=hr.un;lia) (fun b o e=>e) (fun h' u tk hk=>⟨.str _,H,I.kept hk,⟨_,rfl⟩,q⟩) hz
end
def eU (a b:Int):PyData:= .tuple [.int a,.int b]
theorem qZ {K:PySem.W.Frag}{H:Hp}{p:Addr}{a b:Int}(h:H p=some (.tup [.int a,.int b])):lX K H (eU a b) (.ref p):=⟨p,_,rfl,aO.of h,_,_,rfl,rfl,_,_,rfl,rfl,rfl⟩
section
variable {X:Cx}{pins:List (Addr×Obj)}{σ: St}{H:Hp}{s:Shared}{h':Heap}
theorem aW.turnedNew {T:Addr}{o:HO}{rs:List Addr}{t':Nat}(I:aW X pins σ H s) (hf:∀ b∈rs,lW X pins H b) (k:∀ b u,b∉rs->s.heap.get? b=some u->h'.get? b=some u)
  (hp:s.heap.objs.size<=T) (new:dH X.prog X.w (aQ H T o) h' T o):aW X pins σ (aQ H T o) { s with heap:=h',toks:=t' }:=by
 have fT:H T=none:=I.hok.fresh hp
 have nT:∀ b u,s.heap.get? b=some u->b≠T:=fun b u e z=>absurd (av e) (by rw [z];exact oy.mpr hp)
 have nrs:∀ b u,H b=some u->b∉rs:=fun b u e z=>by rw [(hf b z).1] at e;cases e
 refine I.step (g':=s.gens) (d':=s.drawn) (ch:=rs) (fun b hb=>⟨(hf b hb).2.2.2.1,(hf b hb).2.1,(hf b hb).2.2.2.2.1,(hf b hb).2.2.2.2.2⟩) (fun b u _ _ hc e _=>k b u hc e) (fun b u _ _ hc e _=>⟨u.slots,k b u hc e⟩)
  (fun b u _ e n=>by rw [aI (nT b u e)];exact n) (fun b u hc e=>⟨u,k b u hc e⟩) (fun b xs e=>by rw [aI (aL e fT)];exact e) (fun b u v e=>by rw [aI (aL e fT)];exact e)
  (fun b ps e=>⟨#[],by rw [aI (aL e fT),e];simp⟩) (fun m hm=>?_) (fun b u e=>?_) I.bare
 ·obtain ⟨u,es,ep,hu,r⟩:=hm
  exact ⟨u,es,ep,k _ u (fun z=>(hf _ z).2.1 rfl) hu,r⟩
 ·by_cases hb:b=T
  ·subst hb
   rw [aD] at e
   cases e
   exact new
  ·rw [aI hb] at e
   refine (I.hok b u e).stay (fun c v hc q=>k c v ?_ q) (fun c q=>by rw [aI (aL q fT)];exact q) fun c xs q=>by rw [aI (aL q fT)];exact q
   rcases hc with z | z
   ·rw [z];exact nrs b u e
   ·exact nrs c _ z
theorem aW.turnedL {rs:List Addr}{t':Nat}(I:aW X pins σ H s) (hf:∀ b∈rs,lW X pins H b) (k:∀ b u,b∉rs->s.heap.get? b=some u->h'.get? b=some u):aW X pins σ H { s with heap:=h',toks:=t' }:=by
 have nrs:∀ b u,H b=some u->b∉rs:=fun b u e z=>by rw [(hf b z).1] at e;cases e
 refine I.step (g':=s.gens) (d':=s.drawn) (ch:=rs) (fun b hb=>⟨(hf b hb).2.2.2.1,(hf b hb).2.1,(hf b hb).2.2.2.2.1,(hf b hb).2.2.2.2.2⟩) (fun b u _ _ hc e _=>k b u hc e) (fun b u _ _ hc e _=>⟨u.slots,k b u hc e⟩)
  (fun b u _ _ n=>n) (fun b u hc e=>⟨u,k b u hc e⟩) (fun b xs e=>e) (fun b u v e=>e) (fun b ps e=>⟨#[],by rw [e];simp⟩) (fun m hm=>?_) (fun b u e=>?_) I.bare
 ·obtain ⟨u,es,ep,hu,r⟩:=hm
  exact ⟨u,es,ep,k _ u (fun z=>(hf _ z).2.1 rfl) hu,r⟩
 ·refine (I.hok b u e).stay (fun c v hc q=>k c v ?_ q) (fun c q=>q) fun c xs q=>q
  rcases hc with z | z
  ·rw [z];exact nrs b u e
  ·exact nrs c _ z
end
section
variable {prog:Program}{w:World}{A:Around}{E:Value->Shared->Prop}{s:Shared}
theorem bO2 {J t:Addr}{i:Nat}{its:Array Value}{v:Value}{Q:Value->Shared->Prop}(a1:s.heap.IsTupleIter J t i) (a2:s.heap.IsTuple t its) (a3:its[i]?=some v)
  (k:∀ g,g.IsTupleIter J t (i+1)->Heap.SameBut J s.heap g->Q v { s with heap:=g }):wpAny (model prog w) A (Builtin.SmallTypes.nextOf (.ref J)) Q E s:=by
 obtain ⟨oJ,e1,e2,e3⟩:=id a1
 obtain ⟨oT,e4,_,m,e5⟩:=a2
 unfold Builtin.SmallTypes.nextOf
 refine aa (dh (name:=Str.ofString "__next__") a1.typeIs kr (dy kr a1.typeIs uk ?_ (ud _)))
 show wpAny _ _ (field (.ref J) 0 >>= _) _ _ s
 refine aa (gg e1 e3 (x:= .ref t) rfl ?_)
 refine (show wpAny _ _ (if (Value.ref t == Value.none)=true then _ else _) _ _ s from ?_)
 rw [ak (show ¬ ((Value.ref t == Value.none)=true) by exact bx)]
 show wpAny _ _ (field (.ref J) 1 >>= _) _ _ s
 refine aa (gg e1 e3 (x:= .int i 0) rfl ?_)
 refine (show wpAny _ _ (seqItems? (.ref t) >>= _) _ _ s from aa (iu e4 e5 ?_))
 simp only [Int.toNat_natCast,a3]
 refine aa (iw e1 e3 (by simp) (af ⟨v,rfl,af (k _ ?_ (je ..))⟩))
 exact ⟨_,dv _ e1 (jj (fi e3 _)),(og ..).trans e2,by rw [fi e3];simp [rawInt]⟩
theorem sH {J t:Addr}{i:Nat}{its:Array Value}{Q:Value->Shared->Prop}(hh:A.handled=none) (a1:s.heap.IsTupleIter J t i) (a2:s.heap.IsTuple t its) (a3:its[i]?=none)
  (k:∀ g e,Heap.ExtBut J s.heap g->(∃ o,g.get? e=some o/\o.cls= .type "StopIteration")->E (.ref e) { s with heap:=g }):wpAny (model prog w) A (Builtin.SmallTypes.nextOf (.ref J)) Q E s:=by
 obtain ⟨oJ,e1,e2,e3⟩:=id a1
 obtain ⟨oT,e4,_,m,e5⟩:=a2
 unfold Builtin.SmallTypes.nextOf
 refine aa (dh (name:=Str.ofString "__next__") a1.typeIs kr (dy kr a1.typeIs uk ?_ (ud _)))
 show wpAny _ _ (field (.ref J) 0 >>= _) _ _ s
 refine aa (gg e1 e3 (x:= .ref t) rfl ?_)
 refine (show wpAny _ _ (if (Value.ref t == Value.none)=true then _ else _) _ _ s from ?_)
 rw [ak (show ¬ ((Value.ref t == Value.none)=true) by exact bx)]
 show wpAny _ _ (field (.ref J) 1 >>= _) _ _ s
 refine aa (gg e1 e3 (x:= .int i 0) rfl ?_)
 refine (show wpAny _ _ (seqItems? (.ref t) >>= _) _ _ s from aa (iu e4 e5 ?_))
 simp only [Int.toNat_natCast,a3]
 refine aa (ou (aa (iw e1 e3 (by simp) ?_)))
 refine (show wpAny _ _ (newExc (.type "StopIteration") [] >>= _) _ _ _ from aa ?_)
 simp only [newExc,newTuple]
 refine aa (dj ?_ (by size_fits))
 refine aa (m:=firstArgMember _ _) (wy (a:=Value.none) (by first | exact rfl | (simp only [firstArgMember];rfl)) ?_)
 refine dj ?_ (by size_fits)
 simp only [raiseNew]
 refine aa (yv ?_)
 first | rw [hh] | rw [show A.in1.handled=none from hh]
 refine aa (af (aAa ?_))
 exact k _ _ (((je ..).extBut.push _).push _) ⟨_,az _ rfl,rfl⟩
end
section
variable {g:TG}{tc:TT}{te:TE}
end
section
variable {X:Cx}{tg:Expr}
def rSlS:V->Option Int->Option Int->Hp->VK->Prop:=fun x lo hi H Q=>∃ z,x= .str z/\z.length<=sizeLine/\Q (.str (Txt.slice z lo hi)) H
theorem bR5:SlR X rSlS:=by
 intro pins s σ H x v vl vu lo hi sl Q I rx hs pl pu h
 obtain ⟨z,rfl,hz,q⟩:=h
 obtain ⟨t,rfl⟩:=rx
 refine ⟨"str",_,F.slot_str_getitem.lookup,typeIs_str _ _ _,?_⟩
 have fin:∀ {lo hi:Option Int},Q (.str (Txt.slice z lo hi)) H->∀ t' k,EP X pins σ Q (.str (Txt.slice z lo hi) t') { s with toks:=k }:=fun q t' k=>⟨.str _,H,I.tok k,⟨_,rfl⟩,q⟩
 cases pl with
 | none =>
  cases pu with
  | none=>exact mz (l:=none) (u:=none) (st:=none) hs rfl (rq ⟨cu (sf z _ _) hz,fin q⟩)
  | int j u=>exact mz (l:=none) (u:=some (j,u)) (st:=none) hs rfl (rq ⟨cu (sf z _ _) hz,fin q⟩)
 | int i u' =>
  cases pu with
  | none=>exact mz (l:=some (i,u')) (u:=none) (st:=none) hs rfl (rq ⟨cu (sf z _ _) hz,fin q⟩)
  | int j u=>exact mz (l:=some (i,u')) (u:=some (j,u)) (st:=none) hs rfl (rq ⟨cu (sf z _ _) hz,fin q⟩)
theorem qV:∀ {ys:List Str}{us:List Value},bF (ys.map V.str) us->StrsAre us ys
 | [],_,r=>by
  cases r
  exact .nil
 | y :: ys,_,r=>by
  cases r with
  | cons r1 r2 =>
   obtain ⟨t,rfl⟩:=r1
   exact .cons y t (qV r2)
def cC2 (K:PySem.W.Frag):V->List V->Hp->VK->Prop:=fun x vs H Q=>∃ (sep:Str) (p:Addr) (ys:List Str),x= .str sep/\vs=[.ref p]/\bC K H p (ys.map V.str)/\(ys.map (·.length)).sum+ys.length * sep.length<=16777216/\Q (.str (Txt.join sep ys)) H
theorem bF9:MtR X "str.join" (cC2 X.K):=by
 intro pins s σ H x xs v us Q I rx rs h
 obtain ⟨sep,p,ys,rfl,rfl,hq,hz,q⟩:=h
 obtain ⟨t,rfl⟩:=rx
 obtain ⟨u,rfl,ru⟩:=rs.one
 cases ru
 obtain ⟨its,rv,pl,_⟩:=I.list hq
 exact join_list pl.isList (by simpa using qV rv) hz fun t' k=>⟨.str _,H,I.tok k,⟨_,rfl⟩,q⟩
end
section
variable {X:Cx}
end
theorem aW3 {κ: Type}:∀ {kvs:List (κ×V)}{vs:List (κ×Value)}{i:Nat}{k:κ}{v:V},KV kvs vs->kvs[i]?=some (k,v)->∃ u,vs[i]?=some (k,u)/\bL v u
 | _,_,_,_,_,.nil,e=>by simp at e
 | _,_,0,_,_,.cons r _,e=>by
  simp at e
  subst e
  obtain ⟨r1,r2⟩:=r
  exact ⟨_,by simp;exact yf r1.symm rfl,r2⟩
 | _,_,i+1,_,_,.cons _ r,e=>by
  obtain ⟨u,e1,e2⟩:=aW3 (i:=i) r (by simpa using e)
  exact ⟨u,by simpa using e1,e2⟩
theorem bH7 {k:Key}{u:Value}(h:kD k u=true):bL (kV k) u:=by
 rcases cG h with ⟨i,t,rfl,rfl⟩ | ⟨x,t,rfl,rfl⟩
 ·exact ⟨t,rfl⟩
 ·exact ⟨t,rfl⟩
section
variable {X:Cx}
variable {g:TG}{tc:TT}{te:TE}
end
open AutoSeq1 (wpAny_loadPart')
section
variable {prog:Program}{w:World}{A:Around}{E:Value->Shared->Prop}{s:Shared}
theorem aN2 (hh:A.handled=none) (it l:Addr) (hne:l≠it) (items:Array Value) :
  Draws prog w A it [it,l] items.size (fun i v=>items[i]?=some v) (fun i h=>h.IsTupleIter it l i/\h.IsTuple l items) where
 live:=fun _ _ st=>let ⟨o,ho,_⟩:=st.1;⟨o,ho⟩
 frame:=fun _ _ _ st hk=>⟨let ⟨o,ho,r⟩:=st.1;⟨o,hk it (by simp) o ho,r⟩,let ⟨o,ho,r⟩:=st.2;⟨o,hk l (by simp) o ho,r⟩⟩
 item:=fun i s Q E hi st hQ=>by
  refine bO2 st.1 st.2 (v:=items[i]) (by simp [hi]) fun h' hit' hs'=>?_
  exact hQ _ h' s.toks (by simp [hi]) ⟨hit',st.2.extBut hs'.extBut hne⟩ hs'
 done:=fun s Q E st hE=>sH hh st.1 st.2 (by simp) hE
end
theorem qM (l:Addr) (items:Array Value) (n:Nat) (dct:Option Addr) (sl:Array (Option Value)) :
  Meets (Builtin.«enumerate.__new__» ⟨[.type "enumerate",.ref l],[]⟩) (fun _ R s=>s.heap.get? l=some { cls:= .type "tuple",dict:=dct,data:= .seq items n,slots:=sl } /\
   R (.ok (.ret (.ref (s.heap.push { cls:= .type "tuple_iterator",data:= .fields #[.ref l,.int 0 0] }).objs.size)))
    { s with heap:=(s.heap.push { cls:= .type "tuple_iterator",data:= .fields #[.ref l,.int 0 0] }).push { cls:= .type "enumerate",data:= .fields #[.none,.bool false,.ref s.heap.objs.size,rawInt 0,.none,.none] } }) :=
 .of_wp fun prog w A R s h=>by
  obtain ⟨hp,g,d,tk,os⟩:=s;obtain ⟨hl,h⟩:=h
  have hsub:=sub_enumerate
  have hL:Heap.IsTuple (Shared.heap ⟨hp,g,d,tk,os⟩) l items:=⟨_,hl,rfl,n,rfl⟩
  wp_walk using si hl
  refine wpAny_stack_any fun st=>af ?_
  split
  ·rename_i c _ _ _ _ _
   cases (c == Value.type "enumerate")
   ·wp_walk using si hl,qg hL
    exact ⟨_,rfl,h⟩
   ·wp_walk using si hl,qg hL
    exact ⟨_,rfl,h⟩
  ·wp_walk using si hl,qg hL
   exact ⟨_,rfl,h⟩
section
variable {prog:Program}{w:World}{A:Around}{E:Value->Shared->Prop}{s:Shared}
theorem tM {l:Addr}{items:Array Value}{Q:Value->Shared->Prop}(hL:s.heap.IsTuple l items)
  (h:∀ h',IsEnum h' (s.heap.objs.size+1) s.heap.objs.size 0 .none->h'.IsTupleIter s.heap.objs.size l 0->h'.objs.size=s.heap.objs.size+2 ->
   (∀ b o,s.heap.get? b=some o->h'.get? b=some o)->Q (.ref (s.heap.objs.size+1)) { s with heap:=h' }) :
  wpAny (model prog w) A (call (.type "enumerate") [.ref l]) Q E s:=by
 obtain ⟨⟨c,dct,dt,sl⟩,hl,hc,n,hd⟩:=hL
 replace hc:c= .type "tuple":=hc
 replace hd:dt= .seq items n:=hd
 subst hc hd
 refine callType_new F.called_enumerate (by decide) (F.typeCall_enumerate_1 _) (F.newCall_enumerate_1 _) (fun obj=>F.args_object_init_2 obj _) F.entry_enumerate_new
  (qM l items n dct sl) ⟨hl,?_⟩
 have hz:(s.heap.push { cls:= .type "tuple_iterator",data:= .fields #[.ref l,.int 0 0] }).objs.size=s.heap.objs.size+1:=gi ..
 show _/\_
 rw [hz]
 have he:IsEnum ((s.heap.push { cls:= .type "tuple_iterator",data:= .fields #[.ref l,.int 0 0] }).push
   { cls:= .type "enumerate",data:= .fields #[.none,.bool false,.ref s.heap.objs.size,rawInt 0,.none,.none] }) (s.heap.objs.size+1) s.heap.objs.size 0 .none:=by
  have:=az (s.heap.push { cls:= .type "tuple_iterator",data:= .fields #[.ref l,.int 0 0] })
   (o:={ cls:= .type "enumerate",data:= .fields #[.none,.bool false,.ref s.heap.objs.size,rawInt 0,.none,.none] }) rfl
  rw [hz] at this;exact this
 refine ⟨⟨_,he,rfl⟩,h _ he ⟨_,ae _ (az _ rfl),rfl,rfl⟩ (by rw [gi,hz]) fun b o x=>ae _ (ae _ x)⟩
end
def Itet (K : PySem.W.Frag) (a : Addr) : It :=
  ⟨fun i H => ∃ xs x, aO K H a xs /\ xs[i]? = some x,
   fun i H x H' => ∃ t, H t = none /\ x = .ref t /\ ∀ xs, aO K H a xs -> ∃ u, xs[i]? = some u /\ H' = aQ H t (.tup [.int i, u]),
   fun i H => ∃ xs, aO K H a xs /\ xs.length <= i⟩
theorem aA9 {P:Program}{w:World}{K:PySem.W.Frag}{elts:List Expr}{x1:Nat}{pos:Pos}(a n:Addr) (han:a < n) :
  aB2 P w K (.Tuple elts x1 pos) (Itet K a) [n,n+1] (n+1) (fun i h=>(∃ old,IsEnum h (n+1) n i old)/\h.IsTupleIter n a i) where
 mem:=by simp
 obj:=fun i h Z c hc=>by
  obtain ⟨⟨old,he⟩,⟨o1,e1,c1,d1⟩⟩:=Z
  simp only [List.mem_cons,List.not_mem_nil,or_false] at hc
  rcases hc with rfl | rfl
  ·exact ⟨_,e1,fun v z=>by rw [d1] at z;cases z⟩
  ·exact ⟨_,he,fun v z=>by cases z⟩
 keep:=fun i h h' Z k=>⟨let ⟨old,he⟩:=Z.1;⟨old,k _ (by simp) _ he⟩,let ⟨o,e,r⟩:=Z.2;⟨o,k _ (by simp) o e,r⟩⟩
 item:=by
  intro X hP hw hK hc i pins s σ H E I hf Z hg
  subst hP hw hK
  obtain ⟨xs,x,q1,hx⟩:=hg
  obtain ⟨its,rv,pl,_⟩:=I.tuple q1
  obtain ⟨u,hu,ru⟩:=rv.get hx
  obtain ⟨⟨old,he⟩,hit⟩:=Z
  have d0:n+1≠n:=Nat.succ_ne_self n
  have hil:i < its.toArray.size:=by
   have:=(bc.mp hu).1
   simpa using this
  refine wpAny_pyNext_enum_itemD (fp:=[n,a]) (P:=fun i v=>its.toArray[i]?=some v) (aN2 (A:=X.A.in1) (I.ok.hd hc) n a (bq han) its.toArray) he ⟨hit,pl⟩ hil d0 (fun z=>by
   simp only [List.mem_cons,List.not_mem_nil,or_false] at z
   rcases z with z | z
   ·exact d0 z
   ·exact absurd z (de (js han))) fun x' g tk px z1 j1 T1 _ k1=>?_
  have exu:x'=u:=by
   have:its[i]?=some x':=by simpa using px
   rw [hu] at this
   exact (dz this).symm
  subst exu
  refine ⟨_,rfl,wpAny_letOwnedTupleGo_enum z1 fun g2 z2 sb=>?_⟩
  have nT:s.heap.objs.size≠n+1:=de (av he)
  have lt:∀ c∈[n,n+1],c < s.heap.objs.size:=fun c hc=>by
   simp only [List.mem_cons,List.not_mem_nil,or_false] at hc
   rcases hc with rfl | rfl
   ·obtain ⟨o1,e1,_⟩:=hit
    exact av e1
   ·exact av he
  have kk:∀ c o,c∉[n,n+1]->s.heap.get? c=some o->g2.get? c=some o:=fun c o hc e=>by
   simp only [List.mem_cons,List.not_mem_nil,or_false,not_or] at hc
   exact (sb.2 c hc.2).trans (k1 c o hc.2 hc.1 e)
  have TT:g2.get? s.heap.objs.size=some { cls:= .type "tuple",data:= .seq #[.int i tk,x'] }:=(sb.2 _ nT).trans T1
  have I2:=I.turnedNew (T:=s.heap.objs.size) (o:= .tup [.int i,x]) (rs:=[n,n+1]) (t':=tk+1) hf kk (aj _) ⟨by show 2<=sizeLine;decide,[.int i tk,x'],.cons ⟨_,rfl⟩ (.cons ru .nil),⟨_,TT,rfl,_,rfl,rfl⟩⟩
  refine ⟨.ref s.heap.objs.size,_,I2,rfl,⟨_,I.fresh,rfl,fun xs' w1=>⟨x,by rw [I.tuple_inj w1 q1];exact hx,rfl⟩⟩,⟨⟨_,by simpa using z2⟩,?_⟩,fun c hc=>?_⟩
  ·obtain ⟨o,e,r⟩:=j1.1
   exact ⟨o,(sb.2 _ d0.symm).trans e,r⟩
  rw [aI (bq (lt c hc))]
  exact (hf c hc).1
 done:=by
  intro X hP hw hK hc i pins s σ H E I hf Z hg
  subst hP hw hK
  obtain ⟨xs,q1,hx⟩:=hg
  obtain ⟨its,rv,pl,_⟩:=I.tuple q1
  obtain ⟨⟨old,he⟩,hit⟩:=Z
  have hl:=rv.length
  have hT:s.TypeIs (.ref (n+1)) "enumerate":=⟨_,he,rfl⟩
  unfold pyNext
  refine aa (ng (dh (name:=Str.ofString "__next__") hT xo
   (dy xo hT F.entry_enumerate_next ?_ (F.args_enumerate_next_1 _))))
  show wpAny _ _ (field (.ref (n+1)) 2 >>= _) _ _ _
  refine aa (gg he rfl (x:= .ref n) rfl ?_)
  refine aa (sH (I.ok.hd hc) hit pl (by simp;(exact oqN)) fun g x he' hx'=>?_)
  obtain ⟨o,ho,hc'⟩:=hx'
  refine aa (md (T:="StopIteration") (b:=true) ⟨o,ho,hc'⟩ ue ?_)
  refine af ⟨rfl,I.turnedL (rs:=[n,n+1]) (t':=s.toks) hf fun c o hc e=>?_⟩
  simp only [List.mem_cons,List.not_mem_nil,or_false,not_or] at hc
  exact he' c o hc.1 e
 self:=fun _ _ _ _ _ Z h=>by
  obtain ⟨⟨old,he⟩,_⟩:=Z
  exact wpAny_pyIter_enum he h
def bW1 (K:PySem.W.Frag) (ta:TA):TI:=fun σ H R=>ta σ H fun vs H1=>∃ a,vs=[.ref a]/\(∃ xs,aO K H1 a xs)/\R (Itet K a) H1
theorem aZ7 {X:Cx}{a:Expr}{ta:TA}{p pos:Pos}{elts:List Expr}{x1:Nat}{tpos:Pos}(hg:Gl X "enumerate") (hm:X.mg "enumerate"=none) (ha:PA X [a] ta) (hs:starEach [a] X.env=[(false,eval a X.env)]:=by rfl) :
  PI X (.Tuple elts x1 tpos) (.Call (.Name "enumerate" p) [a] [] pos) (bW1 X.K ta):=by
 intro pins s σ H R I h
 refine gj (iT I hg hm PyProof.Rows.boot_enumerate (fh (cW (ha pos pins s σ H _ I h) ?_) hs rfl));rintro us s1 ⟨vs,H1,I1,r1,q1⟩
 obtain ⟨a',rfl,⟨xs,q1⟩,q⟩:=q1
 obtain ⟨u,rfl,ru⟩:=jZ r1
 cases ru
 obtain ⟨its,_,pl,_⟩:=I1.tuple q1
 have la:a' < s1.heap.objs.size:=by
  obtain ⟨o,e,_⟩:=id pl
  exact av e
 refine tM pl fun g he hit _ k=>wpAny_pyIter_enum he ?_
 have I2:aW X pins σ H1 { s1 with heap:=g }:=I1.kept (t':=s1.toks) k
 refine ⟨s1.heap.objs.size+1,_,_,Itet X.K a',H1,rfl,I2,aA9 a' s1.heap.objs.size la,⟨⟨_,he⟩,hit⟩,fun c hc=>?_,q⟩
 have hge:s1.heap.objs.size<=c:=by
  simp only [List.mem_cons,List.not_mem_nil,or_false] at hc
  rcases hc with rfl | rfl
  ·exact aj _
  ·exact ig ..
 exact I1.fpOk hge (I1.hok.fresh hge)
theorem aN8 {K:PySem.W.Frag}{a:Addr}{xs:List V}{g:TG}{tb:TS}{D:kF}{σ: St}{H:Hp}(Pv:Nat->St->Hp->Prop) (h0:Pv 0 σ H) (hl:∀ i σ H,i<=xs.length->Pv i σ H->aO K H a xs)
  (hs:∀ i x σ H t,xs[i]?=some x->Pv i σ H->H t=none->g (.ref t) σ (aQ H t (.tup [.int i,x])) fun σ2 H2=>tb { D with nx:=Pv (i+1),ct:=Pv (i+1),bk:=D.nx } σ2 H2) (hd:∀ σ H,Pv xs.length σ H->D.nx σ H) :
  ∃ W:Nat->Nat->St->Hp->Prop,(∃ m,W 0 m σ H)/\∀ i m σ H,W i m σ H ->
   ((Itet K a).stop i H/\D.nx σ H)\/((Itet K a).go i H/\∃ N:St->Hp->Prop,(∀ σ' H',N σ' H'->∃ m',m' < m/\W (i+1) m' σ' H')/\∀ x H',(Itet K a).yld i H x H'->g x σ H' fun σ2 H2=>tb { D with nx:=N,ct:=N,bk:=D.nx } σ2 H2):=by
 refine ⟨fun i m σ H=>m=xs.length - i/\i<=xs.length/\Pv i σ H,⟨xs.length,by simp,bj _,h0⟩,?_⟩
 rintro i m σ H ⟨rfl,hi,p⟩
 have q:=hl i σ H hi p
 by_cases hlt:i < xs.length
 ·refine .inr ⟨⟨xs,xs[i],q,by simp [hlt]⟩,Pv (i+1),fun σ' H' p'=>⟨xs.length - (i+1),ij hlt (ef i),rfl,hlt,p'⟩,fun x H' y=>?_⟩
  obtain ⟨t,ht,rfl,w⟩:=y
  obtain ⟨u,e1,rfl⟩:=w xs q
  exact hs i u σ H t e1 p ht
 ·have e:i=xs.length:=by lia
  subst e
  exact .inl ⟨⟨xs,q,aj _⟩,hd σ H p⟩
open PySem PySem.Spec PyProof.Rows
section
variable {prog:Program}{w:World}{A:Around}{E:Value->Shared->Prop}{s:Shared}
end
section
variable {X:Cx}{pins:List (Addr×Obj)}{σ: St}{H:Hp}{s:Shared}{a:Addr}{y v:V}{u r:Value}{A:Around}{E:Value->Shared->Prop}
end
section
variable {X:Cx}{pins:List (Addr×Obj)}{σ: St}{H:Hp}{s:Shared}{A:Around}{E:Value->Shared->Prop}
end
open PySem PySem.Spec PyProof.Rows PySem.W
section
variable {n:Nat}(h0:0 < n)
include h0
end
open PySem PySem.Spec PyProof.Rows PySem.W HT
section
variable {prog:Program}{w:World}{A:Around}{E:Value->Shared->Prop}{s:Shared}
end
open PySem PySem.Spec PyProof.Rows
section
variable {prog:Program}{w:World}{A:Around}{E:Value->Shared->Prop}{s:Shared}
theorem aX4 {J t:Addr}{i:Nat}{its:Array Value}{v:Value}{Q:Value->Shared->Prop}(a1:s.heap.IsListIter J t i) (a2:s.heap.IsList t its) (a3:its[i]?=some v)
  (k:∀ g,g.IsListIter J t (i+1)->Heap.SameBut J s.heap g->Q v { s with heap:=g }):wpAny (model prog w) A (Builtin.SmallTypes.nextOf (.ref J)) Q E s:=by
 obtain ⟨oJ,e1,e2,e3⟩:=id a1
 obtain ⟨oT,e4,_,m,e5⟩:=a2
 unfold Builtin.SmallTypes.nextOf
 refine aa (dh (name:=Str.ofString "__next__") a1.typeIs qh (dy qh a1.typeIs zb ?_ (zp _)))
 show wpAny _ _ (field (.ref J) 0 >>= _) _ _ s
 refine aa (gg e1 e3 (x:= .ref t) rfl ?_)
 refine (show wpAny _ _ (if (Value.ref t == Value.none)=true then _ else _) _ _ s from ?_)
 rw [ak (show ¬ ((Value.ref t == Value.none)=true) by exact bx)]
 show wpAny _ _ (field (.ref J) 1 >>= _) _ _ s
 refine aa (gg e1 e3 (x:= .int i 0) rfl ?_)
 refine (show wpAny _ _ (seqItems? (.ref t) >>= _) _ _ s from aa (iu e4 e5 ?_))
 simp only [Int.toNat_natCast,a3]
 refine aa (iw e1 e3 (by simp) (af ⟨v,rfl,af (k _ ?_ (je ..))⟩))
 exact ⟨_,dv _ e1 (jj (fi e3 _)),(og ..).trans e2,by rw [fi e3];simp [rawInt]⟩
theorem aE5 {J t:Addr}{i:Nat}{its:Array Value}{Q:Value->Shared->Prop}(hh:A.handled=none) (a1:s.heap.IsListIter J t i) (a2:s.heap.IsList t its) (a3:its[i]?=none)
  (k:∀ g e,Heap.ExtBut J s.heap g->(∃ o,g.get? e=some o/\o.cls= .type "StopIteration")->E (.ref e) { s with heap:=g }):wpAny (model prog w) A (Builtin.SmallTypes.nextOf (.ref J)) Q E s:=by
 obtain ⟨oJ,e1,e2,e3⟩:=id a1
 obtain ⟨oT,e4,_,m,e5⟩:=a2
 unfold Builtin.SmallTypes.nextOf
 refine aa (dh (name:=Str.ofString "__next__") a1.typeIs qh (dy qh a1.typeIs zb ?_ (zp _)))
 show wpAny _ _ (field (.ref J) 0 >>= _) _ _ s
 refine aa (gg e1 e3 (x:= .ref t) rfl ?_)
 refine (show wpAny _ _ (if (Value.ref t == Value.none)=true then _ else _) _ _ s from ?_)
 rw [ak (show ¬ ((Value.ref t == Value.none)=true) by exact bx)]
 show wpAny _ _ (field (.ref J) 1 >>= _) _ _ s
 refine aa (gg e1 e3 (x:= .int i 0) rfl ?_)
 refine (show wpAny _ _ (seqItems? (.ref t) >>= _) _ _ s from aa (iu e4 e5 ?_))
 simp only [Int.toNat_natCast,a3]
 refine aa (ou (aa (iw e1 e3 (by simp) ?_)))
 refine (show wpAny _ _ (newExc (.type "StopIteration") [] >>= _) _ _ _ from aa ?_)
 simp only [newExc,newTuple]
 refine aa (dj ?_ (by size_fits))
 refine aa (m:=firstArgMember _ _) (wy (a:=Value.none) (by first | exact rfl | (simp only [firstArgMember];rfl)) ?_)
 refine dj ?_ (by size_fits)
 simp only [raiseNew]
 refine aa (yv ?_)
 first | rw [hh] | rw [show A.in1.handled=none from hh]
 refine aa (af (aAa ?_))
 exact k _ _ (((je ..).extBut.push _).push _) ⟨_,az _ rfl,rfl⟩
structure cL6 (g:Heap) (n l1 l2:Addr) (i:Nat):Prop where
 z:IsZip g (n+4) (n+2) (n+3) .none
 I:IsPair g (n+2) (.ref n) (.ref (n+1))
 O:∃ a b,IsPair g (n+3) a b
 i1:g.IsListIter n l1 i
 i2:g.IsListIter (n+1) l2 i
end
noncomputable abbrev yA (g:Heap) (l1:Addr):Heap:=g.push { cls:= .type "list_iterator",data:= .fields #[.ref l1,.int 0 0] }
noncomputable abbrev yB (g:Heap) (l1 l2:Addr):Heap:=(yA g l1).push { cls:= .type "list_iterator",data:= .fields #[.ref l2,.int 0 0] }
noncomputable abbrev yC (g:Heap) (l1 l2:Addr):Heap:=(yB g l1 l2).push { cls:= .type "tuple",data:= .seq #[.ref g.objs.size,.ref (yA g l1).objs.size] }
noncomputable abbrev yD (g:Heap) (l1 l2:Addr):Heap:=(yC g l1 l2).push { cls:= .type "tuple",data:= .seq #[.none,.none] }
noncomputable abbrev yE (g:Heap) (l1 l2:Addr):Heap:=(yD g l1 l2).push { cls:= .type "zip",data:= .fields #[.none,.bool false,.bool false,.ref (yB g l1 l2).objs.size,.ref (yC g l1 l2).objs.size] }
theorem aS4 (l1 l2:Addr) (xs ys:Array Value):Meets (Builtin.«zip.__new__» ⟨[.type "zip",.ref l1,.ref l2],[]⟩) (fun _ R s=>s.heap.IsList l1 xs/\s.heap.IsList l2 ys /\
   R (.ok (.ret (.ref (yD s.heap l1 l2).objs.size))) { s with heap:=yE s.heap l1 l2 }) :=
 .of_wp fun prog w A R s h=>by
  obtain ⟨q,g,d,tk,os⟩:=s;obtain ⟨t1,t2,h⟩:=h
  have hS:=PySem.sub_zip
  have T1:Heap.IsList (Shared.heap ⟨q,g,d,tk,os⟩) l1 xs:=t1
  have T2:Heap.IsList (Shared.heap ⟨q.push { cls:= .type "list_iterator",data:= .fields #[.ref l1,.int 0 0] },g,d,tk,os⟩) l2 ys:=t2.at fun o e=>ae _ e
  wp_walk using lg T1,lg T2
  exact ⟨_,rfl,h⟩
section
variable {prog:Program}{w:World}{A:Around}{E:Value->Shared->Prop}{s:Shared}
theorem aO4 {l1 l2:Addr}{xs ys:Array Value}{Q:Value->Shared->Prop}(t1:s.heap.IsList l1 xs) (t2:s.heap.IsList l2 ys)
  (k:∀ g,cL6 g s.heap.objs.size l1 l2 0->(∀ c o,s.heap.get? c=some o->g.get? c=some o)->Q (.ref (s.heap.objs.size+4)) { s with heap:=g }) :
  wpAny (model prog w) A (call (.type "zip") [.ref l1,.ref l2]) Q E s:=by
 refine callType_new F.called_zip (by decide) (F.typeCall_zip_2 _ _) (F.newCall_zip_2 _ _) (fun obj=>F.args_object_init_3 obj _ _) F.entry_zip_new (aS4 l1 l2 xs ys) ⟨t1,t2,?_⟩
 have n1:(yA s.heap l1).objs.size=s.heap.objs.size+1:=by rw [gi]
 have n2:(yB s.heap l1 l2).objs.size=s.heap.objs.size+2:=by rw [gi,n1]
 have n3:(yC s.heap l1 l2).objs.size=s.heap.objs.size+3:=by rw [gi,n2]
 have n4:(yD s.heap l1 l2).objs.size=s.heap.objs.size+4:=by rw [gi,n3]
 have b5:(yE s.heap l1 l2).get? (yD s.heap l1 l2).objs.size=some _:=az _ rfl
 have b4:(yE s.heap l1 l2).get? (yC s.heap l1 l2).objs.size=some _:=ae _ (az _ rfl)
 have b3:(yE s.heap l1 l2).get? (yB s.heap l1 l2).objs.size=some _:=ae _ (ae _ (az _ rfl))
 have b2:(yE s.heap l1 l2).get? (yA s.heap l1).objs.size=some _:=ae _ (ae _ (ae _ (az _ rfl)))
 have b1:(yE s.heap l1 l2).get? s.heap.objs.size=some _:=ae _ (ae _ (ae _ (ae _ (az _ rfl))))
 show _/\_
 rw [n2,n3,n4] at b5
 rw [n1,n2] at b3
 rw [n3] at b4
 rw [n1] at b2
 rw [n4]
 exact ⟨⟨_,b5,rfl⟩,k _ ⟨b5,b3,⟨_,_,b4⟩,⟨_,b1,rfl,rfl⟩,⟨_,b2,rfl,rfl⟩⟩ fun c o q=>ae _ (ae _ (ae _ (ae _ (ae _ q))))⟩
end
section
variable {g:TG}{tc:TT}{te:TE}
end
theorem yH (val:Nat->Int):∀ k i,i<=k->val i<=val (argBest (fun i j=>decide (val i > val j)) k)
 | 0,i,h=>by
  have:i=0:=by lia
  subst this
  exact pw _
 | k+1,i,h=>by
  have ih:=yH val k
  rw [argBest]
  split
  ·rename_i c
   have c:=ai c
   by_cases e:i=k+1
   ·rw [e];exact pw _
   ·have:=ih i (by lia)
    lia
  ·rename_i c
   have c:¬ val (k+1) > val _:=fun z=>c (ag z)
   by_cases e:i=k+1
   ·rw [e];exact Int.not_lt.mp c
   ·exact ih i (by lia)
section
variable {X:Cx}
def bL3 (K:PySem.W.Frag):R2:=fun x y H Q=>∃ a b xs ys,x= .ref a/\y= .ref b/\aO K H a xs/\aO K H b ys/\ys≠[]/\xs.length+ys.length<=sizeLine /\
 (xs=[]->Q (.ref b) H)/\(xs≠[]->∀ p,H p=none->Q (.ref p) (aQ H p (.tup (xs++ys))))
theorem wM:jU X (binaryOp .Add) (bL3 X.K):=by
 intro pins s σ H x y v u Q I rx ry h
 by_cases c:∃ a xs,x= .ref a/\aO X.K H a xs/\xs≠[]
 ·obtain ⟨a',xs',e,ha',hx⟩:=c
  obtain ⟨a,b,xs,ys,rfl,rfl,ha,hb,hy,hz,q1,q2⟩:=h
  have e:=V.ref.inj e
  rw [<- e] at ha'
  have:=I.tuple_inj ha ha'
  subst this
  exact aK0 pins s σ H _ _ v u Q I rx ry ⟨_,b,xs,ys,rfl,rfl,ha,hb,hx,hz,fun z=>absurd z hy,fun _=>q2 hx⟩
 ·obtain ⟨a,b,xs,ys,rfl,rfl,ha,hb,hy,hz,q1,q2⟩:=h
  have hx:xs=[]:=vf fun z=>c ⟨a,xs,rfl,ha,z⟩
  subst hx
  cases rx
  cases ry
  obtain ⟨its,r1,p1,_⟩:=I.tuple ha
  obtain ⟨its2,r2,p2,_⟩:=I.tuple hb
  cases r1
  obtain ⟨⟨cls,dd,data,sl⟩,ho,hc,n,hd⟩:=id p1
  obtain ⟨⟨cls2,dd2,data2,sl2⟩,ho2,hc2,n2,hd2⟩:=id p2
  simp only at hc hd hc2 hd2
  subst hc hd hc2 hd2
  exact vn ⟨_,ho,rfl⟩ ⟨_,ho2,rfl⟩ qx uu ny my (ma _ _)
   (tuple_addW0 a b _ its2.toArray n n2 dd dd2 sl sl2 (by simp)) ⟨ho,ho2,.ref b,H,I,rfl,q1 rfl⟩
end
def ItR (K:PySem.W.Frag) (a:Addr) (n:Nat):It :=
 ⟨fun i H=>∃ xs,bC K H a xs/\xs.length=n/\i < n,fun i H x H'=>H'=H/\∀ ys,bC K H a ys->ys.reverse[i]?=some x,fun i H=>∃ xs,bC K H a xs/\xs.length=n/\n<=i⟩
theorem aY5 {P:Program}{w:World}{K:PySem.W.Frag}{tg:Expr}(a it:Addr) (n:Nat) (ne:a≠it):aB2 P w K tg (ItR K a n) [it] it (fun i h=>i<=n/\h.IsRevIter it a ((n:Int) - 1 - (i:Int))) where
 mem:=by simp
 obj:=fun i h st b hb=>by
  have e:b=it:=by simpa using hb
  subst e
  obtain ⟨_,o,e,c,d⟩:=st
  exact ⟨o,e,fun v z=>by rw [d] at z;cases z⟩
 keep:=fun i h h' st k=>⟨st.1,let ⟨o,e,r⟩:=st.2;⟨o,k it (by simp) o e,r⟩⟩
 item:=by
  intro X hP hw hK hc i pins s σ H E I hf st hg
  subst hP hw hK
  obtain ⟨xs,hq,hn,hi⟩:=hg
  obtain ⟨its,rv,p,hz⟩:=I.list hq
  have hl:=rv.length
  have sz:its.toArray.size=n:=by rw [bt];lia
  obtain ⟨f0,f1,f2,f3,f4,f5⟩:=hf it (by simp)
  have Wk:=yu (prog:=X.prog) (w:=X.w) (A:=X.A) (I.ok.hd hc) it a ne its.toArray
  refine Wk.item i s _ _ (by lia) ⟨by lia,by rw [sz];exact st.2,p.isList⟩ fun v h' tk pv st' kp=>?_
  have I1:aW X pins σ H { s with heap:=h',toks:=tk }:=I.turned (t':=tk) (fun b o hb e=>kp b o (by simpa using hb) e) f0 f1 f3 f4 f5
  have hx:i < xs.reverse.length:=by rw [ik];lia
  obtain ⟨u,hu,ru⟩:=rv.get (show xs[xs.length - 1 - i]?=some (xs[xs.length - 1 - i]'(by lia)) from ar (by lia))
  obtain ⟨o,e,c,d⟩:=id st'.2.1
  have ev:v=u:=by
   have:its.toArray[its.toArray.size - 1 - i]?=some v:=pv
   rw [sz, <- hn] at this
   have t2:its[xs.length - 1 - i]?=some v:=by simpa using this
   rw [hu] at t2
   exact (dz t2).symm
  subst ev
  refine ⟨_,rfl,go_of (s:={ s with heap:=h',toks:=tk }) e c d (by decide) ⟨xs[xs.length - 1 - i]'(by lia),H,I1,ru,⟨rfl,fun ys hy=>?_⟩,⟨by lia,by have:=st'.2.1;rw [sz] at this;exact this⟩,fun b hb=>(hf b hb).1⟩⟩
  rw [I.list_inj hy hq,xn (by lia)]
  exact ar (by lia)
 done:=by
  intro X hP hw hK hc i pins s σ H E I hf st hg
  subst hP hw hK
  obtain ⟨xs,hq,hn,hi⟩:=hg
  obtain ⟨its,rv,p,hz⟩:=I.list hq
  have hl:=rv.length
  have sz:its.toArray.size=n:=by rw [bt];lia
  obtain ⟨f0,f1,f2,f3,f4,f5⟩:=hf it (by simp)
  have Wk:=yu (prog:=X.prog) (w:=X.w) (A:=X.A) (I.ok.hd hc) it a ne its.toArray
  have ei:i=n:=by have:=st.1;lia
  refine Wk.done s _ _ ⟨aj _,by rw [sz, <- ei];have:=st.2;rw [<- ei] at this;exact this,p.isList⟩ fun h' tk kp=>⟨rfl,I.turned (t':=tk) (fun b o hb e=>kp b o (by simpa using hb) e) f0 f1 f3 f4 f5⟩
 self:=fun _ _ _ _ _ st h=>yj st.2 h
def cK6 (K:PySem.W.Frag) (te:TE):TI:=fun σ H R=>te σ H fun x H1=>∃ a ys,x= .ref a/\bC K H1 a ys/\R (ItR K a ys.length) H1
theorem aT3 {X:Cx}{tg:Expr}{e:Expr}{te:TE}{p2 pos2:Pos}(he:PE X e te) (g2:Gl X "reversed") (m2:X.mg "reversed"=none) (hs2:starEach [e] X.env=[(false,eval e X.env)]:=by rfl) :
  PI X tg (.Call (.Name "reversed" p2) [e] [] pos2) (cK6 X.K te):=by
 intro pins s σ H R I h
 refine gj (iT I g2 m2 uv (fh ?_ hs2 rfl))
 rw [hs2]
 refine ge (cW (he pins s σ H _ I h) ?_);rintro u s1 ⟨x,H1,I1,r1,a,ys,ex,hq,q⟩;refine jb ?_
 subst ex
 cases r1
 obtain ⟨its,rv,pl,hz⟩:=I1.list hq
 have il:=pl.isList
 have len:=rv.length
 have sz:its.toArray.size=ys.length:=by rw [bt];lia
 have aLt:a < s1.heap.objs.size:=by
  obtain ⟨o,e,_⟩:=il
  exact av e
 refine zo il ?_
 have st:(s1.heap.push (revObj a ((its.toArray.size:Int) - 1))).IsRevIter s1.heap.objs.size a ((ys.length:Int) - 1 - ((0:Nat):Int)):=by
  rw [sz,Int.natCast_zero,Int.sub_zero]
  exact ⟨_,az _ rfl,rfl,rfl⟩
 refine yj st ?_
 refine ⟨s1.heap.objs.size,[s1.heap.objs.size],_,ItR X.K a ys.length,H1,rfl,I1.kept (t':=s1.toks) fun b o e=>ae _ e,aY5 a _ ys.length (bq aLt),⟨bj _,st⟩,fun b hb=>?_,q⟩
 have e:b=s1.heap.objs.size:=by simpa using hb
 subst e
 exact I1.fpOk (aj _) (I1.hok.fresh (aj _))
theorem zA {g:TG}{tc:TT}{te:TE}{K:PySem.W.Frag}{a:Addr}{xs:List V}{Kf:List V->Hp->Prop}{σ0:St}{H1:Hp}(Pv:Nat->List V->St->Hp->Prop) (hz:xs.length < sizeLine) (h0:Pv 0 [] σ0 H1) (hb:∀ i ys σ H,Pv i ys σ H->ys.length<=i) (hl:∀ i ys σ H,i<=xs.length->Pv i ys σ H->bC K H a xs)
  (hs:∀ i x ys σ H,xs.reverse[i]?=some x->Pv i ys σ H->g x σ H fun σ2 H2=>tc σ2 H2 fun b H3=>if b=true then te σ2 H3 fun y H4=>Pv (i+1) (ys++[y]) σ2 H4 else Pv (i+1) ys σ2 H3) (hd:∀ ys σ H,Pv xs.length ys σ H->Kf ys H):uV (ItR K a xs.length) g tc te Kf σ0 H1:=by
 refine ⟨fun i m ys σ H=>m=xs.length - i/\i<=xs.length/\Pv i ys σ H,⟨xs.length,rfl,bj _,h0⟩,?_⟩
 rintro i m ys σ H ⟨rfl,le,p⟩
 have q:=hl i ys σ H le p
 refine ⟨bz (hb _ _ _ _ p) (bz le hz),?_⟩
 by_cases c:i < xs.length
 ·exact .inr ⟨⟨xs,q,rfl,c⟩,Pv (i+1),fun ys' σ' H' p'=>⟨xs.length - (i+1),ij c (ef i),rfl,c,p'⟩,fun x H' ⟨e,y⟩=>by
   subst e
   exact hs i x ys σ _ (y xs q) p⟩
 ·obtain rfl:i=xs.length:=by lia
  exact .inl ⟨⟨xs,q,rfl,aj _⟩,hd ys σ H p⟩
section
variable {X:Cx}
def rCatA:R2:=fun x y H Q=>∃ a b xs ys,x= .ref a/\y= .ref b/\H a=some (.tup xs)/\H b=some (.tup ys)/\xs.length+ys.length<=sizeLine/\∀ r H',aS H H'->H' r=some (.tup (xs++ys))->Q (.ref r) H'
theorem lP:jU X (binaryOp .Add) rCatA:=by
 intro pins s σ H x y v u Q I rx ry h
 obtain ⟨a,b,xs,ys,rfl,rfl,ha,hb,hz,q⟩:=h
 by_cases hx:xs=[]
 ·subst hx
  cases rx
  cases ry
  obtain ⟨its,r1,p1,_⟩:=I.tuple (aO.of ha)
  obtain ⟨its2,r2,p2,_⟩:=I.tuple (aO.of hb)
  cases r1
  obtain ⟨⟨cls,dd,data,sl⟩,ho,hc,n,hd⟩:=id p1
  obtain ⟨⟨cls2,dd2,data2,sl2⟩,ho2,hc2,n2,hd2⟩:=id p2
  simp only at hc hd hc2 hd2
  subst hc hd hc2 hd2
  exact vn ⟨_,ho,rfl⟩ ⟨_,ho2,rfl⟩ qx uu ny my (ma _ _)
   (tuple_addW0 a b _ its2.toArray n n2 dd dd2 sl sl2 (by simp)) ⟨ho,ho2,.ref b,H,I,rfl,q b H (aS.refl _) hb⟩
 ·refine aK0 pins s σ H _ _ v u Q I rx ry ⟨a,b,xs,ys,rfl,rfl,aO.of ha,aO.of hb,hx,hz,fun e=>?_,fun _ p hp=>q p _ (aB hp _) aD⟩
  subst e
  exact q a H (aS.refl _) (by rw [fq];exact ha)
end
section
variable {prog:Program}{w:World}{A:Around}{E:Value->Shared->Prop}{s:Shared}
end
section
variable {X:Cx}{pins:List (Addr×Obj)}{σ: St}{H:Hp}{s:Shared}{A:Around}{E:Value->Shared->Prop}
end
section
variable {prog:Program}{w:World}{K:Type} [DecidableEq K] {knd:KeyKind prog w K}{A:Around}{E:Value->Shared->Prop}{s:Shared}
end
section
variable {X:Cx}
end
section
variable {X:Cx}
def cB5 (t:TT):TT:=fun σ H Q=>∃ P:Bool->Hp->Prop,t σ H P/\∀ b G,P b G->Q b G
theorem gH {e:Expr}{t:TT}(h:PT X e t):PT X e (cB5 t):=by
 intro pins s σ H Q I ⟨P,h1,h2⟩
 refine cW (h pins s σ H P I h1) ?_;rintro b s' ⟨G,I',p⟩;exact ⟨G,I',h2 b G p⟩
def cE9 (t:TS):TS:=fun D σ H=>∃ P:St->Hp->Prop,t { D with nx:=P } σ H/\∀ σ' G,P σ' G->D.nx σ' G
theorem bF8 {st:Stmt}{t:TS}(h:PS X st t):PS X st (cE9 t):=by
 intro pins s σ H D I ⟨P,h1,h2⟩
 refine cW (h pins s σ H _ I h1) fun f s' q=>?_
 cases f with
 | next =>
  obtain ⟨σ',G,I',p⟩:=q
  exact ⟨σ',G,I',h2 σ' G p⟩
 | ret v=>exact q
 | brk=>exact q
 | cont=>exact q
end
section
variable {X:Cx}{o e:Expr}{es:List Expr}{to:TE}{t:TA}{name:Str}{apos cpos:Pos}{T id:String}{r:V->List V->Hp->VK->Prop}
end
def bZ2 (t:TE):TE:=fun σ H Q=>∃ P:V->Hp->Prop,t σ H P/\∀ v G,P v G->Q v G
theorem wF {X:Cx}{e:Expr}{t:TE}(h:PE X e t):PE X e (bZ2 t):=by
 intro pins s σ H Q I ⟨P,h1,h2⟩
 refine cW (h pins s σ H P I h1) ?_;rintro v s' ⟨x,G,I',r,p⟩;exact ⟨x,G,I',r,h2 x G p⟩
noncomputable def nI (σ: List Key) (k:Key):Bool:=σ.any fun j=>decide (j=k)
theorem jN {σ: List Key}{k:Key}:nI σ k=true↔k∈σ:=by
 unfold nI
 rw [List.any_eq_true]
 constructor
 ·rintro ⟨j,m,e⟩
  rw [<- ai e];exact m
 ·exact fun m=>⟨k,m,ag rfl⟩
noncomputable def ddS (σ: List Key) (k:Key):List Key:=if nI σ k=true then σ else σ++[k]
noncomputable def dd (ks:List Key):List Key:=ks.foldl ddS []
theorem bE2 (ks:List Key) (k:Key):dd (ks++[k])=ddS (dd ks) k:=by unfold dd;rw [qq];rfl
theorem aJ7 {σ: List Key}{k j:Key}:j∈ddS σ k↔j∈σ\/j=k:=by
 unfold ddS
 split
 ·rename_i h
  constructor
  ·exact .inl
  ·rintro (z | z)
   ·exact z
   ·rw [z];exact jN.mp h
 ·simp
theorem tR:∀ (ks σ: List Key) (j:Key),j∈ks.foldl ddS σ↔j∈σ\/j∈ks
 | [],σ,j=>by simp
 | k :: r,σ,j=>by
  rw [gm,tR r,aJ7,cf]
  constructor
  ·rintro ((h | h) | h)
   ·exact .inl h
   ·exact .inr (.inl h)
   ·exact .inr (.inr h)
  ·rintro (h | h | h)
   ·exact .inl (.inl h)
   ·exact .inl (.inr h)
   ·exact .inr h
theorem aA3 (ks:List Key) (j:Key):j∈dd ks↔j∈ks:=by unfold dd;rw [tR];simp
theorem zZ:∀ (ks σ: List Key),σ.Nodup->(ks.foldl ddS σ).Nodup
 | [],_,h=>h
 | k :: r,σ,h=>by
  refine zZ r _ ?_
  unfold ddS
  split
  ·exact h
  ·rename_i hk
   rw [oh]
   exact ⟨h,by simp,fun a ha b hb=>by rw [List.mem_singleton.mp hb];exact fun z=>hk (jN.mpr (z ▸ ha))⟩
theorem aY7 (ks:List Key):(dd ks).Nodup:=zZ ks [] (by simp)
section
variable {prog:Program}{w:World}{A:Around}{R:Result->Shared->Prop}{I:Addr}{fp wr:List Addr}{G:Array GenState->Array GenState->Prop}{n:Nat}{P:Nat->Value->Prop}{St:Nat->Shared->Prop}
end
theorem xN {T newId initId:String}{prog:Program}{w:World}{A:Around}{E:Value->Shared->Prop}{s:Shared}{args:List Value}{Q Q₁:Value->Shared->Prop}(ft:TypeCalled T newId initId) (hct:checkTypeCall T ⟨args,[]⟩=pure ())
  (hn:codeAny (model prog w) A.in1 (.call (.builtin newId) ⟨.type T :: args,[]⟩) (wants Q₁ E) s)
  (hi:∀ obj t,Q₁ obj t->t.TypeIs obj T/\codeAny (model prog w) A.in1 (.call (.builtin initId) ⟨obj :: args,[]⟩) (wants (fun r u=>r= .none/\Q obj u) E) t) :
  wpAny (model prog w) A (call (.type T) args) Q E s:=by
 have z1:=ft.notType;have z2:=ft.canCreate;have z3:=ft.made;have z4:=ft.sub
 obtain ⟨c,tl,z5⟩:=ft.mro
 refine wpAny_call (codeAny_of_tree (show wpAny _ _ (callAny (.type T) _) _ _ _ from af ⟨Code.quiet_builtin _ (by decide +kernel),im F.entry_type_call ?_⟩))
 rw [Around.under_plain (weight_type_call_type T args []) rfl]
 repeat (any_goals (first | assumption | wp_step))
 refine lq hn fun r t hr=>?_
 match r,hr with
 | .error e,hr=>exact hr
 | .ok .next,hr=>exact hr.elim
 | .ok .brk,hr=>exact hr.elim
 | .ok .cont,hr=>exact hr.elim
 | .ok (.ret obj),hr =>
  obtain ⟨hT,hc⟩:=hi _ _ hr
  have y1:=ft.init.lookup;have y2:=ft.init.bind obj
  repeat (any_goals (first | assumption | wp_step))
  refine lq hc fun r2 t2 hr2=>?_
  match r2,hr2 with
  | .error e,hr2=>exact hr2
  | .ok .next,hr2=>exact hr2.elim
  | .ok .brk,hr2=>exact hr2.elim
  | .ok .cont,hr2=>exact hr2.elim
  | .ok (.ret r),hr2 =>
   obtain ⟨rfl,hq⟩:=hr2
   repeat (any_goals (first | assumption | wp_step))
section
variable {prog:Program}{w:World}{A:Around}{E:Value->Shared->Prop}{s:Shared}
noncomputable abbrev fI (led:Bool):Obj:={ cls:= .type "set",dict:=none,data:= .set #[] 0 (.fresh 0 0 led) }
end
section
variable {X:Cx}
end
theorem aN1 (t:SetTable) (j:Nat):(t.put j).1.led=t.led/\(t.put j).1.plain=t.plain:=by
 unfold SetTable.put
 split <;> exact ⟨rfl,rfl⟩
theorem tL (t:SetTable) (n:Nat):(t.orStandIn n).led=t.led/\(t.plain=false->(t.orStandIn n).plain=false):=by
 unfold SetTable.orStandIn
 split
 ·exact ⟨rfl,id⟩
 ·exact ⟨rfl,fun _=>rfl⟩
theorem aO2 (t:SetTable) (es:Array (Int×Value)) (h:Int) (x:Value):(layNew t es h x).2.1.led=t.led/\(t.plain=false->(layNew t es h x).2.1.plain=false):=by
 unfold layNew
 split
 ·rename_i slot d e
  have p:=aN1 t slot
  cases q:t.put slot with
  | mk t' k =>
   rw [q] at p
   have p:t'.led=t.led/\t'.plain=t.plain:=p
   have z:=tL t' (SetTable.insertAt es k (h,x)).size
   show (t'.orStandIn _).led=_/\(_->(t'.orStandIn _).plain=false)
   rw [z.1,p.1]
   exact ⟨rfl,fun e=>z.2 (by rw [p.2];exact e)⟩
 ·exact ⟨rfl,fun _=>rfl⟩
theorem aD9 {m f v:Nat}{l p:Bool}{hs:Array Int}{t:SetTable}{o:Array Nat}(h:SetTable.laid m f v l p hs=some (t,o)):t.led=l/\t.plain=p:=by
 unfold SetTable.laid at h
 cases q:SetTable.layClean m hs with
 | none=>rw [q] at h;cases h
 | some z =>
  rw [q] at h
  cases h
  exact ⟨rfl,rfl⟩
theorem zB (t:SetTable) (es:Array (Int×Value)) (n:Nat):(relayAll t es n).2.1.led=t.led/\(t.plain=false->(relayAll t es n).2.1.plain=false):=by
 unfold relayAll
 split
 ·rename_i t' o e
  obtain ⟨a,b⟩:=aD9 e
  dsimp only
  split
  ·exact ⟨a,fun z=>b.trans z⟩
  ·exact ⟨rfl,fun _=>rfl⟩
 ·exact ⟨rfl,fun _=>rfl⟩
def gX (prog:Program) (w:World) (h:Heap) (a:Addr) (S:Key->Bool) (n:Nat) (led:Bool):Prop :=
 ∃ (o:Obj) (es:Array (Int×Value)) (ep:Nat) (t:SetTable),(h.get? a=some o/\o.ExactSet/\o.data= .set es ep t)/\(ElemsOf (aY prog w) es.toList/\∀ j,S j=true↔∃ e∈es.toList,(aY prog w).is j e.2=true)/\(es.size < scanBound/\t.fits es.size=true/\es.size=n)/\t.led=led/\(0 < n->t.plain=false)
section
variable {prog:Program}{w:World}{A:Around}{E:Value->Shared->Prop}{s:Shared}{a:Addr}{S:Key->Bool}{n:Nat}{led:Bool}
theorem gX.keep {h h':Heap}(x:gX prog w h a S n led) (k:∀ o,h.get? a=some o->h'.get? a=some o):gX prog w h' a S n led:=by
 obtain ⟨o,es,ep,t,⟨x1,x2,x3⟩,r⟩:=x
 exact ⟨o,es,ep,t,⟨k o x1,x2,x3⟩,r⟩
theorem gX.stored {h:Heap}{o:Obj}{es es':Array (Int×Value)}{ep:Nat}{t t':SetTable}(h1:h.get? a=some o) (h2:o.ExactSet) (h3:o.data= .set es ep t) (h4:ElemsOf (aY prog w) es'.toList) (h5:∀ j,S j=true↔∃ e∈es'.toList,(aY prog w).is j e.2=true) (h6:es'.size < scanBound) (h7:t'.fits es'.size=true) (h8:t'.led=led) (h9:t'.plain=false) :
  (h.update a (Obj.putSet es' t')).get? a=some { o with data:= .set es' (ep+1) t' }/\gX prog w (h.update a (Obj.putSet es' t')) a S es'.size led:=by
 obtain ⟨g,_⟩:=SetOf_store (knd:=aY prog w) (S':=S) h1 h2 h3 h4 h5 h6 h7
 exact ⟨g,_,es',ep+1,t',⟨g,h2,rfl⟩,⟨h4,h5⟩,⟨h6,h7,rfl⟩,h8,fun _=>h9⟩
theorem uS {g:Bool->Sem Unit}(hg:∀ (b:Bool) (z:Shared) (R:Unit->Shared->Prop),R () z->wpAny (model prog w) A (g b) R E z)
  {o:Obj}{es es1:Array (Int×Value)}{ep:Nat}{t t2:SetTable}(h1:s.heap.get? a=some o) (h2:o.ExactSet) (h3:o.data= .set es ep t)
  (h4:ElemsOf (aY prog w) es1.toList) (h5:∀ j,S j=true↔∃ e∈es1.toList,(aY prog w).is j e.2=true) (h6:es1.size < scanBound) (h7:t2.fits es1.size=true) (h8:t2.led=led) (h9:t2.plain=false) {d:Bool}{R:Option Bool->Shared->Prop}
  (k:∀ h',Heap.SameBut a s.heap h'->gX prog w h' a S es1.size led->R (some true) { s with heap:=h' }) :
  wpAny (model prog w) A (do
   storeSet a es1 t2
   if (!d && t2.tooFull)=true then
    (do g (relayAll t2 es1 (SetTable.grown es1.size)).2.2;storeSet a (relayAll t2 es1 (SetTable.grown es1.size)).1 (relayAll t2 es1 (SetTable.grown es1.size)).2.1;pure (some true))
   else pure (some true)) R E s:=by
 obtain ⟨o1,S1⟩:=gX.stored (led:=led) h1 h2 h3 h4 h5 h6 h7 h8 h9
 have b1:=je s.heap a (Obj.putSet es1 t2)
 refine aa (wpAny_storeSet_of h1 h3 ?_ (fits_of_scanBound h6))
 by_cases c:(!d && t2.tooFull)=true
 ·rw [ay c]
  have pm:=relayAll_perm t2 es1 (SetTable.grown es1.size)
  have ft:=relayAll_fits t2 es1 (SetTable.grown es1.size)
  have mk:=zB t2 es1 (SetTable.grown es1.size)
  revert pm ft mk
  cases relayAll t2 es1 (SetTable.grown es1.size) with
  | mk es2 z =>
  cases z with
  | mk t3 gv =>
  intro pm ft mk
  have sz:es2.size=es1.size:=by rw [<- db, <- db];exact pm.length_eq
  have b2:es2.size < scanBound:=by rw [sz];exact h6
  refine aa (hg _ _ _ (aa (wpAny_storeSet_of o1 rfl ?_ (fits_of_scanBound b2))))
  obtain ⟨_,S2⟩:=gX.stored (led:=led) (S:=S) (es':=es2) (t':=t3) o1 h2 rfl (h4.perm pm) (fun j=>(h5 j).trans ⟨(by rintro ⟨e,m,q⟩;exact ⟨e,pm.mem_iff.mpr m,q⟩),(by rintro ⟨e,m,q⟩;exact ⟨e,pm.mem_iff.mp m,q⟩)⟩) b2 ft (mk.1.trans h8) (mk.2 h9)
  rw [sz] at S2
  exact af (k _ (b1.trans (je _ a _)) S2)
 ·rw [ak c]
  exact af (k _ b1 S1)
theorem bA1 {x:Value}{z:Str}{Q:Bool->Shared->Prop}(hx:(aY prog w).is (Sum.inr z) x=true) (sx:x.scannable=true) (px:plainKind x=false) (F:gX prog w s.heap a S n led) (room:n+1 < scanBound)
  (k:∀ h',Heap.SameBut a s.heap h'->gX prog w h' a (fun j=>S j || decide (j=Sum.inr z)) (if S (Sum.inr z) then n else n+1) led->Q (!S (Sum.inr z)) { s with heap:=h' }) :
  wpAny (model prog w) A (setAddHashed a x ((aY prog w).hash (Sum.inr z))) Q E s:=by
 obtain ⟨o,es,ep,t,⟨x1,x2,x3⟩,⟨x4,x5⟩,⟨x6,x7,x8⟩,x9,x10⟩:=F
 unfold setAddHashed setAddHashedIn
 refine ii (aa (lj x1 x3 x7 ?_))
 dsimp only
 rw [byScan_of sx x6 x4,ay rfl]
 unfold setAddByScan
 refine aa (aa (ou (aa (wpAny_setScan_of hx x1 x3 x7 x4 ?_))))
 cases f:List.findIdx? (fun e=>(aY prog w).is (Sum.inr z) e.2) es.toList with
 | some j =>
  obtain ⟨hj,pj,_⟩:=List.findIdx?_eq_some_iff_getElem.mp f
  have there:S (Sum.inr z)=true:=(x5 _).mpr ⟨es.toList[j],mh hj,pj⟩
  refine af (af ?_)
  have q:=k s.heap (Heap.SameBut.refl a s.heap) ⟨o,es,ep,t,⟨x1,x2,x3⟩,⟨x4,fun i=>?_⟩,⟨x6,x7,by rw [ay there];exact x8⟩,x9,by rw [ay there];exact x10⟩
  ·rw [there] at q;exact q
  ·rw [<- x5 i,Bool.or_eq_true,da]
   constructor
   ·rintro (q | q)
    ·exact q
    ·rw [q];exact there
   ·exact .inl
 | none =>
  have away:S (Sum.inr z)=false:=by
   cases q:S (Sum.inr z) with
   | false=>rfl
   | true =>
    obtain ⟨e,m,y⟩:=(x5 _).mp q
    have u:=List.findIdx?_eq_none_iff.mp f e m
    rw [y] at u;cases u
  have gw:∀ (b:Bool) (z:Shared) (R:Unit->Shared->Prop),R () z->wpAny (model prog w) A (match b with | true=>rule "set.scan.the-table-gave-way" | false=>pure ()) R E z:=fun b z R q=>by
   cases b
   ·exact af q
   ·exact ou q
  have pm:=layNew_perm t es ((aY prog w).hash (Sum.inr z)) x
  have ft:=layNew_fits t es ((aY prog w).hash (Sum.inr z)) x
  have mk:=aO2 t es ((aY prog w).hash (Sum.inr z)) x
  dsimp only
  revert pm ft mk
  cases layNew t es ((aY prog w).hash (Sum.inr z)) x with
  | mk es1 z1 =>
  cases z1 with
  | mk t1 z2 =>
  cases z2 with
  | mk wd gv =>
  intro pm ft mk
  dsimp only at pm ft mk ⊢
  rw [vc] at pm
  have el1:ElemsOf (aY prog w) es1.toList:=(x4.push hx sx).perm pm
  have mm:=mem_push_iff (knd:=aY prog w) hx x5 pm
  have l1:es1.size=n+1:=by
   have e:=pm.length_eq
   rw [am,db,db,x8] at e
   exact e
  have b1:es1.size < scanBound:=by rw [l1];exact room
  have fin:∀ h',Heap.SameBut a s.heap h'->gX prog w h' a (fun j=>S j || decide (j=Sum.inr z)) es1.size led->Q true { s with heap:=h' }:=fun h' b F'=>by
   have q:=k h' b
   rw [away] at q
   rw [l1] at F'
   exact q F'
  refine aa (gw _ _ _ ?_)
  cases pl:t1.plain with
  | true =>
   rw [ay rfl]
   refine aa ?_
   rw [hashByValue_scannable 8 sx,px]
   refine af ?_
   refine uS (S:=fun j=>S j || decide (j=Sum.inr z)) (led:=led) (t2:={ t1 with plain:=false }) gw x1 x2 x3 el1 mm b1 (SetTable.fits_plain_off ft) (mk.1.trans x9) rfl fun h' b F'=>?_
   exact af (fin h' b F')
  | false =>
   rw [ak (by decide)]
   refine aa (af ?_)
   refine uS (S:=fun j=>S j || decide (j=Sum.inr z)) (led:=led) (t2:=t1) gw x1 x2 x3 el1 mm b1 ft (mk.1.trans x9) pl fun h' b F'=>?_
   exact af (fin h' b F')
end
theorem dW {K:PySem.W.Frag}{a:Addr}{xs:List V}{g:TG}{tb:TS}{D:kF}{σ: St}{H:Hp}(Pv:Nat->St->Hp->Prop) (h0:Pv 0 σ H) (hl:∀ i σ H,i<=xs.length->Pv i σ H->bC K H a xs)
  (hs:∀ (D':kF),∀ i x σ H,xs[i]?=some x->Pv i σ H->g x σ H fun σ2 H2=>tb { D' with nx:=Pv (i+1),ct:=Pv (i+1),bk:=D'.nx } σ2 H2) (hd:∀ σ H,Pv xs.length σ H->D.nx σ H) :
  ∃ W:Nat->Nat->St->Hp->Prop,(∃ m,W 0 m σ H)/\∀ i m σ H,W i m σ H ->
   ((Itl K a).stop i H/\D.nx σ H)\/((Itl K a).go i H/\∃ N:St->Hp->Prop,(∀ σ' H',N σ' H'->∃ m',m' < m/\W (i+1) m' σ' H')/\∀ x H',(Itl K a).yld i H x H'->g x σ H' fun σ2 H2=>tb { D with nx:=N,ct:=N,bk:=D.nx } σ2 H2):=zM Pv h0 hl (hs D) hd
theorem sN {K:PySem.W.Frag}{a:Addr}{xs:List V}{g:TG}{tb:TS}{D:kF}{σ: St}{H:Hp}(Pv:Nat->St->Hp->Prop) (h0:Pv 0 σ H) (hl:∀ i σ H,i<=xs.length->Pv i σ H->aO K H a xs)
  (hs:∀ (D':kF),∀ i x σ H,xs[i]?=some x->Pv i σ H->g x σ H fun σ2 H2=>tb { D' with nx:=Pv (i+1),ct:=Pv (i+1),bk:=D'.nx } σ2 H2) (hd:∀ σ H,Pv xs.length σ H->D.nx σ H) :
  ∃ W:Nat->Nat->St->Hp->Prop,(∃ m,W 0 m σ H)/\∀ i m σ H,W i m σ H ->
   ((Itt K a).stop i H/\D.nx σ H)\/((Itt K a).go i H/\∃ N:St->Hp->Prop,(∀ σ' H',N σ' H'->∃ m',m' < m/\W (i+1) m' σ' H')/\∀ x H',(Itt K a).yld i H x H'->g x σ H' fun σ2 H2=>tb { D with nx:=N,ct:=N,bk:=D.nx } σ2 H2):=wG Pv h0 hl (hs D) hd
theorem mG {lo:Int}{n:Nat}{g:TG}{tb:TS}{D:kF}{σ: St}{H:Hp}(Pv:Nat->St->Hp->Prop) (h0:Pv 0 σ H)
  (hs:∀ (D':kF),∀ i σ H,i < n->Pv i σ H->g (.int (lo+i)) σ H fun σ2 H2=>tb { D' with nx:=Pv (i+1),ct:=Pv (i+1),bk:=D'.nx } σ2 H2) (hd:∀ σ H,Pv n σ H->D.nx σ H) :
  ∃ W:Nat->Nat->St->Hp->Prop,(∃ m,W 0 m σ H)/\∀ i m σ H,W i m σ H ->
   ((Itr lo n).stop i H/\D.nx σ H)\/((Itr lo n).go i H/\∃ N:St->Hp->Prop,(∀ σ' H',N σ' H'->∃ m',m' < m/\W (i+1) m' σ' H')/\∀ x H',(Itr lo n).yld i H x H'->g x σ H' fun σ2 H2=>tb { D with nx:=N,ct:=N,bk:=D.nx } σ2 H2):=jJ Pv h0 (hs D) hd
theorem aA2 {K:PySem.W.Frag}{a:Addr}{xs:List V}{g:TG}{tb:TS}{D:kF}{σ: St}{H:Hp}(Pv:Nat->St->Hp->Prop) (h0:Pv 0 σ H) (hl:∀ i σ H,i<=xs.length->Pv i σ H->aO K H a xs)
  (hs:∀ (D':kF),∀ i x σ H t,xs[i]?=some x->Pv i σ H->H t=none->g (.ref t) σ (aQ H t (.tup [.int i,x])) fun σ2 H2=>tb { D' with nx:=Pv (i+1),ct:=Pv (i+1),bk:=D'.nx } σ2 H2) (hd:∀ σ H,Pv xs.length σ H->D.nx σ H) :
  ∃ W:Nat->Nat->St->Hp->Prop,(∃ m,W 0 m σ H)/\∀ i m σ H,W i m σ H ->
   ((Itet K a).stop i H/\D.nx σ H)\/((Itet K a).go i H/\∃ N:St->Hp->Prop,(∀ σ' H',N σ' H'->∃ m',m' < m/\W (i+1) m' σ' H')/\∀ x H',(Itet K a).yld i H x H'->g x σ H' fun σ2 H2=>tb { D with nx:=N,ct:=N,bk:=D.nx } σ2 H2):=aN8 Pv h0 hl (hs D) hd
theorem aX0 {vs:List V}{us:List Value}(hl:us.length=vs.length) (h:∀ (j:Nat) (u:Value),us[j]?=some u->∃ v,vs[j]?=some v/\bL v u):bF vs us:=by
 induction vs generalizing us with
 | nil=>cases us with
  | nil=>exact .nil
  | cons _ _=>simp at hl
 | cons v vs ih=>cases us with
  | nil=>simp at hl
  | cons u us =>
   obtain ⟨v',e,r⟩:=h 0 u rfl
   cases e
   exact .cons r (ih (by simpa using hl) fun j w e=>h (j+1) w (by simpa using e))
theorem zR {prog:Program}{w:World}{A:Around}{E:Value->Shared->Prop}{s:Shared}{T:String}{r d:Addr}{n:Nat}{P:Nat->Value->Prop}{OK:Heap->Prop}{R:List Value->Shared->Prop}
  (K:PySem.W.KdlSrc prog w T r d n P OK) (hh:A.handled=none) (hok:OK s.heap) (hn:n<=sizeLine)
  (h:∀ (h':Heap) (tk:Nat) (acc:Array Value),(∀ b o,s.heap.get? b=some o->h'.get? b=some o)->s.heap.objs.size<=h'.objs.size->ItemsOf P acc n->R acc.toList { s with heap:=h',toks:=tk }) :
  wpAny (model prog w) A (collect (.ref r)) R E s:=by
 let L:=s.heap.objs.size
 let G:Result->Shared->Prop:=fun q s'=>∃ (g:Heap) (tk:Nat) (acc:Array Value) (c:Nat),q= .ok (.ret (.ref L))/\s'={ s with heap:=g,toks:=tk }/\(∀ b o,s.heap.get? b=some o->g.get? b=some o)/\g.get? L=some { cls:= .type "list",dict:=none,data:= .seq acc c,slots:= #[] }/\ItemsOf P acc n
 unfold collect
 refine aa (wpAny_runValue (im yk ?_))
 rw [gt um _]
 refine (show wpAny _ A.in1 (newList [] >>= fun l=>again (.builtin "list.__iadd__" ⟨[l,.ref r],[]⟩)) _ _ s from aa (dj (af ⟨ju na _,im entry_list_iadd' ?_⟩)))
 rw [gt na _]
 have lt:=K.there _ hok
 refine (show wpAny _ A.in1 (Builtin.List.listExtendWith (.ref L) (.ref r) (.ref L)) _ _ _ from fj (PySem.W.kdl_extend (A:=A) (R:=G) (s:={ s with heap:=s.heap.push { cls:= .type "list",data:= .seq ([]:List Value).toArray } }) K hh (K.keep _ _ hok fun b _ o e=>ae _ e) L (de lt.1) (de lt.2) (.ref L) 0 (az _ rfl)
  (fun g tk acc c hk hS ha=>⟨g,tk,acc,c,rfl,rfl,fun b o e=>hk b o (bq (av e)) (ae _ e),hS,ha⟩) hn) (fun f s' x=>?_) (by rintro e s' ⟨_,_,_,_,z,_⟩;exact nomatch z))
 have last:∀ (g:Heap) (tk:Nat) (acc:Array Value) (c:Nat),(∀ b o,s.heap.get? b=some o->g.get? b=some o)->g.get? L=some { cls:= .type "list",dict:=none,data:= .seq acc c,slots:= #[] }->ItemsOf P acc n ->
   wpAny (model prog w) A (load L >>= fun o=>match o.data with | .seq xs _=>pure xs.toList | _=>unsupported "internal:collect") R E { s with heap:=g,toks:=tk } :=
  fun g tk acc c hk hS ha=>aa (wpAny_load hS (af (h g tk acc hk (bu (av hS)) ha)))
 cases f with
 | done f =>
  obtain ⟨g,tk,acc,c,e,rfl,hk,hS,ha⟩:=x
  cases e
  exact last g tk acc c hk hS ha
 | again c₁ =>
  refine ⟨x.1,lq x.2 fun q s₂ y=>?_⟩
  obtain ⟨g,tk,acc,c,rfl,rfl,hk,hS,ha⟩:=y
  exact last g tk acc c hk hS ha
theorem tH:entryFor table "set.__iter__"=some Builtin.«frozenset.__iter__» :=entryFor_alias (id':="frozenset.__iter__") (by kernel_rfl) rfl (by decide +kernel) (by kernel_rfl)
theorem cC:Slot "set_iterator" "__next__" "set_iterator.__next__" :=
 Slot.of (T:="set_iterator") (owner:="set_iterator") (n:="__next__") (by rw [nu,ji];kernel_rfl) (by decide +kernel) (by decide +kernel) (by decide +kernel) (.inl (by decide +kernel)) (by rw [xm];kernel_rfl)
theorem gF:entryFor table "set_iterator.__next__"=some Builtin.«set_iterator.__next__» :=entryFor_of_tree (by kernel_rfl)
theorem gY (a:Value):argsOk "set_iterator.__next__" ⟨[a],[]⟩:=by
 unfold argsOk
 kernel_rfl
abbrev mK (w:World):Bool:=w.params.followText "set-order"
section
variable {prog:Program}{w:World}{A:Around}{E:Value->Shared->Prop}{s:Shared}
theorem aF6 {src:Source}{n:Nat}{Q:Nat->Shared->Prop}(hn:n≠0) (h:∀ i,i < n->Q i { s with drawn:=s.drawn.bump src }):wpAny (model prog w) A (choose src n) Q E s :=
 fun Γ p hΓ=>⟨hn,h _ (Nat.mod_lt _ (Nat.pos_of_ne_zero hn))⟩
theorem uD {α: Type}:∀ (n:Nat) (xs:List α) (s:Shared) (Q:List α->Shared->Prop),xs.length=n->(∀ ys d',ys.Perm xs->Q ys { s with drawn:=d' })->wpAny (model prog w) A (drawOrder n xs) Q E s
 | 0,xs,s,Q,hl,h=>by
  have e:xs=[]:=eh.mp hl
  subst e
  exact af (h [] s.drawn (List.Perm.refl _))
 | n+1,[],s,Q,hl,h=>by cases hl
 | n+1,x :: r,s,Q,hl,h=>by
  show wpAny _ _ (choose .order (x :: r).length >>= _) _ _ _
  refine aa (aF6 (by simp) fun i hi=>?_)
  rw [ar hi]
  refine aa (uD n _ _ _ ?_ fun ys d' p=>?_)
  ·rw [ux hi];simpa using hl
  ·refine af (h _ d' ?_)
   refine (List.Perm.cons _ p).trans ?_
   rw [rg]
   have e:(x :: r)=(x :: r).take i++((x :: r)[i] :: (x :: r).drop (i+1)):=by rw [xa,fw]
   exact (List.perm_middle (a:=(x :: r)[i])).symm.trans (by rw [<- e])
end
def fS (h:Heap) (it:Addr) (fs:Array Value):Prop:=∃ o,h.get? it=some o/\o.cls= .type "set_iterator"/\o.data= .fields fs
theorem fS.typeIs {s:Shared}{it:Addr}{fs:Array Value}(h:fS s.heap it fs):s.TypeIs (.ref it) "set_iterator":=by obtain ⟨o,ho,hc,_⟩:=h;exact ⟨o,ho,hc⟩
theorem fS.at {h h':Heap}{it:Addr}{fs:Array Value}(x:fS h it fs) (k:∀ o,h.get? it=some o->h'.get? it=some o):fS h' it fs:=by obtain ⟨o,ho,r⟩:=x;exact ⟨o,k o ho,r⟩
section
variable {prog:Program}{w:World}{A:Around}{E:Value->Shared->Prop}{s:Shared}{a:Addr}{o:Obj}{es:Array (Int×Value)}{ep:Nat}{t:SetTable}
noncomputable abbrev aS7 (first:Value) (a:Addr) (n ep:Nat):Obj:={ cls:= .type "set_iterator",data:= .fields #[first,rawInt 0,.ref a,rawInt n,rawInt ep] }
theorem aO6 {Q:Value->Shared->Prop}(h1:s.heap.get? a=some o) (h2:o.cls= .type "set") (h3:o.data= .set es ep t) (hf:t.fits es.size=true)
  (hA:(mK w=true\/es.size<=1)->Q (.ref s.heap.objs.size) { s with heap:=s.heap.push (aS7 (rawInt 0) a es.size ep) })
  (hB:mK w=false->∀ (ys:List Nat) d',ys.Perm (List.range es.size)->Q (.ref (s.heap.push (seqObj "tuple" (ys.map fun i:Nat=>rawInt i).toArray 0)).objs.size) { s with drawn:=d',heap:=(s.heap.push (seqObj "tuple" (ys.map fun i:Nat=>rawInt i).toArray 0)).push (aS7 (.ref s.heap.objs.size) a es.size ep) })
  (hp:0 < es.size->t.plain=false) (hz:es.size < 4096):wpAny (model prog w) A (pyIter (.ref a)) Q E s:=by
 have hT:s.TypeIs (.ref a) "set":=⟨o,h1,h2⟩
 refine wpAny_pyIter_slot hT F.slot_set_iter (dy F.slot_set_iter hT tH ?_ (F.args_set_iter_1 _))
 unfold Builtin.«frozenset.__iter__» Builtin.Frozenset.slot0 slotArgs
 simp only [List.isEmpty_nil,Bool.not_true,Bool.false_eq_true,if_false,bind_assoc,List.length_nil,bne_self_eq_false]
 unfold Builtin.Frozenset.addrOf Builtin.Frozenset.sizeOf
 refine aa (af ?_)
 dsimp only
 refine aa (af ?_)
 simp only [bind_assoc]
 refine aa (mq h1 h3 hf ?_)
 refine aa (af ?_)
 unfold setDrawn setsByText
 simp only [bind_assoc]
 refine aa (lj h1 h3 hf ?_)
 dsimp only
 refine aa (mi ?_)
 refine aa (af ?_)
 refine aa (af ?_)
 change wpAny _ _ (if (!mK w && (!t.plain && decide (es.size > 1)))=true then _ else _) _ _ _
 by_cases c:(!mK w && (!t.plain && decide (es.size > 1)))=true
 ·rw [ay c]
  have c1:mK w=false:=by
   rw [jx] at c
   simpa using c.1
  refine aa (uD _ _ _ _ (qr ..) fun ys d' py=>?_)
  have yl:ys.length=es.size:=by rw [py.length_eq,qr]
  unfold newTuple
  refine aa (dj ?_ (by show (List.map _ ys).toArray.size<=_;rw [bt,ac,yl,jo];(exact oqx)))
  have h4:=ae (seqObj "tuple" (ys.map fun i:Nat=>rawInt i).toArray 0) h1
  refine aa (wpAny_setEpoch_of h4 h3 hf ?_)
  unfold newFields
  refine aa (dj (af ⟨_,rfl,"set_iterator",_,⟨_,az _ rfl,rfl⟩,cC.lookup,hB c1 ys d' py⟩))
 ·rw [ak c]
  have c1:mK w=true\/es.size<=1:=by
   by_cases b:mK w=true
   ·exact .inl b
   ·refine .inr (vf fun z=>c ?_)
    have b:mK w=false:=by simpa using b
    rw [b,hp (by lia),ag (show es.size > 1 by lia)]
    rfl
  refine aa (af ?_)
  refine aa (wpAny_setEpoch_of h1 h3 hf ?_)
  unfold newFields
  refine aa (dj (af ⟨_,rfl,"set_iterator",_,⟨_,az _ rfl,rfl⟩,cC.lookup,hA c1⟩))
end
section
variable {prog:Program}{w:World}{A:Around}{E:Value->Shared->Prop}{s:Shared}{a it tp:Addr}{o:Obj}{es:Array (Int×Value)}{ep:Nat}{t:SetTable}
theorem sS {α: Type}{R:α->Shared->Prop}(hh:A.handled=none) (k:∀ e g,(∀ c o,s.heap.get? c=some o->g.get? c=some o)->(∃ oe,g.get? e=some oe/\oe.cls= .type "StopIteration")->E (.ref e) { s with heap:=g }) :
  wpAny (model prog w) A (newExc (.type "StopIteration") [] >>= fun e=>raiseNew (α:=α) e) R E s:=by
 refine aa ?_
 simp only [newExc,newTuple]
 refine aa (dj (aa (m:=firstArgMember _ _) (wy (a:=Value.none) (by first | rfl | (simp only [firstArgMember];rfl)) (dj ?_ (by size_fits)))) (by size_fits))
 unfold raiseNew
 refine aa (yv ?_)
 rw [hh]
 refine aa (af (aAa (k _ _ (fun c o e=>ae _ (ae _ e)) ⟨_,az _ rfl,rfl⟩)))
theorem aE1 {i j:Nat}{items:Array Value}{hx:Int}{x:Value}{Q:Option Value->Shared->Prop}(hit:fS s.heap it #[.ref tp,rawInt i,.ref a,rawInt es.size,rawInt ep]) (ht:s.heap.IsTuple tp items) (h1:s.heap.get? a=some o) (h3:o.data= .set es ep t) (hf:t.fits es.size=true)
  (hi:items[i]?=some (rawInt j)) (he:es[j]?=some (hx,x)) (hQ:∀ h',fS h' it #[.ref tp,rawInt (i+1:Nat),.ref a,rawInt es.size,rawInt ep]->Heap.SameBut it s.heap h'->Q (some x) { s with heap:=h' }):wpAny (model prog w) A (pyNext (.ref it)) Q E s:=by
 obtain ⟨oi,ho,hc,hd⟩:=id hit
 unfold pyNext
 refine aa (ng (dh (name:=Str.ofString "__next__") hit.typeIs cC (dy cC hit.typeIs gF ?_ (gY _))))
 unfold Builtin.«set_iterator.__next__» slotArgs
 simp only [List.isEmpty_nil,Bool.not_true,Bool.false_eq_true,if_false,bind_assoc,List.length_nil,bne_self_eq_false]
 refine aa (af ?_)
 dsimp only
 refine aa (uf ho hd ?_)
 refine (show wpAny _ _ (setEntries a >>= fun es=>_) _ _ _ from aa (mq h1 h3 hf ?_))
 rw [ak (by simp)]
 refine (show wpAny _ _ (seqItems? (.ref tp) >>= fun z=>_) _ _ _ from aa ?_)
 obtain ⟨ot,g1,g2,g3,g4⟩:=id ht
 refine iu g1 g4 ?_
 dsimp only
 rw [show ((i:Int)).toNat=i from cq i,hi]
 refine (show wpAny _ _ (setNextDrawn a ((j:Int)).toNat ((ep:Int)).toNat >>= fun z=>_) _ _ _ from aa ?_)
 rw [cq,cq]
 unfold setNextDrawn
 refine aa (lj h1 h3 hf ?_)
 dsimp only
 rw [ak (by simp),he]
 refine aa (af (af ?_))
 refine aa (iw ho hd (by simp) ?_)
 have hit':fS (s.heap.update it (Obj.mapFields (·.setIfInBounds 1 (rawInt ((i:Int)+1))))) it #[.ref tp,rawInt (i+1:Nat),.ref a,rawInt es.size,rawInt ep] :=
  ⟨_,dv _ ho (jj (fi hd _)),(og ..).trans hc,by rw [fi hd];simp [rawInt]⟩
 exact af ⟨_,rfl,af (hQ _ hit' (je ..))⟩
theorem aO9 {i:Nat}{items:Array Value}{Q:Option Value->Shared->Prop}(hh:A.handled=none) (hit:fS s.heap it #[.ref tp,rawInt i,.ref a,rawInt es.size,rawInt ep]) (ht:s.heap.IsTuple tp items) (h1:s.heap.get? a=some o) (h3:o.data= .set es ep t) (hf:t.fits es.size=true)
  (hi:items[i]?=none) (hQ:∀ h',(∀ c u,c≠it->s.heap.get? c=some u->h'.get? c=some u)->Q none { s with heap:=h' }):wpAny (model prog w) A (pyNext (.ref it)) Q E s:=by
 obtain ⟨oi,ho,hc,hd⟩:=id hit
 unfold pyNext
 refine aa (ng (dh (name:=Str.ofString "__next__") hit.typeIs cC (dy cC hit.typeIs gF ?_ (gY _))))
 unfold Builtin.«set_iterator.__next__» slotArgs
 simp only [List.isEmpty_nil,Bool.not_true,Bool.false_eq_true,if_false,bind_assoc,List.length_nil,bne_self_eq_false]
 refine aa (af ?_)
 dsimp only
 refine aa (uf ho hd ?_)
 refine (show wpAny _ _ (setEntries a >>= fun es=>_) _ _ _ from aa (mq h1 h3 hf ?_))
 rw [ak (by simp)]
 refine (show wpAny _ _ (seqItems? (.ref tp) >>= fun z=>_) _ _ _ from aa ?_)
 obtain ⟨ot,g1,g2,g3,g4⟩:=id ht
 refine iu g1 g4 ?_
 dsimp only
 rw [show ((i:Int)).toNat=i from cq i,hi]
 refine aa (iw ho hd (by simp) ?_)
 have ho2:=dv (Obj.mapFields (·.setIfInBounds 0 (rawInt 0))) ho (jj (fi hd _))
 have hd2:=fi hd (·.setIfInBounds 0 (rawInt 0))
 refine aa (iw ho2 hd2 (by simp) ?_)
 refine sS (A:=A.in1) hh ?_;rintro e g keep ⟨oe,q1,q2⟩
 refine aa (md (T:="StopIteration") (b:=true) ⟨oe,q1,q2⟩ ue ?_)
 refine af (hQ _ fun c u nc e=>keep c u ?_)
 rw [du _ _ nc.symm,du _ _ nc.symm]
 exact e
theorem qX {i sl nx:Nat}{x:Value}{Q:Option Value->Shared->Prop}(hit:fS s.heap it #[rawInt sl,rawInt i,.ref a,rawInt es.size,rawInt ep]) (h1:s.heap.get? a=some o) (h3:o.data= .set es ep t) (hf:t.fits es.size=true)
  (hn:∀ R:Option (Value×Nat)->Shared->Prop,R (some (x,nx)) s->wpAny (model prog w) A.in1 (setNext a sl i ep) R (fun e s'=>wpAny (model prog w) A (do let b <- isInstance e (.type "StopIteration");if b=true then pure none else throw e) Q E s') s)
  (hQ:∀ h',fS h' it #[rawInt nx,rawInt (i+1:Nat),.ref a,rawInt es.size,rawInt ep]->(∀ c u,c≠it->s.heap.get? c=some u->h'.get? c=some u)->Q (some x) { s with heap:=h' }):wpAny (model prog w) A (pyNext (.ref it)) Q E s:=by
 obtain ⟨oi,ho,hc,hd⟩:=id hit
 unfold pyNext
 refine aa (ng (dh (name:=Str.ofString "__next__") hit.typeIs cC (dy cC hit.typeIs gF ?_ (gY _))))
 unfold Builtin.«set_iterator.__next__» slotArgs
 simp only [List.isEmpty_nil,Bool.not_true,Bool.false_eq_true,if_false,bind_assoc,List.length_nil,bne_self_eq_false]
 refine aa (af ?_)
 dsimp only
 refine aa (uf ho hd ?_)
 refine (show wpAny _ _ (setEntries a >>= fun es=>_) _ _ _ from aa (mq h1 h3 hf ?_))
 rw [ak (by simp)]
 refine (show wpAny _ _ (setNext a ((sl:Int)).toNat ((i:Int)).toNat ((ep:Int)).toNat >>= fun z=>_) _ _ _ from aa ?_)
 rw [cq,cq,cq]
 refine hn _ ?_
 refine aa (iw ho hd (by simp) ?_)
 have ho2:=dv (Obj.mapFields (·.setIfInBounds 0 (rawInt nx))) ho (jj (fi hd _))
 have hd2:=fi hd (·.setIfInBounds 0 (rawInt nx))
 refine aa (iw ho2 hd2 (by simp) ?_)
 have hit':fS ((s.heap.update it (Obj.mapFields (·.setIfInBounds 0 (rawInt nx)))).update it (Obj.mapFields (·.setIfInBounds 1 (rawInt ((i:Int)+1))))) it #[rawInt nx,rawInt (i+1:Nat),.ref a,rawInt es.size,rawInt ep] :=
  ⟨_,dv _ ho2 (jj (fi hd2 _)),(og ..).trans ((og ..).trans hc),by rw [fi hd2];simp [rawInt]⟩
 refine af ⟨_,rfl,af (hQ _ hit' fun c u nc e=>?_)⟩
 rw [du _ _ nc.symm,du _ _ nc.symm]
 exact e
theorem uP {i sl:Nat}{Q:Option Value->Shared->Prop}(hh:A.handled=none) (hit:fS s.heap it #[rawInt sl,rawInt i,.ref a,rawInt es.size,rawInt ep]) (h1:s.heap.get? a=some o) (h3:o.data= .set es ep t) (hf:t.fits es.size=true)
  (hn:∀ R:Option (Value×Nat)->Shared->Prop,R none s->wpAny (model prog w) A.in1 (setNext a sl i ep) R (fun e s'=>wpAny (model prog w) A (do let b <- isInstance e (.type "StopIteration");if b=true then pure none else throw e) Q E s') s)
  (hQ:∀ h',(∀ c u,c≠it->s.heap.get? c=some u->h'.get? c=some u)->Q none { s with heap:=h' }):wpAny (model prog w) A (pyNext (.ref it)) Q E s:=by
 obtain ⟨oi,ho,hc,hd⟩:=id hit
 unfold pyNext
 refine aa (ng (dh (name:=Str.ofString "__next__") hit.typeIs cC (dy cC hit.typeIs gF ?_ (gY _))))
 unfold Builtin.«set_iterator.__next__» slotArgs
 simp only [List.isEmpty_nil,Bool.not_true,Bool.false_eq_true,if_false,bind_assoc,List.length_nil,bne_self_eq_false]
 refine aa (af ?_)
 dsimp only
 refine aa (uf ho hd ?_)
 refine (show wpAny _ _ (setEntries a >>= fun es=>_) _ _ _ from aa (mq h1 h3 hf ?_))
 rw [ak (by simp)]
 refine (show wpAny _ _ (setNext a ((sl:Int)).toNat ((i:Int)).toNat ((ep:Int)).toNat >>= fun z=>_) _ _ _ from aa ?_)
 rw [cq,cq,cq]
 refine hn _ ?_
 refine aa (iw ho hd (by simp) ?_)
 refine sS (A:=A.in1) hh ?_;rintro e g keep ⟨oe,q1,q2⟩
 refine aa (md (T:="StopIteration") (b:=true) ⟨oe,q1,q2⟩ ue ?_)
 refine af (hQ _ fun c u nc e=>keep c u ?_)
 rw [du _ _ nc.symm]
 exact e
end
theorem pF:entryFor table "set_iterator.__iter__"=some Builtin.«dict_keyiterator.__iter__» :=entryFor_alias (id':="dict_keyiterator.__iter__") (by kernel_rfl) rfl (by decide +kernel) (by kernel_rfl)
theorem kX:Slot "set_iterator" "__iter__" "set_iterator.__iter__" :=
 Slot.of (T:="set_iterator") (owner:="set_iterator") (n:="__iter__") (by rw [nu,ji];kernel_rfl) (by decide +kernel) (by decide +kernel) (by decide +kernel) (.inl (by decide +kernel)) (by rw [xm];kernel_rfl)
theorem qO (a:Value):argsOk "set_iterator.__iter__" ⟨[a],[]⟩:=by
 unfold argsOk
 kernel_rfl
theorem uW {α: Type}(next:Nat->Nat):∀ (f k:Nat) (l:List α) (out:Array α),f=l.length->(pickOrder.go next f k l out).toList.Perm (out.toList++l)
 | 0,k,l,out,h=>by
  have e:l=[]:=eh.mp h.symm
  subst e
  show out.toList.Perm (out.toList++[])
  rw [fq]
 | f+1,k,l,out,h=>by
  have hl:next k % l.length < l.length:=Nat.mod_lt _ (by lia)
  have e:pickOrder.go next (f+1) k l out=pickOrder.go next f (k+1) (l.eraseIdx (next k % l.length)) (out.push l[next k % l.length]):=by
   conv=>lhs;unfold pickOrder.go
   rw [ar hl]
  rw [e]
  refine (uW next f (k+1) _ _ (by rw [ux hl];lia)).trans ?_
  rw [vc,ee]
  refine List.Perm.append_left _ ?_
  rw [rg]
  have e2:l=l.take (next k % l.length)++(l[next k % l.length] :: l.drop (next k % l.length+1)):=by rw [xa,fw]
  exact (List.perm_middle (l₁:=l.take (next k % l.length)) (a:=l[next k % l.length])).symm.trans (by rw [<- e2])
theorem iE {α: Type}(next:Nat->Nat) (xs:Array α):(pickOrder next xs).toList.Perm xs.toList:=by
 have:=uW next xs.size 0 xs.toList #[] (by simp)
 simpa [pickOrder] using this
section
variable {prog:Program}{w:World}{A:Around}{E:Value->Shared->Prop}{s:Shared}{a it tp:Addr}{o:Obj}{es:Array (Int×Value)}{ep:Nat}{t:SetTable}
theorem fS.self {fs:Array Value}{Q:Value->Shared->Prop}(hit:fS s.heap it fs) (h:Q (.ref it) s):wpAny (model prog w) A (pyIter (.ref it)) Q E s:=by
 refine wpAny_pyIter_slot hit.typeIs kX (dy kX hit.typeIs pF ?_ (qO _))
 refine (show wpAny _ _ (ret (.ref it)) _ _ s from ?_)
 exact af ⟨_,rfl,"set_iterator",_,hit.typeIs,cC.lookup,h⟩
theorem nC {sl i:Nat}{R:Option (Value×Nat)->Shared->Prop}(hb:mK w=true) (h1:s.heap.get? a=some o) (h3:o.data= .set es ep t) (hf:t.fits es.size=true)
  (h:R (((pickOrder (w.params.setOrder a ep) es)[i]?).map fun e=>(e.2,sl)) s):wpAny (model prog w) A (setNext a sl i ep) R E s:=by
 unfold setNext setsByText
 refine aa (lj h1 h3 hf ?_)
 dsimp only
 refine aa (aa (mi (af ?_)))
 rw [ay (show (model prog w).w.params.followText "set-order"=true from hb),ak (by simp)]
 unfold setWalk setsByText
 refine aa (aa (lj h1 h3 hf ?_))
 dsimp only
 refine aa (aa (mi (af ?_)))
 rw [ay (show (model prog w).w.params.followText "set-order"=true from hb)]
 refine aa (mi (af (af h)))
theorem pB {sl i:Nat}{R:Option (Value×Nat)->Shared->Prop}(hb:mK w=false) (hz:es.size<=1) (hl:t.led=true) (h1:s.heap.get? a=some o) (h3:o.data= .set es ep t) (hf:t.fits es.size=true)
  (h:R (match es[SetTable.below t.place sl]?,t.place[SetTable.below t.place sl]? with | some (_,x),some j=>some (x,j+1) | _,_=>none) s):wpAny (model prog w) A (setNext a sl i ep) R E s:=by
 unfold setNext setsByText
 refine aa (lj h1 h3 hf ?_)
 dsimp only
 refine aa (aa (mi (af ?_)))
 rw [ak (show ¬ ((model prog w).w.params.followText "set-order"=true) from by rw [show (model prog w).w.params.followText "set-order"=false from hb];decide)]
 refine aa (af ?_)
 have e1:(!t.plain && decide (es.size > 1))=false:=by rw [cz (by lia),Bool.and_false]
 refine (show wpAny _ _ (if (!t.plain && decide (es.size > 1))=true then unsupported "set_iterator.__next__:the-table-is-plain-no-more" else _) _ _ _ from ?_)
 rw [ak (by rw [e1];decide)]
 refine aa ?_
 refine (show wpAny _ _ (if (!t.led && !es.isEmpty)=true then unsupported "set:maker-not-led" else pure ()) _ _ _ from ?_)
 rw [ak (by rw [hl];simp)]
 exact af (af h)
end
section
variable {prog:Program}{w:World}{A:Around}{E:Value->Shared->Prop}{s:Shared}{a tp:Addr}{o:Obj}{es:Array (Int×Value)}{ep:Nat}{t:SetTable}
theorem aC9 (hh:A.handled=none) (J:Addr) (ja:a≠J) (jt:tp≠J) (h3:o.data= .set es ep t) (hf:t.fits es.size=true) (ys:List Nat) (hy:ys.Perm (List.range es.size)) :
  Walks prog w A J [J,tp,a] [J] es.size (fun i v=>(ys.map fun j=>((es[j]?).map (·.2)).getD .none)[i]?=some v)
   (fun i h=>fS h J #[.ref tp,rawInt i,.ref a,rawInt es.size,rawInt ep]/\h.IsTuple tp (ys.map fun i:Nat=>rawInt i).toArray/\h.get? a=some o) where
 sub:=fun b hb=>by simp only [List.mem_singleton] at hb;rw [hb];exact ao
 frame:=fun i h h' st k=>⟨st.1.at (k J (by simp)),st.2.1.at (k tp (by simp)),k a (by simp) o st.2.2⟩
 item:=fun i s Q E hi st hQ=>by
  have hl:ys.length=es.size:=by rw [hy.length_eq,qr]
  have hiy:i < ys.length:=by lia
  have hj:ys[i] < es.size:=ub.mp (hy.mem_iff.mp (mh hiy))
  refine aE1 (j:=ys[i]) (hx:=es[ys[i]].1) (x:=es[ys[i]].2) st.1 st.2.1 st.2.2 h3 hf (by simp [hiy]) (by simp [hj]) fun h' z q=>?_
  refine hQ _ h' s.toks ?_ ⟨z,st.2.1.at fun u e=>q.extBut _ _ jt e,q.extBut _ _ ja st.2.2⟩ fun b u hb e=>q.extBut b u (fun x=>hb (by rw [x];exact ao)) e
  simp [hiy,hj]
 done:=fun s Q E st hQ=>by
  have hl:ys.length=es.size:=by rw [hy.length_eq,qr]
  exact aO9 hh st.1 st.2.1 st.2.2 h3 hf (by simp [hl]) fun h' q=>hQ h' s.toks fun b u hb e=>q b u (fun x=>hb (by rw [x];exact ao)) e
 self:=fun _ _ _ _ st hQ=>st.1.self hQ
theorem aO7 (hh:A.handled=none) (J:Addr) (ja:a≠J) (h3:o.data= .set es ep t) (hf:t.fits es.size=true) (hb:mK w=true) :
  Walks prog w A J [J,a] [J] es.size (fun i v=>((pickOrder (w.params.setOrder a ep) es).toList.map (·.2))[i]?=some v)
   (fun i h=>fS h J #[rawInt 0,rawInt i,.ref a,rawInt es.size,rawInt ep]/\h.get? a=some o) where
 sub:=fun b hb=>by simp only [List.mem_singleton] at hb;rw [hb];exact ao
 frame:=fun i h h' st k=>⟨st.1.at (k J (by simp)),k a (by simp) o st.2⟩
 item:=fun i s Q E hi st hQ=>by
  have hp:=(iE (w.params.setOrder a ep) es).length_eq
  rw [db,db] at hp
  have hi':i < (pickOrder (w.params.setOrder a ep) es).size:=by lia
  refine qX (sl:=0) (nx:=0) (x:=(pickOrder (w.params.setOrder a ep) es)[i].2) st.1 st.2 h3 hf (fun R hR=>nC hb st.2 h3 hf (by rw [lm hi'];exact hR)) fun h' z q=>?_
  refine hQ _ h' s.toks ?_ ⟨z,q _ _ ja st.2⟩ fun b u hb e=>q b u (fun x=>hb (by rw [x];exact ao)) e
  simp [hi']
 done:=fun s Q E st hQ=>by
  have hp:=(iE (w.params.setOrder a ep) es).length_eq
  rw [db,db] at hp
  exact uP (sl:=0) hh st.1 st.2 h3 hf (fun R hR=>nC hb st.2 h3 hf (by rw [xb (by lia)];exact hR)) fun h' q=>hQ h' s.toks fun b u hb e=>q b u (fun x=>hb (by rw [x];exact ao)) e
 self:=fun _ _ _ _ st hQ=>st.1.self hQ
theorem uN (j k:Nat):SetTable.below #[j] k=if j < k then 1 else 0:=by
 unfold SetTable.below
 show SetTable.below.go #[j] k 1 0 1=_
 unfold SetTable.below.go
 rw [ay (by decide)]
 show (if (#[j]:Array Nat).getD 0 k < k then SetTable.below.go #[j] k 0 1 1 else SetTable.below.go #[j] k 0 0 0)=_
 rw [show (#[j]:Array Nat).getD 0 k=j from rfl]
 rfl
theorem uB {n:Nat}(h:t.fits n=true):t.place.size=n:=by
 unfold SetTable.fits at h
 rw [jx] at h
 simpa using h.1
theorem aW1 (hh:A.handled=none) (J:Addr) (ja:a≠J) (h3:o.data= .set es ep t) (hf:t.fits es.size=true) (hb:mK w=false) (hz:es.size<=1) (hl:t.led=true) :
  Walks prog w A J [J,a] [J] es.size (fun i v=>(es.toList.map (·.2))[i]?=some v)
   (fun i h=>(∃ sl:Nat,fS h J #[rawInt sl,rawInt i,.ref a,rawInt es.size,rawInt ep]/\(i=0->sl=0)/\(i=1->∀ j,t.place= #[j]->j < sl))/\h.get? a=some o) where
 sub:=fun b hb=>by simp only [List.mem_singleton] at hb;rw [hb];exact ao
 frame:=fun i h h' st k=>by
  obtain ⟨⟨sl,x,y⟩,z⟩:=st
  exact ⟨⟨sl,x.at (k J (by simp)),y⟩,k a (by simp) o z⟩
 item:=fun i s Q E hi st hQ=>by
  obtain ⟨⟨sl,x,y,_⟩,z⟩:=st
  have i0:i=0:=by lia
  subst i0
  obtain rfl:sl=0:=y rfl
  have ps:=uB hf
  have e1:es.size=1:=by lia
  obtain ⟨j,hj⟩:∃ j,t.place= #[j]:=by
   have:t.place.size=1:=by lia
   exact on.mp this
  obtain ⟨⟨hs,xx⟩,he⟩:∃ q,es= #[q]:=on.mp e1
  refine qX (sl:=0) (nx:=j+1) (x:=xx) x z h3 hf (fun R hR=>pB hb hz hl z h3 hf ?_) fun h' z' q=>?_
  ·rw [hj,uN,ak (Nat.not_lt_zero _),he]
   exact hR
  ·refine hQ _ h' s.toks ?_ ⟨⟨j+1,z',fun q=>absurd q (by decide),fun _ j' hj'=>?_⟩,q _ _ ja z⟩ fun b u hb e=>q b u (fun x=>hb (by rw [x];exact ao)) e
   ·rw [he];rfl
   ·rw [hj] at hj'
    cases hj'
    exact ef _
 done:=fun s Q E st hQ=>by
  obtain ⟨⟨sl,x,_,y⟩,z⟩:=st
  refine uP (sl:=sl) hh x z h3 hf (fun R hR=>pB hb hz hl z h3 hf ?_) fun h' q=>hQ h' s.toks fun b u hb e=>q b u (fun x=>hb (by rw [x];exact ao)) e
  have ps:=uB hf
  by_cases e0:es.size=0
  ·have:es= #[]:=Array.size_eq_zero_iff.mp e0
   subst this
   exact hR
  ·have e1:es.size=1:=by lia
   obtain ⟨j,hj⟩:∃ j,t.place= #[j]:=by
    have:t.place.size=1:=by lia
    exact on.mp this
   obtain ⟨⟨hs,xx⟩,he⟩:∃ q,es= #[q]:=on.mp e1
   rw [hj,uN,ay (y e1 j hj),he]
   exact hR
 self:=fun _ _ _ _ st hQ=>by
  obtain ⟨⟨sl,x,_⟩,_⟩:=st
  exact x.self hQ
theorem aQ2 {Q:Value->Shared->Prop}(h1:s.heap.get? a=some o) (h2:o.cls= .type "set") (h3:o.data= .set es ep t) (hf:t.fits es.size=true) (hl:t.led= !mK w) (hp:0 < es.size->t.plain=false) (hz:es.size < 4096)
  (hQ:∀ (g:Heap) (d':Drawn) (J:Addr) (fp:List Addr) (vs:List Value) (St:Nat->Heap->Prop),(∀ b u,s.heap.get? b=some u->g.get? b=some u)->s.heap.objs.size<=J->(∀ b∈fp,b=a\/s.heap.objs.size<=b) ->
   (∀ A':Around,A'.handled=none->Walks prog w A' J fp [J] es.size (fun i v=>vs[i]?=some v) St)->St 0 g->vs.Perm (es.toList.map (·.2))->Q (.ref J) { s with heap:=g,drawn:=d' }):wpAny (model prog w) A (pyIter (.ref a)) Q E s:=by
 have la:=av h1
 refine aO6 h1 h2 h3 hf (fun c=>?_) (fun c ys d' py=>?_) hp hz
 ·have ja:a≠s.heap.objs.size:=bq la
  have fpm:∀ b∈[s.heap.objs.size,a],b=a\/s.heap.objs.size<=b:=fun b hb=>by
   simp only [List.mem_cons,List.not_mem_nil,or_false] at hb
   rcases hb with e | e
   ·rw [e];exact .inr (aj _)
   ·exact .inl e
  have g1:fS (s.heap.push (aS7 (rawInt 0) a es.size ep)) s.heap.objs.size #[rawInt 0,rawInt 0,.ref a,rawInt es.size,rawInt ep]:=⟨_,az _ rfl,rfl,rfl⟩
  cases hb:mK w with
  | true =>
   exact hQ _ s.drawn _ [s.heap.objs.size,a] _ _ (fun b u e=>ae _ e) (aj _) fpm (fun A' h'=>aO7 h' _ ja h3 hf hb) ⟨g1,ae _ h1⟩ ((iE _ es).map _)
  | false =>
   rw [hb] at hl c
   have c:es.size<=1:=c.elim (fun c=>by cases c) id
   exact hQ _ s.drawn _ [s.heap.objs.size,a] _ _ (fun b u e=>ae _ e) (aj _) fpm (fun A' h'=>aW1 h' _ ja h3 hf hb c hl) ⟨⟨0,g1,fun _=>rfl,fun z=>absurd z (by decide)⟩,ae _ h1⟩ (List.Perm.refl _)
 ·have z1:(s.heap.push (seqObj "tuple" (ys.map fun i:Nat=>rawInt i).toArray 0)).objs.size=s.heap.objs.size+1:=gi ..
  have ja:a≠(s.heap.push (seqObj "tuple" (ys.map fun i:Nat=>rawInt i).toArray 0)).objs.size:=by rw [z1];exact bq (js la)
  have jt:s.heap.objs.size≠(s.heap.push (seqObj "tuple" (ys.map fun i:Nat=>rawInt i).toArray 0)).objs.size:=by rw [z1];exact bq (ef _)
  refine hQ _ d' _ [_,s.heap.objs.size,a] _ _ (fun b u e=>ae _ (ae _ e)) (by rw [z1];exact jy _) (fun b hb=>?_) (fun A' h'=>aC9 h' _ ja jt h3 hf ys py) ⟨⟨_,az _ rfl,rfl,rfl⟩,⟨_,ae _ (az _ rfl),rfl,0,rfl⟩,ae _ (ae _ h1)⟩ ?_
  ·simp only [List.mem_cons,List.not_mem_nil,or_false] at hb
   rcases hb with e | e | e
   ·rw [e,z1];exact .inr (jy _)
   ·rw [e];exact .inr (aj _)
   ·exact .inl e
  ·refine (py.map _).trans ?_
   refine List.Perm.of_eq ?_
   refine vv (by simp) fun i p q=>?_
   have hi:i < es.size:=by simpa using p
   simp [hi]
end
theorem aW.draw {X:Cx}{pins:List (Addr×Obj)}{σ: St}{H:Hp}{s:Shared}(I:aW X pins σ H s) (d':Drawn):aW X pins σ H { s with drawn:=d' } :=
 ⟨I.ok,I.os,I.bare,I.base,I.loc,I.cell,I.free,I.freeC,I.pin,I.hok,I.len⟩
section
variable {prog:Program}{w:World}{A:Around}{E:Value->Shared->Prop}{s:Shared}{a:Addr}{o:Obj}{es:Array (Int×Value)}{ep:Nat}{t:SetTable}
theorem aW2 {Q:Bool->Shared->Prop}(hT:s.TypeIs (.ref a) "set") (q:Q false s):wpAny (model prog w) A (Builtin.List.listLengthHint (.ref a)) Q E s:=by
 have e0:splitId "set.__len__"=some ("set","__len__"):=by decide +kernel
 unfold Builtin.List.listLengthHint
 refine aa (nt hT F.slot_set_len.lookup ?_)
 generalize hzz:("set.__len__": String)=z at e0 ⊢
 wp_delta
 rw [e0]
 subst hzz
 refine aa (md (T:="set") (b:=true) hT sub_set_self ?_)
 refine sj (fun x=>absurd x (by decide)) fun _=>sj (fun _=>?_) fun x=>absurd (by decide +kernel) x
 exact aa (oj hT (af q))
theorem aB1 {R:Result->Shared->Prop}(h1:s.heap.get? a=some o) (h2:o.cls= .type "set") (h3:o.data= .set es ep t) (hf:t.fits es.size=true) (hl:t.led= !mK w) (hp:0 < es.size->t.plain=false) (hz:es.size < 4096) (hh:A.handled=none)
  (S:Addr) (hSa:S≠a) (res:Value) (c₀:Nat) (hS:s.heap.get? S=some { cls:= .type "list",data:= .seq #[] c₀ })
  (hR:∀ h' d' tk acc' c',(∀ b u,b≠S->s.heap.get? b=some u->h'.get? b=some u)->h'.get? S=some { cls:= .type "list",dict:=none,data:= .seq acc' c',slots:= #[] }->acc'.toList.Perm (es.toList.map (·.2))->R (.ok (.ret res)) { s with heap:=h',drawn:=d',toks:=tk }) :
  wpAny (model prog w) A.in1 (Builtin.List.listExtendWith (.ref S) (.ref a) res)
   (fun fin s'=>match fin with | .done f=>R (.ok f) s' | .again c'=>c'.quiet=true/\codeAny (model prog w) A c' R s') (fun e s'=>R (.error e) s') s:=by
 have hT:s.TypeIs (.ref a) "set":=⟨o,h1,h2⟩
 have lS:=av hS
 unfold Builtin.List.listExtendWith
 refine aa (oj (T:="set") hT ?_)
 have e1:Builtin.List.listSameRef (.ref S) (.ref a)=false:=by simp [Builtin.List.listSameRef,hSa]
 have e2:(Value.type "set" == Value.type "list")=false:=by decide
 have e3:(Value.type "set" == Value.type "tuple")=false:=by decide
 simp only [e1,e2,e3,Bool.or_false,Bool.false_eq_true,if_false]
 refine aa (aQ2 h1 h2 h3 hf hl hp hz fun g d' J fp vs St keep lJ mf W st pv=>?_)
 have W:=W A.in1 hh
 have hSJ:S≠J:=bq (cm lS lJ)
 have hSf:S∉fp:=fun m=>by
  rcases mf S m with e | e
  ·exact hSa e
  ·exact absurd lS (oy.mpr e)
 have sz:es.size<=sizeLine:=by rw [jo];(exact oqx)
 have fin:∀ (h:Heap) (c₁ tk:Nat),St 0 h->(∀ b u,b≠S->s.heap.get? b=some u->h.get? b=some u)->h.get? S=some { cls:= .type "list",data:= .seq #[] c₁ } ->
   codeAny (model prog w) A (.builtin "list.extend.loop" ⟨[.ref S,.ref J,res],[]⟩) R { s with heap:=h,drawn:=d',toks:=tk }:=fun h c₁ tk st' k' hS'=>by
  refine yh W.toS sz S hSf res es.size 0 _ #[] c₁ rfl (bj _) st' hS' (ItemsOf.nil _) fun s' acc' c' hm hS2 hacc=>?_
  rw [Moved.eq_with hm]
  refine hR s'.heap d' s'.toks acc' c' (fun b u hb e=>hm.heap b u (fun m=>?_) (k' b u hb e)) hS2 ?_
  ·rcases cf.mp m with e' | e'
   ·exact hb e'
   ·exact absurd (av e) (by rw [ax.mp e'];exact oy.mpr lJ)
  ·have el:acc'.toList=vs:=by
    have vl:vs.length=es.size:=by rw [pv.length_eq,ac,db]
    refine vv (by rw [db,hacc.1,vl]) fun i p q=>?_
    have hi:i < acc'.size:=by simpa using p
    have z:vs[i]?=some acc'[i]:=hacc.2 i acc'[i] (by simp [hi])
    rw [ar q] at z
    rw [Array.getElem_toList]
    exact (dz z).symm
   rw [el];exact pv
 have gS:g.get? S=some { cls:= .type "list",data:= .seq #[] c₀ }:=keep S _ hS
 have hT2:Shared.TypeIs { s with heap:=g,drawn:=d' } (.ref a) "set":=⟨o,keep a _ h1,h2⟩
 refine aa (ii (aW2 hT2 ?_))
 refine sj (fun _=>?_) fun _=>af ⟨ju io _,fin g c₀ _ st (fun b u _ e=>keep b u e) gS⟩
 refine aa (ou (aa ?_))
 refine (show wpAny _ _ (updateSeq S (·.push .none) >>= fun _=>updateSeq S (·.pop)) _ _ _ from aa (kj gS rfl ?_))
 have g2:=dv (Obj.mapSeq (·.push Value.none)) gS rfl
 refine kj (hz:=by seq_fits) g2 rfl ?_
 have g3:=dv (Obj.mapSeq (·.pop)) g2 rfl
 have oth:∀ b u,b≠S->g.get? b=some u->((g.update S (Obj.mapSeq (·.push Value.none))).update S (Obj.mapSeq (·.pop))).get? b=some u:=fun b u hb e=>by
  rw [du _ _ (Ne.symm hb),du _ _ (Ne.symm hb)];exact e
 exact af ⟨ju io _,fin _ _ _ (W.frame 0 _ _ st fun b hb u e=>oth b u (fun x=>hSf (x ▸ hb)) e) (fun b u hb e=>oth b u hb (keep b u e)) g3⟩
theorem yG {R:List Value->Shared->Prop}(h1:s.heap.get? a=some o) (h2:o.cls= .type "set") (h3:o.data= .set es ep t) (hf:t.fits es.size=true) (hl:t.led= !mK w) (hp:0 < es.size->t.plain=false) (hz:es.size < 4096) (hh:A.handled=none)
  (k:∀ (h':Heap) (d':Drawn) (tk:Nat) (acc:Array Value),(∀ b u,s.heap.get? b=some u->h'.get? b=some u)->s.heap.objs.size<=h'.objs.size->acc.toList.Perm (es.toList.map (·.2))->R acc.toList { s with heap:=h',drawn:=d',toks:=tk }) :
  wpAny (model prog w) A (collect (.ref a)) R E s:=by
 let G:Result->Shared->Prop:=fun q s'=>∃ (g:Heap) (d':Drawn) (tk:Nat) (acc:Array Value) (c:Nat),q= .ok (.ret (.ref s.heap.objs.size))/\s'={ s with heap:=g,drawn:=d',toks:=tk }/\(∀ b u,s.heap.get? b=some u->g.get? b=some u)/\g.get? s.heap.objs.size=some { cls:= .type "list",dict:=none,data:= .seq acc c,slots:= #[] }/\acc.toList.Perm (es.toList.map (·.2))
 have la:=av h1
 unfold collect
 refine aa (wpAny_runValue (im yk ?_))
 rw [gt um _]
 refine (show wpAny _ A.in1 (newList [] >>= fun l=>again (.builtin "list.__iadd__" ⟨[l,.ref a],[]⟩)) _ _ s from aa (dj (af ⟨ju na _,im entry_list_iadd' ?_⟩)))
 rw [gt na _]
 refine (show wpAny _ A.in1 (Builtin.List.listExtendWith (.ref s.heap.objs.size) (.ref a) (.ref s.heap.objs.size)) _ _ _ from fj (aB1 (A:=A) (R:=G) (s:={ s with heap:=s.heap.push { cls:= .type "list",data:= .seq ([]:List Value).toArray } }) (ae _ h1) h2 h3 hf hl hp hz hh s.heap.objs.size (de la) (.ref s.heap.objs.size) 0 (az _ rfl)
  (fun g d' tk acc c hk hS ha=>⟨g,d',tk,acc,c,rfl,rfl,fun b u e=>hk b u (bq (av e)) (ae _ e),hS,ha⟩)) (fun f s' x=>?_) (by rintro e s' ⟨_,_,_,_,_,z,_⟩;exact nomatch z))
 have last:∀ (g:Heap) (d':Drawn) (tk:Nat) (acc:Array Value) (c:Nat),(∀ b u,s.heap.get? b=some u->g.get? b=some u)->g.get? s.heap.objs.size=some { cls:= .type "list",dict:=none,data:= .seq acc c,slots:= #[] }->acc.toList.Perm (es.toList.map (·.2)) ->
   wpAny (model prog w) A (load s.heap.objs.size >>= fun o=>match o.data with | .seq xs _=>pure xs.toList | _=>unsupported "internal:collect") R E { s with heap:=g,drawn:=d',toks:=tk } :=
  fun g d' tk acc c hk hS ha=>aa (wpAny_load hS (af (k g d' tk acc hk (bu (av hS)) ha)))
 cases f with
 | done f =>
  obtain ⟨g,d',tk,acc,c,e,rfl,hk,hS,ha⟩:=x
  cases e
  exact last g d' tk acc c hk hS ha
 | again c₁ =>
  refine ⟨x.1,lq x.2 fun q s₂ y=>?_⟩
  obtain ⟨g,d',tk,acc,c,rfl,rfl,hk,hS,ha⟩:=y
  exact last g d' tk acc c hk hS ha
end
noncomputable abbrev tk (ts:List Str):List Key:=ts.map Sum.inr
section
variable {prog:Program}{w:World}{A:Around}{R:Result->Shared->Prop}{I:Addr}{fp wr:List Addr}{G:Array GenState->Array GenState->Prop}{n:Nat}{P:Nat->Value->Prop}{St:Nat->Shared->Prop}{led:Bool}
theorem aN0 (W:WalksS prog w A.in1 I fp wr G n P St) (S:Addr) (hSf:S∉fp) (ts:List Str) (hn:ts.length=n) (hval:∀ i v,P i v->∃ x t,ts[i]?=some x/\v= .str x t) (hb:∀ ds:List Key,ds.Nodup->(∀ j∈ds,j∈tk ts)->ds.length<=4000) :
  ∀ (k i:Nat) (s:Shared),n - i=k->i<=n->St i s->gX prog w s.heap S (nI (dd (tk (ts.take i)))) (dd (tk (ts.take i))).length led ->
   (∀ s',Moved (S :: wr) G s s'->gX prog w s'.heap S (nI (dd (tk ts))) (dd (tk ts)).length led->R (.ok (.ret .none)) s') ->
   codeAny (model prog w) A (.builtin "set.update.loop" ⟨[.ref S,.ref I],[]⟩) R s:=by
 have hSw:S∉wr:=fun h=>hSf (W.sub _ h)
 have hsub:∀ b∈wr,b∈S :: wr:=fun b hb=>aq _ hb
 intro k
 induction k with
 | zero =>
  intro i s hk hi hst hS hR
  obtain rfl:i=n:=by lia
  refine im wc ?_
  rw [gt qp _]
  refine (show wpAny _ A.in1 (pyNext (.ref I) >>= _) _ _ s from aa (W.done s _ _ hst fun s' hm=>?_))
  rw [<- hn,bv] at hS
  refine (show wpAny _ A.in1 (ret Value.none) _ _ s' from af (hR s' (hm.mono hsub) (hS.keep fun o e=>hm.heap S _ hSw e)))
 | succ k ih =>
  intro i s hk hi hst hS hR
  have hlt:i < n:=by lia
  refine im wc ?_
  rw [gt qp _]
  refine (show wpAny _ A.in1 (pyNext (.ref I) >>= _) _ _ s from aa (W.item i s _ _ hlt hst fun v s' hP hst' hm=>?_))
  obtain ⟨x,t,hx,rfl⟩:=hval i v hP
  have his:kD (Sum.inr x) (.str x t)=true:=uX x t
  have hS':=hS.keep (h':=s'.heap) fun o e=>hm.heap S _ hSw e
  refine (show wpAny _ A.in1 (holding [Value.str x t] (setAdd S (.str x t)) >>= _) _ _ s' from aa (ii ?_))
  unfold setAdd
  refine ii (aa ((aY prog w).pyHash (k:=Sum.inr x) his ?_))
  have hroom:(dd (tk (ts.take i))).length+1 < scanBound:=by
   have:=hb (dd (tk (ts.take i))) (aY7 _) fun j hj=>by
    obtain ⟨x,m,e⟩:=cy.mp ((aA3 _ _).mp hj)
    exact cy.mpr ⟨x,iy m,e⟩
   unfold scanBound
   lia
  refine bA1 (s:={ s' with toks:=s'.toks+1 }) his rfl rfl hS' hroom fun h' hsb hS2=>?_
  have hSi:gX prog w h' S (nI (dd (tk (ts.take (i+1))))) (dd (tk (ts.take (i+1)))).length led:=by
   have e:tk (ts.take (i+1))=tk (ts.take i)++[Sum.inr x]:=by rw [List.take_succ,hx];simp [tk]
   rw [e,bE2]
   have e1:(fun j=>nI (dd (tk (ts.take i))) j || decide (j=Sum.inr x))=nI (ddS (dd (tk (ts.take i))) (Sum.inr x)):=funext fun j=>by
    rw [nq,Bool.or_eq_true,da,jN,jN]
    exact aJ7.symm
   have e2:(if nI (dd (tk (ts.take i))) (Sum.inr x)=true then (dd (tk (ts.take i))).length else (dd (tk (ts.take i))).length+1)=(ddS (dd (tk (ts.take i))) (Sum.inr x)).length:=by
    unfold ddS
    by_cases c:nI (dd (tk (ts.take i))) (Sum.inr x)=true
    ·rw [ay c,ay c]
    ·rw [ak c,ak c,am,cv]
   rw [<- e1, <- e2]
   exact hS2
  refine af ⟨ju qp _,ih (i+1) _ (by lia) hlt (W.frame _ s' _ _ hst' (jy _) fun b hb o e=>?_) hSi fun s'' hm'' hS''=>?_⟩
  ·rw [hsb.2 b (fun h:b=S=>hSf (by rw [<- h];exact hb))];exact e
  ·refine hR s'' (Moved.trans W.gtrans ((hm.mono hsub).then_heap (jy _) fun b o hb e=>?_) hm'') hS''
   rw [hsb.2 b (fun h:b=S=>hb (by rw [h];exact ao))];exact e
end
section
variable {prog:Program}{w:World}{A:Around}{E:Value->Shared->Prop}{s:Shared}
theorem aX5 (v:Value) {R:Value->Shared->Prop}(h:R (.ref s.heap.objs.size) { s with heap:=s.heap.push (fI (!mK w)) }) :
  codeAny (model prog w) A (.call (.builtin "set.__new__") ⟨[.type "set",v],[]⟩) (wants R E) s:=by
 refine codeAny_of_tree (show wpAny _ A.in1 (checkBuiltinCall "set.__new__" ⟨[.type "set",v],[]⟩ >>= fun _=>again (.builtin "set.__new__" ⟨[.type "set",v],[]⟩)) _ _ s from aa (wy (F.newCall_set_1 v) (af ⟨ju F.plain_set_new _,im F.entry_set_new ?_⟩)))
 rw [gt F.plain_set_new _]
 have z:=sub_set_self
 obtain ⟨x1,x2,x3,x4,x5⟩:=s
 unfold Builtin.«set.__new__» Builtin.Frozenset.newClass
 dsimp only
 wp_walk
 refine mi (af ?_)
 unfold newObj
 exact aa (wpAny_alloc (af (af h)))
theorem aF5 {l:Addr}{items:Array Value}{ts:List Str}{Q:Value->Shared->Prop}(hh:A.handled=none) (hl:s.heap.IsList l items) (hk:ts.length=items.size) (hi:∀ (i:Nat) (v:Value),items[i]?=some v->∃ x t,ts[i]?=some x/\v= .str x t) (hb:∀ ds:List Key,ds.Nodup->(∀ j∈ds,j∈tk ts)->ds.length<=4000)
  (q:∀ (h':Heap) (tk':Nat),gX prog w h' s.heap.objs.size (nI (dd (tk ts))) (dd (tk ts)).length (!mK w)->(∀ b o,s.heap.get? b=some o->h'.get? b=some o)->Q (.ref s.heap.objs.size) { s with heap:=h',toks:=tk' }) :
  wpAny (model prog w) A (call (.type "set") [.ref l]) Q E s:=by
 have lS:l < s.heap.objs.size:=by obtain ⟨o,e,_⟩:=hl;exact av e
 refine xN (Q₁:=fun obj t=>obj= .ref s.heap.objs.size/\t={ s with heap:=s.heap.push (fI (!mK w)) }) F.called_set (F.typeCall_set_1 _) (aX5 _ ⟨rfl,rfl⟩) ?_
 rintro _ _ ⟨rfl,rfl⟩
 have gS:(s.heap.push (fI (!mK w))).get? s.heap.objs.size=some (fI (!mK w)):=az _ rfl
 have tS:Shared.TypeIs { s with heap:=s.heap.push (fI (!mK w)) } (.ref s.heap.objs.size) "set":=⟨_,gS,rfl⟩
 have tl:(s.heap.push (fI (!mK w))).IsList l items:=hl.at fun o e=>ae _ e
 refine ⟨tS,codeAny_call_builtin F.called_set.init.plain F.entry_set_init (check_set_init_1 tS ?_)⟩
 obtain ⟨⟨oc,od,oda,osl⟩,ho,hc,n0,hd⟩:=id tl
 dsimp only at hc hd
 subst hc hd
 have f1:=F.sub_list_set;have f2:=F.sub_list_frozenset
 have f3:(Value.type "list" == Value.type "dict")=false:=by decide
 have T1:Heap.IsList (Shared.heap { s with heap:=s.heap.push (fI (!mK w)) }) l items:=tl
 unfold Builtin.«set.__init__» noKeywords Builtin.Frozenset.updateFrom
 wp_walk using lg T1
 have z1:(s.heap.push (fI (!mK w))).objs.size=s.heap.objs.size+1:=gi ..
 have hne:l≠(s.heap.push (fI (!mK w))).objs.size:=by rw [z1];exact bq (js lS)
 have hSf:s.heap.objs.size∉[(s.heap.push (fI (!mK w))).objs.size,l]:=by
  rw [z1]
  simp only [List.mem_cons,List.not_mem_nil,or_false,not_or]
  exact ⟨bq (ef _),de lS⟩
 have gS2:((s.heap.push (fI (!mK w))).push { cls:= .type "list_iterator",data:= .fields #[.ref l,.int 0 0] }).get? s.heap.objs.size=some (fI (!mK w)):=ae _ gS
 refine aN0 (led:= !mK w) (A:=A.in1.in1) ((Walks.list (show A.in1.in1.in1.handled=none from hh) _ l hne items).toS) s.heap.objs.size hSf ts hk hi hb (items.size - 0) 0 _ rfl (bj _) ⟨⟨_,az _ rfl,rfl,rfl⟩,tl.at fun o e=>ae _ e⟩
  ⟨_,_,_,_,⟨gS2,⟨rfl,rfl,rfl⟩,rfl⟩,⟨fun e he=>absurd he (by simp),fun k=>⟨fun z=>absurd z (by simp [dd,nI,tk]),(by rintro ⟨e,he,_⟩;exact absurd he (by simp))⟩⟩,⟨by decide,rfl,rfl⟩,rfl,fun z=>absurd z (by simp [dd,tk])⟩ fun s' hm hS'=>?_
 obtain ⟨h',g',d',tk',os'⟩:=s'
 obtain rfl:g'=s.gens:=hm.gens
 obtain rfl:d'=s.drawn:=hm.drawn
 obtain rfl:os'=s.os:=hm.os
 refine af (af ⟨rfl,q h' tk' hS' fun b o e=>hm.heap b o ?_ (ae _ (ae _ e))⟩)
 have bl:=av e
 rw [z1]
 simp only [List.mem_cons,List.not_mem_nil,or_false,not_or]
 exact ⟨bq bl,bq (js bl)⟩
end
noncomputable def aL3 (P:Program) (w:World) (a:Addr) (ts:List Str):HO:= .ext fun h=>gX P w h a (nI (dd (tk ts))) (dd (tk ts)).length (!mK w)
theorem nR:∀ {ts:List Str}{us:List Value},bF (ts.map V.str) us->∀ (i:Nat) (v:Value),us[i]?=some v->∃ x t,ts[i]?=some x/\v= .str x t
 | [],_,h,i,v,e=>by cases h;simp at e
 | x :: r,_,h,i,v,e=>by
  rw [dq] at h
  cases h with
  | cons h1 h2 =>
   cases i with
   | zero =>
    simp only [List.getElem?_cons_zero,Option.some.injEq] at e
    subst e
    obtain ⟨t,rfl⟩:=h1
    exact ⟨x,t,rfl,rfl⟩
   | succ i=>exact nR h2 i v (by simpa using e)
theorem aN3 {X:Cx}(P:Program) (w:World) {k:Nat}(hr:dQ k X.A) (hP:X.prog=P:=by rfl) (hw:X.w=w:=by rfl):gM X (.type "set") (fun xs H Q=>∃ (p:Addr) (ts:List Str),xs=[.ref p]/\bC X.K H p (ts.map V.str)/\(∀ ds:List Key,ds.Nodup->(∀ j∈ds,j∈tk ts)->ds.length<=4000)/\∀ a,H a=none->Q (.ref a) (aQ H a (aL3 P w a ts))):=by
 subst hP hw
 intro pins s σ H xs us Q I r h
 obtain ⟨p,ts,rfl,hp,hl,q⟩:=h
 obtain ⟨u,rfl,ru⟩:=jZ r
 cases ru
 obtain ⟨its,rv,pl,_⟩:=I.list hp
 have ln:=rv.length
 rw [ac] at ln
 refine aF5 (items:=its.toArray) (ts:=ts) hr.hd pl.isList (by rw [bt];exact ln) (fun i v e=>nR rv i v (by simpa using e)) hl fun h' tk hS kp=>?_
 refine ⟨.ref s.heap.objs.size,_,I.laid (t':=tk) (o:=aL3 X.prog X.w s.heap.objs.size ts) kp (aj _) ?_,rfl,q _ (I.hok.fresh (aj _))⟩
 refine ⟨hS,?_,fun h1 h2 F k2=>F.keep k2⟩
 obtain ⟨o,_,_,_,⟨ho,_⟩,_⟩:=hS
 exact ⟨o,ho⟩
def leS (a b:Str):Prop:=a.cps.toList<=b.cps.toList
theorem bO5 {a b:Str}(h:ltCps b.cps.toList a.cps.toList=false):leS a b:=by
 rw [ltCps_eq] at h
 exact List.not_lt.mp (uo h)
theorem aM1 {a b c:Str}(h:leS a b) (k:leS b c):leS a c:=List.le_trans h k
theorem wQ {a b:Str}(h:leS a b) (k:leS b a):a=b:=by
 have e:a.cps.toList=b.cps.toList:=List.le_antisymm h k
 cases a
 cases b
 exact fc Str.mk (Array.toList_inj.mp e)
theorem uK:∀ (p:Str) (l:List Str),risingS p l=true->(p :: l).Pairwise leS
 | p,[],_=>by simp
 | p,x :: r,h=>by
  have h:(!ltCps x.cps.toList p.cps.toList && risingS x r)=true:=h
  rw [jx] at h
  have ih:=uK x r h.2
  have px:leS p x:=bO5 (by simpa using h.1)
  refine zr.mpr ⟨fun y hy=>?_,ih⟩
  rcases cf.mp hy with e | e
  ·rw [e];exact px
  ·exact aM1 px ((zr.mp ih).1 y e)
theorem tW {l:List Str}(h:sortedS l=true):l.Pairwise leS:=by
 cases l with
 | nil=>exact List.Pairwise.nil
 | cons p r=>exact uK p r h
theorem oS {α: Type} [DecidableEq α]:∀ {l m:List α},l.Nodup->(∀ x∈l,x∈m)->m.length=l.length->l.Perm m
 | [],m,_,_,hl=>by
  have:m=[]:=eh.mp hl
  rw [this]
 | x :: r,m,nd,hs,hl=>by
  have hx:=hs x ao
  have nd:=kg.mp nd
  refine (List.Perm.cons x (oS (m:=m.erase x) nd.2 (fun y hy=>?_) ?_)).trans (List.perm_cons_erase hx).symm
  ·refine (ym fun e=>nd.1 (by rw [<- e];exact hy)).mpr (hs y (aq _ hy))
  ·rw [vw hx,hl]
   simp
theorem yF {l m:List Str}(nl:l.Nodup) (nm:m.Nodup) (h:∀ x,x∈l↔x∈m) (sl:sortedS l=true) (sm:sortedS m=true):l=m :=
 List.Perm.eq_of_pairwise (le:=leS) (fun _ _ _ _ x y=>wQ x y) (tW sl) (tW sm) ((List.perm_ext_iff_of_nodup nl nm).mpr fun x=>h x)
theorem aQ3 {prog:Program}{w:World}{es:List (Int×Value)}{ts:List Str}(h4:ElemsOf (aY prog w) es) (h5:∀ j,nI (dd (tk ts)) j=true↔∃ e∈es,(aY prog w).is j e.2=true) (hn:es.length=(dd (tk ts)).length) :
  StrsAre (es.map (·.2)) ((es.map (·.2)).map strOf)/\((es.map (·.2)).map strOf).Nodup/\∀ x,x∈(es.map (·.2)).map strOf↔x∈ts:=by
 have inr:∀ j,j∈dd (tk ts)->∃ x,x∈ts/\j=Sum.inr x:=fun j hj=>by
  obtain ⟨x,m,e⟩:=cy.mp ((aA3 _ _).mp hj)
  exact ⟨x,m,e.symm⟩
 have each:∀ e∈es,∃ x t,x∈ts/\e.2= .str x t:=fun e he=>by
  obtain ⟨⟨j,hj,_⟩,_⟩:=h4 e he
  obtain ⟨x,m,rfl⟩:=inr j (jN.mp ((h5 j).mpr ⟨e,he,hj⟩))
  rcases cG (show kD (Sum.inr x) e.2=true from hj) with ⟨i,t,z,_⟩ | ⟨y,t,z,q⟩
  ·cases z
  ·cases z;exact ⟨x,t,m,q⟩
 have A:StrsAre (es.map (·.2)) ((es.map (·.2)).map strOf):=xc _ fun v hv=>by
  obtain ⟨e,he,rfl⟩:=cy.mp hv
  obtain ⟨x,t,_,q⟩:=each e he
  exact ⟨x,t,q⟩
 have cover:∀ j∈dd (tk ts),j∈((es.map (·.2)).map strOf).map (Sum.inr:Str->Key):=fun j hj=>by
  obtain ⟨e,he,hk⟩:=(h5 j).mp (jN.mpr hj)
  obtain ⟨x,m,rfl⟩:=inr j hj
  rcases cG (show kD (Sum.inr x) e.2=true from hk) with ⟨i,t,z,_⟩ | ⟨y,t,z,q⟩
  ·cases z
  ·cases z
   refine cy.mpr ⟨x,cy.mpr ⟨e.2,cy.mpr ⟨e,he,rfl⟩,?_⟩,rfl⟩
   rw [q];rfl
 have pm:=oS (aY7 (tk ts)) cover (by rw [ac,ac,ac];exact hn)
 have nd:=pm.nodup (aY7 (tk ts))
 refine ⟨A,?_,fun x=>?_⟩
 ·rw [uy,List.pairwise_map] at nd
  rw [uy]
  exact nd.imp fun z q=>z (by rw [q])
 ·constructor
  ·intro hx
   obtain ⟨v,hv,rfl⟩:=cy.mp hx
   obtain ⟨e,he,rfl⟩:=cy.mp hv
   obtain ⟨y,t,m,q⟩:=each e he
   rw [q];exact m
  ·intro hx
   have:(Sum.inr x:Key)∈((es.map (·.2)).map strOf).map (Sum.inr:Str->Key):=cover _ ((aA3 _ _).mpr (cy.mpr ⟨x,hx,rfl⟩))
   obtain ⟨y,hy,e⟩:=cy.mp this
   cases e;exact hy
theorem mV:∀ {vs:List Value}{ss:List Str},StrsAre vs ss->bF (ss.map V.str) vs
 | [],[],_=> .nil
 | v :: vs,x :: ss,h=>by
  have e:=h.all v ao
  have q:=h.strs
  rw [dq] at q
  obtain ⟨y,t,rfl⟩:=e
  injection q with q1 q2
  cases q1
  refine .cons ⟨t,rfl⟩ (mV ?_)
  have:=xc vs fun v hv=>h.all v (aq _ hv)
  rw [q2] at this
  exact this
 | [],_ :: _,h=>by have:=h.strs;simp at this
 | _ :: _,[],h=>by have:=h.strs;simp at this
section
variable {X:Cx}{k:Nat}
theorem tU {pins:List (Addr×Obj)}{σ: St}{H:Hp}{s:Shared}{Q:VK}{h':Heap}{d':Drawn}{t:Nat}{vs:List Value}{ss:List Str}(I:aW X pins σ H s) (hS:StrsAre vs ss) (h64:vs.length < 64) (keep:∀ b o,s.heap.get? b=some o->h'.get? b=some o) (le:s.heap.objs.size<=h'.objs.size)
  (q:∀ ts':List Str,ts'.Perm ss->sortedS ts'=true->∀ l,H l=none->Q (.ref l) (aQ H l (.lst (ts'.map V.str)))) :
  wpAny (model X.prog X.w) X.A.in1 (newList vs >>= fun l=>holding [l] (call (.builtin "list.sort") [l] []) >>= fun _=>ret l) (fun fin s'=>∃ v,fin= .done (.ret v)/\EP X pins σ Q v s') X.xe { s with heap:=h',drawn:=d',toks:=t }:=by
 refine aa (wpAny_newList ?_ (by rw [jo];(exact oqx)))
 have hoL:(h'.push (seqObj "list" vs.toArray 0)).get? h'.objs.size=some (seqObj "list" vs.toArray 0):=az _ rfl
 refine aa (ii (dy slot_list_sort ⟨_,hoL,rfl⟩ entry_list_sort (list_sort_treeK strKind_oneLt hoL hS.keysOf (fun v₁ v₂ eO e=>keyKind_strs (by rw [<- e];exact hS)) h64 fun st' hp hs=>⟨_,rfl,?_⟩) (args_list_sort _)))
 obtain ⟨ss',a1,a2,a3⟩:=sorted_out_str hS hp hs
 refine af ⟨_,rfl,?_⟩
 obtain ⟨e,he⟩:=sortedHeap_at (h:=h'.push (seqObj "list" vs.toArray 0)) (vs:=vs) (out:=(arrOf st').map (·.2)) hoL
 refine ⟨.ref h'.objs.size,_,(I.draw d').laid (t':=t) (o:= .lst (ss'.map V.str)) (fun b o z=>?_) le ?_,rfl,q ss' a2 a3 _ (I.hok.fresh le)⟩
 ·have z':=keep b o z
  have hlt:=av z'
  rw [sortedHeap_old (bq hlt) (by rw [size_push'];exact js hlt)]
  exact ae _ z'
 ·refine ⟨?_,((arrOf st').map (·.2)).toList,e,mV a1,by rw [ro];exact he⟩
  rw [ac,a2.length_eq, <- hS.strs,ac]
  exact bu (aV (by (exact oqx)))
theorem vL (P:Program) (w:World) (hr:dQ k X.A) (hP:X.prog=P:=by rfl) (hw:X.w=w:=by rfl):gM X (.builtin "sorted") (fun xs H Q=>∃ (a:Addr) (ts:List Str),xs=[.ref a]/\H a=some (aL3 P w a ts)/\(∀ ds:List Str,ds.Nodup->(∀ x,x∈ds↔x∈ts)->ds.length < 64) /\
  ∀ ts':List Str,ts'.Nodup->(∀ x,x∈ts'↔x∈ts)->sortedS ts'=true->∀ l,H l=none->Q (.ref l) (aQ H l (.lst (ts'.map V.str)))):=by
 subst hP hw
 intro pins s σ H xs us Q I r h
 obtain ⟨a,ts,rfl,ha,h64,q⟩:=h
 obtain ⟨u,rfl,ru⟩:=jZ r
 cases ru
 obtain ⟨⟨o,es,ep,t,⟨x1,x2,x3⟩,⟨x4,x5⟩,⟨x6,x7,x8⟩,x9,x10⟩,_,_⟩:=(show dH X.prog X.w H s.heap a (aL3 X.prog X.w a ts) from I.hok a _ ha)
 obtain ⟨A,nd,mm⟩:=aQ3 x4 x5 (by rw [db];exact x8)
 refine vg kind_sorted plain_sorted entry_sorted (args_sorted1 _) ?_
 unfold Builtin.«sorted»
 refine aa (m:=checkCount "sorted" 1 1 _) (af ?_)
 refine aa (yG (A:=X.A.in1) x1 x2.1 x3 x7 x9 (by rw [x8];exact x10) x6 hr.hd fun h' d' tk acc keep le pm=>?_)
 have hS:StrsAre acc.toList (acc.toList.map strOf):=xc _ fun v hv=>A.all v (pm.mem_iff.mp hv)
 have pS:=pm.map strOf
 have ln:acc.toList.length=((es.toList.map (·.2)).map strOf).length:=by rw [<- pS.length_eq,ac]
 refine tU I hS (by rw [ln];exact h64 _ nd mm) keep le fun ts' p st l hl=>q ts' ((p.trans pS).symm.nodup nd) (fun x=>((p.trans pS).mem_iff).trans (mm x)) st l hl
theorem xJ (hr:dQ k X.A):gM X (.builtin "sorted") (fun xs H Q=>∃ (d:Addr) (kvs:List (Key×V)) (ts:List Str),xs=[.ref d]/\H d=some (.dK kvs)/\kvs.map (fun e=>kV e.1)=ts.map V.str/\kvs.length < 64 /\
  ∀ ts':List Str,ts'.Perm ts->sortedS ts'=true->∀ l,H l=none->Q (.ref l) (aQ H l (.lst (ts'.map V.str)))):=by
 intro pins s σ H xs us Q I r h
 obtain ⟨d,kvs,ts,rfl,hd,hk,hz,q⟩:=h
 obtain ⟨u,rfl,ru⟩:=jZ r
 cases ru
 obtain ⟨z,lo,vs,rel,o,es,ep,h1,h2,h3,h4,h5,h6⟩:=aG2 I.hok hd
 have hl:kvs.length=vs.length:=qw rel
 have sl:vs.length<=sizeLine:=by rw [<- hl];exact z
 refine vg kind_sorted plain_sorted entry_sorted (args_sorted1 _) ?_
 unfold Builtin.«sorted»
 refine aa (m:=checkCount "sorted" 1 1 _) (af ?_)
 refine aa (zR (A:=X.A.in1) (PySem.W.kdl_dict (knd:=aY X.prog X.w) (kvs:=vs) (ep:=ep) lo) hr.hd ⟨o,es,h1,h2,h3,h4,h5,h6⟩ sl fun h' tk acc hkeep le hacc=>?_)
 have al:acc.toList.length=vs.length:=by rw [db];exact hacc.1
 have hV:bF (ts.map V.str) acc.toList:=by
  refine aX0 (by rw [al, <- hk,ac,hl]) fun j u e=>?_
  obtain ⟨k,x,e1,e2⟩:=hacc.2 j u (by rw [<- ki];exact e)
  have hj:j < kvs.length:=by rw [hl];exact (bc.mp e1).1
  obtain ⟨u',e3,_⟩:=aW3 (i:=j) (k:=kvs[j].1) (v:=kvs[j].2) rel (by simp [hj])
  rw [e1] at e3
  cases e3
  refine ⟨kV kvs[j].1,?_,bH7 e2⟩
  rw [<- hk,cj,ar hj]
  rfl
 have hS:StrsAre acc.toList ts:=by
  have a1:=xc acc.toList fun v hv=>by
   obtain ⟨i,hi,rfl⟩:=yz hv
   obtain ⟨x,t,_,q⟩:=nR hV i _ (ar hi)
   exact ⟨x,t,q⟩
  have a2:acc.toList.map strOf=ts:=by
   refine vv (by rw [ac];have:=hV.length;rw [ac] at this;exact this.symm) fun i p q'=>?_
   have hi:i < acc.toList.length:=by simpa using p
   obtain ⟨x,t,e,q⟩:=nR hV i _ (ar hi)
   rw [List.getElem_map,q]
   rw [ar q'] at e
   exact (dz e).symm
  rw [a2] at a1
  exact a1
 have:=tU (d':=s.drawn) (t:=tk) I hS (by rw [al, <- hl];exact hz) hkeep le q
 exact this
end
def cF3 (td ty tx:TE):TE:=fun σ H Q=>td σ H fun x H1=>∃ a,x= .ref a/\IsD H1 a/\ty σ H1 fun y H2=>tx σ H2 fun z H3=>∃ kvs k,H3 a=some (.dK kvs)/\y=kV k/\kvs.length < sizeLine /\
 (∀ v,bP kvs k=some v->Q v H3)/\(bP kvs k=none->Q z (aQ H3 a (.dK (cX kvs k z))))
theorem aY1 {X:Cx}{pins:List (Addr×Obj)}{σ: St}{H:Hp}{s:Shared}{a:Addr}{kvs:List (Key×V)}{k:Key}{x:V}{u r:Value}{A:Around}{E:Value->Shared->Prop}{Q:VK}(I:aW X pins σ H s) (e:H a=some (.dK kvs)) (ry:bL (kV k) u) (rx:bL x r) (hz:kvs.length < sizeLine)
  (h1:∀ v,bP kvs k=some v->Q v H) (h2:bP kvs k=none->Q x (aQ H a (.dK (cX kvs k x)))):wpAny (model X.prog X.w) A (call (.builtin "dict.setdefault") [.ref a,u,r]) (EP X pins σ Q) E s:=by
 obtain ⟨z,hd,vs,rel,dd⟩:=aG2 I.hok e
 refine vm ug dd.typeIs PySem.F.entry_dict_setdefault (PySem.F.args_dict_setdefault_3 _ _ _) (kt_meets_setdefault (aY X.prog X.w) a (nU ry) hd r) ⟨vs,dd,by rw [<- rel.length];exact z,fun v' hv=>?_,fun hn h' dd' hs=>?_⟩
 ·cases l:bP kvs k with
  | none =>
   have q:valueAt vs k=none:=jE.none_of (by rw [<- l];exact rel.val k)
   rw [q] at hv;cases hv
  | some v =>
   obtain ⟨w',hw,rw'⟩:=jE.some_of (v:=v) (o:=valueAt vs k) (by rw [<- l];exact rel.val k)
   rw [hw] at hv
   cases hv
   exact ⟨v,H,I.tok _,rw',h1 v l⟩
 ·cases l:bP kvs k with
  | some v =>
   obtain ⟨w',hw,rw'⟩:=jE.some_of (v:=v) (o:=valueAt vs k) (by rw [<- l];exact rel.val k)
   rw [hn] at hw;cases hw
  | none =>
   have hl:(cX kvs k x).length<=sizeLine:=by have:=bS kvs k x;lia
   have he:∃ q,h'.get? a=some q:=by obtain ⟨q,_,_,hq,_⟩:=dd';exact ⟨q,hq⟩
   exact ⟨x,_,pM I (by rw [e];exact ir) hs he (aB9 hl hd (rel.put k rx) dd'),rx,h2 l⟩
theorem bD1 {X:Cx}{o e f:Expr}{apos cpos:Pos}{td ty tx:TE}(ho:PE X o td) (he:PE X e ty) (hf:PE X f tx) (m:M2 X o "setdefault" apos e f cpos):PE X (.Call (.Attribute o "setdefault" apos) [e,f] [] cpos) (cF3 td ty tx):=by
 intro pins s σ H Q I h
 refine vb m.base m.few m.line qm ug PySem.F.type_dict_setdefault (cW (ho pins s σ H _ I h) ?_);rintro u s1 ⟨x,H1,I1,rx,a,ex,d,q1⟩
 subst ex
 obtain rfl:u=Value.ref a:=rx
 obtain ⟨t1,t2,_⟩:=aV6 I1 d
 refine ⟨t1,t2,?_⟩
 rw [m.trees]
 refine jz rfl (ow (ge (cW (he pins s1 σ H1 _ I1 q1) ?_)));rintro iv s2 ⟨y,H2,I2,ry,q2⟩;refine ge (cW (hf pins s2 σ H2 _ I2 q2) ?_);rintro fv s3 ⟨z,H3,I3,rz,kvs,k,ea,ey,hz,q3,q4⟩;refine jb ?_
 subst ey
 exact aY1 I3 ea ry rz hz q3 q4
end L2
namespace PySem
namespace F
end F
end PySem
namespace PySem
section
variable {prog:Program}{w:World}{A:Around}{E:Value->Shared->Prop}{s:Shared}
end
end PySem
namespace L2
open PySem PySem.Spec PyProof.Rows
section
variable {prog:Program}{w:World}{A:Around}{E:Value->Shared->Prop}{Q:Value->Shared->Prop}{s:Shared}{it p:Addr}{items:Array Value}
end
open PySem
theorem gG {H:Hp}{l:Addr}(h:H l=none) (o:HO):∃ H2,aQ H l o=H2/\aS H H2/\H2 l=some o:=⟨_,rfl,aB h o,aD⟩
theorem jF:1<=sizeLine:=by decide
theorem bM:2<=sizeLine:=by decide
end L2
namespace Mine
open PySem L2
noncomputable def gI (a b:Int):Int:=(Nat.gcd a.toNat b.toNat:Nat)
noncomputable def fH (a b:Int):Int:=a / gI a b
noncomputable def eM (a b:Int):Int:=b / gI a b
theorem qN {a b:Int}(hb:1<=b):0 < gI a b:=by
 have:0 < Nat.gcd a.toNat b.toNat:=vx _ (by lia);unfold gI;lia
theorem bR1 {a b c:Int}(ha:0<=a) (hb:0<=b) (hc:0<=c):gI (c * a) (c * b)=c * gI a b:=by
 obtain ⟨x,rfl⟩:=gc ha;obtain ⟨y,rfl⟩:=gc hb;obtain ⟨z,rfl⟩:=gc hc;unfold gI;rw [<- sk, <- sk,cq,cq,cq,cq,Nat.gcd_mul_left,sk]
theorem aJ0 {a b c:Int}(ha:0<=a) (hb:1<=b) (hc:1<=c):fH (c * a) (c * b)=fH a b/\eM (c * a) (c * b)=eM a b:=by
 unfold fH eM;rw [bR1 ha (by (exact oqb)) (by (exact oqb)),we _ _ (by (exact oqe)),we _ _ (by (exact oqe))];exact ⟨rfl,rfl⟩
theorem aD4 {a b c d:Int}(ha:0<=a) (hb:1<=b) (hc:0<=c) (hd:1<=d) (h:a * d=c * b):fH a b=fH c d/\eM a b=eM c d:=by
 have e1:=aJ0 ha hb hd;have e2:=aJ0 hc hd hb;have q1:d * a=b * c:=by rw [sn d a,h,sn]
 have q2:d * b=b * d:=sn _ _;rw [q1,q2] at e1;exact ⟨e1.1.symm.trans e2.1,e1.2.symm.trans e2.2⟩
theorem bH9 {a b:Int}(ha:0<=a):gI a b ∣ a:=by
 obtain ⟨x,rfl⟩:=gc ha;unfold gI;rw [cq];exact wf.mpr (Nat.gcd_dvd_left _ _)
theorem aJ2 {a b:Int}(hb:0<=b):gI a b ∣ b:=by
 obtain ⟨x,rfl⟩:=gc hb;unfold gI;rw [cq];exact wf.mpr (Nat.gcd_dvd_right _ _)
theorem oE {a b:Int}(ha:0<=a) (hb:1<=b):fH a b * b=a * eM a b:=by
 have h1:=ua (bH9 (b:=b) ha);have h2:=ua (aJ2 (a:=a) (b:=b) (by (exact oqb)));unfold fH eM;generalize a / gI a b=x at h1 ⊢;generalize b / gI a b=y at h2 ⊢;rw [<- h1, <- h2];generalize gI (x * gI a b) (y * gI a b)=g
 grind
theorem gN {a b:Int}(ha:0<=a):0<=fH a b:=Int.ediv_nonneg ha (by unfold gI;(exact ka _))
theorem jB {a b:Int}(hb:1<=b):1<=eM a b:=by
 have h2:=ua (aJ2 (a:=a) (b:=b) (by (exact oqb)));have g:=qN (a:=a) hb;unfold eM;generalize b / gI a b=y at h2 ⊢
 by_cases z:0 < y
 ·lia
 ·have:=di (show 0<= -y by lia) (iq g);rw [Int.neg_mul] at this
  lia
theorem aK8 {a b:Int}(ha:0<=a) (hb:1<=b):fH a b<=a:=Int.ediv_le_self _ ha
theorem aK2 {a b:Int}(hb:1<=b):eM a b<=b:=Int.ediv_le_self _ (by (exact oqb))
theorem bF0 {a b:Int}(ha:0<=a) (hb:1<=b):fH (fH a b) (eM a b)=fH a b/\eM (fH a b) (eM a b)=eM a b:=by
 have:=aD4 (gN (b:=b) ha) (jB (a:=a) hb) ha hb (by rw [oE ha hb]);exact this
noncomputable def shN (p q:Int) (n:Nat):Int:=(q - p) * p ^ n
noncomputable def oW (p q:Int) (n:Nat):Int:=(q+p) * q ^ n
noncomputable def wS (p q:Int) (n:Nat):Int:=q * p ^ n
noncomputable def tN (p q k:Int):Int:=if 0<=k then wS p q k.toNat else oW p q (1 - k).toNat - wS p q (1 - k).toNat
noncomputable def tD (p q k:Int):Int:=if 0<=k then oW p q k.toNat else oW p q (1 - k).toNat
noncomputable def lD (p q k:Int):Int:=if k < 1 - k then oW p q (1 - k).toNat else oW p q k.toNat
theorem aB0 {p q:Int}(hp:0<=p) (h:p<=q):∀ n:Nat,p ^ n<=q ^ n
 | 0=>by simp
 | n+1=>by
  rw [jp,jp];exact xp (aB0 hp h n) h hp (fz (by lia))
theorem aI3 {p q:Int}(hp:1<=p) (h:p < q) (n:Nat):wS p q n<=oW p q n:=by
 unfold wS oW;have h1:=aB0 (p:=p) (q:=q) (by (exact oqb)) (by (exact iq ‹_›)) n;have h2:0<=p ^ n:=fz (by (exact oqb));exact xp (by lia) h1 h2 (by lia)
theorem aK4 {p q:Int}(hp:1<=p) (h:p < q) (n:Nat):1<=oW p q n:=by
 have h1:0 < q ^ n:=xf (by lia);have:=gu (show 0 < q+p by lia) h1;unfold oW;lia
theorem bJ6 {p q:Int}(hp:1<=p) (h:p < q) (n:Nat):0<=wS p q n:=di (by lia) (fz (by (exact oqb)))
theorem cB1 {p q:Int}(hp:1<=p) (h:p < q) (k:Int):0<=tN p q k:=by
 unfold tN;split
 ·exact bJ6 hp h _
 ·have:=aI3 hp h (1 - k).toNat;(exact oqn)
theorem bQ0 {p q:Int}(hp:1<=p) (h:p < q) (k:Int):1<=tD p q k:=by
 unfold tD;split <;> exact aK4 hp h _
theorem bS2 {a b:Int}(ha:a<=b) (hb:1<=b):fH a b<=eM a b:=Int.ediv_le_ediv (qN hb) ha
theorem yS {x y:Int}(hx:0<=x) (hy:0 < y):gI y (x % y)=gI x y:=by
 obtain ⟨m,rfl⟩:=gc hx;obtain ⟨n,rfl⟩:=gc (iq hy);unfold gI;rw [<- Int.natCast_emod,cq,cq,cq,zt m n,Nat.gcd_rec n m,zt]
theorem aI6 {x:Int}(hx:0<=x):gI x 0=x:=by
 unfold gI;simp
 lia
theorem bK4 {a b:Int}(hb:1<=b):gI a b<=b:=by
 have:Nat.gcd a.toNat b.toNat<=b.toNat:=Nat.gcd_le_right _ (by lia);unfold gI;lia
theorem aD2 {a:Int}{n:Nat}(h0:0<=a) (h9:a<=9) (hn:n<=21):0<=a ^ n/\a ^ n < 2 ^ 67:=by
 refine ⟨fz h0,?_⟩;have h1:=aB0 h0 h9 n;obtain ⟨m,hm⟩:∃ m,n+m=21:=⟨21 - n,by lia⟩
 have h2:(9:Int) ^ 21=9 ^ n * 9 ^ m:=by rw [<- hm,Int.pow_add]
 have h3:(1:Int)<=9 ^ m:=by have:(0:Int) < 9 ^ m:=xf (by decide);lia
 have h4:(0:Int)<=9 ^ n:=fz (by decide);have h5:(9:Int) ^ n * 1<=9 ^ n * 9 ^ m:=jv h3 h4;have h6:(9:Int) ^ 21 < 2 ^ 67:=by decide
 lia
theorem vX {a b:Int}{m n:Nat}(a0:0<=a) (a1:a < 2 ^ m) (b0:0<=b) (b1:b < 2 ^ n):0<=a * b/\a * b < 2 ^ (m+n):=by
 refine ⟨di a0 b0,?_⟩;rw [Int.pow_add];have hp:(0:Int) < 2 ^ n:=xf (by decide);have h1:a * b<=a * 2 ^ n:=jv (iq b1) a0;have h2:a * 2 ^ n < 2 ^ m * 2 ^ n:=Int.mul_lt_mul_of_pos_right a1 hp
 lia
structure vB (p q:Int):Prop where
 p1:1<=p
 pq:p < q
 q9:q<=9
noncomputable def fO (H:Hp) (p:Addr) (a b:Int):Prop:=H p=some (.tup [.int a,.int b])
theorem tJ (a b:Int):jH [V.int a,V.int b] 0=some (.int a):=rfl
theorem nV (a b:Int):jH [V.int a,V.int b] 1=some (.int b):=rfl
noncomputable def cN0 (a b:Int):List V:=[.int (fH a b),.int (eM a b)]
noncomputable def B72 (a:Int):Prop:=0<=a/\a < 2 ^ 180
theorem B72.below {a:Int}(h:B72 a):zX a:=⟨by have:=h.1;(exact oqe),by have:=h.2;lia⟩
theorem cA9 {p q:Int}(s:vB p q) {n:Nat}(hn:n<=21):B72 (shN p q n)/\B72 (oW p q n)/\B72 (wS p q n):=by
 obtain ⟨h1,h2,h3⟩:=s;have e1:=aD2 (a:=p) (by (exact oqb)) (by lia) hn;have e2:=aD2 (a:=q) (by lia) (by assumption) hn;have q1:=vX (a:=q - p) (m:=5) (by lia) (by lia) e1.1 e1.2;have q2:=vX (a:=q+p) (m:=5) (by lia) (by lia) e2.1 e2.2;have q3:=vX (a:=q) (m:=5) (by lia) (by (exact oqc)) e1.1 e1.2;have up:(2:Int) ^ (5+67) < 2 ^ 180:=by decide
 exact ⟨⟨q1.1,zu q1.2 up⟩,⟨q2.1,zu q2.2 up⟩,⟨q3.1,zu q3.2 up⟩⟩
theorem bR7 {a b:Int}(ha:B72 a) (hb:B72 b) (h1:1<=b):B72 (fH a b)/\B72 (eM a b):=by
 have q1:=gN (b:=b) ha.1;have q2:=jB (a:=a) h1;have q3:=aK8 ha.1 h1;have q4:=aK2 (a:=a) h1;have:=ha.2;have:=hb.2;exact ⟨⟨q1,by lia⟩,⟨by (exact oqb),by lia⟩⟩
theorem pN {H H':Hp}{d l p:Addr}{xs:List V}(D:dX H d l) (o:eP d l H H') (h:H p=some (.tup xs)):H' p=some (.tup xs):=by
 obtain ⟨sd,n,ls,D⟩:=D;exact o _ _ h (dD h D.dc (by intro z;cases z)) (dD h D.lc (by intro z;cases z))
noncomputable def spGcd:Sp:=fun vs H Q _=>∃ a b:Int,vs=[.int a,.int b]/\0<=a/\0<=b/\Q (.int (gI a b)) H
noncomputable def spMinus:Sp:=fun vs H Q _=>∃ (p q:Addr) (a b c d:Int),vs=[.ref p,.ref q]/\fO H p a b/\fO H q c d/\B72 a/\B72 b/\B72 c/\B72 d/\1<=b/\1<=d/\c * b<=a * d/\∀ r,H r=none->Q (.ref r) (aQ H r (.tup (cN0 (a * d - c * b) (b * d))))
noncomputable def bE1 (lo hi:Int) (f g:Int->Int->Int->Int):Sp:=fun vs H Q _=>∃ (st:Addr) (p q k:Int),vs=[.ref st,.int k]/\fO H st p q/\vB p q/\lo<=k/\k<=hi /\
 ∀ H' r,aS H H'->fO H' r (fH (f p q k) (g p q k)) (eM (f p q k) (g p q k))->Q (.ref r) H'
noncomputable def aL2 (K:W.Frag):Sp:=fun vs H Q _=>∃ (a:Addr) (ns:List Int),vs=[.ref a]/\bC K H a (ns.map V.int)/\ns.length<=63/\∀ H',Q (.bl true) H'
noncomputable def cO {α: Type}(R:V->α->Prop):List V->List α->Prop
 | [],[]=>True
 | v :: vs,a :: as=>R v a/\cO R vs as
 | _,_=>False
theorem cO.mono {α: Type}{R R':V->α->Prop}(h:∀ v a,R v a->R' v a):∀ {vs:List V}{as:List α},cO R vs as->cO R' vs as
 | [],[],_=>trivial
 | _ :: _,_ :: _,⟨e,r⟩=>⟨h _ _ e,cO.mono h r⟩
 | [],_ :: _,z=>z.elim
 | _ :: _,[],z=>z.elim
theorem cO.append {α: Type}{R:V->α->Prop}:∀ {vs ws:List V}{as bs:List α},cO R vs as->cO R ws bs->cO R (vs++ws) (as++bs)
 | [],_,[],_,_,r=>r
 | _ :: _,_,_ :: _,_,⟨e,r⟩,r2=>⟨e,cO.append r r2⟩
 | [],_,_ :: _,_,z,_=>z.elim
 | _ :: _,_,[],_,z,_=>z.elim
theorem cO.length {α: Type}{R:V->α->Prop}:∀ {vs:List V}{as:List α},cO R vs as->vs.length=as.length
 | [],[],_=>rfl
 | _ :: _,_ :: _,⟨_,r⟩=>by simp [cO.length r]
 | [],_ :: _,z=>z.elim
 | _ :: _,[],z=>z.elim
theorem cO.rep {α: Type}{R:V->α->Prop}{K:W.Frag}{H:Hp}{f:α->PyData}(h:∀ v a,R v a->lX K H (f a) v):∀ {vs:List V}{as:List α},cO R vs as->rR K H (as.map f) vs
 | [],[],_=>rfl
 | _ :: _,_ :: _,⟨e,r⟩=>⟨_,_,rfl,h _ _ e,cO.rep h r⟩
 | [],_ :: _,z=>z.elim
 | _ :: _,[],z=>z.elim
noncomputable def TS (H H':Hp):Prop:=∀ a xs,H a=some (.tup xs)->H' a=some (.tup xs)
theorem TS.of {H H':Hp}(s:aS H H'):TS H H':=fun _ _ e=>s _ _ e
theorem TS.trans {H H1 H2:Hp}(a:TS H H1) (b:TS H1 H2):TS H H2:=fun c o h=>b c o (a c o h)
theorem TS.lst {H:Hp}{l:Addr}{xs ys:List V}(h:H l=some (.lst xs)):TS H (aQ H l (.lst ys)):=fun a o e=>by
 rw [aI (dD e h (by intro z;cases z))];exact e
theorem TS.out {H H':Hp}{d l:Addr}(D:dX H d l) (o:eP d l H H'):TS H H':=fun p xs h=>pN D o h
theorem cP {H H1:Hp}{l:Addr}{ys:List V}(s:aS H H1) (h:H l=none):aS H (aQ H1 l (.lst ys)):=fun b o e=>by
 rw [aI (aL e h)];exact s b o e
theorem aT {α: Type}{l:List α}{i:Nat}{x:α}(h:l[i]?=some x):l.take (i+1)=l.take i++[x]:=by
 rw [List.take_succ,h];rfl
theorem wU (ts:List Str):(tupleText ts).length<=piled ts+3:=by
 by_cases h:ts=[]
 ·subst h;decide
 ·have e3:=wo ts h;unfold tupleText;rw [ku,ku];have e4:((("(": String):Str)).length=1:=rfl;have e5:(((if ts.length == 1 then ",)" else ")": String):Str)).length<=2:=by split <;> decide
  lia
noncomputable def eD (p q n y:Int):Int:=oW p q (y - n).natAbs
structure kF (lo hi:Int):Prop where
 a:0<=lo
 b:lo<=hi
 c:hi<=9
theorem bX8 {z:Str}{r:Int}(h0:0<=r) (h1:r < (z.length:Int)):∃ c,jH z.cps.toList r=some c:=by
 have hk:r.toNat < z.cps.toList.length:=by
  rw [db];exact (Int.toNat_lt h0).mpr h1
 have e2:((r.toNat:Nat):Int)=r:=zc h0;have q:jH z.cps.toList ((r.toNat:Nat):Int)=some z.cps.toList[r.toNat]:=fB (ar hk);rw [e2] at q;exact ⟨_,q⟩
theorem zI:∀ {zs:List Str},(∀ z∈zs,z.length=1)->(zs.map (·.length)).sum=zs.length
 | [],_=>rfl
 | z :: r,h=>by
  have h1:=h z ao;have h2:=zI fun y hy=>h y (aq z hy)
  simp only [List.map_cons,List.sum_cons,List.length_cons,h1,h2]
  lia
theorem sP (sep:Str):∀ (ys:List Str) (a:Array Nat),(ys.foldl (fun acc p=>acc++sep.cps++p.cps) a).size=a.size+(ys.map (·.length)).sum+ys.length * sep.length
 | [],a=>by simp
 | y :: r,a=>by
  rw [gm,sP sep r];simp only [Array.size_append,List.map_cons,List.sum_cons,List.length_cons,Nat.add_mul,Nat.one_mul];have e1:sep.cps.size=sep.length:=rfl;have e2:y.cps.size=y.length:=rfl
  lia
theorem bB1 (sep:Str) (ys:List Str):(Txt.join sep ys).length<=(ys.map (·.length)).sum+ys.length * sep.length:=by
 cases ys with
 | nil=>exact bj _
 | cons y r =>
  show (List.foldl (fun acc p=>acc++sep.cps++p.cps) y.cps r).size<=_;rw [sP];simp only [List.map_cons,List.sum_cons,List.length_cons,Nat.add_mul,Nat.one_mul];have e2:y.cps.size=y.length:=rfl
  lia
noncomputable def oV:List Str:=["kinds","ladder","flat","choose","first","let","tell","when","else","times","end","of"]
theorem vA:∀ xs:List Str,(xs.map V.str).all lZ=true
 | []=>rfl
 | _ :: r=>vA r
structure gW (H:Hp) (d l ls:Addr) (ts:List V):Prop where
 deal:dX H d l
 ne:ls≠l
 lst:H ls=some (.lst ts)
theorem gW.new {H:Hp}{d l ls:Addr}(D:dX H d l) (h:H ls=none):gW (aQ H ls (.lst [])) d l ls []:=by
 obtain ⟨sd,n,l',q⟩:=id D;exact ⟨D.same (aB h _),(aL q.lc h).symm,aD⟩
theorem gW.out {H H':Hp}{d l ls:Addr}{ts:List V}(S:gW H d l ls ts) (D:dX H' d l) (o:eP d l H H'):gW H' d l ls ts:=by
 refine ⟨D,S.ne,?_⟩;obtain ⟨sd,n,l',q⟩:=S.deal;exact o _ _ S.lst (dD S.lst q.dc (by intro z;cases z)) S.ne
theorem gW.same {H H':Hp}{d l ls:Addr}{ts:List V}(S:gW H d l ls ts) (s:aS H H'):gW H' d l ls ts:=⟨S.deal.same s,S.ne,s _ _ S.lst⟩
theorem gW.app {H:Hp}{d l ls:Addr}{ts:List V}(S:gW H d l ls ts) (us:List V):gW (aQ H ls (.lst us)) d l ls us:=by
 refine ⟨?_,S.ne,aD⟩;obtain ⟨sd,n,l',q⟩:=S.deal;exact ⟨sd,n,l',⟨by rw [aI (dD q.dc S.lst (by intro z;cases z))];exact q.dc,by rw [aI S.ne.symm];exact q.lc,q.s0,q.s1,q.n0,q.l0⟩⟩
end Mine
namespace L2
open PySem PySem.Spec PyProof.Rows
def bT (n:Nat) (i:Int):Prop:=i.natAbs < 2 ^ n
theorem bT.mono {m n:Nat}{i:Int}(h:bT m i) (le:m<=n):bT n i:=cm h (oz (by decide) le)
theorem bT.mul {m n:Nat}{i j:Int}(h:bT m i) (k:bT n j):bT (m+n) (i * j):=by
 unfold bT at *;rw [Int.natAbs_mul,Nat.pow_add];exact Nat.mul_lt_mul'' h k
theorem bT.add {n:Nat}{i j:Int}(h:bT n i) (k:bT n j):bT (n+1) (i+j):=by
 unfold bT at *;rw [Nat.pow_succ];have:=Int.natAbs_add_le i j
 lia
theorem bT.pow {n:Nat}{i:Int}(h:bT n i):∀ k:Nat,bT (n * k+1) (i ^ k)
 | 0=>by unfold bT;rw [mj,Nat.mul_zero];decide
 | k+1=>by
  rw [jp];exact ((bT.pow h k).mul h).mono (by rw [Nat.mul_succ];lia)
theorem bT.of {n:Nat}{i:Int}(h0:0<=i) (h1:i < 2 ^ n):bT n i:=by
 unfold bT;have e:((i.natAbs:Nat):Int)=i:=yi h0;have:((i.natAbs:Nat):Int) < ((2 ^ n:Nat):Int):=by rw [e];exact_mod_cast h1
 exact Int.ofNat_lt.mp this
def cG9 (i j:Int):Prop:=∃ m n,bT m i/\bT n j/\m<=100000/\n<=100000
theorem cN {X:Cx}:jU X (binaryOp .Mult) (rI cG9 fun i j=> .int (i * j)):=opI fun _ _ _ _ _ _ _ hc q=>by
 obtain ⟨m,n,a,b,hm,hn⟩:=hc;exact mul_int q (IntMulOk.of_bits (cu (qo a) (cu hm (by decide))) (cu (qo b) (cu hn (by decide))))
def bZ1 (i j:Int):Prop:=0 < j/\∃ n,bT n j/\n<=8990
theorem nN {X:Cx}:jU X (binaryOp .FloorDiv) (rI bZ1 fun i j=> .int (i / j)):=opI fun i j _ _ _ _ _ hc q=>by
 obtain ⟨h0,n,h1,hn⟩:=hc;refine floordiv_int (by (exact oqt)) ?_ (.inl (vp ?_))
 ·rw [uw i (by (exact iq ‹_›))];exact q
 ·have h3:j.natAbs≠0:=by lia
  exact cm ((wx h3).mpr h1) (cu hn (by decide))
theorem rN {X:Cx}(hc:X.calm=true:=by rfl):gM X (.builtin "max") (fun xs H Q=>∃ (p:Addr) (ns:List Int),xs=[.ref p]/\bC X.K H p (ns.map V.int)/\ns≠[]/\∀ i∈ns,(∀ n∈ns,n<=i)->Q (.int i) H):=by
 intro pins s σ H xs us Q I r h;obtain ⟨p,ns,rfl,hq,hne,q⟩:=h;obtain ⟨u,rfl,ru⟩:=jZ r
 cases ru
 obtain ⟨its,rv,pl,hz⟩:=I.list hq;have it:=pl.isList;have lp:p < s.heap.objs.size:=by
  obtain ⟨o,e,_⟩:=it;exact av e
 have hl:=rv.length;rw [ac] at hl;have val:∀ i v,its.toArray[i]?=some v->∃ t,v=Value.int (ns.getD i 0) t:=fun i v hv=>by
  have hi:its[i]?=some v:=by simpa using hv
  have hb:i < ns.length:=by
   have:=(bc.mp hi).1
   lia
  obtain ⟨u,hu,ru⟩:=rv.get (i:=i) (x:=V.int ns[i]) (by rw [cj,ar hb];rfl);rw [hi] at hu
  cases hu
  obtain ⟨t,e⟩:=ru;exact ⟨t,by rw [e];simp [List.getD,hb]⟩
 have hpos:0 < its.toArray.size:=by
  rw [bt, <- hl]
  cases ns with
  | nil=>exact absurd rfl hne
  | cons _ _=>simp
 refine call_max_walk (lg it ⟨s.heap.objs.size,_,_,_,_,_,_,rfl,Walks.list (A:=X.A.in1) (I.ok.hd hc) s.heap.objs.size p (bq lp) its.toArray,⟨⟨_,az _ rfl,rfl,rfl⟩,it.at fun o e=>ae _ e⟩,?_,hpos,CmpOf.ints_gt (fun i=>ns.getD i 0) val,?_⟩)
 ·intro b hb;rw [gi];rcases cf.mp hb with z | z
  ·rw [z];exact ef _
  ·have z:b=p:=by simpa using z
   rw [z];exact js lp
 ·intro v h' tk hv hk;have kept:∀ b o,s.heap.get? b=some o->h'.get? b=some o:=fun b o e=>hk b o (by
   intro z;have z:b=s.heap.objs.size:=by simpa using z
   exact absurd (av e) (by rw [z];exact gy _)) (ae _ e)
  have hv2:its.toArray[argBest (fun i j=>decide (ns.getD i 0 > ns.getD j 0)) (its.toArray.size - 1)]?=some v:=hv;have hin:argBest (fun i j=>decide (ns.getD i 0 > ns.getD j 0)) (its.toArray.size - 1) < ns.length:=by
   have:its[argBest (fun i j=>decide (ns.getD i 0 > ns.getD j 0)) (its.toArray.size - 1)]?=some v:=by simpa using hv2
   have:=(bc.mp this).1
   lia
  obtain ⟨t,rfl⟩:=val _ _ hv;refine ⟨.int _,H,I.kept kept,⟨t,rfl⟩,q _ ?_ fun n hn=>?_⟩
  ·rw [dw,ar hin];exact mh hin
  obtain ⟨i,hi,e⟩:=yn.mp hn;have:=yH (fun i=>ns.getD i 0) (its.toArray.size - 1) i (by rw [bt, <- hl];lia);rw [show ns.getD i 0=n by simp [List.getD,hi,e]] at this;exact this
end L2
namespace HT
open PySem PySem.Spec PyProof.Rows L2
section
variable {prog:Program}{w:World}{A:Around}{E:Value->Shared->Prop}{s:Shared}
theorem getItem_tuple_all {t sl:Addr}{items:Array Value}{vl vu:Value}{lo hi:Option Int}{Q:Value->Shared->Prop}(ht:IsTup s.heap t items) (hs:s.heap.IsSliceOf sl vl vu .none) (pl:IsPart vl lo) (pu:IsPart vu hi)
  (hw:sIx items.size 0 lo=0/\sIx items.size items.size hi=items.size) (h:Q (.ref t) s):wpAny (model prog w) A (getItem (.ref t) (.ref sl)) Q E s:=by
 obtain ⟨os,hos,hcs,hds⟩:=id hs;have hTs:s.TypeIs (.ref sl) "slice":=⟨os,hos,hcs⟩
 unfold getItem
 try with_reducible refine wpAny_holding ?_
 first | refine wpAny_bind (wpAny_pure ?_) | skip
 refine wpAny_bind (wpAny_sequenceKey ht.typeIs (by decide) ?_);refine wpAny_bind (wpAny_callSpecial?_slot (name:=Str.ofString "__getitem__") ht.typeIs PyProof.Rows.slot_tuple_getitem
  (wpAny_call_entry PyProof.Rows.slot_tuple_getitem ht.typeIs entry_tuple_getitem ?_ (args_tuple_getitem _ _)))
 show wpAny _ _ (Builtin.Tuple.tupleItemsOf (.ref t) >>= _) _ _ s;refine wpAny_bind (tupleItemsOf_ ht ?_);refine wpAny_bind (wpAny_typeOf hTs ?_);rw [if_pos (by decide)];refine wpAny_bind (jO hs pl pu ?_);have hyes:(((sIx items.size 0 lo:Nat):Int) == 0 && (1:Int) == 1 && (sIx items.size items.size hi - sIx items.size 0 lo) == items.size)=true:=by
  rw [hw.1,hw.2];simp
 show wpAny _ _ (if (((sIx items.size 0 lo:Nat):Int) == 0 && (1:Int) == 1 && (sIx items.size items.size hi - sIx items.size 0 lo) == items.size)=true then _ else _) _ _ s;rw [if_pos hyes];refine wpAny_bind (show wpAny _ _ (typeOf (.ref t) >>= fun _=>_) _ _ _ from wpAny_bind (wpAny_typeOf ht.typeIs (wpAny_pure ?_)));rw [if_pos (by decide)];exact wpAny_bind (wpAny_rule (wpAny_pure ⟨_,rfl,wpAny_pure h⟩))
end
end HT
namespace L2
open PySem PySem.Spec PyProof.Rows
def rSlA:V->Option Int->Option Int->Hp->VK->Prop:=fun x lo hi H Q=>∃ a xs,x= .ref a/\H a=some (.tup xs)/\∀ r H',aS H H'->H' r=some (.tup (gK xs lo hi))->Q (.ref r) H'
theorem iQ {X:Cx}:SlR X rSlA:=by
 intro pins s σ H x v vl vu lo hi sl Q I rx hs pl pu h;obtain ⟨a,xs,rfl,ha,q⟩:=h
 by_cases c:HT.sIx xs.length 0 lo=0/\HT.sIx xs.length xs.length hi=xs.length
 ·cases rx
  obtain ⟨its,r,ht,hz⟩:=I.tuple (aO.of ha);have hlen:its.toArray.size=xs.length:=by rw [bt];exact r.length.symm
  refine ⟨"tuple",_,PyProof.Rows.slot_tuple_getitem.lookup,ht.typeIs,?_⟩;refine HT.getItem_tuple_all ht hs pl pu (by rw [hlen];exact c) ⟨.ref a,H,I,rfl,q a H (aS.refl _) ?_⟩;unfold gK;rw [c.1,c.2,List.drop_zero,zw,bv];exact ha
 ·exact aX3 pins s σ H (.ref a) v vl vu lo hi sl Q I rx hs pl pu ⟨a,xs,rfl,aO.of ha,c,fun p hp=>q p _ (aB hp _) aD⟩
noncomputable abbrev mI (h:Heap) (z TI TO:Addr) (T:Addr) (f:Bool):Prop :=
 h.get? z=some { cls:= .type "zip",dict:=none,data:= .fields #[rawInt T,.bool f,.bool false,.ref TI,.ref TO],slots:= #[] }
section
variable {prog:Program}{w:World}{A:Around}{E:Value->Shared->Prop}{s:Shared}
theorem tT {z TI TO T:Addr}{f:Bool}{o:Obj}{Q:Bool->Shared->Prop}(hz:mI s.heap z TI TO T f) (hT:s.heap.get? T=some o)
  (k:∀ h',mI h' z TI TO T true->Heap.SameBut z s.heap h'->Q false { s with heap:=h' }):wpAny (model prog w) A (Builtin.SmallTypes.ownedTupleIsFree (.ref z)) Q E s:=by
 unfold Builtin.SmallTypes.ownedTupleIsFree;refine aa (gg hz rfl (x:=rawInt T) rfl ?_);show wpAny _ _ (loadIfAlive ((T:Int).toNat) >>= _) _ _ _;rw [cq];refine aa (W.kdx_alive hT ?_);simp only [Option.isNone_some,Bool.false_eq_true,if_false];refine aa (gg hz rfl (x:= .bool f) rfl ?_)
 cases f with
 | true =>
  rw [ak (show ¬ ((Value.bool true != Value.bool true)=true) from bx)];exact af (k _ hz (Heap.SameBut.refl _ _))
 | false =>
  rw [ay (show (Value.bool false != Value.bool true)=true from rfl)];refine aa (wpAny_setField_rec hz (by simp) fun h3 he3 hs3=>?_);exact af (k h3 he3 hs3)
theorem aM3 {z TI TO i1 i2 l1 l2 T:Addr}{f:Bool}{o:Obj}{k1 k2:Nat}{xs ys:Array Value}{x y:Value}{Q:Value->Shared->Prop}(D:ZipApart z TI TO i1 i2 l1 l2)
  (hz:mI s.heap z TI TO T f) (hT:s.heap.get? T=some o) (hTI:IsPair s.heap TI (.ref i1) (.ref i2))
  (h1:s.heap.IsListIter i1 l1 k1) (h2:s.heap.IsListIter i2 l2 k2) (hl1:s.heap.IsList l1 xs) (hl2:s.heap.IsList l2 ys) (hx:xs[k1]?=some x) (hy:ys[k2]?=some y)
  (hQ:∀ h',mI h' z TI TO T true->h'.IsListIter i1 l1 (k1+1)->h'.IsListIter i2 l2 (k2+1)->IsPair h' s.heap.objs.size x y->h'.objs.size=s.heap.objs.size+1 ->
   (∀ c o,c≠z->c≠i1->c≠i2->s.heap.get? c=some o->h'.get? c=some o)->Q (.ref s.heap.objs.size) { s with heap:=h' }) :
  wpAny (model prog w) A (Builtin.«zip.__next__» ⟨[.ref z],[]⟩) (fun fin s'=>∃ v,fin= .done (.ret v)/\Q v s') E s:=by
 show wpAny _ _ (field (.ref z) 2 >>= _) _ _ _;refine aa (gg hz rfl (x:= .bool false) rfl ?_);show wpAny _ _ (field (.ref z) 3 >>= _) _ _ _;refine aa (gg hz rfl (x:= .ref TI) rfl ?_);refine aa (iu hTI rfl ?_);show wpAny _ _ (Builtin.SmallTypes.ownedTupleIsFree (.ref z) >>= _) _ _ _;refine aa (tT hz hT fun h1' hz1 hs1=>?_);simp only [Bool.false_eq_true,if_false];refine aa ?_;simp only [<- Array.forIn_toList,List.forIn_cons,List.forIn_nil];refine aa (aa (ii ?_));show wpAny _ _ (Builtin.SmallTypes.nextOf (.ref i1) >>= _) _ _ _;refine aa (aX4 (h1.extBut hs1.extBut D.i1z) (hl1.extBut hs1.extBut D.l1z) hx fun h2' a1 s2=>af ?_);refine af ?_;refine aa (aa (ii ?_));show wpAny _ _ (Builtin.SmallTypes.nextOf (.ref i2) >>= _) _ _ _;refine aa (aX4 ((h2.extBut hs1.extBut D.i2z).extBut s2.extBut D.i12.symm) ((hl2.extBut hs1.extBut D.l2z).extBut s2.extBut D.l2i1) hy fun h3' a2 s3=>af ?_)
 refine af (af ?_);refine aa (wpAny_newTuple (hsz:=bM) ?_);have hsz:h3'.objs.size=s.heap.objs.size:=by rw [s3.1,s2.1,hs1.1]
 have kp:∀ c o,c≠z->c≠i1->c≠i2->s.heap.get? c=some o->h3'.get? c=some o:=fun c o c1 c3 c4 e=>s3.extBut _ _ c4 (s2.extBut _ _ c3 (hs1.extBut _ _ c1 e))
 have z3:mI h3' z TI TO T true:=s3.extBut _ _ D.i2z.symm (s2.extBut _ _ D.i1z.symm hz1);have e1:h3'.IsListIter i1 l1 (k1+1):=a1.extBut s3.extBut D.i12;refine af ⟨_,rfl,?_⟩;show Q (.ref h3'.objs.size) _;rw [hsz];refine hQ _ (ae _ z3) (e1.at fun o e=>ae _ e) (a2.at fun o e=>ae _ e) ?_ (by rw [gi,hsz]) fun c o c1 c2 c3 e=>ae _ (kp c o c1 c2 c3 e)
 rw [<- hsz];exact az _ rfl
theorem aY3 {z TI TO i1 i2 l1 l2 T:Addr}{f:Bool}{o:Obj}{k1:Nat}{xs:Array Value}{Q:Fin->Shared->Prop}(hh:A.handled=none) (D:ZipApart z TI TO i1 i2 l1 l2)
  (hz:mI s.heap z TI TO T f) (hT:s.heap.get? T=some o) (hTI:IsPair s.heap TI (.ref i1) (.ref i2))
  (h1:s.heap.IsListIter i1 l1 k1) (hl1:s.heap.IsList l1 xs) (hx:xs[k1]?=none)
  (hE:∀ h' e,(∀ c o,c≠z->c≠i1->c≠i2->s.heap.get? c=some o->h'.get? c=some o)->(∃ o,h'.get? e=some o/\o.cls= .type "StopIteration")->E (.ref e) { s with heap:=h' }) :
  wpAny (model prog w) A (Builtin.«zip.__next__» ⟨[.ref z],[]⟩) Q E s:=by
 show wpAny _ _ (field (.ref z) 2 >>= _) _ _ _;refine aa (gg hz rfl (x:= .bool false) rfl ?_);show wpAny _ _ (field (.ref z) 3 >>= _) _ _ _;refine aa (gg hz rfl (x:= .ref TI) rfl ?_);refine aa (iu hTI rfl ?_);show wpAny _ _ (Builtin.SmallTypes.ownedTupleIsFree (.ref z) >>= _) _ _ _;refine aa (tT hz hT fun h1' hz1 hs1=>?_);simp only [Bool.false_eq_true,if_false];refine aa ?_;simp only [<- Array.forIn_toList,List.forIn_cons,List.forIn_nil];refine aa (aa (ii ?_));show wpAny _ _ (Builtin.SmallTypes.nextOf (.ref i1) >>= _) _ _ _;refine aa (aE5 hh (h1.extBut hs1.extBut D.i1z) (hl1.extBut hs1.extBut D.l1z) hx fun g e s2 he=>?_);exact hE g e (fun c o c1 c3 _ x=>s2 _ _ c3 (hs1.extBut _ _ c1 x)) he
structure ZoB (h:Heap) (TI i1 i2 l1 l2:Addr) (i:Nat) (xs ys:Array Value):Prop where
 I:IsPair h TI (.ref i1) (.ref i2)
 i1:h.IsListIter i1 l1 i
 i2:h.IsListIter i2 l2 i
 l1:h.IsList l1 xs
 l2:h.IsList l2 ys
noncomputable def aC2 (h:Heap) (z TI TO i1 i2 l1 l2 S:Addr) (i:Nat) (xs ys:Array Value):Prop :=
 ZoB h TI i1 i2 l1 l2 i xs ys/\((i=0/\IsZip h z TI TO .none/\∃ a b,IsPair h TO a b)\/∃ T f o,mI h z TI TO T f/\h.get? T=some o/\T≠z/\T≠i1/\T≠i2/\T≠S)
theorem aC2.keep {h h':Heap}{z TI TO i1 i2 l1 l2 S:Addr}{i:Nat}{xs ys:Array Value}(x:aC2 h z TI TO i1 i2 l1 l2 S i xs ys) (hk:∀ b o,b≠S->h.get? b=some o->h'.get? b=some o)
  (n1:z≠S) (n2:TI≠S) (n3:TO≠S) (n4:i1≠S) (n5:i2≠S) (n6:l1≠S) (n7:l2≠S):aC2 h' z TI TO i1 i2 l1 l2 S i xs ys:=by
 obtain ⟨b,c⟩:=x;refine ⟨⟨hk _ _ n2 b.I,b.i1.at fun o e=>hk _ o n4 e,b.i2.at fun o e=>hk _ o n5 e,b.l1.at fun o e=>hk _ o n6 e,b.l2.at fun o e=>hk _ o n7 e⟩,?_⟩;rcases c with ⟨e,a,u,v,w⟩ | ⟨T,f,o,a,b,c1,c2,c3,c4⟩
 ·exact .inl ⟨e,hk _ _ n1 a,u,v,hk _ _ n3 w⟩
 ·exact .inr ⟨T,f,o,hk _ _ n1 a,hk _ _ c4 b,c1,c2,c3,c4⟩
theorem bH2 {z TI TO i1 i2 l1 l2 S:Addr}{i:Nat}{xs ys:Array Value}{x y:Value}{Q:Option Value->Shared->Prop}(D:ZipApart z TI TO i1 i2 l1 l2) (hst:aC2 s.heap z TI TO i1 i2 l1 l2 S i xs ys) (hS:S < s.heap.objs.size)
  (hx:xs[i]?=some x) (hy:ys[i]?=some y)
  (hQ:∀ h',aC2 h' z TI TO i1 i2 l1 l2 S (i+1) xs ys->IsPair h' s.heap.objs.size x y->h'.objs.size=s.heap.objs.size+1 ->
   (∀ c o,c≠z->c≠TO->c≠i1->c≠i2->s.heap.get? c=some o->h'.get? c=some o)->Q (some (.ref s.heap.objs.size)) { s with heap:=h' }) :
  wpAny (model prog w) A (pyNext (.ref z)) Q E s:=by
 obtain ⟨b,c⟩:=hst;have li1:i1 < s.heap.objs.size:=by obtain ⟨_,e,_⟩:=b.i1;exact av e
 have li2:i2 < s.heap.objs.size:=by obtain ⟨_,e,_⟩:=b.i2;exact av e
 rcases c with ⟨rfl,hz,u,v,hTO⟩ | ⟨T,f,o,hz,hT,c1,c2,c3,c4⟩
 ·refine wpAny_pyNext_zip_item D hz b.I hTO b.i1 b.i2 b.l1 b.l2 hx hy fun h' a1 a2 a3 a4 a5 a6 a7=>?_
  have lz:z < s.heap.objs.size:=av hz;exact hQ h' ⟨⟨a7 _ _ D.TIz D.TITO D.TIi1 D.TIi2 b.I,a3,a4,b.l1.at fun o e=>a7 _ o D.l1z D.l1TO D.l1i1 D.l1i2 e,b.l2.at fun o e=>a7 _ o D.l2z D.l2TO D.l2i1 D.l2i2 e⟩,
   .inr ⟨_,false,_,a1,a5,de lz,de li1,de li2,de hS⟩⟩ a5 a6 a7
 ·have hT':s.TypeIs (.ref z) "zip":=⟨_,hz,rfl⟩
  unfold pyNext;refine aa (ng (dh (name:=Str.ofString "__next__") hT' oo
   (dy oo hT' xg
    (aM3 D hz hT b.I b.i1 b.i2 b.l1 b.l2 hx hy fun h' a1 a3 a4 a5 a6 a7=>af ?_) (wg _))))
  exact hQ h' ⟨⟨a7 _ _ D.TIz D.TIi1 D.TIi2 b.I,a3,a4,b.l1.at fun o e=>a7 _ o D.l1z D.l1i1 D.l1i2 e,b.l2.at fun o e=>a7 _ o D.l2z D.l2i1 D.l2i2 e⟩,
   .inr ⟨T,true,o,a1,a7 _ _ c1 c2 c3 hT,c1,c2,c3,c4⟩⟩ a5 a6 fun c o d1 _ d3 d4 e=>a7 c o d1 d3 d4 e
theorem bE8 {z TI TO i1 i2 l1 l2 S:Addr}{i:Nat}{xs ys:Array Value}{Q:Option Value->Shared->Prop}(hh:A.handled=none) (D:ZipApart z TI TO i1 i2 l1 l2) (hst:aC2 s.heap z TI TO i1 i2 l1 l2 S i xs ys) (hx:xs[i]?=none)
  (hQ:∀ h',(∀ c o,c≠z->c≠TO->c≠i1->c≠i2->s.heap.get? c=some o->h'.get? c=some o)->Q none { s with heap:=h' }):wpAny (model prog w) A (pyNext (.ref z)) Q E s:=by
 obtain ⟨b,c⟩:=hst;rcases c with ⟨rfl,hz,u,v,hTO⟩ | ⟨T,f,o,hz,hT,c1,c2,c3,c4⟩
 ·exact wpAny_pyNext_zip_end hh D hz b.I hTO b.i1 b.i2 b.l1 b.l2 (.inl hx) hQ
 ·have hT':s.TypeIs (.ref z) "zip":=⟨_,hz,rfl⟩
  unfold pyNext;refine aa (ng (dh (name:=Str.ofString "__next__") hT' oo
   (dy oo hT' xg (aY3 hh D hz hT b.I b.i1 b.l1 hx fun h' e hk he=>?_) (wg _))))
  obtain ⟨o,ho,hc⟩:=he;refine aa (md (T:="StopIteration") (b:=true) ⟨o,ho,hc⟩ ue ?_);exact af (hQ _ fun c o d1 _ d3 d4 e=>hk c o d1 d3 d4 e)
end
structure ZoG (xs ys:Array Value) (lo:Addr) (h:Heap) (as:List Addr):Prop where
 above:∀ a∈as,lo < a
 nd:as.Nodup
 pairs:∀ (j:Nat) (a:Addr),as[j]?=some a->∃ x y,xs[j]?=some x/\ys[j]?=some y/\IsPair h a x y
section
variable {prog:Program}{w:World}{A:Around}{s:Shared}{R:Result->Shared->Prop}{xs ys:Array Value}
theorem bG2 {S z TI TO i1 i2 l1 l2:Addr}(hh:A.handled=none) (D:ZipApart z TI TO i1 i2 l1 l2) (hn:xs.size<=sizeLine) (hxy:xs.size=ys.size) (res:Value) {h₁:Heap}{lo:Addr}(gz:z<=lo) (gS:S<=lo) (gO:TO<=lo) (g1:i1<=lo) (g2:i2<=lo)
  (n1:z≠S) (n2:TI≠S) (n3:TO≠S) (n4:i1≠S) (n5:i2≠S) (n6:l1≠S) (n7:l2≠S)
  (hR:∀ h' tk acc c as,(∀ b o,b≠S->b≠z->b≠TO->b≠i1->b≠i2->h₁.get? b=some o->h'.get? b=some o)->h'.get? S=some { cls:= .type "list",dict:=none,data:= .seq acc c,slots:= #[] }->as.length=xs.size->ZoG xs ys lo h' as ->
   acc.toList=as.map Value.ref->R (.ok (.ret res)) { s with heap:=h',toks:=tk }) :
  ∀ (k i:Nat) (h:Heap) (tk c:Nat) (acc:Array Value) (as:List Addr),xs.size - i=k->i<=xs.size->aC2 h z TI TO i1 i2 l1 l2 S i xs ys->(∀ b o,b≠S->b≠z->b≠TO->b≠i1->b≠i2->h₁.get? b=some o->h.get? b=some o) ->
   h.get? S=some { cls:= .type "list",dict:=none,data:= .seq acc c,slots:= #[] }->acc.toList=as.map Value.ref->as.length=i->ZoG xs ys lo h as->lo < h.objs.size ->
   codeAny (model prog w) A (.builtin "list.extend.loop" ⟨[.ref S,.ref z,res],[]⟩) R { s with heap:=h,toks:=tk }:=by
 intro k
 induction k with
 | zero =>
  intro i h tk c acc as hk hi hst hkeep hS hacc hal hG hIs;refine im vh ?_;rw [gt io _];show wpAny _ A.in1 (pyNext (.ref z) >>= _) _ _ _;refine aa (bE8 (s:={ s with heap:=h,toks:=tk }) (A:=A.in1) hh D hst (xb (by lia)) fun h' he=>?_);refine af (hR h' tk acc c as (fun b o m1 m2 m3 m4 m5 e=>he b o m2 m3 m4 m5 (hkeep b o m1 m2 m3 m4 m5 e)) (he S _ n1.symm n3.symm n4.symm n5.symm hS) (by lia) ⟨hG.above,hG.nd,fun j a hj=>?_⟩ hacc);obtain ⟨x,y,e1,e2,e3⟩:=hG.pairs j a hj;have la:=hG.above a (be hj);exact ⟨x,y,e1,e2,he a _ (de (bz gz la)) (de (bz gO la)) (de (bz g1 la)) (de (bz g2 la)) e3⟩
 | succ k ih =>
  intro i h tk c acc as hk hi hst hkeep hS hacc hal hG hIs;have hlt:i < xs.size:=by lia
  have hx:xs[i]?=some xs[i]:=lm hlt;have hy:ys[i]?=some (ys[i]'(by lia)):=lm (by lia);have hsz:acc.size=i:=by rw [<- db,hacc,ac,hal]
  refine im vh ?_;rw [gt io _];show wpAny _ A.in1 (pyNext (.ref z) >>= _) _ _ _;refine aa (bH2 (s:={ s with heap:=h,toks:=tk }) (S:=S) D hst (av hS) hx hy fun h' hst' ht hz hkp=>?_)
  dsimp only at ht hz hkp ⊢
  have hS':=hkp S _ n1.symm n3.symm n4.symm n5.symm hS;have up:∀ b o,b≠S->h'.get? b=some o->(h'.update S (Obj.mapSeq (·.push (Value.ref h.objs.size)))).get? b=some o:=fun b o hb e=>(du _ _ (Ne.symm hb)).trans e
  have hSl:S < h.objs.size:=av hS;show wpAny _ A.in1 (updateSeq S (·.push (Value.ref h.objs.size)) >>= _) _ _ _;refine aa ?_;refine kj hS' rfl (af ⟨ju io _,ih (i+1) _ tk _ (acc.push (Value.ref h.objs.size)) (as++[h.objs.size]) (by lia) hlt (hst'.keep up n1 n2 n3 n4 n5 n6 n7)
   (fun b o m1 m2 m3 m4 m5 e=>up b o m1 (hkp b o m2 m3 m4 m5 (hkeep b o m1 m2 m3 m4 m5 e))) (dv _ hS' rfl) (by rw [vc,hacc,bm];rfl) (by rw [am,hal];rfl) ⟨?_,?_,?_⟩ ?_⟩) (by rw [hsz];(exact oqj)) (by show (acc.push (Value.ref h.objs.size)).size<=sizeLine+1;rw [Array.size_push,hsz];lia)
  ·intro a ha;rcases cg.mp ha with ha | ha
   ·exact hG.above a ha
   ·rw [ax.mp ha];exact hIs
  ·rw [oh];refine ⟨hG.nd,by simp,fun a ha b hb=>?_⟩;rw [ax.mp hb];obtain ⟨j,hj⟩:=List.mem_iff_getElem?.mp ha;obtain ⟨_,_,_,_,e⟩:=hG.pairs j a hj;exact bq (av e)
  ·intro j b hj;rcases Nat.lt_trichotomy j as.length with h1 | h1 | h1
   ·rw [vd h1] at hj;obtain ⟨x',y',e1,e2,e3⟩:=hG.pairs j b hj;have la:=hG.above b (be hj);exact ⟨x',y',e1,e2,up b _ (de (bz gS la)) (hkp b _ (de (bz gz la)) (de (bz gO la)) (de (bz g1 la)) (de (bz g2 la)) e3)⟩
   ·subst h1;have hb:h.objs.size=b:=by simpa using hj
    subst hb;exact ⟨_,_,by rw [hal];exact hx,by rw [hal];exact hy,up _ _ (de hSl) ht⟩
   ·have hnone:(as++[h.objs.size])[j]?=none:=om (by rw [am,cv];lia);rw [hnone] at hj;cases hj
  ·have e:(h'.update S (Obj.mapSeq (·.push (Value.ref h.objs.size)))).get? h.objs.size=_:=up _ _ (de hSl) ht;exact zk hIs (av e)
end
theorem aW8:typeLookup (.type "zip") "__len__"=pure none:=by rw [nu,ji];kernel_rfl
theorem aM9:typeLookup (.type "zip") "__length_hint__"=pure none:=by rw [nu,ji];kernel_rfl
section
variable {prog:Program}{w:World}{A:Around}{E:Value->Shared->Prop}{s:Shared}{xs ys:Array Value}
theorem xW {n l1 l2:Nat}{Q:Value->Shared->Prop}(hh:A.handled=none) (hn:xs.size<=sizeLine) (hxy:xs.size=ys.size)
  (hz:IsZip s.heap (n+4) (n+2) (n+3) .none) (hI:IsPair s.heap (n+2) (.ref n) (.ref (n+1))) (hO:∃ a b,IsPair s.heap (n+3) a b) (h1:s.heap.IsListIter n l1 0) (h2:s.heap.IsListIter (n+1) l2 0)
  (t1:s.heap.IsList l1 xs) (t2:s.heap.IsList l2 ys) (o1:l1 < n) (o2:l2 < n)
  (k:∀ t acc c as,(∀ (b:Addr) o,(∀ j:Nat,j < 5->b≠(n+j:Nat))->s.heap.get? b=some o->t.heap.get? b=some o)->t.gens=s.gens->t.os=s.os->t.drawn=s.drawn ->
   t.heap.get? s.heap.objs.size=some { cls:= .type "list",dict:=none,data:= .seq acc c,slots:= #[] }->as.length=xs.size->ZoG xs ys s.heap.objs.size t.heap as->acc.toList=as.map Value.ref->Q (.ref s.heap.objs.size) t) :
  wpAny (model prog w) A (call (.type "list") [.ref (n+4)]) Q E s:=by
 obtain ⟨oa,ob,hO⟩:=hO;have zl:n+4 < s.heap.objs.size:=av hz;have e:∀ i j:Nat,i≠j->(n+i:Nat)≠n+j:=fun i j h z=>by lia
 have f1:∀ i:Nat,l1≠n+i:=fun i z=>by lia
 have f2:∀ i:Nat,l2≠n+i:=fun i z=>by lia
 have b:∀ i:Nat,i<=4->(n+i:Nat) < s.heap.objs.size:=fun i h=>by lia
 have c1:l1 < s.heap.objs.size:=by lia
 have c2:l2 < s.heap.objs.size:=by lia
 have D:ZipApart (n+4) (n+2) (n+3) n (n+1) l1 l2:=⟨e 2 4 (by decide),e 3 4 (by decide),e 0 4 (by decide),e 1 4 (by decide),e 2 3 (by decide),e 2 0 (by decide),e 2 1 (by decide),e 3 0 (by decide),e 3 1 (by decide),e 0 1 (by decide),f1 4,f1 3,f1 0,f1 1,f2 4,f2 3,f2 0,f2 1⟩
 have nb:∀ i:Nat,i<=4->(n+i:Nat)≠s.heap.objs.size:=fun i h=>bq (b i h)
 refine callType_codes (Q₁:=fun o t=>o= .ref s.heap.objs.size/\t={ s with heap:=s.heap.push newL }) F.called_list (F.typeCall_list_1 _) F.entry_list_init (code_list_new _ ⟨rfl,rfl⟩) ?_;rintro _ _ ⟨rfl,rfl⟩;have hS:(s.heap.push newL).get? s.heap.objs.size=some newL:=az _ rfl;refine ⟨⟨_,hS,rfl⟩,zn _ _,?_⟩;refine aa (m:=Builtin.List.listItems (.ref s.heap.objs.size)) (aa (iu hS rfl (af ?_)));refine aa (m:=updateSeq s.heap.objs.size fun _=> #[]) (kj hS rfl (aa (wpAny_letGo ?_)));have hS2:=dv (Obj.mapSeq fun _=>(#[]:Array Value)) hS rfl;have older:∀ b o,s.heap.get? b=some o->((s.heap.push newL).update s.heap.objs.size (Obj.mapSeq fun _=>(#[]:Array Value))).get? b=some o:=fun b o e =>
  (du _ _ (de (av e))).trans (ae _ e)
 have hTz:Shared.TypeIs { s with heap:=(s.heap.push newL).update s.heap.objs.size (Obj.mapSeq fun _=>(#[]:Array Value)) } (.ref (n+4)) "zip":=⟨_,older _ _ hz,rfl⟩
 have fin:∀ (h:Heap) (tk c:Nat),(∀ b o,b≠s.heap.objs.size->s.heap.get? b=some o->h.get? b=some o)->h.get? s.heap.objs.size=some { cls:= .type "list",dict:=none,data:= .seq #[] c,slots:= #[] } ->
   codeAny (model prog w) A.in1 (.builtin "list.extend.loop" ⟨[.ref s.heap.objs.size,.ref (n+4),.none],[]⟩) (wants (fun r s2=>r=Value.none/\Q (.ref s.heap.objs.size) s2) E) { s with heap:=h,toks:=tk }:=by
  intro h tk c hk hSh;refine bG2 (prog:=prog) (w:=w) (A:=A.in1) (R:=wants (fun r s2=>r=Value.none/\Q (.ref s.heap.objs.size) s2) E) (s:=s) (xs:=xs) (ys:=ys) (h₁:=s.heap) (lo:=s.heap.objs.size) (S:=s.heap.objs.size) hh D hn hxy .none (bu (b 4 (by decide))) (aj _) (bu (b 3 (by decide))) (bu (b 0 (by decide))) (bu (b 1 (by decide))) (nb 4 (by decide)) (nb 2 (by decide)) (nb 3 (by decide)) (nb 0 (by decide)) (nb 1 (by decide)) (bq c1) (bq c2)
   (fun h' tk' acc c' as hk' hS' hl hG hacc=>⟨rfl,k _ acc c' as (fun a o hb e'=>hk' a o (bq (av e')) (hb 4 (by decide)) (hb 3 (by decide)) (hb 0 (by decide)) (hb 1 (by decide)) e') rfl rfl rfl hS' hl hG hacc⟩)
   xs.size 0 h tk c #[] [] (zw _) (bj _) ⟨⟨hk _ _ (nb 2 (by decide)) hI,h1.at fun o e=>hk _ o (nb 0 (by decide)) e,h2.at fun o e=>hk _ o (nb 1 (by decide)) e,t1.at fun o e=>hk _ o (bq c1) e,t2.at fun o e=>hk _ o (bq c2) e⟩,.inl ⟨rfl,hk _ _ (nb 4 (by decide)) hz,_,_,hk _ _ (nb 3 (by decide)) hO⟩⟩
   (fun b o m1 _ _ _ _ e=>hk b o m1 e) hSh rfl rfl ⟨(fun _ ha=>nomatch ha),uc,(fun j a hj=>by simp at hj)⟩ (av hSh)
 unfold Builtin.List.listExtendWith;refine aa (oj hTz ?_);have same:Builtin.List.listSameRef (.ref s.heap.objs.size) (.ref (n+4))=false:=by simp [Builtin.List.listSameRef];exact fun z=>nb 4 (by decide) z.symm
 rw [ak (by rw [same];decide)];refine aa (wpAny_pyIter_zip (older _ _ hz) (aa (ii ?_)));unfold Builtin.List.listLengthHint;refine aa (nt hTz aW8 ?_);refine aa (m:=specialOf (Value.ref (n+4)) (Str.ofString "__length_hint__")) (nt hTz aM9 ?_);refine af ?_;refine sj (fun _=>?_) (fun hab=>absurd (by decide) hab);refine aa (ou ?_);refine aa ?_;show wpAny _ _ (updateSeq s.heap.objs.size (·.push .none) >>= fun _=>updateSeq s.heap.objs.size (·.pop)) _ _ _;refine aa (kj hS2 rfl ?_);have hS3:=dv (Obj.mapSeq (·.push Value.none)) hS2 rfl;refine kj (hz:=by seq_fits) hS3 rfl ?_;have hS4:=dv (Obj.mapSeq (·.pop)) hS3 rfl;exact af ⟨ju io _,fin _ _ _ (fun b o hb e=>(du _ _ (Ne.symm hb)).trans ((du _ _ (Ne.symm hb)).trans (older b o e))) hS4⟩
end
theorem aD0:∀ {l:List Nat}{i:Nat}(h:i < l.length),l.Nodup->l.idxOf l[i]=i
 | [],_,h,_=>absurd h (Nat.not_lt_zero _)
 | a :: l,0,_,_=>by simp
 | a :: l,i+1,h,nd=>by
  obtain ⟨n1,n2⟩:=kg.mp nd;have hl:i < l.length:=by simpa using h
  have ne:(a == l[i])=false:=by
   rw [jd];exact fun z=>n1 (by rw [z];exact mh hl)
  rw [List.getElem_cons_succ,List.idxOf_cons,ne,aD0 hl n2];rfl
noncomputable def kU (H:Hp) (D:Addr) (as:List Addr) (xs ys:List V):Hp:=fun b=>if b=D then some (.lst (as.map V.ref)) else if b∈as then some (.tup [xs.getD (as.idxOf b) .non,ys.getD (as.idxOf b) .non]) else H b
noncomputable def aZ3 (K:W.Frag) (ta:TA):TE:=fun σ H Q=>ta σ H fun vs H1=>∃ (a b:Addr) (xs ys:List V),vs=[V.ref a,V.ref b]/\bC K H1 a xs/\bC K H1 b ys/\xs.length=ys.length /\
 ∀ (r:Addr) (zs:List V) (H':Hp),(∀ c o,H1 c=some o->H' c=some o)->H1 r=none->H' r=some (.lst zs)->zs.length=xs.length->(∀ (i:Nat) (x y:V),xs[i]?=some x->ys[i]?=some y->∃ q,zs[i]?=some (V.ref q)/\H' q=some (.tup [x,y]))->Q (V.ref r) H'
theorem aC7 {X:Cx}{a b:Expr}{ta:TA}{p1 p2 pos1 pos2:Pos}(g1:Gl X "list") (m1:X.mg "list"=none) (g2:Gl X "zip") (m2:X.mg "zip"=none) (ha:PA X [a,b] ta) (hc:X.calm=true:=by rfl)
  (hs1:starEach [.Call (.Name "zip" p2) [a,b] [] pos2] X.env=[(false,eval (.Call (.Name "zip" p2) [a,b] [] pos2) X.env)]:=by rfl) (hs:starEach [a,b] X.env=[(false,eval a X.env),(false,eval b X.env)]:=by rfl) (hs2:starEach [b] X.env=[(false,eval b X.env)]:=by rfl) :
  PE X (.Call (.Name "list" p1) [.Call (.Name "zip" p2) [a,b] [] pos2] [] pos1) (aZ3 X.K ta):=by
 intro pins s σ H Q I h;refine gj (iT I g1 m1 jf ?_);refine fh ?_ hs1 rfl;rw [hs1];refine ge (gj (iT I g2 m2 PyProof.Rows.boot_zip (fh (cW (ha pos2 pins s σ H _ I h) fun us s1 ⟨vs,H1,I1,r1,q1⟩=>?_) (by rw [hs,hs2]) (by rw [hs2];rfl))));obtain ⟨a',b',xs,ys,rfl,q1,q2,hl,q⟩:=q1;obtain ⟨u,v,rfl,ru,rv⟩:=aF8 r1
 cases ru
 cases rv
 obtain ⟨is1,v1,p1,z1⟩:=I1.list q1;obtain ⟨is2,v2,p2,z2⟩:=I1.list q2;have la:a' < s1.heap.objs.size:=by obtain ⟨_,_,e,_⟩:=p1;exact av e
 have lb:b' < s1.heap.objs.size:=by obtain ⟨_,_,e,_⟩:=p2;exact av e
 have n1:=v1.length;have n2:=v2.length;refine aO4 p1.isList p2.isList fun g Z k0=>jb ?_
 have I2:aW X pins σ H1 { s1 with heap:=g }:=I1.kept (t':=s1.toks) k0;obtain ⟨hz,hI,hO,hi1,hi2⟩:=Z;have fp:∀ j:Nat,j < 5->lW X pins H1 (s1.heap.objs.size+j):=fun j _=>I1.fpOk (ig ..) (I1.hok.fresh (ig ..))
 refine xW (n:=s1.heap.objs.size) (l1:=a') (l2:=b') (xs:=is1.toArray) (ys:=is2.toArray) (I.ok.hd hc) (by rw [bt];(exact oqN)) (by rw [bt,bt];lia) hz hI hO hi1 hi2 (p1.isList.at fun o e=>k0 _ o e) (p2.isList.at fun o e=>k0 _ o e) la lb ?_;intro t acc c as keep gens os drawn at' al G eacc;obtain ⟨D,eD⟩:∃ D,g.objs.size=D:=⟨_,rfl⟩
 have hD:g.objs.size<=D:=vi eD
 dsimp only at at' keep G ⊢
 rw [eD] at at' G ⊢;have fD:H1 D=none:=I2.hok.fresh hD;have fA:∀ x∈as,H1 x=none:=fun x hx=>I2.hok.fresh (bu (bz hD (G.above x hx)))
 have ndA:∀ x∈as,x≠D:=fun x hx=>de (G.above x hx)
 have neT:∀ b u,H1 b=some u->∀ j:Nat,j < 5->b≠(s1.heap.objs.size+j:Nat):=fun b u e j hj z=>by rw [z,(fp j hj).1] at e;cases e
 have old:∀ b u,H1 b=some u->kU H1 D as xs ys b=some u:=fun b u e=>by
  unfold kU;rw [ak (aL e fD),ak (fun hb=>by rw [fA b hb] at e;cases e)];exact e
 have non:∀ b o,g.get? b=some o->H1 b=none->kU H1 D as xs ys b=none:=fun b o e n=>by
  have lt:=av e;unfold kU;rw [ak (fun z=>absurd lt (by rw [z];exact oy.mpr hD)),ak (fun hb=>absurd lt (oy.mpr (bu (bz hD (G.above b hb)))))];exact n
 have alen:as.length=xs.length:=by rw [al,bt];lia
 have atA:∀ (i:Nat) (x y:V),xs[i]?=some x->ys[i]?=some y->∃ q,as[i]?=some q/\kU H1 D as xs ys q=some (.tup [x,y]):=fun i x y hx hy=>by
  have il:i < as.length:=by rw [alen];exact (bc.mp hx).1
  refine ⟨as[i],ar il,?_⟩;have m:as[i]∈as:=mh il;unfold kU;rw [ak (ndA _ m),ay m,aD0 il G.nd,dw,dw,hx,hy];rfl
 have out5:∀ {b:Addr},b∉[s1.heap.objs.size+0,s1.heap.objs.size+1,s1.heap.objs.size+2,s1.heap.objs.size+3,s1.heap.objs.size+4]->∀ j:Nat,j < 5->b≠(s1.heap.objs.size+j:Nat):=fun {b} hb j hj z=>by
  refine hb ?_;rw [z];obtain rfl | rfl | rfl | rfl | rfl:j=0\/j=1\/j=2\/j=3\/j=4:=by lia
  all_goals simp
 refine ⟨.ref D,kU H1 D as xs ys,I2.call' (ch:=[s1.heap.objs.size+0,s1.heap.objs.size+1,s1.heap.objs.size+2,s1.heap.objs.size+3,s1.heap.objs.size+4]) os ⟨fun b o e n _ hx=>keep b o ?_ e,fun b o e n _ hx=>⟨o.slots,keep b o ?_ e⟩,fun b o e n _=>non b o e n,fun b o e hx=>⟨o,keep b o ?_ e⟩,fun b xs e=>old _ _ e,fun b o u e=>old _ _ e,fun b ps e=>⟨#[],?_⟩⟩ (fun b u e=>?_) (by rw [gens];exact I2.bare) (fun b hb=>?_),rfl,q D (as.map V.ref) _ old fD (by unfold kU;rw [ay rfl]) (by rw [ac,alen]) fun i x y hx hy=>?_⟩
 ·exact out5 hx
 ·exact out5 hx
 ·exact out5 hx
 ·rw [old _ _ e];simp
 ·by_cases hb:b=D
  ·subst hb;unfold kU at e;rw [ay rfl] at e
   cases e
   refine ⟨by rw [ac,alen];exact z1,as.map Value.ref,c,?_,?_⟩
   ·have:∀ l:List Addr,bF (l.map V.ref) (l.map Value.ref):=fun l=>by
     induction l with
     | nil=>exact .nil
     | cons x l ih=>exact .cons rfl ih
    exact this as
   ·rw [at', <- ro (xs:=acc),eacc]
  ·by_cases ha:b∈as
   ·unfold kU at e;rw [ak hb,ay ha] at e
    cases e
    obtain ⟨i,il,ei⟩:=yn.mp ha;obtain ⟨x,y,e1,e2,e3⟩:=G.pairs i b (by rw [ar il,ei]);have ix:as.idxOf b=i:=by rw [<- ei];exact aD0 il G.nd
    have e1':is1[i]?=some x:=by simpa using e1
    have e2':is2[i]?=some y:=by simpa using e2
    obtain ⟨x',g1',r1'⟩:∃ x',xs[i]?=some x'/\bL x' x:=by
     have hl1:i < xs.length:=by rw [<- alen];exact il
     obtain ⟨u,hu,ru⟩:=v1.get (i:=i) (x:=xs[i]) (ar hl1);rw [e1'] at hu;cases hu;exact ⟨_,ar hl1,ru⟩
    obtain ⟨y',g2',r2'⟩:∃ y',ys[i]?=some y'/\bL y' y:=by
     have hl2:i < ys.length:=by rw [<- hl, <- alen];exact il
     obtain ⟨u,hu,ru⟩:=v2.get (i:=i) (x:=ys[i]) (ar hl2);rw [e2'] at hu;cases hu;exact ⟨_,ar hl2,ru⟩
    rw [ix,dw,dw,g1',g2'];exact ⟨bM,[x,y],.cons r1' (.cons r2' .nil),⟨_,e3,rfl,_,rfl,rfl⟩⟩
   ·have e':H1 b=some u:=by
     unfold kU at e;rw [ak hb,ak ha] at e;exact e
    refine (I2.hok b u e').stay (fun c' v hc' q'=>keep c' v ?_ q') (fun c' q'=>old _ _ q') fun c' xs q'=>old _ _ q'
    rcases hc' with z | z
    ·rw [z];exact neT b u e'
    ·exact neT c' _ z
 ·obtain ⟨j,hj,rfl⟩:∃ j:Nat,j < 5/\b=s1.heap.objs.size+j:=by
   simp only [List.mem_cons,List.not_mem_nil,or_false] at hb;rcases hb with z | z | z | z | z
   ·exact ⟨0,by decide,z⟩
   ·exact ⟨1,by decide,z⟩
   ·exact ⟨2,by decide,z⟩
   ·exact ⟨3,by decide,z⟩
   ·exact ⟨4,by decide,z⟩
  obtain ⟨f0,f1,f2,f3,f4,f5⟩:=fp j hj;exact ⟨f3,f1,f4,f5⟩
 ·obtain ⟨q,e1,e2⟩:=atA i x y hx hy;exact ⟨q,by rw [cj,e1];rfl,e2⟩
end L2
namespace Mine
open PySem L2
inductive Tm where
 | num (p:Addr) (n:Int)
 | nam (p:Addr) (x:Str)
 | op (p:Addr) (s:Str) (a b:Tm)
noncomputable def Tm.p:Tm->Addr
 | .num p _=>p
 | .nam p _=>p
 | .op p _ _ _=>p
noncomputable def Tm.names:Tm->List Str
 | .num _ _=>[]
 | .nam _ x=>[x]
 | .op _ _ a b=>a.names++b.names
noncomputable def Tm.size:Tm->Nat
 | .op _ _ a b=>1+a.size+b.size
 | _=>1
noncomputable def cN8:List Str:=["+","-","*","<","="]
noncomputable def pE (H:Hp):Tm->Prop
 | .num p n=>H p=some (.tup [.str "num",.int n])
 | .nam p x=>H p=some (.tup [.str "name",.str x])
 | .op p s a b=>H p=some (.tup [.str "op",.str s,.ref a.p,.ref b.p])/\pE H a/\pE H b
theorem pE.ts {H H':Hp}(t:TS H H'):∀ {a:Tm},pE H a->pE H' a
 | .num _ _,h=>t _ _ h
 | .nam _ _,h=>t _ _ h
 | .op _ _ _ _,⟨h,ha,hb⟩=>⟨t _ _ h,pE.ts t ha,pE.ts t hb⟩
noncomputable def Tm.w:Tm->Str
 | .num _ _=>"num"
 | .nam _ _=>"name"
 | .op _ _ _ _=>"op"
noncomputable def Tm.rest:Tm->List V
 | .num _ n=>[.int n]
 | .nam _ x=>[.str x]
 | .op _ s a b=>[.str s,.ref a.p,.ref b.p]
theorem pE.at {H:Hp}:∀ {t:Tm},pE H t->H t.p=some (.tup (.str t.w :: t.rest))
 | .num _ _,h=>h
 | .nam _ _,h=>h
 | .op _ _ _ _,h=>h.1
theorem Tm.size_pos:∀ t:Tm,1<=t.size
 | .num _ _=>aj _
 | .nam _ _=>aj _
 | .op _ _ _ _=>by unfold Tm.size;lia
noncomputable def Tm.pre:Tm->List Tm
 | .num p n=>[.num p n]
 | .nam p x=>[.nam p x]
 | .op p s a b=> .op p s a b :: (a.pre++b.pre)
theorem Tm.pre_len:∀ t:Tm,t.pre.length=t.size
 | .num _ _=>rfl
 | .nam _ _=>rfl
 | .op _ _ a b=>by simp only [Tm.pre,Tm.size,List.length_cons,List.length_append,Tm.pre_len a,Tm.pre_len b];lia
theorem pE.pre {H:Hp}:∀ {t:Tm},pE H t->∀ u∈t.pre,pE H u
 | .num _ _,h,u,hu=>by rw [ax.mp hu];exact h
 | .nam _ _,h,u,hu=>by rw [ax.mp hu];exact h
 | .op _ _ _ _,h,u,hu=>by
  rcases cf.mp hu with e | e
  ·rw [e];exact h
  ·rcases cg.mp e with e | e
   ·exact pE.pre h.2.1 u e
   ·exact pE.pre h.2.2 u e
inductive Thw where
 | lad (p q lo hi:Int)
 | fla (r lo hi:Int)
 | cho (p q lo hi:Int)
 | fst (pa qa pb qb mk lo hi:Int)
noncomputable def Thw.wd:Thw->Str
 | .lad .. =>"ladder"
 | .fla .. =>"flat"
 | .cho .. =>"choose"
 | .fst .. =>"first"
noncomputable def Thw.one:Thw->Bool
 | .lad .. =>true
 | .fla .. =>true
 | .cho .. =>false
 | .fst .. =>false
structure tY (p q:Int):Prop where
 st:vB p q
 co:Nat.gcd p.toNat q.toNat=1
noncomputable def Thw.Ok:Thw->Prop
 | .lad p q _ _=>tY p q
 | .fla r _ _=>0<=r/\r<=4
 | .cho p q _ _=>tY p q
 | .fst pa qa pb qb mk _ hi=>tY pa qa/\tY pb qb/\0<=hi - mk/\hi - mk<=9
structure TD where
 vs:List V
 T:Thw
 wss:List (List Int)
 kd:Nat
noncomputable def pG (H:Hp) (v:V) (ws:List Int):Prop:=∃ a,v= .ref a/\H a=some (.tup (ws.map V.int))
theorem pG.ts {H H':Hp}{v:V}{ws:List Int}(t:TS H H') (h:pG H v ws):pG H' v ws:=by obtain ⟨a,e,q⟩:=h;exact ⟨a,e,t _ _ q⟩
noncomputable def aO1 (H:Hp) (d:TD):Prop:=match d.T with
 | .lad p q lo hi=>∃ w ws st,d.vs=[.ref w,.ref st,.int lo,.int hi]/\d.wss=[ws]/\H w=some (.tup (ws.map V.int))/\fO H st p q
 | .fla r lo hi=>∃ w ws,d.vs=[.ref w,.int r,.int lo,.int hi]/\d.wss=[ws]/\H w=some (.tup (ws.map V.int))
 | .cho p q lo hi=>∃ sm us st,d.vs=[.ref sm,.ref st,.int lo,.int hi]/\H sm=some (.tup us)/\cO (pG H) us d.wss/\fO H st p q
 | .fst pa qa pb qb mk lo hi=>∃ sm us sa sb,d.vs=[.int mk,.ref sa,.ref sb,.ref sm,.int lo,.int hi]/\H sm=some (.tup us)/\cO (pG H) us d.wss/\fO H sa pa qa/\fO H sb pb qb
theorem aO1.ts {H H':Hp}(t:TS H H') {d:TD}(h:aO1 H d):aO1 H' d:=by
 obtain ⟨vs,T,wss,kd⟩:=d
 cases T with
 | lad p q lo hi=>obtain ⟨w,ws,st,a,b,c,e⟩:=h;exact ⟨w,ws,st,a,b,t _ _ c,t _ _ e⟩
 | fla r lo hi=>obtain ⟨w,ws,a,b,c⟩:=h;exact ⟨w,ws,a,b,t _ _ c⟩
 | cho p q lo hi=>obtain ⟨sm,us,st,a,b,c,e⟩:=h;exact ⟨sm,us,st,a,t _ _ b,c.mono fun _ _ z=>z.ts t,t _ _ e⟩
 | fst pa qa pb qb mk lo hi=>obtain ⟨sm,us,sa,sb,a,b,c,e,f⟩:=h;exact ⟨sm,us,sa,sb,a,t _ _ b,c.mono fun _ _ z=>z.ts t,t _ _ e,t _ _ f⟩
structure bD9 (d:TD):Prop where
 l1:1<=d.wss.length
 l4:d.wss.length<=4
 ws:∀ ws∈d.wss,ws.length=d.kd/\∀ y∈ws,0<=y/\y<=3
inductive Rw where
 | thr (p:Addr) (w x:Str) (vs:TD)
 | lt (p:Addr) (x:Str) (t:Tm)
 | tell (p:Addr) (t:Tm)
 | when (p pa pb:Addr) (t:Tm) (a b:List Rw)
 | times (p pb:Addr) (n:Int) (b:List Rw)
noncomputable def Rw.p:Rw->Addr
 | .thr p _ _ _=>p
 | .lt p _ _=>p
 | .tell p _=>p
 | .when p _ _ _ _ _=>p
 | .times p _ _ _=>p
noncomputable def dY:List Str:=["ladder","flat","choose","first"]
structure iP (H:Hp) (w:Str) (d:TD):Prop where
 wd:w=d.T.wd
 ok:d.T.Ok
 at':aO1 H d
 ws:bD9 d
theorem iP.ts {H H':Hp}(t:TS H H') {w:Str}{vs:TD}(h:iP H w vs):iP H' w vs:=⟨h.wd,h.ok,h.at'.ts t,h.ws⟩
theorem Thw.wd_in:∀ T:Thw,T.wd∈dY
 | .lad .. =>by show ("ladder": Str)∈dY;decide +kernel
 | .fla .. =>by show ("flat": Str)∈dY;decide +kernel
 | .cho .. =>by show ("choose": Str)∈dY;decide +kernel
 | .fst .. =>by show ("first": Str)∈dY;decide +kernel
theorem iP.w {H:Hp}{w:Str}{vs:TD}(h:iP H w vs):w∈dY:=by rw [h.wd];exact Thw.wd_in _
mutual
noncomputable def fE (H:Hp):Rw->Prop
 | .thr p w x vs=>H p=some (.tup (.str w :: .str x :: vs.vs))/\iP H w vs
 | .lt p x t=>H p=some (.tup [.str "let",.str x,.ref t.p])/\pE H t
 | .tell p t=>H p=some (.tup [.str "tell",.ref t.p])/\pE H t
 | .when p pa pb t a b=>H p=some (.tup [.str "when",.ref t.p,.ref pa,.ref pb])/\pE H t/\H pa=some (.tup (a.map fun r=>V.ref r.p))/\H pb=some (.tup (b.map fun r=>V.ref r.p))/\bN H a/\bN H b
 | .times p pb n b=>H p=some (.tup [.str "times",.int n,.ref pb])/\H pb=some (.tup (b.map fun r=>V.ref r.p))/\bN H b
noncomputable def bN (H:Hp):List Rw->Prop
 | []=>True
 | r :: rs=>fE H r/\bN H rs
end
mutual
theorem fE.ts {H H':Hp}(t:TS H H'):∀ (r:Rw),fE H r->fE H' r
 | .thr _ _ _ _,⟨h,k⟩=>⟨t _ _ h,k.ts t⟩
 | .lt _ _ _,⟨h,h2⟩=>⟨t _ _ h,h2.ts t⟩
 | .tell _ _,⟨h,h2⟩=>⟨t _ _ h,h2.ts t⟩
 | .when _ _ _ _ a b,⟨h,h2,h4,h5,h6,h7⟩=>⟨t _ _ h,h2.ts t,t _ _ h4,t _ _ h5,bN.ts t a h6,bN.ts t b h7⟩
 | .times _ _ _ b,⟨h,h2,h3⟩=>⟨t _ _ h,t _ _ h2,bN.ts t b h3⟩
theorem bN.ts {H H':Hp}(t:TS H H'):∀ (rs:List Rw),bN H rs->bN H' rs
 | [],_=>trivial
 | r :: rs,⟨h,k⟩=>⟨fE.ts t r h,bN.ts t rs k⟩
end
theorem bN.app {H:Hp}:∀ {rs qs:List Rw},bN H rs->bN H qs->bN H (rs++qs)
 | [],_,_,h=>h
 | _ :: _,_,⟨h,k⟩,h2=>⟨h,bN.app k h2⟩
theorem bN.mem {H:Hp}:∀ {rs:List Rw},bN H rs->∀ r∈rs,fE H r
 | [],_,_,h=>absurd h au
 | r :: rs,⟨h,k⟩,x,hx=>by
  rcases cf.mp hx with e | e
  ·rw [e];exact h
  ·exact bN.mem k x e
noncomputable def Rw.w:Rw->Str
 | .thr _ w _ _=>w
 | .lt _ _ _=>"let"
 | .tell _ _=>"tell"
 | .when _ _ _ _ _ _=>"when"
 | .times _ _ _ _=>"times"
noncomputable def Rw.rest:Rw->List V
 | .thr _ _ x vs=> .str x :: vs.vs
 | .lt _ x t=>[.str x,.ref t.p]
 | .tell _ t=>[.ref t.p]
 | .when _ pa pb t _ _=>[.ref t.p,.ref pa,.ref pb]
 | .times _ pb n _=>[.int n,.ref pb]
theorem fE.at {H:Hp}:∀ {r:Rw},fE H r->H r.p=some (.tup (.str r.w :: r.rest))
 | .thr _ _ _ _,h=>h.1
 | .lt _ _ _,h=>h.1
 | .tell _ _,h=>h.1
 | .when _ _ _ _ _ _,h=>h.1
 | .times _ _ _ _,h=>h.1
mutual
noncomputable def Rw.cnt:Rw->Nat
 | .when _ _ _ _ a b=>1+(bY a+bY b)
 | .times _ _ _ b=>1+bY b
 | .thr _ _ _ _=>1
 | .lt _ _ _=>1
 | .tell _ _=>1
noncomputable def bY:List Rw->Nat
 | []=>0
 | r :: rs=>r.cnt+bY rs
end
theorem jK:∀ (rs qs:List Rw),bY (rs++qs)=bY rs+bY qs
 | [],qs=>by simp [bY]
 | r :: rs,qs=>by simp only [List.cons_append,bY,jK rs qs];lia
theorem Rw.cnt_pos:∀ r:Rw,1<=r.cnt
 | .thr _ _ _ _=>aj _
 | .lt _ _ _=>aj _
 | .tell _ _=>aj _
 | .when _ _ _ _ _ _=>by unfold Rw.cnt;(exact oqI)
 | .times _ _ _ _=>by unfold Rw.cnt;(exact oqI)
theorem jX:∀ rs:List Rw,rs.length<=bY rs
 | []=>bj _
 | r :: rs=>by have:=jX rs;have:=r.cnt_pos;simp only [List.length_cons,bY];lia
mutual
noncomputable def Rw.flat:Rw->List Rw
 | .when p pa pb t a b=> .when p pa pb t a b :: (bE a++bE b)
 | .times p pb n b=> .times p pb n b :: bE b
 | .thr p w x vs=>[.thr p w x vs]
 | .lt p x t=>[.lt p x t]
 | .tell p t=>[.tell p t]
noncomputable def bE:List Rw->List Rw
 | []=>[]
 | r :: rs=>r.flat++bE rs
end
noncomputable def Rw.kids:Rw->List Rw
 | .when _ _ _ _ a b=>a++b
 | .times _ _ _ b=>b
 | .thr _ _ _ _=>[]
 | .lt _ _ _=>[]
 | .tell _ _=>[]
theorem iA:∀ (rs qs:List Rw),bE (rs++qs)=bE rs++bE qs
 | [],qs=>by simp [bE]
 | r :: rs,qs=>by simp only [List.cons_append,bE,iA rs qs,List.append_assoc]
theorem vQ:∀ r:Rw,r.flat=r :: bE r.kids
 | .when _ _ _ _ a b=>by simp only [Rw.flat,Rw.kids,iA]
 | .times _ _ _ b=>by simp only [Rw.flat,Rw.kids]
 | .thr _ _ _ _=>by simp only [Rw.flat,Rw.kids,bE]
 | .lt _ _ _=>by simp only [Rw.flat,Rw.kids,bE]
 | .tell _ _=>by simp only [Rw.flat,Rw.kids,bE]
theorem bB5:∀ r:Rw,r.cnt=1+bY r.kids
 | .when _ _ _ _ a b=>by simp only [Rw.cnt,Rw.kids,jK]
 | .times _ _ _ b=>by simp only [Rw.cnt,Rw.kids]
 | .thr _ _ _ _=>by simp only [Rw.cnt,Rw.kids,bY]
 | .lt _ _ _=>by simp only [Rw.cnt,Rw.kids,bY]
 | .tell _ _=>by simp only [Rw.cnt,Rw.kids,bY]
theorem fE.kids {H:Hp}:∀ {r:Rw},fE H r->bN H r.kids
 | .when _ _ _ _ _ _,h=>bN.app h.2.2.2.2.1 h.2.2.2.2.2
 | .times _ _ _ _,h=>h.2.2
 | .thr _ _ _ _,_=>trivial
 | .lt _ _ _,_=>trivial
 | .tell _ _,_=>trivial
mutual
theorem bB9:∀ r:Rw,r.flat.length=r.cnt
 | .when _ _ _ _ a b=>by simp only [Rw.flat,Rw.cnt,List.length_cons,List.length_append,eY a,eY b];lia
 | .times _ _ _ b=>by simp only [Rw.flat,Rw.cnt,List.length_cons,eY b];lia
 | .thr _ _ _ _=>by simp only [Rw.flat,Rw.cnt,List.length_cons,List.length_nil]
 | .lt _ _ _=>by simp only [Rw.flat,Rw.cnt,List.length_cons,List.length_nil]
 | .tell _ _=>by simp only [Rw.flat,Rw.cnt,List.length_cons,List.length_nil]
theorem eY:∀ rs:List Rw,(bE rs).length=bY rs
 | []=>rfl
 | r :: rs=>by simp only [bE,bY,List.length_append,bB9 r,eY rs]
end
mutual
theorem fE.flat {H:Hp}:∀ (r:Rw),fE H r->bN H r.flat
 | .when p pa pb t a b,h=>by
  simp only [Rw.flat];exact ⟨h,bN.app (bN.flat a h.2.2.2.2.1) (bN.flat b h.2.2.2.2.2)⟩
 | .times p pb n b,h=>by
  simp only [Rw.flat];exact ⟨h,bN.flat b h.2.2⟩
 | .thr _ _ _ _,h=>by simp only [Rw.flat];exact ⟨h,trivial⟩
 | .lt _ _ _,h=>by simp only [Rw.flat];exact ⟨h,trivial⟩
 | .tell _ _,h=>by simp only [Rw.flat];exact ⟨h,trivial⟩
theorem bN.flat {H:Hp}:∀ (rs:List Rw),bN H rs->bN H (bE rs)
 | [],_=>trivial
 | r :: rs,⟨h,k⟩=>by
  simp only [bE];exact bN.app (fE.flat r h) (bN.flat rs k)
end
noncomputable abbrev Stp:=Str×Rw
noncomputable def gU:Rw->List Stp
 | .when p pa pb t a b=>a.map (fun r=>(("row": Str),r))++[(("else": Str),Rw.when p pa pb t a b)]++b.map (fun r=>(("row": Str),r))++[(("end": Str),Rw.when p pa pb t a b)]
 | .times p pb n b=>b.map (fun r=>(("row": Str),r))++[(("end": Str),Rw.times p pb n b)]
 | .thr _ _ _ _=>[]
 | .lt _ _ _=>[]
 | .tell _ _=>[]
mutual
noncomputable def iN:Rw->List Stp
 | .when p pa pb t a b=>(("row": Str),Rw.when p pa pb t a b) :: (iO a++[(("else": Str),Rw.when p pa pb t a b)]++iO b++[(("end": Str),Rw.when p pa pb t a b)])
 | .times p pb n b=>(("row": Str),Rw.times p pb n b) :: (iO b++[(("end": Str),Rw.times p pb n b)])
 | .thr p w x vs=>[("row",.thr p w x vs)]
 | .lt p x t=>[("row",.lt p x t)]
 | .tell p t=>[("row",.tell p t)]
noncomputable def iO:List Rw->List Stp
 | []=>[]
 | r :: rs=>iN r++iO rs
end
noncomputable def expd (s:Stp):List Stp:=if s.1="row" then iN s.2 else [s]
theorem aU7:¬ (("else": Str)="row"):=by decide +kernel
theorem wC:¬ (("end": Str)="row"):=by decide +kernel
theorem lT:∀ rs:List Rw,(rs.map (fun r=>(("row": Str),r))).flatMap expd=iO rs
 | []=>rfl
 | r :: rs=>by simp only [List.map_cons,List.flatMap_cons,lT rs,iO];rfl
theorem aH4:∀ r:Rw,iN r=(("row": Str),r) :: (gU r).flatMap expd
 | .when p pa pb t a b=>by
  simp only [iN,gU,List.flatMap_append,lT,List.flatMap_cons,List.flatMap_nil,List.append_nil];simp only [expd,if_neg aU7,if_neg wC]
 | .times p pb n b=>by
  simp only [iN,gU,List.flatMap_append,lT,List.flatMap_cons,List.flatMap_nil,List.append_nil];simp only [expd,if_neg wC]
 | .thr _ _ _ _=>by simp only [iN,gU,List.flatMap_nil]
 | .lt _ _ _=>by simp only [iN,gU,List.flatMap_nil]
 | .tell _ _=>by simp only [iN,gU,List.flatMap_nil]
mutual
theorem aX9:∀ r:Rw,(iN r).length<=3 * r.cnt
 | .when _ _ _ _ a b=>by have:=hZ a;have:=hZ b;simp only [iN,Rw.cnt,List.length_cons,List.length_append,List.length_nil];lia
 | .times _ _ _ b=>by have:=hZ b;simp only [iN,Rw.cnt,List.length_cons,List.length_append,List.length_nil];lia
 | .thr _ _ _ _=>by simp only [iN,Rw.cnt,List.length_cons,List.length_nil];(exact oqJ)
 | .lt _ _ _=>by simp only [iN,Rw.cnt,List.length_cons,List.length_nil];(exact oqJ)
 | .tell _ _=>by simp only [iN,Rw.cnt,List.length_cons,List.length_nil];(exact oqJ)
theorem hZ:∀ rs:List Rw,(iO rs).length<=3 * bY rs
 | []=>aj _
 | r :: rs=>by have:=aX9 r;have:=hZ rs;simp only [iO,bY,List.length_append];lia
end
mutual
theorem aN4:∀ r:Rw,((iN r).filter fun s:Stp=>decide (s.1="row")).map (·.2)=r.flat
 | .when p pa pb t a b=>by
  simp only [iN,Rw.flat,List.filter_cons,List.filter_append,List.map_append,List.filter_nil,decide_eq_false aU7,decide_eq_false wC,decide_true,if_true,List.map_cons,List.map_nil,List.append_nil,Bool.false_eq_true,if_false,iH a,iH b]
 | .times p pb n b=>by
  simp only [iN,Rw.flat,List.filter_cons,List.filter_append,List.map_append,List.filter_nil,decide_eq_false wC,decide_true,if_true,List.map_cons,List.map_nil,List.append_nil,Bool.false_eq_true,if_false,iH b]
 | .thr _ _ _ _=>by simp [iN,Rw.flat]
 | .lt _ _ _=>by simp [iN,Rw.flat]
 | .tell _ _=>by simp [iN,Rw.flat]
theorem iH:∀ rs:List Rw,((iO rs).filter fun s:Stp=>decide (s.1="row")).map (·.2)=bE rs
 | []=>rfl
 | r :: rs=>by simp only [iO,bE,List.filter_append,List.map_append,aN4 r,iH rs]
end
theorem aN7 {H H2:Hp}{d l a:Addr}(D2:dX H2 d l) (o:eP d l H H2) (h:H2 a=none):H a=none:=by
 cases q:H a with
 | none=>rfl
 | some u =>
  exfalso;obtain ⟨sd,n,ls,z⟩:=D2
  by_cases h1:a=d
  ·rw [h1,z.dc] at h;cases h
  ·by_cases h2:a=l
   ·rw [h2,z.lc] at h;cases h
   ·rw [o a u q h1 h2] at h;cases h
theorem cE {H:Hp}{d l r:Addr}(D:dX H d l) (h:H r=none):r≠d/\r≠l:=by
 obtain ⟨sd,n,ls,z⟩:=D;exact ⟨(aL z.dc h).symm,(aL z.lc h).symm⟩
theorem zN {H:Hp}{d l p:Addr}{xs ys:List V}(D:dX H d l) (h:H p=some (.lst xs)) (n:p≠l):dX (aQ H p (.lst ys)) d l:=by
 obtain ⟨sd,k,ls,z⟩:=D;exact ⟨sd,k,ls,⟨by rw [aI (dD z.dc h (by intro z;cases z))];exact z.dc,by rw [aI n.symm];exact z.lc,z.s0,z.s1,z.n0,z.l0⟩⟩
theorem bA {H H':Hp}{d l p:Addr}{xs:List V}(D:dX H d l) (h:H p=some (.lst xs)) (n:p≠l) (o:eP d l H H'):H' p=some (.lst xs):=by
 obtain ⟨sd,k,ls,z⟩:=D;exact o _ _ h (dD h z.dc (by intro z;cases z)) n
theorem bD4 {H H2:Hp}{d l lf:Addr}{o:HO}(h:eP d l H H2) (hf:H lf=none):eP d l H (aQ H2 lf o):=fun b u e h1 h2=>by
 rw [aI (aL e hf)];exact h b u e h1 h2
noncomputable def jT (S:List Addr) (H H':Hp):Prop:=∀ b o,H b=some o->b∉S->H' b=some o
theorem jT.trans {S:List Addr}{H H1 H2:Hp}(a:jT S H H1) (b:jT S H1 H2):jT S H H2:=fun c o e h=>b c o (a c o e h) h
theorem jT.of {S:List Addr}{H H':Hp}(s:aS H H'):jT S H H':=fun c o e _=>s c o e
theorem jT.out {d l sc:Addr}{H H':Hp}(o:eP d l H H'):jT [d,l,sc] H H':=fun b u e n=>o b u e (fun z=>n (by rw [z];exact ao)) (fun z=>n (by rw [z];exact aq _ ao))
theorem jT.new {S:List Addr}{H H1:Hp}{p:Addr}{o:HO}(a:jT S H H1) (h:H p=none):jT S H (aQ H1 p o):=fun b u e n=>by
 rw [aI (aL e h)];exact a b u e n
theorem jT.fresh {S:List Addr}{H H1:Hp}{p:Addr}(a:jT S H H1) (hS:∀ b∈S,∃ o,H1 b=some o) (h:H1 p=none):H p=none:=by
 cases q:H p with
 | none=>rfl
 | some u =>
  exfalso
  by_cases m:p∈S
  ·obtain ⟨o,e⟩:=hS p m;rw [e] at h;cases h
  ·rw [a p u q m] at h;cases h
theorem sL {κ: Type} [DecidableEq κ] {m:List (κ×V)}{k:κ}{x:V}(v:V) (h:bP m k=some x):(cX m k v).length=m.length:=by
 unfold cX;rw [jI,h,ay (by rfl),ac]
structure Wk (kvs:List (Key×V)) (nl:Addr) (kd lf:Int):Prop where
 len:kvs.length<=7
 nm:bP kvs (Sum.inr "names": Key)=some (.ref nl)
 kd:bP kvs (Sum.inr "kinds": Key)=some (.int kd)/\0<=kd/\kd<=3
 wd:bP kvs (Sum.inr "wide": Key)=some (.int 4)
 lf:bP kvs (Sum.inr "left": Key)=some (.int lf)/\0<=lf
 rm:∃ n:Int,bP kvs (Sum.inr "room": Key)=some (.int n)
 qt:∃ b:Bool,bP kvs (Sum.inr "quiet": Key)=some (.bl b)
 fr:∃ n:Int,bP kvs (Sum.inr "far": Key)=some (.int n)
theorem Wk.put_left {kvs:List (Key×V)}{nl:Addr}{kd lf:Int}(h:Wk kvs nl kd lf) (u:Int) (h0:0<=u):Wk (cX kvs (Sum.inr "left": Key) (.int u)) nl kd u:=by
 have e0:=h.lf.1;exact ⟨by rw [sL _ e0];exact h.len,by rw [aP,ak (by decide +kernel)];exact h.nm,⟨by rw [aP,ak (by decide +kernel)];exact h.kd.1,h.kd.2⟩,by rw [aP,ak (by decide +kernel)];exact h.wd,⟨by rw [aP,ay rfl],h0⟩,let ⟨n,e⟩:=h.rm;⟨n,by rw [aP,ak (by decide +kernel)];exact e⟩,let ⟨n,e⟩:=h.qt;⟨n,by rw [aP,ak (by decide +kernel)];exact e⟩,let ⟨n,e⟩:=h.fr;⟨n,by rw [aP,ak (by decide +kernel)];exact e⟩⟩
theorem Wk.put_room {kvs:List (Key×V)}{nl:Addr}{kd lf:Int}(h:Wk kvs nl kd lf) (u:Int):Wk (cX kvs (Sum.inr "room": Key) (.int u)) nl kd lf:=by
 obtain ⟨_,e0⟩:=h.rm;exact ⟨by rw [sL _ e0];exact h.len,by rw [aP,ak (by decide +kernel)];exact h.nm,⟨by rw [aP,ak (by decide +kernel)];exact h.kd.1,h.kd.2⟩,by rw [aP,ak (by decide +kernel)];exact h.wd,⟨by rw [aP,ak (by decide +kernel)];exact h.lf.1,h.lf.2⟩,⟨u,by rw [aP,ay rfl]⟩,let ⟨n,e⟩:=h.qt;⟨n,by rw [aP,ak (by decide +kernel)];exact e⟩,let ⟨n,e⟩:=h.fr;⟨n,by rw [aP,ak (by decide +kernel)];exact e⟩⟩
theorem Wk.put_quiet {kvs:List (Key×V)}{nl:Addr}{kd lf:Int}(h:Wk kvs nl kd lf) (u:Bool):Wk (cX kvs (Sum.inr "quiet": Key) (.bl u)) nl kd lf:=by
 obtain ⟨_,e0⟩:=h.qt;exact ⟨by rw [sL _ e0];exact h.len,by rw [aP,ak (by decide +kernel)];exact h.nm,⟨by rw [aP,ak (by decide +kernel)];exact h.kd.1,h.kd.2⟩,by rw [aP,ak (by decide +kernel)];exact h.wd,⟨by rw [aP,ak (by decide +kernel)];exact h.lf.1,h.lf.2⟩,let ⟨n,e⟩:=h.rm;⟨n,by rw [aP,ak (by decide +kernel)];exact e⟩,⟨u,by rw [aP,ay rfl]⟩,let ⟨n,e⟩:=h.fr;⟨n,by rw [aP,ak (by decide +kernel)];exact e⟩⟩
structure Wd (H:Hp) (d l sc nl:Addr) (xs:List Str) (kd lf:Int):Prop where
 deal:dX H d l
 scn:∃ kvs,H sc=some (.dK kvs)/\Wk kvs nl kd lf
 nms:H nl=some (.lst (xs.map V.str))
 ne1:sc≠d
 ne2:nl≠l
 x1:1<=xs.length
 x2:xs.length<=12
section
variable {H H':Hp}{d l sc nl:Addr}{xs:List Str}{kd lf:Int}
theorem Wd.sl (W:Wd H d l sc nl xs kd lf):sc≠l:=by
 obtain ⟨kvs,e,_⟩:=W.scn;obtain ⟨sd,k,ls,z⟩:=W.deal;exact dD e z.lc (by intro z;cases z)
theorem Wd.out (W:Wd H d l sc nl xs kd lf) (D:dX H' d l) (o:eP d l H H'):Wd H' d l sc nl xs kd lf :=
 ⟨D,let ⟨kvs,e,w⟩:=W.scn;⟨kvs,o _ _ e W.ne1 W.sl,w⟩,bA W.deal W.nms W.ne2 o,W.ne1,W.ne2,W.x1,W.x2⟩
theorem Wd.same (W:Wd H d l sc nl xs kd lf) (s:aS H H'):Wd H' d l sc nl xs kd lf :=
 ⟨W.deal.same s,let ⟨kvs,e,w⟩:=W.scn;⟨kvs,s _ _ e,w⟩,s _ _ W.nms,W.ne1,W.ne2,W.x1,W.x2⟩
theorem Wd.put {lf':Int}(W:Wd H d l sc nl xs kd lf) {kvs:List (Key×V)}(w:Wk kvs nl kd lf'):Wd (aQ H sc (.dK kvs)) d l sc nl xs kd lf':=by
 obtain ⟨kvs0,e,_⟩:=W.scn;obtain ⟨sd,k,ls,z⟩:=id W.deal;have n1:=W.ne1;have n2:=W.sl;refine ⟨⟨sd,k,ls,⟨by rw [aI n1.symm];exact z.dc,by rw [aI n2.symm];exact z.lc,z.s0,z.s1,z.n0,z.l0⟩⟩,⟨kvs,aD,w⟩,?_,n1,W.ne2,W.x1,W.x2⟩;rw [aI (dD W.nms e (by intro z;cases z))];exact W.nms
theorem Wd.off (_:Wd H d l sc nl xs kd lf) (kvs:List (Key×V)):jT [d,l,sc] H (aQ H sc (.dK kvs)):=fun b u e n=>by
 rw [aI fun z=>n (by rw [z];simp)];exact e
theorem Wd.put_left (W:Wd H d l sc nl xs kd lf) (u:Int) (h0:0<=u):∃ kvs,iY H sc (.str "left") (.int u) (aQ H sc (.dK kvs))/\Wd (aQ H sc (.dK kvs)) d l sc nl xs kd u/\jT [d,l,sc] H (aQ H sc (.dK kvs)):=by
 obtain ⟨kvs,e,w⟩:=W.scn;exact ⟨_,iY.k (k:=Sum.inr "left") e (aV (by have:=w.len;(exact oqf))),W.put (w.put_left u h0),W.off _⟩
theorem Wd.put_room (W:Wd H d l sc nl xs kd lf) (u:Int):∃ kvs,iY H sc (.str "room") (.int u) (aQ H sc (.dK kvs))/\Wd (aQ H sc (.dK kvs)) d l sc nl xs kd lf/\jT [d,l,sc] H (aQ H sc (.dK kvs)):=by
 obtain ⟨kvs,e,w⟩:=W.scn;exact ⟨_,iY.k (k:=Sum.inr "room") e (aV (by have:=w.len;(exact oqf))),W.put (w.put_room u),W.off _⟩
theorem Wd.put_quiet (W:Wd H d l sc nl xs kd lf) (u:Bool):∃ kvs,iY H sc (.str "quiet") (.bl u) (aQ H sc (.dK kvs))/\Wd (aQ H sc (.dK kvs)) d l sc nl xs kd lf/\jT [d,l,sc] H (aQ H sc (.dK kvs)):=by
 obtain ⟨kvs,e,w⟩:=W.scn;exact ⟨_,iY.k (k:=Sum.inr "quiet") e (aV (by have:=w.len;(exact oqf))),W.put (w.put_quiet u),W.off _⟩
theorem Wd.get_names (W:Wd H d l sc nl xs kd lf):dG H sc (.str "names") (some (.ref nl)):=by
 obtain ⟨kvs,e,w⟩:=W.scn;rw [<- w.nm];exact dG.k (k:=Sum.inr "names") e
theorem Wd.get_left (W:Wd H d l sc nl xs kd lf):dG H sc (.str "left") (some (.int lf)):=by
 obtain ⟨kvs,e,w⟩:=W.scn;rw [<- w.lf.1];exact dG.k (k:=Sum.inr "left") e
theorem Wd.lf0 (W:Wd H d l sc nl xs kd lf):0<=lf:=by obtain ⟨_,_,w⟩:=W.scn;exact w.lf.2
theorem Wd.get_room (W:Wd H d l sc nl xs kd lf):∃ v:Int,dG H sc (.str "room") (some (.int v)):=by
 obtain ⟨kvs,e,w⟩:=W.scn;obtain ⟨v,h⟩:=w.rm;refine ⟨v,?_⟩;rw [<- h];exact dG.k (k:=Sum.inr "room") e
theorem Wd.get_quiet (W:Wd H d l sc nl xs kd lf):∃ v:Bool,dG H sc (.str "quiet") (some (.bl v)):=by
 obtain ⟨kvs,e,w⟩:=W.scn;obtain ⟨v,h⟩:=w.qt;refine ⟨v,?_⟩;rw [<- h];exact dG.k (k:=Sum.inr "quiet") e
theorem Wd.get_far (W:Wd H d l sc nl xs kd lf):∃ v:Int,dG H sc (.str "far") (some (.int v)):=by
 obtain ⟨kvs,e,w⟩:=W.scn;obtain ⟨v,h⟩:=w.fr;refine ⟨v,?_⟩;rw [<- h];exact dG.k (k:=Sum.inr "far") e
theorem Wd.ts (W:Wd H d l sc nl xs kd lf) (o:jT [d,l,sc] H H'):TS H H':=fun p ys h=>by
 obtain ⟨kvs,e,_⟩:=W.scn;obtain ⟨sd,k,ls,z⟩:=W.deal;refine o _ _ h fun m=>?_
 simp only [List.mem_cons,List.not_mem_nil,or_false] at m;rcases m with m | m | m
 ·rw [m,z.dc] at h;cases h
 ·rw [m,z.lc] at h;cases h
 ·rw [m,e] at h;cases h
theorem Wd.keep (W:Wd H d l sc nl xs kd lf) {p:Addr}{ys:List V}(h:H p=some (.lst ys)) (n:p≠l) (o:jT [d,l,sc] H H'):H' p=some (.lst ys):=by
 obtain ⟨kvs,e,_⟩:=W.scn;obtain ⟨sd,k,ls,z⟩:=W.deal;refine o _ _ h fun m=>?_
 simp only [List.mem_cons,List.not_mem_nil,or_false] at m;rcases m with m | m | m
 ·rw [m,z.dc] at h;cases h
 ·exact n m
 ·rw [m,e] at h;cases h
theorem Wd.lst (W:Wd H d l sc nl xs kd lf) {p:Addr}{ys zs:List V}(h:H p=some (.lst ys)) (n:p≠l) (n2:p≠nl):Wd (aQ H p (.lst zs)) d l sc nl xs kd lf:=by
 obtain ⟨kvs,e,w⟩:=W.scn;exact ⟨zN W.deal h n,⟨kvs,by rw [aI (dD e h (by intro z;cases z))];exact e,w⟩,by rw [aI n2.symm];exact W.nms,W.ne1,W.ne2,W.x1,W.x2⟩
theorem Wd.all (W:Wd H d l sc nl xs kd lf):∀ b∈[d,l,sc],∃ o,H b=some o:=by
 obtain ⟨kvs,e,_⟩:=W.scn;obtain ⟨sd,k,ls,z⟩:=W.deal;intro b m;simp only [List.mem_cons,List.not_mem_nil,or_false] at m;rcases m with m | m | m
 ·exact ⟨_,by rw [m];exact z.dc⟩
 ·exact ⟨_,by rw [m];exact z.lc⟩
 ·exact ⟨_,by rw [m];exact e⟩
end
noncomputable def cL (rs:List Rw):List V:=rs.map fun r=>V.ref r.p
noncomputable def Tm.nm:Tm->Option Str
 | .nam _ x=>some x
 | _=>none
theorem Tm.pre_names:∀ t:Tm,t.pre.filterMap Tm.nm=t.names
 | .num _ _=>rfl
 | .nam _ _=>rfl
 | .op p s a b=>by
  show List.filterMap Tm.nm (Tm.op p s a b :: (a.pre++b.pre))=a.names++b.names;rw [qj (by rfl),xq,Tm.pre_names a,Tm.pre_names b]
theorem Tm.names_len:∀ t:Tm,t.names.length<=t.size
 | .num _ _=>bj _
 | .nam _ _=>aj _
 | .op _ _ a b=>by have:=Tm.names_len a;have:=Tm.names_len b;simp only [Tm.names,Tm.size,List.length_append];lia
noncomputable def Rw.sets:Rw->Option Str
 | .thr _ _ x _=>some x
 | .lt _ x _=>some x
 | .tell _ _=>none
 | .when _ _ _ _ _ _=>none
 | .times _ _ _ _=>none
noncomputable def Rw.tm:Rw->List Tm
 | .thr _ _ _ _=>[]
 | .lt _ _ t=>[t]
 | .tell _ t=>[t]
 | .when _ _ _ t _ _=>[t]
 | .times _ _ _ _=>[]
noncomputable def Rw.asked:Rw->List Str
 | .thr _ _ _ _=>[]
 | .lt _ _ t=>t.names
 | .tell _ t=>t.names
 | .when _ _ _ t _ _=>t.names
 | .times _ _ _ _=>[]
noncomputable def Rw.told:Rw->List Str
 | .thr _ _ _ _=>[]
 | .lt _ _ _=>[]
 | .tell _ t=>t.names
 | .when _ _ _ t _ _=>t.names
 | .times _ _ _ _=>[]
noncomputable def Rw.lets (x:Str):Rw->List Str
 | .thr _ _ _ _=>[]
 | .lt _ y t=>if y=x then t.names else []
 | .tell _ _=>[]
 | .when _ _ _ _ _ _=>[]
 | .times _ _ _ _=>[]
noncomputable def OkR (xs:List Str) (r:Rw):Prop:=∀ t∈r.tm,t.size<=7/\∀ y∈t.names,y∈xs
noncomputable def lO (xs:List Str) (rs:List Rw):Prop:=∀ r∈bE rs,OkR xs r
mutual
noncomputable def tG:Rw->Nat
 | .thr _ _ _ _=>0
 | .lt _ _ _=>0
 | .tell _ _=>0
 | .when _ _ _ _ a b=>1+max (fK a) (fK b)
 | .times _ _ _ b=>1+fK b
noncomputable def fK:List Rw->Nat
 | []=>0
 | r :: rs=>max (tG r) (fK rs)
end
theorem mW:∀ (rs qs:List Rw),fK (rs++qs)=max (fK rs) (fK qs)
 | [],qs=>by simp [fK]
 | r :: rs,qs=>by simp only [List.cons_append,fK,mW rs qs];lia
theorem aK5:∀ {rs:List Rw}{r:Rw},r∈rs->tG r<=fK rs
 | [],_,h=>absurd h au
 | q :: rs,r,h=>by
  simp only [fK];rcases cf.mp h with e | e
  ·rw [e];lia
  ·have:=aK5 e;lia
theorem lO.app {xs:List Str}{rs qs:List Rw}(a:lO xs rs) (b:lO xs qs):lO xs (rs++qs):=fun r h=>by
 rw [iA] at h;rcases cg.mp h with e | e
 ·exact a r e
 ·exact b r e
theorem lO.nil {xs:List Str}:lO xs []:=fun r h=>absurd h au
theorem lO.one {xs:List Str}{r:Rw}(a:OkR xs r) (b:lO xs r.kids):lO xs [r]:=fun q h=>by
 have e:bE [r]=r.flat++[]:=rfl;rw [e,fq,vQ] at h;rcases cf.mp h with e | e
 ·rw [e];exact a
 ·exact b q e
noncomputable def cb:Nat->Nat
 | 0=>5
 | 1=>35
 | 2=>215
 | _=>1295
noncomputable def pb:Nat->Nat
 | 0=>1
 | m+1=>1+2 * cb m
mutual
noncomputable def nZ:Rw->Nat
 | .thr _ _ _ _=>1
 | .lt _ _ _=>0
 | .tell _ _=>0
 | .when _ _ _ _ a b=>jP a+jP b
 | .times _ _ n b=>n.toNat * jP b
noncomputable def jP:List Rw->Nat
 | []=>0
 | r :: rs=>nZ r+jP rs
end
theorem nM:∀ (rs qs:List Rw),jP (rs++qs)=jP rs+jP qs
 | [],qs=>by simp [jP]
 | r :: rs,qs=>by simp only [List.cons_append,jP,nM rs qs];lia
noncomputable def KdR (kd:Int):Rw->Prop
 | .thr _ _ _ d=>(d.kd:Int)=kd
 | .lt _ _ _=>True
 | .tell _ _=>True
 | .when _ _ _ _ _ _=>True
 | .times _ _ n _=>1<=n/\n<=3
noncomputable def jR (kd:Int) (rs:List Rw):Prop:=∀ r∈bE rs,KdR kd r
theorem jR.app {kd:Int}{rs qs:List Rw}(a:jR kd rs) (b:jR kd qs):jR kd (rs++qs):=fun r h=>by
 rw [iA] at h;rcases cg.mp h with e | e
 ·exact a r e
 ·exact b r e
theorem jR.nil {kd:Int}:jR kd []:=fun r h=>absurd h au
theorem jR.one {kd:Int}{r:Rw}(a:KdR kd r) (b:jR kd r.kids):jR kd [r]:=fun q h=>by
 have e:bE [r]=r.flat++[]:=rfl;rw [e,fq,vQ] at h;rcases cf.mp h with e | e
 ·rw [e];exact a
 ·exact b q e
noncomputable def Lt (x:Str):Prop:=∀ c∈x.cps.toList,c < 200
noncomputable def spNames:Sp:=fun vs H Q _=>∃ (d l:Addr) (m:Int),vs=[.ref d,.int m]/\dX H d l/\0<=m/\m<=12 /\
 ∀ (r:Addr) (xs:List Str) (H':Hp),dX H' d l->eP d l H H'->H r=none->H' r=some (.lst (xs.map V.str))->(xs.length:Int)=m->(∀ x∈xs,Lt x)->Q (.ref r) H'
noncomputable def spSumS:Sp:=fun vs H Q _=>∃ (d l:Addr) (m:Int),vs=[.ref d,.int m]/\dX H d l/\0<=m/\m<=3/\∀ (p:Addr) (ws:List Int) (H':Hp),dX H' d l->eP d l H H'->H' p=some (.tup (ws.map V.int))->ws.length=m.toNat->(∀ y∈ws,0<=y/\y<=3)->Q (.ref p) H'
noncomputable def spStp:Sp:=fun vs H Q _=>∃ (d l:Addr) (b:Bool),vs=[.ref d,.bl b]/\dX H d l /\
 ∀ (p:Addr) (a c:Int) (H':Hp),dX H' d l->eP d l H H'->fO H' p a c->tY a c->Q (.ref p) H'
noncomputable def WkT (kvs:List (Key×V)) (kd:Int):Prop:=(∃ n:Int,bP kvs (Sum.inr "wide": Key)=some (.int n)/\0<=n/\n<=6)/\bP kvs (Sum.inr "kinds": Key)=some (.int kd)/\0<=kd/\kd<=3
noncomputable def spThrow:Sp:=fun vs H Q _=>∃ (d l sc:Addr) (kvs:List (Key×V)) (x:Str) (kd:Int),vs=[.ref d,.ref sc,.str x]/\dX H d l/\H sc=some (.dK kvs)/\WkT kvs kd/\sc≠d /\
 ∀ (p:Addr) (w:Str) (ws:TD) (H':Hp),dX H' d l->eP d l H H'->H' p=some (.tup (.str w :: .str x :: ws.vs))->iP H' w ws->(ws.kd:Int)=kd->Q (.ref p) H'
noncomputable def cG7 (n:Nat):Sp:=fun vs H Q _=>∃ (d l kn:Addr) (ks:List Str) (room:Int),vs=[.ref d,.ref kn,.int room]/\dX H d l/\H kn=some (.lst (ks.map V.str))/\kn≠l/\ks.length<=10000/\1<=room/\room<=64/\room<=n /\
 ∀ (t:Tm) (H':Hp),dX H' d l->eP d l H H'->pE H' t->(∀ x∈t.names,x∈ks)->(t.size:Int)<=room->Q (.ref t.p) H'
noncomputable def bA8:Nat->Sp
 | 0=>fun _ _ _ _=>False
 | n+1=>cG7 (n+1)
noncomputable def aY2 (m:Nat):Sp:=fun vs H Q _=>∃ (d l sc nl kn:Addr) (xs ks:List Str) (kd lf deep often:Int),vs=[.ref d,.ref sc,.ref kn,.int deep,.int often]/\Wd H d l sc nl xs kd lf/\1<=often/\H kn=some (.lst (ks.map V.str))/\kn≠l/\(∀ y∈ks,y∈xs)/\ks.length+pb m<=5000/\m<=3/\deep=(m:Int) /\
 ∀ (p kn':Addr) (r:Rw) (k2:List Str) (lf':Int) (H':Hp),Wd H' d l sc nl xs kd lf'->often * (nZ r:Int)+lf'<=lf->jR kd [r]->jT [d,l,sc] H H'->H' p=some (.tup [.ref r.p,.ref kn'])->fE H' r->r.cnt<=pb m->tG r<=m->lO xs [r]->(kn'=kn\/H kn'=none)->kn'≠l->H' kn'=some (.lst (k2.map V.str))->(∀ y∈k2,y∈xs)->k2.length<=ks.length+pb m->Q (.ref p) H'
noncomputable def aD5 (m:Nat):Sp:=fun vs H Q _=>∃ (d l sc nl kn:Addr) (xs ks:List Str) (kd lf deep tells often:Int),vs=[.ref d,.ref sc,.ref kn,.int deep,.int tells,.int often]/\Wd H d l sc nl xs kd lf/\1<=often/\H kn=some (.lst (ks.map V.str))/\kn≠l/\(∀ y∈ks,y∈xs)/\ks.length+cb m<=5000/\0<=tells/\tells<=2/\m<=3/\deep=(m:Int) /\
 ∀ (p pr kn':Addr) (rs:List Rw) (k2:List Str) (lf':Int) (H':Hp),Wd H' d l sc nl xs kd lf'->often * (jP rs:Int)+lf'<=lf->jR kd rs->jT [d,l,sc] H H'->H' p=some (.tup [.ref pr,.ref kn'])->H' pr=some (.tup (cL rs))->bN H' rs->bY rs<=cb m->fK rs<=m->lO xs rs->(kn'=kn\/H kn'=none)->kn'≠l->H' kn'=some (.lst (k2.map V.str))->(∀ y∈k2,y∈xs)->k2.length<=ks.length+cb m->Q (.ref p) H'
noncomputable def bF6:Nat->Sp
 | 0=>fun _ _ _ _=>False
 | m+1=>aD5 m
structure jW (H:Hp) (p:Addr) (xs:List Str) (rs:List Rw):Prop where
 ex:∃ v pr,H p=some (.tup [v,.ref pr])/\H pr=some (.tup (cL rs))
 kn:∃ (pk:Addr) (ks:List Str) (w:V),H p=some (.tup [.ref pk,w])/\H pk=some (.tup (ks.map V.str))/\1<=ks.length/\ks.length<=3/\jR (ks.length:Int) rs
 ld:jP rs<=6
 rows:bN H rs
 cnt:bY rs<=1300
 dp:fK rs<=3
 ok:lO xs rs
 xl:xs.length<=12
 so:∀ x∈xs,Lt x
theorem jW.ts {H H':Hp}{p:Addr}{xs:List Str}{rs:List Rw}(t:TS H H') (P:jW H p xs rs):jW H' p xs rs :=
 ⟨let ⟨v,pr,a,c⟩:=P.ex;⟨v,pr,t _ _ a,t _ _ c⟩,let ⟨pk,ks,w,a,b,c⟩:=P.kn;⟨pk,ks,w,t _ _ a,t _ _ b,c⟩,P.ld,bN.ts t rs P.rows,P.cnt,P.dp,P.ok,P.xl,P.so⟩
noncomputable def spPrg:Sp:=fun vs H Q _=>∃ (d l:Addr),vs=[.ref d,.int 3,.int 4,.int 4]/\dX H d l /\
 ∀ (p:Addr) (xs:List Str) (rs:List Rw) (H':Hp),dX H' d l->eP d l H H'->jW H' p xs rs->Q (.ref p) H'
noncomputable def spParts:Sp:=fun vs H Q _=>∃ t:Tm,vs=[.ref t.p]/\pE H t/\t.size<=900/\∀ (r:Addr) (H':Hp),aS H H'->H r=none->H' r=some (.lst (t.pre.map fun u=>V.ref u.p))->Q (.ref r) H'
noncomputable def spNamesIn:Sp:=fun vs H Q _=>∃ t:Tm,vs=[.ref t.p]/\pE H t/\t.size<=900/\∀ (r:Addr) (H':Hp),aS H H'->H' r=some (.lst (t.names.map V.str))->Q (.ref r) H'
noncomputable def spSetsN:Sp:=fun vs H Q _=>∃ r:Rw,vs=[.ref r.p]/\fE H r/\Q (.bl r.sets.isSome) H
noncomputable def spAsked:Sp:=fun vs H Q _=>∃ (r:Rw) (xs:List Str),vs=[.ref r.p]/\fE H r/\OkR xs r/\∀ (q:Addr) (H':Hp),aS H H'->H' q=some (.lst (r.asked.map V.str))->Q (.ref q) H'
noncomputable def lA (H:Hp) (z:V) (s:Stp):Prop:=∃ q,z= .ref q/\H q=some (.tup [.str s.1,.ref s.2.p])
noncomputable def gB (H:Hp) (z:V) (s:Stp):Prop:=∃ q n,z= .ref q/\H q=some (.tup [.str s.1,.ref s.2.p,.int n])
theorem lA.ts {H H':Hp}(t:TS H H') {z:V}{s:Stp}(h:lA H z s):lA H' z s:=by obtain ⟨q,e,k⟩:=h;exact ⟨q,e,t _ _ k⟩
theorem gB.ts {H H':Hp}(t:TS H H') {z:V}{s:Stp}(h:gB H z s):gB H' z s:=by obtain ⟨q,n,e,k⟩:=h;exact ⟨q,n,e,t _ _ k⟩
noncomputable def spAsS:Sp:=fun vs H Q _=>∃ (p:Addr) (rs:List Rw),vs=[.ref p]/\H p=some (.tup (cL rs))/\rs.length<=4000 /\
 ∀ (r:Addr) (zs:List V) (H':Hp),aS H H'->H' r=some (.lst zs)->cO (lA H') zs (rs.map fun r=>(("row": Str),r))->Q (.ref r) H'
noncomputable def spInner:Sp:=fun vs H Q _=>∃ (r:Rw),vs=[.ref r.p]/\fE H r/\r.cnt<=4000 /\
 ∀ (q:Addr) (zs:List V) (H':Hp),aS H H'->H' q=some (.lst zs)->cO (lA H') zs (gU r)->Q (.ref q) H'
noncomputable def spSteps:Sp:=fun vs H Q _=>∃ (p:Addr) (rs:List Rw),vs=[.ref p]/\H p=some (.tup (cL rs))/\bN H rs/\bY rs<=4000 /\
 ∀ (r:Addr) (zs:List V) (H':Hp),aS H H'->H r=none->H' r=some (.lst zs)->cO (gB H') zs (iO rs)->Q (.ref r) H'
noncomputable def spRowsIn:Sp:=fun vs H Q _=>∃ (p:Addr) (xs:List Str) (rs:List Rw),vs=[.ref p]/\jW H p xs rs /\
 ∀ (r:Addr) (H':Hp),aS H H'->H r=none->H' r=some (.lst (cL (bE rs)))->Q (.ref r) H'
inductive kE (fl:List Rw):Str->Prop where
 | base {r:Rw}{x:Str}(h:r∈fl) (m:x∈r.told):kE fl x
 | step {p:Addr}{y x:Str}{t:Tm}(h:Rw.lt p y t∈fl) (n:kE fl y) (m:x∈t.names):kE fl x
noncomputable def BhV (H:Hp) (kvs:List (Key×V)) (fl:List Rw) (x:Str):Prop:=(bP kvs (Sum.inr x:Key)=none/\fl.flatMap (Rw.lets x)=[])\/∃ l,bP kvs (Sum.inr x:Key)=some (.ref l)/\H l=some (.lst ((fl.flatMap (Rw.lets x)).map V.str))
noncomputable def Bh (H:Hp) (d:Addr) (fl:List Rw):Prop:=∃ kvs,H d=some (.dK kvs)/\∀ x,BhV H kvs fl x
theorem Bh.same {H H':Hp}(s:aS H H') {d:Addr}{fl:List Rw}(h:Bh H d fl):Bh H' d fl:=by
 obtain ⟨kvs,e,a⟩:=h;refine ⟨kvs,s _ _ e,fun x=>?_⟩;rcases a x with h | ⟨l,h1,h2⟩
 ·exact .inl h
 ·exact .inr ⟨l,h1,s _ _ h2⟩
noncomputable def spNB:Sp:=fun vs H Q _=>∃ (lr:Addr) (xs:List Str) (fl:List Rw),vs=[.ref lr]/\H lr=some (.lst (cL fl))/\bN H fl/\(∀ r∈fl,OkR xs r)/\fl.length<=1300 /\
 ∀ (d:Addr) (H':Hp),aS H H'->H d=none->Bh H' d fl->Q (.ref d) H'
structure NdS (rs:List Rw) (ss:List Str):Prop where
 nd:ss.Nodup
 st:PyProof.Rows.sortedS ss=true
 mem:∀ x,x∈ss↔kE (bE rs) x
theorem NdS.eq {rs:List Rw}{ss ts:List Str}(a:NdS rs ss) (b:NdS rs ts):ss=ts:=yF a.nd b.nd (fun x=>(a.mem x).trans (b.mem x).symm) a.st b.st
noncomputable def spNeeded:Sp:=fun vs H Q _=>∃ (p:Addr) (xs:List Str) (rs:List Rw),vs=[.ref p]/\jW H p xs rs /\
 ∀ (r:Addr) (ss:List Str) (H':Hp),aS H H'->H' r=some (.tup (ss.map V.str))->NdS rs ss->Q (.ref r) H'
noncomputable def lY (ss:List Str) (r:Rw):Bool:=match r.sets with
 | some x=> !decide (x∈ss)
 | none=>false
noncomputable def spIsI:Sp:=fun vs H Q _=>∃ (r:Rw) (np:Addr) (ss:List Str),vs=[.ref r.p,.ref np]/\fE H r/\H np=some (.tup (ss.map V.str))/\Q (.bl (lY ss r)) H
noncomputable def bR0 (n:Nat):Sp:=fun vs H Q _=>∃ (p:Addr) (rs:List Rw),vs=[.ref p]/\H p=some (.tup (cL rs))/\bN H rs/\bY rs<=4000/\fK rs < n /\
 ∀ (r:Addr) (H':Hp),aS H H'->H r=none->H' r=some (.lst (cL (bE rs)))->Q (.ref r) H'
noncomputable def aK6:Nat->Sp
 | 0=>fun _ _ _ _=>False
 | n+1=>bR0 (n+1)
noncomputable def bV4 (n:Nat):Sp:=fun vs H Q _=>∃ t:Tm,vs=[.ref t.p]/\pE H t/\t.size<=7/\t.size<=n /\
 ∀ (r:Addr) (H':Hp),aS H H'->H' r=some (.lst (t.names.map V.str))->Q (.ref r) H'
noncomputable def aH5:Nat->Sp
 | 0=>fun _ _ _ _=>False
 | n+1=>bV4 (n+1)
noncomputable def spLNd:Sp:=fun vs H Q _=>∃ (p:Addr) (xs:List Str) (rs:List Rw),vs=[.ref p]/\jW H p xs rs /\
 ∀ (r:Addr) (ss:List Str) (H':Hp),aS H H'->H' r=some (.lst (ss.map V.str))->NdS rs ss->Q (.ref r) H'
noncomputable def spLId:Sp:=fun vs H Q _=>∃ (r:Rw) (np:Addr) (ss:List Str),vs=[.ref r.p,.ref np]/\fE H r/\H np=some (.lst (ss.map V.str))/\∀ H',aS H H'->Q (.bl (lY ss r)) H'
theorem eI {n:Nat}(h:n<=9000000):n < sizeLine:=by rw [jo];lia
theorem aI8:∀ l:List Tm,l.length<=(l.flatMap Tm.pre).length
 | []=>aj _
 | t :: r=>by have:=aI8 r;have:=t.size_pos;rw [bo,ff,am,Tm.pre_len];lia
theorem cE0:¬ (V.str "num"=V.str "op"):=by decide +kernel
theorem cL0:¬ (V.str "name"=V.str "op"):=by decide +kernel
theorem wOM:¬ (V.str "op"=V.str "name"):=by decide +kernel
theorem wTW:¬ (V.str "times"=V.str "when"):=by decide +kernel
theorem wLW:¬ (V.str "let"=V.str "when"):=by decide +kernel
theorem wLT:¬ (V.str "let"=V.str "times"):=by decide +kernel
theorem wEW:¬ (V.str "tell"=V.str "when"):=by decide +kernel
theorem wET:¬ (V.str "tell"=V.str "times"):=by decide +kernel
theorem bP1 {w:Str}(h:w∈dY):¬ (V.str w=V.str "when"):=fun z=>by
 have e:w="when":=by injection z
 rw [e] at h;exact absurd h (by decide +kernel)
theorem bR2 {w:Str}(h:w∈dY):¬ (V.str w=V.str "times"):=fun z=>by
 have e:w="times":=by injection z
 rw [e] at h;exact absurd h (by decide +kernel)
theorem jQ {v:V}{r:List V}:jH (v :: r) 0=some v:=by
 unfold jH ixN;rw [ay (pw 0),ay (by rw [bo];lia)];rfl
theorem bR (rs:List Rw):(cL rs).length=rs.length:=ac _
theorem lN {rs:List Rw}{i:Nat}{v:V}(h:(cL rs)[i]?=some v):∃ r,v= .ref r.p/\rs[i]?=some r:=by
 unfold cL at h;rw [cj] at h
 cases e:rs[i]? with
 | none=>rw [e] at h;cases h
 | some r=>rw [e] at h;exact ⟨r,(dz h).symm,rfl⟩
theorem iW (rs qs:List Rw):cL (rs++qs)=cL rs++cL qs:=bm ..
theorem fM {α: Type}{R:V->α->Prop}:∀ {vs:List V}{as:List α}{i:Nat}{v:V},cO R vs as->vs[i]?=some v->∃ a,as[i]?=some a/\R v a
 | [],[],i,v,_,h=>by cases h
 | v :: vs,a :: as,0,_,⟨e,_⟩,h=>by cases h;exact ⟨a,rfl,e⟩
 | v :: vs,a :: as,i+1,x,⟨_,r⟩,h=>by
  obtain ⟨b,h1,h2⟩:=fM (i:=i) (v:=x) r (by simpa using h);exact ⟨b,by simpa using h1,h2⟩
 | [],_ :: _,_,_,z,_=>z.elim
 | _ :: _,[],_,_,z,_=>z.elim
theorem pZ {α: Type}{R:V->α->Prop}:∀ {vs:List V}{as:List α},cO R vs as->cO R vs.reverse as.reverse
 | [],[],_=>trivial
 | v :: vs,a :: as,⟨e,r⟩=>by
  rw [lh,lh];exact cO.append (pZ r) ⟨e,trivial⟩
 | [],_ :: _,z=>z.elim
 | _ :: _,[],z=>z.elim
theorem iX {α: Type}{R:V->α->Prop}:∀ {as:List α}{vs:List V}{a:α},cO R vs (as++[a])->∃ us v,vs=us++[v]/\cO R us as/\R v a
 | [],[v],a,⟨e,_⟩=>⟨[],v,rfl,trivial,e⟩
 | [],_ :: _ :: _,_,⟨_,z⟩=>z.elim
 | [],[],_,z=>z.elim
 | b :: bs,[],_,z=>z.elim
 | b :: bs,v :: vs,a,⟨e,r⟩=>by
  obtain ⟨us,u,h1,h2,h3⟩:=iX (as:=bs) r;exact ⟨v :: us,u,by rw [h1];rfl,⟨e,h2⟩,h3⟩
theorem bA4 (r:Rw):1<=(iN r).length:=by rw [aH4];simp
theorem aL6 (s:Stp):1<=(expd s).length:=by
 unfold expd
 split
 ·exact bA4 _
 ·simp
theorem aE4:∀ l:List Stp,l.length<=(l.flatMap expd).length
 | []=>aj _
 | t :: r=>by have:=aE4 r;have:=aL6 t;rw [bo,ff,am];lia
theorem pU:∀ {rs:List Rw}{r:Rw},r∈rs->r.cnt<=bY rs
 | [],_,h=>absurd h au
 | q :: rs,r,h=>by
  simp only [bY];rcases cf.mp h with e | e
  ·rw [e];(exact oqI)
  ·have:=pU e;lia
theorem aM8:∀ {r:Rw}{s:Stp},s∈gU r->s.2=r\/s.2∈r.kids
 | .when p pa pb t a b,s,h=>by
  simp only [gU,List.mem_append,List.mem_map,List.mem_singleton] at h;rcases h with ((⟨x,hx,e⟩ | e) | ⟨x,hx,e⟩) | e
  ·right;rw [<- e];exact cx _ hx
  ·left;rw [e]
  ·right;rw [<- e];exact bw _ hx
  ·left;rw [e]
 | .times p pb n b,s,h=>by
  simp only [gU,List.mem_append,List.mem_map,List.mem_singleton] at h;rcases h with ⟨x,hx,e⟩ | e
  ·right;rw [<- e];exact hx
  ·left;rw [e]
 | .thr _ _ _ _,_,h=>absurd h au
 | .lt _ _ _,_,h=>absurd h au
 | .tell _ _,_,h=>absurd h au
theorem bA2 {H:Hp}{r:Rw}(h:fE H r) (hc:r.cnt<=4000) {s:Stp}(m:s∈gU r):fE H s.2/\s.2.cnt<=4000:=by
 rcases aM8 m with e | e
 ·rw [e];exact ⟨h,hc⟩
 ·have:=pU e;have:=bB5 r;exact ⟨h.kids.mem _ e,by lia⟩
theorem bW (w:Str) (xs:List Str):mU (.str w) (xs.map V.str)=decide (w∈xs):=by
 unfold mU;rw [List.any_map]
 induction xs with
 | nil=>rfl
 | cons x r ih =>
  rw [ph,ih];have e:(eqV (V.str x) (V.str w))=decide (x=w):=rfl;show (eqV (V.str x) (V.str w) || _)=_;rw [e]
  by_cases c:x=w
  ·simp [c]
  ·have c2:¬ w=x:=fun z=>c z.symm
   simp [c,c2]
theorem eA (xs:List Str):(xs.map V.str).all lZ=true:=vA xs
theorem pY {xs:List Str}{i:Nat}{v:V}(h:(xs.map V.str)[i]?=some v):∃ x,v= .str x/\xs[i]?=some x:=by
 rw [cj] at h
 cases e:xs[i]? with
 | none=>rw [e] at h;cases h
 | some r=>rw [e] at h;exact ⟨r,(dz h).symm,rfl⟩
theorem aR5 {r x y z:Int}(h0:0<=r) (h1:r < 3):∃ w,jH [V.int x,V.int y,V.int z] r=some (.int w)/\(w=x\/w=y\/w=z):=by
 have:r=0\/r=1\/r=2:=by lia
 rcases this with rfl | rfl | rfl
 ·exact ⟨x,rfl,.inl rfl⟩
 ·exact ⟨y,rfl,.inr (.inl rfl)⟩
 ·exact ⟨z,rfl,.inr (.inr rfl)⟩
theorem bP7 {r:Int}(h0:0<=r) (h1:r < 5):∃ c,jH ("+-*<=": Str).cps.toList r=some c/\(⟨#[c]⟩:Str)∈cN8:=by
 have:r=0\/r=1\/r=2\/r=3\/r=4:=by lia
 rcases this with rfl | rfl | rfl | rfl | rfl
 ·exact ⟨43,rfl,by decide +kernel⟩
 ·exact ⟨45,rfl,by decide +kernel⟩
 ·exact ⟨42,rfl,by decide +kernel⟩
 ·exact ⟨60,rfl,by decide +kernel⟩
 ·exact ⟨61,rfl,by decide +kernel⟩
theorem aY0 {α: Type}{xs:List α}{r:Int}(h0:0<=r) (h1:r < (xs.length:Int)):∃ v,xs[r.toNat]?=some v/\jH xs r=some v:=by
 have hk:r.toNat < xs.length:=by lia
 refine ⟨_,ar hk,?_⟩;have q:=fB (ar hk);rw [zc h0] at q;exact q
theorem aP2 (xs:List Str) (lo hi:Option Int):∃ ys:List Str,gK (xs.map V.str) lo hi=ys.map V.str/\ys.length<=xs.length/\(∀ y∈ys,y∈xs):=by
 refine ⟨(xs.drop (HT.sIx xs.length 0 lo)).take (HT.sIx xs.length xs.length hi - HT.sIx xs.length 0 lo),?_,?_,fun y hy=>?_⟩
 ·unfold gK;rw [ac,nh,yw]
 ·rw [cp,ox];lia
 ·exact List.mem_of_mem_drop (iy hy)
theorem pW {H H1 H2:Hp}{d l sc:Addr}(o:eP d l H H1) (n:H sc=none) (o2:jT [d,l,sc] H1 H2):eP d l H H2:=fun b u e h1 h2=>by
 refine o2 b u (o b u e h1 h2) fun m=>?_
 simp only [List.mem_cons,List.not_mem_nil,or_false] at m;rcases m with m | m | m
 ·exact h1 m
 ·exact h2 m
 ·rw [m,n] at e;cases e
theorem wMN:¬ (V.str "num"=V.str "name"):=by decide +kernel
theorem wTL:¬ (V.str "tell"=V.str "let"):=by decide +kernel
theorem wWL:¬ (V.str "when"=V.str "let"):=by decide +kernel
theorem wML:¬ (V.str "times"=V.str "let"):=by decide +kernel
theorem bP4 {w:Str}(h:w∈dY):¬ (V.str w=V.str "let"):=fun z=>by
 have e:w="let":=by injection z
 rw [e] at h;exact absurd h (by decide +kernel)
theorem bT4 {w:Str}(h:w∈dY):¬ (mU (V.str w) [.str "tell",.str "when"]=true):=by
 rw [show ([V.str "tell",V.str "when"]:List V)=(["tell","when"]:List Str).map V.str from rfl,bW];simp only [dY,List.mem_cons,List.not_mem_nil,or_false] at h;rcases h with rfl | rfl | rfl | rfl <;> decide +kernel
theorem uE {n:Nat}(h:n < 16777216):n < sizeLine:=by rw [jo];exact h
theorem cI9 {m:Nat}(hm:m<=3):cb m=3 * pb m+2:=by
 have:m=0\/m=1\/m=2\/m=3:=by lia
 rcases this with rfl | rfl | rfl | rfl <;> rfl
theorem bC2 (m:Nat):cb m<=1295:=by
 unfold cb
 split <;> decide
theorem aV0 (m:Nat):1<=pb m:=by cases m <;> simp [pb]
theorem aH2 {r x y:Int}(h0:0<=r) (h1:r < 2):∃ w,jH [V.int x,V.int y] r=some (.int w)/\(w=x\/w=y):=by
 have:r=0\/r=1:=by lia
 rcases this with rfl | rfl
 ·exact ⟨x,rfl,.inl rfl⟩
 ·exact ⟨y,rfl,.inr rfl⟩
theorem OkR.asked {xs:List Str}{r:Rw}(h:OkR xs r):r.asked.length<=7/\∀ y∈r.asked,y∈xs:=by
 cases r with
 | lt p x t=>have:=h t (ax.mpr rfl);have:=t.names_len;exact ⟨by show t.names.length<=7;lia,(h t (ax.mpr rfl)).2⟩
 | tell p t=>have:=h t (ax.mpr rfl);have:=t.names_len;exact ⟨by show t.names.length<=7;lia,(h t (ax.mpr rfl)).2⟩
 | when p pa pb t a b=>have:=h t (ax.mpr rfl);have:=t.names_len;exact ⟨by show t.names.length<=7;lia,(h t (ax.mpr rfl)).2⟩
 | times p pb n b=>exact ⟨bj _,fun y hy=>absurd hy au⟩
 | thr p w x vs=>exact ⟨bj _,fun y hy=>absurd hy au⟩
theorem aR4 (r:Rw):∀ x∈r.told,x∈r.asked:=by
 cases r <;> intro x h <;> first | exact h | exact absurd h au
theorem aQ8 (r:Rw):r.told.length<=r.asked.length:=by
 cases r <;> first | exact aj _ | exact bj _
theorem bA9 (x:Str) (r:Rw):(r.lets x).length<=r.asked.length:=by
 cases r with
 | lt p z t=>simp only [Rw.lets,Rw.asked];split;exact aj _;exact bj _
 | _=>exact bj _
theorem aA5 {α: Type}{f:Rw->List α}{c:Nat}:∀ {fl:List Rw},(∀ r∈fl,(f r).length<=c)->(fl.flatMap f).length<=c * fl.length
 | [],_=>bj _
 | r :: rs,h=>by
  have:=aA5 (f:=f) (c:=c) (fl:=rs) fun q hq=>h q (aq _ hq)
  have:=h r ao;rw [ff,am,bo,Nat.mul_succ]
  lia
theorem aI9 {α: Type}{f:Rw->List α}{fl:List Rw}{i:Nat}{r:Rw}(h:fl[i]?=some r):(fl.take (i+1)).flatMap f=(fl.take i).flatMap f++f r:=by
 rw [aT h,fb];simp
theorem lM {xs:List Str}{fl:List Rw}(ok:∀ r∈fl,OkR xs r):(fl.flatMap Rw.told).length<=7 * fl.length:=aA5 fun r h=>cu (aQ8 r) (ok r h).asked.1
theorem oN {xs:List Str}{fl:List Rw}(ok:∀ r∈fl,OkR xs r) (x:Str):(fl.flatMap (Rw.lets x)).length<=7 * fl.length:=aA5 fun r h=>cu (bA9 x r) (ok r h).asked.1
theorem rW {xs:List Str}{fl:List Rw}(ok:∀ r∈fl,OkR xs r) {x:Str}(h:kE fl x):x∈xs:=by
 cases h with
 | base h m=>exact (ok _ h).asked.2 _ (aR4 _ _ m)
 | step h n m=>exact (ok _ h).asked.2 _ m
theorem aM2 {fl:List Rw}{y x:Str}(n:kE fl y) (h:x∈fl.flatMap (Rw.lets y)):kE fl x:=by
 obtain ⟨r,hr,hx⟩:=jh.mp h
 cases r with
 | lt p z t =>
  simp only [Rw.lets] at hx
  split at hx
  ·rename_i e;subst e;exact .step hr n hx
  ·exact absurd hx au
 | _=>exact absurd hx au
theorem uL {fl:List Rw}{x:Str}(h:x∈fl.flatMap Rw.told):kE fl x:=by obtain ⟨_,hr,hx⟩:=jh.mp h;exact  .base hr hx
structure WL (fl:List Rw) (fs ws:List Str):Prop where
 need:∀ x,x∈fs\/x∈ws->kE fl x
 base:∀ x∈fl.flatMap Rw.told,x∈fs\/x∈ws
 more:∀ y∈fs,∀ x∈fl.flatMap (Rw.lets y),x∈fs\/x∈ws
 nd:fs.Nodup
theorem WL.init (fl:List Rw):WL fl [] (fl.flatMap Rw.told):=⟨fun x h=>by
 rcases h with h | h
 ·exact absurd h au
 ·exact uL h,fun x h=> .inr h,fun y h=>absurd h au,uc⟩
theorem WL.skip {fl:List Rw}{fs ws:List Str}{x:Str}(h:WL fl fs (ws++[x])) (m:x∈fs):WL fl fs ws:=by
 have key:∀ y,(y∈fs\/y∈ws++[x])->y∈fs\/y∈ws:=fun y hy=>by
  rcases hy with e | e
  ·exact .inl e
  ·rcases cg.mp e with e | e
   ·exact .inr e
   ·rw [ax.mp e];exact .inl m
 exact ⟨fun y hy=>h.need y (by rcases hy with e | e;exact .inl e;exact .inr (cx _ e)),fun y hy=>key y (h.base y hy),fun z hz y hy=>key y (h.more z hz y hy),h.nd⟩
theorem WL.take {fl:List Rw}{fs ws:List Str}{x:Str}(h:WL fl fs (ws++[x])) (m:x∉fs):WL fl (fs++[x]) (ws++fl.flatMap (Rw.lets x)):=by
 have nx:kE fl x:=h.need x (.inr (by simp));have key:∀ y,(y∈fs\/y∈ws++[x])->y∈fs++[x]\/y∈ws++fl.flatMap (Rw.lets x):=fun y hy=>by
  rcases hy with e | e
  ·exact .inl (cx _ e)
  ·rcases cg.mp e with e | e
   ·exact .inr (cx _ e)
   ·exact .inl (bw _ e)
 refine ⟨fun y hy=>?_,fun y hy=>key y (h.base y hy),fun z hz y hy=>?_,?_⟩
 ·rcases hy with e | e
  ·rcases cg.mp e with e | e
   ·exact h.need y (.inl e)
   ·rw [ax.mp e];exact nx
  ·rcases cg.mp e with e | e
   ·exact h.need y (.inr (cx _ e))
   ·exact aM2 nx e
 ·rcases cg.mp hz with e | e
  ·exact key y (h.more z e y hy)
  ·rw [ax.mp e] at hy;exact .inr (bw _ hy)
 ·rw [oh];refine ⟨h.nd,by simp,fun a ha b hb e=>m ?_⟩;rw [<- ax.mp hb, <- e];exact ha
theorem WL.done {fl:List Rw}{fs:List Str}(h:WL fl fs []) (x:Str):x∈fs↔kE fl x:=by
 refine ⟨fun m=>h.need x (.inl m),fun n=>?_⟩;have key:∀ y,(y∈fs\/y∈([]:List Str))->y∈fs:=fun y hy=>by
  rcases hy with e | e
  ·exact e
  ·exact absurd e au
 induction n with
 | base h1 m=>exact key _ (h.base _ (jh.mpr ⟨_,h1,m⟩))
 | step h1 _ m ih=>exact key _ (h.more _ ih _ (jh.mpr ⟨_,h1,by simp only [Rw.lets];rw [ay trivial];exact m⟩))
noncomputable def pot (fl:List Rw) (xs fs:List Str):Nat:=((xs.filter fun x=> !decide (x∈fs)).map fun x=>(fl.flatMap (Rw.lets x)).length).sum
theorem xZ (fl:List Rw) (fs:List Str) (x:Str):∀ xs:List Str,pot fl xs (fs++[x])<=pot fl xs fs
 | []=>aj _
 | z :: r=>by
  have ih:=xZ fl fs x r;unfold pot at ih ⊢
  by_cases c:z∈fs
  ·rw [ej (by simp [c]),ej (by simp [c])];exact ih
  ·by_cases d:z=x
   ·rw [ej (by simp [d]),en (by simp [c])];rw [dq,nj];lia
   ·rw [en (by simp [c,d]),en (by simp [c])];rw [dq,nj,dq,nj];lia
theorem zK (fl:List Rw) {fs:List Str}{x:Str}(hf:x∉fs):∀ {xs:List Str},x∈xs->pot fl xs (fs++[x])+(fl.flatMap (Rw.lets x)).length<=pot fl xs fs
 | [],h=>absurd h au
 | z :: r,h=>by
  have mo:=xZ fl fs x r
  by_cases d:z=x
  ·unfold pot at mo ⊢;rw [ej (by simp [d]),en (by simp [d,hf])];rw [dq,nj,d];lia
  ·have ih:=zK fl hf (xs:=r) (by rcases cf.mp h with e | e;exact absurd e.symm d;exact e);unfold pot at ih ⊢
   by_cases c:z∈fs
   ·rw [ej (by simp [c]),ej (by simp [c])];exact ih
   ·rw [en (by simp [c,d]),en (by simp [c])];rw [dq,nj,dq,nj];lia
theorem aU4 {ys:List Str}{fl:List Rw}(ok:∀ r∈fl,OkR ys r) (fs:List Str):∀ xs:List Str,pot fl xs fs<=xs.length * (7 * fl.length)
 | []=>bj _
 | z :: r=>by
  have ih:=aU4 ok fs r;have:=oN ok z;unfold pot at ih ⊢;rw [bo,rn]
  by_cases c:z∈fs
  ·rw [ej (by simp [c])];lia
  ·rw [en (by simp [c]),dq,nj];lia
noncomputable def st1 (F:List Str) (r:Rw):List Str:=match r with
 | .lt _ y t=>if y∈F then F++t.names.filter (fun x=> !decide (x∈F)) else F
 | .thr _ _ _ _=>F
 | .tell _ _=>F
 | .when _ _ _ _ _ _=>F
 | .times _ _ _ _=>F
noncomputable def rnd (fl:List Rw) (F:List Str):List Str:=fl.foldl st1 F
noncomputable def iM (fl:List Rw):Nat->List Str
 | 0=>fl.flatMap Rw.told
 | n+1=>rnd fl (iM fl n)
theorem aK7 (F:List Str) (r:Rw):∀ x∈F,x∈st1 F r:=by
 intro x h
 cases r with
 | lt p y t=>simp only [st1];split;exact cx _ h;exact h
 | _=>exact h
theorem pR:∀ (fl:List Rw) (F:List Str),∀ x∈F,x∈rnd fl F
 | [],_,_,h=>h
 | r :: rs,F,x,h=>pR rs (st1 F r) x (aK7 F r x h)
theorem aX6 {fl:List Rw}{F:List Str}{r:Rw}(hr:r∈fl) (h:∀ x∈F,kE fl x):∀ x∈st1 F r,kE fl x:=by
 intro x hx
 cases r with
 | lt p y t =>
  simp only [st1] at hx
  split at hx
  ·rename_i hy
   rcases cg.mp hx with e | e
   ·exact h x e
   ·exact .step hr (h y hy) (qc.mp e).1
  ·exact h x hx
 | _=>exact h x hx
theorem zG {fl:List Rw}:∀ (rs:List Rw) (F:List Str),(∀ r∈rs,r∈fl)->(∀ x∈F,kE fl x)->∀ x∈rnd rs F,kE fl x
 | [],_,_,h=>h
 | r :: rs,F,hs,h=>zG rs (st1 F r) (fun q hq=>hs q (aq _ hq)) (aX6 (hs r ao) h)
theorem uQ (fl:List Rw):∀ n,∀ x∈iM fl n,kE fl x
 | 0=>fun _ h=>uL h
 | n+1=>zG fl (iM fl n) (fun _ h=>h) (uQ fl n)
noncomputable def Sat (F:List Str) (r:Rw):Prop:=∀ p y t,r= .lt p y t->y∈F->∀ x∈t.names,x∈F
noncomputable def act (fl:List Rw) (F:List Str):Nat:=fl.countP fun r=>match r with
 | .lt _ y _=>decide (y∈F)
 | _=>false
theorem bH0 {F:List Str}{p:Addr}{y:Str}{t:Tm}(h:y∈F):∀ x∈t.names,x∈st1 F (.lt p y t):=by
 intro x hx;simp only [st1];rw [ay h]
 by_cases c:x∈F
 ·exact cx _ c
 ·exact bw _ (qc.mpr ⟨hx,by simp [c]⟩)
theorem aH9:∀ (fl:List Rw) (F:List Str) {p:Addr}{y:Str}{t:Tm},Rw.lt p y t∈fl->y∈F->∀ x∈t.names,x∈rnd fl F
 | [],_,_,_,_,h,_=>absurd h au
 | r :: rs,F,p,y,t,h,hy=>fun x hx=>by
  rcases cf.mp h with e | e
  ·subst e;exact pR rs _ x (bH0 hy x hx)
  ·exact aH9 rs (st1 F r) e (aK7 F r y hy) x hx
theorem xS {F G:List Str}(h:∀ x∈F,x∈G):∀ fl:List Rw,act fl F<=act fl G
 | fl=>xr fun r _ hr=>by
  cases r with
  | lt p y t=>exact ag (h y (ai hr))
  | _=>exact hr
theorem aC3 {F G:List Str}(h:∀ x∈F,x∈G) {p:Addr}{y:Str}{t:Tm}(h1:y∉F) (h2:y∈G):∀ {fl:List Rw},Rw.lt p y t∈fl->act fl F+1<=act fl G
 | [],m=>absurd m au
 | r :: rs,m=>by
  have mo:=xS h rs;rcases cf.mp m with e | e
  ·subst e;unfold act at mo ⊢;rw [List.countP_cons_of_neg (by simp [h1]),List.countP_cons_of_pos (by simp [h2])]
   lia
  ·have ih:=aC3 h h1 h2 e;have c1:=xS h [r];unfold act at ih c1 ⊢;rw [mn,mn];rw [mn,mn,List.countP_nil,List.countP_nil] at c1
   lia
theorem bQ4 (fl:List Rw) (F:List Str):act fl F<=fl.length:=re
noncomputable def Clo (fl:List Rw) (F:List Str):Prop:=∀ r∈fl,Sat F r
theorem aH8 {fl:List Rw}{F:List Str}(h:¬ Clo fl F):∃ p y t,Rw.lt p y t∈fl/\y∈F/\∃ x∈t.names,x∉F:=by
 apply qe
 intro k;refine h fun r hr p y t e hy x hx=>qe fun c=>k ⟨p,y,t,by rw [<- e];exact hr,hy,x,hx,c⟩
theorem aJ6 {fl:List Rw}{F:List Str}(c:Clo fl F):∀ (rs:List Rw),(∀ r∈rs,r∈fl)->rnd rs F=F
 | [],_=>rfl
 | r :: rs,hs=>by
  have e:st1 F r=F:=by
   cases r with
   | lt p y t =>
    simp only [st1]
    split
    ·rename_i hy
     have:t.names.filter (fun x=> !decide (x∈F))=[]:=List.filter_eq_nil_iff.mpr fun x hx=>by
      have:=c _ (hs _ ao) p y t rfl hy x hx;simp [this]
     rw [this,fq]
    ·rfl
   | _=>rfl
  show rnd rs (st1 F r)=F;rw [e];exact aJ6 c rs fun q hq=>hs q (aq _ hq)
theorem yZ (fl:List Rw):∀ n,¬ Clo fl (iM fl n)->n+1<=act fl (iM fl n)
 | 0,h=>by
  obtain ⟨p,y,t,m,hy,_⟩:=aH8 h;have:=aC3 (F:=[]) (G:=iM fl 0) (fun x hx=>absurd hx au) au hy m
  (exact oqD)
 | n+1,h=>by
  have h0:¬ Clo fl (iM fl n):=fun c=>h (by
   show Clo fl (rnd fl (iM fl n));rw [aJ6 c fl fun _ z=>z];exact c)
  have ih:=yZ fl n h0;obtain ⟨p,y,t,m,hy,x,hx,hn⟩:=aH8 h;have:=aC3 (F:=iM fl n) (G:=iM fl (n+1)) (pR fl _) (fun z=>hn (aH9 fl _ m z x hx)) hy m
  lia
theorem aO3 (fl:List Rw) (x:Str):x∈iM fl fl.length↔kE fl x:=by
 refine ⟨uQ fl _ x,fun n=>?_⟩;have c:Clo fl (iM fl fl.length):=qe fun k=>by
  have:=yZ fl _ k;have:=bQ4 fl (iM fl fl.length)
  lia
 have sub:∀ n,∀ x∈fl.flatMap Rw.told,x∈iM fl n:=fun n=>by
  induction n with
  | zero=>exact fun _ h=>h
  | succ n ih=>exact fun x h=>pR fl _ x (ih x h)
 induction n with
 | base h1 m=>exact sub _ _ (jh.mpr ⟨_,h1,m⟩)
 | step h1 _ m ih=>exact c _ h1 _ _ _ rfl ih _ m
theorem bH5 {xs:List Str}{F:List Str}{r:Rw}(ok:OkR xs r):(st1 F r).length<=F.length+7:=by
 cases r with
 | lt p y t =>
  have h:=ok.asked.1;have h:t.names.length<=7:=h;have:=jm (fun x=> !decide (x∈F)) t.names;simp only [st1]
  split
  ·rw [am];lia
  ·(exact oqI)
 | _=>exact ig _ _
theorem wR {xs:List Str}:∀ (fl:List Rw) (F:List Str),(∀ r∈fl,OkR xs r)->(rnd fl F).length<=F.length+7 * fl.length
 | [],_,_=>aj _
 | r :: rs,F,ok=>by
  have:=wR rs (st1 F r) fun q hq=>ok q (aq _ hq)
  have:=bH5 (F:=F) (ok r ao);show (rnd rs (st1 F r)).length<=_;rw [bo]
  lia
theorem yO {xs:List Str}{fl:List Rw}(ok:∀ r∈fl,OkR xs r):∀ n,(iM fl n).length<=(n+1) * (7 * fl.length)
 | 0=>by have:=lM ok;show (fl.flatMap Rw.told).length<=_;lia
 | n+1=>by
  have:=yO ok n;have:=wR fl (iM fl n) ok;rw [rn];show (rnd fl (iM fl n)).length<=_
  lia
theorem pJ {α: Type} [DecidableEq α]:∀ {ds xs:List α},ds.Nodup->(∀ x∈ds,x∈xs)->ds.length<=xs.length
 | [],_,_,_=>bj _
 | d :: ds,xs,nd,h=>by
  have hd:=h d ao;have nd':=kg.mp nd;have:=pJ (ds:=ds) (xs:=xs.erase d) nd'.2 fun x hx=>(ym (fun e=>nd'.1 (by rw [<- e];exact hx))).mpr (h x (aq _ hx))
  have:=vw hd;have:=List.length_pos_of_mem hd;rw [bo]
  lia
theorem bA3 {H:Hp}{r:Rw}(h:fE H r):(decide (r.w∈dY) || decide (r.w="let"))=r.sets.isSome:=by
 cases r with
 | thr p w x vs=>rw [show (Rw.thr p w x vs).w=w from rfl,ag (show w∈dY from iP.w h.2)];rfl
 | lt p x t=>show (decide ((Rw.lt p x t).w∈dY) || decide (("let": Str)="let"))=true;simp
 | tell p t=>show (decide (("tell": Str)∈dY) || decide (("tell": Str)="let"))=false;decide +kernel
 | when p pa pb t a b=>show (decide (("when": Str)∈dY) || decide (("when": Str)="let"))=false;decide +kernel
 | times p pb n b=>show (decide (("times": Str)∈dY) || decide (("times": Str)="let"))=false;decide +kernel
theorem aT0 {H:Hp}{r:Rw}(h:fE H r) (c:r.w="let"):∃ p x t,r= .lt p x t:=by
 cases r with
 | lt p x t=>exact ⟨p,x,t,rfl⟩
 | thr p w x vs =>
  have hw:w∈dY:=iP.w h.2;have c:w="let":=c;rw [c] at hw;exact absurd hw (by decide +kernel)
 | tell p t=>exact absurd (show ("tell": Str)="let" from c) (by decide +kernel)
 | when p pa pb t a b=>exact absurd (show ("when": Str)="let" from c) (by decide +kernel)
 | times p pb n b=>exact absurd (show ("times": Str)="let" from c) (by decide +kernel)
theorem aV4 {r:Rw}(c:¬ r.w="let") (x:Str):r.lets x=[]:=by
 cases r with
 | lt p y t=>exact absurd rfl c
 | _=>rfl
theorem bE4 {H:Hp}{r:Rw}(h:fE H r) (c:r.w∈(["tell","when"]:List Str)):r.told=r.asked:=by
 cases r with
 | lt p y t=>exact absurd (show ("let": Str)∈(["tell","when"]:List Str) from c) (by decide +kernel)
 | thr p w x vs=>rfl
 | tell p t=>rfl
 | when p pa pb t a b=>rfl
 | times p pb n b=>rfl
theorem zD {r:Rw}(c:¬ r.w∈(["tell","when"]:List Str)):r.told=[]:=by
 cases r with
 | tell p t=>exact absurd (show ("tell": Str)∈(["tell","when"]:List Str) from ao) c
 | when p pa pb t a b=>exact absurd (show ("when": Str)∈(["tell","when"]:List Str) from aq _ ao) c
 | _=>rfl
theorem bT2 {H:Hp}{r:Rw}(h:fE H r) (c:r.w∈(["tell","when"]:List Str)):∃ (t:Tm) (vs:List V),H r.p=some (.tup (.str r.w :: .ref t.p :: vs))/\pE H t/\r.tm=[t]/\r.told=t.names:=by
 cases r with
 | lt p y t=>exact absurd (show ("let": Str)∈(["tell","when"]:List Str) from c) (by decide +kernel)
 | thr p w x vs =>
  have hw:w∈dY:=iP.w h.2;have c:w∈(["tell","when"]:List Str):=c;simp only [List.mem_cons,List.not_mem_nil,or_false] at c;rcases c with e | e <;> (rw [e] at hw;exact absurd hw (by decide +kernel))
 | tell p t=>exact ⟨t,_,h.1,h.2,rfl,rfl⟩
 | when p pa pb t a b=>exact ⟨t,_,h.1,h.2.1,rfl,rfl⟩
 | times p pb n b=>exact absurd (show ("times": Str)∈(["tell","when"]:List Str) from c) (by decide +kernel)
structure BI (H G:Hp) (d:Addr) (kvs:List (Key×V)) (fl:List Rw) (n:Nat):Prop where
 sm:aS H G
 nd:H d=none
 dc:G d=some (.dK kvs)
 ln:kvs.length<=n
 vl:∀ x:Str,(bP kvs (Sum.inr x:Key)=none/\fl.flatMap (Rw.lets x)=[])\/∃ l,bP kvs (Sum.inr x:Key)=some (.ref l)/\G l=some (.lst ((fl.flatMap (Rw.lets x)).map V.str))/\H l=none
 inj:∀ (x y:Str) (l:Addr),bP kvs (Sum.inr x:Key)=some (.ref l)->bP kvs (Sum.inr y:Key)=some (.ref l)->x=y
theorem BI.same {H G G':Hp}{d:Addr}{kvs:List (Key×V)}{fl:List Rw}{n:Nat}(b:BI H G d kvs fl n) (s:aS G G'):BI H G' d kvs fl n :=
 ⟨b.sm.trans s,b.nd,s _ _ b.dc,b.ln,fun x=>by
  rcases b.vl x with h | ⟨l,h1,h2,h3⟩
  ·exact .inl h
  ·exact .inr ⟨l,h1,s _ _ h2,h3⟩,b.inj⟩
theorem BI.bh {H G:Hp}{d:Addr}{kvs:List (Key×V)}{fl:List Rw}{n:Nat}(b:BI H G d kvs fl n):Bh G d fl:=⟨kvs,b.dc,fun x=>by
 rcases b.vl x with h | ⟨l,h1,h2,_⟩
 ·exact .inl h
 ·exact .inr ⟨l,h1,h2⟩⟩
theorem aG5 {α: Type}(f:Rw->List α) (fl:List Rw) (r:Rw):(fl++[r]).flatMap f=fl.flatMap f++f r:=by
 rw [fb];simp
theorem BI.skip {H G:Hp}{d:Addr}{kvs:List (Key×V)}{fl:List Rw}{n:Nat}{r:Rw}(b:BI H G d kvs fl n) (h:∀ x,r.lets x=[]):BI H G d kvs (fl++[r]) (n+1) :=
 ⟨b.sm,b.nd,b.dc,Nat.le_succ_of_le b.ln,fun x=>by rw [aG5,h x,fq];exact b.vl x,b.inj⟩
theorem BI.more {H G:Hp}{d l:Addr}{kvs:List (Key×V)}{fl:List Rw}{p:Addr}{x:Str}{t:Tm}{n:Nat}(b:BI H G d kvs fl n) (e:bP kvs (Sum.inr x:Key)=some (.ref l)) :
  BI H (aQ G l (.lst ((fl.flatMap (Rw.lets x)).map V.str++t.names.map V.str))) d kvs (fl++[.lt p x t]) n:=by
 have hx:G l=some (.lst ((fl.flatMap (Rw.lets x)).map V.str))/\H l=none:=by
  rcases b.vl x with ⟨h,_⟩ | ⟨l',h1,h2,h3⟩
  ·rw [h] at e;cases e
  ·rw [h1] at e;cases e;exact ⟨h2,h3⟩
 refine ⟨cP b.sm hx.2,b.nd,?_,b.ln,fun y=>?_,b.inj⟩
 ·rw [aI (dD b.dc hx.1 (by intro z;cases z))];exact b.dc
 ·rw [aG5]
  by_cases c:y=x
  ·subst c;refine .inr ⟨l,e,?_,hx.2⟩;rw [aD,show (Rw.lt p y t).lets y=t.names from ay rfl,bm]
  ·rw [show (Rw.lt p x t).lets y=[] from ak (fun z=>c z.symm),fq];rcases b.vl y with h | ⟨l',h1,h2,h3⟩
   ·exact .inl h
   ·refine .inr ⟨l',h1,?_,h3⟩;rw [aI (fun z=>c (b.inj y x l (by rw [<- z];exact h1) e))];exact h2
theorem BI.new {H G:Hp}{d l:Addr}{kvs:List (Key×V)}{fl:List Rw}{x:Str}{n:Nat}(b:BI H G d kvs fl n) (hl:G l=none) (e:bP kvs (Sum.inr x:Key)=none) :
  BI H (aQ (aQ G l (.lst [])) d (.dK (cX kvs (Sum.inr x:Key) (.ref l)))) d (cX kvs (Sum.inr x:Key) (.ref l)) fl (n+1):=by
 have n0:H l=none:=b.sm.free hl;have ne:d≠l:=aL b.dc hl;refine ⟨fun a o h=>?_,b.nd,aD,?_,fun y=>?_,fun y z l' h1 h2=>?_⟩
 ·rw [aI (aL h b.nd),aI (aL h n0)];exact b.sm _ _ h
 ·have:=bS kvs (Sum.inr x:Key) (.ref l);have:=b.ln
  lia
 ·rw [aP]
  by_cases c:y=x
  ·subst c;have ev:fl.flatMap (Rw.lets y)=[]:=by
    rcases b.vl y with ⟨_,h⟩ | ⟨l',h1,_⟩
    ·exact h
    ·rw [h1] at e;cases e
   refine .inr ⟨l,ay rfl,?_,n0⟩;rw [aI ne.symm,aD,ev];rfl
  ·rw [ak (fun z=>c (qu z))];rcases b.vl y with h | ⟨l',h1,h2,h3⟩
   ·exact .inl h
   ·refine .inr ⟨l',h1,?_,h3⟩;rw [aI (dD h2 b.dc (by intro z;cases z)),aI (aL h2 hl)];exact h2
 ·have fr:∀ w,bP kvs (Sum.inr w:Key)=some (.ref l)->False:=fun w h=>by
   rcases b.vl w with ⟨h1,_⟩ | ⟨l2,h1,h2,_⟩
   ·rw [h1] at h;cases h
   ·rw [h1] at h;cases h;rw [h2] at hl;cases hl
  rw [aP] at h1 h2
  by_cases c:y=x
  ·by_cases c2:z=x
   ·rw [c,c2]
   ·rw [ay (by rw [c])] at h1;rw [ak (fun q=>c2 (qu q))] at h2
    cases h1
    exact (fr z h2).elim
  ·rw [ak (fun q=>c (qu q))] at h1
   by_cases c2:z=x
   ·rw [ay (by rw [c2])] at h2
    cases h2
    exact (fr y h1).elim
   ·rw [ak (fun q=>c2 (qu q))] at h2;exact b.inj y z l' h1 h2
noncomputable def xM (fs:List Str):List (Key×V):=fs.map fun x=>((Sum.inr x:Key),V.bl true)
theorem aB6 (x:Str):∀ fs:List Str,bP (xM fs) (Sum.inr x:Key)=if x∈fs then some (.bl true) else none
 | []=>rfl
 | y :: r=>by
  show bP (((Sum.inr y:Key),V.bl true) :: xM r) (Sum.inr x:Key)=_
  by_cases c:y=x
  ·rw [dF (by rw [c]),ay (by rw [c];exact ao)]
  ·rw [cK (fun z=>c (qu z)),aB6 x r];have:x∈y :: r↔x∈r:=by rw [cf];exact ⟨fun h=>by rcases h with e | e;exact absurd e.symm c;exact e,.inr⟩
   simp only [this]
theorem bM1 {fs:List Str}{x:Str}(h:x∉fs):cX (xM fs) (Sum.inr x:Key) (.bl true)=xM (fs++[x]):=by
 rw [sX _ (by rw [aB6,ak h])];unfold xM;rw [bm];rfl
theorem bI3 (fs:List Str):(xM fs).map (fun e=>kV e.1)=fs.map V.str:=by
 unfold xM;rw [sr];rfl
theorem aT1 (fs:List Str):(xM fs).length=fs.length:=ac _
theorem BI.up {H G:Hp}{d:Addr}{kvs:List (Key×V)}{fl:List Rw}{n m:Nat}(b:BI H G d kvs fl n) (h:n<=m):BI H G d kvs fl m:=⟨b.sm,b.nd,b.dc,cu b.ln h,b.vl,b.inj⟩
theorem aK3 {xs:List Str}{fl:List Rw}{i:Nat}{x:Str}{t:Tm}{p:Addr}(ok:∀ r∈fl,OkR xs r) (hn:fl.length<=1300) (h:OkR xs (.lt p x t)):(((fl.take i).flatMap (Rw.lets x)).map V.str).length+(t.names.map V.str).length<=sizeLine:=by
 have h1:=oN (fl:=fl.take i) (fun r hr=>ok r (iy hr)) x;have h2:=h.asked.1;have h2:t.names.length<=7:=h2;rw [cp] at h1;rw [ac,ac];exact bu (uE (by lia))
theorem bJ5 {H:Hp}{a:Addr}{kvs:List (Key×V)}(e:H a=some (.dK kvs)):IsD H a:= .inl ⟨_,.inl e⟩
theorem yM {ss:List Str}{r:Rw}{x:Str}(h:r.sets=some x):lY ss r= !decide (x∈ss):=by unfold lY;rw [h]
theorem aA0 {ss:List Str}{r:Rw}(h:r.sets=none):lY ss r=false:=by unfold lY;rw [h]
theorem aI1 {H:Hp}{r:Rw}{x:Str}(h:fE H r) (e:r.sets=some x):∃ vs,H r.p=some (.tup (.str r.w :: .str x :: vs)):=by
 cases r with
 | thr p w y vs=>cases e;exact ⟨_,h.1⟩
 | lt p y t=>cases e;exact ⟨_,h.1⟩
 | tell p t=>cases e
 | when p pa pb t a b=>cases e
 | times p pb n b=>cases e
theorem mH (x:Str) (ss:List Str):(!mU (V.str x) (ss.map V.str))= !decide (x∈ss):=by rw [bW]
theorem at1 {v u:V}{r:List V}:jH (v :: u :: r) 1=some u:=by
 unfold jH ixN;rw [ay (by decide),ay (by rw [bo,bo];lia)];rfl
theorem jW.okf {H:Hp}{p:Addr}{xs:List Str}{rs:List Rw}(P:jW H p xs rs):∀ r∈bE rs,OkR xs r:=P.ok
theorem jW.fl {H:Hp}{p:Addr}{xs:List Str}{rs:List Rw}(P:jW H p xs rs):(bE rs).length<=1300:=by rw [eY];exact P.cnt
noncomputable def lc (s:Str):Nat:=s.cps.toList.getLast?.getD 0
theorem bF4 (a:Str) (c:Nat):lc (a++(⟨#[c]⟩:Str))=c:=by
 show (((a.cps++ #[c]).toList).getLast?).getD 0=c;rw [pz];simp
theorem aP7 {s:Nat}(h:s < 26):jH ("abcdefghijklmnopqrstuvwxyz": Str).cps.toList ((s:Int) % 26)=some (97+s):=by
 have e:((s:Int) % 26)=(s:Int):=Int.emod_eq_of_lt (by (exact ka _)) (by lia);rw [e];have:∀ n:Fin 26,jH ("abcdefghijklmnopqrstuvwxyz": Str).cps.toList ((n.val:Nat):Int)=some (97+n.val):=by decide +kernel
 exact this ⟨s,h⟩
theorem aS3 {s:Nat}(h:s < 26):jH ("abcdefghijklmnopqrstuvwxyz": Str).cps.toList ((s:Int) / 26 % 26)=some 97:=by
 have e:((s:Int) / 26 % 26)=0:=by lia
 rw [e]
 decide +kernel
noncomputable def mw (L:List Str) (s:Nat):Nat:=if s=0 then 24 else L.countP fun w=>decide (97+s<=lc w+1)
theorem bM6 {L:List Str}(h:L.length<=23) (s:Nat) (hs:s≠0):mw L s<=23:=by
 unfold mw;rw [ak hs];exact cu re h
theorem bD8 {L:List Str}(hL:L.length<=23) {s:Nat}{w:Str}(hw:w∈L) (hs:s=0\/lc w+1=97+s):mw L (s+1)+1<=mw L s:=by
 rcases hs with e | e
 ·subst e;have:=bM6 hL 1 (by decide);show mw L 1+1<=24
  lia
 ·unfold mw;rw [ak (by lia)]
  by_cases c:s=0
  ·rw [ay c];have:=re (p:=fun w=>decide (97+(s+1)<=lc w+1)) (l:=L)
   lia
  ·rw [ak c];clear hL c
   induction L with
   | nil=>exact absurd hw au
   | cons z r ih =>
    have mo:List.countP (fun w=>decide (97+(s+1)<=lc w+1)) r<=List.countP (fun w=>decide (97+s<=lc w+1)) r:=xr fun x _ hx=>ag (by have:=ai hx;lia)
    rw [mn,mn]
    by_cases d:w=z
    ·subst d;rw [ak (by simp;lia),ay (by simp;lia)]
     lia
    ·have:=ih (by rcases cf.mp hw with q | q;exact absurd q d;exact q)
     by_cases c1:97+(s+1)<=lc z+1
     ·rw [ay (by simpa using c1),ay (by simp;lia)];lia
     ·rw [ak (by simpa using c1)];split <;> lia
noncomputable def Rw.inn:Rw->List (Addr×List Rw)
 | .when _ pa pb _ a b=>[(pa,a),(pb,b)]
 | .times _ pb _ b=>[(pb,b)]
 | .thr _ _ _ _=>[]
 | .lt _ _ _=>[]
 | .tell _ _=>[]
theorem zJ (r:Rw):bE r.kids=r.inn.flatMap fun e=>bE e.2:=by
 cases r <;> simp [Rw.kids,Rw.inn,iA,bE]
theorem bU0 {H:Hp}{r:Rw}(h:fE H r) (c:r.w∈(["when","times"]:List Str)):∃ v,H r.p=some (.tup (.str r.w :: v :: r.inn.map fun e=>V.ref e.1))/\∀ e∈r.inn,H e.1=some (.tup (cL e.2))/\bN H e.2/\bY e.2<=r.cnt/\fK e.2+1<=tG r:=by
 cases r with
 | when p pa pb t a b =>
  refine ⟨_,h.1,fun e he=>?_⟩;simp only [Rw.inn,List.mem_cons,List.not_mem_nil,or_false] at he;rcases he with rfl | rfl
  ·exact ⟨h.2.2.1,h.2.2.2.2.1,by simp only [Rw.cnt];lia,by simp only [tG];lia⟩
  ·exact ⟨h.2.2.2.1,h.2.2.2.2.2,by simp only [Rw.cnt];lia,by simp only [tG];lia⟩
 | times p pb n b =>
  refine ⟨_,h.1,fun e he=>?_⟩;simp only [Rw.inn,List.mem_cons,List.not_mem_nil,or_false] at he;rcases he with rfl
  exact ⟨h.2.1,h.2.2,by simp only [Rw.cnt];(exact oqJ),by simp only [tG];lia⟩
 | thr p w x vs =>
  have hw:w∈dY:=iP.w h.2;have c:w∈(["when","times"]:List Str):=c;simp only [List.mem_cons,List.not_mem_nil,or_false] at c;rcases c with e | e <;> (rw [e] at hw;exact absurd hw (by decide +kernel))
 | lt p y t=>exact absurd (show ("let": Str)∈(["when","times"]:List Str) from c) (by decide +kernel)
 | tell p t=>exact absurd (show ("tell": Str)∈(["when","times"]:List Str) from c) (by decide +kernel)
theorem bE6 {r:Rw}(c:¬ r.w∈(["when","times"]:List Str)):r.kids=[]:=by
 cases r with
 | when p pa pb t a b=>exact absurd (show ("when": Str)∈(["when","times"]:List Str) from ao) c
 | times p pb n b=>exact absurd (show ("times": Str)∈(["when","times"]:List Str) from aq _ ao) c
 | _=>rfl
theorem bD0 (a b:V) (r:List V):gK (a :: b :: r) (some 2) none=r:=by
 unfold gK;rw [show HT.sIx (a :: b :: r).length 0 (some 2)=2 from by rw [show (2:Int)=((2:Nat):Int) from rfl,HT.sIx_nat,bo,bo];lia,show HT.sIx (a :: b :: r).length (a :: b :: r).length none=(a :: b :: r).length from rfl];show List.take ((a :: b :: r).length - 2) r=r;rw [List.take_of_length_le (by simp)]
theorem aE2 (a b:V) (r:List V):¬ (HT.sIx (a :: b :: r).length 0 (some 2)=0/\HT.sIx (a :: b :: r).length (a :: b :: r).length none=(a :: b :: r).length):=by
 rw [show HT.sIx (a :: b :: r).length 0 (some 2)=2 from by rw [show (2:Int)=((2:Nat):Int) from rfl,HT.sIx_nat,bo,bo];lia];exact fun z=>absurd z.1 (by decide)
theorem bD6 {H:Hp}{r:Rw}(h:fE H r):decide (r.w∈(["ladder","flat","choose","first","let"]:List Str))=r.sets.isSome:=by
 cases r with
 | thr p w x vs =>
  have hw:w∈dY:=iP.w h.2;refine ag (show w∈(["ladder","flat","choose","first","let"]:List Str) from ?_);unfold dY at hw;simp only [List.mem_cons,List.not_mem_nil,or_false] at hw ⊢;rcases hw with e | e | e | e <;> simp [e]
 | lt p x t=>show decide (("let": Str)∈(["ladder","flat","choose","first","let"]:List Str))=true;decide +kernel
 | tell p t=>show decide (("tell": Str)∈(["ladder","flat","choose","first","let"]:List Str))=false;decide +kernel
 | when p pa pb t a b=>show decide (("when": Str)∈(["ladder","flat","choose","first","let"]:List Str))=false;decide +kernel
 | times p pb n b=>show decide (("times": Str)∈(["ladder","flat","choose","first","let"]:List Str))=false;decide +kernel
theorem vE {rs:List Rw}{i:Nat}{r:Rw}(h:rs[i]?=some r):bE (rs.take (i+1))=bE (rs.take i)++(r :: bE r.kids):=by
 rw [aT h,iA];show _++(r.flat++[])=_;rw [fq,vQ]
theorem yL {rs:List Rw}(i:Nat):bY (rs.take i)<=bY rs:=by
 have:=jK (rs.take i) (rs.drop i);rw [fw] at this
 lia
theorem aU2 {fl:List Rw}{i:Nat}{r:Rw}(h:fl[i]?=some r) (F:List Str):rnd (fl.take (i+1)) F=st1 (rnd (fl.take i) F) r:=by
 rw [aT h];unfold rnd;rw [qq];rfl
noncomputable def wW (nl:Addr) (kd:Int):List (Key×V):=[(Sum.inr "names",.ref nl),(Sum.inr "kinds",.int kd),(Sum.inr "wide",.int 4),(Sum.inr "left",.int 4),(Sum.inr "room",.int 12),(Sum.inr "quiet",.bl false),(Sum.inr "far",.int 4)]
theorem aV2 (nl:Addr) {kd:Int}(h0:0<=kd) (h1:kd<=3):Wk (fU [] (wW nl kd)) nl kd 4:=by
 unfold fU wW;simp only [List.foldl_cons,List.foldl_nil];refine ⟨?_,by rw [aP,ak (by decide +kernel),aP,ak (by decide +kernel),aP,ak (by decide +kernel),aP,ak (by decide +kernel),aP,ak (by decide +kernel),aP,ak (by decide +kernel),aP,ay rfl],⟨by rw [aP,ak (by decide +kernel),aP,ak (by decide +kernel),aP,ak (by decide +kernel),aP,ak (by decide +kernel),aP,ak (by decide +kernel),aP,ay rfl],h0,h1⟩,by rw [aP,ak (by decide +kernel),aP,ak (by decide +kernel),aP,ak (by decide +kernel),aP,ak (by decide +kernel),aP,ay rfl],⟨by rw [aP,ak (by decide +kernel),aP,ak (by decide +kernel),aP,ak (by decide +kernel),aP,ay rfl],by decide⟩,⟨12,by rw [aP,ak (by decide +kernel),aP,ak (by decide +kernel),aP,ay rfl]⟩,⟨false,by rw [aP,ak (by decide +kernel),aP,ay rfl]⟩,⟨4,by rw [aP,ay rfl]⟩⟩;have l1:=bS ([]:List (Key×V)) (Sum.inr "names": Key) (.ref nl)
 have l2:=bS (cX ([]:List (Key×V)) (Sum.inr "names": Key) (.ref nl)) (Sum.inr "kinds": Key) (.int kd);generalize cX (cX ([]:List (Key×V)) (Sum.inr "names": Key) (.ref nl)) (Sum.inr "kinds": Key) (.int kd)=z2 at l2 ⊢;have l3:=bS z2 (Sum.inr "wide": Key) (.int 4);generalize cX z2 (Sum.inr "wide": Key) (.int 4)=z3 at l3 ⊢;have l4:=bS z3 (Sum.inr "left": Key) (.int 4);generalize cX z3 (Sum.inr "left": Key) (.int 4)=z4 at l4 ⊢;have l5:=bS z4 (Sum.inr "room": Key) (.int 12);generalize cX z4 (Sum.inr "room": Key) (.int 12)=z5 at l5 ⊢;have l6:=bS z5 (Sum.inr "quiet": Key) (.bl false);generalize cX z5 (Sum.inr "quiet": Key) (.bl false)=z6 at l6 ⊢;have l7:=bS z6 (Sum.inr "far": Key) (.int 4);rw [jc] at l1
 lia
theorem cN3 {xs:List Str}(h:xs.length=7):∃ (y:Str) (ys:List Str),gK (xs.map V.str) (some 3) none=(y :: ys).map V.str/\ys.length=3/\jH (xs.map V.str) 3=some (.str y):=by
 match xs,h with
 | [a,b,c,d,e,f,g],_=>exact ⟨d,[e,f,g],rfl,rfl,rfl⟩
theorem Lt.app {x y:Str}(a:Lt x) (b:Lt y):Lt (x++y):=fun c hc=>by
 have hc:c∈(x.cps++y.cps).toList:=hc;rw [pz] at hc;rcases cg.mp hc with e | e
 ·exact a c e
 ·exact b c e
theorem Lt.one {c:Nat}(h:c < 200):Lt ⟨#[c]⟩:=fun d hd=>by
 have:d=c:=by simpa using hd
 lia
theorem aP1 {r:Int}{c:Nat}(h:jH ("abcdefghijklmnopqrstuvwxyz": Str).cps.toList r=some c):c < 200:=by
 unfold jH at h;obtain ⟨j,_,hj⟩:=Option.bind_eq_some_iff.mp h;have m:=be hj;have:∀ c∈("abcdefghijklmnopqrstuvwxyz": Str).cps.toList,c < 200:=by decide +kernel
 exact this c m
theorem zU:∀ {ys:List Str}{a:Array Nat},(∀ c∈a.toList,c < 200)->(∀ y∈ys,Lt y)->∀ c∈(ys.foldl (fun acc p=>acc++("": Str).cps++p.cps) a).toList,c < 200
 | [],a,h,_=>h
 | y :: r,a,h,k=>by
  rw [gm];refine zU (fun c hc=>?_) fun z hz=>k z (aq _ hz)
  rw [pz,pz] at hc;rcases cg.mp hc with e | e
  ·rcases cg.mp e with e | e
   ·exact h c e
   ·exact absurd e (by show ¬ c∈([]:List Nat);exact au)
  ·exact k y ao c e
theorem bG3 {zs:List Str}(h:∀ z∈zs,Lt z):Lt (Txt.join "" zs):=by
 cases zs with
 | nil=>exact fun c hc=>absurd hc (by show ¬ c∈([]:List Nat);exact au)
 | cons y r=>exact zU (h y ao) fun z hz=>h z (aq _ hz)
theorem aV8 {x:Str}(h:Lt x) (lo hi:Option Int):Lt (Txt.slice x lo hi):=by
 unfold Txt.slice
 split
 ·exact h
 ·intro c hc;have hc:c∈List.filterMap (fun i=>x.cps[i]?) (Builtin.Str.strSliceIndices lo hi 1 x.length):=by simpa using hc
  obtain ⟨i,_,e⟩:=uj.mp hc;exact h c (by
   have:=ki (xs:=x.cps) (i:=i);rw [e] at this;exact be this)
theorem bY2 {x:Int}(x0:0<=x) (x1:x < 5):∃ w:Int,jH [V.int 0,V.int 1,V.int 1,V.int 2,V.int 3] x=some (.int w)/\0<=w/\w<=3:=by
 obtain rfl | rfl | rfl | rfl | rfl:x=0\/x=1\/x=2\/x=3\/x=4:=by lia
 ·exact ⟨0,rfl,by decide,by decide⟩
 ·exact ⟨1,rfl,by decide,by decide⟩
 ·exact ⟨1,rfl,by decide,by decide⟩
 ·exact ⟨2,rfl,by decide,by decide⟩
 ·exact ⟨3,rfl,by decide,by decide⟩
noncomputable def eZ:List Int:=[2,3,5,7]
noncomputable def ND (i:Nat) (p q:Int):Prop:=∀ e∈eZ.take i,¬ (p % e=0/\q % e=0)
theorem ND.div {i:Nat}{p q e:Int}(e0:0 < e) (hp:p % e=0) (hq:q % e=0) (h:ND i p q):ND i (p / e) (q / e):=fun d hd ⟨a,b⟩=>by
 refine h d hd ⟨?_,?_⟩
 ·obtain ⟨c,hc⟩:=iz a;have e1:p=e * (p / e):=(pd (iz hp)).symm;rw [e1,hc];exact wj ⟨e * c,by grind⟩
 ·obtain ⟨c,hc⟩:=iz b;have e1:q=e * (q / e):=(pd (iz hq)).symm;rw [e1,hc];exact wj ⟨e * c,by grind⟩
theorem ND.more {i:Nat}{p q e:Int}(he:eZ[i]?=some e) (h:ND i p q) (n:¬ (p % e=0/\q % e=0)):ND (i+1) p q:=fun d hd=>by
 rw [aT he] at hd;rcases cg.mp hd with z | z
 ·exact h d z
 ·rw [ax.mp z];exact n
theorem bC5:∀ p q:Fin 10,(∀ e∈([2,3,5,7]:List Nat),¬ (p.val % e=0/\q.val % e=0))->1<=p.val->Nat.gcd p.val q.val=1:=by decide +kernel
theorem ND.cop {p q:Int}(h:ND 4 p q) (p1:1<=p) (pq:p < q) (q9:q<=9):tY p q:=by
 refine ⟨⟨p1,pq,q9⟩,?_⟩;refine bC5 ⟨p.toNat,by lia⟩ ⟨q.toNat,by lia⟩ ?_ (by show 1<=p.toNat;lia);rintro e he ⟨a,b⟩;have a:p.toNat % e=0:=a;have b:q.toNat % e=0:=b;simp only [List.mem_cons,List.not_mem_nil,or_false] at he;rcases he with rfl | rfl | rfl | rfl
 ·exact h 2 (by show (2:Int)∈eZ;unfold eZ;simp) ⟨by lia,by lia⟩
 ·exact h 3 (by show (3:Int)∈eZ;unfold eZ;simp) ⟨by lia,by lia⟩
 ·exact h 5 (by show (5:Int)∈eZ;unfold eZ;simp) ⟨by lia,by lia⟩
 ·exact h 7 (by show (7:Int)∈eZ;unfold eZ;simp) ⟨by lia,by lia⟩
theorem bZ0 {p q e:Int}(e0:2<=e) (hp:p % e=0) (hq:q % e=0) (p1:1<=p) (pq:p < q):1<=p / e/\p / e < q / e/\q / e < q:=by
 have e1:p=e * (p / e):=(pd (iz hp)).symm;have e2:q=e * (q / e):=(pd (iz hq)).symm;generalize p / e=a at *;generalize q / e=b at *;have a1:1<=a:=by
  rcases (show 0 < a\/a<=0 by lia) with z | z
  ·lia
  ·have:=jv z (show 0<=e by (exact oqb))
   lia
 have ab:a < b:=by
  rcases (show a < b\/b<=a by lia) with z | z
  ·exact z
  ·have:=jv z (show 0<=e by (exact oqb))
   lia
 refine ⟨a1,ab,?_⟩;have:=Int.mul_le_mul_of_nonneg_right e0 (show 0<=b by lia)
 lia
theorem aD7 {α: Type}{l:List α}(h:1<=l.length):∃ a r,l=a :: r:=by
 cases l with
 | nil=>cases h
 | cons a r=>exact ⟨a,r,rfl⟩
theorem aG6 {xs:List V}{r:Int}(h0:0<=r) (h1:r<=xs.length):gK xs none (some r)=xs.take r.toNat:=by
 unfold gK;rw [show r=((r.toNat:Nat):Int) by lia,HT.sIx_nat,HT.sIx_none,List.drop_zero,zw,cq,Nat.min_eq_left (by lia)]
noncomputable abbrev Fr:=Int×Int
noncomputable abbrev Prc:=Fr×Fr
noncomputable def dR (c w:Int):Fr:=(fH c w,eM c w)
theorem aJ3 {a b c d:Int}(ha:0<=a) (hb:1<=b) (hc:0<=c) (hd:1<=d) (h:a * d=c * b):dR a b=dR c d:=by
 have e:=aD4 ha hb hc hd h;unfold dR;rw [e.1,e.2]
noncomputable def yQ (u e:Fr):Fr:=dR (u.1 * e.2+e.1 * u.2) (u.2 * e.2)
noncomputable def fQ (u e:Fr):Fr:=dR (u.1 * e.1) (u.2 * e.2)
structure xF (u:Fr):Prop where
 a:0<=u.1
 b:1<=u.2
 l:dR u.1 u.2=u
theorem kR {a b:Int}(ha:0<=a) (hb:1<=b):xF (dR a b):=by
 have e:=bF0 ha hb;refine ⟨gN ha,jB hb,?_⟩;show (fH (fH a b) (eM a b),eM (fH a b) (eM a b))=(fH a b,eM a b)
 rw [e.1,e.2]
theorem aG7:xF (1,1):=⟨by decide,by decide,by decide +kernel⟩
theorem qQ:xF (0,1):=⟨by decide,by decide,by decide +kernel⟩
theorem bI8 {u e:Fr}(hu:xF u) (he:xF e):xF (fQ u e):=by
 refine kR (di hu.a he.a) ?_;have:=gu (show 0 < u.2 by have:=hu.b;(exact oqe)) (show 0 < e.2 by have:=he.b;(exact oqe))
 lia
theorem bI1 {u e:Fr}(hu:xF u) (he:xF e):xF (yQ u e):=by
 have a1:=hu.a;have a2:=hu.b;have b1:=he.a;have b2:=he.b;have m1:=di a1 (show 0<=e.2 by (exact oqb));have m2:=di b1 (show 0<=u.2 by (exact oqb));have:=gu (show 0 < u.2 by (exact oqe)) (show 0 < e.2 by (exact oqe));exact kR (by lia) (by lia)
theorem bE3 {u:Fr}(h:xF u):fQ u (1,1)=u:=by
 show dR (u.1 * 1) (u.2 * 1)=u;rw [pi,pi];exact h.l
theorem bI6 {u:Fr}(h:xF u):fQ (1,1) u=u:=by
 show dR (1 * u.1) (1 * u.2)=u;rw [uh,uh];exact h.l
theorem aY9 {u:Fr}(h:xF u):yQ u (0,1)=u:=by
 show dR (u.1 * 1+0 * u.2) (u.2 * 1)=u;rw [pi,pi,Int.zero_mul,Int.add_zero];exact h.l
theorem aZ9 {u:Fr}(h:xF u):yQ (0,1) u=u:=by
 show dR (0 * u.2+u.1 * 1) (1 * u.2)=u;rw [pi,uh,Int.zero_mul,su];exact h.l
structure fV (n:Nat) (u:Fr):Prop where
 a:0<=u.1
 b:1<=u.2
 ba:bT n u.1
 bb:bT n u.2
theorem fV.mono {m n:Nat}{u:Fr}(h:fV m u) (l:m<=n):fV n u:=⟨h.a,h.b,h.ba.mono l,h.bb.mono l⟩
theorem rP {n:Nat}{a w:Int}(a0:0<=a) (a1:bT n a) (w1:1<=w) (w2:bT n w):fV n (dR a w):=by
 have p1:=gN (b:=w) a0;have p2:=jB (a:=a) w1;have p3:=aK8 (b:=w) a0 w1;have p4:=aK2 (a:=a) w1;refine ⟨p1,p2,bz ?_ a1,bz ?_ w2⟩
 ·show (fH a w).natAbs<=a.natAbs
  lia
 ·show (eM a w).natAbs<=w.natAbs
  lia
theorem bZ3 {m n:Nat}{u e:Fr}(hu:fV m u) (he:fV n e):fV (m+n) (fQ u e):=by
 refine rP (di hu.a he.a) (hu.ba.mul he.ba) ?_ (hu.bb.mul he.bb);have:=gu (show 0 < u.2 by have:=hu.b;(exact oqe)) (show 0 < e.2 by have:=he.b;(exact oqe))
 lia
theorem cB7 {m n:Nat}{u e:Fr}(hu:fV m u) (he:fV n e):fV (m+n+1) (yQ u e):=by
 have a1:=hu.a;have a2:=hu.b;have b1:=he.a;have b2:=he.b;have m1:=di a1 (show 0<=e.2 by (exact oqb));have m2:=di b1 (show 0<=u.2 by (exact oqb));have:=gu (show 0 < u.2 by (exact oqe)) (show 0 < e.2 by (exact oqe));exact rP (by lia) ((hu.ba.mul he.bb).add ((he.ba.mul hu.bb).mono (by lia))) (by lia) ((hu.bb.mul he.bb).mono (by (exact jy _)))
noncomputable def free:Prc:=((1,1),(0,1))
structure fZ (p:Prc):Prop where
 f:xF p.1
 r:xF p.2
theorem fG:fZ free:=⟨aG7,qQ⟩
noncomputable def kB (acc p:Prc):Prc:=(fQ acc.1 p.1,yQ acc.2 p.2)
noncomputable def fF (ps:List Prc):Prc:=ps.foldl kB free
theorem mY (ps:List Prc) (p:Prc):fF (ps++[p])=kB (fF ps) p:=by unfold fF;rw [qq];rfl
theorem nE {a p:Prc}(h:fZ a) (k:fZ p):fZ (kB a p):=⟨bI8 h.f k.f,bI1 h.r k.r⟩
theorem yT:∀ {ps:List Prc}{a:Prc},fZ a->(∀ p∈ps,fZ p)->fZ (ps.foldl kB a)
 | [],_,h,_=>h
 | p :: ps,a,h,k=>by
  rw [gm];exact yT (ps:=ps) (nE h (k p ao)) fun q hq=>k q (aq _ hq)
theorem nO {ps:List Prc}(h:∀ p∈ps,fZ p):fZ (fF ps):=yT fG h
noncomputable def kC (a b:Fr):Fr:=if a.1 * b.2 < b.1 * a.2 then b else a
noncomputable def sJ (a b:Prc):Prc:=(kC a.1 b.1,kC a.2 b.2)
theorem jM (a b:Fr):kC a b=a\/kC a b=b:=by unfold kC;split;exact .inr rfl;exact .inl rfl
theorem aZ4 {a b:Prc}(h:fZ a) (k:fZ b):fZ (sJ a b):=by
 refine ⟨?_,?_⟩
 ·show xF (kC a.1 b.1);rcases jM a.1 b.1 with e | e <;> rw [e];exact h.f;exact k.f
 ·show xF (kC a.2 b.2);rcases jM a.2 b.2 with e | e <;> rw [e];exact h.r;exact k.r
noncomputable def kT (n:Nat) (a:Prc):Prc:=((a.1.1 ^ n,a.1.2 ^ n),dR (a.2.1 * n) (a.2.2 * 1))
theorem aI2 {x y:Int}(hx:0<=x) (hy:1<=y) (h:dR x y=(x,y)) (n:Nat):dR (x ^ n) (y ^ n)=(x ^ n,y ^ n):=by
 obtain ⟨a,rfl⟩:=gc hx;obtain ⟨b,rfl⟩:=gc (show 0<=y by (exact oqb));have b0:0 < b:=by lia
 have g1:Nat.gcd a b=1:=by
  have e:eM (a:Int) (b:Int)=(b:Int):=(Prod.mk.inj h).2;unfold eM gI at e;rw [cq,cq, <- Int.natCast_ediv] at e;have e:b / Nat.gcd a b=b:=Int.ofNat_inj.mp e;have gp:0 < Nat.gcd a b:=vx _ b0;have d:=Nat.gcd_dvd_right a b;have m:=Nat.div_mul_cancel d;rw [e] at m;have:b * Nat.gcd a b=b * 1:=by rw [m,Nat.mul_one]
  exact Nat.eq_of_mul_eq_mul_left b0 this
 have g2:Nat.gcd (a ^ n) (b ^ n)=1:=by
  have:Nat.Coprime a b:=g1;exact Nat.Coprime.pow n n this
 unfold dR fH eM gI;rw [<- Int.natCast_pow, <- Int.natCast_pow,cq,cq,g2];simp
theorem vO {a:Prc}(h:fZ a):∀ n:Nat,fF (List.replicate n a)=kT n a
 | 0=>by
  show free=_;unfold kT free;have e:dR (a.2.1 * ((0:Nat):Int)) (a.2.2 * 1)=(0,1):=by
   have:=aJ3 (a:=a.2.1 * ((0:Nat):Int)) (b:=a.2.2 * 1) (c:=0) (d:=1) (by lia) (by have:=h.r.b;lia) (by decide) (by decide) (by simp);rw [this];decide +kernel
  rw [e,mj,mj]
 | n+1=>by
  rw [sv,mY,vO h n];have h1:=h.f.a;have h2:=h.f.b;have h3:=h.r.a;have h4:=h.r.b;unfold kB kT;refine yf ?_ ?_
  ·show fQ (a.1.1 ^ n,a.1.2 ^ n) a.1=(a.1.1 ^ (n+1),a.1.2 ^ (n+1))
   show dR (a.1.1 ^ n * a.1.1) (a.1.2 ^ n * a.1.2)=_;rw [<- jp, <- jp];exact aI2 h1 h2 h.f.l (n+1)
  ·show yQ (dR (a.2.1 * (n:Int)) (a.2.2 * 1)) a.2=dR (a.2.1 * ((n+1:Nat):Int)) (a.2.2 * 1);have n0:=di h3 (show 0<=(n:Int) by (exact ka _));have r:=oE (a:=a.2.1 * (n:Int)) (b:=a.2.2 * 1) n0 (by lia);have q1:=gN (b:=a.2.2 * 1) n0;have q2:=jB (a:=a.2.1 * (n:Int)) (show 1<=a.2.2 * 1 by lia);show dR (fH (a.2.1 * (n:Int)) (a.2.2 * 1) * a.2.2+a.2.1 * eM (a.2.1 * (n:Int)) (a.2.2 * 1)) (eM (a.2.1 * (n:Int)) (a.2.2 * 1) * a.2.2)=_;generalize fH (a.2.1 * (n:Int)) (a.2.2 * 1)=x at *;generalize eM (a.2.1 * (n:Int)) (a.2.2 * 1)=y at *;have m1:=di q1 (show 0<=a.2.2 by (exact oqb));have m2:=di h3 (show 0<=y by (exact oqb));have m3:=gu (show 0 < y by (exact oqe)) (show 0 < a.2.2 by (exact oqe));refine aJ3 (by lia) (by lia) (di h3 (by (exact ka _))) (by lia) ?_;rw [wp];rw [pi] at r ⊢;generalize (n:Int)=N at *
   grind
noncomputable def bG9 (ns:List Int):Int:=ns.foldl max 0
theorem oI:∀ (ns:List Int) (a:Int),a<=ns.foldl max a/\(∀ n∈ns,n<=ns.foldl max a)/\(ns.foldl max a=a\/ns.foldl max a∈ns)
 | [],a=>⟨pw _,fun _ h=>absurd h au,.inl rfl⟩
 | m :: ns,a=>by
  obtain ⟨h1,h2,h3⟩:=oI ns (max a m);rw [gm];refine ⟨by lia,fun n hn=>?_,?_⟩
  ·rcases cf.mp hn with rfl | hn
   ·lia
   ·exact h2 n hn
  ·rcases h3 with e | e
   ·rcases (show max a m=a\/max a m=m by lia) with z | z
    ·left;rw [e,z]
    ·right;rw [e,z];exact ao
   ·exact .inr (aq _ e)
theorem bH8 {ns:List Int}(h0:∀ n∈ns,0<=n) {i:Int}(hi:i∈ns) (hb:∀ n∈ns,n<=i):i=bG9 ns:=by
 obtain ⟨h1,h2,h3⟩:=oI ns 0;have a:=h2 i hi;have b:=h0 i hi;unfold bG9;rcases h3 with e | e
 ·lia
 ·have:=hb _ e;lia
noncomputable def wK (d:TD) (k:Nat):Int:=bG9 (d.wss.map fun ws=>ws.getD k 0)
theorem aK9 {d:TD}(h:bD9 d) (k:Nat):0<=wK d k/\wK d k<=3:=by
 obtain ⟨h1,h2,h3⟩:=oI (d.wss.map fun ws=>ws.getD k 0) 0;refine ⟨h1,?_⟩;unfold wK bG9;rcases h3 with e | e
 ·lia
 ·obtain ⟨ws,hw,e2⟩:=cy.mp e;rw [<- e2,dw]
  cases q:ws[k]? with
  | none=>exact by decide
  | some y=>exact ((h.ws ws hw).2 y (be q)).2
noncomputable def lV (T:Thw) (w:Int):Prc:=if w=0 then free else match T with
 | .lad p q _ _=>((q ^ w.toNat,p ^ w.toNat),(0,1))
 | .fla r _ _=>((1,1),dR (if 2 * r+1 < w then 2 * r+1 else w) (2 * r+1))
 | .cho p q _ _=>((q ^ w.toNat,p ^ w.toNat),(0,1))
 | .fst pa qa pb qb mk _ hi=>(dR (qa ^ w.toNat * qb ^ (2 * w).toNat) (pa ^ w.toNat * pb ^ (2 * w).toNat),dR (tN pa qa (hi - w - mk)) (tD pa qa (hi - w - mk)))
theorem pw1 {p:Int}(h:1<=p) (n:Nat):1<=p ^ n:=by have:0 < p ^ n:=xf (by (exact oqe));lia
theorem b4 {p:Int}(h0:0<=p) (h9:p<=9):bT 4 p:= .of h0 (by (exact oqc))
theorem pwb {p:Int}(h0:0<=p) (h9:p<=9) {n:Nat}(hn:n<=6):bT 25 (p ^ n):=(bT.pow (b4 h0 h9) n).mono (by lia)
theorem tY.low {p q:Int}(c:tY p q):dR q p=(q,p):=by
 have p1:=c.st.p1;have pq:=c.st.pq;unfold dR fH eM gI;rw [zt,c.co];simp
theorem cD7 {p q k:Int}(s:vB p q) (k0: -3<=k) (k9:k<=9):bT 42 (tD p q k)/\1<=tD p q k/\0<=tN p q k/\tN p q k<=tD p q k:=by
 have p1:=s.p1;have pq:=s.pq;have q9:=s.q9;have sb:∀ n:Nat,n<=9->bT 42 (oW p q n):=fun n hn=>by
  unfold oW;exact ((bT.of (n:=5) (i:=q+p) (by lia) (by lia)).mul (bT.pow (b4 (p:=q) (by lia) q9) n)).mono (by lia)
 refine ⟨?_,bQ0 p1 pq k,cB1 p1 pq k,?_⟩
 ·unfold tD
  split
  ·exact sb _ (by lia)
  ·exact sb _ (by lia)
 ·unfold tN tD
  split
  ·exact aI3 p1 pq _
  ·have:=bJ6 p1 pq (1 - k).toNat;lia
theorem aW0 {T:Thw}(h:T.Ok) {w:Int}(w0:0<=w) (w3:w<=3):fZ (lV T w)/\fV 60 (lV T w).1/\fV 60 (lV T w).2:=by
 have b1:fV 60 ((1,1):Fr):=⟨by decide,by decide,by unfold bT;decide,by unfold bT;decide⟩
 have b0:fV 60 ((0,1):Fr):=⟨by decide,by decide,by unfold bT;decide,by unfold bT;decide⟩
 unfold lV
 split
 ·exact ⟨fG,b1,b0⟩
 have lc:∀ {p q:Int},tY p q->xF (q ^ w.toNat,p ^ w.toNat)/\fV 60 (q ^ w.toNat,p ^ w.toNat):=fun {p q} c=>by
  have p1:=c.st.p1;have pq:=c.st.pq;have q9:=c.st.q9;have e:=aI2 (x:=q) (y:=p) (by lia) p1 c.low w.toNat;exact ⟨⟨fz (by lia),pw1 p1 _,e⟩,⟨fz (by lia),pw1 p1 _,(pwb (by lia) q9 (by lia)).mono (by decide),(pwb (by (exact oqb)) (by lia) (by lia)).mono (by decide)⟩⟩
 cases T with
 | lad p q lo hi=>have c:=lc h;exact ⟨⟨c.1,qQ⟩,c.2,b0⟩
 | cho p q lo hi=>have c:=lc h;exact ⟨⟨c.1,qQ⟩,c.2,b0⟩
 | fla r lo hi =>
  obtain ⟨r0,r4⟩:=h;have m0:0<=(if 2 * r+1 < w then 2 * r+1 else w)/\(if 2 * r+1 < w then 2 * r+1 else w)<=3:=by split <;> lia
  refine ⟨⟨aG7,kR m0.1 (by lia)⟩,b1,rP m0.1 (.of m0.1 (by lia)) (by lia) (.of (by lia) (by lia))⟩
 | fst pa qa pb qb mk lo hi =>
  obtain ⟨ca,cb,k0,k9⟩:=h;have p1:=ca.st.p1;have pq:=ca.st.pq;have q9:=ca.st.q9;have p1':=cb.st.p1;have pq':=cb.st.pq;have q9':=cb.st.q9;have t:=cD7 ca.st (k:=hi - w - mk) (by lia) (by lia);have m1:0<=qa ^ w.toNat * qb ^ (2 * w).toNat:=di (fz (by lia)) (fz (by lia));have m2:1<=pa ^ w.toNat * pb ^ (2 * w).toNat:=by
   have:=gu (show 0 < pa ^ w.toNat by have:=pw1 p1 w.toNat;(exact oqe)) (show 0 < pb ^ (2 * w).toNat by have:=pw1 p1' (2 * w).toNat;(exact oqe))
   lia
  have bn:bT 60 (tN pa qa (hi - w - mk)):=bz (show (tN pa qa (hi - w - mk)).natAbs<=(tD pa qa (hi - w - mk)).natAbs by lia) (t.1.mono (by decide));exact ⟨⟨kR m1 m2,kR t.2.2.1 t.2.1⟩,rP m1 (((pwb (by lia) q9 (by lia)).mul (pwb (by lia) q9' (by lia))).mono (by decide)) m2 (((pwb (by (exact oqb)) (by lia) (by lia)).mul (pwb (by (exact oqb)) (by lia) (by lia))).mono (by decide)),rP t.2.2.1 bn t.2.1 (t.1.mono (by decide))⟩
mutual
noncomputable def mB (ss:List Str) (k:Nat):Rw->Prc
 | .thr _ _ x d=>if x∈ss then lV d.T (wK d k) else free
 | .lt _ _ _=>free
 | .tell _ _=>free
 | .when _ _ _ _ a b=>sJ (fF (tK ss k a)) (fF (tK ss k b))
 | .times _ _ n b=>kT n.toNat (fF (tK ss k b))
noncomputable def tK (ss:List Str) (k:Nat):List Rw->List Prc
 | []=>[]
 | r :: rs=>mB ss k r :: tK ss k rs
end
theorem lI (ss:List Str) (k:Nat):∀ rs:List Rw,tK ss k rs=rs.map (mB ss k)
 | []=>rfl
 | r :: rs=>by simp only [tK,List.map_cons,lI ss k rs]
noncomputable def iL (ss:List Str) (k:Nat) (rs:List Rw):Prc:=fF (tK ss k rs)
noncomputable def bdL (n:Nat):Nat:=80 * n - 10
structure PB (n:Nat) (p:Prc):Prop where
 z:n=0->p=free
 f:1<=n->fV (bdL n) p.1
 r:1<=n->fV (bdL n) p.2
theorem fb1 {n:Nat}(h:1<=n):fV n ((1,1):Fr)/\fV n ((0,1):Fr):=by
 have b:∀ i:Int,i.natAbs<=1->bT n i:=fun i hi=>by
  unfold bT;have:2 ^ 1<=2 ^ n:=oz (by decide) h
  lia
 exact ⟨⟨by decide,by decide,b _ (by decide),b _ (by decide)⟩,⟨by decide,by decide,b _ (by decide),b _ (by decide)⟩⟩
theorem PB.up {m n:Nat}{p:Prc}(h:PB m p) (l:m<=n) (n1:1<=n):fV (bdL n) p.1/\fV (bdL n) p.2:=by
 by_cases c:m=0
 ·rw [h.z c];have:=fb1 (n:=bdL n) (by unfold bdL;lia);exact ⟨this.1,this.2⟩
 ·exact ⟨(h.f (by lia)).mono (by unfold bdL;lia),(h.r (by lia)).mono (by unfold bdL;lia)⟩
theorem PB.step {m n:Nat}{a p:Prc}(ha:PB m a) (hp:PB n p) (ra:fZ a) (rp:fZ p):PB (m+n) (kB a p):=by
 by_cases c:n=0
 ·have e:kB a p=a:=by rw [hp.z c];exact yf (bE3 ra.f) (aY9 ra.r)
  rw [e,c];exact ha
 ·by_cases d:m=0
  ·have e:kB a p=p:=by rw [ha.z d];exact yf (bI6 rp.f) (aZ9 rp.r)
   rw [e,d,vy];exact hp
  ·have b1:=ha.f (by lia);have b2:=ha.r (by lia);have b3:=hp.f (by lia);have b4:=hp.r (by lia);exact ⟨fun z=>absurd z (by lia),fun _=>(bZ3 b1 b3).mono (by unfold bdL;lia),fun _=>(cB7 b2 b4).mono (by unfold bdL;lia)⟩
theorem pX:PB 0 free:=⟨fun _=>rfl,fun h=>absurd h (by decide),fun h=>absurd h (by decide)⟩
theorem PB.when {m n:Nat}{a b:Prc}(ha:PB m a) (hb:PB n b):PB (m+n) (sJ a b):=by
 refine ⟨fun z=>?_,fun h=>?_,fun h=>?_⟩
 ·rw [ha.z (by lia),hb.z (by lia)];unfold sJ kC free;decide
 ·rcases jM a.1 b.1 with e | e
  ·show fV _ (kC a.1 b.1);rw [e];exact (ha.up (by (exact oqI)) h).1
  ·show fV _ (kC a.1 b.1);rw [e];exact (hb.up (by (exact oqJ)) h).1
 ·rcases jM a.2 b.2 with e | e
  ·show fV _ (kC a.2 b.2);rw [e];exact (ha.up (by (exact oqI)) h).2
  ·show fV _ (kC a.2 b.2);rw [e];exact (hb.up (by (exact oqJ)) h).2
theorem aF3 {m:Nat}{a:Prc}(ha:PB m a) (ra:fZ a):∀ n:Nat,PB (n * m) (fF (List.replicate n a))/\fZ (fF (List.replicate n a))
 | 0=>by rw [Nat.zero_mul];exact ⟨pX,fG⟩
 | n+1=>by
  obtain ⟨i1,i2⟩:=aF3 ha ra n;rw [sv,mY,rn];exact ⟨i1.step ha i2 ra,nE i2 ra⟩
theorem pbz {ps:List Prc}{n:Nat}(h:∀ (a:Prc) (m:Nat),fZ a->PB m a->PB (m+n) (ps.foldl kB a)):PB n (fF ps):=by
 have:=h free 0 fG pX;rw [vy] at this;exact this
mutual
theorem aE7 {H:Hp}(ss:List Str) (k:Nat):∀ (r:Rw),fE H r->fZ (mB ss k r)/\PB (nZ r) (mB ss k r)
 | .thr p w x d,h=>by
  have wk:=aK9 h.2.ws k;have t:=aW0 h.2.ok wk.1 wk.2;simp only [mB,nZ]
  split
  ·exact ⟨t.1,fun z=>absurd z (by decide),fun _=>t.2.1.mono (by decide),fun _=>t.2.2.mono (by decide)⟩
  ·exact ⟨fG,fun z=>absurd z (by decide),fun _=>(fb1 (by decide)).1,fun _=>(fb1 (by decide)).2⟩
 | .lt _ _ _,_=>by simp only [mB,nZ];exact ⟨fG,pX⟩
 | .tell _ _,_=>by simp only [mB,nZ];exact ⟨fG,pX⟩
 | .when _ _ _ _ a b,h=>by
  have i:=iV ss k a h.2.2.2.2.1;have j:=iV ss k b h.2.2.2.2.2;simp only [mB,nZ];exact ⟨aZ4 (nO i.1) (nO j.1),(pbz i.2).when (pbz j.2)⟩
 | .times _ _ n b,h=>by
  have i:=iV ss k b h.2.2;have s:=nO i.1;simp only [mB,nZ];rw [<- vO s];have r:=aF3 (pbz i.2) s n.toNat;exact ⟨r.2,r.1⟩
theorem iV {H:Hp}(ss:List Str) (k:Nat):∀ (rs:List Rw),bN H rs->(∀ p∈tK ss k rs,fZ p)/\∀ (a:Prc) (m:Nat),fZ a->PB m a->PB (m+jP rs) ((tK ss k rs).foldl kB a)
 | [],_=>by simp only [tK,jP];exact ⟨fun _ z=>absurd z au,fun a m _ h=>h⟩
 | r :: rs,⟨h,hs⟩=>by
  have i:=aE7 ss k r h;have j:=iV ss k rs hs;simp only [tK,jP];refine ⟨fun p hp=>?_,fun a m ra pa=>?_⟩
  ·rcases cf.mp hp with rfl | hp
   ·exact i.1
   ·exact j.1 p hp
  ·rw [gm, <- Nat.add_assoc];exact j.2 _ _ (nE ra i.1) (pa.step i.2 ra i.1)
end
theorem kS {H:Hp}(ss:List Str) (k:Nat) {rs:List Rw}(h:bN H rs):fZ (iL ss k rs)/\PB (jP rs) (iL ss k rs):=⟨nO (iV ss k rs h).1,pbz (iV ss k rs h).2⟩
inductive Pt where
 | rows (p:Addr) (rs:List Rw)
 | row (r:Rw)
noncomputable def Pt.p:Pt->Addr
 | .rows p _=>p
 | .row r=>r.p
noncomputable def mC (H:Hp):Pt->Prop
 | .rows p rs=>H p=some (.tup (cL rs))/\bN H rs
 | .row r=>fE H r
theorem mC.ts {H H':Hp}(t:TS H H'):∀ {e:Pt},mC H e->mC H' e
 | .rows _ rs,h=>⟨t _ _ h.1,bN.ts t rs h.2⟩
 | .row r,h=>fE.ts t r h
noncomputable def Pt.kids:Pt->List Pt
 | .rows _ rs=>rs.map Pt.row
 | .row (.when _ pa pb _ a b)=>[.rows pa a,.rows pb b]
 | .row (.times _ pb _ b)=>[.rows pb b]
 | .row (.thr _ _ _ _)=>[]
 | .row (.lt _ _ _)=>[]
 | .row (.tell _ _)=>[]
noncomputable def Pt.pr (ss:List Str) (k:Nat):Pt->Prc
 | .rows _ rs=>iL ss k rs
 | .row r=>mB ss k r
noncomputable def Pt.ld:Pt->Nat
 | .rows _ rs=>jP rs
 | .row r=>nZ r
theorem Pt.pr_ok {H:Hp}(ss:List Str) (k:Nat):∀ {e:Pt},mC H e->fZ (e.pr ss k)/\PB e.ld (e.pr ss k)
 | .rows _ _,h=>kS ss k h.2
 | .row r,h=>aE7 ss k r h
theorem mC.kids {H:Hp}:∀ {e:Pt},mC H e->∀ c∈e.kids,mC H c
 | .rows _ rs,h,c,hc=>by
  obtain ⟨r,hr,rfl⟩:=cy.mp hc;exact h.2.mem r hr
 | .row (.when _ pa pb _ a b),h,c,hc=>by
  simp only [Pt.kids,List.mem_cons,List.not_mem_nil,or_false] at hc;rcases hc with rfl | rfl
  ·exact ⟨h.2.2.1,h.2.2.2.2.1⟩
  ·exact ⟨h.2.2.2.1,h.2.2.2.2.2⟩
 | .row (.times _ pb _ b),h,c,hc=>by
  simp only [Pt.kids,List.mem_cons,List.not_mem_nil,or_false] at hc;rw [hc];exact ⟨h.2.1,h.2.2⟩
 | .row (.thr _ _ _ _),_,_,hc=>absurd hc au
 | .row (.lt _ _ _),_,_,hc=>absurd hc au
 | .row (.tell _ _),_,_,hc=>absurd hc au
noncomputable abbrev Plc:=List Int
noncomputable abbrev PP:=Plc×Pt
noncomputable def jG (pl:Plc) (i:Nat):List Pt->List PP
 | []=>[]
 | c :: cs=>(pl++[(i:Int)],c) :: jG pl (i+1) cs
noncomputable def eJ (e:PP):List PP:=jG e.1 0 e.2.kids
theorem xR (pl:Plc):∀ (i:Nat) (cs:List Pt),(jG pl i cs).length=cs.length
 | _,[]=>rfl
 | i,_ :: cs=>by simp only [jG,List.length_cons,xR pl (i+1) cs]
theorem aI0 (pl:Plc):∀ (i j:Nat) (cs:List Pt),(jG pl i cs)[j]?=(cs[j]?).map fun c=>(pl++[((i+j:Nat):Int)],c)
 | _,_,[]=>by simp [jG]
 | i,0,c :: cs=>by simp [jG]
 | i,j+1,c :: cs=>by
  simp only [jG,List.getElem?_cons_succ];rw [aI0 pl (i+1) j cs,show i+1+j=i+(j+1) by lia]
mutual
noncomputable def dU (pl:Plc):Rw->List PP
 | .when p pa pb t a b=>(dJ (pl++[0]) 0 a++[(pl++[0],.rows pa a)])++(dJ (pl++[1]) 0 b++[(pl++[1],.rows pb b)])++[(pl,.row (.when p pa pb t a b))]
 | .times p pb n b=>(dJ (pl++[0]) 0 b++[(pl++[0],.rows pb b)])++[(pl,.row (.times p pb n b))]
 | .thr p w x d=>[(pl,.row (.thr p w x d))]
 | .lt p x t=>[(pl,.row (.lt p x t))]
 | .tell p t=>[(pl,.row (.tell p t))]
noncomputable def dJ (pl:Plc) (i:Nat):List Rw->List PP
 | []=>[]
 | r :: rs=>dU (pl++[(i:Int)]) r++dJ pl (i+1) rs
end
noncomputable def cQ:PP->List PP
 | (pl,.rows p rs)=>dJ pl 0 rs++[(pl,.rows p rs)]
 | (pl,.row r)=>dU pl r
theorem yV (pl:Plc):∀ (i:Nat) (rs:List Rw),dJ pl i rs=(jG pl i (rs.map Pt.row)).flatMap cQ
 | _,[]=>by simp only [dJ,List.map_nil,jG,List.flatMap_nil]
 | i,r :: rs=>by simp only [dJ,List.map_cons,jG,List.flatMap_cons,yV pl (i+1) rs,cQ]
theorem gE:∀ e:PP,cQ e=(eJ e).flatMap cQ++[e]
 | (pl,.rows p rs)=>by simp only [cQ,eJ,Pt.kids];rw [yV]
 | (pl,.row (.when p pa pb t a b))=>by simp [cQ,dU,eJ,Pt.kids,jG]
 | (pl,.row (.times p pb n b))=>by simp [cQ,dU,eJ,Pt.kids,jG]
 | (pl,.row (.thr _ _ _ _))=>by simp [cQ,dU,eJ,Pt.kids,jG]
 | (pl,.row (.lt _ _ _))=>by simp [cQ,dU,eJ,Pt.kids,jG]
 | (pl,.row (.tell _ _))=>by simp [cQ,dU,eJ,Pt.kids,jG]
theorem sU (e:PP):1<=(cQ e).length:=by rw [gE];simp
theorem aY4:∀ l:List PP,l.length<=(l.flatMap cQ).length
 | []=>aj _
 | t :: r=>by have:=aY4 r;have:=sU t;rw [bo,ff,am];lia
mutual
theorem yJ (pl:Plc):∀ r:Rw,(dU pl r).length<=3 * r.cnt
 | .when p pa pb t a b=>by have:=iB (pl++[0]) 0 a;have:=iB (pl++[1]) 0 b;simp only [dU,Rw.cnt,List.length_append,List.length_cons,List.length_nil];lia
 | .times p pb n b=>by have:=iB (pl++[0]) 0 b;simp only [dU,Rw.cnt,List.length_append,List.length_cons,List.length_nil];lia
 | .thr _ _ _ _=>by simp only [dU,Rw.cnt,List.length_cons,List.length_nil];(exact oqJ)
 | .lt _ _ _=>by simp only [dU,Rw.cnt,List.length_cons,List.length_nil];(exact oqJ)
 | .tell _ _=>by simp only [dU,Rw.cnt,List.length_cons,List.length_nil];(exact oqJ)
theorem iB (pl:Plc) (i:Nat):∀ rs:List Rw,(dJ pl i rs).length<=3 * bY rs
 | []=>by simp [dJ]
 | r :: rs=>by have:=yJ (pl++[(i:Int)]) r;have:=iB pl (i+1) rs;simp only [dJ,bY,List.length_append];lia
end
noncomputable def nX (L:List PP):Prop:=∀ A e B,L=A++e :: B->∀ c∈eJ e,c∈A
theorem nX.nil:nX []:=fun A e B h=>by simp at h
theorem nX.app {L M:List PP}(a:nX L) (b:nX M):nX (L++M):=fun A e B h c hc=>by
 rcases List.append_eq_append_iff.mp h with ⟨as,h1,h2⟩ | ⟨bs,h1,h2⟩
 ·rw [h1];exact bw _ (b as e B h2 c hc)
 ·cases bs with
  | nil =>
   simp only [List.append_nil,List.nil_append] at h1 h2;rw [<- h1];have:=b [] e B h2.symm c hc;exact absurd this au
  | cons x bs =>
   simp only [List.cons_append,List.cons.injEq] at h2;rw [<- h2.1] at h1;exact a A e bs h1 c hc
theorem jD (e:PP):e∈cQ e:=by rw [gE];simp
theorem nX.flat:∀ {l:List PP},(∀ e∈l,nX (cQ e))->nX (l.flatMap cQ)
 | [],_=>nX.nil
 | e :: l,h=>by
  rw [ff];exact (h e ao).app (nX.flat fun x hx=>h x (aq _ hx))
theorem nX.ord {e:PP}(h:∀ c∈eJ e,nX (cQ c)):nX (cQ e):=by
 have fl:=nX.flat h;intro A x B hx c hc;rw [gE] at hx;rcases xt B with rfl | ⟨B',b,rfl⟩
 ·obtain ⟨h1,h2⟩:=List.append_inj' hx rfl;have h2:e=x:=by simpa using h2
  rw [<- h1];rw [<- h2] at hc;exact jh.mpr ⟨c,hc,jD c⟩
 ·have hx':(eJ e).flatMap cQ++[e]=(A++x :: B')++[b]:=by rw [hx];simp
  obtain ⟨h1,_⟩:=List.append_inj' hx' rfl;exact fl A x B' h1 c hc
mutual
theorem cL1:∀ (r:Rw) (pl:Plc),nX (cQ (pl,.row r))
 | .when p pa pb t a b,pl=>nX.ord fun c hc=>by
  simp only [eJ,Pt.kids,jG,List.mem_cons,List.not_mem_nil,or_false] at hc;rcases hc with rfl | rfl
  ·exact nX.ord fun c hc=>xQ a _ 0 c hc
  ·exact nX.ord fun c hc=>xQ b _ 0 c hc
 | .times p pb n b,pl=>nX.ord fun c hc=>by
  simp only [eJ,Pt.kids,jG,List.mem_cons,List.not_mem_nil,or_false] at hc;rw [hc];exact nX.ord fun c hc=>xQ b _ 0 c hc
 | .thr _ _ _ _,pl=>nX.ord fun c hc=>absurd hc au
 | .lt _ _ _,pl=>nX.ord fun c hc=>absurd hc au
 | .tell _ _,pl=>nX.ord fun c hc=>absurd hc au
theorem xQ:∀ (rs:List Rw) (pl:Plc) (i:Nat),∀ c∈jG pl i (rs.map Pt.row),nX (cQ c)
 | [],_,_,c,hc=>absurd hc au
 | r :: rs,pl,i,c,hc=>by
  simp only [List.map_cons,jG] at hc;rcases cf.mp hc with rfl | hc
  ·exact cL1 r _
  ·exact xQ rs pl (i+1) c hc
end
theorem aJ8 (pl:Plc) (p:Addr) (rs:List Rw):nX (cQ (pl,.rows p rs)):=nX.ord fun c hc=>xQ rs pl 0 c hc
noncomputable def Ext (pl:Plc) (e:PP):Prop:=∃ s,e.1=pl++s
mutual
theorem cA6:∀ (r:Rw) (pl:Plc),∀ e∈dU pl r,Ext pl e
 | .when p pa pb t a b,pl,e,h=>by
  simp only [dU,List.mem_append,List.mem_cons,List.not_mem_nil,or_false] at h;rcases h with ((h | h) | (h | h)) | h
  ·obtain ⟨s,hs⟩:=rJ a _ 0 e h;exact ⟨[0]++s,by rw [hs.1,ee]⟩
  ·rw [h];exact ⟨[0],rfl⟩
  ·obtain ⟨s,hs⟩:=rJ b _ 0 e h;exact ⟨[1]++s,by rw [hs.1,ee]⟩
  ·rw [h];exact ⟨[1],rfl⟩
  ·rw [h];exact ⟨[],by simp⟩
 | .times p pb n b,pl,e,h=>by
  simp only [dU,List.mem_append,List.mem_cons,List.not_mem_nil,or_false] at h;rcases h with (h | h) | h
  ·obtain ⟨s,hs⟩:=rJ b _ 0 e h;exact ⟨[0]++s,by rw [hs.1,ee]⟩
  ·rw [h];exact ⟨[0],rfl⟩
  ·rw [h];exact ⟨[],by simp⟩
 | .thr _ _ _ _,pl,e,h=>by simp only [dU,List.mem_cons,List.not_mem_nil,or_false] at h;rw [h];exact ⟨[],by simp⟩
 | .lt _ _ _,pl,e,h=>by simp only [dU,List.mem_cons,List.not_mem_nil,or_false] at h;rw [h];exact ⟨[],by simp⟩
 | .tell _ _,pl,e,h=>by simp only [dU,List.mem_cons,List.not_mem_nil,or_false] at h;rw [h];exact ⟨[],by simp⟩
theorem rJ:∀ (rs:List Rw) (pl:Plc) (i:Nat),∀ e∈dJ pl i rs,∃ s,e.1=pl++s/\∃ (j:Nat) (u:Plc),i<=j/\s=(j:Int) :: u
 | [],_,_,e,h=>by simp only [dJ] at h;exact absurd h au
 | r :: rs,pl,i,e,h=>by
  simp only [dJ,List.mem_append] at h;rcases h with h | h
  ·obtain ⟨s,hs⟩:=cA6 r _ e h;exact ⟨(i:Int) :: s,by rw [hs,ee];rfl,i,s,aj _,rfl⟩
  ·obtain ⟨s,h1,j,u,h2,h3⟩:=rJ rs pl (i+1) e h;exact ⟨s,h1,j,u,by (exact oqC),h3⟩
end
noncomputable def gL (l:List PP):List Plc:=l.map (·.1)
theorem aR9 (a b:List PP):gL (a++b)=gL a++gL b:=bm
theorem rV {a b:List PP}(ha:(gL a).Nodup) (hb:(gL b).Nodup) (h:∀ x∈a,∀ y∈b,x.1≠y.1):(gL (a++b)).Nodup:=by
 rw [aR9,oh];refine ⟨ha,hb,fun u hu v hv=>?_⟩;obtain ⟨x,hx,rfl⟩:=cy.mp hu;obtain ⟨y,hy,rfl⟩:=cy.mp hv;exact h x hx y hy
theorem oO (e:PP):(gL [e]).Nodup:=by simp [gL]
theorem aT8 {pl s:Plc}(h:pl++s=pl):s=[]:=by
 have:=fc List.length h;rw [am] at this;exact sy (by lia)
theorem qC {pl:Plc}{p:Addr}{rs:List Rw}(h:(gL (dJ pl 0 rs)).Nodup):(gL (dJ pl 0 rs++[(pl,.rows p rs)])).Nodup:=rV h (oO _) fun x hx y hy=>by
 rw [ax.mp hy];obtain ⟨s,h1,j,u,_,h3⟩:=rJ rs pl 0 x hx;intro e;have e:x.1=pl:=e;rw [h1] at e;have:=aT8 e;rw [h3] at this
 cases this
theorem kQ {pl:Plc}{p:Addr}{rs:List Rw}:∀ e∈dJ pl 0 rs++[(pl,.rows p rs)],Ext pl e:=fun e he=>by
 rcases cg.mp he with h | h
 ·obtain ⟨s,h1,_⟩:=rJ rs pl 0 e h;exact ⟨s,h1⟩
 ·rw [ax.mp h];exact ⟨[],by simp⟩
theorem aS2 {pl:Plc}{i j:Int}(h:i≠j) {x y:PP}(hx:Ext (pl++[i]) x) (hy:Ext (pl++[j]) y):x.1≠y.1:=by
 obtain ⟨s,hs⟩:=hx;obtain ⟨t,ht⟩:=hy;rw [hs,ht,ee,ee];intro e;have:=List.append_cancel_left e;simp only [List.cons_append,List.cons.injEq] at this;exact h this.1
theorem aE9 {pl:Plc}{i:Int}{x:PP}{e:Pt}(hx:Ext (pl++[i]) x):x.1≠((pl,e):PP).1:=by
 obtain ⟨s,hs⟩:=hx;rw [hs,ee];intro e;have:=aT8 e
 cases this
mutual
theorem ndR:∀ (r:Rw) (pl:Plc),(gL (dU pl r)).Nodup
 | .when p pa pb t a b,pl=>by
  simp only [dU];refine rV (rV (qC (aW4 a _ 0)) (qC (aW4 b _ 0)) fun x hx y hy=>aS2 (by decide) (kQ x hx) (kQ y hy)) (oO _) fun x hx y hy=>?_
  rw [ax.mp hy];rcases cg.mp hx with h | h
  ·exact aE9 (kQ x h)
  ·exact aE9 (kQ x h)
 | .times p pb n b,pl=>by
  simp only [dU];refine rV (qC (aW4 b _ 0)) (oO _) fun x hx y hy=>?_
  rw [ax.mp hy];exact aE9 (kQ x hx)
 | .thr _ _ _ _,pl=>by simp only [dU];exact oO _
 | .lt _ _ _,pl=>by simp only [dU];exact oO _
 | .tell _ _,pl=>by simp only [dU];exact oO _
theorem aW4:∀ (rs:List Rw) (pl:Plc) (i:Nat),(gL (dJ pl i rs)).Nodup
 | [],_,_=>by simp only [dJ];exact uc
 | r :: rs,pl,i=>by
  simp only [dJ];refine rV (ndR r _) (aW4 rs pl (i+1)) fun x hx y hy=>?_
  obtain ⟨s,h1,j,u,h2,h3⟩:=rJ rs pl (i+1) y hy;exact aS2 (pl:=pl) (i:=(i:Int)) (j:=(j:Int)) (by lia) (cA6 r _ x hx) ⟨u,by rw [h1,h3,ee];rfl⟩
end
theorem aT9 (pl:Plc) (p:Addr) (rs:List Rw):(gL (cQ (pl,.rows p rs))).Nodup:=qC (aW4 rs pl 0)
mutual
theorem bP5 {H:Hp}:∀ (r:Rw) (pl:Plc),fE H r->∀ e∈dU pl r,mC H e.2
 | .when p pa pb t a b,pl,h,e,he=>by
  simp only [dU,List.mem_append,List.mem_cons,List.not_mem_nil,or_false] at he;rcases he with ((he | he) | (he | he)) | he
  ·exact nJ a _ 0 h.2.2.2.2.1 e he
  ·rw [he];exact ⟨h.2.2.1,h.2.2.2.2.1⟩
  ·exact nJ b _ 0 h.2.2.2.2.2 e he
  ·rw [he];exact ⟨h.2.2.2.1,h.2.2.2.2.2⟩
  ·rw [he];exact h
 | .times p pb n b,pl,h,e,he=>by
  simp only [dU,List.mem_append,List.mem_cons,List.not_mem_nil,or_false] at he;rcases he with (he | he) | he
  ·exact nJ b _ 0 h.2.2 e he
  ·rw [he];exact ⟨h.2.1,h.2.2⟩
  ·rw [he];exact h
 | .thr _ _ _ _,pl,h,e,he=>by simp only [dU,List.mem_cons,List.not_mem_nil,or_false] at he;rw [he];exact h
 | .lt _ _ _,pl,h,e,he=>by simp only [dU,List.mem_cons,List.not_mem_nil,or_false] at he;rw [he];exact h
 | .tell _ _,pl,h,e,he=>by simp only [dU,List.mem_cons,List.not_mem_nil,or_false] at he;rw [he];exact h
theorem nJ {H:Hp}:∀ (rs:List Rw) (pl:Plc) (i:Nat),bN H rs->∀ e∈dJ pl i rs,mC H e.2
 | [],_,_,_,e,he=>by simp only [dJ] at he;exact absurd he au
 | r :: rs,pl,i,⟨h,hs⟩,e,he=>by
  simp only [dJ,List.mem_append] at he;rcases he with he | he
  ·exact bP5 r _ h e he
  ·exact nJ rs pl (i+1) hs e he
end
theorem uO {H:Hp}{pl:Plc}{p:Addr}{rs:List Rw}(h:H p=some (.tup (cL rs))) (hs:bN H rs):∀ e∈cQ (pl,.rows p rs),mC H e.2:=fun e he=>by
 rcases cg.mp he with z | z
 ·exact nJ rs pl 0 hs e z
 ·rw [ax.mp z];exact ⟨h,hs⟩
mutual
theorem bI4 {kd:Int}:∀ (r:Rw) (pl:Plc),(∀ q∈r.flat,KdR kd q)->∀ e∈dU pl r,e.2.ld<=nZ r/\e.1.length<=pl.length+2 * tG r/\(∀ q,e.2= .row q->q∈r.flat)
 | .when p pa pb t a b,pl,hk,e,he=>by
  simp only [Rw.flat] at hk;simp only [dU,List.mem_append,List.mem_cons,List.not_mem_nil,or_false] at he;have ha:∀ q∈bE a,KdR kd q:=fun q hq=>hk q (aq _ (cx _ hq))
  have hb:∀ q∈bE b,KdR kd q:=fun q hq=>hk q (aq _ (bw _ hq))
  rcases he with ((he | he) | (he | he)) | he
  ·have:=kK a (pl++[0]) 0 ha e he;simp only [nZ,tG,Rw.flat];rw [am,cv] at this;exact ⟨by lia,by lia,fun q hq=>aq _ (cx _ (this.2.2 q hq))⟩
  ·rw [he];simp only [nZ,tG,Rw.flat,Pt.ld,List.length_append,List.length_singleton];exact ⟨by (exact oqI),by lia,fun q hq=>by cases hq⟩
  ·have:=kK b (pl++[1]) 0 hb e he;simp only [nZ,tG,Rw.flat];rw [am,cv] at this;exact ⟨by lia,by lia,fun q hq=>aq _ (bw _ (this.2.2 q hq))⟩
  ·rw [he];simp only [nZ,tG,Rw.flat,Pt.ld,List.length_append,List.length_singleton];exact ⟨by (exact oqJ),by lia,fun q hq=>by cases hq⟩
  ·rw [he];exact ⟨aj _,ig _ _,fun q hq=>by cases hq;simp [Rw.flat]⟩
 | .times p pb n b,pl,hk,e,he=>by
  simp only [Rw.flat] at hk;simp only [dU,List.mem_append,List.mem_cons,List.not_mem_nil,or_false] at he;have hb:∀ q∈bE b,KdR kd q:=fun q hq=>hk q (aq _ hq)
  have hn:1<=n/\n<=3:=hk _ ao;have le:jP b<=n.toNat * jP b:=by
   have:=fg (jP b) (show 1<=n.toNat by lia)
   lia
  rcases he with (he | he) | he
  ·have:=kK b (pl++[0]) 0 hb e he;simp only [nZ,tG,Rw.flat];rw [am,cv] at this;exact ⟨by lia,by lia,fun q hq=>aq _ (this.2.2 q hq)⟩
  ·rw [he];simp only [nZ,tG,Rw.flat,Pt.ld,List.length_append,List.length_singleton];exact ⟨by assumption,by lia,fun q hq=>by cases hq⟩
  ·rw [he];exact ⟨aj _,ig _ _,fun q hq=>by cases hq;simp [Rw.flat]⟩
 | .thr _ _ _ _,pl,_,e,he=>by simp only [dU,List.mem_cons,List.not_mem_nil,or_false] at he;rw [he];exact ⟨aj _,ig _ _,fun q hq=>by cases hq;simp [Rw.flat]⟩
 | .lt _ _ _,pl,_,e,he=>by simp only [dU,List.mem_cons,List.not_mem_nil,or_false] at he;rw [he];exact ⟨aj _,ig _ _,fun q hq=>by cases hq;simp [Rw.flat]⟩
 | .tell _ _,pl,_,e,he=>by simp only [dU,List.mem_cons,List.not_mem_nil,or_false] at he;rw [he];exact ⟨aj _,ig _ _,fun q hq=>by cases hq;simp [Rw.flat]⟩
theorem kK {kd:Int}:∀ (rs:List Rw) (pl:Plc) (i:Nat),(∀ q∈bE rs,KdR kd q)->∀ e∈dJ pl i rs,e.2.ld<=jP rs/\e.1.length<=pl.length+1+2 * fK rs/\(∀ q,e.2= .row q->q∈bE rs)
 | [],_,_,_,e,he=>by simp only [dJ] at he;exact absurd he au
 | r :: rs,pl,i,hk,e,he=>by
  simp only [bE] at hk;simp only [dJ,List.mem_append] at he;simp only [jP,fK,bE];rcases he with he | he
  ·have:=bI4 r (pl++[(i:Int)]) (fun q hq=>hk q (cx _ hq)) e he;rw [am,cv] at this;exact ⟨by lia,by lia,fun q hq=>cx _ (this.2.2 q hq)⟩
  ·have:=kK rs pl (i+1) (fun q hq=>hk q (bw _ hq)) e he;exact ⟨by lia,by lia,fun q hq=>bw _ (this.2.2 q hq)⟩
end
theorem oR {kd:Int}{p:Addr}{rs:List Rw}(hk:jR kd rs):∀ e∈cQ ([],.rows p rs),e.2.ld<=jP rs/\e.1.length<=1+2 * fK rs/\(∀ q,e.2= .row q->KdR kd q):=fun e he=>by
 rcases cg.mp he with z | z
 ·have:=kK rs [] 0 hk e z;rw [jc,vy] at this;exact ⟨this.1,this.2.1,fun q hq=>hk q (this.2.2 q hq)⟩
 ·rw [ax.mp z];exact ⟨aj _,by show 0<=_;(exact bj _),fun q hq=>by cases hq⟩
def bJ (K:W.Frag) (H:Hp) (p:Addr) (u:Fr):Prop:=aO K H p [.int u.1,.int u.2]
theorem aO.ts {K:W.Frag}{H H':Hp}(s:aS H H') {a:Addr}{xs:List V}:aO K H a xs->aO K H' a xs
 | .inl (.inl h)=> .inl (.inl (s _ _ h))
 | .inl (.inr ⟨o,h⟩)=> .inl (.inr ⟨o,s _ _ h⟩)
 | .inr h=> .inr h
theorem bJ.of {K:W.Frag}{H:Hp}{p:Addr}{a b:Int}(h:fO H p a b):bJ K H p (a,b):=aO.of h
theorem bJ.ofU {K:W.Frag}{H:Hp}{p:Addr}{u:Fr}(h:H p=some (.tup [.int u.1,.int u.2])):bJ K H p u:=aO.of h
theorem bJ.s {K:W.Frag}{H H':Hp}(s:aS H H') {p:Addr}{u:Fr}(h:bJ K H p u):bJ K H' p u:=aO.ts s h
def dE (K:W.Frag) (H:Hp) (v:V) (P:Prc):Prop:=∃ a x y,v= .ref a/\aO K H a [.ref x,.ref y]/\bJ K H x P.1/\bJ K H y P.2
theorem dE.s {K:W.Frag}{H H':Hp}(s:aS H H') {v:V}{P:Prc}:dE K H v P->dE K H' v P
 | ⟨a,x,y,e,h,h1,h2⟩=>⟨a,x,y,e,aO.ts s h,h1.s s,h2.s s⟩
def FrK (K:W.Frag) (H:Hp) (v:V) (u:Fr):Prop:=∃ a,v= .ref a/\bJ K H a u
theorem FrK.s {K:W.Frag}{H H':Hp}(s:aS H H') {v:V}{u:Fr}:FrK K H v u->FrK K H' v u
 | ⟨a,e,h⟩=>⟨a,e,h.s s⟩
def spLowX:Sp:=fun vs H Q _=>∃ a b:Int,vs=[.int a,.int b]/\0<=a/\1<=b/\(∃ n,bT n b/\n<=8990)/\∀ p,H p=none->Q (.ref p) (aQ H p (.tup [.int (dR a b).1,.int (dR a b).2]))
def mE (K:W.Frag):Sp:=fun vs H Q _=>∃ (p q:Addr) (u e:Fr),vs=[.ref p,.ref q]/\bJ K H p u/\bJ K H q e/\fV 1000 u/\fV 1000 e/\∀ r,H r=none->Q (.ref r) (aQ H r (.tup [.int (fQ u e).1,.int (fQ u e).2]))
def xA (K:W.Frag):Sp:=fun vs H Q _=>∃ (p q:Addr) (u e:Fr),vs=[.ref p,.ref q]/\bJ K H p u/\bJ K H q e/\fV 1000 u/\fV 1000 e/\∀ r,H r=none->Q (.ref r) (aQ H r (.tup [.int (yQ u e).1,.int (yQ u e).2]))
def mZ (K:W.Frag):Sp:=fun vs H Q _=>∃ (p q:Addr) (u e:Fr),vs=[.ref p,.ref q]/\bJ K H p u/\bJ K H q e/\fV 1000 u/\fV 1000 e/\Q (.bl (decide (u.1 * e.2 < e.1 * u.2))) H
def wX (K:W.Frag):Sp:=fun vs H Q _=>∃ (p:Addr) (u:Fr) (k:Int),vs=[.ref p,.int k]/\bJ K H p u/\bT 1000 u.1/\bT 1000 u.2/\0<=k/\k<=21/\∀ r,H r=none->Q (.ref r) (aQ H r (.tup [.int (u.1 ^ k.toNat),.int (u.2 ^ k.toNat)]))
def spTPow:Sp:=fun vs H Q _=>∃ (st:Addr) (p q k:Int),vs=[.ref st,.int k]/\fO H st p q/\vB p q/\0<=k/\k<=6/\∀ H' r,aS H H'->fO H' r (q ^ k.toNat) (p ^ k.toNat)->Q (.ref r) H'
def spPowI:Sp:=fun vs H Q _=>∃ (a k:Int),vs=[.int a,.int k]/\0<=a/\a<=9/\0<=k/\k<=21/\Q (.int (a ^ k.toNat)) H
def aE6 (k:Nat):Rw->Prc
 | .thr _ _ _ d=>lV d.T (wK d k)
 | .lt _ _ _=>free
 | .tell _ _=>free
 | .when _ _ _ _ _ _=>free
 | .times _ _ _ _=>free
def spOne4:Sp:=fun vs H Q _=>∃ T:Thw,vs=[.str T.wd]/\∀ H',aS H H'->Q (.bl T.one) H'
def spPlc4:Sp:=fun vs H Q _=>∃ T:Thw,vs=[.str T.wd]/\Q (.int (if T.wd="first" then 5 else 2)) H
def spSumT:Sp:=fun vs H Q _=>∃ p w x d,vs=[.ref p]/\fE H (.thr p w x d)/\∀ H' t us,aS H H'->H' t=some (.tup us)->cO (pG H') us d.wss->Q (.ref t) H'
def bK6 (K:W.Frag):Sp:=fun vs H Q _=>∃ p w x d,∃ k:Nat,vs=[.ref p,.int k]/\fE H (.thr p w x d)/\k < d.kd/\∀ H' v,aS H H'->dE K H' v (lV d.T (wK d k))->Q v H'
def aV9 (K:W.Frag):Sp:=fun vs H Q _=>∃ r,∃ k:Nat,vs=[.ref r.p,.int k]/\fE H r/\(∀ p w x d,r= .thr p w x d->k < d.kd)/\∀ H' v,aS H H'->dE K H' v (aE6 k r)->Q v H'
def SqB (ps:List Prc):Prop:=(∀ p∈ps,fV 1000 p.1/\fV 1000 p.2)/\∀ i,fV 1000 (fF (ps.take i)).1/\fV 1000 (fF (ps.take i)).2
def bL8 (K:W.Frag):Sp:=fun vs H Q _=>∃ l us ps,vs=[.ref l]/\H l=some (.lst us)/\us.length<=4000/\cO (dE K H) us ps/\SqB ps/\∀ H' v,aS H H'->dE K H' v (fF ps)->Q v H'
def grL:List Fr->Fr
 | []=>(0,1)
 | f :: fs=>(f :: fs).foldl kC f
def bL2 (K:W.Frag):Sp:=fun vs H Q _=>∃ l us fs,vs=[.ref l]/\H l=some (.lst us)/\1<=fs.length/\fs.length<=1000/\cO (FrK K H) us fs/\(∀ f∈fs,fV 1000 f)/\∀ v,FrK K H v (grL fs)->Q v H
def bK1 (K:W.Frag):Sp:=fun vs H Q _=>∃ l us ps,vs=[.ref l]/\H l=some (.lst us)/\1<=ps.length/\ps.length<=1000/\cO (dE K H) us ps/\(∀ p∈ps,fV 1000 p.1/\fV 1000 p.2)/\∀ H' v,aS H H'->dE K H' v (grL (ps.map (·.1)),grL (ps.map (·.2)))->Q v H'
def Pt.isRow:Pt->Bool
 | .rows _ _=>false
 | .row _=>true
def spIsRow:Sp:=fun vs H Q _=>∃ e:Pt,vs=[.ref e.p]/\mC H e/\Q (.bl e.isRow) H
def fX (cs:List Pt):List V:=cs.map fun c=>V.ref c.p
def spPRI:Sp:=fun vs H Q _=>∃ e:Pt,vs=[.ref e.p]/\mC H e/\∀ r H',aS H H'->H r=none->H' r=some (.lst (fX e.kids))->Q (.ref r) H'
def lG (H:Hp) (v:V) (pl:Plc):Prop:=∃ a,v= .ref a/\H a=some (.tup (pl.map V.int))
theorem lG.ts {H H':Hp}(t:TS H H') {v:V}{pl:Plc}:lG H v pl->lG H' v pl
 | ⟨a,e,h⟩=>⟨a,e,t _ _ h⟩
def spPlRI:Sp:=fun vs H Q _=>∃ (e:PP) (q:Addr),vs=[.ref q,.ref e.2.p]/\H q=some (.tup (e.1.map V.int))/\e.1.length<=100/\e.2.kids.length<=4000/\mC H e.2/\∀ r zs H',aS H H'->H r=none->H' r=some (.lst zs)->cO (lG H') zs ((eJ e).map (·.1))->Q (.ref r) H'
def vW (H:Hp) (z:V) (e:PP):Prop:=∃ q a,z= .ref q/\H q=some (.tup [.ref a,.ref e.2.p])/\H a=some (.tup (e.1.map V.int))
theorem vW.ts {H H':Hp}(t:TS H H') {z:V}{e:PP}:vW H z e->vW H' z e
 | ⟨q,a,e1,h1,h2⟩=>⟨q,a,e1,t _ _ h1,t _ _ h2⟩
def spPlOf:Sp:=fun vs H Q _=>∃ p rs kd,vs=[.ref p]/\H p=some (.tup (cL rs))/\bN H rs/\bY rs<=1300/\fK rs<=3/\jR kd rs/\∀ r zs H',aS H H'->H' r=some (.lst zs)->cO (vW H') zs (cQ ([],.rows p rs))->Q (.ref r) H'
def Pt.made:Pt->Bool
 | .rows _ _=>true
 | .row (.when _ _ _ _ _ _)=>true
 | .row (.times _ _ _ _)=>true
 | .row (.thr _ _ _ _)=>false
 | .row (.lt _ _ _)=>false
 | .row (.tell _ _)=>false
def aI4 (K:W.Frag):Sp:=fun vs H Q _=>∃ (e:Pt) (l:Addr) (us:List V) (ss:List Str) (k:Nat) (kd:Int),vs=[.ref e.p,.ref l]/\mC H e/\e.made=true/\e.ld<=6/\(∀ q,e= .row q->KdR kd q)/\e.kids.length<=4000/\H l=some (.lst us)/\cO (dE K H) us (e.kids.map (Pt.pr ss k))/\∀ H' v,aS H H'->dE K H' v (e.pr ss k)->Q v H'
def KnN (H:Hp) (p:Addr) (rs:List Rw) (n:Nat):Prop:=∃ (pk:Addr) (ks:List Str) (w:V),H p=some (.tup [.ref pk,w])/\H pk=some (.tup (ks.map V.str))/\ks.length=n/\1<=n/\n<=3/\jR (n:Int) rs
theorem KnN.ts {H H':Hp}(t:TS H H') {p:Addr}{rs:List Rw}{n:Nat}:KnN H p rs n->KnN H' p rs n
 | ⟨pk,ks,w,a,b,c⟩=>⟨pk,ks,w,t _ _ a,t _ _ b,c⟩
theorem jW.knn {H:Hp}{p:Addr}{xs:List Str}{rs:List Rw}(P:jW H p xs rs):∃ n,KnN H p rs n:=by obtain ⟨pk,ks,w,a,b,c,d,e⟩:=P.kn;exact ⟨ks.length,pk,ks,w,a,b,rfl,c,d,e⟩
def bK3 (K:W.Frag):Sp:=fun vs H Q _=>∃ (p:Addr) (xs:List Str) (rs:List Rw) (k n:Nat),vs=[.ref p,.int k]/\jW H p xs rs/\KnN H p rs n/\k < n /\
 ∀ H' ss v,aS H H'->NdS rs ss->dE K H' v (iL ss k rs)->Q v H'
def aG4:Nat->Sp
 | 0=>fun _ _ _ _=>False
 | n+1=>fun vs H Q _=>∃ (st:Addr) (p q k:Int),vs=[.ref st,.int k]/\fO H st p q/\vB p q/\ -9<=k/\k<=20/\(n=0->0<=k)/\∀ H' r,aS H H'->fO H' r (tN p q k) (tD p q k)->Q (.ref r) H'
def bL5 (K:W.Frag):Sp:=fun vs H Q _=>∃ r,∃ k:Nat,vs=[.ref r.p,.int k]/\fE H r/\(r.w∈(["when","times"]:List Str)->False)/\(∀ p w x d,r= .thr p w x d->k < d.kd)/\∀ H' v,aS H H'->dE K H' v (aE6 k r)->Q v H'
def bJ8 (K:W.Frag):Sp:=fun vs H Q _=>∃ (p q:Addr) (u e:Fr),vs=[.ref p,.ref q]/\bJ K H p u/\bJ K H q e/\fV 1000 u/\fV 1000 e/\∀ H' r,aS H H'->bJ K H' r (kC u e)->Q (.ref r) H'
def Pt.rule (ss:List Str):Pt->Str
 | .rows _ _=>"rows"
 | .row (.when _ _ _ _ _ _)=>"either"
 | .row (.times _ _ _ _)=>"again"
 | .row (.thr _ _ x _)=>if x∈ss then "throw" else "idle"
 | .row (.lt _ x _)=>if x∈ss then "plain" else "idle"
 | .row (.tell _ _)=>"plain"
def spRule:Sp:=fun vs H Q _=>∃ (e:Pt) (np:Addr) (ss:List Str),vs=[.ref e.p,.ref np]/\mC H e/\H np=some (.lst (ss.map V.str))/\∀ H',aS H H'->Q (.str (e.rule ss)) H'
def spInn:Sp:=fun vs H Q _=>∃ (e:Pt),vs=[.ref e.p]/\mC H e/\e.kids.length<=4000/\∀ r H',aS H H'->H r=none->H' r=some (.lst (fX e.kids))->Q (.ref r) H'
def Pt.dp:Pt->Nat
 | .rows _ rs=>2 * fK rs+1
 | .row r=>2 * tG r
def bK0 (K:W.Frag):Sp:=fun vs H Q _=>∃ (e:Pt) (l:Addr) (us:List V) (ss:List Str) (k:Nat) (kd:Int),vs=[.str (e.rule ss),.ref e.p,.ref l,.int k]/\mC H e/\e.ld<=6/\(∀ q,e= .row q->KdR kd q)/\(k:Int) < kd/\e.kids.length<=4000/\H l=some (.lst us)/\cO (dE K H) us (e.kids.map (Pt.pr ss k))/\∀ H' v,aS H H'->dE K H' v (e.pr ss k)->Q v H'
theorem bG0 {H:Hp}{d:TD}{x:Str}(h:aO1 H d):∃ a,jH (.str d.T.wd :: .str x :: d.vs) (if d.T.wd="first" then 5 else 2)=some a /\
  ((d.T.one=true/\∃ w ws,a= .ref w/\H w=some (.tup (ws.map V.int))/\d.wss=[ws])\/(d.T.one=false/\∃ sm us,a= .ref sm/\H sm=some (.tup us)/\cO (pG H) us d.wss)):=by
 obtain ⟨vs,T,wss,kd⟩:=d
 cases T with
 | lad p q lo hi =>
  obtain ⟨w,ws,st,e,e2,h1,_⟩:=h;refine ⟨.ref w,?_,.inl ⟨rfl,w,ws,rfl,h1,e2⟩⟩;show jH (.str "ladder" :: .str x :: vs) (if ("ladder": Str)="first" then 5 else 2)=_;rw [ak (show ¬ (("ladder": Str)="first") by decide +kernel),show vs=_ from e];rfl
 | fla r lo hi =>
  obtain ⟨w,ws,e,e2,h1⟩:=h;refine ⟨.ref w,?_,.inl ⟨rfl,w,ws,rfl,h1,e2⟩⟩;show jH (.str "flat" :: .str x :: vs) (if ("flat": Str)="first" then 5 else 2)=_;rw [ak (show ¬ (("flat": Str)="first") by decide +kernel),show vs=_ from e];rfl
 | cho p q lo hi =>
  obtain ⟨sm,us,st,e,h1,h2,_⟩:=h;refine ⟨.ref sm,?_,.inr ⟨rfl,sm,us,rfl,h1,h2⟩⟩;show jH (.str "choose" :: .str x :: vs) (if ("choose": Str)="first" then 5 else 2)=_;rw [ak (show ¬ (("choose": Str)="first") by decide +kernel),show vs=_ from e];rfl
 | fst pa qa pb qb mk lo hi =>
  obtain ⟨sm,us,sa,sb,e,h1,h2,_⟩:=h;refine ⟨.ref sm,?_,.inr ⟨rfl,sm,us,rfl,h1,h2⟩⟩;show jH (.str "first" :: .str x :: vs) (if ("first": Str)="first" then 5 else 2)=_;rw [ay rfl,show vs=_ from e];rfl
theorem bT6:∀ T:Thw,mU (V.str T.wd) [.str "ladder",.str "flat"]=T.one
 | .lad .. =>by show mU (V.str "ladder") [.str "ladder",.str "flat"]=true;decide +kernel
 | .fla .. =>by show mU (V.str "flat") [.str "ladder",.str "flat"]=true;decide +kernel
 | .cho .. =>by show mU (V.str "choose") [.str "ladder",.str "flat"]=false;decide +kernel
 | .fst .. =>by show mU (V.str "first") [.str "ladder",.str "flat"]=false;decide +kernel
theorem nFL:¬ (V.str "ladder"=V.str "flat"):=by decide +kernel
theorem nFC:¬ (V.str "choose"=V.str "flat"):=by decide +kernel
theorem nFF:¬ (V.str "first"=V.str "flat"):=by decide +kernel
theorem nIL:¬ (V.str "ladder"=V.str "first"):=by decide +kernel
theorem nIC:¬ (V.str "choose"=V.str "first"):=by decide +kernel
theorem bJ9 {d:TD}(h:bD9 d) {k:Nat}{i:Int}(hi:i∈d.wss.map fun ws=>ws.getD k 0) (hb:∀ n∈d.wss.map (fun ws=>ws.getD k 0),n<=i):i=wK d k:=by
 refine bH8 (fun n hn=>?_) hi hb;obtain ⟨ws,hw,rfl⟩:=cy.mp hn;rw [dw]
 cases q:ws[k]? with
 | none=>exact pw _
 | some y=>exact ((h.ws ws hw).2 y (be q)).1
theorem bK5 {ws:List Int}{k:Nat}(h:k < ws.length):(ws.map V.int)[k]?=some (.int (ws.getD k 0)):=by
 rw [cj,dw,ar h];rfl
theorem aV1 {d:TD}(h:bD9 d) (k:Nat):(d.wss.map fun ws=>ws.getD k 0)≠[]:=fun z=>by
 have e:=fc List.length z;rw [ac] at e;have l:=h.l1;rw [jc] at e
 lia
theorem aG8 {H:Hp}{us:List V}{wss:List (List Int)}(tw:cO (pG H) us wss) (k:Nat):(wss.map fun ws=>ws.getD k 0).take us.length=wss.map fun ws=>ws.getD k 0:=by
 rw [tw.length, <- ac (f:=fun ws:List Int=>ws.getD k 0) (as:=wss),bv]
theorem bJ3 {f:Fr}{fs:List Fr}{i:Nat}{g:Fr}(h:fs[i]?=some g):(fs.take (i+1)).foldl kC f=kC ((fs.take i).foldl kC f) g:=by
 rw [aT h,qq];rfl
theorem cK4 {n:Nat}:∀ {fs:List Fr}{f:Fr},fV n f->(∀ g∈fs,fV n g)->fV n (fs.foldl kC f)
 | [],_,h,_=>h
 | g :: fs,f,h,k=>by
  rw [gm];refine cK4 ?_ fun x hx=>k x (aq _ hx)
  rcases jM f g with e | e
  ·rw [e];exact h
  ·rw [e];exact k g ao
theorem cG8 {X:Cx}(K:W.Frag) (hK:X.K=K:=by rfl):jU X (binaryOp .Add) (bL3 K):=by subst hK;exact wM
theorem nTW:¬ (V.str "times"=V.str "when"):=by decide +kernel
theorem nLW:¬ (V.str "let"=V.str "when")/\¬ (V.str "let"=V.str "times"):=by decide +kernel
theorem nEW:¬ (V.str "tell"=V.str "when")/\¬ (V.str "tell"=V.str "times"):=by decide +kernel
theorem qI {H:Hp}{w:Str}{d:TD}(h:iP H w d):¬ (V.str w=V.str "when")/\¬ (V.str w=V.str "times"):=by
 rw [h.wd]
 cases d.T with
 | lad _ _ _ _=>show ¬ (V.str "ladder"=V.str "when")/\¬ (V.str "ladder"=V.str "times");decide +kernel
 | fla _ _ _=>show ¬ (V.str "flat"=V.str "when")/\¬ (V.str "flat"=V.str "times");decide +kernel
 | cho _ _ _ _=>show ¬ (V.str "choose"=V.str "when")/\¬ (V.str "choose"=V.str "times");decide +kernel
 | fst _ _ _ _ _ _ _=>show ¬ (V.str "first"=V.str "when")/\¬ (V.str "first"=V.str "times");decide +kernel
theorem aF9 (rs:List Rw):fX (rs.map Pt.row)=cL rs:=by
 unfold fX cL;rw [sr];rfl
theorem dM (cs:List Pt):(fX cs).length=cs.length:=by unfold fX;rw [ac]
theorem fL (e:PP):(eJ e).length=e.2.kids.length:=xR _ _ _
theorem lK {e:PP}{i:Nat}{c:Pt}(h:e.2.kids[i]?=some c):(eJ e)[i]?=some (e.1++[(i:Int)],c):=by
 unfold eJ;rw [aI0,h,vy];rfl
theorem vM {e:PP}{i:Nat}(h:i < e.2.kids.length):((eJ e).map (·.1))[i]?=some (e.1++[(i:Int)]):=by
 rw [cj,lK (ar h)];rfl
theorem qY {n:Nat}{p:Prc}(h:PB n p) (l:n<=6):fV 1000 p.1/\fV 1000 p.2:=⟨(h.up l (by decide)).1.mono (by decide),(h.up l (by decide)).2.mono (by decide)⟩
theorem bN.take {H:Hp}:∀ {rs:List Rw}(i:Nat),bN H rs->bN H (rs.take i)
 | [],i,_=>by rw [List.take_nil];trivial
 | r :: rs,0,_=>trivial
 | r :: rs,i+1,⟨h,k⟩=>⟨h,bN.take i k⟩
theorem bE7 (rs:List Rw) (i:Nat):jP (rs.take i)<=jP rs:=by
 have:=nM (rs.take i) (rs.drop i);rw [fw] at this
 lia
theorem aB5:∀ {rs:List Rw}{r:Rw},r∈rs->nZ r<=jP rs
 | _ :: rs,r,h=>by
  simp only [jP];rcases cf.mp h with rfl | h
  ·(exact oqI)
  ·have:=aB5 h;lia
theorem aU5 {H:Hp}{ss:List Str}{k:Nat}{rs:List Rw}(h:bN H rs) (l:jP rs<=6):SqB (tK ss k rs):=by
 refine ⟨fun p hp=>?_,fun i=>?_⟩
 ·rw [lI] at hp;obtain ⟨r,hr,rfl⟩:=cy.mp hp;have:=aB5 hr;exact qY (aE7 ss k r (h.mem r hr)).2 (by (exact oqj))
 ·have e:(tK ss k rs).take i=tK ss k (rs.take i):=by rw [lI,lI,nh]
  rw [e];have:=bE7 rs i;exact qY (kS ss k (h.take i)).2 (by (exact oqj))
theorem bF7 (f:Fr):kC f f=f:=by unfold kC;split <;> rfl
theorem aL0 (a b:Fr):grL [a,b]=kC a b:=by
 show kC (kC a a) b=_;rw [bF7]
theorem aF7 {ss:List Str}{k:Nat}{r:Rw}(h:lY ss r=true):mB ss k r=free:=by
 unfold lY at h
 cases r with
 | thr p w x d =>
  have:x∉ss:=fun z=>by simp [Rw.sets,z] at h
  simp only [mB,if_neg this]
 | lt _ _ _=>simp only [mB]
 | tell _ _=>simp [Rw.sets] at h
 | when _ _ _ _ _ _=>simp [Rw.sets] at h
 | times _ _ _ _=>simp [Rw.sets] at h
theorem aB7 {ss:List Str}{k:Nat}{r:Rw}(h:lY ss r=false) (hk:(Pt.row r).kids=[]):mB ss k r=aE6 k r:=by
 unfold lY at h
 cases r with
 | thr p w x d =>
  have:x∈ss:=by simpa [Rw.sets] using h
  simp only [mB,if_pos this,aE6]
 | lt _ _ _=>simp only [mB,aE6]
 | tell _ _=>simp only [mB,aE6]
 | when _ _ _ _ _ _=>simp [Pt.kids] at hk
 | times _ _ _ _=>simp [Pt.kids] at hk
theorem aA1 {r:Rw}(h:(Pt.row r).kids≠[]):(Pt.row r).made=true:=by
 cases r with
 | thr _ _ _ _=>exact absurd rfl h
 | lt _ _ _=>exact absurd rfl h
 | tell _ _=>exact absurd rfl h
 | when _ _ _ _ _ _=>rfl
 | times _ _ _ _=>rfl
noncomputable def xH (pl:Plc):List Key:=pl.map Sum.inl
theorem sK (pl:Plc):(xH pl).map kV=pl.map V.int:=by
 unfold xH;rw [sr];rfl
theorem bQ7 {a b:Plc}(h:xH a=xH b):a=b:=by
 unfold xH at h;exact (List.map_inj_right (fun x y e=>by injection e)).mp h
noncomputable def jA (K:W.Frag) (H:Hp) (kvs:List (List Key×V)) (ss:List Str) (k:Nat) (L:List PP):Prop:=∀ e∈L,∃ v,bP kvs (xH e.1)=some v/\dE K H v (e.2.pr ss k)
noncomputable def fW (d:Addr) (H H':Hp):Prop:=∀ a o,a≠d->H a=some o->H' a=some o
theorem fW.refl (d:Addr) (H:Hp):fW d H H:=fun _ _ _ h=>h
theorem fW.trans {d:Addr}{H H1 H2:Hp}(a:fW d H H1) (b:fW d H1 H2):fW d H H2:=fun c o n h=>b c o n (a c o n h)
theorem fW.of {d:Addr}{H H':Hp}(s:aS H H'):fW d H H':=fun c o _ h=>s c o h
theorem fW.upd {d:Addr}{H:Hp}{o:HO}:fW d H (aQ H d o):=fun c u n h=>by rw [aI n];exact h
theorem fW.same {d:Addr}{H H1 H2:Hp}(s:aS H H1) (o:fW d H1 H2) (h:H d=none):aS H H2:=fun c u e=>o c u (aL e h) (s c u e)
theorem fW.ts {d:Addr}{H H':Hp}{kvs:List (List Key×V)}(o:fW d H H') (h:H d=some (.dT kvs)):TS H H':=fun a xs e=>o a _ (fun z=>by rw [z,h] at e;cases e) e
theorem aO.off {K:W.Frag}{d:Addr}{H H':Hp}{kvs:List (List Key×V)}(o:fW d H H') (h:H d=some (.dT kvs)) {a:Addr}{xs:List V}:aO K H a xs->aO K H' a xs
 | .inl (.inl e)=> .inl (.inl (o _ _ (fun z=>by rw [z,h] at e;cases e) e))
 | .inl (.inr ⟨u,e⟩)=> .inl (.inr ⟨u,o _ _ (fun z=>by rw [z,h] at e;cases e) e⟩)
 | .inr e=> .inr e
theorem dE.off {K:W.Frag}{d:Addr}{H H':Hp}{kvs:List (List Key×V)}(o:fW d H H') (h:H d=some (.dT kvs)) {v:V}{P:Prc}:dE K H v P->dE K H' v P
 | ⟨a,x,y,e,h0,h1,h2⟩=>⟨a,x,y,e,aO.off o h h0,aO.off o h h1,aO.off o h h2⟩
theorem bG1 {α: Type}{l:List α}{i:Nat}{x:α}(h:l.Nodup) (hi:l[i]?=some x):x∉l.take i:=fun z=>by
 have il:=(bc.mp hi).1;have e:=fw i l;rw [<- e] at h;refine (oh.mp h).2.2 x z x ?_ rfl;rw [qf il,(bc.mp hi).2];exact ao
theorem jA.put {K:W.Frag}{H H':Hp}{kvs:List (List Key×V)}{ss:List Str}{k i:Nat}{L:List PP}{e:PP}{v:V}{d:Addr}
  (h:jA K H kvs ss k (L.take i)) (nd:(gL L).Nodup) (he:L[i]?=some e) (o:fW d H H') (hd:H d=some (.dT kvs)) (hv:dE K H' v (e.2.pr ss k)):jA K H' (cX kvs (xH e.1) v) ss k (L.take (i+1)):=fun c hc=>by
 rw [aT he] at hc;rcases cg.mp hc with z | z
 ·obtain ⟨w,h1,h2⟩:=h c z;refine ⟨w,?_,h2.off o hd⟩;rw [aP,ak fun q=>?_]
  ·exact h1
  ·have q:=bQ7 q;have n:=bG1 (i:=i) nd (show (gL L)[i]?=some e.1 by unfold gL;rw [cj,he];rfl);refine n ?_;rw [<- q];unfold gL;rw [<- nh];exact cy.mpr ⟨c,z,rfl⟩
 ·rw [ax.mp z];exact ⟨v,by rw [aP,ay rfl],hv⟩
theorem bC0 {L:List PP}(h:nX L) {i:Nat}{e:PP}(he:L[i]?=some e):∀ c∈eJ e,c∈L.take i:=fun c hc=>by
 have il:=(bc.mp he).1;have e1:=fw i L;rw [qf il,(bc.mp he).2] at e1;exact h _ _ _ e1.symm c hc
theorem aJ9 (r:Rw):1<=r.cnt:=by cases r <;> simp only [Rw.cnt] <;> lia
theorem kH:∀ rs:List Rw,rs.length<=bY rs
 | []=>bj _
 | r :: rs=>by have:=aJ9 r;have:=kH rs;simp only [bY,List.length_cons];lia
mutual
theorem klR (pl:Plc):∀ r:Rw,∀ e∈dU pl r,e.2.kids.length<=r.cnt+2
 | .when p pa pb t a b,e,he=>by
  have la:=kH a;have lb:=kH b;simp only [dU,List.mem_append,List.mem_cons,List.not_mem_nil,or_false] at he;simp only [Rw.cnt];rcases he with ((he | rfl) | he | rfl) | rfl
  ·have:=aS0 (pl++[0]) 0 a e he;lia
  ·show (a.map Pt.row).length<=_;rw [ac];lia
  ·have:=aS0 (pl++[1]) 0 b e he;lia
  ·show (b.map Pt.row).length<=_;rw [ac];lia
  ·show 2<=_;(exact oqJ)
 | .times p pb n b,e,he=>by
  have lb:=kH b;simp only [dU,List.mem_append,List.mem_cons,List.not_mem_nil,or_false] at he;simp only [Rw.cnt];rcases he with (he | rfl) | rfl
  ·have:=aS0 (pl++[0]) 0 b e he;lia
  ·show (b.map Pt.row).length<=_;rw [ac];lia
  ·show 1<=_;(exact oqJ)
 | .thr _ _ _ _,e,he=>by simp only [dU,List.mem_cons,List.not_mem_nil,or_false] at he;rw [he];exact bj _
 | .lt _ _ _,e,he=>by simp only [dU,List.mem_cons,List.not_mem_nil,or_false] at he;rw [he];exact bj _
 | .tell _ _,e,he=>by simp only [dU,List.mem_cons,List.not_mem_nil,or_false] at he;rw [he];exact bj _
theorem aS0 (pl:Plc) (i:Nat):∀ rs:List Rw,∀ e∈dJ pl i rs,e.2.kids.length<=bY rs+2
 | [],e,he=>by simp only [dJ] at he;exact absurd he au
 | r :: rs,e,he=>by
  simp only [dJ,List.mem_append] at he;simp only [bY];rcases he with he | he
  ·have:=klR (pl++[(i:Int)]) r e he;lia
  ·have:=aS0 pl (i+1) rs e he;lia
end
theorem aB8 {pl:Plc}{p:Addr}{rs:List Rw}:∀ e∈cQ (pl,.rows p rs),e.2.kids.length<=bY rs+2:=fun e he=>by
 rcases cg.mp he with z | z
 ·exact aS0 pl 0 rs e z
 ·rw [ax.mp z];show (rs.map Pt.row).length<=_;rw [ac];have:=kH rs;lia
theorem aJ1 {pl:Plc}{p:Addr}{rs:List Rw}:(cQ (pl,.rows p rs)).length<=3 * bY rs+1:=by
 have:=iB pl 0 rs;show (dJ pl 0 rs++[(pl,Pt.rows p rs)]).length<=_;rw [am,cv]
 lia
theorem lR {α: Type}{xs:List α}{v:α}:jH (xs++[v]) (-1)=some v:=by
 unfold jH ixN;rw [ak (by decide),am,cv,ay (by lia)];show (xs++[v])[(-1+((xs.length+1:Nat):Int)).toNat]?=some v;rw [show (-1+((xs.length+1:Nat):Int)).toNat=xs.length by lia];simp
theorem aU6 {α: Type}{R:V->α->Prop}:∀ {vs:List V}{as:List α},vs.length=as.length->(∀ (i:Nat) v a,vs[i]?=some v->as[i]?=some a->R v a)->cO R vs as
 | [],[],_,_=>trivial
 | v :: vs,a :: as,l,h=>⟨h 0 v a rfl rfl,aU6 (by simpa using l) fun i x y hx hy=>h (i+1) x y (by simpa using hx) (by simpa using hy)⟩
 | [],_ :: _,l,_=>by simp at l
 | _ :: _,[],l,_=>by simp at l
theorem bG6 {K:W.Frag}{H:Hp}{us:List V}{P:Prc}(h:cO (dE K H) us [P]):∃ a,us=[.ref a]/\∃ x y,aO K H a [.ref x,.ref y]/\bJ K H x P.1/\bJ K H y P.2:=by
 have l:=h.length
 cases us with
 | nil=>cases l
 | cons u r =>
  cases r with
  | nil =>
   obtain ⟨⟨a,x,y,e,h1,h2,h3⟩,_⟩:=h;exact ⟨a,by rw [e],x,y,h1,h2,h3⟩
  | cons _ _=>simp at l
theorem lU {K:W.Frag}{σ: St}{H:Hp}{Q:VK}(k:∀ H' v,aS H H'->dE K H' v free->Q v H') :
  bF2 (iC (bF2 (iC (tC (V.int 1)) (iC (tC (V.int 1)) tNil))) (iC (bF2 (iC (tC (V.int 0)) (iC (tC (V.int 1)) tNil))) tNil)) σ H Q:=by
 refine ⟨bM,fun a ha=>⟨bM,fun b hb=>⟨bM,fun c hc=>?_⟩⟩⟩;exact k _ (.ref c) ((aB ha _).trans ((aB hb _).trans (aB hc _))) ⟨c,a,b,rfl,aO.of aD,bJ.of (((aB hb _).trans (aB hc _)) _ _ aD),bJ.of ((aB hc _) _ _ aD)⟩
theorem gJ {i:Int}(h:bT 1000 i):i.natAbs.log2 < 1920:=by
 by_cases z:i.natAbs=0
 ·rw [z];decide
 ·exact (wx z).mpr (cm h (oz (by decide) (by decide)))
theorem yY {a b:Int}(ha:a.natAbs.log2 < 1920) (hb:b.natAbs.log2 < 1920):(eU a b).shown.length<=3900:=by
 have e1:=sw ha;have e2:=sw hb;show (tupleText [Str.ofString (toString a),Str.ofString (toString b)]).length<=3900;have e3:=wo [Str.ofString (toString a),Str.ofString (toString b)] (by simp);rw [jq,jq,zx] at e3;unfold tupleText;rw [ku,ku];have e4:((("(": String):Str)).length=1:=rfl;have e5:(((if [Str.ofString (toString a),Str.ofString (toString b)].length == 1 then ",)" else ")": String):Str)).length=1:=rfl;rw [e4,e5]
 lia
noncomputable def rD (P:Prc):PyData:= .tuple [eU P.1.1 P.1.2,eU P.2.1 P.2.2]
theorem bB7 {P:Prc}(h:fV 1000 P.1) (k:fV 1000 P.2):(rD P).showable=true/\(rD P).hasDict=false/\(rD P).depth<=64/\(rD P).shown.length<=sizeLine:=by
 have a1:=gJ h.ba;have a2:=gJ h.bb;have a3:=gJ k.ba;have a4:=gJ k.bb;refine ⟨?_,rfl,by simp [rD,eU,PyData.depth,PyData.depthAll],?_⟩
 ·simp [rD,eU,PyData.showable,PyData.showableAll,a1,a2,a3,a4]
 ·have e1:=yY a1 a2;have e2:=yY a3 a4;show (tupleText [(eU P.1.1 P.1.2).shown,(eU P.2.1 P.2.2).shown]).length<=sizeLine;have e3:=wo [(eU P.1.1 P.1.2).shown,(eU P.2.1 P.2.2).shown] (by simp);rw [jq,jq,zx] at e3;unfold tupleText;rw [ku,ku];have e4:((("(": String):Str)).length=1:=rfl;have e5:(((if [(eU P.1.1 P.1.2).shown,(eU P.2.1 P.2.2).shown].length == 1 then ",)" else ")": String):Str)).length=1:=rfl;rw [e4,e5,jo]
  lia
theorem pV {K:W.Frag}{H:Hp}{a x y:Addr}{P:Prc}(ha:aO K H a [.ref x,.ref y]) (hx:bJ K H x P.1) (hy:bJ K H y P.2):lX K H (rD P) (.ref a) :=
 ⟨a,_,rfl,ha,_,_,rfl,⟨x,_,rfl,hx,_,_,rfl,rfl,_,_,rfl,rfl,rfl⟩,_,_,rfl,⟨y,_,rfl,hy,_,_,rfl,rfl,_,_,rfl,rfl,rfl⟩,rfl⟩
theorem aX8 {H:Hp}{d:TD}{x:Str}(h:aO1 H d):∃ c2 c3,jH (.str d.T.wd :: .str x :: d.vs) 2=some c2/\jH (.str d.T.wd :: .str x :: d.vs) (-3)=some c3 /\
  ((¬ d.T.wd="choose"/\¬ d.T.wd="first"/\∃ w ws,c2= .ref w/\H w=some (.tup (ws.map V.int))/\d.wss=[ws])\/(∃ sm us,H sm=some (.tup us)/\cO (pG H) us d.wss/\((d.T.wd="choose"/\c2= .ref sm)\/(d.T.wd="first"/\c3= .ref sm)))):=by
 obtain ⟨vs,T,wss,kd⟩:=d
 cases T with
 | lad p q lo hi =>
  obtain ⟨w,ws,st,e,e2,h1,_⟩:=h;refine ⟨.ref w,.ref st,by rw [show vs=_ from e];rfl,by rw [show vs=_ from e];rfl,.inl ⟨by show ¬ ("ladder": Str)="choose";decide +kernel,by show ¬ ("ladder": Str)="first";decide +kernel,w,ws,rfl,h1,e2⟩⟩
 | fla r lo hi =>
  obtain ⟨w,ws,e,e2,h1⟩:=h;refine ⟨.ref w,.int r,by rw [show vs=_ from e];rfl,by rw [show vs=_ from e];rfl,.inl ⟨by show ¬ ("flat": Str)="choose";decide +kernel,by show ¬ ("flat": Str)="first";decide +kernel,w,ws,rfl,h1,e2⟩⟩
 | cho p q lo hi =>
  obtain ⟨sm,us,st,e,h1,h2,_⟩:=h;exact ⟨.ref sm,.ref st,by rw [show vs=_ from e];rfl,by rw [show vs=_ from e];rfl,.inr ⟨sm,us,h1,h2,.inl ⟨rfl,rfl⟩⟩⟩
 | fst pa qa pb qb mk lo hi =>
  obtain ⟨sm,us,sa,sb,e,h1,h2,_⟩:=h;exact ⟨.int mk,.ref sm,by rw [show vs=_ from e];rfl,by rw [show vs=_ from e];rfl,.inr ⟨sm,us,h1,h2,.inr ⟨rfl,rfl⟩⟩⟩
theorem aR8 (c2 c3:V) (w:Str):bP (fU [] [((Sum.inr "choose": Key),c2),((Sum.inr "first": Key),c3)]) (Sum.inr w:Key)=if w="first" then some c3 else if w="choose" then some c2 else none:=by
 unfold fU;simp only [List.foldl_cons,List.foldl_nil];rw [aP,aP,qH]
 by_cases a:w="first"
 ·rw [ay (by rw [a]),ay a]
 ·rw [ak (fun z=>a (by injection z)),ak a]
  by_cases b:w="choose"
  ·rw [ay (by rw [b]),ay b]
  ·rw [ak (fun z=>b (by injection z)),ak b]
theorem nCF:¬ (("choose": Str)="first"):=by decide +kernel
theorem SqB.rep {p:Prc}{m n:Nat}(h:PB m p) (r:fZ p) (l:n * m<=6) (n1:1<=n):SqB (List.replicate n p):=by
 have b0:m<=6:=cu (by have:=fg m n1;lia) l;refine ⟨fun q hq=>by rw [List.eq_of_mem_replicate hq];exact qY h b0,fun i=>?_⟩;rw [List.take_replicate];have:=(aF3 h r (min i n)).1;exact qY this (cu (fg m (Nat.min_le_right i n)) l)
theorem aH7 {α: Type}{R:V->α->Prop}{us:List V}{as:List α}(h:cO R us as):∀ n:Nat,cO R (List.replicate n us).flatten (List.replicate n as).flatten
 | 0=>trivial
 | n+1=>by
  rw [gh,gh,jr,jr];exact cO.append h (aH7 h n)
theorem aI5 {α: Type}(a:α):∀ n:Nat,(List.replicate n [a]).flatten=List.replicate n a
 | 0=>rfl
 | n+1=>by rw [gh,jr,aI5 a n,gh];rfl
noncomputable def Pt.sz:Pt->Nat
 | .rows _ rs=>3 * bY rs+1
 | .row r=>3 * r.cnt
noncomputable def Pt.all (kd:Int):Pt->Prop
 | .rows _ rs=>jR kd rs
 | .row r=>∀ q∈r.flat,KdR kd q
noncomputable def pH:List Pt->Nat
 | []=>0
 | c :: cs=>c.sz+pH cs
theorem pP:∀ a b:List Pt,pH (a++b)=pH a+pH b
 | [],b=>by simp [pH]
 | c :: cs,b=>by simp only [List.cons_append,pH,pP cs b];lia
theorem aQ5 (cs:List Pt) (i:Nat):pH (cs.take i)<=pH cs:=by
 have:=pP (cs.take i) (cs.drop i);rw [fw] at this
 lia
theorem xY:∀ rs:List Rw,pH (rs.map Pt.row)=3 * bY rs
 | []=>by simp [pH,bY]
 | r :: rs=>by simp only [List.map_cons,pH,xY rs,Pt.sz,bY];lia
theorem wJ:∀ e:Pt,pH e.kids+1<=e.sz
 | .rows _ rs=>by simp only [Pt.kids,Pt.sz,xY];lia
 | .row (.when _ pa pb _ a b)=>by simp only [Pt.kids,Pt.sz,pH,Rw.cnt];lia
 | .row (.times _ pb _ b)=>by simp only [Pt.kids,Pt.sz,pH,Rw.cnt];lia
 | .row (.thr _ _ _ _)=>by simp only [Pt.kids,Pt.sz,pH,Rw.cnt];(exact oqJ)
 | .row (.lt _ _ _)=>by simp only [Pt.kids,Pt.sz,pH,Rw.cnt];(exact oqJ)
 | .row (.tell _ _)=>by simp only [Pt.kids,Pt.sz,pH,Rw.cnt];(exact oqJ)
theorem uC:∀ {rs:List Rw}{r q:Rw},r∈rs->q∈r.flat->q∈bE rs
 | s :: rs,r,q,h,hq=>by
  simp only [bE];rcases cf.mp h with rfl | h
  ·exact cx _ hq
  ·exact bw _ (uC h hq)
theorem zH:∀ {rs:List Rw}{r:Rw},r∈rs->tG r<=fK rs
 | s :: rs,r,h=>by
  simp only [fK];rcases cf.mp h with rfl | h
  ·lia
  ·have:=zH h;lia
theorem bU2 {kd:Int}:∀ {e:Pt},e.all kd->e.ld<=6->∀ c∈e.kids,c.dp < e.dp/\c.ld<=6/\c.all kd
 | .rows p rs,ha,hl,c,hc=>by
  obtain ⟨r,hr,rfl⟩:=cy.mp hc;have:=zH hr;have:=aB5 hr;simp only [Pt.ld] at hl;simp only [Pt.dp,Pt.ld,Pt.all] at *;exact ⟨by lia,by (exact oqj),fun q hq=>ha q (uC hr hq)⟩
 | .row (.when p pa pb t a b),ha,hl,c,hc=>by
  simp only [Pt.kids,List.mem_cons,List.not_mem_nil,or_false] at hc;simp only [Pt.ld,nZ] at hl;simp only [Pt.all,Rw.flat] at ha;rcases hc with rfl | rfl
  ·simp only [Pt.dp,Pt.ld,Pt.all,tG];exact ⟨by lia,by (exact oqC),fun q hq=>ha q (aq _ (cx _ hq))⟩
  ·simp only [Pt.dp,Pt.ld,Pt.all,tG];exact ⟨by lia,by (exact oqD),fun q hq=>ha q (aq _ (bw _ hq))⟩
 | .row (.times p pb n b),ha,hl,c,hc=>by
  simp only [Pt.kids,List.mem_cons,List.not_mem_nil,or_false] at hc;simp only [Pt.ld,nZ] at hl;simp only [Pt.all,Rw.flat] at ha;have hn:1<=n/\n<=3:=ha _ ao;have le:jP b<=n.toNat * jP b:=by
   have:=fg (jP b) (show 1<=n.toNat by lia)
   lia
  subst hc;simp only [Pt.dp,Pt.ld,Pt.all,tG];exact ⟨by lia,by (exact oqj),fun q hq=>ha q (aq _ hq)⟩
 | .row (.thr _ _ _ _),_,_,c,hc=>absurd hc au
 | .row (.lt _ _ _),_,_,c,hc=>absurd hc au
 | .row (.tell _ _),_,_,c,hc=>absurd hc au
theorem bG4 {kd:Int}{e:Pt}(h:e.all kd):∀ q,e= .row q->KdR kd q:=fun q e2=>by
 subst e2;refine h q ?_
 cases q <;> simp [Rw.flat]
noncomputable def Ge1 (p:Prc):Prop:=p.1.2<=p.1.1
theorem aS6 {a b:Int}(h:b<=a) (hb:1<=b):(dR a b).2<=(dR a b).1:=by
 show eM a b<=fH a b;unfold fH eM;exact Int.ediv_le_ediv (qN hb) h
theorem aF0 {a b c d:Int}(h:b<=a) (k:d<=c) (hb:1<=b) (hd:1<=d):b * d<=a * c:=xp h k (by (exact oqb)) (by lia)
theorem wA {a b:Int}(h:b<=a) (hb:1<=b):∀ n:Nat,b ^ n<=a ^ n
 | 0=>by rw [mj,mj];exact pw _
 | n+1=>by rw [jp,jp];exact aF0 (wA h hb n) h (pw1 hb n) hb
theorem jS:Ge1 free:=by unfold Ge1 free;decide
theorem bE0 {a p:Prc}(h:Ge1 a) (k:Ge1 p) (ha:1<=a.1.2) (hp:1<=p.1.2):Ge1 (kB a p):=by
 show (fQ a.1 p.1).2<=(fQ a.1 p.1).1;have b1:1<=a.1.2 * p.1.2:=by have:=gu (show 0 < a.1.2 by (exact oqe)) (show 0 < p.1.2 by (exact oqe));lia
 exact aS6 (aF0 h k ha hp) b1
theorem bW8 {T:Thw}(h:T.Ok) {w:Int}(w0:0<=w):Ge1 (lV T w):=by
 unfold lV
 split
 ·exact jS
 have lc:∀ {p q:Int},tY p q->p ^ w.toNat<=q ^ w.toNat:=fun {p q} c=>wA (by have:=c.st.pq;(exact iq ‹_›)) c.st.p1 _
 cases T with
 | lad p q lo hi=>exact lc h
 | cho p q lo hi=>exact lc h
 | fla r lo hi=>exact (show (1:Int)<=1 by decide)
 | fst pa qa pb qb mk lo hi =>
  obtain ⟨ca,cb,_⟩:=h;have p1:=ca.st.p1;have p1':=cb.st.p1;have q1:=pw1 p1 w.toNat;have q2:=pw1 p1' (2 * w).toNat;have m2:1<=pa ^ w.toNat * pb ^ (2 * w).toNat:=by
   have:=gu (show 0 < pa ^ w.toNat by (exact oqe)) (show 0 < pb ^ (2 * w).toNat by (exact oqe))
   lia
  exact aS6 (aF0 (lc ca) (wA (by have:=cb.st.pq;(exact iq ‹_›)) p1' _) q1 q2) m2
theorem qD:∀ {ps:List Prc}{a:Prc},Ge1 a->fZ a->(∀ p∈ps,Ge1 p/\fZ p)->Ge1 (ps.foldl kB a)
 | [],_,h,_,_=>h
 | p :: ps,a,h,r,k=>by
  rw [gm];have kp:=k p ao;exact qD (bE0 h kp.1 r.f.b kp.2.f.b) (nE r kp.2) fun q hq=>k q (aq _ hq)
theorem bH4 {a b:Prc}(h:Ge1 a) (k:Ge1 b):Ge1 (sJ a b):=by
 rcases jM a.1 b.1 with e | e
 ·show (kC a.1 b.1).2<=(kC a.1 b.1).1;rw [e];exact h
 ·show (kC a.1 b.1).2<=(kC a.1 b.1).1;rw [e];exact k
mutual
theorem cN2 {H:Hp}(ss:List Str) (k:Nat):∀ r:Rw,fE H r->Ge1 (mB ss k r)
 | .thr p w x d,h=>by
  simp only [mB]
  split
  ·exact bW8 h.2.ok (aK9 h.2.ws k).1
  ·exact jS
 | .lt _ _ _,_=>by simp only [mB];exact jS
 | .tell _ _,_=>by simp only [mB];exact jS
 | .when _ _ _ _ a b,h=>by
  simp only [mB];exact bH4 (qD jS fG fun p hp=>⟨aJ5 ss k a h.2.2.2.2.1 p hp,(iV ss k a h.2.2.2.2.1).1 p hp⟩) (qD jS fG fun p hp=>⟨aJ5 ss k b h.2.2.2.2.2 p hp,(iV ss k b h.2.2.2.2.2).1 p hp⟩)
 | .times _ _ n b,h=>by
  simp only [mB];have g:=qD (ps:=tK ss k b) jS fG fun p hp=>⟨aJ5 ss k b h.2.2 p hp,(iV ss k b h.2.2).1 p hp⟩
  exact wA g (nO (iV ss k b h.2.2).1).f.b _
theorem aJ5 {H:Hp}(ss:List Str) (k:Nat):∀ rs:List Rw,bN H rs->∀ p∈tK ss k rs,Ge1 p
 | [],_,p,hp=>by simp only [tK] at hp;exact absurd hp au
 | r :: rs,⟨h,hs⟩,p,hp=>by
  simp only [tK] at hp;rcases cf.mp hp with rfl | hp
  ·exact cN2 ss k r h
  ·exact aJ5 ss k rs hs p hp
end
theorem bY1 {a b:V}{c:Bool}(h:c=true):jH [a,b] (if c=true then 1 else 0)=some b:=by rw [ay h];rfl
theorem cA8 {a b:V}{c:Bool}(h:¬ c=true):jH [a,b] (if c=true then 1 else 0)=some a:=by rw [ak h];rfl
theorem aS9 {ss:List Str}{r:Rw}(ci:lY ss r=true):(Pt.row r).rule ss="idle":=by
 cases r with
 | thr p w x d=>have:x∉ss:=(fun z=>by simp [lY,Rw.sets,z] at ci);simp only [Pt.rule,if_neg this]
 | lt p x tt=>have:x∉ss:=(fun z=>by simp [lY,Rw.sets,z] at ci);simp only [Pt.rule,if_neg this]
 | tell p tt=>simp [lY,Rw.sets] at ci
 | when p pa pb tt a b=>simp [lY,Rw.sets] at ci
 | times p pb n b=>simp [lY,Rw.sets] at ci
theorem aQ7 {ss:List Str}{r:Rw}(ci:lY ss r=false) (hk:(Pt.row r).kids=[]):(Pt.row r).rule ss="throw"\/(Pt.row r).rule ss="plain":=by
 cases r with
 | thr p w x d=>left;simp only [Pt.rule,if_pos (show x∈ss by simpa [lY,Rw.sets] using ci)]
 | lt p x tt=>right;simp only [Pt.rule,if_pos (show x∈ss by simpa [lY,Rw.sets] using ci)]
 | tell p tt=>right;rfl
 | when p pa pb tt a b=>simp [Pt.kids] at hk
 | times p pb n b=>simp [Pt.kids] at hk
theorem bH6 {H:Hp}{r:Rw}(h:fE H r) (hk:(Pt.row r).kids=[]):¬ r.w∈(["when","times"]:List Str):=by
 cases r with
 | thr p w x d =>
  have n:=qI h.2;intro z;simp only [List.mem_cons,List.not_mem_nil,or_false] at z;rcases z with z | z
  ·exact n.1 (fc V.str z)
  ·exact n.2 (fc V.str z)
 | lt p x tt=>show ¬ ("let": Str)∈_;decide +kernel
 | tell p tt=>show ¬ ("tell": Str)∈_;decide +kernel
 | when p pa pb tt a b=>simp [Pt.kids] at hk
 | times p pb n b=>simp [Pt.kids] at hk
theorem bT7 {H:Hp}{ss:List Str}{k:Nat}{kd:Int}{e:Pt}(he:mC H e) (hl:e.ld<=6) (hkd:∀ q,e= .row q->KdR kd q) (l4:e.kids.length<=4000) (hm:e.made=true) (nw:∀ p pa pb t a b,e≠ .row (.when p pa pb t a b)) :
  ∃ PS:List Prc,SqB PS/\PS.length<=4000/\fF PS=e.pr ss k/\((e.rule ss="rows"/\PS=e.kids.map (Pt.pr ss k))\/(e.rule ss="again"/\∃ (n:Int) (r:List V),1<=n/\n<=3/\e.kids.length=1/\H e.p=some (.tup (.str "times" :: .int n :: r))/\PS=(List.replicate n.toNat (e.kids.map (Pt.pr ss k))).flatten)):=by
 cases e with
 | rows p rs =>
  have ek:(Pt.rows p rs).kids.map (Pt.pr ss k)=tK ss k rs:=by
   show (rs.map Pt.row).map (Pt.pr ss k)=_;rw [sr,lI];rfl
  refine ⟨tK ss k rs,aU5 he.2 hl,?_,rfl,.inl ⟨rfl,ek.symm⟩⟩;rw [<- ek,ac];exact l4
 | row r =>
  cases r with
  | times p pb n b =>
   have hn:1<=n/\n<=3:=hkd _ rfl;simp only [Pt.ld,nZ] at hl;have o:=kS ss k he.2.2;have ek:(Pt.row (.times p pb n b)).kids.map (Pt.pr ss k)=[iL ss k b]:=by simp only [Pt.kids,List.map_cons,List.map_nil,Pt.pr]
   refine ⟨List.replicate n.toNat (iL ss k b),SqB.rep o.2 o.1 hl (by lia),by rw [qz];lia,?_,.inr ⟨rfl,n,_,hn.1,hn.2,rfl,he.1,by rw [ek,aI5]⟩⟩;rw [vO o.1];simp only [Pt.pr,mB,iL]
  | when p pa pb t a b=>exact absurd rfl (nw p pa pb t a b)
  | thr p w x d=>exact Bool.noConfusion (show false=true from hm)
  | lt p x t=>exact Bool.noConfusion (show false=true from hm)
  | tell p t=>exact Bool.noConfusion (show false=true from hm)
theorem aO.updL {K:W.Frag}{H:Hp}{l:Addr}{vs:List V}{o:HO}(h:H l=some (.lst vs)) {a:Addr}{xs:List V}:aO K H a xs->aO K (aQ H l o) a xs
 | .inl (.inl e)=> .inl (.inl (by rw [aI (fun z=>by rw [z,h] at e;cases e)];exact e))
 | .inl (.inr ⟨u,e⟩)=> .inl (.inr ⟨u,by rw [aI (fun z=>by rw [z,h] at e;cases e)];exact e⟩)
 | .inr e=> .inr e
theorem dE.updL {K:W.Frag}{H:Hp}{l:Addr}{vs:List V}{o:HO}(h:H l=some (.lst vs)) {v:V}{P:Prc}:dE K H v P->dE K (aQ H l o) v P
 | ⟨a,x,y,e,h0,h1,h2⟩=>⟨a,x,y,e,aO.updL h h0,aO.updL h h1,aO.updL h h2⟩
theorem wL {α: Type}{R:V->α->Prop}:∀ {vs:List V}{as:List α}{i:Nat}{a:α},cO R vs as->as[i]?=some a->∃ v,vs[i]?=some v/\R v a
 | [],[],i,a,_,h=>by cases h
 | v :: vs,a :: as,0,_,⟨e,_⟩,h=>by cases h;exact ⟨v,rfl,e⟩
 | v :: vs,a :: as,i+1,x,⟨_,r⟩,h=>by
  rw [List.getElem?_cons_succ] at h ⊢;exact wL r h
 | [],_ :: _,_,_,z,_=>z.elim
 | _ :: _,[],_,_,z,_=>z.elim
theorem bS3 (c:Pt):1<=c.sz:=by
 cases c with
 | rows p rs=>simp only [Pt.sz];(exact oqJ)
 | row r=>have:=aJ9 r;simp only [Pt.sz];lia
theorem wP:∀ cs:List Pt,cs.length<=pH cs
 | []=>bj _
 | c :: cs=>by have:=bS3 c;have:=wP cs;simp only [pH,List.length_cons];lia
end Mine
namespace L2
open PySem PySem.Spec PyProof.Rows
section
variable {X:Cx}
noncomputable def cL2 (K:W.Frag):R2:=fun x y H Q=>x=y/\(x= .non\/∃ a xs,x= .ref a/\aO K H a xs)/\Q (.bl false) H
theorem bN5 {k:Nat}(hr:dQ k X.A):jU X (compareOp .NotEq) (cL2 X.K):=by
 intro pins s σ H x y v u Q I rx ry h;obtain ⟨rfl,h | ⟨a,xs,rfl,ha⟩,q⟩:=h
 ·subst h;exact qK pins s σ H _ _ v u Q I rx ry ⟨rfl,q⟩
 cases rx
 cases ry
 obtain ⟨its,r1,p1,_⟩:=I.tuple ha;have hu:=hr.units;have g:=SeqAt.RcNeAt.tuples (A:=X.A) (e:=fun _=>true) p1 p1 (by lia) fun j h1 h2=>SeqAt.EqAt.same _
 refine g _ _ _ _ ?_;refine ⟨.bl _,H,I,rfl,?_⟩;have e:(List.range (min its.toArray.size its.toArray.size)).all (fun _=>true)=true:=vq.mpr fun _ _=>rfl
 rw [e,beq_self_eq_true];exact q
end
end L2
namespace Mine
open PySem L2
noncomputable def sW:Pt->Plc->Option Pt
 | e,[]=>some e
 | e,i :: pl=>if 0<=i then (match e.kids[i.toNat]? with | some c=>sW c pl | none=>none) else none
noncomputable def atV:Option Pt->V
 | some c=> .ref c.p
 | none=> .non
theorem mP:∀ (a:Plc) (e:Pt) (b:Plc),sW e (a++b)=match sW e a with | some c=>sW c b | none=>none
 | [],e,b=>rfl
 | i :: a,e,b=>by
  show (if 0<=i then (match e.kids[i.toNat]? with | some c=>sW c (a++b) | none=>none) else none)=_;show _=match (if 0<=i then (match e.kids[i.toNat]? with | some c=>sW c a | none=>none) else none) with | some c=>sW c b | none=>none
  by_cases h:0<=i
  ·rw [ay h,ay h]
   cases e.kids[i.toNat]? with
   | none=>rfl
   | some c=>exact mP a c b
  ·rw [ak h,ak h]
theorem aH3 {e c:Pt}{i:Int}(h0:0<=i) (h:e.kids[i.toNat]?=some c):sW e [i]=some c:=by
 show (if 0<=i then (match e.kids[i.toNat]? with | some c=>some c | none=>none) else none)=some c;rw [ay h0,h]
theorem aI7 {e:Pt}{i:Int}{b:Plc}(h:¬ (0<=i/\i < (e.kids.length:Int))):sW e (i :: b)=none:=by
 show (if 0<=i then (match e.kids[i.toNat]? with | some c=>sW c b | none=>none) else none)=none
 by_cases h0:0<=i
 ·rw [ay h0,om (by lia)]
 ·rw [ak h0]
theorem bB8 {e c:Pt}(h:c∈e.kids):c.sz < e.sz:=by
 have:=wJ e;have m:∀ {l:List Pt},c∈l->c.sz<=pH l:=fun {l}=>by
  induction l with
  | nil=>exact fun z=>absurd z au
  | cons a r ih =>
   intro z;simp only [pH];rcases cf.mp z with rfl | z
   ·(exact oqI)
   ·have:=ih z;lia
 have:=m h
 lia
theorem bA7 (e:Pt):e.kids.length < e.sz:=by
 have:=wP e.kids;have:=wJ e
 lia
theorem aP4 {x e:PP}(h:x∈eJ e):∃ i:Nat,x.1=e.1++[(i:Int)]/\e.2.kids[i]?=some x.2:=by
 obtain ⟨i,hi⟩:=List.getElem?_of_mem h;have il:i < e.2.kids.length:=by rw [<- fL];exact (bc.mp hi).1
 rw [lK (ar il)] at hi;injection hi with hi
 rw [<- hi];exact ⟨i,rfl,ar il⟩
theorem aT5:∀ (n:Nat) (e:Pt) (pl:Plc) (x:PP),e.sz<=n->x∈cQ (pl,e)->∃ s,x.1=pl++s/\sW e s=some x.2/\∀ i∈s,0<=i/\i < (e.sz:Int)
 | n,e,pl,x,hn,hx=>by
  rw [gE] at hx;rcases cg.mp hx with h | h
  ·obtain ⟨⟨pc,c⟩,hc,hxc⟩:=jh.mp h;obtain ⟨i,e1,e2⟩:=aP4 hc;replace e1:pc=pl++[(i:Int)]:=e1;replace e2:e.kids[i]?=some c:=e2;subst e1;have cs:=bB8 (be e2)
   cases n with
   | zero=>lia
   | succ n =>
   obtain ⟨s,h1,h2,h3⟩:=aT5 n c _ x (by lia) hxc;refine ⟨(i:Int) :: s,by rw [h1,ee];rfl,?_,fun j hj=>?_⟩
   ·show (if (0:Int)<=i then (match e.kids[(i:Int).toNat]? with | some c=>sW c s | none=>none) else none)=_;rw [ay (by (exact ka _)),cq,e2];exact h2
   ·rcases cf.mp hj with rfl | hj
    ·have:=(bc.mp e2).1;have:=bA7 e
     lia
    ·have:=h3 j hj
     lia
  ·rw [ax.mp h];exact ⟨[],by simp,rfl,fun j hj=>absurd hj au⟩
theorem xP {e:Pt}{x:PP}(h:x∈cQ ([],e)):sW e x.1=some x.2/\∀ i∈x.1,0<=i/\i < (e.sz:Int):=by
 obtain ⟨s,h1,h2,h3⟩:=aT5 _ e [] x (aj _) h;rw [qd] at h1;rw [h1];exact ⟨h2,h3⟩
theorem xB (pl:Plc):∀ e:Pt,(cQ (pl,e)).length<=e.sz
 | .rows p rs=>by
  have:=iB pl 0 rs;simp only [cQ,Pt.sz,List.length_append,List.length_singleton]
  lia
 | .row r=>yJ pl r
noncomputable abbrev Ln:=Plc×Str×Prc
noncomputable def xX (ss:List Str) (k:Nat) (c:PP):Ln:=(c.1,c.2.rule ss,c.2.pr ss k)
noncomputable def pO (K:W.Frag) (H:Hp) (v:V) (x:Ln):Prop:=∃ a q f g,v= .ref a/\H a=some (.tup [.ref q,.str x.2.1,.ref f,.ref g])/\H q=some (.tup (x.1.map V.int))/\bJ K H f x.2.2.1/\bJ K H g x.2.2.2
theorem pO.s {K:W.Frag}{H H':Hp}(s:aS H H') {v:V}{x:Ln}:pO K H v x->pO K H' v x
 | ⟨a,q,f,g,e,h1,h2,h3,h4⟩=>⟨a,q,f,g,e,s _ _ h1,s _ _ h2,h3.s s,h4.s s⟩
theorem pO.off {K:W.Frag}{d:Addr}{H H':Hp}{kvs:List (List Key×V)}(o:fW d H H') (h:H d=some (.dT kvs)) {v:V}{x:Ln}:pO K H v x->pO K H' v x
 | ⟨a,q,f,g,e,h1,h2,h3,h4⟩=>⟨a,q,f,g,e,o.ts h _ _ h1,o.ts h _ _ h2,aO.off o h h3,aO.off o h h4⟩
theorem pO.updL {K:W.Frag}{H:Hp}{l:Addr}{us:List V}{o:HO}(h:H l=some (.lst us)) {v:V}{x:Ln}:pO K H v x->pO K (aQ H l o) v x
 | ⟨a,q,f,g,e,h1,h2,h3,h4⟩=>⟨a,q,f,g,e,by rw [aI (dD h1 h (by intro z;cases z))];exact h1,by rw [aI (dD h2 h (by intro z;cases z))];exact h2,aO.updL h h3,aO.updL h h4⟩
theorem aO.out {K:W.Frag}{H H':Hp}{d l:Addr}(D:dX H d l) (o:eP d l H H') {a:Addr}{xs:List V}:aO K H a xs->aO K H' a xs
 | .inl (.inl e)=> .inl (.inl (pN D o e))
 | .inl (.inr ⟨u,e⟩)=>by
  obtain ⟨sd,kk,ls,z⟩:=D;exact .inl (.inr ⟨u,o _ _ e (dD e z.dc (by intro z;cases z)) (dD e z.lc (by intro z;cases z))⟩)
 | .inr e=> .inr e
theorem pO.out {K:W.Frag}{H H':Hp}{d l:Addr}(D:dX H d l) (o:eP d l H H') {v:V}{x:Ln}:pO K H v x->pO K H' v x
 | ⟨a,q,f,g,e,h1,h2,h3,h4⟩=>⟨a,q,f,g,e,pN D o h1,pN D o h2,aO.out D o h3,aO.out D o h4⟩
noncomputable def lnD (x:Ln):PyData:= .tuple [.tuple (x.1.map PyData.int),.str x.2.1,eU x.2.2.1.1 x.2.2.1.2,eU x.2.2.2.1 x.2.2.2.2]
theorem zQ {K:W.Frag}{H:Hp}:∀ ns:List Int,rR K H (ns.map PyData.int) (ns.map V.int)
 | []=>rfl
 | n :: r=>⟨_,_,rfl,rfl,zQ r⟩
theorem qZ {K:W.Frag}{H:Hp}{f:Addr}{u:Fr}(h:bJ K H f u):lX K H (eU u.1 u.2) (.ref f):=⟨f,_,rfl,h,_,_,rfl,rfl,_,_,rfl,rfl,rfl⟩
theorem bX4 {K:W.Frag}{H:Hp}{v:V}{x:Ln}:pO K H v x->lX K H (lnD x) v
 | ⟨a,q,f,g,e,h1,h2,h3,h4⟩=>⟨a,_,e,aO.of h1,_,_,rfl,⟨q,_,rfl,aO.of h2,zQ _⟩,_,_,rfl,rfl,_,_,rfl,qZ h3,_,_,rfl,qZ h4,rfl⟩
noncomputable def LnB (x:Ln):Prop:=x.1.length<=7/\(∀ i∈x.1,0<=i/\i < 4000)/\x.2.1∈(["rows","either","again","throw","plain","idle"]:List Str)/\fV 1000 x.2.2.1/\fV 1000 x.2.2.2
theorem bD5 (e:Pt) (ss:List Str):e.rule ss∈(["rows","either","again","throw","plain","idle"]:List Str):=by
 have r:∀ {c:Prop} [Decidable c] {a b:Str},a∈(["rows","either","again","throw","plain","idle"]:List Str)->b∈(["rows","either","again","throw","plain","idle"]:List Str)->(if c then a else b)∈(["rows","either","again","throw","plain","idle"]:List Str):=fun {c} _ {a b} h1 h2=>by
  split
  ·exact h1
  ·exact h2
 cases e with
 | rows _ _=>show ("rows": Str)∈_;decide +kernel
 | row r' =>
  cases r' with
  | when _ _ _ _ _ _=>show ("either": Str)∈_;decide +kernel
  | times _ _ _ _=>show ("again": Str)∈_;decide +kernel
  | thr _ _ x _=>exact r (by decide +kernel) (by decide +kernel)
  | lt _ x _=>exact r (by decide +kernel) (by decide +kernel)
  | tell _ _=>show ("plain": Str)∈_;decide +kernel
theorem bC8:2 ^ 1000 < 10 ^ 302:=by decide +kernel
theorem yK {i:Int}(h:bT 1000 i):(Str.ofString (toString i)).length<=303:=by
 rw [xu];exact uz (k:=302) (by decide) (zk h bC8)
theorem tV {u:Fr}(h:fV 1000 u):(eU u.1 u.2).shown.length<=620:=by
 have e1:=yK h.ba;have e2:=yK h.bb;have t:=wU [Str.ofString (toString u.1),Str.ofString (toString u.2)];rw [jq,jq,zx] at t;show (tupleText [Str.ofString (toString u.1),Str.ofString (toString u.2)]).length<=620
 lia
theorem aM4 {i:Int}(h0:0<=i) (h1:i < 4000):i.natAbs.log2 < 1920:=by
 by_cases z:i.natAbs=0
 ·rw [z];decide
 ·exact (wx z).mpr (cm (show i.natAbs < 2 ^ 12 by lia) (oz (by decide) (by decide)))
theorem zS:∀ ns:Plc,(∀ i∈ns,0<=i/\i < 4000)->PyData.showableAll (ns.map PyData.int)=true/\PyData.hasDictAll (ns.map PyData.int)=false/\PyData.depthAll (ns.map PyData.int)<=0/\piled (PyData.shownAll (ns.map PyData.int))<=ns.length * 7
 | [],_=>⟨rfl,rfl,aj _,aj _⟩
 | n :: r,h=>by
  obtain ⟨a,b,c,d⟩:=zS r fun i hi=>h i (aq _ hi)
  have hn:=h n ao;have l:=aM4 hn.1 hn.2;have e:(Str.ofString (toString n)).length<=5:=by
   rw [xu];exact uz (k:=4) (by decide) (show n.natAbs < 10 ^ 4 by lia)
  refine ⟨?_,?_,?_,?_⟩
  ·simp [PyData.showableAll,PyData.showable,a,l]
  ·simp [PyData.hasDictAll,PyData.hasDict,b]
  ·simp only [List.map_cons,PyData.depthAll,PyData.depth];lia
  ·simp only [List.map_cons,PyData.shownAll];rw [jq,bo];have e:(PyData.int n).shown.length<=5:=e
   lia
theorem aU0 {x:Str}(h:x∈(["rows","either","again","throw","plain","idle"]:List Str)):(PyData.str x).showable=true/\(PyData.str x).shown.length<=20:=by
 simp only [List.mem_cons,List.not_mem_nil,or_false] at h;rcases h with rfl | rfl | rfl | rfl | rfl | rfl <;> exact ⟨by decide +kernel,by decide +kernel⟩
theorem xK:∀ xs:List Ln,(∀ x∈xs,LnB x)->PyData.showableAll (xs.map lnD)=true/\PyData.hasDictAll (xs.map lnD)=false/\PyData.depthAll (xs.map lnD)<=2/\piled (PyData.shownAll (xs.map lnD))<=xs.length * 1400
 | [],_=>⟨rfl,rfl,bj _,aj _⟩
 | x :: r,h=>by
  obtain ⟨a,b,c,d⟩:=xK r fun y hy=>h y (aq _ hy)
  obtain ⟨h1,h2,h3,h4,h5⟩:=h x ao;obtain ⟨a1,b1,c1,d1⟩:=zS x.1 h2;obtain ⟨a2,d2⟩:=aU0 h3;have l1:=gJ h4.ba;have l2:=gJ h4.bb;have l3:=gJ h5.ba;have l4:=gJ h5.bb;have d3:=tV h4;have d4:=tV h5;have t1:=wU (PyData.shownAll (x.1.map PyData.int));have d1':(PyData.tuple (x.1.map PyData.int)).shown.length<=52:=by
   show (tupleText (PyData.shownAll (x.1.map PyData.int))).length<=52;have:x.1.length * 7<=7 * 7:=fg _ h1
   lia
  have t2:=wU [(PyData.tuple (x.1.map PyData.int)).shown,(PyData.str x.2.1).shown,(eU x.2.2.1.1 x.2.2.1.2).shown,(eU x.2.2.2.1 x.2.2.2.2).shown];rw [jq,jq,jq,jq,zx] at t2;have t3:(lnD x).shown.length<=1330:=by
   show (tupleText [(PyData.tuple (x.1.map PyData.int)).shown,(PyData.str x.2.1).shown,(eU x.2.2.1.1 x.2.2.1.2).shown,(eU x.2.2.2.1 x.2.2.2.2).shown]).length<=1330
   lia
  refine ⟨?_,?_,?_,?_⟩
  ·simp [lnD,eU,PyData.showableAll,PyData.showable,a,a1,a2,l1,l2,l3,l4]
  ·simp [lnD,eU,PyData.hasDictAll,PyData.hasDict,b,b1]
  ·simp only [List.map_cons,PyData.depthAll,lnD,eU,PyData.depth]
   lia
  ·simp only [List.map_cons,PyData.shownAll];rw [jq,bo]
   lia
noncomputable def tI (xs:List Ln):PyData:= .tuple (xs.map lnD)
theorem aR7 {xs:List Ln}(h:∀ x∈xs,LnB x) (hl:xs.length<=4000):(tI xs).showable=true/\(tI xs).hasDict=false/\(tI xs).depth<=64/\(tI xs).shown.length<=sizeLine:=by
 obtain ⟨a,b,c,d⟩:=xK xs h;refine ⟨by simp only [tI,PyData.showable,a],by simp only [tI,PyData.hasDict,b],by simp only [tI,PyData.depth];lia,?_⟩;have t:=wU (PyData.shownAll (xs.map lnD));show (tupleText (PyData.shownAll (xs.map lnD))).length<=sizeLine;rw [jo];have:xs.length * 1400<=4000 * 1400:=fg _ hl
 lia
theorem aL4 {K:W.Frag}{H:Hp}{a:Addr}{us:List V}{xs:List Ln}(h:H a=some (.tup us)) (t:cO (pO K H) us xs):lX K H (tI xs) (.ref a):=⟨a,us,rfl,aO.of h,cO.rep (fun _ _ z=>bX4 z) t⟩
noncomputable def kG (ss:List Str) (k:Nat) (e:PP):List Ln:=(cQ e).map (xX ss k)
noncomputable def bT3 (K:W.Frag) (n:Nat):Sp:=fun vs H Q _=>∃ (e:Pt) (q np:Addr) (ss:List Str) (k:Nat) (kd:Int) (pl:Plc),vs=[.ref e.p,.ref q,.ref np,.int k]/\mC H e/\e.dp < n/\e.dp+pl.length<=20/\e.ld<=6/\e.all kd/\(k:Int) < kd/\e.sz<=4000/\H q=some (.tup (pl.map V.int))/\H np=some (.lst (ss.map V.str)) /\
 ∀ H' l us,aS H H'->H l=none->H' l=some (.lst us)->cO (pO K H') us (kG ss k (pl,e))->Q (.ref l) H'
noncomputable def aJ4 (K:W.Frag):Nat->Sp
 | 0=>fun _ _ _ _=>False
 | n+1=>bT3 K (n+1)
noncomputable def aW7 (K:W.Frag):Sp:=fun vs H Q _=>∃ (p:Addr) (xs:List Str) (rs:List Rw) (k n:Nat) (v0:V) (pr:Addr),vs=[.ref p,.int k]/\jW H p xs rs/\KnN H p rs n/\k < n/\H p=some (.tup [v0,.ref pr])/\H pr=some (.tup (cL rs)) /\
 ∀ H' d kvs ss,aS H H'->H' d=some (.dT kvs)->NdS rs ss->jA K H' kvs ss k (cQ ([],.rows pr rs))->Q (.ref d) H'
noncomputable def spPAt:Sp:=fun vs H Q _=>∃ (p q pr:Addr) (v0:V) (rs:List Rw) (pl:Plc),vs=[.ref p,.ref q]/\H p=some (.tup [v0,.ref pr])/\mC H (.rows pr rs)/\(Pt.rows pr rs).sz<=4000/\H q=some (.tup (pl.map V.int)) /\
 ∀ H',aS H H'->Q (atV (sW (.rows pr rs) pl)) H'
noncomputable def Pt.rule0:Pt->Str
 | .rows _ _=>"rows"
 | .row (.when _ _ _ _ _ _)=>"either"
 | .row (.times _ _ _ _)=>"again"
 | .row (.thr _ _ _ _)=>"throw"
 | .row (.lt _ _ _)=>"plain"
 | .row (.tell _ _)=>"plain"
noncomputable def Pt.idle (ss:List Str):Pt->Bool
 | .rows _ _=>false
 | .row r=>lY ss r
theorem wT (ss:List Str) (e:Pt):e.rule ss=if e.idle ss=true then ("idle": Str) else e.rule0:=by
 have r:∀ {c:Prop} [Decidable c] {a b:Str},(if c then a else b)=if (!decide c)=true then b else a:=fun {c} _ {a b}=>by
  by_cases h:c
  ·rw [ay h,ag h];rfl
  ·rw [ak h,cz h];rfl
 cases e with
 | rows _ _=>rfl
 | row r' =>
  cases r' with
  | when _ _ _ _ _ _=>rfl
  | times _ _ _ _=>rfl
  | thr _ _ x _=>exact r
  | lt _ x _=>exact r
  | tell _ _=>rfl
noncomputable def spRul:Sp:=fun vs H Q _=>∃ e:Pt,vs=[.ref e.p]/\mC H e/\∀ H',aS H H'->Q (.str e.rule0) H'
noncomputable def spIdl:Sp:=fun vs H Q _=>∃ (e:Pt) (np:Addr) (ss:List Str),vs=[.ref e.p,.ref np]/\mC H e/\H np=some (.tup (ss.map V.str))/\Q (.bl (e.idle ss)) H
structure ShT (K:W.Frag) (C:Addr):Prop where
 cl:Cls K C
 n1:iU K C "program"
 n2:iU K C "kind"
 n3:iU K C "names"
 n4:iU K C "shown"
noncomputable def shF (p np d:Addr) (k:Nat):List (Str×V):=[("program",.ref p),("kind",.int k),("names",.ref np),("shown",.ref d)]
theorem aU3 (p np d:Addr) (k:Nat):fC "shown" (.ref d) (fC "names" (.ref np) (fC "kind" (.int k) (fC "program" (.ref p) [])))=shF p np d k:=by
 have a:¬ (("program": Str)="kind"):=by decide +kernel
 have b:¬ (("program": Str)="names"):=by decide +kernel
 have c:¬ (("kind": Str)="names"):=by decide +kernel
 have e:¬ (("program": Str)="shown"):=by decide +kernel
 have f:¬ (("kind": Str)="shown"):=by decide +kernel
 have g:¬ (("names": Str)="shown"):=by decide +kernel
 simp only [fC,if_neg a,if_neg b,if_neg c,if_neg e,if_neg f,if_neg g,shF]
theorem aW9 (p np d:Addr) (k:Nat):(shF p np d k).lookup ("program": Str)=some (.ref p)/\(shF p np d k).lookup ("kind": Str)=some (.int k)/\(shF p np d k).lookup ("names": Str)=some (.ref np)/\(shF p np d k).lookup ("shown": Str)=some (.ref d):=by
 rw [<- aU3];simp only [kZ];refine ⟨?_,?_,?_,?_⟩
 ·rw [ak (by decide +kernel),ak (by decide +kernel),ak (by decide +kernel),ay trivial]
 ·rw [ak (by decide +kernel),ak (by decide +kernel),ay trivial]
 ·rw [ak (by decide +kernel),ay trivial]
 ·rw [ay trivial]
noncomputable def bK7 (C:Addr):Sp:=fun vs H Q _=>∃ (x p dx:Addr) (xs:List Str) (rs:List Rw) (k:Nat),vs=[.ref x,.ref p,.int k]/\H x=some (.ins C dx [])/\jW H p xs rs /\
 ∀ H' np d ss,fW x H H'->H d=none->H' x=some (.ins C dx (shF p np d k))->H' d=some (.dT [])->H' np=some (.tup (ss.map V.str))->NdS rs ss->Q .non H'
structure Sht (K:W.Frag) (H:Hp) (C sh p pr np d:Addr) (rs:List Rw) (k n:Nat) (ss:List Str) (kvs:List (List Key×V)):Prop where
 ob:∃ dx,H sh=some (.ins C dx (shF p np d k))
 dc:H d=some (.dT kvs)
 nm:H np=some (.tup (ss.map V.str))
 pg:∃ xs,jW H p xs rs
 kn:KnN H p rs n
 kl:k < n
 pp:∃ v0,H p=some (.tup [v0,.ref pr])
 pq:H pr=some (.tup (cL rs))
theorem Sht.s {K:W.Frag}{H H':Hp}{C sh p pr np d:Addr}{rs:List Rw}{k n:Nat}{ss:List Str}{kvs:List (List Key×V)}(s:aS H H') (S:Sht K H C sh p pr np d rs k n ss kvs):Sht K H' C sh p pr np d rs k n ss kvs :=
 ⟨let ⟨dx,e⟩:=S.ob;⟨dx,s _ _ e⟩,s _ _ S.dc,s _ _ S.nm,let ⟨xs,P⟩:=S.pg;⟨xs,P.ts (.of s)⟩,S.kn.ts (.of s),S.kl,let ⟨v0,e⟩:=S.pp;⟨v0,s _ _ e⟩,s _ _ S.pq⟩
theorem Sht.put {K:W.Frag}{H H':Hp}{C sh p pr np d:Addr}{rs:List Rw}{k n:Nat}{ss:List Str}{kvs kvs':List (List Key×V)}(o:fW d H H') (h:H' d=some (.dT kvs')) (S:Sht K H C sh p pr np d rs k n ss kvs):Sht K H' C sh p pr np d rs k n ss kvs' :=
 have t:=o.ts S.dc
 ⟨let ⟨dx,e⟩:=S.ob;⟨dx,o _ _ (dD e S.dc (by intro z;cases z)) e⟩,h,t _ _ S.nm,let ⟨xs,P⟩:=S.pg;⟨xs,P.ts t⟩,S.kn.ts t,S.kl,let ⟨v0,e⟩:=S.pp;⟨v0,t _ _ e⟩,t _ _ S.pq⟩
noncomputable def bJ4 (K:W.Frag) (H:Hp) (kvs:List (List Key×V)) (ss:List Str) (k:Nat) (e:PP):Prop:=∀ c∈eJ e,∃ v,bP kvs (xH c.1)=some v/\dE K H v (c.2.pr ss k)
noncomputable def bL6 (K:W.Frag) (C:Addr):Sp:=fun vs H Q _=>∃ (sh p pr np d q:Addr) (rs:List Rw) (k n:Nat) (ss:List Str) (kvs:List (List Key×V)) (e:PP),vs=[.ref sh,.ref q,.str (e.2.rule ss)]/\Sht K H C sh p pr np d rs k n ss kvs/\e∈cQ ([],.rows pr rs)/\H q=some (.tup (e.1.map V.int))/\bJ4 K H kvs ss k e /\
 ∀ H' v,aS H H'->dE K H' v (e.2.pr ss k)->Q v H'
noncomputable def bL9 (K:W.Frag) (C:Addr):Sp:=fun vs H Q _=>∃ (sh p pr np d:Addr) (z:V) (rs:List Rw) (k n:Nat) (ss:List Str) (kvs:List (List Key×V)) (e:PP),vs=[.ref sh,z]/\Sht K H C sh p pr np d rs k n ss kvs/\e∈cQ ([],.rows pr rs)/\pO K H z (xX ss k e)/\bJ4 K H kvs ss k e /\
 ∀ H',aS H H'->Q (.bl true) H'
noncomputable def bK2 (K:W.Frag):Sp:=fun vs H Q _=>∃ (p pr a:Addr) (v0:V) (us:List V) (xs:List Str) (rs:List Rw) (k n:Nat) (ss:List Str),vs=[.ref p,.int k,.ref a]/\jW H p xs rs/\KnN H p rs n/\k < n/\H p=some (.tup [v0,.ref pr])/\H pr=some (.tup (cL rs))/\H a=some (.tup us)/\NdS rs ss/\cO (pO K H) us (kG ss k ([],.rows pr rs)) /\
 ∀ H' v,aS H H'->dE K H' v (iL ss k rs)->Q v H'
noncomputable def bL4 (K:W.Frag):Sp:=fun vs H Q _=>∃ (p pr:Addr) (v0:V) (xs:List Str) (rs:List Rw) (k n:Nat),vs=[.ref p,.int k]/\jW H p xs rs/\KnN H p rs n/\k < n/\H p=some (.tup [v0,.ref pr])/\H pr=some (.tup (cL rs)) /\
 ∀ H' a us ss,aS H H'->H' a=some (.tup us)->NdS rs ss->cO (pO K H') us (kG ss k ([],.rows pr rs))->Q (.ref a) H'
noncomputable def bA0 (K:W.Frag):Sp:=fun vs H Q _=>∃ (d l ll:Addr) (us:List V) (xs:List Ln),vs=[.ref d,.ref ll]/\dX H d l/\H ll=some (.lst us)/\ll≠l/\cO (pO K H) us xs/\xs.length<=4000/\(∀ x∈xs,x.1.length<=20) /\
 ∀ H' r ys pls,dX H' d l->eP d l H H'->H r=none->H' r=some (.lst ys)->cO (lG H') ys pls->pls.length<=16000->Q (.ref r) H'
theorem cM9 {H:Hp}{kd:Int}{pr:Addr}{rs:List Rw}{ss:List Str}{k:Nat}(h:mC H (.rows pr rs)) (hc:bY rs<=1300) (hd:fK rs<=3) (hl:jP rs<=6) (hk:jR kd rs):∀ x∈kG ss k ([],.rows pr rs),LnB x:=fun x hx=>by
 obtain ⟨e,he,rfl⟩:=cy.mp hx;have a:=oR hk e he;have r:=xP he;have b:=qY (Pt.pr_ok ss k (uO h.1 h.2 e he)).2 (by lia);refine ⟨by show e.1.length<=7;lia,fun i hi=>?_,bD5 _ _,b.1,b.2⟩;have:=r.2 i hi;simp only [Pt.sz] at this
 lia
end Mine
namespace L2
open PySem PySem.Spec PyProof.Rows
def xI (P:Program) (w:World) (K:W.Frag) (a:Addr) (kvs:List (Key×V)):Prop:=(a == sysModules)=false/\∃ vs,KV kvs vs/\∀ h:Heap,K.In h->h.DictOf (aY P w) a vs
def bX9 (P:Program) (w:World) (K:W.Frag) (td ty tx:TE):TE:=fun σ H Q=>td σ H fun x H1=>∃ a kvs,x= .ref a/\xI P w K a kvs/\ty σ H1 fun y H2=>tx σ H2 fun z H3=>∃ k,y=kV k/\Q ((bP kvs k).getD z) H3
section
variable {X:Cx}{o e f:Expr}{apos cpos:Pos}{td ty tx:TE}
theorem aX2 (ho:PE X o td) (he:PE X e ty) (hf:PE X f tx) (m:M2 X o "get" apos e f cpos):PE X (.Call (.Attribute o "get" apos) [e,f] [] cpos) (bX9 X.prog X.w X.K td ty tx):=by
 intro pins s σ H Q I h;refine vb m.base m.few m.line qm kh xj (cW (ho pins s σ H _ I h) ?_);rintro u s1 ⟨x,H1,I1,rx,a,kvs,ex,⟨hd,vs,rel,hc⟩,q1⟩;subst ex;obtain rfl:u=Value.ref a:=rx;have dd:=hc _ I1.kIn;refine ⟨dd.typeIs,fun b q=>?_,?_⟩
 ·cases q
  obtain ⟨ob,_,_,h1,h2,_⟩:=dd;exact ⟨ob,h1,h2.2.1⟩
 rw [m.trees];refine jz rfl (ow (ge (cW (he pins s1 σ H1 _ I1 q1) fun iv s2 ⟨y,H2,I2,ry,q2⟩ =>
  ge (cW (hf pins s2 σ H2 _ I2 q2) fun fv s3 ⟨z,H3,I3,rz,k,ey,q3⟩=>jb ?_))))
 subst ey;have dd:=hc _ I3.kIn;exact vm kh dd.typeIs qv (qk _ _ _) (wu (aY X.prog X.w) a (nU ry) hd fv) ⟨_,dd.mapOf,_,H3,I3.tok _,(rel.val k).getD rz,q3⟩
end
def aQ4 (w:World) (p:Key×V) (e:DictEntry):Prop:=kD p.1 e.key=true/\e.hash=bS1 w p.1/\bL p.2 e.val
theorem aQ4.all {P:Program}{w:World}:∀ {kvs:List (Key×V)}{es:List DictEntry},Paired (aQ4 w) kvs es->∃ vs,KV kvs vs/\Pairs (aY P w) es vs/\vs.map (·.1)=kvs.map (·.1)/\∀ e∈es,∃ k,kD k e.key=true/\e.hash=bS1 w k
 | _,_,.nil=>⟨[],.nil,.nil,rfl,fun _ h=>absurd h au⟩
 | p :: _,e :: _,.cons ⟨h1,h2,h3⟩ r=>by
  obtain ⟨vs,a,b,c,d⟩:=aQ4.all (P:=P) r;refine ⟨(p.1,e.val) :: vs,.cons ⟨rfl,h3⟩ a,.cons h1 rfl b,by rw [dq,dq,c],fun x hx=>?_⟩;rcases cf.mp hx with rfl | hx
  ·exact ⟨p.1,h1,h2⟩
  ·exact d x hx
theorem xI.mk {P:Program}{w:World}{K:W.Frag}{a:Addr}{kvs:List (Key×V)}{es:Array DictEntry}{ep:Nat}(u:K.lookup a=some ⟨.type "dict",none,.dict es ep, #[]⟩) (n:(a == sysModules)=false) (h:Paired (aQ4 w) kvs es.toList) (nd:(kvs.map (·.1)).Nodup):xI P w K a kvs:=by
 obtain ⟨vs,x,y,z,d⟩:=aQ4.all (P:=P) h;exact ⟨n,vs,x,fun hp I=>⟨_,es,ep,I a _ u,⟨rfl,rfl,rfl⟩,rfl,fun e he=>d e (yd.mpr he),y,by rw [z];exact nd⟩⟩
theorem aH6 {X:Cx}(K:W.Frag) {e:Expr}{f:Str}{pos:Pos}{ta:TE}(he:PE X e ta) (hb:attributeBase e f X.env (eval e X.env)=eval e X.env) (hK:X.K=K:=by rfl):PE X (.Attribute e f pos) (cB2 K ta f):=by subst hK;exact oH he hb
end L2
namespace Mine
open PySem L2
theorem aW6 {ns:List Int}{i:Nat}{v:V}(h:(ns.map V.int)[i]?=some v):∃ m,ns[i]?=some m/\v= .int m:=by
 rw [cj] at h
 cases e:ns[i]? with
 | none=>rw [e] at h;cases h
 | some m=>rw [e] at h;cases h;exact ⟨m,rfl,rfl⟩
theorem aH0 {α: Type}{l:List α}{i:Nat}{x:α}(h:l[i]?=some x):l.drop i=x :: l.drop (i+1):=by
 obtain ⟨h1,h2⟩:=bc.mp h;rw [qf h1,h2]
noncomputable def rulK:List (Key×V):=[(Sum.inr "let",.str "plain"),(Sum.inr "tell",.str "plain"),(Sum.inr "when",.str "either"),(Sum.inr "times",.str "again")]
theorem bV0 {H:Hp}:∀ {r:Rw},fE H r->(bP rulK (Sum.inr r.w:Key)).getD (.str "throw")= .str (Pt.row r).rule0
 | .thr p w x d,h=>by
  show (bP rulK (Sum.inr w:Key)).getD (.str "throw")= .str "throw";rw [h.2.wd]
  cases d.T with
  | lad _ _ _ _=>show (bP rulK (Sum.inr "ladder": Key)).getD (.str "throw")= .str "throw";decide +kernel
  | fla _ _ _=>show (bP rulK (Sum.inr "flat": Key)).getD (.str "throw")= .str "throw";decide +kernel
  | cho _ _ _ _=>show (bP rulK (Sum.inr "choose": Key)).getD (.str "throw")= .str "throw";decide +kernel
  | fst _ _ _ _ _ _ _=>show (bP rulK (Sum.inr "first": Key)).getD (.str "throw")= .str "throw";decide +kernel
 | .lt _ _ _,_=>by show (bP rulK (Sum.inr "let": Key)).getD (.str "throw")= .str "plain";decide +kernel
 | .tell _ _,_=>by show (bP rulK (Sum.inr "tell": Key)).getD (.str "throw")= .str "plain";decide +kernel
 | .when _ _ _ _ _ _,_=>by show (bP rulK (Sum.inr "when": Key)).getD (.str "throw")= .str "either";decide +kernel
 | .times _ _ _ _,_=>by show (bP rulK (Sum.inr "times": Key)).getD (.str "throw")= .str "again";decide +kernel
theorem aV7 (e:Pt):¬ V.str e.rule0=V.str "idle":=by
 cases e with
 | rows _ _=>show ¬ V.str "rows"=V.str "idle";decide +kernel
 | row r =>
  cases r with
  | when _ _ _ _ _ _=>show ¬ V.str "either"=V.str "idle";decide +kernel
  | times _ _ _ _=>show ¬ V.str "again"=V.str "idle";decide +kernel
  | thr _ _ _ _=>show ¬ V.str "throw"=V.str "idle";decide +kernel
  | lt _ _ _=>show ¬ V.str "plain"=V.str "idle";decide +kernel
  | tell _ _=>show ¬ V.str "plain"=V.str "idle";decide +kernel
theorem aZ5 (e:Pt):decide (e.rule0∈(["throw","plain"]:List Str))= !e.made:=by
 cases e with
 | rows _ _=>show decide (("rows": Str)∈(["throw","plain"]:List Str))=false;decide +kernel
 | row r =>
  cases r with
  | when _ _ _ _ _ _=>show decide (("either": Str)∈(["throw","plain"]:List Str))=false;decide +kernel
  | times _ _ _ _=>show decide (("again": Str)∈(["throw","plain"]:List Str))=false;decide +kernel
  | thr _ _ _ _=>show decide (("throw": Str)∈(["throw","plain"]:List Str))=true;decide +kernel
  | lt _ _ _=>show decide (("plain": Str)∈(["throw","plain"]:List Str))=true;decide +kernel
  | tell _ _=>show decide (("plain": Str)∈(["throw","plain"]:List Str))=true;decide +kernel
theorem bG5 {e:Pt}{ss:List Str}(k:Nat) (h:e.idle ss=true):e.pr ss k=free:=by
 cases e with
 | rows _ _=>cases h
 | row r=>exact aF7 h
theorem bX2 {e:Pt}(h:e.made=false):∃ r,e= .row r/\(Pt.row r).kids=[]:=by
 cases e with
 | rows _ _=>cases h
 | row r =>
  cases r with
  | when _ _ _ _ _ _=>cases h
  | times _ _ _ _=>cases h
  | thr _ _ _ _=>exact ⟨_,rfl,rfl⟩
  | lt _ _ _=>exact ⟨_,rfl,rfl⟩
  | tell _ _=>exact ⟨_,rfl,rfl⟩
theorem dG.s {H H':Hp}(s:aS H H') {a:Addr}{y:V}{r:Option V}:dG H a y r->dG H' a y r
 | .inl ⟨kvs,k,e,ey,l⟩=> .inl ⟨kvs,k,e.elim (fun e=> .inl (s _ _ e)) (by rintro ⟨o,e⟩;exact  .inr ⟨o,s _ _ e⟩),ey,l⟩
 | .inr ⟨kvs,k,b,e,ey,eb,l⟩=> .inr ⟨kvs,k,b,e.elim (fun e=> .inl (s _ _ e)) (by rintro ⟨o,e⟩;exact  .inr ⟨o,s _ _ e⟩),ey,s _ _ eb,l⟩
theorem wN (xs:List Int) (lo hi:Option Int):∃ ys:List Int,gK (xs.map V.int) lo hi=ys.map V.int/\ys.length<=xs.length:=by
 refine ⟨(xs.drop (HT.sIx xs.length 0 lo)).take (HT.sIx xs.length xs.length hi - HT.sIx xs.length 0 lo),?_,?_⟩
 ·unfold gK;rw [ac,nh,yw]
 ·rw [cp,ox];lia
theorem aP0 {i:Int}(h0:0<=i) (h1:i < 3):∃ m,jH [V.int 1,V.int (-1),V.int 7] i=some (.int m):=by
 have:i=0\/i=1\/i=2:=by lia
 rcases this with rfl | rfl | rfl
 ·exact ⟨1,rfl⟩
 ·exact ⟨-1,rfl⟩
 ·exact ⟨7,rfl⟩
theorem wH {H:Hp}{l:Addr}{us:List V}{o:HO}(h:H l=some (.lst us)) {zs:List V}{ps:List Plc}(t:cO (lG H) zs ps):cO (lG (aQ H l o)) zs ps:=t.mono fun v p ⟨a,e,z⟩=>⟨a,e,by rw [aI (dD z h (by intro q;cases q))];exact z⟩
theorem aO.offL {K:W.Frag}{d:Addr}{H H':Hp}{us:List V}(o:fW d H H') (h:H d=some (.lst us)) {a:Addr}{xs:List V}:aO K H a xs->aO K H' a xs
 | .inl (.inl e)=> .inl (.inl (o _ _ (fun z=>by rw [z,h] at e;cases e) e))
 | .inl (.inr ⟨u,e⟩)=> .inl (.inr ⟨u,o _ _ (fun z=>by rw [z,h] at e;cases e) e⟩)
 | .inr e=> .inr e
structure PlI (H:Hp) (d l rc fl:Addr) (zs:List V) (ps:List Plc) (n:Nat) (G:Hp) (ys:List V):Prop where
 dl:dX G d l
 ot:eP d l H G
 gr:G rc=some (.lst zs)
 gf:G fl=some (.lst ys)
 tz:cO (lG G) zs ps
 ty:∃ pls,cO (lG G) ys pls/\pls.length<=n
 nf:H fl=none
 n1:fl≠rc
 n2:fl≠l
 n3:rc≠l
theorem PlI.out {H:Hp}{d l rc fl:Addr}{zs:List V}{ps:List Plc}{n:Nat}{G G':Hp}{ys:List V}(h:PlI H d l rc fl zs ps n G ys) (D:dX G' d l) (o:eP d l G G'):PlI H d l rc fl zs ps n G' ys :=
 have t:=TS.out h.dl o
 ⟨D,h.ot.trans o,bA h.dl h.gr h.n3 o,bA h.dl h.gf h.n2 o,h.tz.mono fun _ _ z=>z.ts t,let ⟨p,a,b⟩:=h.ty;⟨p,a.mono fun _ _ z=>z.ts t,b⟩,h.nf,h.n1,h.n2,h.n3⟩
theorem PlI.s {H:Hp}{d l rc fl:Addr}{zs:List V}{ps:List Plc}{n:Nat}{G G':Hp}{ys:List V}(h:PlI H d l rc fl zs ps n G ys) (s:aS G G'):PlI H d l rc fl zs ps n G' ys:=h.out (h.dl.same s) (eP.of s)
theorem PlI.len {H:Hp}{d l rc fl:Addr}{zs:List V}{ps:List Plc}{n:Nat}{G:Hp}{ys:List V}(h:PlI H d l rc fl zs ps n G ys):ys.length<=n:=let ⟨_,a,b⟩:=h.ty;by rw [a.length];exact b
theorem PlI.app {H:Hp}{d l rc fl a:Addr}{zs:List V}{ps:List Plc}{n:Nat}{G:Hp}{ys:List V}{pl:Plc}(h:PlI H d l rc fl zs ps n G ys) (ha:G a=some (.tup (pl.map V.int))):PlI H d l rc fl zs ps (n+1) (aQ G fl (.lst (ys++[.ref a]))) (ys++[.ref a]) :=
 ⟨zN h.dl h.gf h.n2,fun b u e x y=>by rw [aI (aL e h.nf)];exact h.ot b u e x y,by rw [aI h.n1.symm];exact h.gr,aD,wH h.gf h.tz,let ⟨p,x,y⟩:=h.ty;⟨p++[pl],cO.append (wH h.gf x) (wH h.gf (ps:=[pl]) ⟨⟨a,rfl,ha⟩,trivial⟩),by rw [am,cv];lia⟩,h.nf,h.n1,h.n2,h.n3⟩
theorem bM7 {H:Hp}:∀ {c:Pt},mC H c->∃ zs,H c.p=some (.tup zs)
 | .rows _ _,h=>⟨_,h.1⟩
 | .row _,h=>⟨_,fE.at h⟩
theorem aV3 {H:Hp}:∀ {pl:Plc}{e c:Pt},mC H e->sW e pl=some c->∃ zs,H c.p=some (.tup zs)
 | [],e,c,h,q=>by cases q;exact bM7 h
 | i :: pl,e,c,h,q=>by
  unfold sW at q
  split at q
  ·split at q
   ·next c' hc=>exact aV3 (h.kids c' (be hc)) q
   ·cases q
  ·cases q
theorem aN6 {f:Str}{v:V}{fs:List (Str×V)}{n:Nat}(h:fs.length<=n):(fC f v fs).length<=n+1:=by
 have:=lC f v fs
 lia
theorem aG0:∀ n:Nat,(List.replicate n true).all id=true
 | 0=>rfl
 | n+1=>by rw [gh,yt,aG0 n];rfl
theorem aR6 {α: Type}(n:Nat) (a:α):List.replicate n a++[a]=List.replicate (n+1) a:=(sv ..).symm
theorem fW.ts' {x dx C:Addr}{fs:List (Str×V)}{H H':Hp}(o:fW x H H') (h:H x=some (.ins C dx fs)):TS H H':=fun a xs e=>o a _ (dD e h (by intro z;cases z)) e
def top (i:Nat):Stmt:=PySem.Challenge.pw_pairedthrows_k38_papers_written.main.body.getD i (.Pass ⟨0,0,0,0⟩)
def inC (s:Stmt) (i:Nat):Stmt:=match s with
 | .ClassDef _ _ _ b _ _ _ _ _ _ _=>b.getD i (.Pass ⟨0,0,0,0⟩)
 | _=> .Pass ⟨0,0,0,0⟩
abbrev cJ7:Stmt:=top 5
abbrev cH6:Stmt:=top 6
abbrev cF6:Stmt:=top 7
abbrev cA7:Stmt:=top 8
abbrev cD3:Stmt:=top 9
abbrev cE3:Stmt:=top 10
abbrev cE1:Stmt:=top 11
abbrev cI5:Stmt:=top 12
abbrev bZ7:Stmt:=top 13
abbrev cB8:Stmt:=top 14
abbrev cD6:Stmt:=top 15
abbrev cG6:Stmt:=top 16
abbrev cG4:Stmt:=top 17
abbrev cE2:Stmt:=top 18
abbrev cJ1:Stmt:=top 20
abbrev cE6:Stmt:=top 21
abbrev cI0:Stmt:=top 22
abbrev cI2:Stmt:=top 23
abbrev aU9:Stmt:=top 24
abbrev cD4:Stmt:=top 25
abbrev bZ4:Stmt:=top 26
abbrev cF5:Stmt:=top 28
abbrev cI3:Stmt:=top 30
abbrev cI1:Stmt:=top 31
abbrev cF2:Stmt:=top 32
abbrev cF4:Stmt:=top 34
abbrev bK9:Stmt:=top 35
abbrev cA2:Stmt:=top 38
abbrev cH1:Stmt:=top 39
abbrev cC9:Stmt:=top 40
abbrev cJ5:Stmt:=top 41
abbrev cD8:Stmt:=top 42
abbrev cH7:Stmt:=top 43
abbrev cB3:Stmt:=top 44
abbrev cE8:Stmt:=top 45
abbrev bZ8:Stmt:=top 46
abbrev cC3:Stmt:=top 49
abbrev cD1:Stmt:=top 50
abbrev cF8:Stmt:=top 51
abbrev cJ8:Stmt:=inC (top 52) 0
abbrev cA0:Stmt:=top 53
abbrev cB0:Stmt:=top 54
abbrev cA3:Stmt:=top 55
abbrev cJ0:Stmt:=top 56
abbrev aT7:Stmt:=top 58
abbrev aT2:Stmt:=top 59
abbrev cC1:Stmt:=top 60
abbrev bZ9:Stmt:=top 61
abbrev cK2:Stmt:=top 62
abbrev cH0:Stmt:=top 63
abbrev cD9:Stmt:=top 64
abbrev cG5:Stmt:=top 65
abbrev cH3:Stmt:=top 66
abbrev cK0:Stmt:=top 67
abbrev cC7:Stmt:=top 68
abbrev cH8:Stmt:=top 69
abbrev cE5:Stmt:=top 70
abbrev cH4:Stmt:=top 71
abbrev cH2:Stmt:=top 72
abbrev cH5:Stmt:=top 73
abbrev cG1:Stmt:=top 74
abbrev bZ5:Stmt:=top 75
abbrev cC5:Stmt:=top 76
abbrev cF7:Stmt:=top 77
abbrev cJ9:Stmt:=top 78
abbrev cG0:Stmt:=top 79
abbrev cI7:Stmt:=top 80
abbrev cA5:Stmt:=top 81
abbrev cC8:Stmt:=top 82
abbrev cE7:Stmt:=top 83
abbrev cB9:Stmt:=top 84
abbrev cK5:Stmt:=top 85
abbrev cC4:Stmt:=top 86
abbrev bB2:Stmt:=top 87
section
variable {P:Program}{w:World}{K:W.Frag}{mg:Str->Option Value}{base:Heap}
theorem vP:lQ ["_law_deal_here","_law_many","_law_number","_law_one","_law_other"] ["_law_deal_here","_law_many"] (bH aT2):=by refine ⟨rfl,rfl,rfl,?_,rfl,?_,?_⟩<;>decide +kernel
theorem bC6 {f:Addr}{fd:FuncData}(F:tE K "_law_draw" "_law_draw" aT2 f fd) (ml:mg "len"=none):mM P w K mg base CX0 1 f fd ["_law_deal_here","_law_many"] spDraw:=by
 refine F.ok vP (fun vs H Q E h=>?_) (fun cdv A outer s H vs Q E hr h=>?_)
 ·obtain ⟨d,l,m,rfl,_⟩:=h;rfl
 obtain ⟨d,l,m,rfl,⟨sd,n,ls,D⟩,hm0,hm1,k⟩:=h;have hu:=iR hr;refine ⟨_,aF (fP ie (iG (nP cH (iS hu (pv 0) aH (fun _ _=>rfl)) aC (oG _)) (gZ (nP kM (rX bO (by rfl) ml gb (aA (iS hu (pv 0) aH (fun _ _=>rfl)) cD)) aC (oG _)))).pt
   (aE (pQ hu (pv 0) aH (qW br km ko rM (iS hu (pv 0) aH (fun _ _=>rfl))) rfl)))
  (aF (kY (i:=2) vP.nd rfl (kb rfl) (iS hu (pv 0) aH (fun _ _=>rfl)))
  (aF (bB (nP kM (pv 2) aC (oG _))
   (aF (pQ hu (pv 0) aH (aK kO (pv 2) (pv 1)) rfl) (aE (aJ (aK fR (pv 2) (pv 1))))) aR)
  (aF (kY (i:=3) vP.nd rfl (kb rfl) (aK fR (aK cB (aK gP (iS hu (pv 0) aH (fun _ _=>rfl)) aC) aC) aC))
  (aF (pQ hu (pv 0) aH (aK fR (aK cB (aK gP (pv 3) aC) aC) aC) rfl)
  (aF (kY (i:=4) vP.nd rfl (kb rfl) (aK fR (aK gP (iS hu (pv 0) aH (fun _ _=>rfl)) (iS hu (pv 0) aH (fun _ _=>rfl))) aC))
  (aE (aJ (aK fR (aK cB (aK gP (aK fR (aK gP (pv 3) (pv 3)) aC) aC) (pv 4)) (pv 1))))))))),?_⟩
 refine ⟨fun j σ H1=>∃ n' ls',σ=[some (.ref d),some (.int m),none,none,none]/\cI H1 d l sd n' ls'/\j=ls'.length/\eP d l H H1,⟨_,n,ls,rfl,D,rfl,eP.refl H⟩,?_⟩;rintro j σ H1 ⟨n',ls',rfl,D1,rfl,o1⟩;refine ⟨_,rfl,d,_,rfl,D1.gn,rfl,_,rfl,?_⟩;refine nL (fun c=>?a) (fun c=>cG2 ?b)
 case' a=>refine ⟨_,rfl,d,_,rfl,D1.gl,l,_,rfl,.inl (bC.of D1.lc),_,_,rfl,rfl,_,rfl,?_⟩
 case' a=>refine nL (fun c2=>?loop) (fun c2=>?b2)
 case loop =>
   have hl:0 < ls'.length:=by
    have:=ai c2
    simpa using this
   obtain ⟨z,hz⟩:∃ z,ls'[ls'.length - 1]?=some z:=⟨ls'[ls'.length - 1],by simp⟩
   have hz2:(ls'.map V.int)[(ls'.map V.int).length - 1]?=some (.int z):=by rw [ac,cj,hz];rfl
   have z0:0<=z:=D1.l0 z (be hz);have D2:cI (aQ H1 l (.lst (ls'.dropLast.map V.int))) d l sd n' ls'.dropLast:=D1.left fun x hx=>D1.l0 x (List.dropLast_subset _ hx)
   refine ⟨fun σ' H'=>σ'=[some (.ref d),some (.int m),none,none,none]/\cI H' d l sd z ls'.dropLast/\eP d l H H',fun σ' H' q=>⟨_,by rw [yg];lia,z,ls'.dropLast,q.1,q.2.1,rfl,q.2.2⟩,?_⟩;refine ⟨_,rfl,d,_,rfl,D1.gl,.inl ⟨rfl,_,bC.of D1.lc⟩,l,_,_,rfl,rfl,D1.lc,hz2,?_⟩;have e:∀ (o:List V),(ls'.map V.int).dropLast=o->aQ H1 l (.lst (ls'.map V.int).dropLast)=aQ H1 l (.lst o):=fun o e=>by rw [e]
   rw [e _ List.map_dropLast.symm];refine ⟨_,rfl,d,_,rfl,D2.pn z,rfl,D2.number z0,o1.trans (eP.upd_l.trans eP.upd_d)⟩
 all_goals
  refine ⟨_,rfl,d,_,rfl,D1.gn,?_⟩;refine ⟨_,rfl,_,_,rfl,rfl,_,rfl,?_⟩;refine nL (fun c3=>?_) (fun c3=>?_)
  ·have hp:0 < n':=ai c3;refine ⟨_,rfl,_,rfl,_,_,rfl,rfl,⟨hm0,by lia⟩,_,rfl,d,_,rfl,D1.pn (n' / m),?_⟩;refine ⟨_,rfl,_,rfl,_,_,rfl,rfl,hm0,?_⟩;exact k _ _ (kq _ (by (exact oqt))) (nv _ hm0) ⟨_,_,_,D1.number (Int.ediv_nonneg (by (exact iq ‹_›)) (by (exact iq ‹_›)))⟩ (o1.trans eP.upd_d)
  ·
   have q1:(0:Int) < 2147483647:=by decide
   refine ⟨_,rfl,d,_,rfl,D1.gs,_,_,rfl,rfl,.inr ⟨by decide,by decide⟩,_,_,rfl,rfl,_,_,rfl,rfl,q1,?_⟩;have q2:(0:Int) < 2147483399:=by decide
   refine ⟨_,rfl,_,_,rfl,rfl,.inr ⟨by decide,by decide⟩,_,_,rfl,rfl,_,_,rfl,rfl,q2,_,rfl,d,_,rfl,D1.ps _,?_⟩;have D2:=D1.seed (v:=((sd * 48271+7919) % 2147483647 * 40692+104729) % 2147483399) (by lia) (by lia);have q3:(0:Int) < 2147483563:=by decide
   have q4:(0:Int) < 2147483629:=by decide
   refine ⟨_,rfl,d,_,rfl,D2.gs,_,rfl,d,_,rfl,D2.gs,_,_,rfl,rfl,.inr ⟨by lia,by lia⟩,_,_,rfl,rfl,q3,?_⟩;refine ⟨_,rfl,_,rfl,_,_,rfl,rfl,.inr ⟨by lia,by lia⟩,_,_,rfl,rfl,q4,_,_,rfl,rfl,.inr ⟨by decide,by decide⟩,_,rfl,_,_,rfl,rfl,_,rfl,_,_,rfl,rfl,hm0,?_⟩;exact k _ _ (kq _ (by (exact oqt))) (nv _ hm0) ⟨_,_,_,D2⟩ (o1.trans eP.upd_d)
end
theorem aA8 (x n:Int) (l:Addr):fU [] (eR x n l)=eR x n l:=by
 unfold fU eR;simp only [List.foldl_cons,List.foldl_nil];have e1:cX ([]:List (Key×V)) (Sum.inr ("seed": Str)) (V.int x)=[(Sum.inr ("seed": Str),V.int x)]:=rfl;have e2:cX [(Sum.inr ("seed": Str),V.int x)] (Sum.inr ("number": Str):Key) (V.int n)=[(Sum.inr ("seed": Str),V.int x),(Sum.inr ("number": Str),V.int n)]:=sX _ (by rw [cK ksn,qH]);have e3:cX [(Sum.inr ("seed": Str),V.int x),(Sum.inr ("number": Str),V.int n)] (Sum.inr ("left": Str):Key) (V.ref l)=[(Sum.inr ("seed": Str),V.int x),(Sum.inr ("number": Str),V.int n)]++[(Sum.inr ("left": Str),V.ref l)]:=sX _ (by rw [cK ksl,cK knl,qH]);rw [e1,e2,e3];rfl
theorem aS5:(["_law_cell"]:List Str).Nodup:=by decide +kernel
theorem bA5 (ns:List Int) (lo hi:Option Int):∃ ms:List Int,gK (ns.map V.int) lo hi=ms.map V.int/\ms.length<=ns.length:=by
 refine ⟨(ns.drop (HT.sIx ns.length 0 lo)).take (HT.sIx ns.length ns.length hi - HT.sIx ns.length 0 lo),?_,?_⟩
 ·unfold gK;rw [ac,nh,yw]
 ·rw [cp,ox];lia
section
variable {P:Program}{w:World}{K:W.Frag}{mg:Str->Option Value}{base:Heap}
theorem sO:lQ ["_law_script","_law_base","_law_cells","_law_number","_law_cell"] ["_law_script","_law_base"] (bH aT7):=by refine ⟨rfl,rfl,rfl,?_,rfl,?_,?_⟩<;>decide +kernel
theorem bF1 {f:Addr}{fd:FuncData}(F:tE K "_law_deal" "_law_deal" aT7 f fd) (mm:mg "max"=none) (mr:mg "reversed"=none) (ml:mg "list"=none):mM P w K mg base CX0 1 f fd ["_law_script","_law_base"] (aZ6 K):=by
 refine F.ok sO (fun vs H Q E h=>?_) (fun cdv A outer s H vs Q E hr h=>?_)
 ·obtain ⟨a,ns,b,rfl,_⟩:=h;rfl
 obtain ⟨a,ns,b,rfl,hS,hlen,hb0,hb1,k⟩:=h;refine ⟨_,aF (vS ["_law_cell"] [none] (i:=2) sO.nd rfl (kb rfl) (bX (dS pL (pv 0) (eG (pv 1)) (eG aC)))
   (fun _ _ _ _=>pT (i:=0) aS5 rfl (kb rfl)) (fun _ _ _ _=>eS) (fun _ _ _ _=>rX (aM6 rfl) (by rfl) mm rf (aA (pv 0) (aA (aK cV aC (pv 0)) cD))))
  (aF (kY (i:=3) sO.nd rfl (kb rfl) (aK cB aC (pv 1)))
  (aF (bA6 ie rfl (bX (pv 2)) (pT (i:=4) sO.nd rfl (kb rfl))
   (aE (kY (i:=3) sO.nd rfl (kb rfl) (aK fR (aK cB (aK gP (pv 3) aC) (aK fR (pv 4) aC)) aC))))
  (aE (aJ (vN (eK aH (pv 3) (eK aH aC (eK aH (qL (cZ ["_law_cell"] [none] (bX (pv 2))
   (fun _ _ _ _=>pT (i:=0) aS5 rfl (kb rfl)) (fun _ _ _ _=>qP (nP yN (pv 0) (aK bV7 aC aC) (oG _))) (fun _ _ _ _=>pv 0)) (by rfl) ml (by rfl) mr) xD))) rfl rfl (by decide) (by decide)))))),?_⟩
 refine ⟨_,rfl,_,rfl,_,rfl,_,rfl,a,_,rfl,hS,fun p1 np1=>?_⟩;obtain ⟨ms,em,hms⟩:=bA5 ns (some b) (some 63);have g1:aS H (aQ H p1 (.lst (gK (ns.map V.int) (some b) (some 63)))):=aB np1 _;have hp1:bC K (aQ H p1 (.lst (gK (ns.map V.int) (some b) (some 63)))) p1 (ms.map V.int):=by rw [em];exact bC.of aD
 generalize aQ H p1 (.lst (gK (ns.map V.int) (some b) (some 63)))=H1 at g1 hp1 ⊢;refine ⟨p1,rfl,⟨_,hp1⟩,dL (xs:=ms.map V.int) (fun i ys σ H2=>H2=H1/\(∃ v,σ=[v])/\∃ cs:List Int,ys=cs.map V.int/\cs.length=i/\∀ x∈cs,0<=x)
  (by rw [ac];exact aV (by lia)) ⟨rfl,⟨_,rfl⟩,[],rfl,rfl,fun _ z=>nomatch z⟩ (fun i ys σ H2 ⟨_,_,cs,e1,e2,_⟩=>by rw [e1,ac];lia) (fun i ys σ H2 _ ⟨e,_⟩=>by rw [e];exact hp1) ?_ ?_⟩
 ·rintro i x ys σ H2 hx ⟨rfl,⟨v,rfl⟩,cs,rfl,rfl,h0⟩;obtain ⟨z,rfl,_⟩:=qG hx;refine ⟨_,rfl,_,rfl,_,_,rfl,rfl,_,_,rfl,rfl,⟨_,rfl⟩,cs++[if 0 - z > z then 0 - z else z],by rw [bm];rfl,by rw [am];rfl,fun x hx=>?_⟩;rcases cg.mp hx with q | q
  ·exact h0 x q
  ·have e:x=if 0 - z > z then 0 - z else z:=by simpa using q
   rw [e];split <;> lia
 rintro ys σ H2 ⟨rfl,_,cs,rfl,hcs,h0⟩ p2 np2;have hm63:cs.length<=63:=by rw [ac] at hcs;lia
 have g2:aS H2 (aQ H2 p2 (.lst (cs.map V.int))):=aB np2 _;have hp2:bC K (aQ H2 p2 (.lst (cs.map V.int))) p2 (cs.map V.int):=bC.of aD;generalize aQ H2 p2 (.lst (cs.map V.int))=H3 at g2 hp2 ⊢;refine ⟨_,rfl,_,_,rfl,rfl,?_⟩;refine ⟨_,rfl,p2,rfl,⟨_,hp2⟩,zM (K:=K) (a:=p2) (xs:=cs.map V.int) (fun i σ H4=>H4=H3/\∃ (x:Int) (v:Option V),σ=[some (.ref a),some (.int b),some (.ref p2),some (.int x),v]/\0<=x/\x < 2147483647)
  ⟨rfl,7919+b,none,rfl,by lia,by lia⟩ (fun i σ H4 _ ⟨e,_⟩=>by rw [e];exact hp2) ?_ ?_⟩
 ·rintro i y σ H4 hi ⟨rfl,x,v,rfl,x0,x1⟩;obtain ⟨z,rfl,_⟩:=qG hi;have q1:(0:Int) < 2147483629:=by decide
  have q2:(0:Int) < 2147483647:=by decide
  refine ⟨_,rfl,_,_,rfl,rfl,.inr ⟨by decide,by decide⟩,_,rfl,_,_,rfl,rfl,q1,_,_,rfl,rfl,_,_,rfl,rfl,q2,rfl,_,_,rfl,?_,?_⟩
  ·exact kq _ (by decide)
  ·exact nv _ q2
 rintro σ H4 ⟨rfl,x,v,rfl,x0,x1⟩;intro d nd;have g4:aS H4 (aQ H4 d (.dK [])):=aB nd _;have hd4:aQ H4 d (.dK []) d=some (.dK []):=aD;have hp4:=g4.seq hp2;refine ⟨_,rfl,_,rfl,p2,rfl,⟨_,hp4⟩,?_⟩;generalize aQ H4 d (.dK [])=H5 at g4 hd4 hp4 ⊢;refine dL (xs:=cs.map V.int) (fun i ys σ H6=>H6=H5/\(∃ v,σ=[v])/\∃ ls:List Int,ys=ls.map V.int/\ls.length<=i/\∀ x∈ls,0<=x)
  (by rw [ac];exact aV (by (exact oqf))) ⟨rfl,⟨_,rfl⟩,[],rfl,aj _,fun _ z=>nomatch z⟩ (fun i ys σ H2 ⟨_,_,cs,e1,e2,_⟩=>by rw [e1,ac];assumption) (fun i ys σ H2 _ ⟨e,_⟩=>by rw [e];exact hp4) ?_ ?_
 ·rintro i y ys σ H6 hy ⟨rfl,⟨v',rfl⟩,ls,rfl,hl,l0⟩;obtain ⟨z,rfl,hz⟩:=qG hy;have z0:0<=z:=h0 z (be hz);refine ⟨_,rfl,_,_,rfl,rfl,⟨by decide,by decide,by decide⟩,_,_,rfl,rfl,_,rfl,?_⟩;refine nL (fun c=>?_) (fun c=>?_)
  ·refine ⟨_,rfl,rfl,⟨_,rfl⟩,ls++[z],by rw [bm];rfl,by rw [am];show ls.length+1<=i+1;lia,fun x hx=>?_⟩;rcases cg.mp hx with q | q
   ·exact l0 x q
   ·have e:x=z:=by simpa using q
    rw [e];exact z0
  ·exact ⟨rfl,⟨_,rfl⟩,ls,rfl,Nat.le_succ_of_le hl,l0⟩
 rintro ys σ H6 ⟨rfl,_,ls,rfl,hl,l0⟩ p3 np3;have g5:aS H6 (aQ H6 p3 (.lst (ls.map V.int))):=aB np3 _;refine ⟨p3,_,rfl,bC.of aD,fun l nl=>?_⟩;generalize aQ H6 p3 (.lst (ls.map V.int))=H7 at g5 nl ⊢;have g6:aS H7 (aQ H7 l (.lst (ls.map V.int).reverse)):=aB nl _;have hd7:H7 d=some (.dK []):=g5 _ _ hd4;refine ⟨g6 _ _ hd7,eR x 0 l,rfl,by show 3<=15;decide,?_⟩;have em:fU [] (eR x 0 l)=eR x 0 l:=aA8 _ _ _;have neld:l≠d:=fun z=>by rw [z] at nl;rw [nl] at hd7;cases hd7
 refine k d l _ ?_ ?_ ⟨x,0,ls.reverse,⟨by rw [em];exact aD,by rw [aI neld,aD,List.map_reverse],x0,x1,pw 0,fun y hy=>l0 y (by simpa using hy)⟩⟩ ?_
 ·exact (g1.trans g2).free nd
 ·exact (g1.trans (g2.trans (g4.trans g5))).free nl
 ·intro c o e;rw [aI (aL e ((g1.trans g2).free nd))];exact (g1.trans (g2.trans (g4.trans (g5.trans g6)))) c o e
end
end Mine
namespace L2
open PySem PySem.Spec PyProof.Rows
theorem bV {α: Type}{n:Nat}{us:List α}(h:us.length=n+1):∃ u r,us=u :: r/\r.length=n:=by
 cases us with
 | nil=>cases h
 | cons u r=>exact ⟨u,r,rfl,Nat.succ.inj h⟩
section
variable {K:W.Frag}{x qual:Str}{st:Stmt}{f:Addr}{fd:FuncData}{p1 p2 p3 p4 p5:Str}
theorem tE.b1 (F:tE K x qual st f fd) (h:∀ (kV doc pm:Value) (an:Option Addr) (cdv ct u1:Value),bindArgs (W.fnOf x qual (cU st) (cJ st) (bH st) .none kV doc pm an cdv ct) ⟨[u1],[]⟩=pure [(p1,u1)]):gT K fd [p1] []:=by
 refine F.binds fun kV doc pm an cdv ct us h0=>?_
 obtain ⟨u1,r1,rfl,h1⟩:=bV (n:=0) h0
 cases eh.mp h1
 exact h kV doc pm an cdv ct u1
theorem tE.b2 (F:tE K x qual st f fd) (h:∀ (kV doc pm:Value) (an:Option Addr) (cdv ct u1 u2:Value),bindArgs (W.fnOf x qual (cU st) (cJ st) (bH st) .none kV doc pm an cdv ct) ⟨[u1,u2],[]⟩=pure [(p1,u1),(p2,u2)]):gT K fd [p1,p2] []:=by
 refine F.binds fun kV doc pm an cdv ct us h0=>?_
 obtain ⟨u1,r1,rfl,h1⟩:=bV (n:=1) h0;obtain ⟨u2,r2,rfl,h2⟩:=bV (n:=0) h1
 cases eh.mp h2
 exact h kV doc pm an cdv ct u1 u2
theorem tE.b3 (F:tE K x qual st f fd) (h:∀ (kV doc pm:Value) (an:Option Addr) (cdv ct u1 u2 u3:Value),bindArgs (W.fnOf x qual (cU st) (cJ st) (bH st) .none kV doc pm an cdv ct) ⟨[u1,u2,u3],[]⟩=pure [(p1,u1),(p2,u2),(p3,u3)]):gT K fd [p1,p2,p3] []:=by
 refine F.binds fun kV doc pm an cdv ct us h0=>?_
 obtain ⟨u1,r1,rfl,h1⟩:=bV (n:=2) h0;obtain ⟨u2,r2,rfl,h2⟩:=bV (n:=1) h1;obtain ⟨u3,r3,rfl,h3⟩:=bV (n:=0) h2
 cases eh.mp h3
 exact h kV doc pm an cdv ct u1 u2 u3
theorem tE.b4 (F:tE K x qual st f fd) (h:∀ (kV doc pm:Value) (an:Option Addr) (cdv ct u1 u2 u3 u4:Value),bindArgs (W.fnOf x qual (cU st) (cJ st) (bH st) .none kV doc pm an cdv ct) ⟨[u1,u2,u3,u4],[]⟩=pure [(p1,u1),(p2,u2),(p3,u3),(p4,u4)]):gT K fd [p1,p2,p3,p4] []:=by
 refine F.binds fun kV doc pm an cdv ct us h0=>?_
 obtain ⟨u1,r1,rfl,h1⟩:=bV (n:=3) h0;obtain ⟨u2,r2,rfl,h2⟩:=bV (n:=2) h1;obtain ⟨u3,r3,rfl,h3⟩:=bV (n:=1) h2;obtain ⟨u4,r4,rfl,h4⟩:=bV (n:=0) h3
 cases eh.mp h4
 exact h kV doc pm an cdv ct u1 u2 u3 u4
theorem tE.b5 (F:tE K x qual st f fd) (h:∀ (kV doc pm:Value) (an:Option Addr) (cdv ct u1 u2 u3 u4 u5:Value),bindArgs (W.fnOf x qual (cU st) (cJ st) (bH st) .none kV doc pm an cdv ct) ⟨[u1,u2,u3,u4,u5],[]⟩=pure [(p1,u1),(p2,u2),(p3,u3),(p4,u4),(p5,u5)]):gT K fd [p1,p2,p3,p4,p5] []:=by
 refine F.binds fun kV doc pm an cdv ct us h0=>?_
 obtain ⟨u1,r1,rfl,h1⟩:=bV (n:=4) h0;obtain ⟨u2,r2,rfl,h2⟩:=bV (n:=3) h1;obtain ⟨u3,r3,rfl,h3⟩:=bV (n:=2) h2;obtain ⟨u4,r4,rfl,h4⟩:=bV (n:=1) h3;obtain ⟨u5,r5,rfl,h5⟩:=bV (n:=0) h4
 cases eh.mp h5
 exact h kV doc pm an cdv ct u1 u2 u3 u4 u5
end
section
variable {K:W.Frag}{x qual:Str}{st:Stmt}{f:Addr}{fd:FuncData}{p1 p2 p3 p4 p5 p6:Str}
theorem tE.b6 (F:tE K x qual st f fd) (h:∀ (kV doc pm:Value) (an:Option Addr) (cdv ct u1 u2 u3 u4 u5 u6:Value),bindArgs (W.fnOf x qual (cU st) (cJ st) (bH st) .none kV doc pm an cdv ct) ⟨[u1,u2,u3,u4,u5,u6],[]⟩=pure [(p1,u1),(p2,u2),(p3,u3),(p4,u4),(p5,u5),(p6,u6)]):gT K fd [p1,p2,p3,p4,p5,p6] []:=by
 refine F.binds fun kV doc pm an cdv ct us h0=>?_
 obtain ⟨u1,r1,rfl,h1⟩:=bV (n:=5) h0;obtain ⟨u2,r2,rfl,h2⟩:=bV (n:=4) h1;obtain ⟨u3,r3,rfl,h3⟩:=bV (n:=3) h2;obtain ⟨u4,r4,rfl,h4⟩:=bV (n:=2) h3;obtain ⟨u5,r5,rfl,h5⟩:=bV (n:=1) h4;obtain ⟨u6,r6,rfl,h6⟩:=bV (n:=0) h5
 cases eh.mp h6
 exact h kV doc pm an cdv ct u1 u2 u3 u4 u5 u6
end
section
variable {P:Program}{w:World}{K:W.Frag}{mg:Str->Option Value}{base:Heap}
def Cl (P:Program) (w:World) (K:W.Frag) (mg:Str->Option Value) (base:Heap) (n:Nat) (sp:Sp) (x:Str):Prop:=∃ f d ps,mM P w K mg base CX0 n f d ps sp/\gT K d ps []/\W.keepIn K (.ref f)=true/\mg x=some (.ref f)
def dZ (P:Program) (w:World) (K:W.Frag) (mg:Str->Option Value) (base:Heap) (x q:Str) (st:Stmt) (n:Nat) (ps:List Str) (sp:Sp):Prop:=∀ {f:Addr}{d:FuncData},tE K x q st f d->mM P w K mg base CX0 n f d ps sp
theorem eQ {x q:Str}{st:Stmt}{k:Nat}{ps:List Str}{sp:Sp}(N:List Str)
  (hb:∀ {f:Addr}{cdv:Value}{A:Around}{outer:List Env}{s:Shared}{vs:List V}{E:XK}(H:Hp) (Q:VK),N.Nodup->dQ k (A.deeper (envOfC q (bH st) s.heap.objs.size f cdv))->sp vs H Q E ->
   ∃ t,xG (aE3 CX0 P w K mg base N q (bH st) f cdv A outer s H E).nox (cJ st) t/\t { nx:=fun _ H'=>Q .non H',rt:=Q } (nS N vs) H)
  (len:∀ vs H Q E,sp vs H Q E->vs.length=ps.length:=by intro _ _ _ _ h;(repeat obtain ⟨_,h⟩:=h);subst_vars;rfl)
  (S:lQ N ps (bH st):=by refine ⟨rfl,rfl,rfl,?_,rfl,?_,?_⟩ <;> decide +kernel):dZ P w K mg base x q st (k+1) ps sp :=
 fun F=>F.ok S len fun _ _ _ _ H _ Q _ hr h=>hb H Q S.nd hr h
def DefAt (K:W.Frag) (x q:Str) (st:Stmt) (f:Addr):Prop:=∃ (oc:Value) (od:Option Addr) (kV dc pm:Value) (an:Option Addr) (cd ct:Value) (sl:Array (Option Value)),K.lookup f=some ⟨oc,od,.func (W.fnOf x q (cU st) (cJ st) (bH st) .none kV dc pm an cd ct),sl⟩/\W.codeIn K cd q=true/\W.keepIn K (.ref f)=true
def TopAt (K:W.Frag) (x:Str) (st:Stmt):Prop:=∃ f,W.nsIn K mainGlobals x=some (some (.ref f))/\DefAt K x x st f
theorem DefAt.of {x q:Str}{st:Stmt}{f:Addr}{oc:Value}{od:Option Addr}{kV dc pm:Value}{an:Option Addr}{cd ct:Value}{sl:Array (Option Value)}(l:K.lookup f=some ⟨oc,od,.func (W.fnOf x q (cU st) (cJ st) (bH st) .none kV dc pm an cd ct),sl⟩) (c:W.codeIn K cd q=true) (k:W.keepIn K (.ref f)=true):DefAt K x q st f:=⟨_,_,_,_,_,_,_,_,_,l,c,k⟩
theorem TopAt.of {x:Str}{st:Stmt}{f:Addr}{oc:Value}{od:Option Addr}{kV dc pm:Value}{an:Option Addr}{cd ct:Value}{sl:Array (Option Value)}(a:W.nsIn K mainGlobals x=some (some (.ref f))) (l:K.lookup f=some ⟨oc,od,.func (W.fnOf x x (cU st) (cJ st) (bH st) .none kV dc pm an cd ct),sl⟩) (c:W.codeIn K cd x=true) (k:W.keepIn K (.ref f)=true):TopAt K x st:=⟨_,a,.of l c k⟩
theorem DefAt.fn {x q:Str}{st:Stmt}{f:Addr}:DefAt K x q st f->∃ d,tE K x q st f d
 | ⟨_,_,_,_,_,_,_,_,_,l,c,k⟩=>⟨_,aQ6 l c k⟩
structure Zx (P:Program) (w:World) (K:W.Frag) (mg:Str->Option Value) (base:Heap):Prop where
 ns:∀ x u,W.nsIn K mainGlobals x=some (some u)->mg x=some u
 no:∀ x,W.nsIn K mainGlobals x=some none->mg x=none
theorem Zx.of {h:Heap}(X:K.In h) (G:h.Ns mainGlobals mg):Zx P w K mg base:=⟨fun _ _ e=>W.mg_of X G e,fun _ e=>W.mg_none_of X G e⟩
variable {x p1 p2 p3 p4 p5 p6:Str}{st:Stmt}{n:Nat}{sp:Sp}
theorem Zx.cl (Z:Zx P w K mg base) (t:TopAt K x st) {ps:List Str}(ok:dZ P w K mg base x x st n ps sp) (b:∀ {f d},tE K x x st f d->gT K d ps []):Cl P w K mg base n sp x :=by
 obtain ⟨_,a,t⟩:=t;obtain ⟨_,F⟩:=t.fn;exact ⟨_,_,_,ok F,b F,F.kp,Z.ns _ _ a⟩
theorem Zx.c1 (Z:Zx P w K mg base) (t:TopAt K x st) (ok:dZ P w K mg base x x st n [p1] sp) (h:∀ (kV doc pm:Value) (an:Option Addr) (cdv ct u1:Value),bindArgs (W.fnOf x x (cU st) (cJ st) (bH st) .none kV doc pm an cdv ct) ⟨[u1],[]⟩=pure [(p1,u1)]:=by intros;rfl):Cl P w K mg base n sp x:=Z.cl t ok fun F=>F.b1 h
theorem Zx.c2 (Z:Zx P w K mg base) (t:TopAt K x st) (ok:dZ P w K mg base x x st n [p1,p2] sp) (h:∀ (kV doc pm:Value) (an:Option Addr) (cdv ct u1 u2:Value),bindArgs (W.fnOf x x (cU st) (cJ st) (bH st) .none kV doc pm an cdv ct) ⟨[u1,u2],[]⟩=pure [(p1,u1),(p2,u2)]:=by intros;rfl):Cl P w K mg base n sp x:=Z.cl t ok fun F=>F.b2 h
theorem Zx.c3 (Z:Zx P w K mg base) (t:TopAt K x st) (ok:dZ P w K mg base x x st n [p1,p2,p3] sp) (h:∀ (kV doc pm:Value) (an:Option Addr) (cdv ct u1 u2 u3:Value),bindArgs (W.fnOf x x (cU st) (cJ st) (bH st) .none kV doc pm an cdv ct) ⟨[u1,u2,u3],[]⟩=pure [(p1,u1),(p2,u2),(p3,u3)]:=by intros;rfl):Cl P w K mg base n sp x:=Z.cl t ok fun F=>F.b3 h
theorem Zx.c4 (Z:Zx P w K mg base) (t:TopAt K x st) (ok:dZ P w K mg base x x st n [p1,p2,p3,p4] sp) (h:∀ (kV doc pm:Value) (an:Option Addr) (cdv ct u1 u2 u3 u4:Value),bindArgs (W.fnOf x x (cU st) (cJ st) (bH st) .none kV doc pm an cdv ct) ⟨[u1,u2,u3,u4],[]⟩=pure [(p1,u1),(p2,u2),(p3,u3),(p4,u4)]:=by intros;rfl):Cl P w K mg base n sp x:=Z.cl t ok fun F=>F.b4 h
theorem Zx.c5 (Z:Zx P w K mg base) (t:TopAt K x st) (ok:dZ P w K mg base x x st n [p1,p2,p3,p4,p5] sp) (h:∀ (kV doc pm:Value) (an:Option Addr) (cdv ct u1 u2 u3 u4 u5:Value),bindArgs (W.fnOf x x (cU st) (cJ st) (bH st) .none kV doc pm an cdv ct) ⟨[u1,u2,u3,u4,u5],[]⟩=pure [(p1,u1),(p2,u2),(p3,u3),(p4,u4),(p5,u5)]:=by intros;rfl):Cl P w K mg base n sp x:=Z.cl t ok fun F=>F.b5 h
theorem Zx.c6 (Z:Zx P w K mg base) (t:TopAt K x st) (ok:dZ P w K mg base x x st n [p1,p2,p3,p4,p5,p6] sp) (h:∀ (kV doc pm:Value) (an:Option Addr) (cdv ct u1 u2 u3 u4 u5 u6:Value),bindArgs (W.fnOf x x (cU st) (cJ st) (bH st) .none kV doc pm an cdv ct) ⟨[u1,u2,u3,u4,u5,u6],[]⟩=pure [(p1,u1),(p2,u2),(p3,u3),(p4,u4),(p5,u5),(p6,u6)]:=by intros;rfl):Cl P w K mg base n sp x:=Z.cl t ok fun F=>F.b6 h
theorem okn {q:Str}{k:Nat}{ps:List Str}:dZ P w K mg base x q st k ps (fun _ _ _ _=>False):=fun _=>⟨fun _ _ _ _ h=>h.elim,fun _ _ _ _ _ _ _ _ _ _ _ _ _ h=>h.elim⟩
end
section
variable {X:Cx}{x:Str}{p pos pos':Pos}{e:Expr}{es:List Expr}{t:TA}{te:TE}
theorem bG {k:Nat}{sp:Sp}(C:Cl X.prog X.w X.K X.mg X.base k sp x) {n:Nat}(hr:dQ n X.A) (ha:PA X (e :: es) t) (hn:k<=n:=by first | decide | omega) (hg:Gl X x:=by rfl) (hdb:(x == ("__debug__": Str))=false:=by decide) (he:starEach (e :: es) X.env=(false,eval e X.env) :: starEach es X.env:=by rfl)
  (hpl:(backTo pos (starEach es X.env)).any (·.1)=false:=by rfl):PE X (.Call (.Name x p) (e :: es) [] pos) (aK1 sp [] E0 t):=by obtain ⟨_,_,_,g,b,k,m⟩:=C;exact bI5 g (hr.mono hn) hg m k b .nil bK8 ha hdb he hpl
theorem dB (i:Nat) {eO:List Stmt}{u:TS}(hN:X.N.Nodup) (he:PE X e te) (h2:xG X eO u) (hi:X.N[i]?=some x:=by rfl) (hx:Loc X.env.scope x:=by first | exact kb rfl | exact xk rfl) (hs:swapsWith e (some (.Name x pos')) pos.line X.env=pure false:=by rfl)
  (hf:X.fn x=true\/X.env.scope.names.lookup x=some .local:=by first | exact .inl rfl | exact .inr rfl | assumption):xG X (.Assign [.Name x pos'] e pos :: eO) (aZ8 (bB0 te (rQ i)) u):=aF (kY hN hi hx he hs hf) h2
theorem zV (i:Nat) (hN:X.N.Nodup) (he:PE X e te) (hi:X.N[i]?=some x:=by rfl) (hx:Loc X.env.scope x:=by first | exact kb rfl | exact xk rfl) (hs:swapsWith e (some (.Name x pos')) pos.line X.env=pure false:=by rfl)
  (hf:X.fn x=true\/X.env.scope.names.lookup x=some .local:=by first | exact .inl rfl | exact .inr rfl | assumption):PS X (.Assign [.Name x pos'] e pos) (bB0 te (rQ i)):=kY hN hi hx he hs hf
theorem eN (i:Nat) (hN:X.N.Nodup:=by dsimp only [cM];decide +kernel) (hi:X.N[i]?=some x:=by rfl) (hx:Loc X.env.scope x:=by first | exact kb rfl | exact xk rfl) (hf:X.fn x=true\/X.env.scope.names.lookup x=some .local:=by first | exact .inl rfl | exact .inr rfl | assumption):PG X (.Name x pos) (rQ i):=pT hN hi hx hf
theorem pK {tg iter:Expr}{body:List Stmt}{wi:TI}{g:TG}{tb:TS}(hi:PI X tg iter wi) (hg:PG X tg g) (hb:xG X body tb) (hp:PassesOwn (model X.prog X.w) X.A X.env X.xe:=by exact ie) (hc:X.calm=true:=by rfl)
  (hs:∀ x,foldedSetIterable iter X.env x=pure x:=by intro _;rfl):PS X (.For tg iter body [] pos) (cH9 wi g tb):=bA6 hp hc hi hg hb hs
variable {id T:String}{r:List V->Hp->VK->Prop}
theorem mO (hc:gM X (.builtin id) r) (hm:X.mg x=none) (hv:bootBuiltins x=some (.builtin id)) (ha:PA X (e :: es) t) (hg:Gl X x:=by rfl) (hn:x≠"__name__":=by decide) (hdb:(x == ("__debug__": Str))=false:=by decide)
  (he:starEach (e :: es) X.env=(false,eval e X.env) :: starEach es X.env:=by rfl) (hpl:(backTo pos (starEach es X.env)).any (·.1)=false:=by rfl):PE X (.Call (.Name x p) (e :: es) [] pos) (tCB r t):=rX hc hg hm hv ha hn hdb he hpl
theorem tQ (hc:gM X (.type T) r) (hm:X.mg x=none) (hv:bootBuiltins x=some (.type T)) (ha:PA X (e :: es) t) (hg:Gl X x:=by rfl) (hn:x≠"__name__":=by decide) (hdb:(x == ("__debug__": Str))=false:=by decide)
  (he:starEach (e :: es) X.env=(false,eval e X.env) :: starEach es X.env:=by rfl) (hpl:(backTo pos (starEach es X.env)).any (·.1)=false:=by rfl):PE X (.Call (.Name x p) (e :: es) [] pos) (tCB r t):=aP8 hc hg hm hv ha hn hdb he hpl
variable {a b:Expr}{ta tb:TE}
theorem aZ {r:R2}(hr:IxR X r) (ha:PE X a ta) (hb:PE X b tb) (hs:aL1 b:=by exact fun _ _=>rfl):PE X (.Subscript a b pos) (tOp r ta tb):=cJ6 hr ha hb hs
theorem eT {op:CmpOp}{r:R2}(ho:jU X (compareOp op) r) (ha:PE X a ta) (hb:PE X b tb) (hm:behindInMarks op b=false:=by first | exact oG _ | rfl):PT X (.Compare a [op] [b] pos) (xL (tOp r ta tb)):=nP ho ha hb hm
theorem pec {op:CmpOp}{r:R2}(ho:jU X (compareOp op) r) (ha:PE X a ta) (hb:PE X b tb) (hm:behindInMarks op b=false:=by first | exact oG _ | rfl):PE X (.Compare a [op] [b] pos) (tOp r ta tb):=bE5 ho ha hb hm
theorem tF (hu:X.A.units+1 < cLine) (ho:PE X a ta) (hi:PE X b tb) (hs:bO9 b:=by exact fun _ _=>rfl):PE X (.Subscript a b pos) (aW5 ta tb):=iS hu ho hi hs
theorem pdp {tv:TE}(hu:X.A.units+1 < cLine) (ho:PE X a ta) (hi:PE X b tb) (hv:PE X e tv) (hs:swapsWith e (some (.Subscript a b pos')) pos.line X.env=pure false:=by rfl):PS X (.Assign [.Subscript a b pos'] e pos) (aU1 ta tb tv):=pQ hu ho hi hv hs
theorem aN (ha:PE X a ta) (h:starEach [a] X.env=[(false,eval a X.env)]:=by rfl):PA X [a] (iC ta tNil):=aA ha cD h
theorem pgl {v:Addr}(hm:X.mg x=some (.ref v)) (hg:Gl X x:=by rfl) (hd:(x == ("__debug__": Str))=false:=by decide):PE X (.Name x pos) (tC (.ref v)):=bI0 hg hm rfl hd
end
end L2
namespace Mine
open PySem L2
section
variable {P:Program}{w:World}{K:W.Frag}{mg:Str->Option Value}{base:Heap}
theorem bQ9  : dZ P w K mg base "parts_of" "parts_of" cA7 1 ["term"] spParts:=by
 refine eQ ["term","parts","waiting","part"] fun H Q nd hr h=>?_
 obtain ⟨t,rfl,ht,hz,k⟩:=h;have hu:=iR hr;refine ⟨_,(dB 1 nd (bK cD)
  (dB 2 nd (bK (aN (pv 0)))
  (aF (fP ie (jL (pv 2) (fun _=>rfl))
  (dB 3 nd (qW br km ko rM (pv 2))
  (aF (cY (fN br dk dm dO (pv 1) (aN (pv 3))))
  (aE (bB (eT cH (aZ aG (pv 3) aC) aH) (aE (cY (fN br ia ib gD (pv 2) (aN (bK (aA (aZ aG (pv 3) aC) (aN (aZ aG (pv 3) aC)))))))) aR)))))
  (aE (aJ (pv 1)))))),?_⟩
 refine ⟨bj _,fun l1 hl1=>?_⟩;obtain ⟨H1,e0,s1,h1⟩:=gG hl1 (.lst []);rw [e0];clear e0;refine ⟨_,rfl,jF,fun l2 hl2=>?_⟩;have n2:=s1.free hl2;have ne:l2≠l1:=(aL h1 hl2).symm;have s2:=s1.trans (aB hl2 (.lst [.ref t.p]));have h12:aQ H1 l2 (.lst [.ref t.p]) l1=some (.lst []):=by rw [aI ne.symm];exact h1
 have h2:aQ H1 l2 (.lst [.ref t.p]) l2=some (.lst [.ref t.p]):=aD;generalize aQ H1 l2 (.lst [.ref t.p])=H2 at s2 h12 h2 ⊢;refine ⟨fun m σ G=>∃ (ps stk:List Tm) (v3:Option V),σ=[some (.ref t.p),some (.ref l1),some (.ref l2),v3]/\aS H G/\G l1=some (.lst (ps.map fun u=>V.ref u.p))/\G l2=some (.lst (stk.reverse.map fun u=>V.ref u.p))/\ps++stk.flatMap Tm.pre=t.pre/\(∀ u∈stk,pE H u)/\m=(stk.flatMap Tm.pre).length,
  ⟨_,[],[t],none,rfl,s2,h12,h2,by simp,fun u hu=>by rw [List.mem_singleton.mp hu];exact ht,rfl⟩,?_⟩
 rintro m σ G ⟨ps,stk,v3,rfl,s3,g1,g2,eq,hs,rfl⟩;refine ⟨_,rfl,_,.inl ⟨_,bC.of g2,rfl⟩,?_⟩;have lt:=fc List.length eq;rw [am,Tm.pre_len] at lt;have ls:stk.length<=(stk.flatMap Tm.pre).length:=aI8 stk
 cases stk with
 | nil =>
  refine aU (by simp) ?_;rw [qy,fq] at eq;exact ⟨_,rfl,k l1 G s3 hl1 (by rw [<- eq];exact g1)⟩
 | cons u eO =>
  refine bD (by simp) ?_;have hu:=hs u ao;have up:=u.size_pos;rw [ff,am,Tm.pre_len] at lt;rw [bo,ff,am,Tm.pre_len] at ls;refine ⟨fun σ' G'=>∃ (ps' stk':List Tm) (v3:Option V),σ'=[some (.ref t.p),some (.ref l1),some (.ref l2),v3]/\aS H G'/\G' l1=some (.lst (ps'.map fun u=>V.ref u.p))/\G' l2=some (.lst (stk'.reverse.map fun u=>V.ref u.p))/\ps'++stk'.flatMap Tm.pre=t.pre/\(∀ u∈stk',pE H u)/\(stk'.flatMap Tm.pre).length+1=((u :: eO).flatMap Tm.pre).length,
   (by rintro σ' G' ⟨ps',stk',v3',e1,e2,e3,e4,e5,e6,e7⟩;exact ⟨_,by lia,ps',stk',v3',e1,e2,e3,e4,e5,e6,rfl⟩),?_⟩
  have er:(u :: eO).reverse.map (fun u=>V.ref u.p)=eO.reverse.map (fun u=>V.ref u.p)++[V.ref u.p]:=by rw [lh,bm];rfl
  rw [er] at g2;refine ⟨_,rfl,.inl ⟨rfl,_,bC.of g2⟩,l2,_,V.ref u.p,rfl,rfl,g2,by simp,?_⟩;rw [pf];have s4:=cP (ys:=eO.reverse.map fun u=>V.ref u.p) s3 n2;have g3:aQ G l2 (.lst (eO.reverse.map fun u=>V.ref u.p)) l2=some (.lst (eO.reverse.map fun u=>V.ref u.p)):=aD;have g4:aQ G l2 (.lst (eO.reverse.map fun u=>V.ref u.p)) l1=some (.lst (ps.map fun u=>V.ref u.p)):=by rw [aI ne.symm];exact g1
  generalize aQ G l2 (.lst (eO.reverse.map fun u=>V.ref u.p))=G1 at s4 g3 g4 ⊢;refine ⟨_,rfl,.inl ⟨rfl,_,bC.of g4⟩,_,rfl,l1,_,_,rfl,rfl,g4,aV (by rw [ac];lia),?_⟩;have s5:=cP (ys:=(ps++[u]).map fun u=>V.ref u.p) s4 hl1;have ea:(ps.map fun u=>V.ref u.p)++[V.ref u.p]=(ps++[u]).map fun u=>V.ref u.p:=by rw [bm];rfl
  rw [ea];have g5:aQ G1 l1 (.lst ((ps++[u]).map fun u=>V.ref u.p)) l1=some (.lst ((ps++[u]).map fun u=>V.ref u.p)):=aD;have g6:aQ G1 l1 (.lst ((ps++[u]).map fun u=>V.ref u.p)) l2=some (.lst (eO.reverse.map fun u=>V.ref u.p)):=by rw [aI ne];exact g3
  generalize aQ G1 l1 (.lst ((ps++[u]).map fun u=>V.ref u.p))=G2 at s5 g5 g6 ⊢;have hu5:=hu.ts (.of s5);refine ⟨_,rfl,u.p,_,_,.str u.w,rfl,rfl,aO.of hu5.at,jQ,rfl,_,rfl,?_⟩
  cases u with
  | op p s a b =>
   refine bD (ag rfl) ?_;refine ⟨_,rfl,.inl ⟨rfl,_,bC.of g6⟩,_,rfl,p,_,_,.ref b.p,rfl,rfl,aO.of hu5.1,rfl,_,rfl,p,_,_,.ref a.p,rfl,rfl,aO.of hu5.1,rfl,bM,fun l3 hl3=>?_⟩;have s6:=s5.trans (aB hl3 (.lst [.ref b.p,.ref a.p]));have n31:l1≠l3:=aL g5 hl3;have n32:l2≠l3:=aL g6 hl3;have g7:aQ G2 l3 (.lst [.ref b.p,.ref a.p]) l3=some (.lst [.ref b.p,.ref a.p]):=aD;have g8:aQ G2 l3 (.lst [.ref b.p,.ref a.p]) l1=_:=(aI n31).trans g5;have g9:aQ G2 l3 (.lst [.ref b.p,.ref a.p]) l2=_:=(aI n32).trans g6;generalize aQ G2 l3 (.lst [.ref b.p,.ref a.p])=G3 at s6 g7 g8 g9 ⊢;refine ⟨l2,l3,_,_,rfl,rfl,g9,g7,by rw [ac,ik];have:=aV (n:=1000) (aj _);show eO.length+2<=_;lia,?_⟩;have ez:(eO.reverse.map fun u=>V.ref u.p)++[.ref b.p,.ref a.p]=(a :: b :: eO).reverse.map fun u=>V.ref u.p:=by simp
   rw [ez];refine ⟨ps++[.op p s a b],a :: b :: eO,_,rfl,cP s6 n2,(aI ne.symm).trans g8,aD,?_,fun x hx=>?_,?_⟩
   ·rw [<- eq];simp [Tm.pre]
   ·rcases cf.mp hx with e | e
    ·rw [e];exact hu.2.1
    ·rcases cf.mp e with e | e
     ·rw [e];exact hu.2.2
     ·exact hs x (aq _ e)
   ·simp [Tm.pre] <;> omega
  | num p n =>
   refine aU (fun z=>cE0 (ai z)) ?_;refine ⟨ps++[.num p n],eO,_,rfl,s5,g5,g6,?_,fun x hx=>hs x (aq _ hx),?_⟩
   ·rw [<- eq];simp [Tm.pre]
   ·simp [Tm.pre] <;> omega
  | nam p n =>
   refine aU (fun z=>cL0 (ai z)) ?_;refine ⟨ps++[.nam p n],eO,_,rfl,s5,g5,g6,?_,fun x hx=>hs x (aq _ hx),?_⟩
   ·rw [<- eq];simp [Tm.pre]
   ·simp [Tm.pre] <;> omega
theorem bS5 (C_Prt:Cl P w K mg base 1 spParts "parts_of"):dZ P w K mg base "names_in" "names_in" cD3 2 ["term"] spNamesIn:=by
 refine eQ ["term"] fun H Q nd hr h=>?_
 obtain ⟨t,rfl,ht,hz,k⟩:=h;have hu:=iR hr;refine ⟨_,(aE (aJ (cZ ["part"] [none] (bX (bG C_Prt hr (aN (pv 0)))) (fun _ _ _ _=>(eN 0)) (fun _ _ _ _=>(qP (eT cH (aZ (sT K) (pv 0) aC) aH))) (fun _ _ _ _=>(aZ (sT K) (pv 0) aC))))),?_⟩;refine ⟨_,rfl,t,rfl,ht,hz,fun r H1 s1 _ h1=>⟨r,rfl,⟨_,bC.of h1⟩,?_⟩⟩;have pl:=Tm.pre_len t;refine dL (K:=K) (a:=r) (xs:=t.pre.map fun u=>V.ref u.p) (fun i ys σ G=>G=H1/\(∃ v,σ=[v])/\ys=((t.pre.take i).filterMap Tm.nm).map V.str)
  (eI (by rw [ac];lia)) ⟨rfl,⟨_,rfl⟩,rfl⟩ (fun i ys σ G ⟨_,_,e⟩=>by
   rw [e,ac];exact cu (List.length_filterMap_le _ _) (by rw [cp];lia)) (by rintro i ys σ G _ ⟨e,_⟩;rw [e];exact bC.of h1) ?_ ?_
 ·rintro i v ys σ G hv ⟨rfl,⟨v',rfl⟩,rfl⟩;obtain ⟨u,hu,rfl⟩:∃ u,t.pre[i]?=some u/\v=V.ref u.p:=by
   rw [cj] at hv
   cases e:t.pre[i]? with
   | none=>rw [e] at hv;cases hv
   | some u=>rw [e] at hv;exact ⟨u,rfl,(dz hv).symm⟩
  have hU:=(pE.pre ht u (be hu)).ts (.of s1);refine ⟨_,rfl,u.p,_,_,.str u.w,rfl,rfl,aO.of hU.at,jQ,rfl,_,rfl,?_⟩;rw [aT hu,xq,bm]
  cases u with
  | nam p x=>exact bD (ag rfl) ⟨_,rfl,p,_,_,.str x,rfl,rfl,aO.of hU,rfl,rfl,⟨_,rfl⟩,rfl⟩
  | num p n=>exact aU (fun z=>wMN (ai z)) ⟨rfl,⟨_,rfl⟩,by rw [qj (by rfl)];simp⟩
  | op p s a b=>exact aU (fun z=>wOM (ai z)) ⟨rfl,⟨_,rfl⟩,by rw [qj (by rfl)];simp⟩
 ·rintro ys σ G ⟨rfl,_,rfl⟩ l hl;rw [ac,bv,Tm.pre_names];exact k l _ (s1.trans (aB hl _)) aD
theorem bO4 {cT:Addr}(m_THROWS:mg "THROWS"=some (.ref cT)) (hT:∀ H,aO K H cT (dY.map V.str)):dZ P w K mg base "sets_name" "sets_name" cE3 1 ["row"] spSetsN:=by
 refine eQ ["row"] fun H Q nd hr h=>?_
 obtain ⟨r,rfl,hr0,k⟩:=h;refine ⟨_,(aE (aJ (cI8 (pec bU (aZ aG (pv 0) aC) (pgl m_THROWS)) (mJ (pec cH (aZ aG (pv 0) aC) aH))))),?_⟩;rw [<- bA3 hr0] at k;refine ⟨_,rfl,r.p,_,_,.str r.w,rfl,rfl,aO.of hr0.at,jQ,cT,_,rfl,.inr (hT _),rfl,eA _,_,rfl,?_⟩;have ei:mU (V.str r.w) (dY.map V.str)=decide (r.w∈dY):=bW _ _
 by_cases c:r.w∈dY
 ·refine bD (ei.trans (ag c)) ?_;rw [ag c] at k;exact k
 ·refine aU (fun z=>c (ai (ei.symm.trans z))) ?_;rw [cz c,Bool.false_or] at k;refine ⟨_,rfl,r.p,_,_,.str r.w,rfl,rfl,aO.of hr0.at,jQ,rfl,?_⟩;rw [show decide (V.str r.w=V.str "let")=decide (r.w="let") from by simp];exact k
theorem bX1 (C_NmI:Cl P w K mg base 2 spNamesIn "names_in"):dZ P w K mg base "names_asked" "names_asked" cE1 3 ["row"] spAsked:=by
 refine eQ ["row"] fun H Q nd hr h=>?_
 obtain ⟨r,xs,rfl,hr0,ok,k⟩:=h;refine ⟨_,(aF (bB (eT cH (aZ aG (pv 0) aC) aH) (aE (aJ (bG C_NmI hr (aN (aZ aG (pv 0) aC))))) aR)
  (aF (bB (eT bU (aZ aG (pv 0) aC) (aM (aA aH (aN aH)))) (aE (aJ (bG C_NmI hr (aN (aZ aG (pv 0) aC))))) aR)
  (aE (aJ (bK cD))))),?_⟩
 refine ⟨_,rfl,r.p,_,_,.str r.w,rfl,rfl,aO.of hr0.at,jQ,rfl,_,rfl,?_⟩;generalize hP:r.p=P
 cases r with
 | lt p x t =>
  obtain rfl:p=P:=hP;refine bD (ag rfl) ?_;refine ⟨_,rfl,p,_,_,.ref t.p,rfl,rfl,aO.of hr0.1,rfl,t,rfl,hr0.2,by have:=(ok t (ax.mpr rfl)).1;(exact oqf),fun q H' s h=>k q H' s h⟩
 | tell p t =>
  obtain rfl:p=P:=hP;refine aU (fun z=>wTL (ai z)) ?_;refine ⟨_,rfl,p,_,_,.str "tell",rfl,rfl,aO.of hr0.1,rfl,bM,fun t2 ht2=>?_⟩;have s1:=aB ht2 (.tup [.str "tell",.str "when"]);refine ⟨t2,[.str "tell",.str "when"],rfl,.inr (aO.of aD),rfl,by decide,_,rfl,?_⟩;refine bD (by decide +kernel) ?_;exact ⟨_,rfl,p,_,_,.ref t.p,rfl,rfl,aO.of (s1 _ _ hr0.1),rfl,t,rfl,hr0.2.ts (.of s1),by have:=(ok t (ax.mpr rfl)).1;(exact oqf),fun q H' s h=>k q H' (s1.trans s) h⟩
 | when p pa pb t a b =>
  obtain rfl:p=P:=hP;refine aU (fun z=>wWL (ai z)) ?_;refine ⟨_,rfl,p,_,_,.str "when",rfl,rfl,aO.of hr0.1,rfl,bM,fun t2 ht2=>?_⟩;have s1:=aB ht2 (.tup [.str "tell",.str "when"]);refine ⟨t2,[.str "tell",.str "when"],rfl,.inr (aO.of aD),rfl,by decide,_,rfl,?_⟩;refine bD (by decide +kernel) ?_;exact ⟨_,rfl,p,_,_,.ref t.p,rfl,rfl,aO.of (s1 _ _ hr0.1),rfl,t,rfl,hr0.2.1.ts (.of s1),by have:=(ok t (ax.mpr rfl)).1;(exact oqf),fun q H' s h=>k q H' (s1.trans s) h⟩
 | times p pb n b =>
  obtain rfl:p=P:=hP;refine aU (fun z=>wML (ai z)) ?_;refine ⟨_,rfl,p,_,_,.str "times",rfl,rfl,aO.of hr0.1,rfl,bM,fun t2 ht2=>?_⟩;have s1:=aB ht2 (.tup [.str "tell",.str "when"]);refine ⟨t2,[.str "tell",.str "when"],rfl,.inr (aO.of aD),rfl,by decide,_,rfl,?_⟩;refine aU (by decide +kernel) ?_;exact ⟨bj _,fun l hl=>k l _ (s1.trans (aB hl _)) aD⟩
 | thr p w x vs =>
  obtain rfl:p=P:=hP;have hw:=hr0.2.w;refine aU (fun z=>bP4 hw (ai z)) ?_;refine ⟨_,rfl,p,_,_,.str w,rfl,rfl,aO.of hr0.1,jQ,bM,fun t2 ht2=>?_⟩;have s1:=aB ht2 (.tup [.str "tell",.str "when"]);refine ⟨t2,[.str "tell",.str "when"],rfl,.inr (aO.of aD),rfl,by decide,_,rfl,?_⟩;refine aU (bT4 hw) ?_;exact ⟨bj _,fun l hl=>k l _ (s1.trans (aB hl _)) aD⟩
theorem bN3  : dZ P w K mg base "as_steps" "as_steps" cI5 1 ["rows"] spAsS:=by
 refine eQ ["rows"] fun H Q nd hr h=>?_
 obtain ⟨p,rs,rfl,hp,hl,k⟩:=h;refine ⟨_,(aE (aJ (cZ ["row"] [none] (kL (pv 0)) (fun _ _ _ _=>(eN 0)) (fun _ _ _ _=>eS) (fun _ _ _ _=>(aM (aA aH (aN (pv 0)))))))),?_⟩;refine ⟨_,rfl,p,rfl,⟨_,aO.of hp⟩,qU (K:=K) (a:=p) (xs:=cL rs) (fun i zs σ G=>aS H G/\(∃ v,σ=[v])/\cO (lA G) zs ((rs.take i).map fun r=>(("row": Str),r)))
  (by rw [bR];exact eI (by (exact oqf))) ⟨aS.refl _,⟨_,rfl⟩,trivial⟩ (by rintro i zs σ G ⟨_,_,e⟩;rw [e.length,ac,cp];lia) (by rintro i zs σ G _ ⟨e,_⟩;exact aO.of (e _ _ hp)) ?_ ?_⟩
 ·rintro i v zs σ G hv ⟨s1,⟨v',rfl⟩,tw⟩;obtain ⟨r,rfl,hr'⟩:=lN hv;refine ⟨_,rfl,bM,fun t ht=>⟨s1.trans (aB ht _),⟨_,rfl⟩,?_⟩⟩;rw [aT hr',bm];exact cO.append (tw.mono fun _ _ z=>lA.ts (.of (aB ht _)) z) ⟨⟨t,rfl,aD⟩,trivial⟩
 ·rintro zs σ G ⟨s1,_,tw⟩ l hl';rw [bR,bv] at tw;exact k l zs _ (s1.trans (aB hl' _)) aD (tw.mono fun _ _ z=>lA.ts (.of (aB hl' _)) z)
theorem bM9 (C_AsS:Cl P w K mg base 1 spAsS "as_steps"):dZ P w K mg base "inner_steps" "inner_steps" bZ7 2 ["row"] spInner:=by
 refine eQ ["row"] fun H Q nd hr h=>?_
 obtain ⟨r,rfl,hr0,hc,k⟩:=h;refine ⟨_,(aF (bB (eT cH (aZ aG (pv 0) aC) aH) (aE (aJ (aK gQ (aK gQ (aK gQ (bG C_AsS hr (aN (aZ aG (pv 0) aC))) (bK (aN (aM (aA aH (aN (pv 0))))))) (bG C_AsS hr (aN (aZ aG (pv 0) aC)))) (bK (aN (aM (aA aH (aN (pv 0))))))))) aR)
  (aF (bB (eT cH (aZ aG (pv 0) aC) aH) (aE (aJ (aK gQ (bG C_AsS hr (aN (aZ aG (pv 0) aC))) (bK (aN (aM (aA aH (aN (pv 0))))))))) aR)
  (aE (aJ (bK cD))))),?_⟩
 refine ⟨_,rfl,r.p,_,_,.str r.w,rfl,rfl,aO.of hr0.at,jQ,rfl,_,rfl,?_⟩;have ln:=jX r.kids;have ck:=bB5 r;generalize hP:r.p=P
 cases r with
 | when p pa pb t a b =>
  obtain rfl:p=P:=hP;refine bD (ag rfl) ?_;have la:a.length+b.length<=4000:=by simp only [Rw.kids,List.length_append] at ln ck;lia
  obtain ⟨hp,_,ha,hb,ra,rb⟩:=id hr0;refine ⟨_,rfl,p,_,_,.ref pa,rfl,rfl,aO.of hp,rfl,pa,a,rfl,ha,by (exact oqC),fun r1 z1 H1 s1 h1 t1=>?_⟩;refine ⟨_,rfl,bM,fun t2 ht2=>⟨jF,fun l2 hl2=>?_⟩⟩;have s2:=(aB ht2 (.tup [.str "else",.ref p])).trans (aB hl2 (.lst [.ref t2]));have h2:aQ (aQ H1 t2 (.tup [.str "else",.ref p])) l2 (.lst [.ref t2]) l2=some (.lst [.ref t2]):=aD;have e2:lA (aQ (aQ H1 t2 (.tup [.str "else",.ref p])) l2 (.lst [.ref t2])) (.ref t2) (("else": Str),Rw.when p pa pb t a b):=⟨t2,rfl,(aB hl2 _) _ _ aD⟩
  generalize aQ (aQ H1 t2 (.tup [.str "else",.ref p])) l2 (.lst [.ref t2])=H2 at s2 h2 e2 ⊢;have l1:=t1.length;rw [ac] at l1;refine ⟨r1,l2,_,_,rfl,rfl,s2 _ _ h1,h2,bu (eI (by rw [l1];show a.length+1<=9000000;lia)),fun l3 hl3=>?_⟩;have s3:=s2.trans (aB hl3 (.lst (z1++[.ref t2])));have h3:aQ H2 l3 (.lst (z1++[.ref t2])) l3=some (.lst (z1++[.ref t2])):=aD;have t3:cO (lA (aQ H2 l3 (.lst (z1++[.ref t2])))) (z1++[.ref t2]) (a.map (fun r=>(("row": Str),r))++[(("else": Str),Rw.when p pa pb t a b)]):=cO.append (t1.mono fun _ _ z=>lA.ts (.of s3) z) ⟨e2.ts (.of (aB hl3 _)),trivial⟩;generalize aQ H2 l3 (.lst (z1++[.ref t2]))=H3 at s3 h3 t3 ⊢;have g3:=s1.trans s3;refine ⟨_,rfl,p,_,_,.ref pb,rfl,rfl,aO.of (g3 _ _ hp),rfl,pb,b,rfl,g3 _ _ hb,by (exact oqD),fun r4 z4 H4 s4 h4 t4=>?_⟩;have l4:=t4.length;rw [ac] at l4;refine ⟨l3,r4,_,_,rfl,rfl,s4 _ _ h3,h4,bu (eI (by simp only [List.length_append,List.length_cons,List.length_nil,l1,l4];lia)),fun l5 hl5=>?_⟩
  have s5:=s4.trans (aB hl5 (.lst (z1++[.ref t2]++z4)));have h5:aQ H4 l5 (.lst (z1++[.ref t2]++z4)) l5=some (.lst (z1++[.ref t2]++z4)):=aD;have t5:=cO.append (t3.mono fun _ _ z=>lA.ts (.of s5) z) (t4.mono fun _ _ z=>lA.ts (.of (aB hl5 (.lst (z1++[.ref t2]++z4)))) z);generalize aQ H4 l5 (.lst (z1++[.ref t2]++z4))=H5 at s5 h5 t5 ⊢;refine ⟨_,rfl,bM,fun t6 ht6=>⟨jF,fun l6 hl6=>?_⟩⟩;have s6:=(aB ht6 (.tup [.str "end",.ref p])).trans (aB hl6 (.lst [.ref t6]));have h6:aQ (aQ H5 t6 (.tup [.str "end",.ref p])) l6 (.lst [.ref t6]) l6=some (.lst [.ref t6]):=aD;have e6:lA (aQ (aQ H5 t6 (.tup [.str "end",.ref p])) l6 (.lst [.ref t6])) (.ref t6) (("end": Str),Rw.when p pa pb t a b):=⟨t6,rfl,(aB hl6 _) _ _ aD⟩
  generalize aQ (aQ H5 t6 (.tup [.str "end",.ref p])) l6 (.lst [.ref t6])=H6 at s6 h6 e6 ⊢;refine ⟨l5,l6,_,_,rfl,rfl,s6 _ _ h5,h6,bu (eI (by simp only [List.length_append,List.length_cons,List.length_nil];lia)),fun l7 hl7=>?_⟩;refine k l7 _ _ (g3.trans (s5.trans (s6.trans (aB hl7 _)))) aD ?_;exact cO.append (t5.mono fun _ _ z=>lA.ts (.of (s6.trans (aB hl7 _))) z) ⟨e6.ts (.of (aB hl7 _)),trivial⟩
 | times p pb n b =>
  obtain rfl:p=P:=hP;refine aU (fun z=>wTW (ai z)) ?_;refine ⟨_,rfl,p,_,_,.str "times",rfl,rfl,aO.of hr0.at,jQ,rfl,_,rfl,?_⟩;refine bD (ag rfl) ?_;have la:b.length<=4000:=by simp only [Rw.kids] at ln ck;lia
  obtain ⟨hp,hb,rb⟩:=id hr0;refine ⟨_,rfl,p,_,_,.ref pb,rfl,rfl,aO.of hp,rfl,pb,b,rfl,hb,by assumption,fun r1 z1 H1 s1 h1 t1=>?_⟩;refine ⟨_,rfl,bM,fun t2 ht2=>⟨jF,fun l2 hl2=>?_⟩⟩;have s2:=(aB ht2 (.tup [.str "end",.ref p])).trans (aB hl2 (.lst [.ref t2]));have h2:aQ (aQ H1 t2 (.tup [.str "end",.ref p])) l2 (.lst [.ref t2]) l2=some (.lst [.ref t2]):=aD;have e2:lA (aQ (aQ H1 t2 (.tup [.str "end",.ref p])) l2 (.lst [.ref t2])) (.ref t2) (("end": Str),Rw.times p pb n b):=⟨t2,rfl,(aB hl2 _) _ _ aD⟩
  generalize aQ (aQ H1 t2 (.tup [.str "end",.ref p])) l2 (.lst [.ref t2])=H2 at s2 h2 e2 ⊢;have l1:=t1.length;rw [ac] at l1;refine ⟨r1,l2,_,_,rfl,rfl,s2 _ _ h1,h2,bu (eI (by rw [l1];show b.length+1<=9000000;lia)),fun l3 hl3=>?_⟩;refine k l3 _ _ (s1.trans (s2.trans (aB hl3 _))) aD ?_;exact cO.append (t1.mono fun _ _ z=>lA.ts (.of (s2.trans (aB hl3 _))) z) ⟨e2.ts (.of (aB hl3 _)),trivial⟩
 | thr p w x vs =>
  obtain rfl:p=P:=hP;have hw:=hr0.2.w;refine aU (fun z=>bP1 hw (ai z)) ?_;refine ⟨_,rfl,p,_,_,.str w,rfl,rfl,aO.of hr0.at,jQ,rfl,_,rfl,?_⟩;refine aU (fun z=>bR2 hw (ai z)) ?_;exact ⟨bj _,fun l hl=>k l [] _ (aB hl _) aD trivial⟩
 | lt p x t =>
  obtain rfl:p=P:=hP;refine aU (fun z=>wLW (ai z)) ?_;refine ⟨_,rfl,p,_,_,.str "let",rfl,rfl,aO.of hr0.at,jQ,rfl,_,rfl,?_⟩;refine aU (fun z=>wLT (ai z)) ?_;exact ⟨bj _,fun l hl=>k l [] _ (aB hl _) aD trivial⟩
 | tell p t =>
  obtain rfl:p=P:=hP;refine aU (fun z=>wEW (ai z)) ?_;refine ⟨_,rfl,p,_,_,.str "tell",rfl,rfl,aO.of hr0.at,jQ,rfl,_,rfl,?_⟩;refine aU (fun z=>wET (ai z)) ?_;exact ⟨bj _,fun l hl=>k l [] _ (aB hl _) aD trivial⟩
theorem bX7 (C_AsS:Cl P w K mg base 1 spAsS "as_steps") (C_Inn:Cl P w K mg base 2 spInner "inner_steps") (m_reversed:mg "reversed"=none):dZ P w K mg base "steps_of" "steps_of" cB8 3 ["rows"] spSteps:=by
 refine eQ ["rows","steps","count","waiting","step","row"] fun H Q nd hr h=>?_
 obtain ⟨p,rs,rfl,hp,hR,hc,k⟩:=h;refine ⟨_,(dB 1 nd (bK cD)
  (dB 2 nd aC
  (aF (vS ["step"] [none] (i:=3) nd rfl (kb rfl) (aT3 (bG C_AsS hr (aN (pv 0))) (by rfl) m_reversed) (fun _ _ _ _=>(eN 0)) (fun _ _ _ _=>eS) (fun _ _ _ _=>(aM (aA (aZ (sT K) (pv 0) aC) (aA (aZ (sT K) (pv 0) aC) (aN (nB jY aC)))))))
  (aF (fP ie (jL (pv 3) (fun _=>rfl))
  (dB 4 nd (qW br km ko rM (pv 3))
  (aE (bB (eT cH (aZ aG (pv 4) aC) aH) (dB 5 nd (aZ aG (pv 4) aC)
  (aF (cY (fN br dk dm dO (pv 1) (aN (aM (aA aH (aA (pv 5) (aN (pv 2))))))))
  (aF (cY (fN br ia ib gD (pv 3) (aN (cZ ["inner","count"] [none,some 2] (aT3 (bG C_Inn hr (aN (pv 5))) (by rfl) m_reversed) (fun _ _ _ _=>(eN 0)) (fun _ _ _ _=>eS) (fun _ _ _ _=>(aM (aA (aZ (sT K) (pv 0) aC) (aA (aZ (sT K) (pv 0) aC) (aN (pv 1))))))))))
  (aE (bX0 (i:=2) nd rfl (xk rfl) aC bV8))))) (aE (cY (fN br dk dm dO (pv 1) (aN (pv 4)))))))))
  (aE (aJ (pv 1))))))),?_⟩
 have rl:=jX rs;have tl:=hZ rs;refine ⟨bj _,fun l1 hl1=>?_⟩;obtain ⟨H1,e0,s1,h1⟩:=gG hl1 (.lst []);rw [e0];clear e0;refine ⟨_,rfl,p,rs,rfl,s1 _ _ hp,by (exact oqj),fun r z H2 s2 h2 t2=>⟨r,_,rfl,bC.of h2,?_⟩⟩;have zl:=t2.length;rw [ac] at zl;have t2r:=pZ t2;refine zA (K:=K) (a:=r) (xs:=z) (fun i ys σ G=>aS H2 G/\(∃ v,σ=[v])/\cO (gB G) ys (((rs.map fun r=>(("row": Str),r)).reverse).take i))
  (eI (by lia)) ⟨aS.refl _,⟨_,rfl⟩,trivial⟩ (by rintro i ys σ G ⟨_,_,e⟩;rw [e.length,cp];lia) (by rintro i ys σ G _ ⟨e,_⟩;exact bC.of (e _ _ h2)) ?_ ?_
 ·rintro i v ys σ G hv ⟨s3,⟨v',rfl⟩,tw⟩;obtain ⟨s,hs,q,rfl,hq⟩:=fM t2r hv;refine ⟨_,rfl,q,_,_,.str s.1,rfl,rfl,aO.of (s3 _ _ hq),rfl,_,rfl,q,_,_,.ref s.2.p,rfl,rfl,aO.of (s3 _ _ hq),rfl,_,rfl,by show 3<=sizeLine;decide,fun t ht=>⟨s3.trans (aB ht _),⟨_,rfl⟩,?_⟩⟩;rw [aT hs];exact cO.append (tw.mono fun _ _ z=>gB.ts (.of (aB ht _)) z) ⟨⟨t,_,rfl,aD⟩,trivial⟩
 rintro ys σ G ⟨s3,_,tw⟩ lw hlw;have el:z.length=((rs.map fun r=>(("row": Str),r)).reverse).length:=by rw [ik,ac];exact zl
 rw [el,bv] at tw;have s4:=s1.trans (s2.trans (s3.trans (aB hlw (.lst ys))));have h4:aQ G lw (.lst ys) lw=some (.lst ys):=aD;have ne:lw≠l1:=(aL ((s2.trans s3) _ _ h1) hlw).symm;have g1:aQ G lw (.lst ys) l1=some (.lst []):=(aI ne.symm).trans ((s2.trans s3) _ _ h1);have nw:H lw=none:=(s1.trans (s2.trans s3)).free hlw;replace tw:=tw.mono fun _ _ z=>gB.ts (.of (aB hlw (.lst ys))) z
 generalize aQ G lw (.lst ys)=H4 at s4 h4 g1 tw ⊢;refine ⟨fun m σ G=>∃ (em stk:List Stp) (ez wz:List V) (n:Int) (v4 v5:Option V),σ=[some (.ref p),some (.ref l1),some (.int n),some (.ref lw),v4,v5]/\aS H G/\G l1=some (.lst ez)/\cO (gB G) ez em/\G lw=some (.lst wz)/\cO (gB G) wz stk.reverse/\em++stk.flatMap expd=iO rs/\(∀ s∈stk,fE H s.2/\s.2.cnt<=4000)/\m=(stk.flatMap expd).length,
  ⟨_,[],rs.map fun r=>(("row": Str),r),[],ys,0,none,none,rfl,s4,g1,trivial,h4,tw,lT rs,fun s hs=>by
   obtain ⟨r0,m0,e0⟩:=cy.mp hs;rw [<- e0];have:=pU m0;exact ⟨hR.mem _ m0,by show r0.cnt<=4000;(exact oqj)⟩,rfl⟩,?_⟩
 clear tw h4 g1;rintro m σ G ⟨em,stk,ez,wz,n,v4,v5,rfl,s5,g1,t5,g2,t6,eq,hs,rfl⟩;refine ⟨_,rfl,_,.inl ⟨_,bC.of g2,rfl⟩,?_⟩;have lt:=fc List.length eq;rw [am] at lt;have ls:=aE4 stk;have l5:=t5.length;have l6:=t6.length;rw [ik] at l6
 cases stk with
 | nil =>
  obtain rfl:wz=[]:=eh.mp l6;refine aU (by simp) ?_;rw [qy,fq] at eq;rw [eq] at t5;exact ⟨_,rfl,k l1 ez G s5 hl1 g1 t5⟩
 | cons s eO =>
  rw [lh] at t6;obtain ⟨us,u,rfl,t7,q,n0,rfl,hq⟩:=iX t6;refine bD (by simp) ?_;have hS:=hs s ao;have sp:=aL6 s;rw [ff,am] at lt ls;rw [bo] at ls l6;rw [am,bo,jc] at l6;refine ⟨fun σ' G'=>∃ (em' stk':List Stp) (ez' wz':List V) (n:Int) (v4 v5:Option V),σ'=[some (.ref p),some (.ref l1),some (.int n),some (.ref lw),v4,v5]/\aS H G'/\G' l1=some (.lst ez')/\cO (gB G') ez' em'/\G' lw=some (.lst wz')/\cO (gB G') wz' stk'.reverse/\em'++stk'.flatMap expd=iO rs/\(∀ s∈stk',fE H s.2/\s.2.cnt<=4000)/\(stk'.flatMap expd).length+1=((s :: eO).flatMap expd).length,
   (by rintro σ' G' ⟨em',stk',ez',wz',n',v4',v5',e1,e2,e3,e4,e5,e6,e7,e8,e9⟩;exact ⟨_,by lia,em',stk',ez',wz',n',v4',v5',e1,e2,e3,e4,e5,e6,e7,e8,rfl⟩),?_⟩
  refine ⟨_,rfl,.inl ⟨rfl,_,bC.of g2⟩,lw,_,V.ref q,rfl,rfl,g2,by simp,?_⟩;rw [pf];have ts6:=TS.lst (ys:=us) g2;have s6:=cP (ys:=us) s5 nw;have g3:aQ G lw (.lst us) lw=some (.lst us):=aD;have g4:aQ G lw (.lst us) l1=some (.lst ez):=(aI ne.symm).trans g1;have hq6:=ts6 _ _ hq;replace t5:=t5.mono fun _ _ z=>gB.ts ts6 z
  replace t7:=t7.mono fun _ _ z=>gB.ts ts6 z
  generalize aQ G lw (.lst us)=G1 at s6 g3 g4 hq6 t5 t7 ⊢;refine ⟨_,rfl,q,_,_,.str s.1,rfl,rfl,aO.of hq6,rfl,rfl,_,rfl,?_⟩
  by_cases c:s.1="row"
  ·refine bD (by rw [c];exact ag rfl) ?_;obtain ⟨s1',r0⟩:=s;have c:s1'="row":=c;subst c;have ex:expd (("row": Str),r0)=(("row": Str),r0) :: (gU r0).flatMap expd:=(show expd (("row": Str),r0)=iN r0 from ay rfl).trans (aH4 r0);refine ⟨_,rfl,q,_,_,.ref r0.p,rfl,rfl,aO.of hq6,rfl,?_⟩;refine ⟨_,rfl,.inl ⟨rfl,_,bC.of g4⟩,_,rfl,_,rfl,by show 3<=sizeLine;decide,fun t ht=>?_⟩;have s7:=s6.trans (aB ht (.tup [.str "row",.ref r0.p,.int n]));have nt1:l1≠t:=aL g4 ht;have nt2:lw≠t:=aL g3 ht;have g5:aQ G1 t (.tup [.str "row",.ref r0.p,.int n]) l1=_:=(aI nt1).trans g4;have g6:aQ G1 t (.tup [.str "row",.ref r0.p,.int n]) lw=_:=(aI nt2).trans g3;have et:gB (aQ G1 t (.tup [.str "row",.ref r0.p,.int n])) (.ref t) (("row": Str),r0):=⟨t,n,rfl,aD⟩
   replace t5:=t5.mono fun _ _ z=>gB.ts (.of (aB ht (.tup [.str "row",.ref r0.p,.int n]))) z
   replace t7:=t7.mono fun _ _ z=>gB.ts (.of (aB ht (.tup [.str "row",.ref r0.p,.int n]))) z
   generalize aQ G1 t (.tup [.str "row",.ref r0.p,.int n])=G2 at s7 g5 g6 et t5 t7 ⊢;refine ⟨l1,_,_,rfl,rfl,g5,eI (by lia),?_⟩;have ts8:=TS.lst (ys:=ez++[.ref t]) g5;have s8:=cP (ys:=ez++[.ref t]) s7 hl1;have g7:aQ G2 l1 (.lst (ez++[.ref t])) l1=some (.lst (ez++[.ref t])):=aD;have g8:aQ G2 l1 (.lst (ez++[.ref t])) lw=some (.lst us):=(aI ne).trans g6;have t8:=cO.append (t5.mono fun _ _ z=>gB.ts ts8 z) (show cO (gB (aQ G2 l1 (.lst (ez++[.ref t])))) [.ref t] [(("row": Str),r0)] from ⟨et.ts ts8,trivial⟩);replace t7:=t7.mono fun _ _ z=>gB.ts ts8 z
   generalize aQ G2 l1 (.lst (ez++[.ref t]))=G3 at s8 g7 g8 t8 t7 ⊢;refine ⟨_,rfl,.inl ⟨rfl,_,bC.of g8⟩,_,rfl,r0,rfl,fE.ts (.of s8) r0 hS.1,hS.2,fun qi zi H9 s9 h9 t9=>⟨qi,_,rfl,bC.of h9,?_⟩⟩;have t9r:=pZ t9;have zl9:=t9.length;have li:=aE4 (gU r0);rw [ex,bo] at lt ls sp;refine zA (K:=K) (a:=qi) (xs:=zi) (fun i ys σ G=>aS H9 G/\(∃ v,σ=[v,some (.int n)])/\cO (gB G) ys ((gU r0).reverse.take i))
    (eI (by lia)) ⟨aS.refl _,⟨_,rfl⟩,trivial⟩ (by rintro i ys σ G ⟨_,_,e⟩;rw [e.length,cp];lia) (by rintro i ys σ G _ ⟨e,_⟩;exact bC.of (e _ _ h9)) ?_ ?_
   ·rintro i v ys σ G hv ⟨s3,⟨v',rfl⟩,tw⟩;obtain ⟨s,hs,q,rfl,hq⟩:=fM t9r hv;refine ⟨_,rfl,q,_,_,.str s.1,rfl,rfl,aO.of (s3 _ _ hq),rfl,_,rfl,q,_,_,.ref s.2.p,rfl,rfl,aO.of (s3 _ _ hq),rfl,_,rfl,by show 3<=sizeLine;decide,fun t ht=>⟨s3.trans (aB ht _),⟨_,rfl⟩,?_⟩⟩;rw [aT hs];exact cO.append (tw.mono fun _ _ z=>gB.ts (.of (aB ht _)) z) ⟨⟨t,_,rfl,aD⟩,trivial⟩
   rintro ys σ G5 ⟨s10,_,tw⟩ l10 hl10;have el:zi.length=(gU r0).reverse.length:=by rw [ik];exact zl9
   rw [el,bv] at tw;have s11:=s9.trans (s10.trans (aB hl10 (.lst ys)));have h11:aQ G5 l10 (.lst ys) l10=some (.lst ys):=aD;have n10:lw≠l10:=aL ((s9.trans s10) _ _ g8) hl10;replace tw:=tw.mono fun _ _ z=>gB.ts (.of (aB hl10 (.lst ys))) z
   generalize aQ G5 l10 (.lst ys)=G6 at s11 h11 tw ⊢;have yl:=tw.length;rw [ik] at yl;refine ⟨lw,l10,_,_,rfl,rfl,s11 _ _ g8,h11,bu (eI (by lia)),?_⟩;have ts12:=(TS.of s11).trans (TS.lst (ys:=us++ys) (s11 _ _ g8));refine ⟨_,rfl,_,_,rfl,rfl,em++[(("row": Str),r0)],gU r0++eO,_,_,_,_,_,rfl,cP (s8.trans s11) nw,(aI ne.symm).trans (s11 _ _ g7),t8.mono fun _ _ z=>gB.ts ts12 z,aD,?_,?_,fun s hs'=>?_,?_⟩
   ·rw [zd];exact cO.append (t7.mono fun _ _ z=>gB.ts ts12 z) (tw.mono fun _ _ z=>gB.ts (TS.lst (s11 _ _ g8)) z)
   ·rw [<- eq,ff,ex,fb];simp
   ·rcases cg.mp hs' with e | e
    ·exact bA2 hS.1 hS.2 e
    ·exact hs s (aq _ e)
   ·rw [ff,ex,fb];simp <;> omega
  ·refine aU (fun z=>c (by have z:=ai z;injection z)) ?_;have ex:expd s=[s]:=ak c;refine ⟨_,rfl,.inl ⟨rfl,_,bC.of g4⟩,_,rfl,l1,_,_,rfl,rfl,g4,eI (by lia),?_⟩;have ts8:=TS.lst (ys:=ez++[.ref q]) g4;refine ⟨em++[s],eO,_,_,_,_,_,rfl,cP s6 hl1,aD,cO.append (t5.mono fun _ _ z=>gB.ts ts8 z) ⟨⟨q,n0,rfl,ts8 _ _ hq6⟩,trivial⟩,(aI ne).trans g3,t7.mono fun _ _ z=>gB.ts ts8 z,?_,fun s hs'=>hs s (aq _ hs'),?_⟩
   ·rw [<- eq,ff,ex];simp
   ·rw [ff,ex];simp <;> omega
theorem bU4 (C_Sts:Cl P w K mg base 3 spSteps "steps_of"):dZ P w K mg base "rows_in" "rows_in" cF5 4 ["program"] spRowsIn:=by
 refine eQ ["program"] fun H Q nd hr h=>?_
 obtain ⟨p,xs,rs,rfl,P0,k⟩:=h;refine ⟨_,(aE (aJ (cZ ["word","row","number"] [none,none,none] (bX (bG C_Sts hr (aN (aZ aG (pv 0) aC)))) (fun _ _ _ _=>(cM0 K (n:=3) rfl (aX (eN 0) (aX (eN 1) (aX (eN 2) dP))))) (fun _ _ _ _=>(qP (eT cH (pv 0) aH))) (fun _ _ _ _=>(pv 1))))),?_⟩;obtain ⟨v0,pr,hp,hpr⟩:=P0.ex;have tl:=hZ rs;have c0:=P0.cnt;refine ⟨_,rfl,p,_,_,.ref pr,rfl,rfl,aO.of hp,rfl,pr,rs,rfl,hpr,P0.rows,cu P0.cnt (by decide),fun r zs H1 s1 _ h1 t1=>⟨r,rfl,⟨_,bC.of h1⟩,?_⟩⟩;have zl:=t1.length;refine dL (K:=K) (a:=r) (xs:=zs) (fun i ys σ G=>G=H1/\(∃ v1 v2 v3,σ=[v1,v2,v3])/\ys=cL ((((iO rs).take i).filter fun s:Stp=>decide (s.1="row")).map (·.2)))
  (eI (by lia)) ⟨rfl,⟨_,_,_,rfl⟩,rfl⟩ (fun i ys σ G ⟨_,_,e⟩=>by
   rw [e,bR,ac];exact cu (jm _ _) (by rw [cp];lia)) (by rintro i ys σ G _ ⟨e,_⟩;rw [e];exact bC.of h1) ?_ ?_
 ·rintro i v ys σ G hv ⟨rfl,⟨v1,v2,v3,rfl⟩,rfl⟩;obtain ⟨s,hs,q,n,rfl,hq⟩:=fM t1 hv;refine ⟨q,_,rfl,aO.of hq,rfl,_,_,rfl,_,_,rfl,_,_,rfl,rfl,?_⟩;refine ⟨_,rfl,rfl,_,rfl,?_⟩;rw [aT hs,uq,bm,iW]
  by_cases c:s.1="row"
  ·refine bD (by rw [c];exact ag rfl) ⟨_,rfl,rfl,⟨_,_,_,rfl⟩,?_⟩;rw [en (p:=fun s:Stp=>decide (s.1="row")) (ag c)];rfl
  ·refine aU (fun z=>c (by have z:=ai z;injection z)) ⟨rfl,⟨_,_,_,rfl⟩,?_⟩;rw [ej (p:=fun s:Stp=>decide (s.1="row")) (by simpa using c)];simp [cL]
 ·rintro ys σ G ⟨rfl,_,rfl⟩ l hl;rw [zl,bv,iH];exact k l _ (s1.trans (aB hl _)) (s1.free hl) aD
theorem bV6 (C_Ask:Cl P w K mg base 3 spAsked "names_asked"):dZ P w K mg base "names_behind" "names_behind" cI3 4 ["rows"] spNB:=by
 refine eQ ["rows","behind","row"] fun H Q nd hr h=>?_
 obtain ⟨lr,xs,fl,rfl,hl,hR,ok,hn,k⟩:=h;have hr1:dQ 1 _:=hr.mono (by decide);refine ⟨_,(dB 1 nd zO
  (aF (pK (bX (pv 0)) (eN 2 nd)
  (aE (bB (eT cH (aZ aG (pv 2) aC) aH) (aE (cY (fN br ia ib gD (bD1 (pv 1) (aZ aG (pv 2) aC) (bK cD) ⟨rfl,rfl,rfl,rfl⟩) (aN (bG C_Ask hr (aN (pv 2))))))) aR)))
  (aE (aJ (pv 1))))),?_⟩
 refine fun d hd=>?_
 have b0:BI H (aQ H d (.dK [])) d [] [] 0:=⟨aB hd _,hd,aD,aj _,fun x=> .inl ⟨rfl,rfl⟩,fun x y l h=>by cases h⟩
 generalize aQ H d (.dK [])=H1 at b0 ⊢;refine ⟨_,rfl,lr,rfl,⟨_,bC.of (b0.sm _ _ hl)⟩,dW (K:=K) (a:=lr) (xs:=cL fl) (fun i σ G=>∃ (kvs:List (Key×V)) (v2:Option V),σ=[some (.ref lr),some (.ref d),v2]/\BI H G d kvs (fl.take i) i)
  ⟨[],_,rfl,b0⟩ (by rintro i σ G _ ⟨_,_,_,e⟩;exact bC.of (e.sm _ _ hl)) ?_ ?_⟩
 ·rintro D' i v σ G hv ⟨kvs,v2,rfl,b1⟩;obtain ⟨r,rfl,hr0⟩:=lN hv;have mr:=be hr0;have hr1:=fE.ts (.of b1.sm) r (hR.mem r mr);have bi:=b1.ln;have il:=(bc.mp hr0).1;refine ⟨_,rfl,r.p,_,_,.str r.w,rfl,rfl,aO.of hr1.at,jQ,rfl,_,rfl,?_⟩
  by_cases c:r.w="let"
  ·refine bD (by rw [c];exact ag rfl) ?_;obtain ⟨p,x,t,rfl⟩:=aT0 hr1 c;have okr:=ok _ mr;refine ⟨_,rfl,d,rfl,bJ5 b1.dc,_,rfl,p,_,_,.str x,rfl,rfl,aO.of hr1.1,at1,bj _,fun l0 hl0=>⟨kvs,Sum.inr x,(aB hl0 _) _ _ b1.dc,rfl,uE (by lia),fun v hv=>?_,fun hv=>?_⟩⟩
   ·have b2:=b1.same (aB hl0 (.lst []));have s2:=aB hl0 (.lst []);generalize aQ G l0 (.lst [])=G2 at b2 s2 ⊢;obtain ⟨l,rfl,hl2⟩:∃ l,v= .ref l/\G2 l=some (.lst (((fl.take i).flatMap (Rw.lets x)).map V.str)):=by
     rcases b2.vl x with ⟨h,_⟩ | ⟨l,h1,h2,_⟩
     ·rw [h] at hv;cases hv
     ·rw [h1] at hv;cases hv;exact ⟨l,rfl,h2⟩
    refine ⟨.inl ⟨rfl,_,bC.of hl2⟩,_,rfl,.lt p x t,xs,rfl,fE.ts (.of s2) _ hr1,okr,fun q H3 s3 h3=>?_⟩;have b3:=b2.same s3;refine ⟨l,q,_,_,rfl,rfl,s3 _ _ hl2,h3,aK3 (p:=p) ok hn okr,kvs,_,rfl,?_⟩;rw [aT hr0];exact (b3.more hv).up (jy _)
   ·have b2:=b1.new hl0 hv;have ts2:TS G (aQ (aQ G l0 (.lst [])) d (.dK (cX kvs (Sum.inr x:Key) (.ref l0)))):=fun a ys h=>by
     rw [aI (dD h b1.dc (by intro z;cases z)),aI (aL h hl0)];exact h
    have hv2:bP (cX kvs (Sum.inr x:Key) (.ref l0)) (Sum.inr x:Key)=some (.ref l0):=by rw [aP,ay rfl]
    generalize aQ (aQ G l0 (.lst [])) d (.dK (cX kvs (Sum.inr x:Key) (.ref l0)))=G2 at b2 ts2 ⊢;generalize cX kvs (Sum.inr x:Key) (.ref l0)=kvs2 at b2 hv2 ⊢;have hl2:G2 l0=some (.lst (((fl.take i).flatMap (Rw.lets x)).map V.str)):=by
     rcases b2.vl x with ⟨h,_⟩ | ⟨l,h1,h2,_⟩
     ·rw [h] at hv2;cases hv2
     ·rw [h1] at hv2;cases hv2;exact h2
    refine ⟨.inl ⟨rfl,_,bC.of hl2⟩,_,rfl,.lt p x t,xs,rfl,fE.ts ts2 _ hr1,okr,fun q H3 s3 h3=>?_⟩;have b3:=(b2.same s3).more (p:=p) (t:=t) hv2;exact ⟨l0,q,_,_,rfl,rfl,s3 _ _ hl2,h3,aK3 (p:=p) ok hn okr,_,_,rfl,by rw [aT hr0];exact b3⟩
  ·refine aU (fun z=>c (by have z:=ai z;injection z)) ?_;refine ⟨kvs,_,rfl,?_⟩;rw [aT hr0];exact b1.skip (aV4 c)
 ·rintro σ G ⟨kvs,v2,rfl,b1⟩;rw [bR,bv] at b1;exact ⟨_,rfl,k d G b1.sm hd b1.bh⟩
theorem bN9 (C_SeN:Cl P w K mg base 1 spSetsN "sets_name"):dZ P w K mg base "is_idle" "is_idle" cF2 2 ["row","names"] spIsI:=by
 refine eQ ["row","names"] fun H Q nd hr h=>?_
 obtain ⟨r,np,ss,rfl,hr0,hn,k⟩:=h;refine ⟨_,(aE (aJ (mL (bG C_SeN hr (aN (pv 0))) (mJ (pec jV (aZ aG (pv 0) aC) (pv 1)))))),?_⟩;refine ⟨_,rfl,r,rfl,hr0,_,rfl,?_⟩
 cases e:r.sets with
 | none =>
  rw [aA0 e] at k;exact aU (by decide) k
 | some x =>
  rw [yM e] at k;obtain ⟨vs,hv⟩:=aI1 hr0 e;refine bD rfl ?_;refine ⟨_,rfl,r.p,_,_,.str x,rfl,rfl,aO.of hv,at1,_,rfl,np,_,rfl,.inr (aO.of hn),rfl,eA _,?_⟩;rw [mH];exact k
theorem bM4 (C_RwI:Cl P w K mg base 4 spRowsIn "rows_in") (C_NmB:Cl P w K mg base 4 spNB "names_behind") (C_Ask:Cl P w K mg base 3 spAsked "names_asked") (m_tuple:mg "tuple"=none) (m_sorted:mg "sorted"=none):dZ P w K mg base "needed" "needed" cI1 5 ["program"] spNeeded:=by
 refine eQ ["program","rows","behind","found","waiting","row","name"] fun H Q nd hr h=>?_
 obtain ⟨p,xs,rs,rfl,P0,k⟩:=h;have hu:=iR hr;have hr1:dQ 1 _:=hr.mono (by decide);refine ⟨_,(dB 1 nd (bG C_RwI hr (aN (pv 0)))
  (dB 2 nd (bG C_NmB hr (aN (pv 1)))
  (dB 3 nd zO
  (dB 4 nd (bK cD)
  (aF (pK (bX (pv 1)) (eN 5 nd)
  (aE (bB (eT bU (aZ aG (pv 5) aC) (aM (aA aH (aN aH)))) (aE (cY (fN br ia ib gD (pv 4) (aN (bG C_Ask hr (aN (pv 5))))))) aR)))
  (aF (fP ie (jL (pv 4) (fun _=>rfl))
  (dB 6 nd (qW br km ko rM (pv 4))
  (aE (bB (aY8 (aO0 hu (pv 6) (pv 3))) (aF (pdp hu (pv 3) (pv 6) rZ)
  (aE (cY (fN br ia ib gD (pv 4) (aN (zF hu (pv 2) (pv 6) (bK cD) ⟨rfl,rfl,rfl,rfl⟩)))))) aR))))
  (aE (aJ (tQ dC m_tuple eo (aN (mO (xJ hr1) m_sorted vz (aN (pv 3))))))))))))),?_⟩
 have f13:=P0.fl;have okf:=P0.okf;refine ⟨_,rfl,p,xs,rs,rfl,P0,fun r1 H1 s1 n1 h1=>?_⟩;have rH:=bN.ts (.of s1) _ (bN.flat rs P0.rows);generalize hfl:bE rs=fl at f13 okf h1 rH;refine ⟨_,rfl,r1,xs,fl,rfl,h1,rH,okf,f13,fun d2 H2 s2 n2 b2=>?_⟩;refine fun df hdf=>?_
 have s3:=aB hdf (.dK []);have h3:aQ H2 df (.dK []) df=some (.dK (xM [])):=aD;generalize aQ H2 df (.dK [])=H3 at s3 h3 ⊢;refine ⟨bj _,fun lw hlw=>?_⟩;obtain ⟨H4,e0,s4,h4⟩:=gG hlw (.lst []);rw [e0];clear e0;have n4:H2 lw=none:=s3.free hlw;refine ⟨_,rfl,r1,rfl,⟨_,bC.of ((s2.trans (s3.trans s4)) _ _ h1)⟩,dW (K:=K) (a:=r1) (xs:=cL fl) (fun i σ G=>∃ (v5 v6:Option V),σ=[some (.ref p),some (.ref r1),some (.ref d2),some (.ref df),some (.ref lw),v5,v6]/\aS H3 G/\G lw=some (.lst (((fl.take i).flatMap Rw.told).map V.str)))
  ⟨_,_,rfl,s4,h4⟩ (by rintro i σ G _ ⟨_,_,_,e,_⟩;exact bC.of ((s2.trans (s3.trans e)) _ _ h1)) ?_ ?_⟩
 ·rintro D' i v σ G hv ⟨v5,v6,rfl,s5,h5⟩;obtain ⟨r,rfl,hr0⟩:=lN hv;have mr:=be hr0;have il:=(bc.mp hr0).1;have hr1:=fE.ts (.of (s2.trans (s3.trans s5))) r (rH.mem r mr);have tl:=lM (fl:=fl.take i) (fun r hr=>okf r (iy hr));have al:=(okf r mr).asked.1;rw [cp] at tl;refine ⟨_,rfl,r.p,_,_,.str r.w,rfl,rfl,aO.of hr1.at,jQ,bM,fun t2 ht2=>?_⟩;have s6:=aB ht2 (.tup [.str "tell",.str "when"]);refine ⟨t2,[.str "tell",.str "when"],rfl,.inr (aO.of aD),rfl,by decide,_,rfl,?_⟩;generalize aQ G t2 (.tup [.str "tell",.str "when"])=G6 at s6 ⊢;have ei:mU (V.str r.w) [.str "tell",.str "when"]=decide (r.w∈(["tell","when"]:List Str)):=bW _ ["tell","when"];rw [aI9 hr0]
  by_cases c:r.w∈(["tell","when"]:List Str)
  ·refine bD (ei.trans (ag c)) ?_;refine ⟨_,rfl,.inl ⟨rfl,_,bC.of (s6 _ _ h5)⟩,_,rfl,r,xs,rfl,fE.ts (.of s6) r hr1,okf r mr,fun q H7 s7 h7=>?_⟩;refine ⟨lw,q,_,_,rfl,rfl,(s6.trans s7) _ _ h5,h7,bu (uE (by rw [ac,ac];lia)),_,_,rfl,cP (s5.trans (s6.trans s7)) hlw,?_⟩;rw [aD,bE4 hr1 c,bm]
  ·refine aU (fun z=>c (ai (ei.symm.trans z))) ?_;refine ⟨_,_,rfl,s5.trans s6,?_⟩;rw [zD c,fq];exact s6 _ _ h5
 rintro σ G ⟨v5,v6,rfl,s5,h5⟩;rw [bR,bv] at h5;have tl:=lM okf;have pl:=aU4 okf [] xs;have xl:=P0.xl;have pl2:xs.length * (7 * fl.length)<=12 * (7 * fl.length):=fg _ xl;have b5:aS H2 G:=s3.trans s5;have h35:=s5 _ _ h3;have ndl:lw≠df:=(aL h3 hlw).symm;refine ⟨fun m σ G=>∃ (fs ws:List Str) (v6:Option V),σ=[some (.ref p),some (.ref r1),some (.ref d2),some (.ref df),some (.ref lw),v5,v6]/\aS H2 G/\G df=some (.dK (xM fs))/\G lw=some (.lst (ws.map V.str))/\WL fl fs ws/\m=ws.length+pot fl xs fs/\m<=500000,
  ⟨_,[],_,v6,rfl,b5,h35,h5,WL.init fl,rfl,by lia⟩,?_⟩
 clear h5 h35 b5 s5 s4 h4;rintro m σ G ⟨fs,ws,v6,rfl,s5,g1,g2,wl,rfl,mb⟩;refine ⟨_,rfl,_,.inl ⟨_,bC.of g2,rfl⟩,?_⟩;have fx:∀ x∈fs,x∈xs:=fun x hx=>rW okf (wl.need x (.inl hx))
 have fsl:=pJ wl.nd fx;rcases xt ws with rfl | ⟨ws,x,rfl⟩
 ·refine aU (by simp) ?_;refine ⟨_,rfl,df,_,fs,rfl,g1,bI3 fs,by rw [aT1];lia,fun ts' pm st l hl=>⟨l,_,rfl,.inl ⟨bC.of aD,fun t ht=>?_⟩⟩⟩;refine k t ts' _ (s1.trans (s2.trans (s5.trans ((aB hl _).trans (aB ht _))))) aD ⟨pm.symm.nodup wl.nd,st,fun x=>?_⟩;rw [pm.mem_iff,hfl];exact wl.done x
 ·rw [xy] at *;refine bD (by simp) ?_;rw [bm,dq,vk] at g2;rw [am,bo,jc] at mb;refine ⟨fun σ' G'=>∃ (fs' ws':List Str) (v6:Option V),σ'=[some (.ref p),some (.ref r1),some (.ref d2),some (.ref df),some (.ref lw),v5,v6]/\aS H2 G'/\G' df=some (.dK (xM fs'))/\G' lw=some (.lst (ws'.map V.str))/\WL fl fs' ws'/\ws'.length+pot fl xs fs' + 1<=ws.length+1+pot fl xs fs,
   (by rintro σ' G' ⟨fs',ws',v6',e1,e2,e3,e4,e5,e6⟩;exact ⟨_,by rw [am,bo,jc];lia,fs',ws',v6',e1,e2,e3,e4,e5,rfl,by lia⟩),?_⟩
  refine ⟨_,rfl,.inl ⟨rfl,_,bC.of g2⟩,lw,_,V.str x,rfl,rfl,g2,by simp,?_⟩;rw [pf];have s6:=cP (ys:=ws.map V.str) s5 n4;have g3:aQ G lw (.lst (ws.map V.str)) lw=some (.lst (ws.map V.str)):=aD;have g4:aQ G lw (.lst (ws.map V.str)) df=some (.dK (xM fs)):=(aI ndl.symm).trans g1;generalize aQ G lw (.lst (ws.map V.str))=G1 at s6 g3 g4 ⊢;refine ⟨_,rfl,_,rfl,df,_,rfl,dG.k (k:=Sum.inr x) g4,_,rfl,?_⟩;rw [aB6]
  by_cases c:x∈fs
  ·rw [ay c];refine aU (by decide) ?_;exact ⟨fs,ws,_,rfl,s6,g4,g3,wl.skip c,by lia⟩
  ·rw [ak c];refine bD (by decide) ?_;have ps:=zK fl c (rW okf (wl.need x (.inr (by simp))));have dp:=iY.k (k:=(Sum.inr x:Key)) (v:=V.bl true) g4 (aV (by rw [aT1];lia));rw [bM1 c] at dp;refine ⟨_,rfl,_,rfl,df,_,rfl,dp,?_⟩;have s7:aS H2 (aQ G1 df (.dK (xM (fs++[x])))):=fun a o e=>(aI (aL e hdf)).trans (s6 a o e)
   have g5:aQ G1 df (.dK (xM (fs++[x]))) df=some (.dK (xM (fs++[x]))):=aD;have g6:aQ G1 df (.dK (xM (fs++[x]))) lw=some (.lst (ws.map V.str)):=(aI ndl).trans g3;generalize aQ G1 df (.dK (xM (fs++[x])))=G2 at s7 g5 g6 ⊢;obtain ⟨kvs,hb,hv⟩:=b2.same s7;refine ⟨_,rfl,.inl ⟨rfl,_,bC.of g6⟩,_,rfl,d2,rfl,bJ5 hb,_,rfl,bj _,fun l8 hl8=>?_⟩;obtain ⟨G3,e0,s8,g8⟩:=gG hl8 (.lst []);rw [e0];clear e0;refine ⟨_,dG.k (k:=Sum.inr x) (s8 _ _ hb),?_⟩;have ll:=oN okf x;obtain ⟨l9,e9,h9⟩:∃ l9,(bP kvs (Sum.inr x:Key)).getD (.ref l8)= .ref l9/\G3 l9=some (.lst ((fl.flatMap (Rw.lets x)).map V.str)):=by
    rcases hv x with ⟨e,e0⟩ | ⟨l,e,e0⟩
    ·rw [e,e0];exact ⟨l8,rfl,g8⟩
    ·rw [e];exact ⟨l,rfl,s8 _ _ e0⟩
   rw [e9];refine ⟨lw,l9,_,_,rfl,rfl,s8 _ _ g6,h9,bu (uE (by rw [ac,ac];lia)),fs++[x],ws++fl.flatMap (Rw.lets x),_,rfl,cP (s7.trans s8) n4,(aI ndl.symm).trans (s8 _ _ g5),by rw [aD,bm],wl.take c,by rw [am];lia⟩
theorem bP6 (C_Draw:Cl P w K mg base 1 spDraw "_law_draw") (m_range:mg "range"=none):dZ P w K mg base "_law_names" "_law_names" cC1 2 ["_law_deal_here","_law_many"] spNames:=by
 refine eQ ["_law_deal_here","_law_many","_law_letters","_law_words","_law_found","_law_k","_law_size","_law_word","_law_spare"] fun H Q nd hr h=>?_
 obtain ⟨d,l,m,rfl,D,m0,m9,k⟩:=h;refine ⟨_,(@aF _ _ _ _ _ (zV 2 nd aH)
  (@aF _ _ _ _ _ (@kY _ _ 3 _ _ _ _ nd rfl (kb rfl) (@bK _ _ _ _ (@aA _ _ _ _ _ aH (@aA _ _ _ _ _ aH (@aA _ _ _ _ _ aH (@aA _ _ _ _ _ aH (@aA _ _ _ _ _ aH (@aA _ _ _ _ _ aH (@aA _ _ _ _ _ aH (@aA _ _ _ _ _ aH (@aA _ _ _ _ _ aH (@aA _ _ _ _ _ aH (@aA _ _ _ _ _ aH (@aA _ _ _ _ _ aH cD rfl) rfl) rfl) rfl) rfl) rfl) rfl) rfl) rfl) rfl) rfl) rfl)) rfl (kb rfl))
  (@aF _ _ _ _ _ (zV 4 nd (bK cD))
  (@aF _ _ _ _ _ (pK (dN (by rfl) m_range (aN (pv 1))) (eN 5 nd)
  (dB 6 nd (aK cB aC (bG C_Draw hr (aA (pv 0) (aN (aZ bQ (bK (aA aC (aN aC))) (bG C_Draw hr (aA (pv 0) (aN aC))))))))
  (dB 7 nd (fN PySem.F.plainAttrs_str PySem.F.slot_str_join PySem.F.type_str_join bF9 aH (aN (cZ ["_law_j","_law_letters","_law_deal_here"] [none,some 2,some 0] (dN (by rfl) m_range (aN (pv 6))) (fun _ _ _ _=>(eN 0)) (fun _ _ _ _=>eS) (fun _ _ _ _=>(aZ vY (pv 1) (bG C_Draw hr (aA (pv 2) (aN aC))))))))
  (dB 8 nd aC
  (aF (fP ie (gH (PW.pt (vJ (eT bU (pv 7) (pv 4)) (oP (eT bU (pv 7) (pv 3))))))
  (dB 7 nd (aK rT (aK rT (dS bR5 (pv 7) eX (eG aC)) (aZ vY (pv 2) (aK fR (aK kO (pv 8) aC) aC))) (aZ vY (pv 2) (aK fR (pv 8) aC)))
  (aE (zV 8 nd (aK cB (pv 8) aC)))))
  (aE (cY (fN br dk dm dO (pv 4) (aN (pv 7))))))))))
  (@aE _ _ _ (aJ (pv 4))))))),?_⟩
 refine ⟨by show 12<=sizeLine;decide,fun lw hlw=>?_⟩;have nwl:=(cE D hlw).2;have s1:=aB hlw (.lst [.str "kinds",.str "ladder",.str "flat",.str "choose",.str "first",.str "let",.str "tell",.str "when",.str "else",.str "times",.str "end",.str "of"]);have h1:aQ H lw (.lst [.str "kinds",.str "ladder",.str "flat",.str "choose",.str "first",.str "let",.str "tell",.str "when",.str "else",.str "times",.str "end",.str "of"]) lw=some (.lst (oV.map V.str)):=aD;generalize aQ H lw (.lst [.str "kinds",.str "ladder",.str "flat",.str "choose",.str "first",.str "let",.str "tell",.str "when",.str "else",.str "times",.str "end",.str "of"])=H1 at s1 h1 ⊢;have D1:=D.same s1;refine ⟨bj _,fun lf hlf=>?_⟩;have nf:=s1.free hlf;have nwf:lw≠lf:=aL h1 hlf;have L2:gW (aQ H1 lf (.lst [])) d l lf []:=gW.new D1 hlf;have o2:eP d l H (aQ H1 lf (.lst [])):=eP.of (s1.trans (aB hlf (.lst [])));have h2:=(aB hlf (.lst [])) _ _ h1
 generalize aQ H1 lf (.lst [])=H2 at L2 o2 h2 ⊢;refine ⟨_,rfl,m,rfl,by (exact oqb),by (exact oqc),mG (n:=m.toNat) (fun i σ G=>∃ (ws:List Str) (v5 v6 v7 v8:Option V),σ=[some (.ref d),some (.int m),some (.str "abcdefghijklmnopqrstuvwxyz"),some (.ref lw),some (.ref lf),v5,v6,v7,v8]/\gW G d l lf (ws.map V.str)/\G lw=some (.lst (oV.map V.str))/\eP d l H G/\ws.length=i/\∀ x∈ws,Lt x)
  ⟨[],_,_,_,_,rfl,L2,h2,o2,rfl,fun _ z=>nomatch z⟩ ?_ ?_⟩
 ·rintro D' i σ G hi ⟨ws,v5,v6,v7,v8,rfl,L3,h3,o3,hw,wlt⟩;refine ⟨_,rfl,bM,fun l0 hl0=>?_⟩;have nl:=(cE L3.deal hl0).2;obtain ⟨H4,e0,s4,h4⟩:=gG hl0 (.lst [.int 2,.int 8]);rw [e0];clear e0;have D4:=L3.deal.same s4;refine ⟨_,rfl,d,l,2,rfl,D4,by decide,by decide,fun x H5 x0 x1 D5 o5=>?_⟩;obtain ⟨w2,hw2,hc2⟩:=aH2 (x:=2) (y:=8) x0 x1;refine ⟨l0,_,_,.int w2,rfl,rfl,bC.of (bA D4 h4 nl o5),hw2,d,l,w2,rfl,D5,by lia,by lia,fun y H6 y0 y1 D6 o6=>⟨_,_,rfl,rfl,?_⟩⟩;have o46:=(eP.of (d:=d) (l:=l) s4).trans (o5.trans o6);have L6:gW H6 d l lf (ws.map V.str):=L3.out D6 o46;have h6:=bA L3.deal h3 nwl o46;have o6':=o3.trans o46;clear s4 h4 D4 D5 o5 o6 o46 hw2 L3 h3 o3;refine ⟨rfl,_,rfl,1+y,rfl,by lia,by lia,?_⟩;refine iJ (n:=(1+y).toNat) (fun i ys σ G=>gW G d l lf (ws.map V.str)/\G lw=some (.lst (oV.map V.str))/\eP d l H G/\(∃ v,σ=[v,some (.str "abcdefghijklmnopqrstuvwxyz"),some (.ref d)])/\∃ zs:List Str,ys=zs.map V.str/\zs.length=i/\(∀ z∈zs,z.length=1)/\∀ z∈zs,Lt z) (aV (by lia)) ⟨L6,h6,o6',⟨_,rfl⟩,[],rfl,rfl,(fun _ z=>absurd z au),fun _ z=>absurd z au⟩
   (by rintro i ys σ G ⟨_,_,_,_,zs,e,e2,_⟩;rw [e,ac];lia) ?_ ?_
  ·rintro i ys σ G hi ⟨L7,h7,o7,⟨v,rfl⟩,zs,rfl,hl,h1,zlt⟩;refine ⟨_,rfl,_,rfl,d,l,26,rfl,L7.deal,by decide,by decide,fun r H3 r0 r1 D3 o3=>?_⟩;obtain ⟨c,hc⟩:=bX8 (z:="abcdefghijklmnopqrstuvwxyz") r0 r1;refine ⟨_,r,c,rfl,rfl,by decide,hc,L7.out D3 o3,bA L7.deal h7 nwl o3,o7.trans o3,⟨_,rfl⟩,zs++[⟨#[c]⟩],by rw [bm];rfl,by rw [am,hl];rfl,fun z hz=>?_,fun z hz=>?_⟩
   ·rcases cg.mp hz with q | q
    ·exact h1 z q
    ·have e:z=⟨#[c]⟩:=by simpa using q
     rw [e];rfl
   ·rcases cg.mp hz with q | q
    ·exact zlt z q
    ·have e:z=⟨#[c]⟩:=by simpa using q
     rw [e];exact Lt.one (aP1 hc)
  rintro ys σ H7 ⟨L7,h7,o7,_,zs,rfl,hl,h1,zlt⟩ p hp;have hsm:=zI h1;refine ⟨_,p,zs,rfl,rfl,bC.of aD,by rw [hsm];show zs.length+zs.length * 0<=_;lia,?_⟩;have hj:=bB1 "" zs;rw [hsm] at hj;have e0:("": Str).length=0:=rfl;rw [e0] at hj;have L8:=L7.same (aB hp (.lst (zs.map V.str)));have h8:=(aB hp (.lst (zs.map V.str))) _ _ h7;have o8:=o7.trans (eP.of (d:=d) (l:=l) (aB hp (.lst (zs.map V.str))));generalize aQ H7 p (.lst (zs.map V.str))=H8 at L8 h8 o8 ⊢;have crl:=bG3 zlt;generalize Txt.join "" zs=cr at hj crl ⊢;have c6:cr.length<=8:=by lia
  have hL:(ws++oV).length<=23:=by rw [am,show oV.length=12 from rfl];lia
  refine ⟨fun m' σ' G'=>G'=H8/\∃ (wd:Str) (s:Nat),σ'=[some (.ref d),some (.int m),some (.str "abcdefghijklmnopqrstuvwxyz"),some (.ref lw),some (.ref lf),some (.int (0+(i:Int))),some (.int (1+y)),some (.str wd),some (.int (s:Int))]/\wd.length<=8+2 * s/\Lt wd/\(s=0\/lc wd+1=97+s)/\m'=mw (ws++oV) s/\s+mw (ws++oV) s<=24,
   ⟨_,rfl,cr,0,rfl,c6,crl,.inl rfl,rfl,aj _⟩,?_⟩
  rintro m' σ' G' ⟨rfl,wd,s,rfl,hwd,wdl,hs,rfl,hm⟩;refine ⟨fun b G1=>G1=G'/\(b=true->wd∈ws++oV),?_,?_⟩
  ·refine ⟨_,rfl,_,rfl,lf,_,rfl,.inl (bC.of L8.lst),rfl,eA _,_,rfl,?_⟩;have ei:mU (V.str wd) (ws.map V.str)=decide (wd∈ws):=bW _ _
   by_cases c:wd∈ws
   ·exact bD (ei.trans (ag c)) ⟨rfl,fun _=>cx _ c⟩
   ·refine aU (fun z=>c (ai (ei.symm.trans z))) ⟨_,rfl,_,rfl,lw,_,rfl,.inl (bC.of h8),rfl,eA _,_,rfl,rfl,fun z=>?_⟩;exact bw _ (ai ((bW _ _).symm.trans z))
  rintro b G1 ⟨rfl,hb⟩
  cases b with
  | true =>
   refine bD rfl ?_;have mem:=hb rfl;have st:=bD8 hL mem hs;have s25:s < 26:=by lia
   have q26:(0:Int) < 26:=by decide
   refine ⟨fun σ2 G2=>G2=G1/\∃ (wd:Str),σ2=[some (.ref d),some (.int m),some (.str "abcdefghijklmnopqrstuvwxyz"),some (.ref lw),some (.ref lf),some (.int (0+(i:Int))),some (.int (1+y)),some (.str wd),some (.int ((s:Int)+1))]/\wd.length<=8+2 * (s+1)/\Lt wd/\lc wd+1=97+(s+1),?_,?_⟩
   ·rintro σ2 G2 ⟨rfl,wd2,rfl,a1,a3,a2⟩;exact ⟨_,by lia,rfl,wd2,s+1,rfl,a1,a3,.inr a2,rfl,by lia⟩
   have t1:=sf wd none (some 6);have z1:(Txt.slice wd none (some 6)).length+(⟨#[97]⟩:Str).length<=9+2 * s:=by show _+1<=9+2 * s;lia
   have z2:(Txt.slice wd none (some 6)++(⟨#[97]⟩:Str)).length<=9+2 * s:=by rw [ku];exact z1
   have z3:(Txt.slice wd none (some 6)++(⟨#[97]⟩:Str)).length+(⟨#[97+s]⟩:Str).length<=8+2 * (s+1):=by show _+1<=8+2 * (s+1);lia
   refine ⟨_,rfl,6,rfl,wd,rfl,bu (aV (by lia)),_,rfl,_,rfl,_,_,rfl,rfl,⟨by decide,by decide⟩,_,_,rfl,rfl,q26,_,_,97,rfl,rfl,by decide,aS3 s25,_,_,rfl,rfl,bu (aV (by lia)),_,rfl,_,rfl,_,_,rfl,rfl,q26,_,_,97+s,rfl,rfl,by decide,aP7 s25,_,_,rfl,rfl,bu (aV (by lia)),?_⟩;refine ⟨_,rfl,_,_,rfl,rfl,rfl,_,rfl,by rw [ku];exact z3,((aV8 wdl _ _).app (Lt.one (by decide))).app (Lt.one (by lia)),?_⟩;rw [bF4]
   lia
  | false =>
   refine aU (by simp) ?_;refine ⟨_,rfl,.inl ⟨rfl,_,bC.of L8.lst⟩,_,rfl,lf,_,_,rfl,rfl,L8.lst,aV (by rw [ac];lia),ws++[wd],_,_,_,_,rfl,?_,(aI nwf).trans h8,bD4 o8 nf,by rw [am,hw];rfl,fun x hx=>?_⟩
   ·rw [bm];exact L8.app _
   ·rcases cg.mp hx with e | e
    ·exact wlt x e
    ·rw [ax.mp e];exact wdl
 ·rintro σ G ⟨ws,v5,v6,v7,v8,rfl,L3,h3,o3,hw,wlt⟩;exact ⟨_,rfl,k lf ws G L3.deal o3 nf L3.lst (by lia) wlt⟩
theorem bY9 (C_Draw:Cl P w K mg base 1 spDraw "_law_draw") (m_int:mg "int"=none):dZ P w K mg base "_law_steep" "_law_steep" bZ9 2 ["_law_deal_here","_law_half"] spStp:=by
 refine eQ ["_law_deal_here","_law_half","_law_q","_law_p","_law_d"] fun H Q nd hr h=>?_
 obtain ⟨d,l,b,rfl,D,k⟩:=h;refine ⟨_,(@aF _ _ _ _ _ (zV 2 nd (aK cB aC (bG C_Draw hr (aA (pv 0) (aN aC)))))
  (@aF _ _ _ _ _ (zV 3 nd (aK cB aC (bG C_Draw hr (aA (pv 0) (aN (aZ bQ (bK (aA (aK cV (pv 2) aC) (aN (aK kO (pv 2) aC)))) (tQ fY m_int ip (aN (pv 1)))))))))
  (@aF _ _ _ _ _ (pK (kL (@aM _ _ _ _ _ (@aA _ _ _ _ _ aC (@aA _ _ _ _ _ aC (@aA _ _ _ _ _ aC (@aA _ _ _ _ _ aC cD rfl) rfl) rfl) rfl))) (eN 4 nd)
  (aE (fP ie (gH (PW.pt (iG (eT cH (aK fR (pv 3) (pv 4)) aC) (gZ (eT cH (aK fR (pv 2) (pv 4)) aC)))))
  (dB 3 nd (aK kO (pv 3) (pv 4))
  (aE (zV 2 nd (aK kO (pv 2) (pv 4))))))))
  (@aE _ _ _ (aJ (aM (aA (pv 3) (aN (pv 2))))))))),?_⟩
 refine ⟨_,rfl,d,l,8,rfl,D,by decide,by decide,fun y H1 y0 y1 D1 o1=>⟨_,_,rfl,rfl,?_⟩⟩;refine ⟨_,rfl,_,rfl,_,_,rfl,rfl,_,rfl,_,_,rfl,rfl,⟨by decide,by decide⟩,bM,fun l0 hl0=>?_⟩;have nl:=(cE D1 hl0).2;obtain ⟨H2,e0,s2,h2⟩:=gG hl0 (.lst [.int (2+y - 1),.int ((2+y) / 2)]);rw [e0];clear e0;have D2:=D1.same s2;obtain ⟨w,hw,hc⟩:∃ w,jH [V.int (2+y - 1),V.int ((2+y) / 2)] (if b=true then 1 else 0)=some (.int w)/\1<=w/\w<=1+y:=by
  cases b with
  | true=>exact ⟨_,rfl,by lia,by lia⟩
  | false=>exact ⟨_,rfl,by lia,by lia⟩
 refine ⟨_,rfl,.inr ⟨b,rfl,l0,_,_,.int w,rfl,rfl,bC.of h2,hw,d,l,w,rfl,D2,by lia,by lia,fun z H3 z0 z1 D3 o3=>⟨_,_,rfl,rfl,?_⟩⟩⟩;refine ⟨by show 4<=sizeLine;decide,fun t4 ht4=>?_⟩;have s4:=aB ht4 (.tup [.int 2,.int 3,.int 5,.int 7]);have h4:aQ H3 t4 (.tup [.int 2,.int 3,.int 5,.int 7]) t4=some (.tup (eZ.map V.int)):=aD;have D4:=D3.same s4;have o4:eP d l H (aQ H3 t4 (.tup [.int 2,.int 3,.int 5,.int 7])):=o1.trans ((eP.of s2).trans (o3.trans (eP.of s4)));generalize aQ H3 t4 (.tup [.int 2,.int 3,.int 5,.int 7])=H4 at s4 h4 D4 o4 ⊢;refine ⟨t4,rfl,⟨_,aO.of h4⟩,sN (K:=K) (a:=t4) (xs:=eZ.map V.int) (fun i σ G=>G=H4/\∃ (q p:Int) (v4:Option V),σ=[some (.ref d),some (.bl b),some (.int q),some (.int p),v4]/\1<=p/\p < q/\q<=9/\ND i p q)
  ⟨rfl,_,_,_,rfl,by lia,by lia,by lia,fun _ z=>absurd z au⟩ (by rintro i σ G _ ⟨e,_⟩;rw [e];exact aO.of h4) ?_ ?_⟩
 ·rintro D' i v σ G hv ⟨rfl,q,p,v4,rfl,p1,pq,q9,nd⟩;obtain ⟨e,rfl,he⟩:=qG hv;have e2:2<=e/\e<=7:=by
   have:=be he;unfold eZ at this;simp only [List.mem_cons,List.not_mem_nil,or_false] at this
   lia
  have e0:(0:Int) < e:=by lia
  refine ⟨fun m σ' G'=>G'=G/\∃ (q p:Int),σ'=[some (.ref d),some (.bl b),some (.int q),some (.int p),some (.int e)]/\1<=p/\p < q/\q<=9/\ND i p q/\m=q.toNat,⟨_,rfl,q,p,rfl,p1,pq,q9,nd,rfl⟩,?_⟩;rintro m σ' G' ⟨rfl,q,p,rfl,p1,pq,q9,nd,rfl⟩;refine ⟨fun b' G2=>G2=G'/\(b'=true->p % e=0/\q % e=0)/\(b'=false->¬ (p % e=0/\q % e=0)),?_,?_⟩
  ·refine ⟨_,rfl,_,rfl,_,_,rfl,rfl,e0,rfl,_,rfl,?_⟩
   by_cases c:p % e=0
   ·refine bD (ag (show V.int (p % e)=V.int 0 by rw [c])) ⟨_,rfl,_,rfl,_,_,rfl,rfl,e0,rfl,_,rfl,rfl,fun z=>⟨c,?_⟩,fun z=>?_⟩
    ·have z:=ai z;injection z
    ·have z:=uo z;exact fun w=>z (by show V.int (q % e)=V.int 0;rw [w.2])
   ·exact aU (fun z=>c (by have z:=ai z;injection z)) ⟨rfl,(fun z=>nomatch z),fun _ w=>c w.1⟩
  rintro b' G2 ⟨rfl,hb,hb2⟩
  cases b' with
  | true =>
   refine bD rfl ?_;have h0:=hb rfl;have hq:=bZ0 e2.1 h0.1 h0.2 p1 pq;have nd2:=nd.div e0 h0.1 h0.2;refine ⟨fun σ2 G3=>G3=G2/\σ2=[some (.ref d),some (.bl b),some (.int (q / e)),some (.int (p / e)),some (.int e)],?_,?_⟩
   ·rintro σ2 G3 ⟨rfl,rfl⟩;exact ⟨_,by lia,rfl,_,_,rfl,hq.1,hq.2.1,by lia,nd2,rfl⟩
   ·exact ⟨_,rfl,_,rfl,_,_,rfl,rfl,⟨e0,by lia⟩,_,rfl,_,rfl,_,_,rfl,rfl,⟨e0,by lia⟩,rfl,rfl⟩
  | false=>exact aU (by simp) ⟨rfl,_,_,_,rfl,p1,pq,q9,nd.more he (hb2 rfl)⟩
 ·rintro σ G ⟨rfl,q,p,v4,rfl,p1,pq,q9,nd⟩;exact ⟨_,rfl,_,rfl,bM,fun t ht=>k t p q _ (D4.same (aB ht _)) (o4.trans (.of (aB ht _))) aD (ND.cop nd p1 pq q9)⟩
theorem bY8 (C_Draw:Cl P w K mg base 1 spDraw "_law_draw") (m_tuple:mg "tuple"=none) (m_range:mg "range"=none):dZ P w K mg base "_law_sum" "_law_sum" cK2 2 ["_law_deal_here","_law_many"] spSumS:=by
 refine eQ ["_law_deal_here","_law_many"] fun H Q nd hr h=>?_
 obtain ⟨d,l,m,rfl,D,m0,m3,k⟩:=h;refine ⟨_,(@aE _ _ _ (aJ (tQ dC m_tuple eo (aN (cZ ["_law_k","_law_deal_here"] [none,some 0] (dN (by rfl) m_range (aN (pv 1))) (fun _ _ _ _=>(eN 0)) (fun _ _ _ _=>eS) (fun _ _ _ _=>(aZ (cL3 K) (@bK _ _ _ _ (@aA _ _ _ _ _ aC (@aA _ _ _ _ _ aC (@aA _ _ _ _ _ aC (@aA _ _ _ _ _ aC (@aA _ _ _ _ _ aC cD rfl) rfl) rfl) rfl) rfl)) (bG C_Draw hr (aA (pv 1) (aN aC)))))))))),?_⟩;refine ⟨_,rfl,m,rfl,by (exact oqb),by (exact oqc),iJ (n:=m.toNat) (fun i ys σ G=>dX G d l/\eP d l H G/\(∃ v,σ=[v,some (.ref d)])/\∃ ws:List Int,ys=ws.map V.int/\ws.length=i/\∀ y∈ws,0<=y/\y<=3) (aV (by lia)) ⟨D,eP.refl _,⟨_,rfl⟩,[],rfl,rfl,fun _ z=>absurd z au⟩ (by rintro i ys σ G ⟨_,_,_,ws,e,e2,_⟩;rw [e,ac];lia) ?_ ?_⟩
 ·rintro i ys σ G hi ⟨D1,o1,⟨v,rfl⟩,ws,rfl,hl,hb⟩;refine ⟨by show 5<=sizeLine;decide,fun l0 hl0=>?_⟩;have nl:=(cE D1 hl0).2;obtain ⟨H2,e0,s2,h2⟩:=gG hl0 (.lst [.int 0,.int 1,.int 1,.int 2,.int 3]);rw [e0];clear e0;refine ⟨_,rfl,d,l,5,rfl,D1.same s2,by decide,by decide,fun x H3 x0 x1 D3 o3=>?_⟩;obtain ⟨w,hw,w0,w3⟩:=bY2 x0 x1;refine ⟨l0,_,_,.int w,rfl,rfl,bC.of (bA (D1.same s2) h2 nl o3),hw,D3,o1.trans ((eP.of s2).trans o3),⟨_,rfl⟩,ws++[w],by rw [bm];rfl,by rw [am,hl];rfl,fun y hy=>?_⟩;rcases cg.mp hy with z | z
  ·exact hb y z
  ·rw [ax.mp z];exact ⟨w0,w3⟩
 ·rintro ys σ G ⟨D1,o1,_,ws,rfl,hl,hb⟩ lx hlx;exact ⟨lx,_,rfl,.inl ⟨bC.of aD,fun t ht=>k t ws _ ((D1.same (aB hlx _)).same (aB ht _)) (o1.trans (eP.of ((aB hlx _).trans (aB ht _)))) aD hl hb⟩⟩
theorem bN7 (C_Draw:Cl P w K mg base 1 spDraw "_law_draw") (C_Stp:Cl P w K mg base 2 spStp "_law_steep") (C_Sum:Cl P w K mg base 2 spSumS "_law_sum") (m_tuple:mg "tuple"=none) (m_range:mg "range"=none):dZ P w K mg base "_law_throw" "_law_throw" cH0 3 ["_law_deal_here","_law_world","_law_x"] spThrow:=by
 refine eQ ["_law_deal_here","_law_world","_law_x","_law_form","_law_low","_law_high","_law_many","_law_sums","_law_mark"] fun H Q nd hr h=>?_
 obtain ⟨d,l,sc,kvs,x,kd,rfl,D,hsc,wk,nsd,k⟩:=h;have hu:=iR hr;refine ⟨_,(dB 3 nd (bG C_Draw hr (aA (pv 0) (aN aC)))
  (dB 4 nd (bG C_Draw hr (aA (pv 0) (aN aC)))
  (dB 5 nd (aK cB (pv 4) (bG C_Draw hr (aA (pv 0) (aN (aK cB (tF hu (pv 1) aH) aC)))))
  (dB 6 nd (tF hu (pv 1) aH)
  (dB 7 nd (tQ dC m_tuple eo (aN (cZ ["_law_k","_law_deal_here","_law_many"] [none,some 0,some 6] (dN (by rfl) m_range (aN (aK cB aC (bG C_Draw hr (aA (pv 0) (aN aC)))))) (fun _ _ _ _=>(eN 0)) (fun _ _ _ _=>eS) (fun _ _ _ _=>(bG C_Sum hr (aA (pv 1) (aN (pv 2))))))))
  (aF (bB (eT nK (pv 3) aC) (aE (aJ (aM (aA aH (aA (pv 2) (aA (aZ aG (pv 7) aC) (aA (bG C_Stp hr (aA (pv 0) (aN rZ))) (aA (pv 4) (aN (pv 5)))))))))) aR)
  (aF (bB (eT cH (pv 3) aC) (aE (aJ (aM (aA aH (aA (pv 2) (aA (aZ aG (pv 7) aC) (aA (bG C_Draw hr (aA (pv 0) (aN aC))) (aA (pv 4) (aN (pv 5)))))))))) aR)
  (aF (bB (eT cH (pv 3) aC) (aE (aJ (aM (aA aH (aA (pv 2) (aA (pv 7) (aA (bG C_Stp hr (aA (pv 0) (aN rZ))) (aA (pv 4) (aN (pv 5)))))))))) aR)
  (dB 8 nd (aK cB (pv 4) (bG C_Draw hr (aA (pv 0) (aN (aK cB (aK cV (pv 5) (pv 4)) aC)))))
  (aE (aJ (aM (aA aH (aA (pv 2) (aA (pv 8) (aA (bG C_Stp hr (aA (pv 0) (aN rZ))) (aA (bG C_Stp hr (aA (pv 0) (aN rZ))) (aA (pv 7) (aA (pv 4) (aN (aK cB (pv 5) aC))))))))))))))))))))),?_⟩
 obtain ⟨⟨wi,ww,wi0,wi6⟩,hkd,kd0,kd3⟩:=wk;have nsl:sc≠l:=by obtain ⟨sd,n,ls,z⟩:=D;exact dD hsc z.lc (by intro z;cases z)
 refine ⟨_,rfl,d,l,5,rfl,D,by decide,by decide,fun fo H1 f0 f1 D1 o1=>?_⟩;refine ⟨_,rfl,d,l,3,rfl,D1,by decide,by decide,fun lo H2 a0 a1 D2 o2=>?_⟩;have sc2:=(o1.trans o2) _ _ hsc nsd nsl;have g1:dG H2 sc (.str "wide") (some (.int wi)):=by rw [<- ww];exact dG.k (k:=Sum.inr "wide") sc2
 refine ⟨_,rfl,_,rfl,_,rfl,sc,_,rfl,g1,_,_,rfl,rfl,d,l,wi+1,rfl,D2,by lia,by lia,fun u H3 b0 b1 D3 o3=>⟨_,_,rfl,rfl,?_⟩⟩;have oA:=o1.trans (o2.trans o3);have sc3:=oA _ _ hsc nsd nsl;have g2:dG H3 sc (.str "kinds") (some (.int kd)):=by rw [<- hkd];exact dG.k (k:=Sum.inr "kinds") sc3
 dsimp only
 generalize hhi:lo+u=hi;refine ⟨_,rfl,sc,_,rfl,g2,?_⟩;refine ⟨_,rfl,d,l,4,rfl,D3,by decide,by decide,fun n4 H4 e0 e1 D4 o4=>⟨_,_,rfl,rfl,?_⟩⟩;have oB:=oA.trans o4;refine ⟨1+n4,rfl,by lia,by lia,iJ (n:=(1+n4).toNat) (fun i ys σ G=>dX G d l/\eP d l H G/\(∃ v,σ=[v,some (.ref d),some (.int kd)])/\∃ wss:List (List Int),cO (pG G) ys wss/\wss.length=i/\∀ ws∈wss,ws.length=kd.toNat/\∀ y∈ws,0<=y/\y<=3) (aV (by lia)) ⟨D4,oB,⟨_,rfl⟩,[],trivial,rfl,fun _ z=>absurd z au⟩ (by rintro i ys σ G ⟨_,_,_,wss,e,e2,_⟩;rw [e.length];lia) ?_ ?_⟩
 ·rintro i ys σ G hi ⟨D5,o5,⟨v,rfl⟩,wss,tw,hl,hb⟩;refine ⟨_,rfl,_,rfl,d,l,kd,rfl,D5,kd0,kd3,fun p6 ws6 H6 D6 o6 h6 l6 b6=>⟨D6,o5.trans o6,⟨_,rfl⟩,wss++[ws6],cO.append (tw.mono fun _ _ z=>z.ts (TS.out D5 o6)) ⟨⟨p6,rfl,h6⟩,trivial⟩,by rw [am,hl];rfl,fun ws hw=>?_⟩⟩;rcases cg.mp hw with z | z
  ·exact hb ws z
  ·rw [ax.mp z];exact ⟨l6,b6⟩
 rintro ys σ G ⟨D5,o5,_,wss,tw,hl,hb⟩ lx hlx;refine ⟨lx,ys,rfl,.inl ⟨bC.of aD,fun t6 ht6=>?_⟩⟩;have s6:=(aB hlx (.lst ys)).trans (aB ht6 (.tup ys));have h6:aQ (aQ G lx (.lst ys)) t6 (.tup ys) t6=some (.tup ys):=aD;have D6:=D5.same s6;have o6:=o5.trans (eP.of (d:=d) (l:=l) s6);have tw6:cO (pG (aQ (aQ G lx (.lst ys)) t6 (.tup ys))) ys wss:=tw.mono fun _ _ z=>z.ts (.of s6)
 generalize aQ (aQ G lx (.lst ys)) t6 (.tup ys)=H6 at D6 o6 h6 tw6 ⊢;have l14:1<=wss.length/\wss.length<=4:=by lia
 obtain ⟨w0,wr,rfl⟩:=aD7 l14.1;obtain ⟨y0,yr,rfl⟩:∃ y0 yr,ys=y0 :: yr:=by
  cases ys with
  | nil=>exact tw6.elim
  | cons a b=>exact ⟨a,b,rfl⟩
 obtain ⟨⟨ya,rfl,hya⟩,_⟩:=id tw6;have hb0:=hb w0 ao;have one:∀ ws∈[w0],ws.length=kd.toNat/\∀ y∈ws,0<=y/\y<=3:=fun ws hw=>by rw [ax.mp hw];exact hb0
 have ekd:((kd.toNat:Nat):Int)=kd:=by lia
 refine ⟨_,rfl,_,_,rfl,rfl,_,rfl,?_⟩
 by_cases c0:fo < 2
 ·refine bD (ag c0) ?_;refine ⟨_,rfl,_,rfl,t6,_,_,.ref ya,rfl,rfl,aO.of h6,jQ,_,rfl,d,l,false,rfl,D6,fun p7 a7 c7 H7 D7 o7 t7 cop7=>⟨_,rfl,_,rfl,by show 6<=sizeLine;decide,fun p hp=>?_⟩⟩;exact k p "ladder" ⟨[.ref ya,.ref p7,.int lo,.int hi],.lad a7 c7 lo hi,[w0],kd.toNat⟩ _ (D7.same (aB hp _)) (o6.trans (o7.trans (eP.of (aB hp _)))) aD ⟨rfl,cop7,⟨ya,w0,p7,rfl,rfl,(aB hp _) _ _ (TS.out D6 o7 _ _ hya),(aB hp _) _ _ t7⟩,⟨by show 1<=1;decide,by show 1<=4;decide,one⟩⟩ ekd
 refine aU (by simpa using c0) ?_;refine ⟨_,rfl,rfl,_,rfl,?_⟩
 by_cases c1:fo=2
 ·refine bD (by rw [c1];exact ag rfl) ?_;refine ⟨_,rfl,_,rfl,t6,_,_,.ref ya,rfl,rfl,aO.of h6,jQ,_,rfl,d,l,5,rfl,D6,by decide,by decide,fun y H7 yy0 yy1 D7 o7=>⟨_,rfl,_,rfl,by show 6<=sizeLine;decide,fun p hp=>?_⟩⟩;exact k p "flat" ⟨[.ref ya,.int y,.int lo,.int hi],.fla y lo hi,[w0],kd.toNat⟩ _ (D7.same (aB hp _)) (o6.trans (o7.trans (eP.of (aB hp _)))) aD ⟨rfl,⟨yy0,by lia⟩,⟨ya,w0,rfl,rfl,(aB hp _) _ _ (TS.out D6 o7 _ _ hya)⟩,⟨by show 1<=1;decide,by show 1<=4;decide,one⟩⟩ ekd
 refine aU (fun z=>c1 (by have z:=ai z;injection z)) ?_;refine ⟨_,rfl,rfl,_,rfl,?_⟩
 by_cases c2:fo=3
 ·refine bD (by rw [c2];exact ag rfl) ?_;refine ⟨_,rfl,_,rfl,_,rfl,d,l,false,rfl,D6,fun p7 a7 c7 H7 D7 o7 t7 cop7=>⟨_,rfl,_,rfl,by show 6<=sizeLine;decide,fun p hp=>?_⟩⟩;have tt:=(TS.out D6 o7).trans (TS.of (aB hp (.tup [.str "choose",.str x,.ref t6,.ref p7,.int lo,.int hi])));exact k p "choose" ⟨[.ref t6,.ref p7,.int lo,.int hi],.cho a7 c7 lo hi,w0 :: wr,kd.toNat⟩ _ (D7.same (aB hp _)) (o6.trans (o7.trans (eP.of (aB hp _)))) aD ⟨rfl,cop7,⟨t6,_,p7,rfl,tt _ _ h6,tw6.mono fun _ _ z=>z.ts tt,(aB hp _) _ _ t7⟩,⟨l14.1,l14.2,hb⟩⟩ ekd
 refine aU (fun z=>c2 (by have z:=ai z;injection z)) ?_;refine ⟨_,rfl,_,rfl,_,rfl,_,rfl,_,_,rfl,rfl,_,_,rfl,rfl,d,l,_,rfl,D6,by lia,by lia,fun mk H7 g0 g1 D7 o7=>⟨_,_,rfl,rfl,?_⟩⟩;refine ⟨_,rfl,_,rfl,_,rfl,d,l,false,rfl,D7,fun p8 a8 c8 H8 D8 o8 t8 cop8=>⟨_,rfl,d,l,true,rfl,D8,fun p9 a9 c9 H9 D9 o9 t9 cop9=>⟨_,rfl,_,rfl,_,rfl,_,_,rfl,rfl,by show 8<=sizeLine;decide,fun p hp=>?_⟩⟩⟩;have sz:=aB hp (.tup [.str "first",.str x,.int (lo+mk),.ref p8,.ref p9,.ref t6,.int lo,.int (hi+1)]);have t89:=(TS.out D8 o9).trans (TS.of sz);have tt:=(TS.out D6 o7).trans ((TS.out D7 o8).trans t89);exact k p "first" ⟨[.int (lo+mk),.ref p8,.ref p9,.ref t6,.int lo,.int (hi+1)],.fst a8 c8 a9 c9 (lo+mk) lo (hi+1),w0 :: wr,kd.toNat⟩ _ (D9.same sz) (o6.trans (o7.trans (o8.trans (o9.trans (eP.of sz))))) aD ⟨rfl,⟨cop8,cop9,by lia,by lia⟩,⟨t6,_,p8,p9,rfl,tt _ _ h6,tw6.mono fun _ _ z=>z.ts tt,t89 _ _ t8,sz _ _ t9⟩,⟨l14.1,l14.2,hb⟩⟩ ekd
theorem bY0 (n:Nat) (C_Trm:Cl P w K mg base (n+1) (bA8 n) "_law_term") (C_Draw:Cl P w K mg base 1 spDraw "_law_draw") (m_len:mg "len"=none):dZ P w K mg base "_law_term" "_law_term" cD9 (n+1+1) ["_law_deal_here","_law_known","_law_room"] (bA8 (n+1)):=by
 refine eQ ["_law_deal_here","_law_known","_law_room","_law_left","_law_one"] fun H Q nd hr h=>?_
 obtain ⟨d,l,kn,ks,room,rfl,D,hk,nk,lk,r1,r64,r2,k⟩:=h;refine ⟨_,(aF (bB (gH (PW.pt (vJ (eT nK (pv 2) aC) (oP (eT cH (bG C_Draw hr (aA (pv 0) (aN aC))) aC))))) (aF (bB (gH (PW.pt (iG (eT kM (mO bO m_len gb (aN (pv 1))) aC) (gZ (eT kM (bG C_Draw hr (aA (pv 0) (aN aC))) aC))))) (aE (aJ (aM (aA aH (aN (aZ bQ (pv 1) (bG C_Draw hr (aA (pv 0) (aN (mO bO m_len gb (aN (pv 1)))))))))))) aR)
  (aE (aJ (aM (aA aH (aN (bG C_Draw hr (aA (pv 0) (aN (aZ bQ (bK (aA aC (aA aC (aN aC)))) (bG C_Draw hr (aA (pv 0) (aN aC))))))))))))) aR)
  (dB 3 nd (aK cB aC (bG C_Draw hr (aA (pv 0) (aN (aK cV (pv 2) aC)))))
  (dB 4 nd (bG C_Trm hr (aA (pv 0) (aA (pv 1) (aN (pv 3)))))
  (aE (aJ (aM (aA aH (aA (aZ vY aH (bG C_Draw hr (aA (pv 0) (aN aC)))) (aA (pv 4) (aN (bG C_Trm hr (aA (pv 0) (aA (pv 1) (aN (aK cV (aK cV (pv 2) aC) (pv 3)))))))))))))))),?_⟩
 refine ⟨fun b G=>dX G d l/\eP d l H G/\(b=false->3<=room),?_,?_⟩
 ·refine ⟨_,rfl,_,_,rfl,rfl,_,rfl,?_⟩
  by_cases c1:room < 3
  ·exact bD (ag c1) ⟨D,eP.refl _,fun z=>nomatch z⟩
  ·exact aU (by simpa using c1) ⟨_,rfl,d,l,3,rfl,D,by decide,by decide,fun x H1 x0 x1 D1 o1=>⟨rfl,_,rfl,D1,o1,fun _=>by lia⟩⟩
 rintro b G ⟨D1,o1,hb⟩;have hk1:=bA D hk nk o1
 cases b with
 | false =>
  refine aU (by simp) ?_;have c1:=hb rfl
  cases n with
  | zero=>exact absurd c1 (by lia)
  | succ n =>
  refine ⟨_,rfl,_,rfl,_,_,rfl,rfl,d,l,room - 2,rfl,D1,by lia,by lia,fun x H2 x0 x1 D2 o2=>⟨_,_,rfl,rfl,?_⟩⟩;have hk2:=bA D1 hk1 nk o2;refine ⟨_,rfl,_,rfl,_,rfl,d,l,kn,ks,1+x,rfl,D2,hk2,nk,lk,by lia,by lia,by lia,fun t1 H3 D3 o3 h3 nm3 sz3=>?_⟩;have hk3:=bA D2 hk2 nk o3;refine ⟨_,rfl,d,l,5,rfl,D3,by decide,by decide,fun y H4 y0 y1 D4 o4=>?_⟩;obtain ⟨c,hc,hs⟩:=bP7 y0 y1;have hk4:=bA D3 hk3 nk o4;refine ⟨_,y,c,rfl,rfl,by decide,hc,_,rfl,_,rfl,_,rfl,_,rfl,_,_,rfl,rfl,_,rfl,_,_,rfl,rfl,d,l,kn,ks,room - 1 - (1+x),rfl,D4,hk4,nk,lk,by lia,by lia,by lia,fun t2 H5 D5 o5 h5 nm5 sz5=>⟨by show 4<=sizeLine;decide,fun p hp=>?_⟩⟩;have s6:=aB hp (.tup [.str "op",.str ⟨#[c]⟩,.ref t1.p,.ref t2.p]);have t15:=(TS.out D3 o4).trans ((TS.out D4 o5).trans (.of s6));refine k (.op p ⟨#[c]⟩ t1 t2) _ (D5.same s6) (o1.trans (o2.trans (o3.trans (o4.trans (o5.trans (.of s6)))))) ⟨aD,h3.ts t15,h5.ts (.of s6)⟩ (fun z hz=>?_) ?_
  ·rcases cg.mp hz with q | q
   ·exact nm3 z q
   ·exact nm5 z q
  ·simp only [Tm.size];lia
 | true =>
  refine bD rfl ?_;refine ⟨fun b G'=>dX G' d l/\eP d l H G'/\(b=true->0 < ks.length),?_,?_⟩
  ·refine ⟨_,rfl,kn,_,rfl,.inl (bC.of hk1),_,_,rfl,rfl,_,rfl,?_⟩
   by_cases c:(0:Int) < ((ks.map V.str).length:Int)
   ·refine bD (ag c) ⟨_,rfl,d,l,4,rfl,D1,by decide,by decide,fun x H2 x0 x1 D2 o2=>⟨_,_,rfl,rfl,_,rfl,D2,o1.trans o2,fun _=>by rw [ac] at c;lia⟩⟩
   ·exact aU (by simpa using c) ⟨D1,o1,fun z=>nomatch z⟩
  rintro b G2 ⟨D2,o2,hb2⟩;have hk2:=bA D hk nk o2
  cases b with
  | true =>
   have kp:=hb2 rfl;refine bD rfl ?_;refine ⟨_,rfl,_,rfl,_,rfl,kn,_,rfl,.inl (bC.of hk2),d,l,_,rfl,D2,by rw [ac];lia,by rw [ac];(exact oqq),fun x H3 x0 x1 D3 o3=>?_⟩;obtain ⟨v,hv,ha⟩:=aY0 x0 x1;obtain ⟨y,rfl,hy⟩:=pY hv;refine ⟨kn,_,_,.str y,rfl,rfl,bC.of (bA D2 hk2 nk o3),ha,bM,fun p hp=>?_⟩;have s4:=aB hp (.tup [.str "name",.str y]);refine k (.nam p y) _ (D3.same s4) (o2.trans (o3.trans (.of s4))) aD (fun z hz=>?_) (by simp only [Tm.size];(exact oqb));rw [ax.mp hz];exact be hy
  | false =>
   refine aU (by simp) ?_;refine ⟨_,rfl,by show 3<=sizeLine;decide,fun l0 hl0=>?_⟩;have n0:=(cE D2 hl0).2;obtain ⟨H3,e0,s3,h3⟩:=gG hl0 (.lst [.int 4,.int 4,.int 1000]);rw [e0];clear e0;refine ⟨_,rfl,d,l,3,rfl,D2.same s3,by decide,by decide,fun x H4 x0 x1 D4 o4=>?_⟩;obtain ⟨w,hw,hc⟩:=aR5 (x:=4) (y:=4) (z:=1000) x0 x1;refine ⟨l0,_,_,.int w,rfl,rfl,bC.of (bA (D2.same s3) h3 n0 o4),hw,d,l,w,rfl,D4,by lia,by lia,fun y H5 y0 y1 D5 o5=>⟨bM,fun p hp=>?_⟩⟩;have s6:=aB hp (.tup [.str "num",.int y]);exact k (.num p y) _ (D5.same s6) (o2.trans ((eP.of s3).trans (o4.trans (o5.trans (.of s6))))) aD (fun z hz=>absurd hz au) (by simp only [Tm.size];(exact oqb))
theorem wO (m:Nat) (C_Draw:Cl P w K mg base 1 spDraw "_law_draw") (C_Trm:Cl P w K mg base 8 (bA8 7) "_law_term") (C_Rws:Cl P w K mg base (9+2 * m) (bF6 m) "_law_rows") (C_Thw:Cl P w K mg base 3 spThrow "_law_throw") (m_int:mg "int"=none) (m_len:mg "len"=none):dZ P w K mg base "_law_row" "_law_row" cG5 (9+2 * m+1) ["_law_deal_here","_law_world","_law_known","_law_deep","_law_often"] (aY2 m):=by
 refine eQ ["_law_deal_here","_law_world","_law_known","_law_deep","_law_often","_law_form","_law_x","_law_many","_law_quiet","_law_term_here","_law_one","_law_ones","_law_other","_law_others","_law_k","_law_rows_here"] fun H Q nd hr h=>?_
 obtain ⟨d,l,sc,nl,kn,xs,ks,kd,lf,deep,often,rfl,W0,of1,hk,nk,kx,lk,hm,hd,k⟩:=h;have hu:=iR hr;refine ⟨_,(dB 5 nd (bG C_Draw hr (aA (pv 0) (aN aC)))
  (dB 6 nd (aZ bQ (tF hu (pv 1) aH) (bG C_Draw hr (aA (pv 0) (aN (mO bO m_len gb (aN (tF hu (pv 1) aH)))))))
  (dB 7 nd (aK gP (bG C_Draw hr (aA (pv 0) (aN aC))) (tQ fY m_int ip (aN (aF2 (tF hu (pv 1) aH)))))
  (aF (bB (gH (PW.pt (iG (eT nK (pv 5) aC) (gZ (eT yN (tF hu (pv 1) aH) (pv 4)))))) (aF (pdp hu (pv 1) aH (aK cV (tF hu (pv 1) aH) (pv 4)))
  (aE (aJ (aM (aA (bG C_Thw hr (aA (pv 0) (aA (pv 1) (aN (pv 6))))) (aN (aK gQ (pv 2) (bK (aN (pv 6)))))))))) aR)
  (aF (bB (gH (PW.pt (iG (eT cH (pv 5) aC) (iG (eT kM (pv 3) aC) (gZ (eT yN (tF hu (pv 1) aH) (aK gP aC (pv 7)))))))) (dB 8 nd (tF hu (pv 1) aH)
  (aF (pdp hu (pv 1) aH rZ)
  (aF (pdp hu (pv 1) aH (aK cV (tF hu (pv 1) aH) (aK gP aC (pv 7))))
  (dB 9 nd (bG C_Trm hr (aA (pv 0) (aA (pv 2) (aN aC))))
  (aF (gC (bG C_Rws hr (aA (pv 0) (aA (pv 1) (aA (pv 2) (aA (aK cV (pv 3) aC) (aA (pv 7) (aN (pv 4)))))))) (eV rfl (aX (eN 10 nd) (aX (eN 11 nd) dP))))
  (aF (gC (bG C_Rws hr (aA (pv 0) (aA (pv 1) (aA (pv 2) (aA (aK cV (pv 3) aC) (aA (pv 7) (aN (pv 4)))))))) (eV rfl (aX (eN 12 nd) (aX (eN 13 nd) dP))))
  (aF (pdp hu (pv 1) aH (pv 8))
  (aE (aJ (aM (aA (aM (aA aH (aA (pv 9) (aA (pv 10) (aN (pv 12)))))) (aN (cZ ["_law_y","_law_others"] [none,some 13] (bX (pv 11)) (fun _ _ _ _=>(eN 0)) (fun _ _ _ _=>(qP (eT (inK K) (pv 0) (pv 1)))) (fun _ _ _ _=>(pv 0))))))))))))))) aR)
  (aF (bB (gH (PW.pt (iG (eT cH (pv 5) aC) (iG (eT kM (pv 3) aC) (gZ (eT yN (tF hu (pv 1) aH) (pv 7))))))) (dB 14 nd (aK cB aC (bG C_Draw hr (aA (pv 0) (aN (aZ bQ (bK (aA aC (aN aC))) (wF (tQ fY m_int ip (aN (mL (pec kM (pv 4) aC) (mJ (pec nK (tF hu (pv 1) aH) aC)))))))))))
  (aF (pdp hu (pv 1) aH (aK cV (tF hu (pv 1) aH) (pv 7)))
  (aF (gC (bG C_Rws hr (aA (pv 0) (aA (pv 1) (aA (pv 2) (aA (aK cV (pv 3) aC) (aA (pv 7) (aN (aK gP (pv 4) (pv 14))))))))) (eV rfl (aX (eN 15 nd) (aX (eN 2 nd) dP))))
  (aE (aJ (aM (aA (aM (aA aH (aA (pv 14) (aN (pv 15))))) (aN (pv 2))))))))) aR)
  (aE (aJ (aM (aA (aM (aA aH (aA (pv 6) (aN (bG C_Trm hr (aA (pv 0) (aA (pv 2) (aN (aK cB aC (bG C_Draw hr (aA (pv 0) (aN aC)))))))))))) (aN (aK gQ (pv 2) (bK (aN (pv 6))))))))))))))),?_⟩
 have pp:=aV0 m;refine ⟨_,rfl,d,l,9,rfl,W0.deal,by decide,by decide,fun fo H1 f0 f1 D1 o1=>?_⟩;have W1:=W0.out D1 o1;refine ⟨_,rfl,sc,_,rfl,W1.get_names,_,rfl,_,rfl,sc,_,rfl,W1.get_names,nl,_,rfl,.inl (bC.of W1.nms),d,l,_,rfl,W1.deal,by rw [ac];have:=W1.x1;lia,by rw [ac];have:=W1.x2;(exact oqq),fun y H2 y0 y1 D2 o2=>?_⟩;obtain ⟨v,hv,ha⟩:=aY0 y0 y1;obtain ⟨x,rfl,hx⟩:=pY hv;have mx:x∈xs:=be hx;have W2:=W1.out D2 o2;refine ⟨nl,_,_,.str x,rfl,rfl,bC.of W2.nms,ha,?_⟩;clear hv ha hx y0 y1 f0 f1;refine ⟨_,rfl,d,l,2,rfl,W2.deal,by decide,by decide,fun mm H3 m0 m1 D3 o3=>?_⟩;have W3:=W2.out D3 o3;obtain ⟨qb,gq⟩:=W3.get_quiet;have oA:jT [d,l,sc] H H3:=(jT.out (sc:=sc) o1).trans ((jT.out (sc:=sc) o2).trans (jT.out (sc:=sc) o3));have hk3:=W0.keep hk nk oA;refine ⟨_,rfl,sc,_,rfl,gq,qb,rfl,.inr ⟨_,rfl,_,_,rfl,rfl,.inl ⟨by (exact oqe),by lia⟩,?_⟩⟩;have hM:0<=mm * (if (!qb)=true then 1 else 0)/\mm * (if (!qb)=true then 1 else 0)<=1:=by cases qb <;> simp <;> lia
 dsimp only
 generalize mm * (if (!qb)=true then 1 else 0)=many at hM ⊢;obtain ⟨a0,a1⟩:=hM;clear gq W1 W2 D1 D2 D3 o1 o2 o3 m0 m1;have mb:bE9 2 many:= .inl ⟨by decide,by decide⟩;have lf0:=W3.lf0;refine ⟨fun b G=>G=H3/\(b=true->often<=lf),?_,?_⟩
 ·have gl:=W3.get_left;exact ⟨_,rfl,_,_,rfl,rfl,_,rfl,nL (fun _=>⟨_,rfl,sc,_,rfl,gl,_,rfl,_,_,rfl,rfl,_,rfl,rfl,fun z=>ai z⟩) (fun _=>⟨rfl,fun z=>nomatch z⟩)⟩
 rintro b G ⟨rfl,hbl⟩
 cases b with
 | true =>
  refine bD rfl ?_;have gl:=W3.get_left;have lo:=hbl rfl;obtain ⟨kv4,dp4,W4,o4⟩:=W3.put_left (lf - often) (by (exact oqn));refine ⟨_,rfl,sc,_,rfl,gl,_,rfl,_,_,rfl,rfl,_,rfl,sc,_,rfl,dp4,?_⟩;have hk4:=W3.keep hk3 nk o4;generalize aQ G sc (.dK kv4)=H4 at W4 o4 hk4 ⊢;obtain ⟨kvs,hsc,wk⟩:=W4.scn;refine ⟨_,rfl,_,rfl,_,rfl,d,l,sc,kvs,x,kd,rfl,W4.deal,hsc,⟨⟨4,wk.wd,by decide,by decide⟩,wk.kd⟩,W4.ne1,fun pt w ws H5 D5 o5 h5 ok5 ekd=>?_⟩;have W5:=W4.out D5 o5;have hk5:=bA W4.deal hk4 nk o5;have oB:=oA.trans (o4.trans (jT.out (sc:=sc) o5));refine ⟨_,rfl,_,rfl,jF,fun l6 hl6=>?_⟩;obtain ⟨H6,e0,s6,h6⟩:=gG hl6 (.lst [.str x]);rw [e0];clear e0;refine ⟨kn,l6,_,_,rfl,rfl,s6 _ _ hk5,h6,bu (eI (by rw [ac];show ks.length+1<=_;lia)),fun l7 hl7=>⟨bM,fun p hp=>?_⟩⟩;have n7:H l7=none:=oB.fresh W5.all (s6.free hl7);have n7l:=(cE (W5.deal.same s6) hl7).2;have s7:=s6.trans ((aB hl7 (.lst (ks.map V.str++[.str x]))).trans (aB hp (.tup [.ref pt,.ref l7])))
  refine k p l7 (.thr pt w x ws) (ks++[x]) _ _ (W5.same s7) (by simp only [nZ];lia) (jR.one ekd jR.nil) (oB.trans (.of s7)) aD ⟨s7 _ _ h5,ok5.ts (.of s7)⟩ pp (bj _) (lO.one (fun t ht=>absurd ht au) lO.nil) (.inr n7) n7l ?_ (fun y hy=>?_) (by rw [am];show ks.length+1<=_;lia)
  ·rw [(aB hp (.tup [.ref pt,.ref l7])) _ _ aD,bm];rfl
  ·rcases cg.mp hy with e | e
   ·exact kx y e
   ·rw [ax.mp e];exact mx
 | false =>
 refine aU (by simp) ?_;refine ⟨fun b G'=>G'=G/\(b=true->0 < deep),?_,?_⟩
 ·obtain ⟨rm,gr⟩:=W3.get_room;refine ⟨_,rfl,rfl,_,rfl,nL (fun _=>⟨_,rfl,_,_,rfl,rfl,_,rfl,?_⟩) (fun _=>⟨rfl,fun z=>nomatch z⟩)⟩
  by_cases c:0 < deep
  ·exact bD (ag c) ⟨_,rfl,sc,_,rfl,gr,_,rfl,_,_,rfl,rfl,mb,_,_,rfl,rfl,_,rfl,rfl,fun _=>c⟩
  ·exact aU (by simpa using c) ⟨rfl,fun z=>nomatch z⟩
 rintro b G' ⟨rfl,hb⟩
 cases b with
 | true =>
  refine bD rfl ?_;have d0:=hb rfl
  cases m with
  | zero=>exact absurd d0 (by lia)
  | succ m =>
  have cl:=bC2 m;simp only [pb] at lk;obtain ⟨q4,g4⟩:=W3.get_quiet;obtain ⟨kv4,dp4,W4,o4⟩:=W3.put_quiet true;refine ⟨_,rfl,sc,_,rfl,g4,_,rfl,sc,_,rfl,dp4,?_⟩;have hk4:=W3.keep hk3 nk o4;generalize aQ G' sc (.dK kv4)=H4 at W4 o4 hk4 ⊢;obtain ⟨rm,gr⟩:=W4.get_room;obtain ⟨kv5,dp5,W5,o5⟩:=W4.put_room (rm - 2 * many);refine ⟨_,rfl,sc,_,rfl,gr,_,rfl,_,_,rfl,rfl,mb,_,_,rfl,rfl,_,rfl,sc,_,rfl,dp5,?_⟩;have hk5:=W4.keep hk4 nk o5;generalize aQ H4 sc (.dK kv5)=H5 at W5 o5 hk5 ⊢;refine ⟨_,rfl,_,rfl,d,l,kn,ks,5,rfl,W5.deal,hk5,nk,by lia,by decide,by decide,by decide,fun t H6 D6 o6 h6 nm6 sz6=>?_⟩;have W6:=W5.out D6 o6;have hk6:=bA W5.deal hk5 nk o6;have oB:=oA.trans (o4.trans (o5.trans (jT.out (sc:=sc) o6)));refine ⟨_,rfl,_,rfl,_,rfl,_,rfl,_,_,rfl,rfl,_,rfl,_,rfl,d,l,sc,nl,kn,xs,ks,kd,_,deep - 1,many,often,rfl,W6,of1,hk6,nk,kx,by lia,by assumption,by (exact oqa),by (exact oqC),by lia,fun p7 pr7 kn7 rs7 k7 lf7 H7 W7 le7 kd7 o7 h7 hp7 hr7 c7 dd7 ok7 q7 n7 hk7 kx7 kl7=>?_⟩
  refine ⟨p7,_,rfl,aO.of h7,rfl,_,_,rfl,_,_,rfl,rfl,?_⟩;have hkk7:=W6.keep hk6 nk o7;refine ⟨_,rfl,_,rfl,_,rfl,_,rfl,_,_,rfl,rfl,_,rfl,_,rfl,d,l,sc,nl,kn,xs,ks,kd,_,deep - 1,many,often,rfl,W7,of1,hkk7,nk,kx,by lia,by assumption,by (exact oqa),by (exact oqC),by lia,fun p8 pr8 kn8 rs8 k8 lf8 H8 W8 le8 kd8 o8 h8 hp8 hr8 c8 dd8 ok8 q8 n8 hk8 kx8 kl8=>?_⟩;refine ⟨p8,_,rfl,aO.of h8,rfl,_,_,rfl,_,_,rfl,rfl,?_⟩;have ts78:=W7.ts o8;have hk78:=W7.keep hk7 n7 o8;obtain ⟨kv9,dp9,W9,o9⟩:=W8.put_quiet q4;refine ⟨_,rfl,_,rfl,sc,_,rfl,dp9,?_⟩;have ts89:=W8.ts o9;have hk79:=W8.keep hk78 n7 o9;have hk89:=W8.keep hk8 n8 o9;have oC:=oB.trans (o7.trans (o8.trans o9));have tm9:=h6.ts (((W6.ts o7).trans ts78).trans ts89);have hp79:=(ts78.trans ts89) _ _ hp7;have hp89:=ts89 _ _ hp8;have hr79:=bN.ts (ts78.trans ts89) _ hr7;have hr89:=bN.ts ts89 _ hr8;clear hr7 hr8 hp7 hp8 h7 h8 dp9 o9 ts89 ts78;generalize aQ H8 sc (.dK kv9)=H9 at W9 hk79 hk89 oC tm9 hp79 hp89 hr79 hr89 ⊢
  refine ⟨_,rfl,_,rfl,_,rfl,by show 4<=sizeLine;decide,fun q hq=>?_⟩;obtain ⟨H10,e0,s10,h10⟩:=gG hq (.tup [.str "when",.ref t.p,.ref pr7,.ref pr8]);rw [e0];clear e0;refine ⟨_,rfl,kn7,rfl,⟨_,bC.of (s10 _ _ hk79)⟩,dL (K:=K) (a:=kn7) (xs:=k7.map V.str) (fun i ys σ G=>G=H10/\(∃ v,σ=[v,some (.ref kn8)])/\ys=((k7.take i).filter fun x=>decide (x∈k8)).map V.str)
   (eI (by rw [ac];lia)) ⟨rfl,⟨_,rfl⟩,rfl⟩ (fun i ys σ G ⟨_,_,e⟩=>by
    rw [e,ac];exact cu (jm _ _) (by rw [cp];lia)) (by rintro i ys σ G _ ⟨e,_⟩;rw [e];exact bC.of (s10 _ _ hk79)) ?_ ?_⟩
  ·rintro i v ys σ G hv ⟨rfl,⟨v',rfl⟩,rfl⟩;obtain ⟨x,rfl,hx⟩:=pY hv;refine ⟨_,rfl,_,rfl,kn8,_,rfl,.inl (bC.of (s10 _ _ hk89)),rfl,eA _,_,rfl,?_⟩;have ei:mU (V.str x) (k8.map V.str)=decide (x∈k8):=bW _ _;rw [aT hx,uq,bm]
   by_cases c:x∈k8
   ·refine bD (ei.trans (ag c)) ⟨_,rfl,rfl,⟨_,rfl⟩,?_⟩;rw [en (p:=fun x=>decide (x∈k8)) (ag c)];rfl
   ·refine aU (fun z=>c (ai (ei.symm.trans z))) ⟨rfl,⟨_,rfl⟩,?_⟩;rw [ej (p:=fun x=>decide (x∈k8)) (by simpa using c)];simp
  rintro ys σ G ⟨rfl,_,rfl⟩ l7 hl7;rw [ac,bv];have fl:=jm (fun x=>decide (x∈k8)) k7;have fm:∀ y∈k7.filter (fun x=>decide (x∈k8)),y∈xs:=fun y hy=>kx7 y (qc.mp hy).1
  generalize k7.filter (fun x=>decide (x∈k8))=kz at fl fm ⊢;have s11:=aB hl7 (.lst (kz.map V.str));have h11:aQ G l7 (.lst (kz.map V.str)) l7=some (.lst (kz.map V.str)):=aD;have n11:H l7=none:=oC.fresh W9.all (s10.free hl7);have n11l:=(cE (W9.deal.same s10) hl7).2;generalize aQ G l7 (.lst (kz.map V.str))=H11 at s11 h11 ⊢;refine ⟨bM,fun p hp=>?_⟩;have s12:=s10.trans (s11.trans (aB hp (.tup [.ref q,.ref l7])));have s13:=s11.trans (aB hp (.tup [.ref q,.ref l7]));refine k p l7 (.when q pr7 pr8 t rs7 rs8) kz _ _ (W9.same s12) (by simp only [nZ];rw [wp,Int.mul_add];lia) (jR.one trivial (jR.app kd7 kd8)) (oC.trans (.of s12)) aD ⟨s13 _ _ h10,tm9.ts (.of s12),s12 _ _ hp79,s12 _ _ hp89,bN.ts (.of s12) _ hr79,bN.ts (.of s12) _ hr89⟩ ?_ ?_ (lO.one (fun t' ht=>?_) (lO.app ok7 ok8)) (.inr n11) n11l ((aB hp _) _ _ h11) fm ?_
  ·simp only [Rw.cnt,pb];lia
  ·simp only [tG];lia
  ·rw [ax.mp ht];exact ⟨by lia,fun y hy=>kx y (nm6 y hy)⟩
  ·simp only [pb];lia
 | false =>
 refine aU (by simp) ?_;refine ⟨fun b G=>G=G'/\(b=true->0 < deep),?_,?_⟩
 ·obtain ⟨rm,gr⟩:=W3.get_room;refine ⟨_,rfl,rfl,_,rfl,nL (fun _=>⟨_,rfl,_,_,rfl,rfl,_,rfl,?_⟩) (fun _=>⟨rfl,fun z=>nomatch z⟩)⟩
  by_cases c:0 < deep
  ·exact bD (ag c) ⟨_,rfl,sc,_,rfl,gr,_,rfl,_,_,rfl,rfl,_,rfl,rfl,fun _=>c⟩
  ·exact aU (by simpa using c) ⟨rfl,fun z=>nomatch z⟩
 rintro b G ⟨rfl,hb⟩
 cases b with
 | true =>
  refine bD rfl ?_;have d0:=hb rfl
  cases m with
  | zero=>exact absurd d0 (by lia)
  | succ m =>
  have cl:=bC2 m;simp only [pb] at lk;obtain ⟨fr,gf⟩:=W3.get_far;refine ⟨_,rfl,bM,fun l0 hl0=>?_⟩;have n0:=(cE W3.deal hl0).2;obtain ⟨H4,e0,s4,h4⟩:=gG hl0 (.lst [.int 3,.int 1]);rw [e0];clear e0;have W4:=W3.same s4;obtain ⟨fr,gf⟩:=W4.get_far;refine ⟨fun v G1=>G1=H4/\∃ z:Int,v= .int z/\0<=z/\z < 2,?_,?_⟩
  ·refine ⟨_,rfl,_,_,rfl,rfl,_,rfl,nL (fun _=>⟨_,rfl,sc,_,rfl,gf,_,_,rfl,rfl,.inr ⟨_,rfl,rfl,_,rfl,?_,?_⟩⟩) (fun _=> .inr ⟨_,rfl,rfl,_,rfl,by decide,by decide⟩)⟩ <;> split <;> decide
  rintro v G1 ⟨rfl,z,rfl,z0,z1⟩;obtain ⟨w2,hw2,hc2⟩:=aH2 (x:=3) (y:=1) z0 z1;refine ⟨l0,_,_,.int w2,rfl,rfl,bC.of h4,hw2,d,l,w2,rfl,W4.deal,by lia,by lia,fun tu H5 u0 u1 D5 o5=>⟨_,_,rfl,rfl,?_⟩⟩;have W5:=W4.out D5 o5;have hk5:=bA W4.deal (s4 _ _ hk3) nk o5;obtain ⟨rm,gr⟩:=W5.get_room;obtain ⟨kv6,dp6,W6,o6⟩:=W5.put_room (rm - many);refine ⟨_,rfl,sc,_,rfl,gr,_,rfl,_,_,rfl,rfl,_,rfl,sc,_,rfl,dp6,?_⟩;have hk6:=W5.keep hk5 nk o6;have oB:=oA.trans ((jT.of (S:=[d,l,sc]) s4).trans ((jT.out (sc:=sc) o5).trans o6));generalize aQ H5 sc (.dK kv6)=H6 at W6 o6 hk6 oB ⊢;have of2:1<=often * (1+tu):=by have:=gu (show 0 < often by (exact oqe)) (show 0 < 1+tu by lia);lia
  refine ⟨_,rfl,_,rfl,_,rfl,_,rfl,_,_,rfl,rfl,_,rfl,_,rfl,_,rfl,_,_,rfl,rfl,.inr ⟨by lia,by lia⟩,d,l,sc,nl,kn,xs,ks,kd,_,deep - 1,many,_,rfl,W6,of2,hk6,nk,kx,by lia,by assumption,by (exact oqa),by (exact oqC),by lia,fun p7 pr7 kn7 rs7 k7 lf7 H7 W7 le7 kd7 o7 h7 hp7 hr7 c7 dd7 ok7 q7 n7 hk7 kx7 kl7=>?_⟩;refine ⟨p7,_,rfl,aO.of h7,rfl,_,_,rfl,_,_,rfl,rfl,?_⟩;have n9f:kn7=kn\/H kn7=none:=by
   rcases q7 with e | e
   ·exact .inl e
   ·exact .inr (oB.fresh W6.all e)
  refine ⟨_,rfl,_,rfl,by show 3<=sizeLine;decide,fun q hq=>?_⟩;obtain ⟨H8,e0,s8,h8⟩:=gG hq (.tup [.str "times",.int (1+tu),.ref pr7]);rw [e0];clear e0;refine ⟨_,rfl,bM,fun p hp=>?_⟩;have s9:=s8.trans (aB hp (.tup [.ref q,.ref kn7]));refine k p kn7 (.times q pr7 (1+tu) rs7) k7 _ _ (W7.same s9) (by simp only [nZ];rw [sk,show (((1+tu).toNat:Nat):Int)=1+tu by lia, <- Int.mul_assoc];exact le7) (jR.one ⟨by lia,by lia⟩ kd7) (oB.trans (o7.trans (.of s9))) aD ⟨(aB hp _) _ _ h8,s9 _ _ hp7,bN.ts (.of s9) _ hr7⟩ ?_ ?_ (lO.one (fun t' ht=>absurd ht au) ok7) n9f n7 (s9 _ _ hk7) kx7 ?_
  ·simp only [Rw.cnt,pb];lia
  ·simp only [tG];lia
  ·simp only [pb];lia
 | false =>
 refine aU (by simp) ?_;refine ⟨_,rfl,_,rfl,_,rfl,_,rfl,d,l,7,rfl,W3.deal,by decide,by decide,fun z H4 z0 z1 D4 o4=>⟨_,_,rfl,rfl,?_⟩⟩;have W4:=W3.out D4 o4;have hk4:=bA W3.deal hk3 nk o4;refine ⟨d,l,kn,ks,1+z,rfl,D4,hk4,nk,by lia,by lia,by lia,by show 1+z<=7;lia,fun t H5 D5 o5 h5 nm5 sz5=>⟨by show 3<=sizeLine;decide,fun q hq=>?_⟩⟩;have W5:=W4.out D5 o5;have hk5:=bA D4 hk4 nk o5;have oB:=oA.trans ((jT.out (sc:=sc) o4).trans (jT.out (sc:=sc) o5));obtain ⟨HQ,e0,sQ,hQ⟩:=gG hq (.tup [.str "let",.str x,.ref t.p]);rw [e0];clear e0;refine ⟨_,rfl,_,rfl,jF,fun l6 hl6=>?_⟩;obtain ⟨H6,e0,s6,h6⟩:=gG hl6 (.lst [.str x]);rw [e0];clear e0;refine ⟨kn,l6,_,_,rfl,rfl,(sQ.trans s6) _ _ hk5,h6,bu (eI (by rw [ac];show ks.length+1<=_;lia)),fun l7 hl7=>⟨bM,fun p hp=>?_⟩⟩;have n7:H l7=none:=oB.fresh W5.all ((sQ.trans s6).free hl7);have n7l:=(cE (W5.deal.same (sQ.trans s6)) hl7).2;have s7:=s6.trans ((aB hl7 (.lst (ks.map V.str++[.str x]))).trans (aB hp (.tup [.ref q,.ref l7])))
 refine k p l7 (.lt q x t) (ks++[x]) _ _ (W5.same (sQ.trans s7)) (by simp only [nZ];lia) (jR.one trivial jR.nil) (oB.trans (.of (sQ.trans s7))) aD ⟨s7 _ _ hQ,h5.ts (.of (sQ.trans s7))⟩ pp (bj _) (lO.one (fun t' ht=>?_) lO.nil) (.inr n7) n7l ?_ (fun y hy=>?_) (by rw [am];show ks.length+1<=_;lia)
 ·rw [ax.mp ht];exact ⟨by lia,fun y hy=>kx y (nm5 y hy)⟩
 ·rw [(aB hp (.tup [.ref q,.ref l7])) _ _ aD,bm];rfl
 ·rcases cg.mp hy with e | e
  ·exact kx y e
  ·rw [ax.mp e];exact mx
theorem xC (m:Nat) (C_Draw:Cl P w K mg base 1 spDraw "_law_draw") (C_Row:Cl P w K mg base (10+2 * m) (aY2 m) "_law_row") (C_Trm:Cl P w K mg base 8 (bA8 7) "_law_term") (m_range:mg "range"=none) (m_tuple:mg "tuple"=none):dZ P w K mg base "_law_rows" "_law_rows" cH3 (10+2 * m+1) ["_law_deal_here","_law_world","_law_known","_law_deep","_law_tells","_law_often"] (aD5 m):=by
 refine eQ ["_law_deal_here","_law_world","_law_known","_law_deep","_law_tells","_law_often","_law_rows_here","_law_k","_law_row_here"] fun H Q nd hr h=>?_
 obtain ⟨d,l,sc,nl,kn,xs,ks,kd,lf,deep,tells,often,rfl,W0,of1,hk,nk,kx,lk,t0,t2,hm,hd,k⟩:=h;have hu:=iR hr;refine ⟨_,(dB 6 nd (bK cD)
  (aF (pK (dN (by rfl) m_range (aN (bG C_Draw hr (aA (pv 0) (aN aC))))) (eN 7 nd)
  (aE (bB (eT kM (tF hu (pv 1) aH) aC) (aF (pdp hu (pv 1) aH (aK cV (tF hu (pv 1) aH) aC))
  (aF (gC (bG C_Row hr (aA (pv 0) (aA (pv 1) (aA (pv 2) (aA (pv 3) (aN (pv 5))))))) (eV rfl (aX (eN 8 nd) (aX (eN 2 nd) dP))))
  (aE (cY (fN br dk dm dO (pv 6) (aN (pv 8))))))) aR)))
  (dB 6 nd (aK gQ (pv 6) (cZ ["_law_k","_law_deal_here","_law_known"] [none,some 0,some 2] (dN (by rfl) m_range (aN (pv 4))) (fun _ _ _ _=>(eN 0)) (fun _ _ _ _=>eS) (fun _ _ _ _=>(aM (aA aH (aN (bG C_Trm hr (aA (pv 1) (aA (pv 2) (aN (aK cB aC (bG C_Draw hr (aA (pv 1) (aN aC))))))))))))))
  (aE (aJ (aM (aA (tQ dC m_tuple eo (aN (pv 6))) (aN (pv 2))))))))),?_⟩
 have cl:=bC2 m;have ce:=cI9 hm;have pp:=aV0 m;refine ⟨bj _,fun lr hlr=>?_⟩;have nlr:=(cE W0.deal hlr).2;have nln:lr≠nl:=(aL W0.nms hlr).symm;have nlk:kn≠lr:=aL hk hlr;obtain ⟨H1,e0,s1,h1⟩:=gG hlr (.lst []);rw [e0];clear e0;have W1:=W0.same s1;refine ⟨_,rfl,d,l,4,rfl,W1.deal,by decide,by decide,fun n H2 n0 n1 D2 o2=>?_⟩;have W2:=W1.out D2 o2;have h2:=bA W1.deal h1 nlr o2;have hk2:=bA W1.deal (s1 _ _ hk) nk o2;have oA:=(jT.of (S:=[d,l,sc]) s1).trans (jT.out (sc:=sc) o2);refine ⟨n,rfl,by (exact oqb),by lia,mG (n:=n.toNat) (fun i σ G=>∃ (rs:List Rw) (knc:Addr) (kc:List Str) (lfc:Int) (v7 v8:Option V),σ=[some (.ref d),some (.ref sc),some (.ref knc),some (.int deep),some (.int tells),some (.int often),some (.ref lr),v7,v8]/\Wd G d l sc nl xs kd lfc/\often * (jP rs:Int)+lfc<=lf/\jR kd rs/\jT [d,l,sc] H G/\G lr=some (.lst (cL rs))/\bN G rs/\bY rs<=i * pb m/\fK rs<=m/\lO xs rs/\(knc=kn\/H knc=none)/\knc≠l/\knc≠lr/\G knc=some (.lst (kc.map V.str))/\(∀ y∈kc,y∈xs)/\kc.length<=ks.length+i * pb m)
  ⟨[],kn,ks,lf,none,none,rfl,W2,by simp [jP],jR.nil,oA,h2,trivial,bj _,bj _,lO.nil,.inl rfl,nk,nlk,hk2,kx,ig _ _⟩ ?_ ?_⟩
 ·rintro D' i σ G hi ⟨rs,knc,kc,lfc,v7,v8,rfl,W3,le3,kd3,o3,g1,hR,hc,hdp,hok,hq,nkl,nkr,gk,kxc,kl⟩;have i1:i+1<=3:=by lia
  have mul1:(i+1) * pb m<=3 * pb m:=fg _ i1;have mul2:(i+1) * pb m=i * pb m+pb m:=rn _ _;have li:=jX rs;obtain ⟨rm,gr⟩:=W3.get_room;refine ⟨_,rfl,sc,_,rfl,gr,_,_,rfl,rfl,_,rfl,nL (fun _=>?_) (fun _=>⟨rs,knc,kc,lfc,_,_,rfl,W3,le3,kd3,o3,g1,hR,by lia,hdp,hok,hq,nkl,nkr,gk,kxc,by lia⟩)⟩;obtain ⟨kv4,dp4,W4,o4⟩:=W3.put_room (rm - 1);refine ⟨_,rfl,sc,_,rfl,gr,_,_,rfl,rfl,_,rfl,sc,_,rfl,dp4,?_⟩;have g4:=W3.keep g1 nlr o4;have gk4:=W3.keep gk nkl o4;have hR4:=bN.ts (W3.ts o4) rs hR;generalize aQ G sc (.dK kv4)=H4 at W4 o4 g4 gk4 hR4 ⊢;refine ⟨_,rfl,_,rfl,_,rfl,_,rfl,_,rfl,d,l,sc,nl,knc,xs,kc,kd,lfc,deep,often,rfl,W4,of1,gk4,nkl,kxc,by lia,hm,hd,fun p8 kn8 r8 k8 lf8 H8 W8 le8 kd8 o8 h8 hr8 c8 dd8 ok8 q8 n8 hk8 kx8 kl8=>?_⟩;refine ⟨p8,_,rfl,aO.of h8,rfl,_,_,rfl,_,_,rfl,rfl,?_⟩;have g8:=W4.keep g4 nlr o8;have hR8:=bN.ts (W4.ts o8) rs hR4;have n8r:kn8≠lr:=by
   rcases q8 with e | e
   ·rw [e];exact nkr
   ·exact (aL g4 e).symm
  have n8f:kn8=kn\/H kn8=none:=by
   rcases q8 with e | e
   ·rw [e];exact hq
   ·exact .inr ((o3.trans o4).fresh W4.all e)
  refine ⟨_,rfl,.inl ⟨rfl,_,bC.of g8⟩,_,rfl,lr,_,_,rfl,rfl,g8,eI (by rw [bR];lia),?_⟩;have W10:=W8.lst (zs:=cL rs++[.ref r8.p]) g8 nlr nln;have tsN:=TS.lst (ys:=cL rs++[.ref r8.p]) g8;have gR:aQ H8 lr (.lst (cL rs++[.ref r8.p])) lr=some (.lst (cL (rs++[r8]))):=by rw [aD,iW];rfl
  refine ⟨rs++[r8],kn8,k8,lf8,_,_,rfl,W10,by rw [nM,wp,Int.mul_add];simp only [jP,Nat.add_zero];lia,jR.app kd3 kd8,(o3.trans (o4.trans o8)).new hlr,gR,bN.app (bN.ts tsN rs hR8) ⟨fE.ts tsN r8 hr8,trivial⟩,?_,?_,lO.app hok ok8,n8f,n8,n8r,(aI n8r).trans hk8,kx8,by lia⟩
  ·rw [jK];simp only [bY];lia
  ·rw [mW];simp only [fK];lia
 rintro σ G ⟨rs,knc,kc,lfc,v7,v8,rfl,W3,le3,kd3,o3,g1,hR,hc,hdp,hok,hq,nkl,nkr,gk,kxc,kl⟩;have mul1:n.toNat * pb m<=3 * pb m:=fg _ (by lia);have li:=jX rs;refine ⟨_,rfl,_,rfl,tells,rfl,by (exact oqb),by (exact oqc),iJ (n:=tells.toNat) (fun i ys σ G=>Wd G d l sc nl xs kd lfc/\jT [d,l,sc] H G/\(∃ v,σ=[v,some (.ref d),some (.ref knc)])/\G lr=some (.lst (cL rs))/\G knc=some (.lst (kc.map V.str))/\bN G rs/\∃ ts:List Rw,ys=cL ts/\ts.length=i/\bN G ts/\bY ts=i/\fK ts=0/\lO xs ts/\jP ts=0/\jR kd ts)
  (aV (by lia)) ⟨W3,o3,⟨_,rfl⟩,g1,gk,hR,[],rfl,rfl,trivial,rfl,rfl,lO.nil,rfl,jR.nil⟩ (by rintro i ys σ G ⟨_,_,_,_,_,_,ts,e,e2,_⟩;rw [e,bR];lia) ?_ ?_⟩
 ·rintro i ys σ G' hi ⟨W7,o7,⟨v,rfl⟩,g7,gk7,hR7,ts,rfl,hl,hT,hcT,hdT,okT,ldT,kdT⟩;refine ⟨_,rfl,_,rfl,_,rfl,d,l,5,rfl,W7.deal,by decide,by decide,fun y H8 y0 y1 D8 o8=>⟨_,_,rfl,rfl,?_⟩⟩;have W8:=W7.out D8 o8;have gk8:=bA W7.deal gk7 nkl o8;refine ⟨d,l,knc,kc,1+y,rfl,D8,gk8,nkl,by lia,by lia,by lia,by show 1+y<=7;lia,fun t H9 D9 o9 h9 nm9 sz9=>⟨bM,fun p hp=>?_⟩⟩;have s10:=aB hp (.tup [.str "tell",.ref t.p]);have o79:jT [d,l,sc] G' (aQ H9 p (.tup [.str "tell",.ref t.p])):=(jT.out (sc:=sc) o8).trans ((jT.out (sc:=sc) o9).trans (.of s10));have ts79:=W7.ts o79;refine ⟨(W8.out D9 o9).same s10,o7.trans o79,⟨_,rfl⟩,W7.keep g7 nlr o79,W7.keep gk7 nkl o79,bN.ts ts79 rs hR7,ts++[.tell p t],by rw [iW];rfl,by rw [am,hl];rfl,bN.app (qs:=[.tell p t]) (bN.ts ts79 ts hT) ⟨⟨aD,h9.ts (.of s10)⟩,trivial⟩,?_,?_,lO.app okT (lO.one (fun t' ht=>?_) lO.nil),by rw [nM,ldT];rfl,jR.app kdT (jR.one (r:= .tell p t) trivial jR.nil)⟩
  ·rw [jK,hcT];simp only [bY,Rw.cnt]
  ·rw [mW,hdT];simp only [fK,tG];lia
  ·rw [ax.mp ht];exact ⟨by lia,fun y hy=>kxc y (nm9 y hy)⟩
 rintro ys σ G' ⟨W7,o7,_,g7,gk7,hR7,ts,rfl,hl,hT,hcT,hdT,okT,ldT,kdT⟩ lx hlx;obtain ⟨H8,e0,s8,h8⟩:=gG hlx (.lst (cL ts));rw [e0];clear e0;refine ⟨lr,lx,_,_,rfl,rfl,s8 _ _ g7,h8,bu (eI (by rw [bR,bR];lia)),fun lz hlz=>?_⟩;rw [<- iW];have s9:=s8.trans (aB hlz (.lst (cL (rs++ts))));have h9:aQ H8 lz (.lst (cL (rs++ts))) lz=some (.lst (cL (rs++ts))):=aD;generalize aQ H8 lz (.lst (cL (rs++ts)))=H9 at s9 h9 ⊢;refine ⟨_,rfl,lz,_,rfl,.inl ⟨bC.of h9,fun t ht=>⟨_,rfl,bM,fun p hp=>?_⟩⟩⟩;have sF:=s9.trans ((aB ht (.tup (cL (rs++ts)))).trans (aB hp (.tup [.ref t,.ref knc])));refine k p t knc (rs++ts) kc _ _ (W7.same sF) (by rw [nM,ldT];exact le3) (jR.app kd3 kdT) (o7.trans (.of sF)) aD ((aB hp _) _ _ aD) (bN.app (bN.ts (.of sF) rs hR7) (bN.ts (.of sF) ts hT)) ?_ ?_ (lO.app hok okT) hq nkl (sF _ _ gk7) kxc (by lia)
 ·rw [jK];lia
 ·rw [mW,hdT];lia
theorem bO7 (C_Nms:Cl P w K mg base 2 spNames "_law_names") (C_Thw:Cl P w K mg base 3 spThrow "_law_throw") (C_Rws:Cl P w K mg base 17 (aD5 3) "_law_rows") (C_Draw:Cl P w K mg base 1 spDraw "_law_draw") (m_tuple:mg "tuple"=none):dZ P w K mg base "_law_program" "_law_program" cK0 18 ["_law_deal_here","_law_kinds","_law_throws","_law_wide"] spPrg:=by
 refine eQ ["_law_deal_here","_law_kinds","_law_throws","_law_wide","_law_words","_law_many","_law_world","_law_x","_law_tells","_law_rows_here","_law_known","_law_first_one"] fun H Q nd hr h=>?_
 obtain ⟨d,l,rfl,D,k⟩:=h;have hu:=iR hr;refine ⟨_,(dB 4 nd (bG C_Nms hr (aA (pv 0) (aN aC)))
  (dB 5 nd (aK cB aC (bG C_Draw hr (aA (pv 0) (aN (pv 1)))))
  (dB 6 nd (vN (eK aH (dS pL (pv 4) (eG aC) eX) (eK aH (pv 5) (eK aH (pv 3) (eK aH (pv 2) (eK aH aC (eK aH rZ (eK aH (pv 2) xD))))))) rfl rfl (by decide) (by decide))
  (dB 7 nd (aZ bQ (pv 4) aC)
  (dB 8 nd (aK cB aC (bG C_Draw hr (aA (pv 0) (aN aC))))
  (aF (pdp hu (pv 6) aH (aK cV (aK cV (tF hu (pv 6) aH) aC) (pv 8)))
  (aF (bB (eT cH (bG C_Draw hr (aA (pv 0) (aN aC))) aC) (aF (gC (bG C_Rws hr (aA (pv 0) (aA (pv 6) (aA (bK (aN (pv 7))) (aA aC (aA (pv 8) (aN aC))))))) (eV rfl (aX (eN 9 nd) (aX (eN 10 nd) dP))))
  (aE (aJ (aM (aA (tQ dC m_tuple eo (aN (dS pL (pv 4) eX (eG (pv 5))))) (aN (aK lP (aM (aN (aM (aA aH (aA (pv 7) (aN (aM (aA aH (aN (bG C_Draw hr (aA (pv 0) (aN aC)))))))))))) (pv 9)))))))) aR)
  (aF (pdp hu (pv 6) aH (aK cV (tF hu (pv 6) aH) aC))
  (dB 11 nd (bG C_Thw hr (aA (pv 0) (aA (pv 6) (aN (pv 7)))))
  (aF (gC (bG C_Rws hr (aA (pv 0) (aA (pv 6) (aA (bK (aN (pv 7))) (aA aC (aA (pv 8) (aN aC))))))) (eV rfl (aX (eN 9 nd) (aX (eN 10 nd) dP))))
  (aE (aJ (aM (aA (tQ dC m_tuple eo (aN (dS pL (pv 4) eX (eG (pv 5))))) (aN (aK lP (aM (aN (pv 11))) (pv 9))))))))))))))))),?_⟩
 refine ⟨_,rfl,d,l,7,rfl,D,by decide,by decide,fun rk xw H1 D1 o1 fk hk1 lk1 so1=>?_⟩;have nrk:=(cE D fk).2;refine ⟨_,rfl,_,rfl,d,l,3,rfl,D1,by decide,by decide,fun m1 H2 a0 a1 D2 o2=>⟨_,_,rfl,rfl,?_⟩⟩;have rk2:=bA D1 hk1 nrk o2;obtain ⟨x,ys,ecut,ly,eat⟩:=cN3 (xs:=xw) (by lia);have xin:∀ y∈x :: ys,y∈xw:=by
  obtain ⟨zs,e1,_,e3⟩:=aP2 xw (some 3) none;rw [ecut] at e1;intro y hy;have:V.str y∈(zs.map V.str):=by rw [<- e1];exact cy.mpr ⟨y,hy,rfl⟩
  obtain ⟨z,hz,e⟩:=cy.mp this;injection e with e
  rw [<- e];exact e3 z hz
 have soX:∀ y∈x :: ys,Lt y:=fun y hy=>so1 y (xin y hy)
 refine fun sc hsc=>?_
 have sc0:H sc=none:=aN7 D2 (o1.trans o2) hsc;have nsd:=(cE D2 hsc).1;obtain ⟨H3,e0,s3,h3⟩:=gG hsc (.dK []);rw [e0];clear e0;refine ⟨_,rfl,3,rfl,rk,_,rfl,bC.of (s3 _ _ rk2),fun nl hnl=>?_⟩;rw [ecut];have nnl:=(cE (D2.same s3) hnl).2;have s4:=aB hnl (.lst ((x :: ys).map V.str));have h4:aQ H3 nl (.lst ((x :: ys).map V.str)) nl=some (.lst ((x :: ys).map V.str)):=aD;have h34:=s4 _ _ h3;generalize aQ H3 nl (.lst ((x :: ys).map V.str))=H4 at s4 h4 h34 ⊢;refine ⟨_,rfl,_,rfl,_,rfl,_,rfl,h34,wW nl (1+m1),rfl,by show 7<=15;decide,?_⟩;have wk:=aV2 nl (kd:=1+m1) (by lia) (by lia);generalize fU [] (wW nl (1+m1))=kv5 at wk ⊢;have n54:nl≠sc:=dD h4 h34 (by intro z;cases z);have D4:=(D2.same s3).same s4;have o5:eP d l H (aQ H4 sc (.dK kv5)):=fun b u e n1 n2=>by
  rw [aI (fun z=>by rw [z,sc0] at e;cases e)];exact (s3.trans s4) _ _ ((o1.trans o2) b u e n1 n2)
 have W5:Wd (aQ H4 sc (.dK kv5)) d l sc nl (x :: ys) (1+m1) 4:=by
  obtain ⟨sd,kk,ls,z⟩:=id D4;refine ⟨⟨sd,kk,ls,⟨by rw [aI nsd.symm];exact z.dc,by rw [aI (dD z.lc h34 (by intro z;cases z))];exact z.lc,z.s0,z.s1,z.n0,z.l0⟩⟩,⟨kv5,aD,wk⟩,by rw [aI n54];exact h4,nsd,nnl,by simp,by rw [List.length_cons,ly];decide⟩
 have rk4:=(s3.trans s4) _ _ rk2;have rk5:aQ H4 sc (.dK kv5) rk=some (.lst (xw.map V.str)):=by rw [aI (dD rk4 h34 (by intro z;cases z))];exact rk4
 generalize aQ H4 sc (.dK kv5)=H5 at o5 W5 rk5 ⊢;refine ⟨_,rfl,rk,_,_,.str x,rfl,rfl,bC.of rk5,eat,?_⟩;refine ⟨_,rfl,d,l,2,rfl,W5.deal,by decide,by decide,fun tz H6 t0 t1 D6 o6=>⟨_,_,rfl,rfl,?_⟩⟩;have W6:=W5.out D6 o6;have rk6:=bA W5.deal rk5 nrk o6;obtain ⟨rm,gr⟩:=W6.get_room;obtain ⟨kv7,dp7,W7,o7⟩:=W6.put_room (rm - 1 - (1+tz));refine ⟨_,rfl,sc,_,rfl,gr,_,_,rfl,rfl,_,rfl,_,_,rfl,rfl,_,rfl,sc,_,rfl,dp7,?_⟩;have rk7:=W6.keep rk6 nrk o7;have oo7:=pW (o5.trans o6) sc0 o7;generalize aQ H6 sc (.dK kv7)=H7 at W7 rk7 oo7 ⊢;refine ⟨_,rfl,d,l,3,rfl,W7.deal,by decide,by decide,fun zz H8 _ _ D8 o8=>⟨rfl,_,rfl,?_⟩⟩;have W8:=W7.out D8 o8;have rk8:=bA W7.deal rk7 nrk o8;have oo8:=oo7.trans o8;clear W7 rk7 oo7 o8 D8 W6 rk6 dp7 gr o7 W5 rk5 o5 D6 o6 rk4 D4 h34 h4 s4 s3 h3 wk ecut eat;refine nL (fun _=>?_) (fun _=>?_)
 ·have WX:=W8;have rkX:=rk8;have oX:=oo8;clear W8 rk8 oo8;generalize H8=HX at WX rkX oX ⊢;refine ⟨_,rfl,_,rfl,_,rfl,jF,fun kn hkn=>?_⟩;have nkl:=(cE WX.deal hkn).2;have sY:=aB hkn (.lst [.str x]);have hY:aQ HX kn (.lst [.str x]) kn=some (.lst (([x]:List Str).map V.str)):=aD;have WY:=WX.same sY;have rkY:=sY _ _ rkX;have oY:=oX.trans (eP.of (d:=d) (l:=l) sY);generalize aQ HX kn (.lst [.str x])=HY at sY hY WY rkY oY ⊢;refine ⟨_,rfl,d,l,sc,nl,kn,x :: ys,[x],1+m1,_,3,1+tz,1,rfl,WY,by decide,hY,nkl,(fun y hy=>by rw [ax.mp hy];exact ao),(by show 1+1295<=5000;decide),by lia,by lia,by decide,rfl,fun pA prA knA rsA kA lfA HA WA leA kdA oA hA hpA hrA cA dA okA qA nA hkA kxA klA=>?_⟩;refine ⟨pA,_,rfl,aO.of hA,rfl,_,_,rfl,_,_,rfl,rfl,?_⟩;have cA:bY rsA<=1295:=cA;have rkA:=WY.keep rkY nrk oA;have tsA:=WY.ts oA;have oZ:=pW oY sc0 oA;refine ⟨_,rfl,_,rfl,_,rfl,rk,_,rfl,bC.of rkA,fun l6 hl6=>⟨l6,_,rfl,.inl ⟨bC.of aD,fun t7 ht7=>?_⟩⟩⟩
  have kcut:∃ ks:List Str,gK (xw.map V.str) none (some (1+m1))=ks.map V.str/\(ks.length:Int)=1+m1:=⟨xw.take (1+m1).toNat,by
   rw [aG6 (by lia) (by rw [ac];lia),nh],by rw [cp];lia⟩
  obtain ⟨kss,ekss,lkss⟩:=kcut;rw [ekss];rw [ekss] at ht7;have s7:=(aB hl6 (.lst (kss.map V.str))).trans (aB ht7 (.tup (kss.map V.str)));have h77:aQ (aQ HA l6 (.lst (kss.map V.str))) t7 (.tup (kss.map V.str)) t7=some (.tup (kss.map V.str)):=aD;generalize aQ (aQ HA l6 (.lst (kss.map V.str))) t7 (.tup (kss.map V.str))=H7 at s7 h77 ⊢;have leA':=leA;rw [uh] at leA';have lfA0:=WA.lf0;have kn1:1<=kss.length/\kss.length<=3:=by lia
  have D7:=WA.deal.same s7;have o7:=oZ.trans (eP.of (d:=d) (l:=l) s7);refine ⟨_,rfl,_,rfl,d,l,4,rfl,D7,by decide,by decide,fun nm H9 b0 b1 D9 o9=>⟨bM,fun q1 hq1=>⟨by show 3<=sizeLine;decide,fun q2 hq2=>⟨jF,fun q3 hq3=>?_⟩⟩⟩⟩;have sA1:=aB hq1 (.tup [.str "num",.int nm]);have gA1:aQ H9 q1 (.tup [.str "num",.int nm]) q1=some (.tup [.str "num",.int nm]):=aD;generalize aQ H9 q1 (.tup [.str "num",.int nm])=HB1 at sA1 gA1 hq2 hq3 ⊢;have sA2:=aB hq2 (.tup [.str "let",.str x,.ref q1]);have gA2:aQ HB1 q2 (.tup [.str "let",.str x,.ref q1]) q2=some (.tup [.str "let",.str x,.ref q1]):=aD;generalize aQ HB1 q2 (.tup [.str "let",.str x,.ref q1])=HB2 at sA2 gA2 hq3 ⊢;obtain ⟨HB3,e0,sA3,gA3⟩:=gG hq3 (.tup [.ref q2]);rw [e0];clear e0;have sB:=sA1.trans (sA2.trans sA3);have tB:TS HA HB3:=(TS.of s7).trans ((TS.out D7 o9).trans (.of sB));refine ⟨_,rfl,q3,prA,[.ref q2],cL rsA,rfl,rfl,gA3,tB _ _ hpA,bu (eI (by rw [bR];have:=jX rsA;show 1+rsA.length<=_;lia)),fun rz HC sC hC=>⟨bM,fun p hp=>?_⟩⟩
  have sD:=sC.trans (aB hp (.tup [.ref t7,.ref rz]));refine k p (x :: ys) (.lt q2 x (.num q1 nm) :: rsA) _ ((D9.same sB).same sD) (o7.trans (o9.trans (.of (sB.trans sD)))) ⟨⟨_,rz,aD,(aB hp _) _ _ hC⟩,⟨t7,kss,_,aD,(TS.of sD) _ _ ((TS.of sB) _ _ ((TS.out D7 o9) _ _ h77)),kn1.1,kn1.2,by rw [lkss];exact jR.app (rs:=[.lt q2 x (.num q1 nm)]) (jR.one trivial jR.nil) kdA⟩,by show 0+jP rsA<=6;lia,⟨⟨(sA3.trans sD) _ _ gA2,(sA2.trans (sA3.trans sD)) _ _ gA1⟩,bN.ts (tB.trans (.of sD)) _ hrA⟩,?_,?_,lO.app (rs:=[.lt q2 x (.num q1 nm)]) (lO.one (fun t ht=>?_) lO.nil) okA,by rw [bo,ly];decide,soX⟩
  ·show 1+bY rsA<=1300
   lia
  ·show max 0 (fK rsA)<=3
   lia
  ·rw [ax.mp ht];exact ⟨by show 1<=7;decide,fun y hy=>absurd hy au⟩
 ·have gl:=W8.get_left;obtain ⟨kv9,dp9,W9,o9⟩:=W8.put_left (4 - 1) (by decide);refine ⟨_,rfl,sc,_,rfl,gl,_,_,rfl,rfl,_,rfl,sc,_,rfl,dp9,?_⟩;have rk9:=W8.keep rk8 nrk o9;have oo9:=pW oo8 sc0 o9;generalize aQ H8 sc (.dK kv9)=H9 at W9 rk9 oo9 ⊢;obtain ⟨kvs,hscv,wk9⟩:=W9.scn;refine ⟨_,rfl,_,rfl,_,rfl,d,l,sc,kvs,x,1+m1,rfl,W9.deal,hscv,⟨⟨4,wk9.wd,by decide,by decide⟩,wk9.kd⟩,W9.ne1,fun pt w ws HX DX oX1 hX okX ekd=>?_⟩;have WX:=W9.out DX oX1;have rkX:=bA W9.deal rk9 nrk oX1;have oX:=oo9.trans oX1;clear W9 rk9 oo9 W8 rk8 oo8 o9 dp9 gl hscv;refine ⟨_,rfl,_,rfl,_,rfl,jF,fun kn hkn=>?_⟩;have nkl:=(cE WX.deal hkn).2;have sY:=aB hkn (.lst [.str x]);have hY:aQ HX kn (.lst [.str x]) kn=some (.lst (([x]:List Str).map V.str)):=aD;have WY:=WX.same sY;have rkY:=sY _ _ rkX;have oY:=oX.trans (eP.of (d:=d) (l:=l) sY);generalize aQ HX kn (.lst [.str x])=HY at sY hY WY rkY oY ⊢;refine ⟨_,rfl,d,l,sc,nl,kn,x :: ys,[x],1+m1,_,3,1+tz,1,rfl,WY,by decide,hY,nkl,(fun y hy=>by rw [ax.mp hy];exact ao),(by show 1+1295<=5000;decide),by lia,by lia,by decide,rfl,fun pA prA knA rsA kA lfA HA WA leA kdA oA hA hpA hrA cA dA okA qA nA hkA kxA klA=>?_⟩
  refine ⟨pA,_,rfl,aO.of hA,rfl,_,_,rfl,_,_,rfl,rfl,?_⟩;have cA:bY rsA<=1295:=cA;have rkA:=WY.keep rkY nrk oA;have tsA:=WY.ts oA;have oZ:=pW oY sc0 oA;refine ⟨_,rfl,_,rfl,_,rfl,rk,_,rfl,bC.of rkA,fun l6 hl6=>⟨l6,_,rfl,.inl ⟨bC.of aD,fun t7 ht7=>?_⟩⟩⟩;have kcut:∃ ks:List Str,gK (xw.map V.str) none (some (1+m1))=ks.map V.str/\(ks.length:Int)=1+m1:=⟨xw.take (1+m1).toNat,by
   rw [aG6 (by lia) (by rw [ac];lia),nh],by rw [cp];lia⟩
  obtain ⟨kss,ekss,lkss⟩:=kcut;rw [ekss];rw [ekss] at ht7;have s7:=(aB hl6 (.lst (kss.map V.str))).trans (aB ht7 (.tup (kss.map V.str)));have h77:aQ (aQ HA l6 (.lst (kss.map V.str))) t7 (.tup (kss.map V.str)) t7=some (.tup (kss.map V.str)):=aD;generalize aQ (aQ HA l6 (.lst (kss.map V.str))) t7 (.tup (kss.map V.str))=H7 at s7 h77 ⊢;have leA':=leA;rw [uh] at leA';have lfA0:=WA.lf0;have kn1:1<=kss.length/\kss.length<=3:=by lia
  have D7:=WA.deal.same s7;have o7:=oZ.trans (eP.of (d:=d) (l:=l) s7);refine ⟨_,rfl,jF,fun q3 hq3=>?_⟩;obtain ⟨HB3,e0,sA3,gA3⟩:=gG hq3 (.tup [.ref pt]);rw [e0];clear e0;have tB:TS HA HB3:=(TS.of s7).trans (.of sA3);have tX:TS HX HB3:=(TS.of sY).trans (tsA.trans tB);refine ⟨_,rfl,q3,prA,[.ref pt],cL rsA,rfl,rfl,gA3,tB _ _ hpA,bu (eI (by rw [bR];have:=jX rsA;show 1+rsA.length<=_;lia)),fun rz HC sC hC=>⟨bM,fun p hp=>?_⟩⟩;have sD:=sC.trans (aB hp (.tup [.ref t7,.ref rz]));refine k p (x :: ys) (.thr pt w x ws :: rsA) _ ((D7.same sA3).same sD) (o7.trans (.of (sA3.trans sD))) ⟨⟨_,rz,aD,(aB hp _) _ _ hC⟩,⟨t7,kss,_,aD,sD _ _ (sA3 _ _ h77),kn1.1,kn1.2,by rw [lkss];exact jR.app (rs:=[.thr pt w x ws]) (jR.one ekd jR.nil) kdA⟩,by show 1+jP rsA<=6;lia,⟨⟨(tX.trans (.of sD)) _ _ hX,okX.ts (tX.trans (.of sD))⟩,bN.ts (tB.trans (.of sD)) _ hrA⟩,?_,?_,lO.app (rs:=[.thr pt w x ws]) (lO.one (fun t ht=>absurd ht au) lO.nil) okA,by rw [bo,ly];decide,soX⟩
  ·show 1+bY rsA<=1300
   lia
  ·show max 0 (fK rsA)<=3
   lia
theorem bQ1 (n:Nat) (C_Lst:Cl P w K mg base (n+1) (aK6 n) "_law_listed"):dZ P w K mg base "_law_listed" "_law_listed" cH4 (n+1+1) ["_law_rows_here"] (aK6 (n+1)):=by
 refine eQ ["_law_rows_here","_law_found","_law_row_here","_law_inner_here"] fun H Q nd hr h=>?_
 obtain ⟨p,rs,rfl,hp,hR,hc,hdp,k⟩:=h;have hr1:dQ 1 _:=hr.mono (by (exact oqJ));refine ⟨_,(dB 1 nd (bK cD)
  (aF (pK (kL (pv 0)) (eN 2 nd)
  (aF (cY (fN br dk dm dO (pv 1) (aN (pv 2))))
  (aE (bB (eT bU (aZ aG (pv 2) aC) (aM (aA aH (aN aH)))) (aE (pK (kL (dS aX3 (pv 2) (eG aC) eX)) (eN 3 nd)
  (aE (cY (fN br ia ib gD (pv 1) (aN (bG C_Lst hr (aN (pv 3))))))))) aR))))
  (aE (aJ (pv 1))))),?_⟩
 refine ⟨bj _,fun lf hlf=>?_⟩;obtain ⟨H1,e0,s1,h1⟩:=gG hlf (.lst []);rw [e0];clear e0;refine ⟨_,rfl,p,rfl,⟨_,aO.of (s1 _ _ hp)⟩,sN (K:=K) (a:=p) (xs:=cL rs) (fun i σ G=>∃ (v2 v3:Option V),σ=[some (.ref p),some (.ref lf),v2,v3]/\aS H G/\G lf=some (.lst (cL (bE (rs.take i)))))
  ⟨_,_,rfl,s1,h1⟩ (by rintro i σ G _ ⟨_,_,_,e,_⟩;exact aO.of (e _ _ hp)) ?_ ?_⟩
 ·rintro D' i v σ G hv ⟨v2,v3,rfl,s2,g2⟩;obtain ⟨r,rfl,hr0⟩:=lN hv;have mr:=be hr0;have ct:=yL (rs:=rs) i;have c1:=yL (rs:=rs) (i+1);rw [<- eY,vE hr0,am,bo] at c1;have fl:=eY (rs.take i);refine ⟨_,rfl,.inl ⟨rfl,_,bC.of g2⟩,_,rfl,lf,_,_,rfl,rfl,g2,eI (by rw [bR];lia),?_⟩;have s3:=cP (ys:=cL (bE (rs.take i))++[.ref r.p]) s2 hlf;have g3:aQ G lf (.lst (cL (bE (rs.take i))++[.ref r.p])) lf=some (.lst (cL (bE (rs.take i)++[r]))):=by rw [aD,iW];rfl
  generalize aQ G lf (.lst (cL (bE (rs.take i))++[.ref r.p]))=G3 at s3 g3 ⊢;have hr1:=fE.ts (.of s3) r (hR.mem r mr);refine ⟨_,rfl,r.p,_,_,.str r.w,rfl,rfl,aO.of hr1.at,jQ,bM,fun t4 ht4=>?_⟩;have s4:=s3.trans (aB ht4 (.tup [.str "when",.str "times"]));have g4:=(aB ht4 (.tup [.str "when",.str "times"])) _ _ g3;refine ⟨t4,[.str "when",.str "times"],rfl,.inr (aO.of aD),rfl,by decide,_,rfl,?_⟩;generalize aQ G3 t4 (.tup [.str "when",.str "times"])=G4 at s4 g4 ⊢;have hr4:=fE.ts (.of s4) r (hR.mem r mr);have ei:mU (V.str r.w) [.str "when",.str "times"]=decide (r.w∈(["when","times"]:List Str)):=bW _ ["when","times"];rw [vE hr0]
  by_cases c:r.w∈(["when","times"]:List Str)
  ·refine bD (ei.trans (ag c)) ?_;obtain ⟨v0,hrow,inn⟩:=bU0 hr4 c;have dr:=aK5 mr;have cr:=pU mr;refine ⟨_,rfl,2,rfl,r.p,_,rfl,aO.of hrow,aE2 _ _ _,fun t5 ht5=>?_⟩;rw [bD0];have s5:=s4.trans (aB ht5 (.tup (r.inn.map fun e=>V.ref e.1)));have h5:aQ G4 t5 (.tup (r.inn.map fun e=>V.ref e.1)) t5=some (.tup (r.inn.map fun e=>V.ref e.1)):=aD;have g5:=(aB ht5 (.tup (r.inn.map fun e=>V.ref e.1))) _ _ g4;have t45:=TS.of (aB ht5 (.tup (r.inn.map fun e=>V.ref e.1)));have n5:lf≠t5:=aL g4 ht5;generalize aQ G4 t5 (.tup (r.inn.map fun e=>V.ref e.1))=G5 at s5 h5 g5 t45 ⊢;refine ⟨t5,rfl,⟨_,aO.of h5⟩,sN (K:=K) (a:=t5) (xs:=r.inn.map fun e=>V.ref e.1) (fun j σ G=>∃ (v3:Option V),σ=[some (.ref p),some (.ref lf),some (.ref r.p),v3]/\aS H G/\TS G5 G/\G lf=some (.lst (cL (bE (rs.take i)++[r]++(r.inn.take j).flatMap fun e=>bE e.2))))
    ⟨_,rfl,s5,fun _ _ e=>e,by rw [g5];simp⟩ (by rintro j σ G _ ⟨_,_,_,e,_⟩;exact aO.of (e _ _ h5)) ?_ ?_⟩
   ·rintro D2 j v σ G6 hv ⟨v3,rfl,s6,t6,g6⟩;obtain ⟨e,rfl,he⟩:∃ e,v=V.ref e.1/\r.inn[j]?=some e:=by
     rw [cj] at hv
     cases q:r.inn[j]? with
     | none=>rw [q] at hv;cases hv
     | some e=>rw [q] at hv;exact ⟨e,(dz hv).symm,rfl⟩
    obtain ⟨i1,i2,i3,i4⟩:=inn e (be he);have fe:(r.inn.take (j+1)).flatMap (fun e=>bE e.2)=(r.inn.take j).flatMap (fun e=>bE e.2)++bE e.2:=by
     rw [aT he,fb];simp
    have tt:=t45.trans t6
    cases n with
    | zero=>exact absurd hdp (by lia)
    | succ n =>
    refine ⟨_,rfl,.inl ⟨rfl,_,bC.of g6⟩,_,rfl,e.1,e.2,rfl,tt _ _ i1,bN.ts tt _ i2,by lia,by lia,fun r7 H7 s7 n7 h7=>?_⟩;refine ⟨lf,r7,_,_,rfl,rfl,s7 _ _ g6,h7,bu (eI ?_),_,rfl,cP (s6.trans s7) hlf,t6.trans ((TS.of s7).trans (TS.lst (s7 _ _ g6))),?_⟩
    ·have z:=zJ r;have z2:=fc List.length z;have z3:((r.inn.take j).flatMap fun e=>bE e.2).length<=(r.inn.flatMap fun e=>bE e.2).length:=by
      have q:r.inn=r.inn.take j++r.inn.drop j:=(fw _ _).symm;have q2:=fc (fun l=>(l.flatMap fun e=>bE e.2).length) q;simp only [List.flatMap_append,List.length_append] at q2
      lia
     have z4:=eY e.2;simp only [bR,List.length_append,List.length_cons,List.length_nil]
     lia
    ·rw [aD, <- iW,fe,ee _ _ (bE e.2)]
   ·rintro σ G6 ⟨v3,rfl,s6,t6,g6⟩;rw [ac,bv] at g6;refine ⟨_,_,rfl,s6,?_⟩;rw [g6, <- zJ,ee];rfl
  ·refine aU (fun z=>c (ai (ei.symm.trans z))) ?_;refine ⟨_,_,rfl,s4,?_⟩;rw [bE6 c];exact g4
 ·rintro σ G ⟨v2,v3,rfl,s2,g2⟩;rw [bR,bv] at g2;exact ⟨_,rfl,k lf G s2 hlf g2⟩
theorem bM2 (n:Nat) (C_Nin:Cl P w K mg base (n+1) (aH5 n) "_law_names_in"):dZ P w K mg base "_law_names_in" "_law_names_in" cH2 (n+1+1) ["_law_term_here"] (aH5 (n+1)):=by
 refine eQ ["_law_term_here"] fun H Q nd hr h=>?_
 obtain ⟨t,rfl,ht,h7,hn,k⟩:=h;refine ⟨_,(aF (bB (eT cH (aZ aG (pv 0) aC) aH) (aE (aJ (bK (aN (aZ aG (pv 0) aC))))) aR)
  (aF (bB (eT cH (aZ aG (pv 0) aC) aH) (aE (aJ (aK gQ (bG C_Nin hr (aN (aZ aG (pv 0) aC))) (bG C_Nin hr (aN (aZ aG (pv 0) aC)))))) aR)
  (aE (aJ (bK cD))))),?_⟩
 refine ⟨_,rfl,t.p,_,_,.str t.w,rfl,rfl,aO.of ht.at,jQ,rfl,_,rfl,?_⟩;generalize hP:t.p=P
 cases t with
 | nam p x =>
  obtain rfl:p=P:=hP;refine bD (ag rfl) ?_;exact ⟨_,rfl,p,_,_,.str x,rfl,rfl,aO.of ht,rfl,jF,fun l hl=>k l _ (aB hl _) aD⟩
 | num p m =>
  obtain rfl:p=P:=hP;refine aU (fun z=>wMN (ai z)) ?_;refine ⟨_,rfl,p,_,_,.str "num",rfl,rfl,aO.of ht,rfl,rfl,_,rfl,?_⟩;refine aU (fun z=>cE0 (ai z)) ?_;exact ⟨bj _,fun l hl=>k l _ (aB hl _) aD⟩
 | op p s a b =>
  obtain rfl:p=P:=hP;refine aU (fun z=>wOM (ai z)) ?_;refine ⟨_,rfl,p,_,_,.str "op",rfl,rfl,aO.of ht.1,rfl,rfl,_,rfl,?_⟩;refine bD (ag rfl) ?_;have a1:=a.size_pos;have b1:=b.size_pos;have an:=a.names_len;have bn:=b.names_len;simp only [Tm.size] at h7 hn
  cases n with
  | zero=>exact absurd hn (by lia)
  | succ n =>
  refine ⟨_,rfl,p,_,_,.ref a.p,rfl,rfl,aO.of ht.1,rfl,a,rfl,ht.2.1,by lia,by lia,fun r1 H1 s1 h1=>?_⟩;refine ⟨_,rfl,p,_,_,.ref b.p,rfl,rfl,aO.of (s1 _ _ ht.1),rfl,b,rfl,ht.2.2.ts (.of s1),by (exact oqD),by lia,fun r2 H2 s2 h2=>?_⟩;refine ⟨r1,r2,_,_,rfl,rfl,s2 _ _ h1,h2,bu (eI (by rw [ac,ac];lia)),fun l hl=>k l _ (s1.trans (s2.trans (aB hl _))) ?_⟩;rw [aD, <- bm];rfl
theorem bS7 (C_Lst:Cl P w K mg base 5 (aK6 4) "_law_listed") (C_Nin:Cl P w K mg base 8 (aH5 7) "_law_names_in") (m_range:mg "range"=none) (m_sorted:mg "sorted"=none) (m_len:mg "len"=none) (m_set:mg "set"=none):dZ P w K mg base "_law_needed" "_law_needed" cH5 9 ["_law_program_here"] spLNd:=by
 refine eQ ["_law_program_here","_law_rows_here","_law_found","_law_row_here","_law_turn"] fun H Q nd hr h=>?_
 obtain ⟨p,xs,rs,rfl,P0,k⟩:=h;have hr1:dQ 1 _:=hr.mono (by decide);refine ⟨_,(dB 1 nd (bG C_Lst hr (aN (aZ aG (pv 0) aC)))
  (dB 2 nd (bK cD)
  (aF (pK (bX (pv 1)) (eN 3 nd)
  (aE (bB (eT bU (aZ aG (pv 3) aC) (aM (aA aH (aN aH)))) (aE (zV 2 nd (aK gQ (pv 2) (bG C_Nin hr (aN (aZ aG (pv 3) aC)))))) aR)))
  (aF (pK (dN (by rfl) m_range (aN (mO bO m_len gb (aN (pv 1))))) (eN 4 nd)
  (aE (pK (bX (pv 1)) (eN 3 nd)
  (aE (bB (gH (PW.pt (iG (eT cH (aZ aG (pv 3) aC) aH) (gZ (eT bU (aZ aG (pv 3) aC) (pv 2)))))) (aE (zV 2 nd (aK gQ (pv 2) (cZ ["_law_y","_law_found"] [none,some 2] (bX (bG C_Nin hr (aN (aZ aG (pv 3) aC)))) (fun _ _ _ _=>(eN 0)) (fun _ _ _ _=>(qP (eT (cN5 K) (pv 0) (pv 1)))) (fun _ _ _ _=>(pv 0)))))) aR)))))
  (aE (aJ (mO (vL P w hr1) m_sorted vz (aN (tQ (aN3 P w hr1) m_set PyProof.Rows.boot_set (aN (pv 2))))))))))),?_⟩
 have f13:=P0.fl;have okf:=P0.okf;have fll:=eY rs;have c0:=P0.cnt;have hdp:=P0.dp;obtain ⟨v0,pr,hp,hpr⟩:=P0.ex;refine ⟨_,rfl,p,_,_,.ref pr,rfl,rfl,aO.of hp,rfl,pr,rs,rfl,hpr,P0.rows,by (exact oqf),Nat.lt_succ_of_le hdp,fun r1 H1 s1 n1 h1=>?_⟩;have rH:=bN.ts (.of s1) _ (bN.flat rs P0.rows);have k':∀ (r:Addr) (ss:List Str) (H':Hp),aS H H'->H' r=some (.lst (ss.map V.str))->ss.Nodup->PyProof.Rows.sortedS ss=true->(∀ x,x∈ss↔kE (bE rs) x)->Q (.ref r) H':=fun r ss H' a b c d e=>k r ss H' a b ⟨c,d,e⟩
 clear k;generalize bE rs=fl at f13 okf h1 rH k';refine ⟨bj _,fun lf hlf=>?_⟩;obtain ⟨H2,e0,s2,h2⟩:=gG hlf (.lst []);rw [e0];clear e0;refine ⟨_,rfl,r1,rfl,⟨_,bC.of (s2 _ _ h1)⟩,dW (K:=K) (a:=r1) (xs:=cL fl) (fun i σ G=>∃ (lf:Addr) (v3 v4:Option V),σ=[some (.ref p),some (.ref r1),some (.ref lf),v3,v4]/\aS H1 G/\G lf=some (.lst (((fl.take i).flatMap Rw.told).map V.str)))
  ⟨lf,_,_,rfl,s2,h2⟩ (by rintro i σ G _ ⟨_,_,_,_,e,_⟩;exact bC.of (e _ _ h1)) ?_ ?_⟩
 ·rintro D' i v σ G hv ⟨lf,v3,v4,rfl,s5,h5⟩;obtain ⟨r,rfl,hr0⟩:=lN hv;have mr:=be hr0;have il:=(bc.mp hr0).1;have hr1:=fE.ts (.of s5) r (rH.mem r mr);have tl:=lM (fl:=fl.take i) (fun r hr=>okf r (iy hr));rw [cp] at tl;refine ⟨_,rfl,r.p,_,_,.str r.w,rfl,rfl,aO.of hr1.at,jQ,bM,fun t2 ht2=>?_⟩;have s6:=aB ht2 (.tup [.str "tell",.str "when"]);refine ⟨t2,[.str "tell",.str "when"],rfl,.inr (aO.of aD),rfl,by decide,_,rfl,?_⟩;generalize aQ G t2 (.tup [.str "tell",.str "when"])=G6 at s6 ⊢;have ei:mU (V.str r.w) [.str "tell",.str "when"]=decide (r.w∈(["tell","when"]:List Str)):=bW _ ["tell","when"];rw [aI9 hr0]
  by_cases c:r.w∈(["tell","when"]:List Str)
  ·refine bD (ei.trans (ag c)) ?_;obtain ⟨t,vs,hrow,htm,etm,etl⟩:=bT2 (fE.ts (.of s6) r hr1) c;have okt:=okf r mr t (by rw [etm];exact ax.mpr rfl);have nl:=t.names_len;refine ⟨_,rfl,_,rfl,r.p,_,_,.ref t.p,rfl,rfl,aO.of hrow,at1,t,rfl,htm,okt.1,okt.1,fun q H7 s7 h7=>?_⟩;refine ⟨lf,q,_,_,rfl,rfl,(s6.trans s7) _ _ h5,h7,bu (uE (by rw [ac,ac];lia)),fun l8 hl8=>⟨l8,_,_,rfl,s5.trans (s6.trans (s7.trans (aB hl8 _))),?_⟩⟩;rw [aD,etl,bm]
  ·refine aU (fun z=>c (ai (ei.symm.trans z))) ?_;refine ⟨lf,_,_,rfl,s5.trans s6,?_⟩;rw [zD c,fq];exact s6 _ _ h5
 rintro σ G ⟨lf,v3,v4,rfl,s5,h5⟩;rw [bR,bv] at h5;refine ⟨_,rfl,r1,_,rfl,.inl (bC.of (s5 _ _ h1)),_,rfl,by lia,by rw [bR];(exact oqq),mG (n:=(cL fl).length) (fun i σ G=>∃ (lf:Addr) (v3 v4:Option V),σ=[some (.ref p),some (.ref r1),some (.ref lf),v3,v4]/\aS H1 G/\G lf=some (.lst ((iM fl i).map V.str)))
  ⟨lf,_,_,rfl,s5,h5⟩ ?_ ?_⟩
 ·rintro D' i σ G' hi ⟨lf,v3,v4,rfl,s6,h6⟩;rw [bR] at hi;have rl:=yO okf i;have rl2:(i+1) * (7 * fl.length)<=1300 * (7 * fl.length):=fg _ (by lia);refine ⟨_,rfl,r1,rfl,⟨_,bC.of (s6 _ _ h1)⟩,dW (K:=K) (a:=r1) (xs:=cL fl) (fun j σ G=>∃ (lf:Addr) (v3:Option V),σ=[some (.ref p),some (.ref r1),some (.ref lf),v3,some (.int (0+(i:Int)))]/\aS H1 G/\G lf=some (.lst ((rnd (fl.take j) (iM fl i)).map V.str)))
   ⟨lf,_,rfl,s6,h6⟩ (by rintro j σ G _ ⟨_,_,_,e,_⟩;exact bC.of (e _ _ h1)) ?_ ?_⟩
  ·rintro D2 j v σ G7 hv ⟨lf,v3,rfl,s7,h7⟩;obtain ⟨r,rfl,hr0⟩:=lN hv;have mr:=be hr0;have jl:=(bc.mp hr0).1;have hr1:=fE.ts (.of s7) r (rH.mem r mr);have rl3:=wR (fl.take j) (iM fl i) fun r hr=>okf r (iy hr)
   rw [cp] at rl3;rw [aU2 hr0];generalize rnd (fl.take j) (iM fl i)=F at h7 rl3 ⊢;refine ⟨fun b G'=>G'=G7/\(b=true->∃ p x t,r= .lt p x t/\x∈F)/\(b=false->st1 F r=F),?_,?_⟩
   ·refine ⟨_,rfl,r.p,_,_,.str r.w,rfl,rfl,aO.of hr1.at,jQ,rfl,_,rfl,?_⟩
    by_cases c:r.w="let"
    ·refine bD (by rw [c];exact ag rfl) ?_;obtain ⟨p',x,t,rfl⟩:=aT0 hr1 c;refine ⟨_,rfl,p',_,_,.str x,rfl,rfl,aO.of hr1.1,at1,_,rfl,lf,_,rfl,.inl (bC.of h7),rfl,eA _,_,rfl,rfl,fun z=>⟨p',x,t,rfl,ai ((bW _ _).symm.trans z)⟩,fun z=>?_⟩;have z:=uo ((bW _ _).symm.trans z);exact ak z
    ·refine aU (fun z=>c (by have z:=ai z;injection z)) ⟨rfl,(fun z=>absurd z (by decide)),fun _=>?_⟩
     cases r with
     | lt p x t=>exact absurd rfl c
     | _=>rfl
   rintro b G' ⟨rfl,hb1,hb2⟩
   cases b with
   | false =>
    refine aU (by simp) ?_;rw [hb2 rfl];exact ⟨lf,_,rfl,s7,h7⟩
   | true =>
    refine bD rfl ?_;obtain ⟨p',x,t,rfl,hx⟩:=hb1 rfl;have okt:=okf _ mr t (ax.mpr rfl);have nl:=t.names_len;rw [show st1 F (.lt p' x t)=F++t.names.filter (fun x=> !decide (x∈F)) from ay hx];have nf:=jm (fun x=> !decide (x∈F)) t.names;refine ⟨_,rfl,_,rfl,p',_,_,.ref t.p,rfl,rfl,aO.of hr1.1,rfl,t,rfl,hr1.2,okt.1,okt.1,fun q H8 s8 h8=>⟨q,rfl,⟨_,bC.of h8⟩,dL (K:=K) (a:=q) (xs:=t.names.map V.str) (fun i ys σ G=>G=H8/\(∃ v,σ=[v,some (.ref lf)])/\ys=((t.names.take i).filter fun x=> !decide (x∈F)).map V.str)
     (eI (by rw [ac];lia)) ⟨rfl,⟨_,rfl⟩,rfl⟩ (fun i ys σ G ⟨_,_,e⟩=>by
      rw [e,ac];exact cu (jm _ _) (by rw [cp];lia)) (by rintro i ys σ G _ ⟨e,_⟩;rw [e];exact bC.of h8) ?_ ?_⟩⟩
    ·rintro i v ys σ G hv ⟨rfl,⟨v',rfl⟩,rfl⟩;obtain ⟨y,rfl,hy⟩:=pY hv;refine ⟨_,rfl,_,rfl,lf,_,rfl,.inl (bC.of (s8 _ _ h7)),rfl,eA _,_,rfl,?_⟩;rw [mH,aT hy,uq,bm]
     by_cases c:(!decide (y∈F))=true
     ·refine bD c ⟨_,rfl,rfl,⟨_,rfl⟩,?_⟩;rw [en (p:=fun x=> !decide (x∈F)) c];rfl
     ·refine aU c ⟨rfl,⟨_,rfl⟩,?_⟩;rw [ej (p:=fun x=> !decide (x∈F)) c];simp
    rintro ys σ G9 ⟨rfl,_,rfl⟩ l9 hl9;rw [ac,bv];generalize t.names.filter (fun x=> !decide (x∈F))=nz at nf ⊢;obtain ⟨H9,e0,s9,h9⟩:=gG hl9 (.lst (nz.map V.str));rw [e0];clear e0;refine ⟨lf,l9,_,_,rfl,rfl,(s8.trans s9) _ _ h7,h9,bu (uE (by rw [ac,ac];lia)),fun l10 hl10=>⟨l10,_,rfl,s7.trans (s8.trans (s9.trans (aB hl10 _))),?_⟩⟩;rw [aD,bm]
  ·rintro σ G7 ⟨lf,v3,rfl,s7,h7⟩;rw [bR,bv] at h7;exact ⟨lf,_,_,rfl,s7,h7⟩
 ·rintro σ G' ⟨lf,v3,v4,rfl,s6,h6⟩;rw [bR] at h6;have don:=aO3 fl;generalize iM fl fl.length=F at h6 don;have fx:∀ x∈F,x∈xs:=fun x hx=>rW okf ((don x).mp hx)
  have xl:=P0.xl;refine ⟨_,rfl,lf,F,rfl,bC.of h6,fun ds nd sub=>?_,fun a ha=>⟨a,F,rfl,aD,fun ds nd mem=>?_,fun ts' nd mem st l hl=>?_⟩⟩
  ·have:=pJ (xs:=tk xs) nd fun j hj=>by
    obtain ⟨x,hx,e⟩:=cy.mp (sub j hj);exact cy.mpr ⟨x,fx x hx,e⟩
   rw [ac] at this
   lia
  ·have:=pJ nd fun x hx=>fx x ((mem x).mp hx)
   lia
  ·exact k' l ts' _ (s1.trans (s6.trans ((aB ha _).trans (aB hl _)))) aD nd st fun x=>(mem x).trans (don x)
theorem bW9  : dZ P w K mg base "_law_idle" "_law_idle" cG1 1 ["_law_row_here","_law_names_here"] spLId:=by
 refine eQ ["_law_row_here","_law_names_here"] fun H Q nd hr h=>?_
 obtain ⟨r,np,ss,rfl,hr0,hn,k⟩:=h;refine ⟨_,(@aE _ _ _ (aJ (mL (pec bU (aZ aG (pv 0) aC) (@aM _ _ _ _ _ (@aA _ _ _ _ _ aH (@aA _ _ _ _ _ aH (@aA _ _ _ _ _ aH (@aA _ _ _ _ _ aH (@aA _ _ _ _ _ aH cD rfl) rfl) rfl) rfl) rfl))) (mJ (pec jV (aZ aG (pv 0) aC) (pv 1)))))),?_⟩;refine ⟨_,rfl,r.p,_,_,.str r.w,rfl,rfl,aO.of hr0.at,jQ,by show 5<=sizeLine;decide,fun t2 ht2=>?_⟩;have s6:=aB ht2 (.tup [.str "ladder",.str "flat",.str "choose",.str "first",.str "let"]);refine ⟨t2,[.str "ladder",.str "flat",.str "choose",.str "first",.str "let"],rfl,.inr (aO.of aD),rfl,by decide,_,rfl,?_⟩;generalize aQ H t2 (.tup [.str "ladder",.str "flat",.str "choose",.str "first",.str "let"])=G6 at s6 ⊢;have ei:mU (V.str r.w) [.str "ladder",.str "flat",.str "choose",.str "first",.str "let"]=decide (r.w∈(["ladder","flat","choose","first","let"]:List Str)):=bW _ ["ladder","flat","choose","first","let"];rw [bD6 hr0] at ei
 cases e:r.sets with
 | none =>
  rw [e] at ei;rw [aA0 e] at k;exact aU (fun z=>absurd (ei.symm.trans z) (by decide)) (k _ s6)
 | some x =>
  rw [e] at ei;rw [yM e] at k;obtain ⟨vs,hv⟩:=aI1 hr0 e;refine bD ei ?_;refine ⟨_,rfl,r.p,_,_,.str x,rfl,rfl,aO.of (s6 _ _ hv),at1,_,rfl,np,_,rfl,.inl (bC.of (s6 _ _ hn)),rfl,eA _,?_⟩;rw [mH];exact k _ s6
theorem bN1  : dZ P w K mg base "common_divisor" "common_divisor" cJ1 1 ["one","other"] spGcd:=by
 refine eQ ["one","other","remainder"] fun H Q nd hr h=>?_
 obtain ⟨a,b,rfl,ha,hb,k⟩:=h;refine ⟨_,(aF (fP ie (eT qK (pv 1) aC)
  (dB 2 nd (aK fR (pv 0) (pv 1))
  (dB 0 nd (pv 1)
  (aE (zV 1 nd (pv 2))))))
  (aE (aJ (pv 0)))),?_⟩
 refine ⟨fun j σ H1=>H1=H/\∃ (x y:Int) (r:Option V),σ=[some (.int x),some (.int y),r]/\0<=x/\0<=y/\gI x y=gI a b/\j=y.toNat,⟨_,rfl,a,b,none,rfl,ha,hb,rfl,rfl⟩,?_⟩;rintro j σ H1 ⟨rfl,x,y,r,rfl,hx,hy,hg,rfl⟩;refine ⟨_,rfl,rfl,_,rfl,?_⟩
 by_cases y0:y=0
 ·subst y0;refine bL1 rfl ⟨_,rfl,?_⟩;rw [<- hg,aI6 hx] at k;exact k
 ·have yp:0 < y:=by lia
  have e:(!decide (V.int y=V.int 0))=true:=by simp [y0]
  rw [e];refine ⟨fun σ' H'=>H'=H1/\∃ r',σ'=[some (.int y),some (.int (x % y)),r'],fun σ' H' ⟨e1,r',e2⟩=>⟨(x % y).toNat,?_,e1,y,x % y,r',e2,hy,kq _ y0,(yS hx yp).trans hg,rfl⟩,?_⟩
  ·have:=nv x yp;have:=kq x y0
   lia
  ·exact ⟨_,rfl,_,rfl,_,_,rfl,rfl,yp,_,rfl,_,rfl,rfl,_,rfl⟩
theorem bW7 (C_Gcd:Cl P w K mg base 1 spGcd "common_divisor"):dZ P w K mg base "lowest" "lowest" cE6 2 ["top","bottom"] spLowX:=by
 refine eQ ["top","bottom","divisor"] fun H Q nd hr h=>?_
 obtain ⟨a,b,rfl,ha,hb,hz,k⟩:=h;refine ⟨_,(dB 2 nd (bG C_Gcd hr (aA (pv 0) (aN (pv 1))))
  (aE (aJ (aM (aA (aK nN (pv 0) (pv 2)) (aN (aK nN (pv 1) (pv 2)))))))),?_⟩
 have g0:0 < gI a b:=qN hb;obtain ⟨n,hn,hn2⟩:=hz;have g1:∃ n,bT n (gI a b)/\n<=8990:=⟨n,bz (by have:=bK4 (a:=a) hb;lia) hn,hn2⟩
 refine ⟨_,rfl,_,rfl,a,b,rfl,ha,by (exact oqb),?_⟩;exact ⟨_,rfl,_,rfl,_,_,rfl,rfl,⟨g0,g1⟩,_,rfl,_,rfl,_,_,rfl,rfl,⟨g0,g1⟩,bM,fun p hp=>k p hp⟩
theorem bM3  : dZ P w K mg base "_law_common" "_law_common" cH8 1 ["_law_one","_law_other"] spGcd:=by
 refine eQ ["_law_one","_law_other"] fun H Q nd hr h=>?_
 obtain ⟨a,b,rfl,ha,hb,k⟩:=h;refine ⟨_,(aF (fP ie (eT kM (pv 1) aC)
  (aE (bO3 (i:=0) (j:=1) rfl nd rfl rfl (by decide) rfl rfl (aA (pv 1) (aN (aK fR (pv 0) (pv 1)))) rfl)))
  (aE (aJ (pv 0)))),?_⟩
 refine ⟨fun j σ H1=>H1=H/\∃ (x y:Int),σ=[some (.int x),some (.int y)]/\0<=x/\0<=y/\gI x y=gI a b/\j=y.toNat,⟨_,rfl,a,b,rfl,ha,hb,rfl,rfl⟩,?_⟩;rintro j σ H1 ⟨rfl,x,y,rfl,hx,hy,hg,rfl⟩;refine ⟨_,rfl,_,_,rfl,rfl,_,rfl,?_⟩;refine nL (fun c=>?_) (fun c=>?_)
 ·have yp:0 < y:=ai c;refine ⟨fun σ' H'=>H'=H1/\σ'=[some (.int y),some (.int (x % y))],fun σ' H' ⟨e1,e2⟩=>⟨(x % y).toNat,?_,e1,y,x % y,e2,hy,kq _ (by (exact oqt)),(yS hx yp).trans hg,rfl⟩,?_⟩
  ·have:=nv x yp;have:=kq x (show y≠0 by (exact oqt))
   lia
  ·exact ⟨_,rfl,_,rfl,_,rfl,_,_,rfl,rfl,yp,_,_,rfl,rfl,rfl⟩
 ·have y0:y=0:=by
   have:¬ 0 < y:=fun z=>c (ag z)
   lia
  subst y0;rw [<- hg,aI6 hx] at k;exact ⟨_,rfl,k⟩
theorem bP2 (C_LGc:Cl P w K mg base 1 spGcd "_law_common"):dZ P w K mg base "_law_lowest" "_law_lowest" cE5 2 ["_law_top","_law_bottom"] spLowX:=by
 refine eQ ["_law_top","_law_bottom","_law_d"] fun H Q nd hr h=>?_
 obtain ⟨a,b,rfl,ha,hb,hz,k⟩:=h;refine ⟨_,(dB 2 nd (bG C_LGc hr (aA (pv 0) (aN (pv 1))))
  (aE (aJ (aM (aA (aK nN (pv 0) (pv 2)) (aN (aK nN (pv 1) (pv 2)))))))),?_⟩
 have g0:0 < gI a b:=qN hb;obtain ⟨n,hn,hn2⟩:=hz;have g1:∃ n,bT n (gI a b)/\n<=8990:=⟨n,bz (by have:=bK4 (a:=a) hb;lia) hn,hn2⟩
 refine ⟨_,rfl,_,rfl,a,b,rfl,ha,by (exact oqb),?_⟩;exact ⟨_,rfl,_,rfl,_,_,rfl,rfl,⟨g0,g1⟩,_,rfl,_,rfl,_,_,rfl,rfl,⟨g0,g1⟩,bM,fun p hp=>k p hp⟩
theorem bR4 (C_Low:Cl P w K mg base 2 spLowX "lowest"):dZ P w K mg base "added" "added" cI0 3 ["one","other"] (xA K):=by
 refine eQ ["one","other"] fun H Q nd hr h=>?_
 obtain ⟨p,q,⟨a,b⟩,⟨c,d⟩,rfl,hp,hq,fu,fe,k⟩:=h;refine ⟨_,(aE (aJ (bG C_Low hr (aA (aK cB (aK cN (aZ aG (pv 0) aC) (aZ aG (pv 1) aC)) (aK cN (aZ aG (pv 1) aC) (aZ aG (pv 0) aC))) (aN (aK cN (aZ aG (pv 0) aC) (aZ aG (pv 1) aC))))))),?_⟩;have bd:0 < b * d:=gu (show 0 < b by have:=fu.b;exact this) (show 0 < d by have:=fe.b;exact this);have m1:0<=a * d:=di fu.a (wb (by decide) fe.b);have m2:0<=c * b:=di fe.a (wb (by decide) fu.b);refine ⟨_,rfl,p,_,_,_,rfl,rfl,hp,tJ a b,_,rfl,q,_,_,_,rfl,rfl,hq,nV c d,_,_,rfl,rfl,⟨1000,1000,fu.ba,fe.bb,by decide,by decide⟩,?_⟩;refine ⟨_,rfl,q,_,_,_,rfl,rfl,hq,tJ c d,_,rfl,p,_,_,_,rfl,rfl,hp,nV a b,_,_,rfl,rfl,⟨1000,1000,fe.ba,fu.bb,by decide,by decide⟩,_,_,rfl,rfl,?_⟩;refine ⟨_,rfl,p,_,_,_,rfl,rfl,hp,nV a b,_,rfl,q,_,_,_,rfl,rfl,hq,nV c d,_,_,rfl,rfl,⟨1000,1000,fu.bb,fe.bb,by decide,by decide⟩,?_⟩;exact ⟨_,_,rfl,Int.add_nonneg m1 m2,bd,⟨1000+1000,bT.mul fu.bb fe.bb,by decide⟩,k⟩
theorem bQ6 (C_Low:Cl P w K mg base 2 spLowX "lowest"):dZ P w K mg base "times" "times" cI2 3 ["one","other"] (mE K):=by
 refine eQ ["one","other"] fun H Q nd hr h=>?_
 obtain ⟨p,q,⟨a,b⟩,⟨c,d⟩,rfl,hp,hq,fu,fe,k⟩:=h;refine ⟨_,(aE (aJ (bG C_Low hr (aA (aK cN (aZ aG (pv 0) aC) (aZ aG (pv 1) aC)) (aN (aK cN (aZ aG (pv 0) aC) (aZ aG (pv 1) aC))))))),?_⟩;have bd:0 < b * d:=gu (show 0 < b by have:=fu.b;exact this) (show 0 < d by have:=fe.b;exact this);refine ⟨_,rfl,p,_,_,_,rfl,rfl,hp,tJ a b,_,rfl,q,_,_,_,rfl,rfl,hq,tJ c d,_,_,rfl,rfl,⟨1000,1000,fu.ba,fe.ba,by decide,by decide⟩,?_⟩;refine ⟨_,rfl,p,_,_,_,rfl,rfl,hp,nV a b,_,rfl,q,_,_,_,rfl,rfl,hq,nV c d,_,_,rfl,rfl,⟨1000,1000,fu.bb,fe.bb,by decide,by decide⟩,?_⟩;exact ⟨_,_,rfl,di fu.a fe.a,bd,⟨1000+1000,bT.mul fu.bb fe.bb,by decide⟩,k⟩
theorem aQ9 (C_Low:Cl P w K mg base 2 spLowX "lowest"):dZ P w K mg base "minus" "minus" aU9 3 ["one","other"] spMinus:=by
 refine eQ ["one","other"] fun H Q nd hr h=>?_
 obtain ⟨p,q,a,b,c,d,rfl,hp,hq,ha,hb,hc,hd,b1,d1,hle,k⟩:=h;refine ⟨_,(aE (aJ (bG C_Low hr (aA (aK cV (aK lH (aZ aG (pv 0) aC) (aZ aG (pv 1) aC)) (aK lH (aZ aG (pv 1) aC) (aZ aG (pv 0) aC))) (aN (aK lH (aZ aG (pv 0) aC) (aZ aG (pv 1) aC))))))),?_⟩;have m2:=vX hb.1 hb.2 hd.1 hd.2;have m3:1<=b * d:=by have:=gu (show 0 < b by (exact oqe)) (show 0 < d by (exact oqe));lia
 refine ⟨_,rfl,p,_,_,_,rfl,rfl,aO.of hp,tJ a b,_,rfl,q,_,_,_,rfl,rfl,aO.of hq,nV c d,_,_,rfl,rfl,⟨ha.below,hd.below⟩,?_⟩;refine ⟨_,rfl,q,_,_,_,rfl,rfl,aO.of hq,tJ c d,_,rfl,p,_,_,_,rfl,rfl,aO.of hp,nV a b,_,_,rfl,rfl,⟨hc.below,hb.below⟩,_,_,rfl,rfl,?_⟩;refine ⟨_,rfl,p,_,_,_,rfl,rfl,aO.of hp,nV a b,_,rfl,q,_,_,_,rfl,rfl,aO.of hq,nV c d,_,_,rfl,rfl,⟨hb.below,hd.below⟩,?_⟩;exact ⟨_,_,rfl,by (exact oqn),m3,⟨180+180,bT.of m2.1 m2.2,by decide⟩,k⟩
theorem bO1  : dZ P w K mg base "less" "less" bZ4 1 ["one","other"] (mZ K):=by
 refine eQ ["one","other"] fun H Q nd hr h=>?_
 obtain ⟨p,q,⟨a,b⟩,⟨c,d⟩,rfl,hp,hq,fu,fe,k⟩:=h;refine ⟨_,(aE (aJ (pec nK (aK cN (aZ aG (pv 0) aC) (aZ aG (pv 1) aC)) (aK cN (aZ aG (pv 1) aC) (aZ aG (pv 0) aC))))),?_⟩;refine ⟨_,rfl,p,_,_,_,rfl,rfl,hp,tJ a b,_,rfl,q,_,_,_,rfl,rfl,hq,nV c d,_,_,rfl,rfl,⟨1000,1000,fu.ba,fe.bb,by decide,by decide⟩,?_⟩;exact ⟨_,rfl,q,_,_,_,rfl,rfl,hq,tJ c d,_,rfl,p,_,_,_,rfl,rfl,hp,nV a b,_,_,rfl,rfl,⟨1000,1000,fe.ba,fu.bb,by decide,by decide⟩,_,_,rfl,rfl,k⟩
theorem bY5 (m_range:mg "range"=none):dZ P w K mg base "_law_pow" "_law_pow" cC7 1 ["_law_n","_law_k"] spPowI:=by
 refine eQ ["_law_n","_law_k","_law_found","_law_j"] fun H Q nd hr h=>?_
 obtain ⟨a,n,rfl,a0,a9,n0,n1,k⟩:=h;refine ⟨_,(dB 2 nd aC
  (aF (pK (dN (by rfl) m_range (aN (pv 1))) (eN 3 nd)
  (aE (zV 2 nd (aK lH (pv 2) (pv 0)))))
  (aE (aJ (pv 2))))),?_⟩
 refine ⟨_,rfl,_,rfl,by (exact oqb),by (exact oqc),jJ (n:=n.toNat) (fun i σ H1=>H1=H/\∃ v,σ=[some (.int a),some (.int n),some (.int (a ^ i)),v])
  ⟨rfl,none,by rw [mj];rfl⟩ ?_ ?_⟩
 ·rintro i σ H1 hi ⟨rfl,v,rfl⟩;have e1:=aD2 (n:=i) a0 a9 (by lia);refine ⟨_,rfl,_,rfl,_,_,rfl,rfl,⟨⟨by lia,by lia⟩,⟨by (exact oqe),by (exact oqc)⟩⟩,?_⟩;refine ⟨rfl,some (.int (0+(i:Int))),?_⟩;rw [jp];rfl
 ·rintro σ H1 ⟨rfl,v,rfl⟩;exact ⟨_,rfl,k⟩
theorem bO6 (C_LLo:Cl P w K mg base 2 spLowX "_law_lowest"):dZ P w K mg base "_law_times" "_law_times" cF7 3 ["_law_one","_law_other"] (mE K):=by
 refine eQ ["_law_one","_law_other"] fun H Q nd hr h=>?_
 obtain ⟨p,q,⟨a,b⟩,⟨c,d⟩,rfl,hp,hq,fu,fe,k⟩:=h;refine ⟨_,(aE (aJ (bG C_LLo hr (aA (aK cN (aZ aG (pv 0) aC) (aZ aG (pv 1) aC)) (aN (aK cN (aZ aG (pv 0) aC) (aZ aG (pv 1) aC))))))),?_⟩;have bd:0 < b * d:=gu (show 0 < b by have:=fu.b;exact this) (show 0 < d by have:=fe.b;exact this);refine ⟨_,rfl,p,_,_,_,rfl,rfl,hp,tJ a b,_,rfl,q,_,_,_,rfl,rfl,hq,tJ c d,_,_,rfl,rfl,⟨1000,1000,fu.ba,fe.ba,by decide,by decide⟩,?_⟩;refine ⟨_,rfl,p,_,_,_,rfl,rfl,hp,nV a b,_,rfl,q,_,_,_,rfl,rfl,hq,nV c d,_,_,rfl,rfl,⟨1000,1000,fu.bb,fe.bb,by decide,by decide⟩,?_⟩;exact ⟨_,_,rfl,di fu.a fe.a,bd,⟨1000+1000,bT.mul fu.bb fe.bb,by decide⟩,k⟩
theorem bW2 (C_LLo:Cl P w K mg base 2 spLowX "_law_lowest"):dZ P w K mg base "_law_added" "_law_added" cJ9 3 ["_law_one","_law_other"] (xA K):=by
 refine eQ ["_law_one","_law_other"] fun H Q nd hr h=>?_
 obtain ⟨p,q,⟨a,b⟩,⟨c,d⟩,rfl,hp,hq,fu,fe,k⟩:=h;refine ⟨_,(aE (aJ (bG C_LLo hr (aA (aK cB (aK cN (aZ aG (pv 0) aC) (aZ aG (pv 1) aC)) (aK cN (aZ aG (pv 1) aC) (aZ aG (pv 0) aC))) (aN (aK cN (aZ aG (pv 0) aC) (aZ aG (pv 1) aC))))))),?_⟩;have bd:0 < b * d:=gu (show 0 < b by have:=fu.b;exact this) (show 0 < d by have:=fe.b;exact this);have m1:0<=a * d:=di fu.a (wb (by decide) fe.b);have m2:0<=c * b:=di fe.a (wb (by decide) fu.b);refine ⟨_,rfl,p,_,_,_,rfl,rfl,hp,tJ a b,_,rfl,q,_,_,_,rfl,rfl,hq,nV c d,_,_,rfl,rfl,⟨1000,1000,fu.ba,fe.bb,by decide,by decide⟩,?_⟩;refine ⟨_,rfl,q,_,_,_,rfl,rfl,hq,tJ c d,_,rfl,p,_,_,_,rfl,rfl,hp,nV a b,_,_,rfl,rfl,⟨1000,1000,fe.ba,fu.bb,by decide,by decide⟩,_,_,rfl,rfl,?_⟩;refine ⟨_,rfl,p,_,_,_,rfl,rfl,hp,nV a b,_,rfl,q,_,_,_,rfl,rfl,hq,nV c d,_,_,rfl,rfl,⟨1000,1000,fu.bb,fe.bb,by decide,by decide⟩,?_⟩;exact ⟨_,_,rfl,Int.add_nonneg m1 m2,bd,⟨1000+1000,bT.mul fu.bb fe.bb,by decide⟩,k⟩
theorem bN8  : dZ P w K mg base "_law_below" "_law_below" cG0 1 ["_law_one","_law_other"] (mZ K):=by
 refine eQ ["_law_one","_law_other"] fun H Q nd hr h=>?_
 obtain ⟨p,q,⟨a,b⟩,⟨c,d⟩,rfl,hp,hq,fu,fe,k⟩:=h;refine ⟨_,(aE (aJ (pec nK (aK cN (aZ aG (pv 0) aC) (aZ aG (pv 1) aC)) (aK cN (aZ aG (pv 1) aC) (aZ aG (pv 0) aC))))),?_⟩;refine ⟨_,rfl,p,_,_,_,rfl,rfl,hp,tJ a b,_,rfl,q,_,_,_,rfl,rfl,hq,nV c d,_,_,rfl,rfl,⟨1000,1000,fu.ba,fe.bb,by decide,by decide⟩,?_⟩;exact ⟨_,rfl,q,_,_,_,rfl,rfl,hq,tJ c d,_,rfl,p,_,_,_,rfl,rfl,hp,nV a b,_,_,rfl,rfl,⟨1000,1000,fe.ba,fu.bb,by decide,by decide⟩,_,_,rfl,rfl,k⟩
theorem bP9 (C_LBl:Cl P w K mg base 1 (mZ K) "_law_below") (m_int:mg "int"=none):dZ P w K mg base "_law_greater" "_law_greater" cI7 2 ["_law_one","_law_other"] (bJ8 K):=by
 refine eQ ["_law_one","_law_other"] fun H Q nd hr h=>?_
 obtain ⟨p,q,u,e,rfl,hp,hq,fu,fe,k⟩:=h;refine ⟨_,(aE (aJ (aZ bQ (bK (aA (pv 0) (aN (pv 1)))) (tQ fY m_int ip (aN (bG C_LBl hr (aA (pv 0) (aN (pv 1))))))))),?_⟩;refine ⟨_,rfl,_,rfl,bM,fun l hl=>?_⟩;obtain ⟨H1,e0,s1,h1⟩:=gG hl (.lst [.ref p,.ref q]);rw [e0];clear e0;refine ⟨_,rfl,_,rfl,p,q,u,e,rfl,hp.s s1,hq.s s1,fu,fe,.inr ⟨_,rfl,?_⟩⟩
 by_cases c:u.1 * e.2 < e.1 * u.2
 ·refine ⟨l,_,_,.ref q,rfl,rfl,bC.of h1,by rw [ay (ag c)];rfl,k _ q s1 ?_⟩;unfold kC;rw [ay c];exact hq.s s1
 ·refine ⟨l,_,_,.ref p,rfl,rfl,bC.of h1,by rw [ak (by simpa using c)];rfl,k _ p s1 ?_⟩;unfold kC;rw [ak c];exact hp.s s1
theorem bV1 (m_range:mg "range"=none):dZ P w K mg base "power" "power" cD4 1 ["one","k"] (wX K):=by
 refine eQ ["one","k","top","bottom","step"] fun H Q nd hr h=>?_
 obtain ⟨p,⟨a,b⟩,n,rfl,hp,ba,bb,n0,n1,k⟩:=h;refine ⟨_,(dB 2 nd aC
  (dB 3 nd aC
  (aF (pK (dN (by rfl) m_range (aN (pv 1))) (eN 4 nd)
  (dB 2 nd (aK cN (pv 2) (aZ aG (pv 0) aC))
  (aE (zV 3 nd (aK cN (pv 3) (aZ aG (pv 0) aC))))))
  (aE (aJ (aM (aA (pv 2) (aN (pv 3))))))))),?_⟩
 refine ⟨_,rfl,_,rfl,by (exact oqb),by (exact oqc),jJ (n:=n.toNat) (fun i σ H1=>H1=H/\∃ v,σ=[some (.ref p),some (.int n),some (.int (a ^ i)),some (.int (b ^ i)),v])
  ⟨rfl,none,by rw [mj,mj];rfl⟩ ?_ ?_⟩
 ·rintro i σ H1 hi ⟨rfl,v,rfl⟩;have i21:1000 * i+1<=100000:=by lia
  refine ⟨_,rfl,_,rfl,p,_,_,_,rfl,rfl,hp,tJ a b,_,_,rfl,rfl,⟨1000 * i+1,1000,bT.pow ba i,ba,i21,by decide⟩,?_⟩;refine ⟨_,rfl,_,rfl,p,_,_,_,rfl,rfl,hp,nV a b,_,_,rfl,rfl,⟨1000 * i+1,1000,bT.pow bb i,bb,i21,by decide⟩,?_⟩;refine ⟨rfl,some (.int (0+(i:Int))),?_⟩;rw [jp,jp];rfl
 ·rintro σ H1 ⟨rfl,v,rfl⟩;exact ⟨_,rfl,_,rfl,bM,fun r hr'=>k r hr'⟩
theorem bT8 (C_Tms:Cl P w K mg base 3 (mE K) "times") (C_Pow:Cl P w K mg base 1 (wX K) "power"):dZ P w K mg base "far_tail" "far_tail" cF4 4 ["steepness","k"] (bE1 0 21 (fun p q k=>wS p q k.toNat) (fun p q k=>oW p q k.toNat)):=by
 refine eQ ["steepness","k"] fun H Q nd hr h=>?_
 obtain ⟨st,p,q,n,rfl,hst,hs,n0,n1,k⟩:=h;refine ⟨_,(aE (aJ (bG C_Tms hr (aA (aM (aA (aZ aG (pv 0) aC) (aN (aK cB (aZ aG (pv 0) aC) (aZ aG (pv 0) aC))))) (aN (bG C_Pow hr (aA (pv 0) (aN (pv 1))))))))),?_⟩;obtain ⟨p1,pq,q9⟩:=id hs;refine ⟨_,rfl,st,_,_,_,rfl,rfl,aO.of hst,nV p q,_,rfl,st,_,_,_,rfl,rfl,aO.of hst,nV p q,_,rfl,st,_,_,_,rfl,rfl,aO.of hst,tJ p q,_,_,rfl,rfl,bM,fun t ht=>?_⟩;have g1:aS H (aQ H t (.tup [.int q,.int (q+p)])):=aB ht _;have ht1:fO (aQ H t (.tup [.int q,.int (q+p)])) t q (q+p):=aD;generalize aQ H t (.tup [.int q,.int (q+p)])=H1 at g1 ht1 ⊢;refine ⟨_,rfl,_,rfl,st,(p,q),n,rfl,bJ.of (g1 _ _ hst),(b4 (by (exact oqb)) (by lia)).mono (by decide),(b4 (by lia) (by assumption)).mono (by decide),n0,n1,fun r hr'=>?_⟩;have g2:aS H1 (aQ H1 r (.tup [.int (p ^ n.toNat),.int (q ^ n.toNat)])):=aB hr' _;have hr2:fO (aQ H1 r (.tup [.int (p ^ n.toNat),.int (q ^ n.toNat)])) r (p ^ n.toNat) (q ^ n.toNat):=aD
 generalize aQ H1 r (.tup [.int (p ^ n.toNat),.int (q ^ n.toNat)])=H2 at g2 hr2 ⊢;have e1:=aD2 (a:=p) (n:=n.toNat) (by (exact oqb)) (by lia) (by lia);have e2:=aD2 (a:=q) (n:=n.toNat) (by lia) (by assumption) (by lia);have e3:1<=q ^ n.toNat:=pw1 (by lia) _;have f1:fV 1000 (q,q+p):=⟨show 0<=q by lia,show 1<=q+p by lia,(bT.of (n:=5) (show 0<=q by lia) (by (exact oqc))).mono (by decide),(bT.of (n:=5) (show 0<=q+p by lia) (by lia)).mono (by decide)⟩
 have f2:fV 1000 (p ^ n.toNat,q ^ n.toNat):=⟨e1.1,e3,(bT.of e1.1 e1.2).mono (by decide),(bT.of e2.1 e2.2).mono (by decide)⟩
 refine ⟨t,r,(q,q+p),(p ^ n.toNat,q ^ n.toNat),rfl,bJ.of (g2 _ _ ht1),bJ.of hr2,f1,f2,fun u hu'=>?_⟩;exact k _ u (g1.trans (g2.trans (aB hu' _))) aD
theorem bG8 (C_Minus:Cl P w K mg base 3 spMinus "minus") (C_Far:Cl P w K mg base 4 (bE1 0 21 (fun p q k=>wS p q k.toNat) (fun p q k=>oW p q k.toNat)) "far_tail"):dZ P w K mg base "tail_of" "tail_of" bK9 5 ["steepness","k"] (bE1 (-20) 21 tN tD):=by
 refine eQ ["steepness","k"] fun H Q nd hr h=>?_
 obtain ⟨st,p,q,n,rfl,hst,hs,n0,n1,k⟩:=h;refine ⟨_,(aF (bB (eT yN (pv 1) aC) (aE (aJ (bG C_Far hr (aA (pv 0) (aN (pv 1)))))) aR)
  (aE (aJ (bG C_Minus hr (aA (aM (aA aC (aN aC))) (aN (bG C_Far hr (aA (pv 0) (aN (aK cV aC (pv 1))))))))))),?_⟩
 obtain ⟨p1,pq,q9⟩:=id hs;refine ⟨_,rfl,_,_,rfl,rfl,_,rfl,?_⟩;refine nL (fun c=>?_) (fun c=>?_)
 ·have c0:0<=n:=ai c;refine ⟨_,rfl,_,rfl,st,p,q,n,rfl,hst,hs,c0,n1,fun H' r s t=>k H' r s ?_⟩;unfold tN tD;simp only [if_pos c0];exact t
 ·have c0:¬ 0<=n:=fun z=>c (ag z)
  refine ⟨bM,fun t ht=>?_⟩;have g1:aS H (aQ H t (.tup [.int 1,.int 1])):=aB ht _;have ht1:fO (aQ H t (.tup [.int 1,.int 1])) t 1 1:=aD;generalize aQ H t (.tup [.int 1,.int 1])=H1 at g1 ht1 ⊢;refine ⟨_,rfl,_,rfl,_,_,rfl,rfl,st,p,q,1 - n,rfl,g1 _ _ hst,hs,by lia,by lia,fun H2 r g2 hr2'=>?_⟩;have hr2:fO H2 r (fH (wS p q (1 - n).toNat) (oW p q (1 - n).toNat)) (eM (wS p q (1 - n).toNat) (oW p q (1 - n).toNat)):=hr2';have bd:=cA9 hs (n:=(1 - n).toNat) (by lia);have sp:=aK4 p1 pq (1 - n).toNat;have lb:=bR7 bd.2.2 bd.2.1 sp;have l1:=jB (a:=wS p q (1 - n).toNat) sp;have l2:=bS2 (aI3 p1 pq (1 - n).toNat) sp;refine ⟨t,r,1,1,_,_,rfl,g2 _ _ ht1,hr2,⟨by decide,by decide⟩,⟨by decide,by decide⟩,lb.1,lb.2,by decide,l1,by lia,fun u hu'=>?_⟩;refine k _ u (g1.trans (g2.trans (aB hu' _))) ?_;have rt:=oE (a:=wS p q (1 - n).toNat) (b:=oW p q (1 - n).toNat) bd.2.2.1 sp;have e:=aD4 (a:=1 * eM (wS p q (1 - n).toNat) (oW p q (1 - n).toNat) - fH (wS p q (1 - n).toNat) (oW p q (1 - n).toNat) * 1) (b:=1 * eM (wS p q (1 - n).toNat) (oW p q (1 - n).toNat))
   (c:=oW p q (1 - n).toNat - wS p q (1 - n).toNat) (d:=oW p q (1 - n).toNat) (by lia) (by lia) (by have:=aI3 p1 pq (1 - n).toNat;(exact oqn)) sp (by
    generalize eM (wS p q (1 - n).toNat) (oW p q (1 - n).toNat)=y at rt ⊢;generalize fH (wS p q (1 - n).toNat) (oW p q (1 - n).toNat)=x at rt ⊢
    grind)
  unfold tN tD;simp only [if_neg c0];rw [<- e.1, <- e.2];exact aD
theorem bW5 (C_Pow:Cl P w K mg base 1 (wX K) "power"):dZ P w K mg base "turned_power" "turned_power" cA2 2 ["steepness","k"] spTPow:=by
 refine eQ ["steepness","k"] fun H Q nd hr h=>?_
 obtain ⟨st,p,q,n,rfl,hst,hs,n0,n6,k⟩:=h;refine ⟨_,(aE (aJ (bG C_Pow hr (aA (aM (aA (aZ aG (pv 0) aC) (aN (aZ aG (pv 0) aC)))) (aN (pv 1)))))),?_⟩;obtain ⟨p1,pq,q9⟩:=id hs;refine ⟨_,rfl,st,_,_,_,rfl,rfl,aO.of hst,nV p q,_,rfl,st,_,_,_,rfl,rfl,aO.of hst,tJ p q,bM,fun t ht=>?_⟩;have s1:=aB ht (.tup [.int q,.int p]);have h1:fO (aQ H t (.tup [.int q,.int p])) t q p:=aD;generalize aQ H t (.tup [.int q,.int p])=H1 at s1 h1 ⊢;refine ⟨_,rfl,t,(q,p),n,rfl,bJ.of h1,(b4 (by lia) (by assumption)).mono (by decide),(b4 (by (exact oqb)) (by lia)).mono (by decide),n0,by (exact oqa),fun r hr'=>?_⟩;exact k _ r (s1.trans (aB hr' _)) aD
theorem bO0  : dZ P w K mg base "has_one_sum" "has_one_sum" cJ7 1 ["sort"] spOne4:=by
 refine eQ ["sort"] fun H Q nd hr h=>?_
 obtain ⟨T,rfl,k⟩:=h;refine ⟨_,(aE (aJ (pec bU (pv 0) (aM (aA aH (aN aH)))))),?_⟩;refine ⟨_,rfl,bM,fun t ht=>⟨t,[.str "ladder",.str "flat"],rfl,.inr (aO.of aD),rfl,rfl,?_⟩⟩;show Q (.bl (mU (V.str T.wd) [.str "ladder",.str "flat"])) _;rw [bT6];exact k _ (aB ht _)
theorem bU3  : dZ P w K mg base "place_of_sums" "place_of_sums" cH6 1 ["sort"] spPlc4:=by
 refine eQ ["sort"] fun H Q nd hr h=>?_
 obtain ⟨T,rfl,k⟩:=h;refine ⟨_,(aE (aJ (iZ (eT cH (pv 0) aH) aC aC))),?_⟩;refine ⟨_,rfl,rfl,_,rfl,?_⟩
 by_cases c:T.wd="first"
 ·rw [ay c] at k;exact bD (by rw [c];exact ag rfl) k
 ·rw [ak c] at k;exact aU (fun z=>c (by have z:=ai z;injection z)) k
theorem bT0 (C_Plc:Cl P w K mg base 1 spPlc4 "place_of_sums") (C_One:Cl P w K mg base 1 spOne4 "has_one_sum"):dZ P w K mg base "sums_of" "sums_of" cF6 2 ["row"] spSumT:=by
 refine eQ ["row","asked"] fun H Q nd hr h=>?_
 obtain ⟨p,w,x,d,rfl,hr0,k⟩:=h;refine ⟨_,(dB 1 nd (aZ aG (pv 0) (bG C_Plc hr (aN (aZ aG (pv 0) aC))))
  (aE (aJ (iZ (fJ (bG C_One hr (aN (aZ aG (pv 0) aC)))) (aM (aN (pv 1))) (pv 1))))),?_⟩
 obtain ⟨hp,ok⟩:=hr0;have ew:=ok.wd;subst ew;obtain ⟨a,ha,so⟩:=bG0 ok.at' (x:=x);refine ⟨_,rfl,_,rfl,p,_,_,_,rfl,rfl,aO.of hp,jQ,d.T,rfl,p,_,_,_,rfl,rfl,aO.of hp,ha,?_⟩;refine ⟨_,rfl,p,_,_,_,rfl,rfl,aO.of hp,jQ,d.T,rfl,fun H1 s1=>⟨_,rfl,?_⟩⟩;rcases so with ⟨e,w,ws,rfl,hws,ew⟩ | ⟨e,sm,us,rfl,hsm,tw⟩
 ·refine bD e ?_;exact ⟨_,rfl,jF,fun t ht=>k _ t _ (s1.trans (aB ht _)) aD (by rw [ew];exact ⟨⟨w,rfl,(s1.trans (aB ht _)) _ _ hws⟩,trivial⟩)⟩
 ·refine aU (by rw [e];decide) ?_;exact ⟨_,rfl,k _ sm us s1 (s1 _ _ hsm) (tw.mono fun _ _ z=>z.ts (.of s1))⟩
theorem bQ5 (n:Nat) (C_LTl:Cl P w K mg base (n+1) (aG4 n) "_law_tail") (C_LPw:Cl P w K mg base 1 spPowI "_law_pow"):dZ P w K mg base "_law_tail" "_law_tail" bZ5 (n+1+1) ["_law_steep_here","_law_k"] (aG4 (n+1)):=by
 refine eQ ["_law_steep_here","_law_k","_law_p","_law_q","_law_top","_law_bottom"] fun H Q nd hr h=>?_
 obtain ⟨st,p,q,z,rfl,hst,hs,z0,z1,hn,k⟩:=h;refine ⟨_,(aF (gC (pv 0) (eV rfl (aX (eN 2 nd) (aX (eN 3 nd) dP))))
  (aF (bB (eT nK (pv 1) aC) (aF (gC (bG C_LTl hr (aA (pv 0) (aN (aK cV aC (pv 1))))) (eV rfl (aX (eN 4 nd) (aX (eN 5 nd) dP))))
  (aE (aJ (aM (aA (aK cV (pv 5) (pv 4)) (aN (pv 5))))))) aR)
  (aE (aJ (aM (aA (aK lH (bG C_LPw hr (aA (pv 2) (aN (pv 1)))) (pv 3)) (aN (aK lH (bG C_LPw hr (aA (pv 3) (aN (pv 1)))) (aK cB (pv 2) (pv 3)))))))))),?_⟩
 obtain ⟨p1,pq,q9⟩:=id hs;refine ⟨_,rfl,st,_,rfl,aO.of hst,rfl,_,_,rfl,_,_,rfl,rfl,?_⟩;refine ⟨_,rfl,_,_,rfl,rfl,_,rfl,?_⟩;refine nL (fun c=>?_) (fun c=>?_)
 ·have c0:z < 0:=ai c
  cases n with
  | zero=>exact absurd (hn rfl) (by lia)
  | succ n =>
  refine ⟨_,rfl,_,rfl,_,_,rfl,rfl,st,p,q,1 - z,rfl,hst,hs,by lia,by lia,(fun _=>by lia),fun H1 r s1 h1=>?_⟩;refine ⟨r,_,rfl,aO.of h1,rfl,_,_,rfl,_,_,rfl,rfl,?_⟩;refine ⟨_,rfl,_,rfl,_,_,rfl,rfl,_,rfl,bM,fun t ht=>k _ t (s1.trans (aB ht _)) ?_⟩;have e1:tN p q z=tD p q (1 - z) - tN p q (1 - z):=by
   unfold tN tD;rw [ak (by lia),ay (by lia),ay (by lia)]
  have e2:tD p q z=tD p q (1 - z):=by
   unfold tD;rw [ak (by lia),ay (by lia)]
  rw [e1,e2];exact aD
 ·have c0:0<=z:=by
   have:¬ z < 0:=fun w=>c (ag w)
   lia
  have e1:=aD2 (a:=p) (n:=z.toNat) (by (exact oqb)) (by lia) (by lia);have e2:=aD2 (a:=q) (n:=z.toNat) (by lia) (by assumption) (by lia);refine ⟨_,rfl,_,rfl,p,z,rfl,by (exact oqb),by lia,c0,by (exact oqa),_,rfl,_,_,rfl,rfl,⟨⟨by lia,by lia⟩,⟨by lia,by (exact oqc)⟩⟩,?_⟩;refine ⟨_,rfl,_,rfl,q,z,rfl,by lia,by assumption,c0,by (exact oqa),_,rfl,_,rfl,_,_,rfl,rfl,_,_,rfl,rfl,⟨⟨by lia,by lia⟩,⟨by lia,by lia⟩⟩,bM,fun t ht=>k _ t (aB ht _) ?_⟩;have f1:tN p q z=p ^ z.toNat * q:=by unfold tN wS;rw [ay c0,sn]
  have f2:tD p q z=q ^ z.toNat * (p+q):=by unfold tD oW;rw [ay c0,sn,Int.add_comm]
  rw [f1,f2];exact aD
theorem bN2 {cF cF0 cF1:Addr}(m_FREE:mg "FREE"=some (.ref cF)) (hF:∀ H,aO K H cF [.ref cF0,.ref cF1]/\bJ K H cF0 (1,1)/\bJ K H cF1 (0,1)) (C_Tms:Cl P w K mg base 3 (mE K) "times") (C_TPw:Cl P w K mg base 2 spTPow "turned_power") (C_Low:Cl P w K mg base 2 spLowX "lowest") (C_Tail:Cl P w K mg base 5 (bE1 (-20) 21 tN tD) "tail_of") (C_Sms:Cl P w K mg base 2 spSumT "sums_of") (m_max:mg "max"=none) (m_min:mg "min"=none):dZ P w K mg base "price_of_throw" "price_of_throw" cH1 6 ["row","kind"] (bK6 K):=by
 refine eQ ["row","kind","weight","moves","factor"] fun H Q nd hr h=>?_
 obtain ⟨p,w,x,d,kn,rfl,hr0,hkd,k⟩:=h;have hr2:dQ 2 _:=hr.mono (by decide);have hr5:dQ 5 _:=hr.mono (by decide);refine ⟨_,(dB 2 nd (mO rN m_max rf (aN (cZ ["weights","kind"] [none,some 1] (kL (bG C_Sms hr (aN (pv 0)))) (fun _ _ _ _=>(eN 0)) (fun _ _ _ _=>eS) (fun _ _ _ _=>(aZ (sT K) (pv 0) (pv 1))))))
  (aF (bB (eT cH (pv 2) aC) (aE (aJ (pgl m_FREE))) aR)
  (aF (bB (eT cH (aZ aG (pv 0) aC) aH) (dB 3 nd (aK cB (aK gP aC (aZ aG (pv 0) aC)) aC)
  (aE (aJ (aM (aA (aZ aG (pgl m_FREE) aC) (aN (bG C_Low hr (aA (mO (vI rfl) m_min xz (aA (pv 2) (aN (pv 3)))) (aN (pv 3)))))))))) aR)
  (aF (bB (eT cH (aZ aG (pv 0) aC) aH) (dB 4 nd (bG C_Tms hr (aA (bG C_TPw hr (aA (aZ aG (pv 0) aC) (aN (pv 2)))) (aN (bG C_TPw hr (aA (aZ aG (pv 0) aC) (aN (aK gP aC (pv 2))))))))
  (aE (aJ (aM (aA (pv 4) (aN (bG C_Tail hr (aA (aZ aG (pv 0) aC) (aN (aK cV (aK cV (aZ aG (pv 0) aC) (pv 2)) (aZ aG (pv 0) aC))))))))))) aR)
  (aE (aJ (aM (aA (bG C_TPw hr (aA (aZ aG (pv 0) aC) (aN (pv 2)))) (aN (aZ aG (pgl m_FREE) aC)))))))))),?_⟩
 refine ⟨_,rfl,p,w,x,d,rfl,hr0,fun H1 t us s1 ht tw=>⟨t,rfl,⟨_,aO.of ht⟩,qU (xs:=us) (fun i zs σ G=>G=H1/\(∃ v,σ=[v,some (.int kn)])/\zs=((d.wss.map fun ws=>ws.getD kn 0).take i).map V.int)
  (aV (by have:=tw.length;have:=hr0.2.ws.l4;lia)) ⟨rfl,⟨_,rfl⟩,rfl⟩ (by rintro i zs σ G ⟨_,_,e⟩;rw [e,ac,cp];lia) (by rintro i zs σ G _ ⟨e,_⟩;rw [e];exact aO.of ht) ?_ ?_⟩⟩
 ·rintro j y zs σ _ hy ⟨rfl,⟨v,rfl⟩,rfl⟩;obtain ⟨ws,hws,aw,rfl,hia⟩:=fM tw hy;have lw:=(hr0.2.ws.ws ws (be hws)).1;refine ⟨_,rfl,_,rfl,aw,_,_,_,rfl,rfl,aO.of hia,fB (bK5 (by lia)),rfl,⟨_,rfl⟩,?_⟩;have e:(d.wss.map fun ws=>ws.getD kn 0)[j]?=some (ws.getD kn 0):=by rw [cj,hws];rfl
  rw [aT e,bm];rfl
 rintro zs σ Gx ⟨ex,_,rfl⟩ l9 hl9;replace ex:=ex.symm;subst ex;rw [aG8 tw];refine ⟨l9,_,rfl,bC.of aD,aV1 hr0.2.ws kn,fun wI hin hbd=>?_⟩;have s2:=s1.trans (aB hl9 (.lst ((d.wss.map fun ws=>ws.getD kn 0).map V.int)));generalize aQ H1 l9 (.lst ((d.wss.map fun ws=>ws.getD kn 0).map V.int))=H2 at s2 ⊢;have ew:=bJ9 hr0.2.ws hin hbd;have w03:=aK9 hr0.2.ws kn;clear hin hbd hl9 tw ht s1;subst ew;generalize ewk:wK d kn=wI at w03 k ⊢;obtain ⟨w0,w3⟩:=w03;refine ⟨_,rfl,rfl,_,rfl,?_⟩
 by_cases c0:wI=0
 ·refine bD (by rw [c0];exact ag rfl) ?_;refine k _ _ s2 ?_;unfold lV;rw [ay c0];exact ⟨cF,cF0,cF1,rfl,(hF _).1,(hF _).2.1,(hF _).2.2⟩
 refine aU (fun z=>c0 (by have z:=ai z;injection z)) ?_;have hr2:=fE.ts (.of s2) _ hr0;obtain ⟨hp,ok⟩:=hr2;have ewd:=ok.wd;have vat:=ok.at';have tok:=ok.ok;have kk:∀ H' v,aS H2 H'->dE K H' v (lV d.T wI)->Q v H':=fun H' v s=>k H' v (s2.trans s)
 clear k hr0 ok s2 hkd ewk;unfold lV at kk;rw [ak c0] at kk;obtain ⟨vs,T,wss,kd⟩:=d;replace hp:H2 p=some (.tup (.str w :: .str x :: vs)):=hp;subst ewd
 cases T with
 | fla r lo hi =>
  obtain ⟨wa,ws,e,_,_⟩:=vat;replace e:vs=_:=e;subst e;obtain ⟨r0,r4⟩:=tok;replace r0:0<=r:=r0;replace r4:r<=4:=r4;refine ⟨_,rfl,p,_,_,_,rfl,rfl,aO.of hp,rfl,rfl,_,rfl,bD (ag rfl) ?_⟩;refine ⟨_,rfl,p,_,_,_,rfl,rfl,aO.of hp,rfl,_,_,rfl,rfl,.inl ⟨by decide,by decide⟩,_,_,rfl,rfl,?_⟩;have m0:0<=(if 2 * r+1 < wI then 2 * r+1 else wI):=by split <;> lia
  refine ⟨cF,_,_,_,rfl,rfl,(hF _).1,rfl,_,rfl,_,rfl,wI,2 * r+1,rfl,_,rfl,_,_,rfl,m0,by lia,⟨10,.of (by lia) (by lia),by decide⟩,fun u hu'=>⟨bM,fun t ht=>?_⟩⟩;have s2':=aB hu' (.tup [.int (dR (if 2 * r+1 < wI then 2 * r+1 else wI) (2 * r+1)).1,.int (dR (if 2 * r+1 < wI then 2 * r+1 else wI) (2 * r+1)).2]);exact kk _ (.ref t) (s2'.trans (aB ht _)) ⟨t,cF0,u,rfl,aO.of aD,(hF _).2.1,bJ.ofU ((aB ht _) _ _ aD)⟩
 | fst pa qa pb qb mk lo hi =>
  obtain ⟨sm,us,sa,sb,e,_,_,h1,h2⟩:=vat;replace e:vs=_:=e;subst e;obtain ⟨ca,cb,k0,k9⟩:=tok;refine ⟨_,rfl,p,_,_,_,rfl,rfl,aO.of hp,rfl,rfl,_,rfl,aU (by rw [da];exact nFF) ?_⟩;refine ⟨_,rfl,p,_,_,_,rfl,rfl,aO.of hp,rfl,rfl,_,rfl,bD (ag rfl) ?_⟩;refine ⟨_,rfl,p,_,_,_,rfl,rfl,aO.of hp,rfl,_,rfl,sa,pa,qa,wI,rfl,h1,ca.st,w0,by (exact oqa),fun H3 r3 s3 h3=>?_⟩;refine ⟨_,rfl,p,_,_,_,rfl,rfl,aO.of (s3 _ _ hp),rfl,_,rfl,_,_,rfl,rfl,.inl ⟨by decide,by decide⟩,sb,pb,qb,2 * wI,rfl,s3 _ _ h2,cb.st,by lia,by lia,fun H4 r4 s4 h4=>?_⟩;have q1:∀ {a c:Int},tY a c->fV 1000 (c ^ wI.toNat,a ^ wI.toNat)/\fV 1000 (c ^ (2 * wI).toNat,a ^ (2 * wI).toNat):=fun {a c} h=>by
   have h1:=h.st.p1;have h2:=h.st.pq;have h3:=h.st.q9;exact ⟨⟨fz (by lia),pw1 h1 _,(pwb (by lia) h3 (by lia)).mono (by decide),(pwb (by (exact oqb)) (by lia) (by lia)).mono (by decide)⟩,⟨fz (by lia),pw1 h1 _,(pwb (by lia) h3 (by lia)).mono (by decide),(pwb (by (exact oqb)) (by lia) (by lia)).mono (by decide)⟩⟩
  refine ⟨r3,r4,(qa ^ wI.toNat,pa ^ wI.toNat),(qb ^ (2 * wI).toNat,pb ^ (2 * wI).toNat),rfl,bJ.of (s4 _ _ h3),bJ.of h4,(q1 ca).1,(q1 cb).2,fun r5 hr5=>?_⟩;have s5:=aB hr5 (.tup [.int (fQ (qa ^ wI.toNat,pa ^ wI.toNat) (qb ^ (2 * wI).toNat,pb ^ (2 * wI).toNat)).1,.int (fQ (qa ^ wI.toNat,pa ^ wI.toNat) (qb ^ (2 * wI).toNat,pb ^ (2 * wI).toNat)).2]);have h5:=aD (H:=H4) (a:=r5) (o:= .tup [.int (fQ (qa ^ wI.toNat,pa ^ wI.toNat) (qb ^ (2 * wI).toNat,pb ^ (2 * wI).toNat)).1,.int (fQ (qa ^ wI.toNat,pa ^ wI.toNat) (qb ^ (2 * wI).toNat,pb ^ (2 * wI).toNat)).2]);generalize aQ H4 r5 (.tup [.int (fQ (qa ^ wI.toNat,pa ^ wI.toNat) (qb ^ (2 * wI).toNat,pb ^ (2 * wI).toNat)).1,.int (fQ (qa ^ wI.toNat,pa ^ wI.toNat) (qb ^ (2 * wI).toNat,pb ^ (2 * wI).toNat)).2])=H5 at s5 h5 ⊢;have g5:=s3.trans (s4.trans s5);refine ⟨_,rfl,_,rfl,p,_,_,_,rfl,rfl,aO.of (g5 _ _ hp),rfl,_,rfl,p,_,_,_,rfl,rfl,aO.of (g5 _ _ hp),rfl,_,rfl,_,_,rfl,rfl,_,rfl,p,_,_,_,rfl,rfl,aO.of (g5 _ _ hp),rfl,_,_,rfl,rfl,sa,pa,qa,hi - wI - mk,rfl,g5 _ _ h1,ca.st,by lia,by lia,fun H6 r6 s6 h6=>⟨bM,fun t ht=>?_⟩⟩
  exact kk _ (.ref t) (g5.trans (s6.trans (aB ht _))) ⟨t,r5,r6,rfl,aO.of aD,bJ.ofU ((s6.trans (aB ht _)) _ _ h5),bJ.ofU ((aB ht _) _ _ h6)⟩
 | lad pa qa lo hi =>
  obtain ⟨wa,ws,st,e,_,_,h1⟩:=vat;replace e:vs=_:=e;subst e;refine ⟨_,rfl,p,_,_,_,rfl,rfl,aO.of hp,rfl,rfl,_,rfl,aU (by rw [da];exact nFL) ?_⟩;refine ⟨_,rfl,p,_,_,_,rfl,rfl,aO.of hp,rfl,rfl,_,rfl,aU (by rw [da];exact nIL) ?_⟩;refine ⟨_,rfl,p,_,_,_,rfl,rfl,aO.of hp,rfl,_,rfl,st,pa,qa,wI,rfl,h1,(show tY pa qa from tok).st,w0,by (exact oqa),fun H3 r3 s3 h3=>?_⟩;refine ⟨cF,_,_,_,rfl,rfl,(hF _).1,rfl,bM,fun t ht=>?_⟩;exact kk _ (.ref t) (s3.trans (aB ht _)) ⟨t,r3,cF1,rfl,aO.of aD,bJ.of ((aB ht _) _ _ h3),(hF _).2.2⟩
 | cho pa qa lo hi =>
  obtain ⟨sm,us,st,e,_,_,h1⟩:=vat;replace e:vs=_:=e;subst e;refine ⟨_,rfl,p,_,_,_,rfl,rfl,aO.of hp,rfl,rfl,_,rfl,aU (by rw [da];exact nFC) ?_⟩;refine ⟨_,rfl,p,_,_,_,rfl,rfl,aO.of hp,rfl,rfl,_,rfl,aU (by rw [da];exact nIC) ?_⟩;refine ⟨_,rfl,p,_,_,_,rfl,rfl,aO.of hp,rfl,_,rfl,st,pa,qa,wI,rfl,h1,(show tY pa qa from tok).st,w0,by (exact oqa),fun H3 r3 s3 h3=>?_⟩;refine ⟨cF,_,_,_,rfl,rfl,(hF _).1,rfl,bM,fun t ht=>?_⟩;exact kk _ (.ref t) (s3.trans (aB ht _)) ⟨t,r3,cF1,rfl,aO.of aD,bJ.of ((aB ht _) _ _ h3),(hF _).2.2⟩
theorem bT5 {cT:Addr}(m_THROWS:mg "THROWS"=some (.ref cT)) (hT:∀ H,aO K H cT (dY.map V.str)) {cF cF0 cF1:Addr}(m_FREE:mg "FREE"=some (.ref cF)) (hF:∀ H,aO K H cF [.ref cF0,.ref cF1]/\bJ K H cF0 (1,1)/\bJ K H cF1 (0,1)) (C_POT:Cl P w K mg base 6 (bK6 K) "price_of_throw"):dZ P w K mg base "price_of_row" "price_of_row" cC9 7 ["row","kind"] (aV9 K):=by
 refine eQ ["row","kind"] fun H Q nd hr h=>?_
 obtain ⟨r,kn,rfl,hr0,hk,k⟩:=h;refine ⟨_,(aE (aJ (iZ (eT bU (aZ aG (pv 0) aC) (pgl m_THROWS)) (bG C_POT hr (aA (pv 0) (aN (pv 1)))) (pgl m_FREE)))),?_⟩;refine ⟨_,rfl,r.p,_,_,.str r.w,rfl,rfl,aO.of hr0.at,jQ,cT,_,rfl,.inr (hT _),rfl,eA _,_,rfl,?_⟩;have ei:mU (V.str r.w) (dY.map V.str)=decide (r.w∈dY):=bW _ _;have no:¬ r.w∈dY->aE6 kn r=free->Q (.ref cF) H:=fun _ e=>k H _ (aS.refl _) (by rw [e];exact ⟨cF,cF0,cF1,rfl,(hF _).1,(hF _).2.1,(hF _).2.2⟩)
 cases r with
 | thr p w x d =>
  refine bD (ei.trans (ag (iP.w hr0.2))) ?_;exact ⟨_,rfl,_,rfl,p,w,x,d,kn,rfl,hr0,hk p w x d rfl,k⟩
 | lt p x t =>
  have n:¬ (("let": Str)∈dY):=by decide +kernel
  exact aU (fun z=>n (ai (ei.symm.trans z))) (no n rfl)
 | tell p t =>
  have n:¬ (("tell": Str)∈dY):=by decide +kernel
  exact aU (fun z=>n (ai (ei.symm.trans z))) (no n rfl)
 | when p pa pb t a b =>
  have n:¬ (("when": Str)∈dY):=by decide +kernel
  exact aU (fun z=>n (ai (ei.symm.trans z))) (no n rfl)
 | times p pb n' b =>
  have n:¬ (("times": Str)∈dY):=by decide +kernel
  exact aU (fun z=>n (ai (ei.symm.trans z))) (no n rfl)
theorem bP3 {cF cF0 cF1:Addr}(m_FREE:mg "FREE"=some (.ref cF)) (hF:∀ H,aO K H cF [.ref cF0,.ref cF1]/\bJ K H cF0 (1,1)/\bJ K H cF1 (0,1)) (C_Tms:Cl P w K mg base 3 (mE K) "times") (C_Add:Cl P w K mg base 3 (xA K) "added"):dZ P w K mg base "price_behind" "price_behind" cJ5 4 ["prices"] (bL8 K):=by
 refine eQ ["prices","factor","rest","one"] fun H Q nd hr h=>?_
 obtain ⟨l,us,ps,rfl,hl,un,tw,⟨b1,b2⟩,k⟩:=h;refine ⟨_,(dB 1 nd (aZ aG (pgl m_FREE) aC)
  (dB 2 nd (aZ aG (pgl m_FREE) aC)
  (aF (pK (bX (pv 0)) (eN 3 nd)
  (dB 1 nd (bG C_Tms hr (aA (pv 1) (aN (aZ aG (pv 3) aC))))
  (aE (zV 2 nd (bG C_Add hr (aA (pv 2) (aN (aZ aG (pv 3) aC))))))))
  (aE (aJ (aM (aA (pv 1) (aN (pv 2))))))))),?_⟩
 refine ⟨cF,_,_,_,rfl,rfl,(hF _).1,rfl,?_⟩;refine ⟨cF,_,_,_,rfl,rfl,(hF _).1,rfl,?_⟩;have ul:=tw.length;refine ⟨_,rfl,l,rfl,⟨_,bC.of hl⟩,dW (K:=K) (a:=l) (xs:=us) (fun i σ G=>∃ (f g:Addr) (v:Option V),σ=[some (.ref l),some (.ref f),some (.ref g),v]/\aS H G/\bJ K G f (fF (ps.take i)).1/\bJ K G g (fF (ps.take i)).2)
  ⟨cF0,cF1,_,rfl,aS.refl _,(hF _).2.1,(hF _).2.2⟩ (by rintro i σ G _ ⟨_,_,_,_,e,_⟩;exact bC.of (e _ _ hl)) ?_ ?_⟩
 ·rintro D' i v σ G hv ⟨f,g,v3,rfl,s1,hf,hg⟩;obtain ⟨P0,hP,a,x,y,rfl,ha,hx,hy⟩:=fM tw hv;have bp:=b1 P0 (be hP);have bi:=b2 i;refine ⟨_,rfl,_,rfl,a,_,_,_,rfl,rfl,aO.ts s1 ha,rfl,f,x,_,_,rfl,hf,hx.s s1,bi.1,bp.1,fun r1 hr1'=>?_⟩;have s2:=aB hr1' (.tup [.int (fQ (fF (ps.take i)).1 P0.1).1,.int (fQ (fF (ps.take i)).1 P0.1).2]);have h2:=aD (H:=G) (a:=r1) (o:= .tup [.int (fQ (fF (ps.take i)).1 P0.1).1,.int (fQ (fF (ps.take i)).1 P0.1).2]);generalize aQ G r1 (.tup [.int (fQ (fF (ps.take i)).1 P0.1).1,.int (fQ (fF (ps.take i)).1 P0.1).2])=G2 at s2 h2 ⊢;refine ⟨_,rfl,_,rfl,a,_,_,_,rfl,rfl,aO.ts (s1.trans s2) ha,rfl,g,y,_,_,rfl,hg.s s2,hy.s (s1.trans s2),bi.2,bp.2,fun r2 hr2'=>?_⟩;rw [aT hP,mY];exact ⟨r1,r2,_,rfl,s1.trans (s2.trans (aB hr2' _)),(bJ.ofU h2).s (aB hr2' _),bJ.ofU aD⟩
 ·rintro σ G ⟨f,g,v3,rfl,s1,hf,hg⟩;rw [ul,bv] at hf hg;refine ⟨_,rfl,_,rfl,bM,fun t ht=>?_⟩;exact k _ (.ref t) (s1.trans (aB ht _)) ⟨t,f,g,rfl,aO.of aD,hf.s (aB ht _),hg.s (aB ht _)⟩
theorem bP0 (C_Les:Cl P w K mg base 1 (mZ K) "less"):dZ P w K mg base "greatest" "greatest" cD8 2 ["fractions"] (bL2 K):=by
 refine eQ ["fractions","found","fraction"] fun H Q nd hr h=>?_
 obtain ⟨l,us,fs,rfl,hl,f1,f9,tw,bf,k⟩:=h;refine ⟨_,(dB 1 nd (aZ bQ (pv 0) aC)
  (aF (pK (bX (pv 0)) (eN 2 nd)
  (aE (bB (fJ (bG C_Les hr (aA (pv 1) (aN (pv 2))))) (aE (zV 1 nd (pv 2))) aR)))
  (aE (aJ (pv 1))))),?_⟩
 have ul:=tw.length;obtain ⟨f0,fr,rfl⟩:=aD7 f1;obtain ⟨u0,ur,rfl⟩:∃ a r,us=a :: r:=aD7 (by lia);obtain ⟨⟨a0,rfl,h0⟩,_⟩:=id tw;refine ⟨_,rfl,l,_,_,.ref a0,rfl,rfl,bC.of hl,jQ,?_⟩;refine ⟨_,rfl,l,rfl,⟨_,bC.of hl⟩,dW (K:=K) (a:=l) (xs:= .ref a0 :: ur) (fun i σ G=>G=H/\∃ (f:Addr) (v:Option V),σ=[some (.ref l),some (.ref f),v]/\bJ K H f (((f0 :: fr).take i).foldl kC f0))
  ⟨rfl,a0,_,rfl,h0⟩ (by rintro i σ G _ ⟨e,_⟩;rw [e];exact bC.of hl) ?_ ?_⟩
 ·rintro D' i v σ G hv ⟨rfl,f,v2,rfl,hf⟩;obtain ⟨g,hg,a,rfl,ha⟩:=fM tw hv;have bg:=bf g (be hg);have bacc:fV 1000 (((f0 :: fr).take i).foldl kC f0):=cK4 (bf f0 ao) fun x hx=>bf x (iy hx)
  refine ⟨_,rfl,_,rfl,f,a,_,_,rfl,hf,ha,bacc,bg,_,rfl,?_⟩;rw [bJ3 hg];refine nL (fun c=>?_) (fun c=>?_)
  ·refine ⟨_,rfl,rfl,a,_,rfl,?_⟩;rw [show kC (((f0 :: fr).take i).foldl kC f0) g=g from ay (ai c)];exact ha
  ·refine ⟨rfl,f,_,rfl,?_⟩;have c:¬ _:=fun z=>c (ag z)
   rw [show kC (((f0 :: fr).take i).foldl kC f0) g=((f0 :: fr).take i).foldl kC f0 from ak c];exact hf
 ·rintro σ G ⟨rfl,f,v2,rfl,hf⟩;rw [ul,bv] at hf;exact ⟨_,rfl,k _ ⟨f,rfl,hf⟩⟩
theorem bW4 (C_Grt:Cl P w K mg base 2 (bL2 K) "greatest"):dZ P w K mg base "greatest_of" "greatest_of" cH7 3 ["prices"] (bK1 K):=by
 refine eQ ["prices"] fun H Q nd hr h=>?_
 obtain ⟨l,us,ps,rfl,hl,p1,p9,tw,bp,k⟩:=h;refine ⟨_,(aE (aJ (aM (aA (bG C_Grt hr (aN (cZ ["one"] [none] (bX (pv 0)) (fun _ _ _ _=>(eN 0)) (fun _ _ _ _=>eS) (fun _ _ _ _=>(aZ (sT K) (pv 0) aC))))) (aN (bG C_Grt hr (aN (cZ ["one"] [none] (bX (pv 0)) (fun _ _ _ _=>(eN 0)) (fun _ _ _ _=>eS) (fun _ _ _ _=>(aZ (sT K) (pv 0) aC)))))))))),?_⟩;have ul:=tw.length;refine ⟨_,rfl,l,rfl,⟨_,bC.of hl⟩,dL (K:=K) (a:=l) (xs:=us) (fun i zs σ G=>G=H/\(∃ v,σ=[v])/\cO (FrK K H) zs ((ps.map (·.1)).take i))
  (aV (by (exact oqo))) ⟨rfl,⟨_,rfl⟩,trivial⟩ (by rintro i zs σ G ⟨_,_,e⟩;rw [e.length,cp];lia) (by rintro i zs σ G _ ⟨e,_⟩;rw [e];exact bC.of hl) ?_ ?_⟩
 ·rintro i v zs σ _ hv ⟨rfl,⟨v',rfl⟩,tz⟩;obtain ⟨P0,hP,a,x,y,rfl,ha,hx,hy⟩:=fM tw hv;have e:(ps.map (·.1))[i]?=some P0.1:=by rw [cj,hP];rfl
  refine ⟨_,rfl,a,_,_,_,rfl,rfl,ha,rfl,rfl,⟨_,rfl⟩,?_⟩;rw [aT e];exact cO.append tz ⟨⟨x,rfl,hx⟩,trivial⟩
 rintro zs σ Gx ⟨ex,_,tz⟩ l1 hl1;replace ex:=ex.symm;subst ex;rw [ul, <- ac (f:=fun p:Prc=>p.1) (as:=ps),bv] at tz;obtain ⟨H1,e0,s1,h1⟩:=gG hl1 (.lst zs);rw [e0];clear e0;refine ⟨l1,zs,ps.map (·.1),rfl,h1,by rw [ac];exact p1,by rw [ac];exact p9,tz.mono fun _ _ z=>z.s s1,fun f hf=>?_,?_⟩
 ·obtain ⟨P0,hP,rfl⟩:=cy.mp hf;exact (bp P0 hP).1
 rintro v1 ⟨a1,rfl,ha1⟩;refine ⟨_,rfl,l,rfl,⟨_,bC.of (s1 _ _ hl)⟩,dL (K:=K) (a:=l) (xs:=us) (fun i zs σ G=>G=H1/\(∃ v,σ=[v])/\cO (FrK K H1) zs ((ps.map (·.2)).take i))
  (aV (by (exact oqo))) ⟨rfl,⟨_,rfl⟩,trivial⟩ (by rintro i zs σ G ⟨_,_,e⟩;rw [e.length,cp];lia) (by rintro i zs σ G _ ⟨e,_⟩;rw [e];exact bC.of (s1 _ _ hl)) ?_ ?_⟩
 ·rintro i v zs σ _ hv ⟨rfl,⟨v',rfl⟩,tz⟩;obtain ⟨P0,hP,a,x,y,rfl,ha,hx,hy⟩:=fM tw hv;have e:(ps.map (·.2))[i]?=some P0.2:=by rw [cj,hP];rfl
  refine ⟨_,rfl,a,_,_,_,rfl,rfl,aO.ts s1 ha,rfl,rfl,⟨_,rfl⟩,?_⟩;rw [aT e];exact cO.append tz ⟨⟨y,rfl,hy.s s1⟩,trivial⟩
 rintro zs2 σ Gx ⟨ex,_,tz2⟩ l2 hl2;replace ex:=ex.symm;subst ex;rw [ul, <- ac (f:=fun p:Prc=>p.2) (as:=ps),bv] at tz2;obtain ⟨H2,e0,s2,h2⟩:=gG hl2 (.lst zs2);rw [e0];clear e0;refine ⟨l2,zs2,ps.map (·.2),rfl,h2,by rw [ac];exact p1,by rw [ac];exact p9,tz2.mono fun _ _ z=>z.s s2,fun f hf=>?_,?_⟩
 ·obtain ⟨P0,hP,rfl⟩:=cy.mp hf;exact (bp P0 hP).2
 rintro v2 ⟨a2,rfl,ha2⟩;refine ⟨bM,fun t ht=>k _ (.ref t) (s1.trans (s2.trans (aB ht _))) ⟨t,a1,a2,rfl,aO.of aD,ha1.s (s2.trans (aB ht _)),ha2.s (aB ht _)⟩⟩
theorem bM8 (m_isinstance:mg "isinstance"=none) (m_str:mg "str"=none) (m_len:mg "len"=none):dZ P w K mg base "is_row" "is_row" cD6 1 ["part"] spIsRow:=by
 refine eQ ["part"] fun H Q nd hr h=>?_
 obtain ⟨e,rfl,he,k⟩:=h;refine ⟨_,(aE (aJ (mL (pec kM (mO bO m_len gb (aN (pv 0))) aC) (mJ (mO kP m_isinstance oq (aA (aZ aG (pv 0) aC) (aN (vV (v:= .ty "str") (by rfl) m_str PyProof.Rows.boot_str rfl)))))))),?_⟩
 cases e with
 | rows p rs =>
  obtain ⟨hp,hR⟩:=he;refine ⟨_,rfl,p,_,rfl,.inr (aO.of hp),_,_,rfl,rfl,_,rfl,?_⟩
  cases rs with
  | nil=>exact aU (by decide) k
  | cons r rs =>
   refine bD (ag (by show (0:Int) < ((cL (r :: rs)).length:Int);rw [bR,bo];lia)) ?_;exact ⟨_,rfl,p,_,_,_,rfl,rfl,aO.of hp,jQ,_,_,_,false,rfl,.tup (fE.at hR.1),rfl,k⟩
 | row r =>
  have hr1:=fE.at he;refine ⟨_,rfl,r.p,_,rfl,.inr (aO.of hr1),_,_,rfl,rfl,_,rfl,bD (ag (by rw [bo];lia)) ?_⟩;exact ⟨_,rfl,r.p,_,_,.str r.w,rfl,rfl,aO.of hr1,jQ,_,_,_,true,rfl,.str _,rfl,k⟩
theorem bS0 (C_IsR:Cl P w K mg base 1 spIsRow "is_row") (m_list:mg "list"=none):dZ P w K mg base "parts_right_in" "parts_right_in" cG6 2 ["part"] spPRI:=by
 refine eQ ["part"] fun H Q nd hr h=>?_
 obtain ⟨e,rfl,he,k⟩:=h;have hr1:dQ 1 _:=hr.mono (by decide);refine ⟨_,(aF (bB (kW (fJ (bG C_IsR hr (aN (pv 0))))) (aE (aJ (tQ hJ m_list jf (aN (pv 0))))) aR)
  (aF (bB (eT cH (aZ aG (pv 0) aC) aH) (aE (aJ (bK (aA (aZ aG (pv 0) aC) (aN (aZ aG (pv 0) aC)))))) aR)
  (aF (bB (eT cH (aZ aG (pv 0) aC) aH) (aE (aJ (bK (aN (aZ aG (pv 0) aC))))) aR)
  (aE (aJ (bK cD)))))),?_⟩
 refine ⟨_,rfl,e,rfl,he,_,rfl,?_⟩
 cases e with
 | rows p rs =>
  obtain ⟨hp,hR⟩:=he;refine bD rfl ?_;exact ⟨_,rfl,p,_,rfl,.inr (aO.of hp),fun l hl=>k l _ (aB hl _) hl (by rw [aD];show _=some (HO.lst (fX (rs.map Pt.row)));rw [aF9])⟩
 | row r =>
  refine aU (fun z=>Bool.noConfusion (show false=true from z)) ?_;have nn:¬ V.str r.w=V.str "when"->¬ V.str r.w=V.str "times"->(Pt.row r).kids=[]->aZ8 (bV3 (xL (tOp rEq (tOp (aD6 K) (mQ 0) (tC (V.int 0))) (tC (V.str "when")))) (bC4 (bH1 (iC (tOp (aD6 K) (mQ 0) (tC (V.int 2))) (iC (tOp (aD6 K) (mQ 0) (tC (V.int 3))) tNil)))) tNext)
    (aZ8 (bV3 (xL (tOp rEq (tOp (aD6 K) (mQ 0) (tC (V.int 0))) (tC (V.str "times")))) (bC4 (bH1 (iC (tOp (aD6 K) (mQ 0) (tC (V.int 2))) tNil))) tNext) (bC4 (bH1 tNil))) { nx:=fun x H'=>Q V.non H',rt:=Q } [some (.ref r.p)] H:=fun n1 n2 ek=>by
   have hr1:=fE.at he;refine ⟨_,rfl,r.p,_,_,.str r.w,rfl,rfl,aO.of hr1,jQ,rfl,_,rfl,aU (by rw [da];exact n1) ?_⟩;refine ⟨_,rfl,r.p,_,_,.str r.w,rfl,rfl,aO.of hr1,jQ,rfl,_,rfl,aU (by rw [da];exact n2) ?_⟩;exact ⟨bj _,fun l hl=>k l _ (aB hl _) hl (by rw [aD,ek];rfl)⟩
  cases r with
  | when p pa pb t a b =>
   have hp:=he.1;refine ⟨_,rfl,p,_,_,_,rfl,rfl,aO.of hp,rfl,rfl,_,rfl,bD (ag rfl) ?_⟩;exact ⟨_,rfl,p,_,_,_,rfl,rfl,aO.of hp,rfl,_,rfl,p,_,_,_,rfl,rfl,aO.of hp,rfl,bM,fun l hl=>k l _ (aB hl _) hl aD⟩
  | times p pb n b =>
   have hp:=he.1;refine ⟨_,rfl,p,_,_,_,rfl,rfl,aO.of hp,rfl,rfl,_,rfl,aU (by rw [da];exact nTW) ?_⟩;refine ⟨_,rfl,p,_,_,_,rfl,rfl,aO.of hp,rfl,rfl,_,rfl,bD (ag rfl) ?_⟩;exact ⟨_,rfl,p,_,_,_,rfl,rfl,aO.of hp,rfl,jF,fun l hl=>k l _ (aB hl _) hl aD⟩
  | thr p w x d=>exact nn (qI he.2).1 (qI he.2).2 rfl
  | lt p x t=>exact nn nLW.1 nLW.2 rfl
  | tell p t=>exact nn nEW.1 nEW.2 rfl
theorem bN4 (C_PRI:Cl P w K mg base 2 spPRI "parts_right_in") (m_range:mg "range"=none) (m_len:mg "len"=none):dZ P w K mg base "places_right_in" "places_right_in" cG4 3 ["place","part"] spPlRI:=by
 refine eQ ["place","part"] fun H Q nd hr h=>?_
 obtain ⟨e,q,rfl,hq,l1,l4,he,k⟩:=h;refine ⟨_,(aE (aJ (cZ ["k","place"] [none,some 0] (dN (by rfl) m_range (aN (mO bO m_len gb (aN (bG C_PRI hr (aN (pv 1))))))) (fun _ _ _ _=>(eN 0)) (fun _ _ _ _=>eS) (fun _ _ _ _=>(aK (cG8 K) (pv 1) (aM (aN (pv 0)))))))),?_⟩;refine ⟨_,rfl,e.2,rfl,he,fun r1 H1 s1 n1 h1=>⟨r1,_,rfl,.inl (bC.of h1),_,rfl,by lia,by rw [dM];(exact oqq),iJ (n:=(fX e.2.kids).length) (fun i zs σ G=>aS H1 G/\(∃ v,σ=[v,some (.ref q)])/\cO (lG G) zs (((eJ e).map (·.1)).take i))
  (eI (by rw [dM];(exact oqf))) ⟨aS.refl _,⟨_,rfl⟩,trivial⟩ (by rintro i zs σ G ⟨_,_,z⟩;rw [z.length,cp];lia) ?_ ?_⟩⟩
 ·rintro i zs σ G hi ⟨s2,⟨v,rfl⟩,tz⟩;rw [dM] at hi;have hq2:=(s1.trans s2) _ _ hq;rw [aT (vM hi)];refine ⟨_,rfl,_,rfl,jF,fun t ht=>?_⟩;obtain ⟨G3,e0,s3,h3⟩:=gG ht (.tup [.int (0+(i:Int))]);rw [e0];clear e0;refine ⟨q,t,_,_,rfl,rfl,aO.of (s3 _ _ hq2),aO.of h3,(fun z=>by cases z),by rw [ac];exact bu (aV (by rw [cv];lia)),fun z=>?_,fun z t2 ht2=>?_⟩
  ·refine ⟨s2.trans s3,⟨_,rfl⟩,cO.append (tz.mono fun _ _ z=>z.ts (.of s3)) ⟨⟨t,rfl,?_⟩,trivial⟩⟩;rw [bm,z,qd];rw [su] at h3;exact h3
  ·have s4:=aB ht2 (.tup (e.1.map V.int++[.int (0+(i:Int))]));refine ⟨s2.trans (s3.trans s4),⟨_,rfl⟩,cO.append (tz.mono fun _ _ z=>z.ts (.of (s3.trans s4))) ⟨⟨t2,rfl,?_⟩,trivial⟩⟩;rw [bm];show _=some (HO.tup (e.1.map V.int++[.int (i:Int)]));rw [aD,su]
 ·rintro zs σ G ⟨s2,_,tz⟩ l9 hl9;rw [dM, <- fL, <- ac (f:=fun c:PP=>c.1) (as:=eJ e),bv] at tz;have s9:=s1.trans (s2.trans (aB hl9 (.lst zs)));exact k l9 zs _ s9 ((s1.trans s2).free hl9) aD (tz.mono fun _ _ z=>z.ts (.of (aB hl9 _)))
theorem bY3 (C_PlI:Cl P w K mg base 3 spPlRI "places_right_in") (C_PRI:Cl P w K mg base 2 spPRI "parts_right_in") (m_list:mg "list"=none) (m_reversed:mg "reversed"=none) (m_zip:mg "zip"=none):dZ P w K mg base "places_of" "places_of" cE2 4 ["rows"] spPlOf:=by
 refine eQ ["rows","found","waiting","place","part"] fun H Q nd hr h=>?_
 obtain ⟨p,rs,kd,rfl,hp,hR,hc,hdp,hkd,k⟩:=h;refine ⟨_,(dB 1 nd (bK cD)
  (dB 2 nd (bK (aN (aM (aA (aM cD) (aN (pv 0))))))
  (aF (fP ie (jL (pv 2) (fun _=>rfl))
  (aF (cY (fN br dk dm dO (pv 1) (aN (qW br km ko rM (pv 2)))))
  (dB 3 nd (aZ aG (aZ bQ (pv 1) (nB jY aC)) aC)
  (dB 4 nd (aZ aG (aZ bQ (pv 1) (nB jY aC)) aC)
  (aE (cY (fN br ia ib gD (pv 2) (aN (aC7 (by rfl) m_list (by rfl) m_zip (aA (bG C_PlI hr (aA (pv 3) (aN (pv 4)))) (aN (bG C_PRI hr (aN (pv 4))))))))))))))
  (aE (aJ (qL (pv 1) (by rfl) m_list (by rfl) m_reversed)))))),?_⟩
 refine ⟨bj _,fun f hf=>?_⟩;obtain ⟨H1,e0,s1,f1⟩:=gG hf (.lst []);rw [e0];clear e0;refine ⟨bj _,fun t0 ht0=>?_⟩;obtain ⟨H2,e0,s2,h20⟩:=gG ht0 (.tup []);rw [e0];clear e0;refine ⟨_,rfl,bM,fun t1 ht1=>?_⟩;obtain ⟨H3,e0,s3,h31⟩:=gG ht1 (.tup [.ref t0,.ref p]);rw [e0];clear e0;refine ⟨jF,fun wl hw=>?_⟩;have s4:=aB hw (.lst [.ref t1]);have h4:aQ H3 wl (.lst [.ref t1]) wl=some (.lst [.ref t1]):=aD;have f4:=s4 _ _ ((s2.trans s3) _ _ f1);have s04:=s1.trans (s2.trans (s3.trans s4));have wn:H wl=none:=(s1.trans (s2.trans s3)).free hw;have nwf:wl≠f:=(aL ((s2.trans s3) _ _ f1) hw).symm;have p0:cO (vW (aQ H3 wl (.lst [.ref t1]))) [.ref t1] [([],Pt.rows p rs)]:=⟨⟨t1,t0,rfl,s4 _ _ h31,(s3.trans s4) _ _ h20⟩,trivial⟩
 generalize aQ H3 wl (.lst [.ref t1])=H4 at s4 h4 f4 s04 p0 ⊢;have ol:=aJ1 (pl:=[]) (p:=p) (rs:=rs);generalize eL:cQ ([],Pt.rows p rs)=L at k ol;have al:∀ e∈L,mC H e.2/\e.1.length<=7/\e.2.kids.length<=bY rs+2:=fun e he=>by
  rw [<- eL] at he;have:=(oR hkd e he).2.1;exact ⟨uO hp hR e he,by lia,aB8 e he⟩
 refine ⟨fun j σ G=>∃ (zs ws:List V) (F W:List PP) (v3 v4:Option V),σ=[some (.ref p),some (.ref f),some (.ref wl),v3,v4]/\aS H G/\G f=some (.lst zs)/\G wl=some (.lst ws)/\cO (vW G) zs F/\cO (vW G) ws W/\W.flatMap cQ++F.reverse=L/\j=(W.flatMap cQ).length,⟨_,[],[.ref t1],[],[([],Pt.rows p rs)],_,_,rfl,s04,f4,h4,trivial,p0,by rw [<- eL];simp,rfl⟩,?_⟩;rintro j σ G ⟨zs,ws,F,W,v3,v4,rfl,sG,gf,gw,tz,tw,eW,rfl⟩;refine ⟨_,rfl,_,.inl ⟨_,bC.of gw,rfl⟩,?_⟩;rcases W.eq_nil_or_concat with rfl | ⟨W',e,rfl⟩
 ·have ew:ws=[]:=sy tw.length;subst ew;refine aU (by decide) ?_;refine ⟨_,rfl,f,_,rfl,bC.of gf,fun l hl=>?_⟩;refine k l zs.reverse _ (sG.trans (aB hl _)) aD ?_;rw [qy,qd] at eW;rw [<- eW];exact (pZ tz).mono fun _ _ z=>z.ts (.of (aB hl _))
 ·rw [xy] at *;obtain ⟨us,v,rfl,tu,q,a,rfl,hq,ha⟩:=iX tw;have me:e∈L:=by
   rw [<- eW,fb];exact cx _ (bw _ (jh.mpr ⟨e,ax.mpr rfl,jD e⟩))
  obtain ⟨pe,l7,kl⟩:=al e me;have lz:=tz.length;have lu:=tu.length;have lL:=fc List.length eW;rw [fb,am,am,ik] at lL;have g1:=aY4 W';have o1:=sU e;have es:([e]:List PP).flatMap cQ=cQ e:=by simp
  rw [es] at lL;refine bD (by simp) ?_;refine ⟨fun σ' H'=>∃ (zs ws:List V) (v3 v4:Option V),σ'=[some (.ref p),some (.ref f),some (.ref wl),v3,v4]/\aS H H'/\H' f=some (.lst zs)/\H' wl=some (.lst ws)/\cO (vW H') zs (F++[e])/\cO (vW H') ws (W'++eJ e),?_,?_⟩
  ·rintro σ' H' ⟨zs',ws',v3',v4',rfl,a1,a2,a3,a4,a5⟩;refine ⟨((W'++eJ e).flatMap cQ).length,?_,zs',ws',_,_,v3',v4',rfl,a1,a2,a3,a4,a5,?_,rfl⟩
   ·rw [fb,fb,es,gE e,am,am,am,cv];lia
   ·rw [<- eW,fb,fb,es,gE e,zd];simp only [List.reverse_singleton,List.append_assoc]
  refine ⟨_,rfl,.inl ⟨rfl,_,bC.of gf⟩,_,rfl,.inl ⟨rfl,_,bC.of gw⟩,wl,us++[.ref q],.ref q,rfl,rfl,gw,by simp,?_⟩;rw [pf];have t5:=TS.lst (ys:=us) gw;have s5:=cP (ys:=us) sG wn;have gf5:aQ G wl (.lst us) f=some (.lst zs):=by rw [aI nwf.symm];exact gf
  have gw5:aQ G wl (.lst us) wl=some (.lst us):=aD;generalize aQ G wl (.lst us)=G5 at t5 s5 gf5 gw5 ⊢;refine ⟨f,zs,.ref q,rfl,rfl,gf5,eI (by lia),?_⟩;have t6:=t5.trans (TS.lst (ys:=zs++[.ref q]) gf5);have s6:=cP (ys:=zs++[.ref q]) s5 hf;have gf6:aQ G5 f (.lst (zs++[.ref q])) f=some (.lst (zs++[.ref q])):=aD;have gw6:aQ G5 f (.lst (zs++[.ref q])) wl=some (.lst us):=by rw [aI nwf];exact gw5
  generalize aQ G5 f (.lst (zs++[.ref q]))=G6 at t6 s6 gf6 gw6 ⊢;refine ⟨_,rfl,1,rfl,f,_,_,.ref q,rfl,rfl,bC.of gf6,lR,q,_,_,.ref a,rfl,rfl,aO.of (t6 _ _ hq),rfl,?_⟩;refine ⟨_,rfl,1,rfl,f,_,_,.ref q,rfl,rfl,bC.of gf6,lR,q,_,_,.ref e.2.p,rfl,rfl,aO.of (t6 _ _ hq),rfl,?_⟩;refine ⟨_,rfl,.inl ⟨rfl,_,bC.of gw6⟩,_,rfl,_,rfl,e,a,rfl,t6 _ _ ha,by (exact oqf),by lia,pe.ts (.of s6),fun r7 xs7 G7 s7 n7 h7 t7=>?_⟩;refine ⟨_,rfl,e.2,rfl,pe.ts (.of (s6.trans s7)),fun r8 G8 s8 n8 h8=>?_⟩;have l7':=t7.length;rw [ac,fL] at l7';refine ⟨r7,r8,_,_,rfl,bC.of (s8 _ _ h7),bC.of h8,by rw [dM];exact l7',fun r9 xs9 G9 s9 n9 h9 l9 a9=>?_⟩;have tt:=(TS.of s7).trans ((TS.of s8).trans (TS.of s9));have gw9:=s9 _ _ (s8 _ _ (s7 _ _ gw6));have gf9:=s9 _ _ (s8 _ _ (s7 _ _ gf6));refine ⟨wl,r9,us,xs9,rfl,rfl,gw9,h9,bu (eI (by lia)),?_⟩;have t10:=TS.lst (ys:=us++xs9) gw9;have ta:=t6.trans (tt.trans t10)
  refine ⟨zs++[.ref q],us++xs9,_,_,rfl,cP (s6.trans (s7.trans (s8.trans s9))) wn,by rw [aI nwf.symm];exact gf9,aD,cO.append (tz.mono fun _ _ z=>z.ts ta) ⟨⟨q,a,rfl,ta _ _ hq,ta _ _ ha⟩,trivial⟩,cO.append (tu.mono fun _ _ z=>z.ts ta) ?_⟩;refine aU6 (by rw [fL];lia) fun i z c hz hc=>?_
  have il:=(bc.mp hc).1;rw [fL] at il;have ec:=hc.symm.trans (lK (ar il));injection ec with ec
  subst ec;obtain ⟨x7,hx7⟩:∃ x,xs7[i]?=some x:=⟨_,ar (by lia)⟩
  obtain ⟨k7,hk7,a7,rfl,ha7⟩:=fM t7 hx7;rw [vM il] at hk7;injection hk7 with hk7
  subst hk7;obtain ⟨q9,hq9,hq9'⟩:=a9 i _ _ hx7 (show (fX e.2.kids)[i]?=some (.ref (e.2.kids[i]).p) by unfold fX;rw [cj,ar il];rfl);rw [hq9] at hz;injection hz with hz
  subst hz;exact ⟨q9,a7,rfl,t10 _ _ hq9',t10 _ _ (s9 _ _ (s8 _ _ ha7))⟩
theorem bR9 {cF cF0 cF1:Addr}(m_FREE:mg "FREE"=some (.ref cF)) (hF:∀ H,aO K H cF [.ref cF0,.ref cF1]/\bJ K H cF0 (1,1)/\bJ K H cF1 (0,1)) (C_Pow:Cl P w K mg base 1 (wX K) "power") (C_IsR:Cl P w K mg base 1 spIsRow "is_row") (C_Beh:Cl P w K mg base 4 (bL8 K) "price_behind") (C_GOf:Cl P w K mg base 3 (bK1 K) "greatest_of") (C_Tms:Cl P w K mg base 3 (mE K) "times"):dZ P w K mg base "price_made" "price_made" cB3 5 ["part","prices"] (aI4 K):=by
 refine eQ ["part","prices","factor"] fun H Q nd hr h=>?_
 obtain ⟨e,l,us,ss,kn,kd,rfl,he,hm,hld,hkd,l4,hl,tw,k⟩:=h;refine ⟨_,(aF (bB (kW (fJ (bG C_IsR hr (aN (pv 0))))) (aE (aJ (bG C_Beh hr (aN (pv 1))))) aR)
  (aF (bB (eT cH (aZ aG (pv 0) aC) aH) (aE (aJ (bG C_GOf hr (aN (pv 1))))) aR)
  (dB 2 nd (bG C_Pow hr (aA (aZ aG (aZ bQ (pv 1) aC) aC) (aN (aZ aG (pv 0) aC))))
  (aE (aJ (aM (aA (pv 2) (aN (bG C_Tms hr (aA (aZ aG (aZ bQ (pv 1) aC) aC) (aN (aM (aA (aZ aG (pv 0) aC) (aN aC)))))))))))))),?_⟩
 refine ⟨_,rfl,e,rfl,he,_,rfl,?_⟩;have tl:=tw.length
 cases e with
 | rows p rs =>
  refine bD rfl ?_;have ek:(Pt.rows p rs).kids.map (Pt.pr ss kn)=tK ss kn rs:=by
   show (rs.map Pt.row).map (Pt.pr ss kn)=_;rw [sr,lI];rfl
  rw [ek] at tw;rw [ac] at tl;exact ⟨_,rfl,l,us,_,rfl,hl,by (exact oqo),tw,aU5 he.2 hld,k⟩
 | row r =>
  refine aU (fun z=>Bool.noConfusion (show false=true from z)) ?_
  cases r with
  | when p pa pb t a b =>
   have hp:=he.1;refine ⟨_,rfl,p,_,_,_,rfl,rfl,aO.of hp,rfl,rfl,_,rfl,bD (ag rfl) ?_⟩;have pe:(Pt.row (.when p pa pb t a b)).pr ss kn=sJ (iL ss kn a) (iL ss kn b):=by simp only [Pt.pr,mB,iL]
   rw [pe] at k;simp only [Pt.ld,nZ] at hld;have ek:(Pt.row (.when p pa pb t a b)).kids.map (Pt.pr ss kn)=[iL ss kn a,iL ss kn b]:=by simp only [Pt.kids,List.map_cons,List.map_nil,Pt.pr]
   rw [ek] at tw;have oa:=qY (kS ss kn he.2.2.2.2.1).2 (by (exact oqC));have ob:=qY (kS ss kn he.2.2.2.2.2).2 (by (exact oqD));refine ⟨_,rfl,l,us,[iL ss kn a,iL ss kn b],rfl,hl,by show 1<=2;decide,by show 2<=1000;decide,tw,fun q hq=>?_,fun H' v s h=>k H' v s ?_⟩
   ·simp only [List.mem_cons,List.not_mem_nil,or_false] at hq;rcases hq with rfl | rfl
    ·exact oa
    ·exact ob
   ·have e1:grL ([iL ss kn a,iL ss kn b].map (·.1))=kC (iL ss kn a).1 (iL ss kn b).1:=aL0 _ _;have e2:grL ([iL ss kn a,iL ss kn b].map (·.2))=kC (iL ss kn a).2 (iL ss kn b).2:=aL0 _ _;rw [e1,e2] at h;exact h
  | times p pb n b =>
   have hp:=he.1;have hn:1<=n/\n<=3:=hkd _ rfl;have pe:(Pt.row (.times p pb n b)).pr ss kn=kT n.toNat (iL ss kn b):=by simp only [Pt.pr,mB,iL]
   rw [pe] at k;simp only [Pt.ld,nZ] at hld;have ek:(Pt.row (.times p pb n b)).kids.map (Pt.pr ss kn)=[iL ss kn b]:=by simp only [Pt.kids,List.map_cons,List.map_nil,Pt.pr]
   rw [ek] at tw;have le:jP b<=n.toNat * jP b:=by
    have:=fg (jP b) (show 1<=n.toNat by lia)
    lia
   have ob:=qY (kS ss kn he.2.2).2 (by (exact oqj));obtain ⟨a1,rfl,x1,y1,ha,hx,hy⟩:=bG6 tw;have ob':=ob;have pq:(kT n.toNat (iL ss kn b)).1=((iL ss kn b).1.1 ^ n.toNat,(iL ss kn b).1.2 ^ n.toNat):=rfl;have pr2:(kT n.toNat (iL ss kn b)).2=fQ (iL ss kn b).2 (n,1):=by
    show dR ((iL ss kn b).2.1 * (n.toNat:Int)) ((iL ss kn b).2.2 * 1)=dR ((iL ss kn b).2.1 * n) ((iL ss kn b).2.2 * 1);rw [show (n.toNat:Int)=n by lia]
   clear ob pe;generalize kT n.toNat (iL ss kn b)=TP at k pq pr2;generalize iL ss kn b=PB at *;generalize ex1:PB.1.1 ^ n.toNat=X1 at *;generalize ex2:PB.1.2 ^ n.toNat=X2 at *;refine ⟨_,rfl,p,_,_,_,rfl,rfl,aO.of hp,rfl,rfl,_,rfl,aU (by rw [da];exact nTW) ?_⟩;refine ⟨_,rfl,l,_,_,_,rfl,rfl,bC.of hl,rfl,a1,_,_,_,rfl,rfl,ha,rfl,_,rfl,p,_,_,_,rfl,rfl,aO.of hp,rfl,x1,PB.1,n,rfl,hx,ob'.1.ba,ob'.1.bb,by lia,by lia,fun r1 hr1'=>?_⟩;rw [ex1,ex2];obtain ⟨H2,e0,s2,h2⟩:=gG hr1' (.tup [.int X1,.int X2]);rw [e0];clear e0;refine ⟨_,rfl,_,rfl,l,_,_,_,rfl,rfl,bC.of (s2 _ _ hl),rfl,a1,_,_,_,rfl,rfl,aO.ts s2 ha,rfl,_,rfl,p,_,_,_,rfl,rfl,aO.of (s2 _ _ hp),rfl,bM,fun r3 hr3'=>?_⟩;obtain ⟨H3,e0,s3,h3⟩:=gG hr3' (.tup [.int n,.int 1]);rw [e0];clear e0;have s23:=s2.trans s3;have nb:fV 1000 ((n,1):Fr):=⟨show 0<=n by lia,(show (1:Int)<=1 by decide),(bT.of (n:=4) (show 0<=n by lia) (by lia)).mono (by decide),(bT.of (n:=4) (i:=1) (by decide) (by decide)).mono (by decide)⟩
   refine ⟨y1,r3,PB.2,(n,1),rfl,hy.s s23,bJ.of h3,ob'.2,nb,fun r4 hr4'=>⟨bM,fun r5 hr5'=>?_⟩⟩;rw [<- pr2] at hr5' ⊢;have s4:=aB hr4' (.tup [.int TP.2.1,.int TP.2.2]);have h4:aQ H3 r4 (.tup [.int TP.2.1,.int TP.2.2]) r4=some (.tup [.int TP.2.1,.int TP.2.2]):=aD;generalize aQ H3 r4 (.tup [.int TP.2.1,.int TP.2.2])=H4 at s4 h4 hr5' ⊢;have s5:=aB hr5' (.tup [.ref r1,.ref r4]);refine k _ (.ref r5) (s23.trans (s4.trans s5)) ⟨r5,r1,r4,rfl,aO.of aD,?_,bJ.ofU (s5 _ _ h4)⟩;rw [pq];exact bJ.of ((s3.trans (s4.trans s5)) _ _ h2)
  | thr p w x d=>exact Bool.noConfusion (show false=true from hm)
  | lt p x t=>exact Bool.noConfusion (show false=true from hm)
  | tell p t=>exact Bool.noConfusion (show false=true from hm)
theorem bW6 {cT:Addr}(m_THROWS:mg "THROWS"=some (.ref cT)) (hT:∀ H,aO K H cT (dY.map V.str)) {cF cF0 cF1:Addr}(m_FREE:mg "FREE"=some (.ref cF)) (hF:∀ H,aO K H cF [.ref cF0,.ref cF1]/\bJ K H cF0 (1,1)/\bJ K H cF1 (0,1)) (C_Ned:Cl P w K mg base 5 spNeeded "needed") (C_PlO:Cl P w K mg base 4 spPlOf "places_of") (C_IsR:Cl P w K mg base 1 spIsRow "is_row") (C_IsI:Cl P w K mg base 2 spIsI "is_idle") (C_POR:Cl P w K mg base 7 (aV9 K) "price_of_row") (C_PMd:Cl P w K mg base 5 (aI4 K) "price_made") (C_PRI:Cl P w K mg base 2 spPRI "parts_right_in") (C_PlI:Cl P w K mg base 3 spPlRI "places_right_in"):dZ P w K mg base "prices_of" "prices_of" cE8 9 ["program","kind"] (aW7 K):=by
 refine eQ ["program","kind","names","prices","place","part"] fun H Q nd hr h=>?_
 obtain ⟨p,xs,rs,kn,n,v0,pr,rfl,P0,N0,hkn,hp,hpr,k⟩:=h;have hu:=iR hr;refine ⟨_,(dB 2 nd (bG C_Ned hr (aN (pv 0)))
  (dB 3 nd zC
  (aF (pK (bX (bG C_PlO hr (aN (aZ aG (pv 0) aC)))) (eV rfl (aX (eN 4 nd) (aX (eN 5 nd) dP)))
  (aE (bB (PW.pt (iG (fJ (bG C_IsR hr (aN (pv 5)))) (gZ (fJ (bG C_IsI hr (aA (pv 5) (aN (pv 2)))))))) (aE (pdp hu (pv 3) (pv 4) (pgl m_FREE))) (aE (bB (PW.pt (iG (fJ (bG C_IsR hr (aN (pv 5)))) (gZ (kW (jL (bG C_PRI hr (aN (pv 5))) (fun _=>rfl)))))) (aE (pdp hu (pv 3) (pv 4) (bG C_POR hr (aA (pv 5) (aN (pv 1)))))) (aE (pdp hu (pv 3) (pv 4) (bG C_PMd hr (aA (pv 5) (aN (cZ ["inner","prices"] [none,some 3] (bX (bG C_PlI hr (aA (pv 4) (aN (pv 5))))) (fun _ _ _ _=>(eN 0)) (fun _ _ _ _=>eS) (fun _ _ _ _=>(tF hu (pv 1) (pv 0))))))))))))))
  (aE (aJ (pv 3)))))),?_⟩
 have c0:=P0.cnt;have hdp:=P0.dp;obtain ⟨pk,ks,w0,_,_,eks,_,n3,hkd⟩:=N0;refine ⟨_,rfl,p,xs,rs,rfl,P0,fun np ss H1 s1 h1 nds=>?_⟩;refine fun d hd1=>?_
 obtain ⟨H2,e0,s2,h2d⟩:=gG hd1 (.dT []);rw [e0];clear e0;have s12:=s1.trans s2;refine ⟨_,rfl,p,_,_,.ref pr,rfl,rfl,aO.of (s12 _ _ hp),rfl,pr,rs,n,rfl,s12 _ _ hpr,bN.ts (.of s12) rs P0.rows,c0,hdp,hkd,fun r3 zs H3 s3 h3 tz=>?_⟩;have h3d:=s3 _ _ h2d;have s13:=s2.trans s3;have s03:=s1.trans s13;have h31:=s13 _ _ h1;have n3d:r3≠d:=fun z=>by rw [z,h3d] at h3;cases h3
 have ol:=aJ1 (pl:=[]) (p:=pr) (rs:=rs);have nd:=aT9 [] pr rs;have ah:=aJ8 [] pr rs;have al:∀ e∈cQ ([],Pt.rows pr rs),mC H3 e.2/\e.1.length<=7/\e.2.kids.length<=bY rs+2/\e.2.ld<=6/\∀ q,e.2= .row q->KdR n q:=fun e he=>by
  have:=oR hkd e he;have:=P0.ld;exact ⟨uO (s03 _ _ hpr) (bN.ts (.of s03) rs P0.rows) e he,by lia,aB8 e he,by lia,(oR hkd e he).2.2⟩
 have la:=jD ([],Pt.rows pr rs);have k':∀ H' kvs,aS H H'->H' d=some (.dT kvs)->jA K H' kvs ss kn (cQ ([],Pt.rows pr rs))->Q (.ref d) H':=fun H' kvs a b c=>k H' d kvs ss a b nds c
 clear k hkd la;generalize cQ ([],Pt.rows pr rs)=L at tz ol nd ah al k';have lz:=tz.length;refine ⟨r3,rfl,⟨_,bC.of h3⟩,dW (K:=K) (a:=r3) (xs:=zs) (fun i σ G=>∃ (kvs:List (List Key×V)) (v4 v5:Option V),σ=[some (.ref p),some (.int kn),some (.ref np),some (.ref d),v4,v5]/\fW d H3 G/\G d=some (.dT kvs)/\kvs.length<=i/\jA K G kvs ss kn (L.take i))
  ⟨[],_,_,rfl,fW.refl _ _,h3d,aj _,fun e he=>absurd he au⟩ (by rintro i σ G _ ⟨_,_,_,_,o,_⟩;exact bC.of (o _ _ n3d h3)) ?_ ?_⟩
 ·rintro D' i v σ G hv ⟨kvs,v4,v5,rfl,o,gd,lk,kw⟩;obtain ⟨⟨pl,e⟩,he,q,a,rfl,hq,ha⟩:=fM tz hv;have il:=(bc.mp he).1;obtain ⟨pe3,l7,kl,ld6,ekd⟩:=al _ (be he);have ts:=o.ts h3d;have pe:=pe3.ts ts;have ga:=ts _ _ ha;have gn:G np=some (.tup (ss.map V.str)):=ts _ _ h31;refine ⟨q,_,rfl,aO.of (ts _ _ hq),rfl,_,_,rfl,_,_,rfl,rfl,?_⟩;have fin:∀ G1 v,aS G G1->dE K G1 v (e.pr ss kn)->∃ H4,iY G1 d (.ref a) v H4/\∃ (kvs:List (List Key×V)) (v4 v5:Option V),[some (V.ref p),some (V.int kn),some (V.ref np),some (V.ref d),some (V.ref a),some (V.ref e.p)]=[some (.ref p),some (.int kn),some (.ref np),some (.ref d),v4,v5]/\fW d H3 H4/\H4 d=some (.dT kvs)/\kvs.length<=i+1/\jA K H4 kvs ss kn (L.take (i+1)):=fun G1 v sg hp=>by
   have g1d:=sg _ _ gd;refine ⟨_,iY.t (k:=xH pl) g1d (by rw [sK];exact sg _ _ ga) (eI (by lia)),_,_,_,rfl,(o.trans (fW.of sg)).trans fW.upd,aD,by have:=bS kvs (xH pl) v;lia,?_⟩;exact jA.put (e:=(pl,e)) (H:=G) kw nd he ((fW.of sg).trans fW.upd) gd (hp.off fW.upd g1d)
  refine ⟨_,rfl,e,rfl,pe,_,rfl,?_⟩
  by_cases ci:∃ r,e= .row r/\lY ss r=true
  ·obtain ⟨r,rfl,ci⟩:=ci;refine bD rfl ⟨_,rfl,_,rfl,r,np,ss,rfl,pe,gn,_,rfl,bD ci ?_⟩;obtain ⟨H4,dp,z⟩:=fin G (.ref cF) (aS.refl _) (by
    show dE K G (.ref cF) (mB ss kn r);rw [aF7 ci];exact ⟨cF,cF0,cF1,rfl,(hF _).1,(hF _).2.1,(hF _).2.2⟩)
   exact ⟨_,rfl,_,rfl,d,H4,rfl,dp,z⟩
  have els:∀ {A B:Prop},((e.isRow=false->B)/\(∀ r,e= .row r->lY ss r=false->B))->B:=fun {A B} ⟨x,y⟩=>by
   cases e with
   | rows _ _=>exact x rfl
   | row r=>exact y r rfl (by simpa using fun z=>ci ⟨r,rfl,z⟩)
  by_cases cr:∃ r,e= .row r/\(Pt.row r).kids=[]
  ·obtain ⟨r,rfl,ck⟩:=cr;have nid:lY ss r=false:=by simpa using fun z=>ci ⟨r,rfl,z⟩
   refine bD rfl ⟨_,rfl,_,rfl,r,np,ss,rfl,pe,gn,_,rfl,aU (by rw [nid];decide) ?_⟩;refine ⟨_,rfl,Pt.row r,rfl,pe,_,rfl,bD rfl ?_⟩;refine ⟨_,rfl,Pt.row r,rfl,pe,fun r5 G5 s5 n5 h5=>⟨_,.inl ⟨_,bC.of h5,rfl⟩,?_⟩⟩;rw [ck];refine bD rfl ?_;refine ⟨_,rfl,_,rfl,r,kn,rfl,fE.ts (.of s5) r pe,fun p' w' x' d' ed=>?_,fun G6 v6 s6 h6=>?_⟩
   ·have:=ekd _ rfl;rw [ed] at this;have t:(d'.kd:Int)=n:=this
    lia
   ·obtain ⟨H4,dp,z⟩:=fin G6 v6 (s5.trans s6) (by
     show dE K G6 v6 (mB ss kn r);rw [aB7 nid ck];exact h6)
    exact ⟨_,rfl,_,rfl,d,H4,rfl,dp,z⟩
  have hm:e.made=true:=by
   cases e with
   | rows _ _=>rfl
   | row r=>exact aA1 fun z=>cr ⟨r,rfl,z⟩
  have last:∀ G5,aS G G5->aU1 (mQ 3) (mQ 4) (aK1 (aI4 K) [] E0 (iC (mQ 5) (iC (aZ2 (bL0 K (aK1 spPlRI [] E0 (iC (mQ 4) (iC (mQ 5) tNil)))) [none,some 3] (rQ 0) tYes (aW5 (mQ 1) (mQ 0))) tNil)))
    { D' with nx:=fun σ G=>∃ (kvs:List (List Key×V)) (v4 v5:Option V),σ=[some (.ref p),some (.int kn),some (.ref np),some (.ref d),v4,v5]/\fW d H3 G/\G d=some (.dT kvs)/\kvs.length<=i+1/\jA K G kvs ss kn (L.take (i+1)),ct:=fun σ G=>∃ (kvs:List (List Key×V)) (v4 v5:Option V),σ=[some (.ref p),some (.int kn),some (.ref np),some (.ref d),v4,v5]/\fW d H3 G/\G d=some (.dT kvs)/\kvs.length<=i+1/\jA K G kvs ss kn (L.take (i+1)),bk:=D'.nx } [some (V.ref p),some (V.int kn),some (V.ref np),some (V.ref d),some (V.ref a),some (V.ref e.p)] G5:=fun G5 s5=>by
   refine ⟨_,rfl,_,rfl,_,rfl,(pl,e),a,rfl,s5 _ _ ga,(show pl.length<=100 by have:pl.length<=7:=l7;(exact oqf)),(show e.kids.length<=4000 by have:e.kids.length<=bY rs+2:=kl;lia),pe.ts (.of s5),fun r6 ys6 G6 s6 n6 h6 t6=>⟨r6,rfl,⟨_,bC.of h6⟩,?_⟩⟩;have l6:=t6.length;rw [ac,fL] at l6;replace l6:ys6.length=e.kids.length:=l6;have kl':e.kids.length<=bY rs+2:=kl;have s56:=s5.trans s6;refine dL (K:=K) (a:=r6) (xs:=ys6) (fun j us σ G'=>G'=G6/\(∃ v,σ=[v,some (.ref d)])/\cO (dE K G6) us ((e.kids.map (Pt.pr ss kn)).take j))
    (eI (by lia)) ⟨rfl,⟨_,rfl⟩,trivial⟩ (by rintro j us σ G' ⟨_,_,z⟩;rw [z.length,cp];lia) (by rintro j us σ G' _ ⟨z,_⟩;rw [z];exact bC.of h6) ?_ ?_
   ·rintro j y us σ _ hy ⟨rfl,⟨v',rfl⟩,tu⟩;have jl:=(bc.mp hy).1;have jk:j < e.kids.length:=by lia
    obtain ⟨ky,hky,b,rfl,hb⟩:=fM t6 hy;rw [vM (e:=(pl,e)) jk] at hky;injection hky with hky
    subst hky;have ec:=lK (e:=(pl,e)) (ar jk);obtain ⟨u,hu1,hu2⟩:=kw _ (bC0 ah he _ (be ec));have dg:=dG.t (k:=xH (pl++[(j:Int)])) (s56 _ _ gd) (by rw [sK];exact hb);rw [show bP kvs (xH (pl++[(j:Int)]))=some u from hu1] at dg;refine ⟨_,rfl,_,rfl,d,u,rfl,dg,rfl,⟨_,rfl⟩,?_⟩;rw [aT (show (e.kids.map (Pt.pr ss kn))[j]?=some (Pt.pr ss kn e.kids[j]) by rw [cj,ar jk];rfl)];exact cO.append tu ⟨hu2.s s56,trivial⟩
   rintro us σ Gx ⟨ex,_,tu⟩ l9 hl9;replace ex:=ex.symm;subst ex;rw [l6, <- ac (f:=Pt.pr ss kn) (as:=e.kids),bv] at tu;obtain ⟨G9,e0,s9,h9⟩:=gG hl9 (.lst us);rw [e0];clear e0;have s59:=s56.trans s9;refine ⟨e,l9,us,ss,kn,n,rfl,pe.ts (.of s59),hm,ld6,ekd,by lia,h9,tu.mono fun _ _ z=>z.s s9,fun G10 v10 s10 h10=>?_⟩;obtain ⟨H4,dp,z⟩:=fin G10 v10 (s59.trans s10) h10;exact ⟨_,rfl,_,rfl,d,H4,rfl,dp,z⟩
  cases e with
  | rows pp rr =>
   refine aU (fun z=>Bool.noConfusion (show false=true from z)) (aU (by decide) ?_);refine ⟨_,rfl,Pt.rows pp rr,rfl,pe,_,rfl,aU (fun z=>Bool.noConfusion (show false=true from z)) (aU (by decide) ?_)⟩;exact last G (aS.refl _)
  | row r =>
   have nid:lY ss r=false:=by simpa using fun z=>ci ⟨r,rfl,z⟩
   have nk:(Pt.row r).kids≠[]:=fun z=>cr ⟨r,rfl,z⟩
   refine bD rfl ⟨_,rfl,_,rfl,r,np,ss,rfl,pe,gn,_,rfl,aU (by rw [nid];decide) ?_⟩;refine ⟨_,rfl,Pt.row r,rfl,pe,_,rfl,bD rfl ?_⟩;refine ⟨_,rfl,Pt.row r,rfl,pe,fun r5 G5 s5 n5 h5=>⟨_,.inl ⟨_,bC.of h5,rfl⟩,?_⟩⟩;have ne:(fX (Pt.row r).kids).isEmpty=false:=by
    cases q:(Pt.row r).kids with
    | nil=>exact absurd q nk
    | cons _ _=>rfl
   rw [ne];exact aU (by decide) (last G5 s5)
 ·rintro σ G ⟨kvs,v4,v5,rfl,o,gd,lk,kw⟩;rw [lz,bv] at kw;exact ⟨_,rfl,k' G kvs (fW.same s1 ((fW.of s13).trans o) (s1.free hd1)) gd kw⟩
theorem bU7 (C_Prs:Cl P w K mg base 9 (aW7 K) "prices_of"):dZ P w K mg base "price" "price" bZ8 10 ["program","kind"] (bK3 K):=by
 refine eQ ["program","kind"] fun H Q nd hr h=>?_
 obtain ⟨p,xs,rs,kn,n,rfl,P0,N0,hkn,k⟩:=h;have hu:=iR hr;refine ⟨_,(aE (aJ (tF hu (bG C_Prs hr (aA (pv 0) (aN (pv 1)))) (aM cD)))),?_⟩;obtain ⟨v0,pr,hp,hpr⟩:=P0.ex;refine ⟨_,rfl,_,rfl,p,xs,rs,kn,n,v0,pr,rfl,P0,N0,hkn,hp,hpr,fun H1 d kvs ss s1 h1 nds kw=>⟨bj _,fun t ht=>?_⟩⟩;obtain ⟨v,hv,hp⟩:=kw _ (jD ([],Pt.rows pr rs));have dg:=dG.t (k:=[]) ((aB ht (.tup [])) _ _ h1) aD;rw [show bP kvs []=some v from hv] at dg;exact ⟨d,v,rfl,dg,k _ ss v (s1.trans (aB ht _)) nds (dE.s (aB ht _) hp)⟩
theorem bY4 (C_LTl:Cl P w K mg base 3 (aG4 2) "_law_tail") (C_LPw:Cl P w K mg base 1 spPowI "_law_pow") (C_LLo:Cl P w K mg base 2 spLowX "_law_lowest") (m_max:mg "max"=none) (m_min:mg "min"=none):dZ P w K mg base "_law_row_price" "_law_row_price" cC5 5 ["_law_row_here","_law_kind"] (bL5 K):=by
 refine eQ ["_law_row_here","_law_kind","_law_sums","_law_w","_law_wide","_law_p","_law_q","_law_factor","_law_top","_law_bottom"] fun H Q nd hr h=>?_
 obtain ⟨r,kn,rfl,hr0,hw,hkd,k⟩:=h;have hu:=iR hr;have hr1:dQ 1 _:=hr.mono (by decide);refine ⟨_,(aF (bB (eT bU (aZ aG (pv 0) aC) (aM (aA aH (aN aH)))) (aE (aJ (aM (aA (aM (aA aC (aN aC))) (aN (aM (aA aC (aN aC)))))))) aR)
  (dB 2 nd (zF hu (vN (eK aH (aZ aG (pv 0) aC) (eK aH (aZ aG (pv 0) (nB jY aC)) xD)) rfl rfl (by decide) (by decide)) (aZ aG (pv 0) aC) (aM (aN (aZ aG (pv 0) aC))) ⟨rfl,rfl,rfl,rfl⟩)
  (dB 3 nd (mO rN m_max rf (aN (cZ ["_law_weights","_law_kind"] [none,some 1] (kL (pv 2)) (fun _ _ _ _=>(eN 0)) (fun _ _ _ _=>eS) (fun _ _ _ _=>(aZ (sT K) (pv 0) (pv 1))))))
  (aF (bB (eT cH (pv 3) aC) (aE (aJ (aM (aA (aM (aA aC (aN aC))) (aN (aM (aA aC (aN aC)))))))) aR)
  (aF (bB (eT cH (aZ aG (pv 0) aC) aH) (dB 4 nd (aK cB (aK cN aC (aZ aG (pv 0) aC)) aC)
  (aE (aJ (aM (aA (aM (aA aC (aN aC))) (aN (bG C_LLo hr (aA (mO (vI rfl) m_min xz (aA (pv 3) (aN (pv 4)))) (aN (pv 4)))))))))) aR)
  (aF (gC (aZ aG (pv 0) aC) (eV rfl (aX (eN 5 nd) (aX (eN 6 nd) dP))))
  (dB 7 nd (aM (aA (bG C_LPw hr (aA (pv 6) (aN (pv 3)))) (aN (bG C_LPw hr (aA (pv 5) (aN (pv 3)))))))
  (aF (bB (eT qK (aZ aG (pv 0) aC) aH) (aE (aJ (aM (aA (bG C_LLo hr (aA (aZ aG (pv 7) aC) (aN (aZ aG (pv 7) aC)))) (aN (aM (aA aC (aN aC)))))))) aR)
  (aF (gC (aZ aG (pv 0) aC) (eV rfl (aX (eN 5 nd) (aX (eN 6 nd) dP))))
  (dB 7 nd (aM (aA (aK cN (aZ aG (pv 7) aC) (bG C_LPw hr (aA (pv 6) (aN (aK cN aC (pv 3)))))) (aN (aK cN (aZ aG (pv 7) aC) (bG C_LPw hr (aA (pv 5) (aN (aK cN aC (pv 3)))))))))
  (aF (gC (bG C_LTl hr (aA (aZ aG (pv 0) aC) (aN (aK cV (aK cV (aZ aG (pv 0) aC) (pv 3)) (aZ aG (pv 0) aC))))) (eV rfl (aX (eN 8 nd) (aX (eN 9 nd) dP))))
  (aE (aJ (aM (aA (bG C_LLo hr (aA (aZ aG (pv 7) aC) (aN (aZ aG (pv 7) aC)))) (aN (bG C_LLo hr (aA (pv 8) (aN (pv 9)))))))))))))))))))),?_⟩
 have hr1:=fE.at hr0;refine ⟨_,rfl,r.p,_,_,.str r.w,rfl,rfl,aO.of hr1,jQ,bM,fun t0 ht0=>?_⟩;have s0:=aB ht0 (.tup [.str "let",.str "tell"]);refine ⟨t0,[.str "let",.str "tell"],rfl,.inr (aO.of aD),rfl,by decide,_,rfl,?_⟩;generalize aQ H t0 (.tup [.str "let",.str "tell"])=H0 at s0 ⊢;have ei:mU (V.str r.w) [.str "let",.str "tell"]=decide (r.w∈(["let","tell"]:List Str)):=bW _ ["let","tell"]
 cases r with
 | lt p x t=>exact bD (ei.trans (ag (by show ("let": Str)∈_;decide +kernel))) (lU fun H' v s h=>k H' v (s0.trans s) h)
 | tell p t=>exact bD (ei.trans (ag (by show ("tell": Str)∈_;decide +kernel))) (lU fun H' v s h=>k H' v (s0.trans s) h)
 | when p pa pb t a b=>exact absurd (by show ("when": Str)∈_;decide +kernel) hw
 | times p pb n b=>exact absurd (by show ("times": Str)∈_;decide +kernel) hw
 | thr p w x d =>
 obtain ⟨hp,ok⟩:=hr0;have nw:¬ w∈(["let","tell"]:List Str):=by
  have e:=ok.wd;rw [e]
  cases d.T with
  | lad _ _ _ _=>show ¬ ("ladder": Str)∈_;decide +kernel
  | fla _ _ _=>show ¬ ("flat": Str)∈_;decide +kernel
  | cho _ _ _ _=>show ¬ ("choose": Str)∈_;decide +kernel
  | fst _ _ _ _ _ _ _=>show ¬ ("first": Str)∈_;decide +kernel
 refine aU (fun z=>nw (ai (ei.symm.trans z))) ?_;clear ei nw hw hr1;have hkd':=hkd p w x d rfl;clear hkd;replace k:∀ H' v,aS H H'->dE K H' v (lV d.T (wK d kn))->Q v H':=k;have ewd:=ok.wd;subst ewd;obtain ⟨c2,c3,e2,e3,so⟩:=aX8 ok.at' (x:=x);have hp0:=s0 _ _ hp;refine fun dd hdd=>?_
 have hpd:=(aB hdd (.dK [])) _ _ hp0;refine ⟨_,rfl,p,_,_,c2,rfl,rfl,aO.of hpd,e2,_,rfl,3,rfl,p,_,_,c3,rfl,rfl,aO.of hpd,e3,aD,[((Sum.inr "choose": Key),c2),((Sum.inr "first": Key),c3)],rfl,by show 2<=15;decide,?_⟩;rw [aH1];have mk:=aR8 c2 c3 d.T.wd;generalize fU [] [((Sum.inr "choose": Key),c2),((Sum.inr "first": Key),c3)]=kv at mk ⊢;obtain ⟨H3,e0,s3,h3⟩:=gG hdd (.dK kv);rw [e0];clear e0;have s03:=s0.trans s3;refine ⟨dd,rfl,.inl ⟨kv,.inl h3⟩,_,rfl,p,_,_,_,rfl,rfl,aO.of (s03 _ _ hp),jQ,_,rfl,p,_,_,c2,rfl,rfl,aO.of (s03 _ _ hp),e2,jF,fun t4 ht4=>⟨bP kv (Sum.inr d.T.wd:Key),dG.k (k:=(Sum.inr d.T.wd:Key)) ((aB ht4 (.tup [c2])) _ _ h3),?_⟩⟩;rw [mk];have s1:=s03.trans (aB ht4 (.tup [c2]));have h4:aQ H3 t4 (.tup [c2]) t4=some (.tup [c2]):=aD;generalize aQ H3 t4 (.tup [c2])=H1 at s1 h4 ⊢;have sums:∃ vt us,(if d.T.wd="first" then some c3 else if d.T.wd="choose" then some c2 else none).getD (V.ref t4)= .ref vt/\H1 vt=some (.tup us)/\cO (pG H1) us d.wss:=by
  rcases so with ⟨n1,n2,w,ws,rfl,hws,ew⟩ | ⟨sm,us,hsm,tw,⟨e,rfl⟩ | ⟨e,rfl⟩⟩
  ·rw [ak n2,ak n1];exact ⟨t4,_,rfl,h4,by rw [ew];exact ⟨⟨w,rfl,s1 _ _ hws⟩,trivial⟩⟩
  ·rw [ak (by rw [e];exact nCF),ay e];exact ⟨sm,us,rfl,s1 _ _ hsm,tw.mono fun _ _ z=>z.ts (.of s1)⟩
  ·rw [ay e];exact ⟨sm,us,rfl,s1 _ _ hsm,tw.mono fun _ _ z=>z.ts (.of s1)⟩
 obtain ⟨vt,us,evt,ht,tw⟩:=sums;rw [evt];clear so h4 mk h3 s3 s03 hp0 hpd evt;refine ⟨_,rfl,vt,rfl,⟨_,aO.of ht⟩,qU (xs:=us) (fun i zs σ G=>G=H1/\(∃ v,σ=[v,some (.int kn)])/\zs=((d.wss.map fun ws=>ws.getD kn 0).take i).map V.int)
  (aV (by have:=tw.length;have:=ok.ws.l4;lia)) ⟨rfl,⟨_,rfl⟩,rfl⟩ (by rintro i zs σ G ⟨_,_,e⟩;rw [e,ac,cp];lia) (by rintro i zs σ G _ ⟨e,_⟩;rw [e];exact aO.of ht) ?_ ?_⟩
 ·rintro j y zs σ _ hy ⟨rfl,⟨v,rfl⟩,rfl⟩;obtain ⟨ws,hws,aw,rfl,hia⟩:=fM tw hy;have lw:=(ok.ws.ws ws (be hws)).1;refine ⟨_,rfl,_,rfl,aw,_,_,_,rfl,rfl,aO.of hia,fB (bK5 (by lia)),rfl,⟨_,rfl⟩,?_⟩;have e:(d.wss.map fun ws=>ws.getD kn 0)[j]?=some (ws.getD kn 0):=by rw [cj,hws];rfl
  rw [aT e,bm];rfl
 rintro zs σ Gx ⟨ex,_,rfl⟩ l9 hl9;replace ex:=ex.symm;subst ex;rw [aG8 tw];refine ⟨l9,_,rfl,bC.of aD,aV1 ok.ws kn,fun wI hin hbd=>?_⟩;have s2:=s1.trans (aB hl9 (.lst ((d.wss.map fun ws=>ws.getD kn 0).map V.int)));generalize aQ H1 l9 (.lst ((d.wss.map fun ws=>ws.getD kn 0).map V.int))=H2 at s2 ⊢;have ew:=bJ9 ok.ws hin hbd;have w03:=aK9 ok.ws kn;clear hin hbd hl9 tw ht s1;subst ew;generalize ewk:wK d kn=wI at w03 k ⊢;obtain ⟨w0,w3⟩:=w03;refine ⟨_,rfl,rfl,_,rfl,?_⟩
 by_cases c0:wI=0
 ·refine bD (by rw [c0];exact ag rfl) ?_;refine lU (K:=K) fun H' v s h=>k H' v (s2.trans s) ?_
  unfold lV;rw [ay c0];exact h
 refine aU (fun z=>c0 (by have z:=ai z;injection z)) ?_;have tk:=aW0 ok.ok w0 w3;replace hp:=s2 _ _ hp;have vat:=ok.at'.ts (.of s2);have tok:=ok.ok;have kk:∀ H' v,aS H2 H'->dE K H' v (lV d.T wI)->Q v H':=fun H' v s=>k H' v (s2.trans s)
 clear k ok s2 hkd' ewk;unfold lV at kk tk;rw [ak c0] at kk tk;obtain ⟨vs,T,wss,kd⟩:=d;replace hp:H2 p=some (.tup (.str T.wd :: .str x :: vs)):=hp;have low:∀ {st:Addr}{pa qa:Int}{r:List V},tY pa qa->fO H2 st pa qa->vs=r->True:=fun _ _ _=>trivial
 cases T with
 | fla r lo hi =>
  obtain ⟨wa,ws,e,_,_⟩:=vat;replace e:vs=_:=e;subst e;obtain ⟨r0,r4⟩:=tok;replace r0:0<=r:=r0;replace r4:r<=4:=r4;refine ⟨_,rfl,p,_,_,_,rfl,rfl,aO.of hp,rfl,rfl,_,rfl,bD (ag rfl) ?_⟩;refine ⟨_,rfl,p,_,_,_,rfl,rfl,aO.of hp,rfl,_,_,rfl,rfl,⟨4,4,.of (by decide) (by decide),.of r0 (by (exact oqc)),by decide,by decide⟩,_,_,rfl,rfl,?_⟩;have m0:0<=(if 2 * r+1 < wI then 2 * r+1 else wI):=by split <;> lia
  refine ⟨bM,fun a1 ha1=>⟨_,rfl,_,rfl,wI,2 * r+1,rfl,_,rfl,_,_,rfl,m0,by lia,⟨10,.of (by lia) (by lia),by decide⟩,fun u hu'=>⟨bM,fun t ht=>?_⟩⟩⟩;have s3:=aB ha1 (.tup [.int 1,.int 1]);have s4:=aB hu' (.tup [.int (dR (if 2 * r+1 < wI then 2 * r+1 else wI) (2 * r+1)).1,.int (dR (if 2 * r+1 < wI then 2 * r+1 else wI) (2 * r+1)).2]);exact kk _ (.ref t) (s3.trans (s4.trans (aB ht _))) ⟨t,a1,u,rfl,aO.of aD,bJ.of ((s4.trans (aB ht _)) _ _ aD),bJ.ofU ((aB ht _) _ _ aD)⟩
 | lad pa qa lo hi =>
  obtain ⟨wa,ws,st,e,_,_,h1⟩:=vat;replace e:vs=_:=e;subst e;have p1:=(show tY pa qa from tok).st.p1;have pq:=(show tY pa qa from tok).st.pq;have q9:=(show tY pa qa from tok).st.q9;refine ⟨_,rfl,p,_,_,_,rfl,rfl,aO.of hp,rfl,rfl,_,rfl,aU (by rw [da];exact nFL) ?_⟩;refine ⟨_,rfl,p,_,_,_,rfl,rfl,aO.of hp,rfl,st,_,rfl,aO.of h1,rfl,_,_,rfl,_,_,rfl,rfl,?_⟩;refine ⟨_,rfl,_,rfl,qa,wI,rfl,by lia,q9,w0,by (exact oqa),_,rfl,_,rfl,pa,wI,rfl,by (exact oqb),by lia,w0,by (exact oqa),bM,fun tf htf=>?_⟩;obtain ⟨H3,e0,s3,h3⟩:=gG htf (.tup [.int (qa ^ wI.toNat),.int (pa ^ wI.toNat)]);rw [e0];clear e0;refine ⟨_,rfl,p,_,_,_,rfl,rfl,aO.of (s3 _ _ hp),rfl,rfl,_,rfl,bD (by show (!decide (V.str "ladder"=V.str "first"))=true;rw [cz nIL];rfl) ?_⟩;refine ⟨_,rfl,tf,_,_,_,rfl,rfl,aO.of h3,tJ _ _,_,rfl,tf,_,_,_,rfl,rfl,aO.of h3,nV _ _,_,_,rfl,fz (by lia),pw1 p1 _,⟨60,tk.2.1.bb,by decide⟩,fun u hu'=>?_⟩
  have el:dR (qa ^ wI.toNat) (pa ^ wI.toNat)=(qa ^ wI.toNat,pa ^ wI.toNat):=tk.1.f.l;rw [el];obtain ⟨H4,e0,s4,h4⟩:=gG hu' (.tup [.int (qa ^ wI.toNat),.int (pa ^ wI.toNat)]);rw [e0];clear e0;refine ⟨bM,fun z hz=>⟨bM,fun t ht=>?_⟩⟩;exact kk _ (.ref t) (s3.trans (s4.trans ((aB hz _).trans (aB ht _)))) ⟨t,u,z,rfl,aO.of aD,bJ.of (((aB hz _).trans (aB ht _)) _ _ h4),bJ.of ((aB ht _) _ _ aD)⟩
 | cho pa qa lo hi =>
  obtain ⟨sm,us',st,e,_,_,h1⟩:=vat;replace e:vs=_:=e;subst e;have p1:=(show tY pa qa from tok).st.p1;have pq:=(show tY pa qa from tok).st.pq;have q9:=(show tY pa qa from tok).st.q9;refine ⟨_,rfl,p,_,_,_,rfl,rfl,aO.of hp,rfl,rfl,_,rfl,aU (by rw [da];exact nFC) ?_⟩;refine ⟨_,rfl,p,_,_,_,rfl,rfl,aO.of hp,rfl,st,_,rfl,aO.of h1,rfl,_,_,rfl,_,_,rfl,rfl,?_⟩;refine ⟨_,rfl,_,rfl,qa,wI,rfl,by lia,q9,w0,by (exact oqa),_,rfl,_,rfl,pa,wI,rfl,by (exact oqb),by lia,w0,by (exact oqa),bM,fun tf htf=>?_⟩;obtain ⟨H3,e0,s3,h3⟩:=gG htf (.tup [.int (qa ^ wI.toNat),.int (pa ^ wI.toNat)]);rw [e0];clear e0;refine ⟨_,rfl,p,_,_,_,rfl,rfl,aO.of (s3 _ _ hp),rfl,rfl,_,rfl,bD (by show (!decide (V.str "choose"=V.str "first"))=true;rw [cz nIC];rfl) ?_⟩;refine ⟨_,rfl,tf,_,_,_,rfl,rfl,aO.of h3,tJ _ _,_,rfl,tf,_,_,_,rfl,rfl,aO.of h3,nV _ _,_,_,rfl,fz (by lia),pw1 p1 _,⟨60,tk.2.1.bb,by decide⟩,fun u hu'=>?_⟩
  have el:dR (qa ^ wI.toNat) (pa ^ wI.toNat)=(qa ^ wI.toNat,pa ^ wI.toNat):=tk.1.f.l;rw [el];obtain ⟨H4,e0,s4,h4⟩:=gG hu' (.tup [.int (qa ^ wI.toNat),.int (pa ^ wI.toNat)]);rw [e0];clear e0;refine ⟨bM,fun z hz=>⟨bM,fun t ht=>?_⟩⟩;exact kk _ (.ref t) (s3.trans (s4.trans ((aB hz _).trans (aB ht _)))) ⟨t,u,z,rfl,aO.of aD,bJ.of (((aB hz _).trans (aB ht _)) _ _ h4),bJ.of ((aB ht _) _ _ aD)⟩
 | fst pa qa pb qb mk lo hi =>
  obtain ⟨sm,us',sa,sb,e,_,_,h1,h2⟩:=vat;replace e:vs=_:=e;subst e;obtain ⟨ca,cb,k0,k9⟩:=tok;replace kk:∀ H' v,aS H2 H'->dE K H' v (dR (qa ^ wI.toNat * qb ^ (2 * wI).toNat) (pa ^ wI.toNat * pb ^ (2 * wI).toNat),dR (tN pa qa (hi - wI - mk)) (tD pa qa (hi - wI - mk)))->Q v H':=kk;clear tk;have p1:=ca.st.p1;have pq:=ca.st.pq;have q9:=ca.st.q9;have p1':=cb.st.p1;have pq':=cb.st.pq;have q9':=cb.st.q9;refine ⟨_,rfl,p,_,_,_,rfl,rfl,aO.of hp,rfl,rfl,_,rfl,aU (by rw [da];exact nFF) ?_⟩;refine ⟨_,rfl,p,_,_,_,rfl,rfl,aO.of hp,rfl,sa,_,rfl,aO.of h1,rfl,_,_,rfl,_,_,rfl,rfl,?_⟩;refine ⟨_,rfl,_,rfl,qa,wI,rfl,by lia,q9,w0,by (exact oqa),_,rfl,_,rfl,pa,wI,rfl,by (exact oqb),by lia,w0,by (exact oqa),bM,fun tf htf=>?_⟩;have b1:bT 25 (qa ^ wI.toNat):=pwb (by lia) q9 (by lia);have b2:bT 25 (pa ^ wI.toNat):=pwb (by (exact oqb)) (by lia) (by lia);have b3:bT 25 (qb ^ (2 * wI).toNat):=pwb (by lia) q9' (by lia)
  have b4':bT 25 (pb ^ (2 * wI).toNat):=pwb (by (exact oqb)) (by lia) (by lia);have m1:0<=qa ^ wI.toNat * qb ^ (2 * wI).toNat:=di (fz (by lia)) (fz (by lia));have m2:1<=pa ^ wI.toNat * pb ^ (2 * wI).toNat:=by
   have:=gu (show 0 < pa ^ wI.toNat by have:=pw1 p1 wI.toNat;(exact oqe)) (show 0 < pb ^ (2 * wI).toNat by have:=pw1 p1' (2 * wI).toNat;(exact oqe))
   lia
  have b5:=(b2.mul b4').mono (show 25+25<=60 by decide);generalize qa ^ wI.toNat=A1 at *;generalize pa ^ wI.toNat=A2 at *;generalize eB1:qb ^ (2 * wI).toNat=B1 at *;generalize eB2:pb ^ (2 * wI).toNat=B2 at *;obtain ⟨H3,e0,s3,h3⟩:=gG htf (.tup [.int A1,.int A2]);rw [e0];clear e0;have hp3:=s3 _ _ hp;refine ⟨_,rfl,p,_,_,_,rfl,rfl,aO.of hp3,rfl,rfl,_,rfl,aU (by show ¬ (!decide (V.str "first"=V.str "first"))=true;rw [ag rfl];decide) ?_⟩;refine ⟨_,rfl,p,_,_,_,rfl,rfl,aO.of hp3,rfl,sb,_,rfl,aO.of (s3 _ _ h2),rfl,_,_,rfl,_,_,rfl,rfl,?_⟩;refine ⟨_,rfl,tf,_,_,_,rfl,rfl,aO.of h3,tJ _ _,_,rfl,_,rfl,_,_,rfl,rfl,⟨4,4,.of (by decide) (by decide),.of w0 (by (exact oqc)),by decide,by decide⟩,qb,2 * wI,rfl,by lia,q9',by lia,by lia,_,_,rfl,rfl,⟨25,25,b1,by rw [eB1];exact b3,by decide,by decide⟩,?_⟩;refine ⟨_,rfl,tf,_,_,_,rfl,rfl,aO.of h3,nV _ _,_,rfl,_,rfl,_,_,rfl,rfl,⟨4,4,.of (by decide) (by decide),.of w0 (by (exact oqc)),by decide,by decide⟩,pb,2 * wI,rfl,by (exact oqb),by lia,by lia,by lia,_,_,rfl,rfl,⟨25,25,b2,by rw [eB2];exact b4',by decide,by decide⟩,bM,fun tg htg=>?_⟩
  rw [eB1,eB2];obtain ⟨H4,e0,s4,h4⟩:=gG htg (.tup [.int (A1 * B1),.int (A2 * B2)]);rw [e0];clear e0;have s34:=s3.trans s4;have hp4:=s34 _ _ hp;have td:=cD7 ca.st (k:=hi - wI - mk) (by lia) (by lia);refine ⟨_,rfl,p,_,_,_,rfl,rfl,aO.of hp4,rfl,_,rfl,p,_,_,_,rfl,rfl,aO.of hp4,rfl,_,rfl,_,_,rfl,rfl,_,rfl,p,_,_,_,rfl,rfl,aO.of hp4,rfl,_,_,rfl,rfl,sa,pa,qa,hi - wI - mk,rfl,s34 _ _ h1,ca.st,by lia,by lia,(fun z=>by cases z),fun H5 r5 s5 h5=>?_⟩;refine ⟨r5,_,rfl,aO.of h5,rfl,_,_,rfl,_,_,rfl,rfl,?_⟩;generalize tN pa qa (hi - wI - mk)=N1 at *;generalize tD pa qa (hi - wI - mk)=N2 at *;refine ⟨_,rfl,tg,_,_,_,rfl,rfl,aO.of (s5 _ _ h4),tJ _ _,_,rfl,tg,_,_,_,rfl,rfl,aO.of (s5 _ _ h4),nV _ _,_,_,rfl,m1,m2,⟨60,b5,by decide⟩,fun u hu'=>?_⟩;obtain ⟨H6,e0,s6,h6⟩:=gG hu' (.tup [.int (dR (A1 * B1) (A2 * B2)).1,.int (dR (A1 * B1) (A2 * B2)).2]);rw [e0];clear e0;refine ⟨_,rfl,_,rfl,N1,N2,rfl,td.2.2.1,td.2.1,⟨42,td.1,by decide⟩,fun u2 hu2=>⟨bM,fun t ht=>?_⟩⟩
  have s7:=aB hu2 (.tup [.int (dR N1 N2).1,.int (dR N1 N2).2]);exact kk _ (.ref t) (s34.trans (s5.trans (s6.trans (s7.trans (aB ht _))))) ⟨t,u,u2,rfl,aO.of aD,bJ.ofU ((s7.trans (aB ht _)) _ _ h6),bJ.ofU ((aB ht _) _ _ aD)⟩
theorem bS6 (C_LRP:Cl P w K mg base 5 (bL5 K) "_law_row_price") (C_LTm:Cl P w K mg base 3 (mE K) "_law_times") (C_LAd:Cl P w K mg base 3 (xA K) "_law_added") (C_LGr:Cl P w K mg base 2 (bJ8 K) "_law_greater"):dZ P w K mg base "_law_joined" "_law_joined" cA5 6 ["_law_rule_here","_law_row_here","_law_some","_law_kind"] (bK0 K):=by
 refine eQ ["_law_rule_here","_law_row_here","_law_some","_law_kind","_law_factor","_law_rest","_law_one"] fun H Q nd hr h=>?_
 obtain ⟨e,l,us,ss,kn,kd,rfl,he,hld,hkd,hkn,l4,hl,tw,k⟩:=h;refine ⟨_,(aF (bB (eT cH (pv 0) aH) (aE (aJ (aM (aA (aM (aA aC (aN aC))) (aN (aM (aA aC (aN aC)))))))) aR)
  (aF (bB (eT bU (pv 0) (aM (aA aH (aN aH)))) (aE (aJ (bG C_LRP hr (aA (pv 1) (aN (pv 3)))))) aR)
  (aF (bB (eT cH (pv 0) aH) (aE (aJ (aM (aA (bG C_LGr hr (aA (aZ aG (aZ bQ (pv 2) aC) aC) (aN (aZ aG (aZ bQ (pv 2) aC) aC)))) (aN (bG C_LGr hr (aA (aZ aG (aZ bQ (pv 2) aC) aC) (aN (aZ aG (aZ bQ (pv 2) aC) aC))))))))) aR)
  (aF (bF8 (bB (eT cH (pv 0) aH) (aE (zV 2 nd (aK aT6 (pv 2) (aZ aG (pv 1) aC)))) aR))
  (aF (gC (aM (aA (aM (aA aC (aN aC))) (aN (aM (aA aC (aN aC)))))) (eV rfl (aX (eN 4 nd) (aX (eN 5 nd) dP))))
  (aF (pK (bX (pv 2)) (eN 6 nd)
  (dB 4 nd (bG C_LTm hr (aA (pv 4) (aN (aZ aG (pv 6) aC))))
  (aE (zV 5 nd (bG C_LAd hr (aA (pv 5) (aN (aZ aG (pv 6) aC))))))))
  (aE (aJ (aM (aA (pv 4) (aN (pv 5)))))))))))),?_⟩
 have tl:=tw.length;rw [ac] at tl
 by_cases ci:∃ r,e= .row r/\lY ss r=true
 ·obtain ⟨r,rfl,ci⟩:=ci;rw [aS9 ci];refine ⟨_,rfl,rfl,_,rfl,bD (ag rfl) ?_⟩;exact lU fun H' v s h=>k H' v s (by show dE K H' v (mB ss kn r);rw [aF7 ci];exact h)
 by_cases cr:∃ r,e= .row r/\(Pt.row r).kids=[]
 ·obtain ⟨r,rfl,ck⟩:=cr;have ni:lY ss r=false:=by simpa using fun z=>ci ⟨r,rfl,z⟩
  have er:=aQ7 ni ck;have nw:=bH6 he ck;generalize (Pt.row r).rule ss=W at er ⊢;refine ⟨_,rfl,rfl,_,rfl,aU (by rw [da];rcases er with rfl | rfl <;> decide +kernel) ?_⟩;refine ⟨_,rfl,bM,fun t ht=>?_⟩;have s1:=aB ht (.tup [.str "throw",.str "plain"]);refine ⟨t,[.str "throw",.str "plain"],rfl,.inr (aO.of aD),rfl,by decide,_,rfl,?_⟩;generalize aQ H t (.tup [.str "throw",.str "plain"])=H1 at s1 ⊢;have ei:mU (V.str W) [.str "throw",.str "plain"]=decide (W∈(["throw","plain"]:List Str)):=bW _ ["throw","plain"];refine bD (ei.trans (ag (by rcases er with rfl | rfl <;> decide +kernel))) ?_;refine ⟨_,rfl,_,rfl,r,kn,rfl,fE.ts (.of s1) r he,nw,fun p' w' x' d' ed=>?_,fun H' v s h=>k H' v (s1.trans s) ?_⟩
  ·have:=hkd _ rfl;rw [ed] at this;have t:(d'.kd:Int)=kd:=this
   lia
  ·show dE K H' v (mB ss kn r);rw [aB7 ni ck];exact h
 have hm:e.made=true:=by
  cases e with
  | rows _ _=>rfl
  | row r=>exact aA1 fun z=>cr ⟨r,rfl,z⟩
 by_cases cw:∃ p pa pb t a b,e= .row (.when p pa pb t a b)
 ·obtain ⟨p,pa,pb,t0,a,b,rfl⟩:=cw;have pe:(Pt.row (.when p pa pb t0 a b)).pr ss kn=sJ (iL ss kn a) (iL ss kn b):=by simp only [Pt.pr,mB,iL]
  rw [pe] at k;simp only [Pt.ld,nZ] at hld;have ek:(Pt.row (.when p pa pb t0 a b)).kids.map (Pt.pr ss kn)=[iL ss kn a,iL ss kn b]:=by simp only [Pt.kids,List.map_cons,List.map_nil,Pt.pr]
  rw [ek] at tw;have oa:=qY (kS ss kn he.2.2.2.2.1).2 (by (exact oqC));have ob:=qY (kS ss kn he.2.2.2.2.2).2 (by (exact oqD));obtain ⟨u1,e1,a1,x1,y1,rfl,ha1,hx1,hy1⟩:=wL tw (i:=0) rfl;obtain ⟨u2,e2,a2,x2,y2,rfl,ha2,hx2,hy2⟩:=wL tw (i:=1) rfl;show aZ8 _ _ _ [some (.str "either"),some (.ref p),some (.ref l),some (.int kn),none,none,none] H;refine ⟨_,rfl,rfl,_,rfl,aU (by rw [da];decide +kernel) ?_⟩;refine ⟨_,rfl,bM,fun t ht=>?_⟩;have s1:=aB ht (.tup [.str "throw",.str "plain"]);refine ⟨t,[.str "throw",.str "plain"],rfl,.inr (aO.of aD),rfl,by decide,_,rfl,aU (by decide +kernel) ?_⟩;generalize aQ H t (.tup [.str "throw",.str "plain"])=H1 at s1 ⊢;refine ⟨_,rfl,rfl,_,rfl,bD (ag rfl) ?_⟩;have l1:=s1 _ _ hl;refine ⟨_,rfl,l,_,_,.ref a1,rfl,rfl,bC.of l1,fB (j:=0) e1,a1,_,_,.ref x1,rfl,rfl,aO.ts s1 ha1,rfl,_,rfl,l,_,_,.ref a2,rfl,rfl,bC.of l1,fB (j:=1) e2,a2,_,_,.ref x2,rfl,rfl,aO.ts s1 ha2,rfl,x1,x2,_,_,rfl,hx1.s s1,hx2.s s1,oa.1,ob.1,fun H2 r2 s2 h2=>?_⟩
  have s12:=s1.trans s2;have l2:=s12 _ _ hl;refine ⟨_,rfl,l,_,_,.ref a1,rfl,rfl,bC.of l2,fB (j:=0) e1,a1,_,_,.ref y1,rfl,rfl,aO.ts s12 ha1,rfl,_,rfl,l,_,_,.ref a2,rfl,rfl,bC.of l2,fB (j:=1) e2,a2,_,_,.ref y2,rfl,rfl,aO.ts s12 ha2,rfl,y1,y2,_,_,rfl,hy1.s s12,hy2.s s12,oa.2,ob.2,fun H3 r3 s3 h3=>⟨bM,fun t4 ht4=>?_⟩⟩;exact k _ (.ref t4) (s12.trans (s3.trans (aB ht4 _))) ⟨t4,r2,r3,rfl,aO.of aD,h2.s (s3.trans (aB ht4 _)),h3.s (aB ht4 _)⟩
 obtain ⟨PS,sq,lp,epr,hw⟩:=bT7 (k:=kn) (ss:=ss) he hld hkd l4 hm (fun p pa pb t a b z=>cw ⟨p,pa,pb,t,a,b,z⟩);rw [<- epr] at k;clear epr hld cr ci cw hm hkd;have ep:e.p=e.p:=rfl;have nW:∀ w:Str,w∈(["idle","throw","plain","either"]:List Str)->¬ e.rule ss=w:=fun w hw' z=>by
  rcases hw with ⟨q,_⟩ | ⟨q,_⟩ <;> rw [q] at z <;> subst z <;> revert hw' <;> decide +kernel
 generalize e.rule ss=W at hw nW ⊢;refine ⟨_,rfl,rfl,_,rfl,aU (by rw [da];exact fun z=>nW "idle" (by decide +kernel) (by injection z)) ?_⟩;refine ⟨_,rfl,bM,fun t ht=>?_⟩;have s1:=aB ht (.tup [.str "throw",.str "plain"]);refine ⟨t,[.str "throw",.str "plain"],rfl,.inr (aO.of aD),rfl,by decide,_,rfl,?_⟩;generalize aQ H t (.tup [.str "throw",.str "plain"])=H1 at s1 ⊢;have ei:mU (V.str W) [.str "throw",.str "plain"]=decide (W∈(["throw","plain"]:List Str)):=bW _ ["throw","plain"];refine aU (fun z=>?_) ?_
 ·have z:=ai (ei.symm.trans z);simp only [List.mem_cons,List.not_mem_nil,or_false] at z;rcases z with z | z
  ·exact nW "throw" (by decide +kernel) z
  ·exact nW "plain" (by decide +kernel) z
 refine ⟨_,rfl,rfl,_,rfl,aU (by rw [da];exact fun z=>nW "either" (by decide +kernel) (by injection z)) ?_⟩;refine ⟨fun σ G=>∃ (l':Addr) (us':List V),σ=[some (.str W),some (.ref e.p),some (.ref l'),some (.int kn),none,none,none]/\aS H G/\G l'=some (.lst us')/\cO (dE K G) us' PS,?_,?_⟩
 ·refine ⟨_,rfl,rfl,_,rfl,?_⟩;rcases hw with ⟨rfl,rfl⟩ | ⟨rfl,n,r,n1,n3,k1,hep,rfl⟩
  ·exact aU (by rw [da];decide +kernel) ⟨l,us,rfl,s1,s1 _ _ hl,tw.mono fun _ _ z=>z.s s1⟩
  ·refine bD (ag rfl) ?_;refine ⟨_,rfl,_,rfl,e.p,_,_,.int n,rfl,rfl,aO.of (s1 _ _ hep),fB (j:=1) rfl,l,n,us,rfl,rfl,s1 _ _ hl,by (exact oqb),by (exact oqc),bu (aV ?_),fun q hq=>?_⟩
   ·have:us.length=1:=by lia
    rw [this];lia
   ·exact ⟨q,_,rfl,s1.trans (aB hq _),aD,aH7 (tw.mono fun _ _ z=>z.s (s1.trans (aB hq _))) n.toNat⟩
 clear ht s1 tw hl tl hw nW ei;rintro σ G ⟨l',us',rfl,sG,gl,tw⟩;have ul:=tw.length;refine ⟨bM,fun a0 ha0=>⟨bM,fun b0 hb0=>⟨bM,fun c0 hc0=>?_⟩⟩⟩;have s2:=(aB ha0 (.tup [.int 1,.int 1])).trans ((aB hb0 (.tup [.int 0,.int 1])).trans (aB hc0 (.tup [.ref a0,.ref b0])));have h20:=((aB hb0 (.tup [.int 0,.int 1])).trans (aB hc0 (.tup [.ref a0,.ref b0]))) a0 _ (aD (H:=G) (o:= .tup [.int 1,.int 1]));have h21:=(aB hc0 (.tup [.ref a0,.ref b0])) b0 _ (aD (o:= .tup [.int 0,.int 1]));refine ⟨c0,_,rfl,aO.of aD,rfl,_,_,rfl,_,_,rfl,rfl,?_⟩;generalize aQ (aQ (aQ G a0 (.tup [.int 1,.int 1])) b0 (.tup [.int 0,.int 1])) c0 (.tup [.ref a0,.ref b0])=G2 at s2 h20 h21 ⊢;have gl2:=s2 _ _ gl;replace tw:=tw.mono fun _ _ (z:dE K G _ _)=>z.s s2
 have sG2:=sG.trans s2;clear s2 sG gl;refine ⟨_,rfl,l',rfl,⟨_,bC.of gl2⟩,dW (K:=K) (a:=l') (xs:=us') (fun i σ G=>∃ (f g:Addr) (v:Option V),σ=[some (.str W),some (.ref e.p),some (.ref l'),some (.int kn),some (.ref f),some (.ref g),v]/\aS G2 G/\bJ K G f (fF (PS.take i)).1/\bJ K G g (fF (PS.take i)).2)
  ⟨a0,b0,_,rfl,aS.refl _,bJ.of h20,bJ.of h21⟩ (by rintro i σ G _ ⟨_,_,_,_,z,_⟩;exact bC.of (z _ _ gl2)) ?_ ?_⟩
 ·rintro D' i v σ G hv ⟨f,g,v3,rfl,s1,hf,hg⟩;obtain ⟨P0,hP,a,x,y,rfl,ha,hx,hy⟩:=fM tw hv;have bp:=sq.1 P0 (be hP);have bi:=sq.2 i;refine ⟨_,rfl,_,rfl,a,_,_,_,rfl,rfl,aO.ts s1 ha,rfl,f,x,_,_,rfl,hf,hx.s s1,bi.1,bp.1,fun r1 hr1'=>?_⟩;have s2:=aB hr1' (.tup [.int (fQ (fF (PS.take i)).1 P0.1).1,.int (fQ (fF (PS.take i)).1 P0.1).2]);have h2:=aD (H:=G) (a:=r1) (o:= .tup [.int (fQ (fF (PS.take i)).1 P0.1).1,.int (fQ (fF (PS.take i)).1 P0.1).2]);generalize aQ G r1 (.tup [.int (fQ (fF (PS.take i)).1 P0.1).1,.int (fQ (fF (PS.take i)).1 P0.1).2])=G3 at s2 h2 ⊢;refine ⟨_,rfl,_,rfl,a,_,_,_,rfl,rfl,aO.ts (s1.trans s2) ha,rfl,g,y,_,_,rfl,hg.s s2,hy.s (s1.trans s2),bi.2,bp.2,fun r2 hr2'=>?_⟩;rw [aT hP,mY];exact ⟨r1,r2,_,rfl,s1.trans (s2.trans (aB hr2' _)),(bJ.ofU h2).s (aB hr2' _),bJ.ofU aD⟩
 ·rintro σ G ⟨f,g,v3,rfl,s1,hf,hg⟩;rw [ul,bv] at hf hg;refine ⟨_,rfl,_,rfl,bM,fun t ht=>?_⟩;exact k _ (.ref t) (sG2.trans (s1.trans (aB ht _))) ⟨t,f,g,rfl,aO.of aD,hf.s (aB ht _),hg.s (aB ht _)⟩
theorem bN6 (C_LId:Cl P w K mg base 1 spLId "_law_idle") (m_isinstance:mg "isinstance"=none) (m_tuple:mg "tuple"=none) (m_int:mg "int"=none) (m_len:mg "len"=none):dZ P w K mg base "_law_rule" "_law_rule" cC8 3 ["_law_part","_law_names_here"] spRule:=by
 refine eQ ["_law_part","_law_names_here"] fun H Q nd hr h=>?_
 obtain ⟨e,np,ss,rfl,he,hn,k⟩:=h;have hr1:dQ 1 _:=hr.mono (by decide);refine ⟨_,(aF (bB (PW.pt (vJ (eT cH (mO bO m_len gb (aN (pv 0))) aC) (oP (fJ (mO kP m_isinstance oq (aA (aZ aG (pv 0) aC) (aN (vV (v:= .ty "tuple") (by rfl) m_tuple eo rfl)))))))) (aE (aJ aH)) aR)
  (aF (bB (eT bU (aZ aG (pv 0) aC) (aM (aA aH (aN aH)))) (aE (aJ (aZ bQ (bK (aA aH (aN aH))) (tQ fY m_int ip (aN (pec cH (aZ aG (pv 0) aC) aH)))))) aR)
  (aF (bB (fJ (bG C_LId hr (aA (pv 0) (aN (pv 1))))) (aE (aJ aH)) aR)
  (aE (aJ (aZ bQ (bK (aA aH (aN aH))) (tQ fY m_int ip (aN (pec bU (aZ aG (pv 0) aC) (aM (aA aH (aN aH)))))))))))),?_⟩
 cases e with
 | rows p rs =>
  obtain ⟨hp,hR⟩:=he;refine ⟨_,rfl,p,_,rfl,.inr (aO.of hp),rfl,_,rfl,?_⟩
  cases rs with
  | nil=>exact bD (ag rfl) (bD rfl (k _ (aS.refl _)))
  | cons r rs =>
   refine aU (fun z=>?_) ?_
   ·have z:=ai z;rw [bR,bo] at z;injection z with z
    lia
   ·exact ⟨_,rfl,p,_,_,_,rfl,rfl,aO.of hp,jQ,_,_,_,true,rfl,.tup (fE.at hR.1),rfl,_,rfl,bD rfl (k _ (aS.refl _))⟩
 | row r =>
  have hr1:=fE.at he;refine ⟨_,rfl,r.p,_,rfl,.inr (aO.of hr1),rfl,_,rfl,aU (fun z=>?_) ?_⟩
  ·have z:=ai z;rw [bo] at z;injection z with z
   lia
  refine ⟨_,rfl,r.p,_,_,.str r.w,rfl,rfl,aO.of hr1,jQ,_,_,_,false,rfl,.str _,rfl,_,rfl,aU (by decide) ?_⟩;refine ⟨_,rfl,r.p,_,_,.str r.w,rfl,rfl,aO.of hr1,jQ,bM,fun t ht=>?_⟩;have s1:=aB ht (.tup [.str "when",.str "times"]);refine ⟨t,[.str "when",.str "times"],rfl,.inr (aO.of aD),rfl,by decide,_,rfl,?_⟩;generalize aQ H t (.tup [.str "when",.str "times"])=H1 at s1 ⊢;have ei:mU (V.str r.w) [.str "when",.str "times"]=decide (r.w∈(["when","times"]:List Str)):=bW _ ["when","times"]
  by_cases cw:r.w∈(["when","times"]:List Str)
  ·refine bD (ei.trans (ag cw)) ?_;refine ⟨bM,fun l hl=>?_⟩;obtain ⟨H2,e0,s2,h2⟩:=gG hl (.lst [.str "again",.str "either"]);rw [e0];clear e0;have s02:=s1.trans s2;refine ⟨_,rfl,r.p,_,_,.str r.w,rfl,rfl,aO.of (s02 _ _ hr1),jQ,rfl,.inr ⟨_,rfl,?_⟩⟩
   cases r with
   | when p pa pb tt a b=>exact ⟨l,_,_,.str "either",rfl,rfl,bC.of h2,bY1 (ag rfl),k _ s02⟩
   | times p pb n b=>exact ⟨l,_,_,.str "again",rfl,rfl,bC.of h2,cA8 (by rw [da];exact nTW),k _ s02⟩
   | thr p w x d=>exact absurd cw (fun z=>by
     have n:=qI he.2;simp only [List.mem_cons,List.not_mem_nil,or_false] at z;rcases z with z | z
     ·exact n.1 (fc V.str z)
     ·exact n.2 (fc V.str z))
   | lt p x tt=>exact absurd cw (by show ¬ ("let": Str)∈_;decide +kernel)
   | tell p tt=>exact absurd cw (by show ¬ ("tell": Str)∈_;decide +kernel)
  ·refine aU (fun z=>cw (ai (ei.symm.trans z))) ?_;refine ⟨_,rfl,_,rfl,r,np,ss,rfl,fE.ts (.of s1) r he,s1 _ _ hn,fun H2 s2=>⟨_,rfl,?_⟩⟩;have s02:=s1.trans s2
   by_cases ci:lY ss r=true
   ·refine bD ci ?_;have e:(Pt.row r).rule ss="idle":=by
     cases r with
     | thr p w x d=>have:x∉ss:=(fun z=>by simp [lY,Rw.sets,z] at ci);simp only [Pt.rule,if_neg this]
     | lt p x tt=>have:x∉ss:=(fun z=>by simp [lY,Rw.sets,z] at ci);simp only [Pt.rule,if_neg this]
     | tell p tt=>simp [lY,Rw.sets] at ci
     | when p pa pb tt a b=>exact absurd (by show ("when": Str)∈_;decide +kernel) cw
     | times p pb n b=>exact absurd (by show ("times": Str)∈_;decide +kernel) cw
    rw [e] at k;exact k _ s02
   ·refine aU ci ?_;refine ⟨bM,fun l hl=>?_⟩;obtain ⟨H3,e0,s3,h3⟩:=gG hl (.lst [.str "throw",.str "plain"]);rw [e0];clear e0;have s03:=s02.trans s3;refine ⟨_,rfl,r.p,_,_,.str r.w,rfl,rfl,aO.of (s03 _ _ hr1),jQ,bM,fun t4 ht4=>?_⟩;have s4:=aB ht4 (.tup [.str "let",.str "tell"]);refine ⟨t4,[.str "let",.str "tell"],rfl,.inr (aO.of aD),rfl,by decide,.inr ⟨_,rfl,?_⟩⟩;generalize aQ H3 t4 (.tup [.str "let",.str "tell"])=H4 at s4 ⊢;have ei2:mU (V.str r.w) [.str "let",.str "tell"]=decide (r.w∈(["let","tell"]:List Str)):=bW _ ["let","tell"]
    cases r with
    | thr p w x d =>
     have xi:x∈ss:=by simpa [lY,Rw.sets] using ci
     have nw:¬ w∈(["let","tell"]:List Str):=by
      have e:=he.2.wd;rw [e]
      cases d.T with
      | lad _ _ _ _=>show ¬ ("ladder": Str)∈_;decide +kernel
      | fla _ _ _=>show ¬ ("flat": Str)∈_;decide +kernel
      | cho _ _ _ _=>show ¬ ("choose": Str)∈_;decide +kernel
      | fst _ _ _ _ _ _ _=>show ¬ ("first": Str)∈_;decide +kernel
     have e:(Pt.row (.thr p w x d)).rule ss="throw":=by simp only [Pt.rule,if_pos xi]
     rw [e] at k;exact ⟨l,_,_,.str "throw",rfl,rfl,bC.of (s4 _ _ h3),cA8 (fun z=>nw (ai (ei2.symm.trans z))),k _ (s03.trans s4)⟩
    | lt p x tt =>
     have xi:x∈ss:=by simpa [lY,Rw.sets] using ci
     have e:(Pt.row (.lt p x tt)).rule ss="plain":=by simp only [Pt.rule,if_pos xi]
     rw [e] at k;exact ⟨l,_,_,.str "plain",rfl,rfl,bC.of (s4 _ _ h3),bY1 (ei2.trans (ag (by show ("let": Str)∈_;decide +kernel))),k _ (s03.trans s4)⟩
    | tell p tt =>
     exact ⟨l,_,_,.str "plain",rfl,rfl,bC.of (s4 _ _ h3),bY1 (ei2.trans (ag (by show ("tell": Str)∈_;decide +kernel))),k _ (s03.trans s4)⟩
    | when p pa pb tt a b=>exact absurd (by show ("when": Str)∈_;decide +kernel) cw
    | times p pb n b=>exact absurd (by show ("times": Str)∈_;decide +kernel) cw
theorem bX6 (m_isinstance:mg "isinstance"=none) (m_tuple:mg "tuple"=none) (m_list:mg "list"=none) (m_int:mg "int"=none) (m_len:mg "len"=none):dZ P w K mg base "_law_inner" "_law_inner" cE7 1 ["_law_part"] spInn:=by
 refine eQ ["_law_part"] fun H Q nd hr h=>?_
 obtain ⟨e,rfl,he,l4,k⟩:=h;refine ⟨_,(aF (bB (PW.pt (vJ (eT cH (mO bO m_len gb (aN (pv 0))) aC) (oP (fJ (mO kP m_isinstance oq (aA (aZ aG (pv 0) aC) (aN (vV (v:= .ty "tuple") (by rfl) m_tuple eo rfl)))))))) (aE (aJ (tQ hJ m_list jf (aN (pv 0))))) aR)
  (aE (aJ (aK aT6 (tQ hJ m_list jf (aN (dS iQ (pv 0) (eG aC) eX))) (tQ fY m_int ip (aN (pec bU (aZ aG (pv 0) aC) (aM (aA aH (aN aH)))))))))),?_⟩
 cases e with
 | rows p rs =>
  obtain ⟨hp,hR⟩:=he;have fin:∀ l,H l=none->Q (.ref l) (aQ H l (.lst (cL rs))):=fun l hl=>k l _ (aB hl _) hl (by rw [aD];show _=some (HO.lst (fX (rs.map Pt.row)));rw [aF9])
  refine ⟨_,rfl,p,_,rfl,.inr (aO.of hp),rfl,_,rfl,?_⟩
  cases rs with
  | nil=>exact bD (ag rfl) (bD rfl ⟨_,rfl,p,_,rfl,.inr (aO.of hp),fin⟩)
  | cons r rs =>
   refine aU (fun z=>?_) ?_
   ·have z:=ai z;rw [bR,bo] at z;injection z with z
    lia
   ·exact ⟨_,rfl,p,_,_,_,rfl,rfl,aO.of hp,jQ,_,_,_,true,rfl,.tup (fE.at hR.1),rfl,_,rfl,bD rfl ⟨_,rfl,p,_,rfl,.inr (aO.of hp),fin⟩⟩
 | row r =>
  have hr1:=fE.at he;refine ⟨_,rfl,r.p,_,rfl,.inr (aO.of hr1),rfl,_,rfl,aU (fun z=>?_) ?_⟩
  ·have z:=ai z;rw [bo] at z;injection z with z
   lia
  refine ⟨_,rfl,r.p,_,_,.str r.w,rfl,rfl,aO.of hr1,jQ,_,_,_,false,rfl,.str _,rfl,_,rfl,aU (by decide) ?_⟩;refine ⟨_,rfl,2,rfl,r.p,_,rfl,hr1,fun r2 H2 s2 h2=>⟨r2,_,rfl,.inr (aO.of h2),fun l hl=>?_⟩⟩;have n2:=s2.free hl;obtain ⟨H3,e0,s3,h3⟩:=gG hl (.lst (gK (.str r.w :: r.rest) (some 2) none));rw [e0];clear e0;have s03:=s2.trans s3;refine ⟨_,rfl,r.p,_,_,.str r.w,rfl,rfl,aO.of (s03 _ _ hr1),jQ,bM,fun t ht=>?_⟩;have s4:=aB ht (.tup [.str "when",.str "times"]);refine ⟨t,[.str "when",.str "times"],rfl,.inr (aO.of aD),rfl,by decide,.inr ⟨_,rfl,?_⟩⟩;generalize aQ H3 t (.tup [.str "when",.str "times"])=H4 at s4 ⊢;have ei:mU (V.str r.w) [.str "when",.str "times"]=decide (r.w∈(["when","times"]:List Str)):=bW _ ["when","times"];have s04:=s03.trans s4;have h4:=s4 _ _ h3;have big:∀ xs:List V,xs.length<=2->(if true=true then (1:Int) else 0).toNat * 0+xs.length * 1<=sizeLine:=fun xs h=>bu (aV (by lia))
  have yes:∀ xs:List V,gK (.str r.w :: r.rest) (some 2) none=xs->xs=fX (Pt.row r).kids->xs.length<=2->r.w∈(["when","times"]:List Str)->rRep (.ref l) (.int (if mU (V.str r.w) [.str "when",.str "times"]=true then 1 else 0)) H4 Q:=fun xs e1 e2 l2 c=>by
   rw [ay (ei.trans (ag c))];rw [e1] at h4;refine ⟨l,1,xs,rfl,rfl,h4,by decide,by decide,bu (aV (by show xs.length * 1<=1000;lia)),fun q hq=>k q _ (s04.trans (aB hq _)) (s04.free hq) ?_⟩;rw [aD];show some (HO.lst (List.replicate 1 xs).flatten)=_;rw [show (List.replicate 1 xs).flatten=xs by simp,e2]
  have nay:(Pt.row r).kids=[]->¬ r.w∈(["when","times"]:List Str)->rRep (.ref l) (.int (if mU (V.str r.w) [.str "when",.str "times"]=true then 1 else 0)) H4 Q:=fun e1 c=>by
   rw [ak (fun z=>c (ai (ei.symm.trans z)))];refine ⟨l,0,_,rfl,rfl,h4,by decide,by decide,by show _ * 0<=_;lia,fun q hq=>k q _ (s04.trans (aB hq _)) (s04.free hq) ?_⟩;rw [aD,e1];rfl
  cases r with
  | when p pa pb tt a b=>exact yes [.ref pa,.ref pb] rfl rfl (by show 2<=2;decide) (by show ("when": Str)∈_;decide +kernel)
  | times p pb n b=>exact yes [.ref pb] rfl rfl (by show 1<=2;decide) (by show ("times": Str)∈_;decide +kernel)
  | thr p w x d=>exact nay rfl (fun z=>by
     have n:=qI he.2;simp only [List.mem_cons,List.not_mem_nil,or_false] at z;rcases z with z | z
     ·exact n.1 (fc V.str z)
     ·exact n.2 (fc V.str z))
  | lt p x tt=>exact nay rfl (by show ¬ ("let": Str)∈_;decide +kernel)
  | tell p tt=>exact nay rfl (by show ¬ ("tell": Str)∈_;decide +kernel)
theorem bN0 (n:Nat) (C_LIn:Cl P w K mg base 1 spInn "_law_inner") (C_LRu:Cl P w K mg base 3 spRule "_law_rule") (C_LJn:Cl P w K mg base 6 (bK0 K) "_law_joined") (C_LLs:Cl P w K mg base (n+7) (aJ4 K n) "_law_lines") (m_range:mg "range"=none) (m_len:mg "len"=none):dZ P w K mg base "_law_lines" "_law_lines" cB9 (n+7+1) ["_law_part","_law_place","_law_names_here","_law_kind"] (aJ4 K (n+1)):=by
 refine eQ ["_law_part","_law_place","_law_names_here","_law_kind","_law_found","_law_some","_law_inner_here","_law_k","_law_rule_here","_law_factor","_law_rest"] fun H Q nd hr h=>?_
 obtain ⟨e,q,np,ss,kn,kd,pl,rfl,he,hdp,hpl,hld,hkd,hkn,hsz,hq,hn,k⟩:=h;refine ⟨_,(dB 4 nd (bK cD)
  (dB 5 nd (bK cD)
  (dB 6 nd (bG C_LIn hr (aN (pv 0)))
  (aF (pK (dN (by rfl) m_range (aN (mO bO m_len gb (aN (pv 6))))) (eN 7 nd)
  (dB 4 nd (aK gQ (pv 4) (bG C_LLs hr (aA (aZ bQ (pv 6) (pv 7)) (aA (wF (aK wM (pv 1) (aM (aN (pv 7))))) (aA (pv 2) (aN (pv 3)))))))
  (aE (cY (fN br dk dm dO (pv 5) (aN (dS iQ (aZ bQ (pv 4) (nB jY aC)) (eG aC) eX)))))))
  (dB 8 nd (bG C_LRu hr (aA (pv 0) (aN (pv 2))))
  (aF (gC (bG C_LJn hr (aA (pv 8) (aA (pv 0) (aA (pv 5) (aN (pv 3)))))) (eV rfl (aX (eN 9 nd) (aX (eN 10 nd) dP))))
  (aE (aJ (aK gQ (pv 4) (bK (aN (aM (aA (pv 1) (aA (pv 8) (aA (pv 9) (aN (pv 10))))))))))))))))),?_⟩
 have ks:=wJ e;have kl:e.kids.length<=4000:=by
  have:e.kids.length<=pH e.kids:=wP e.kids
  lia
 refine ⟨bj _,fun lf hlf=>?_⟩;obtain ⟨H1,e0,s1,h1⟩:=gG hlf (.lst []);rw [e0];clear e0;refine ⟨bj _,fun ls hls=>?_⟩;have s2:=aB hls (.lst []);have h2:aQ H1 ls (.lst []) ls=some (.lst []):=aD;have nls:H ls=none:=s1.free hls;have nfs:lf≠ls:=aL h1 hls;have f2:=s2 _ _ h1;generalize aQ H1 ls (.lst [])=H2 at s2 h2 f2 ⊢;have s12:=s1.trans s2;refine ⟨_,rfl,e,rfl,he.ts (.of s12),kl,fun ri H3 s3 n3 h3=>?_⟩;have s13:=s12.trans s3;have nri:ri≠ls:=(aL h2 n3).symm;refine ⟨_,rfl,ri,_,rfl,.inl (bC.of h3),_,rfl,by lia,by rw [dM];(exact oqq),jJ (n:=(fX e.kids).length) (fun i σ G=>∃ (lf':Addr) (fs vs:List V) (v7:Option V),σ=[some (.ref e.p),some (.ref q),some (.ref np),some (.int kn),some (.ref lf'),some (.ref ls),some (.ref ri),v7,none,none,none]/\aS H G/\G ri=some (.lst (fX e.kids))/\G ls=some (.lst vs)/\G lf'=some (.lst fs)/\lf'≠ls/\fs.length<=pH (e.kids.take i)/\cO (pO K G) fs ((((eJ (pl,e)).take i).flatMap cQ).map (xX ss kn))/\cO (dE K G) vs ((e.kids.map (Pt.pr ss kn)).take i))
  ⟨lf,[],[],_,rfl,s13,h3,s3 _ _ h2,s3 _ _ f2,nfs,bj _,trivial,trivial⟩ ?_ ?_⟩
 ·rintro i σ G hi ⟨lf',fs,vs,v7,rfl,sG,gri,gls,glf,nfl,lfs,tl,tv⟩;rw [dM] at hi;obtain ⟨c,hc⟩:∃ c,e.kids[i]?=some c:=⟨_,ar hi⟩
  have mc:=be hc;have hcH:=he.kids c mc;obtain ⟨cd,cl,ca⟩:=bU2 hkd hld c mc;have szt:=aQ5 e.kids (i+1);rw [aT hc,pP] at szt;have sz1:pH [c]=c.sz:=by simp [pH]
  rw [sz1] at szt
  cases n with
  | zero=>exact absurd hdp (by lia)
  | succ n =>
  refine ⟨_,rfl,_,rfl,_,rfl,ri,_,_,.ref c.p,rfl,rfl,bC.of gri,by rw [su];exact fB (by unfold fX;rw [cj,hc];rfl),?_⟩;refine ⟨fun v G'=>∃ tq,v= .ref tq/\aS G G'/\G' tq=some (.tup ((pl++[(i:Int)]).map V.int)),?_,?_⟩
  ·refine ⟨_,rfl,_,rfl,jF,fun t ht=>?_⟩;rw [su];have s5:=aB ht (.tup [.int (i:Int)]);have h5:aQ G t (.tup [.int (i:Int)]) t=some (.tup [.int (i:Int)]):=aD;refine ⟨q,t,_,_,rfl,rfl,aO.of (s5 _ _ (sG _ _ hq)),aO.of h5,(fun z=>by cases z),by rw [ac];exact bu (aV (by rw [cv];lia)),fun z=>?_,fun z t2 ht2=>?_⟩
   ·exact ⟨t,rfl,s5,by rw [bm,z,qd];exact h5⟩
   ·exact ⟨t2,rfl,s5.trans (aB ht2 _),by rw [bm];exact aD⟩
  rintro v G5 ⟨tq,rfl,s5,h5⟩;have s05:=sG.trans s5;refine ⟨_,rfl,_,rfl,c,tq,np,ss,kn,kd,pl++[(i:Int)],rfl,hcH.ts (.of s05),by lia,by rw [am,cv];lia,cl,ca,hkn,by lia,h5,s05 _ _ hn,fun G6 l6 ux6 s6 n6 h6 tx6=>?_⟩;have lz:=tx6.length;have ls6:=xB (pl++[(i:Int)]) c;unfold kG at lz tx6;rw [ac] at lz;have tl6:=tx6;rw [gE,bm] at tx6;obtain ⟨us6,zv,rfl,_,z6,zq,zf,zg,rfl,hz,_,hzf,hzg⟩:=iX tx6;rw [am,cv] at lz;have s56:=s5.trans s6;refine ⟨lf',l6,_,_,rfl,rfl,s56 _ _ glf,h6,bu (eI (by rw [am,cv];lia)),fun l7 hl7=>?_⟩;have s7:=aB hl7 (.lst (fs++(us6++[.ref z6])));have h7:aQ G6 l7 (.lst (fs++(us6++[.ref z6]))) l7=some (.lst ((fs++us6)++[.ref z6])):=by rw [aD,ee]
  have n7:l7≠ls:=(aL (s56 _ _ gls) hl7).symm;generalize aQ G6 l7 (.lst (fs++(us6++[.ref z6])))=G7 at s7 h7 ⊢;have s57:=s56.trans s7;have gls7:=s57 _ _ gls;refine ⟨_,rfl,.inl ⟨rfl,_,bC.of gls7⟩,_,rfl,1,rfl,l7,_,_,.ref z6,rfl,rfl,bC.of h7,lR,2,rfl,z6,_,rfl,s7 _ _ hz,fun r8 G8 s8 h8=>?_⟩;replace h8:G8 r8=some (.tup [.ref zf,.ref zg]):=h8;have s58:=s57.trans s8;have gls8:=s58 _ _ gls;have lv:=tv.length;rw [cp,ac] at lv;refine ⟨ls,vs,.ref r8,rfl,rfl,gls8,eI (by lia),l7,fs++(us6++[.ref z6]),vs++[.ref r8],_,rfl,cP (sG.trans s58) nls,by rw [aI nri];exact s58 _ _ gri,aD,?_,n7,?_,?_,?_⟩
  ·rw [aI n7, <- ee];exact s8 _ _ h7
  ·rw [aT hc,pP,sz1,am,am,cv]
   lia
  ·rw [aT (lK (e:=(pl,e)) hc),fb,bm];refine cO.append (tl.mono fun _ _ z=>(z.s s58).updL gls8) ?_;rw [ff,qy,fq];exact tl6.mono fun _ _ z=>(z.s (s7.trans s8)).updL gls8
  ·rw [aT (show (e.kids.map (Pt.pr ss kn))[i]?=some (Pt.pr ss kn c) by rw [cj,hc];rfl)];refine cO.append (tv.mono fun _ _ z=>(z.s s58).updL gls8) ⟨?_,trivial⟩;exact dE.updL gls8 ⟨r8,zf,zg,rfl,aO.of h8,hzf.s (s7.trans s8),hzg.s (s7.trans s8)⟩
 rintro σ G ⟨lf',fs,vs,v7,rfl,sG,gri,gls,glf,nfl,lfs,tl,tv⟩;rw [dM, <- fL (pl,e),bv] at tl;rw [dM,bv] at lfs;rw [dM, <- ac (f:=Pt.pr ss kn) (as:=e.kids),bv] at tv;refine ⟨_,rfl,_,rfl,e,np,ss,rfl,he.ts (.of sG),sG _ _ hn,fun G2 s2'=>?_⟩;refine ⟨_,rfl,_,rfl,_,rfl,_,rfl,e,ls,vs,ss,kn,kd,rfl,he.ts (.of (sG.trans s2')),hld,bG4 hkd,hkn,kl,s2' _ _ gls,tv.mono fun _ _ z=>z.s s2',fun G4 v4 s4 hv4=>?_⟩;obtain ⟨a4,x4,y4,rfl,ha4,hx4,hy4⟩:=hv4;refine ⟨a4,_,rfl,ha4,rfl,_,_,rfl,_,_,rfl,rfl,?_⟩;have s24:=s2'.trans s4;refine ⟨_,rfl,_,rfl,_,rfl,_,rfl,_,rfl,by show 4<=sizeLine;decide,fun t5 ht5=>⟨jF,fun l6 hl6=>?_⟩⟩;have s5:=aB ht5 (.tup [.ref q,.str (e.rule ss),.ref x4,.ref y4]);have h5:aQ G4 t5 (.tup [.ref q,.str (e.rule ss),.ref x4,.ref y4]) t5=some (.tup [.ref q,.str (e.rule ss),.ref x4,.ref y4]):=aD;generalize aQ G4 t5 (.tup [.ref q,.str (e.rule ss),.ref x4,.ref y4])=G5 at s5 h5 hl6 ⊢
 have s6:=aB hl6 (.lst [.ref t5]);refine ⟨lf',l6,fs,_,rfl,rfl,(s24.trans (s5.trans s6)) _ _ glf,aD,bu (eI (by rw [cv];lia)),fun l7 hl7=>?_⟩;have s67:=s6.trans (aB hl7 (.lst (fs++[.ref t5])));have s27:=s24.trans (s5.trans s67);refine k _ l7 (fs++[.ref t5]) (sG.trans s27) ((sG.trans (s24.trans (s5.trans s6))).free hl7) aD ?_;unfold kG;rw [gE,bm];exact cO.append (tl.mono fun _ _ z=>z.s s27) ⟨⟨t5,q,x4,y4,rfl,s67 _ _ h5,(sG.trans s27) _ _ hq,hx4.s (s5.trans s67),hy4.s (s5.trans s67)⟩,trivial⟩
theorem bV5 (C_PRI:Cl P w K mg base 2 spPRI "parts_right_in") (m_len:mg "len"=none):dZ P w K mg base "part_at" "part_at" cC3 3 ["program","place"] spPAt:=by
 refine eQ ["program","place","part","number","parts"] fun H Q nd hr h=>?_
 obtain ⟨p,q,pr,v0,rs,pl,rfl,hp,hR,hsz,hq,k⟩:=h;refine ⟨_,(dB 2 nd (aZ aG (pv 0) aC)
  (aF (pK (kL (pv 1)) (eN 3 nd)
  (dB 4 nd (bG C_PRI hr (aN (pv 2)))
  (aF (bB (kW (gH (yW bJ7 nK aC (pv 3) (mO bO m_len gb (aN (pv 4)))))) (aE (aJ oM)) aR)
  (aE (zV 2 nd (aZ bQ (pv 4) (pv 3)))))))
  (aE (aJ (pv 2))))),?_⟩
 refine ⟨_,rfl,p,_,_,.ref pr,rfl,rfl,aO.of hp,rfl,?_⟩;refine ⟨_,rfl,q,rfl,⟨_,aO.of hq⟩,wG (K:=K) (a:=q) (xs:=pl.map V.int) (fun i σ G=>∃ (c:Pt) (v3 v4:Option V),σ=[some (.ref p),some (.ref q),some (.ref c.p),v3,v4]/\aS H G/\mC G c/\c.sz<=4000/\sW (.rows pr rs) (pl.take i)=some c)
  ⟨Pt.rows pr rs,_,_,rfl,aS.refl _,hR,hsz,rfl⟩ (by rintro i σ G _ ⟨_,_,_,_,s,_⟩;exact aO.of (s _ _ hq)) ?_ ?_⟩
 ·rintro i v σ G hv ⟨c,v3,v4,rfl,sG,hc,hcs,ha⟩;obtain ⟨m,hm,rfl⟩:=aW6 hv;have kl:=bA7 c;refine ⟨_,rfl,c,rfl,hc,fun r H1 s1 n1 h1=>?_⟩;refine ⟨fun b G'=>G'=H1/\b=decide (0<=m/\m < (c.kids.length:Int)),?_,?_⟩
  ·refine ⟨_,rfl,_,_,rfl,rfl,_,rfl,?_⟩
   by_cases h0:0<=m
   ·refine bD (ag h0) ⟨_,rfl,r,_,rfl,.inl (bC.of h1),_,_,rfl,rfl,_,rfl,rfl,?_⟩;rw [dM]
    by_cases h2:m < (c.kids.length:Int)
    ·rw [ag h2,ag ⟨h0,h2⟩]
    ·rw [cz h2,cz (fun q=>h2 q.2)]
   ·exact aU (fun q=>h0 (ai q)) ⟨_,rfl,rfl,(cz fun q=>h0 q.1).symm⟩
  rintro b G1 ⟨rfl,rfl⟩;have e:=mP (pl.take i) (.rows pr rs) (pl.drop i);rw [fw,ha,aH0 hm] at e
  by_cases cc:0<=m/\m < (c.kids.length:Int)
  ·rw [ag cc];obtain ⟨c',hc'⟩:∃ c',c.kids[m.toNat]?=some c':=⟨_,ar (by lia)⟩
   have mc:=be hc';refine aU (by decide) ⟨_,rfl,_,rfl,r,_,_,.ref c'.p,rfl,rfl,bC.of h1,?_,c',_,_,rfl,sG.trans s1,(hc.kids c' mc).ts (.of s1),?_,?_⟩
   ·rw [show m=(m.toNat:Int) by lia];exact fB (by unfold fX;rw [cj,hc'];rfl)
   ·have:=bB8 mc
    lia
   ·rw [aT hm,mP,ha];exact aH3 cc.1 hc'
  ·rw [cz cc];have z:=k G1 (sG.trans s1);rw [show sW (.rows pr rs) pl=none from e.trans (aI7 cc)] at z;exact bD rfl z
 ·rintro σ G ⟨c,v3,v4,rfl,sG,hc,hcs,ha⟩;rw [ac,bv] at ha;have z:=k G sG;rw [ha] at z;exact ⟨_,rfl,z⟩
theorem bO8 (C_LIn:Cl P w K mg base 1 spInn "_law_inner") (m_len:mg "len"=none):dZ P w K mg base "_law_at" "_law_at" cK5 2 ["_law_program_here","_law_place"] spPAt:=by
 refine eQ ["_law_program_here","_law_place","_law_part","_law_k","_law_inner_here"] fun H Q nd hr h=>?_
 obtain ⟨p,q,pr,v0,rs,pl,rfl,hp,hR,hsz,hq,k⟩:=h;refine ⟨_,(dB 2 nd (aZ aG (pv 0) aC)
  (aF (pK (kL (pv 1)) (eN 3 nd)
  (dB 4 nd (bG C_LIn hr (aN (pv 2)))
  (aF (bB (kW (gH (yW bJ7 nK aC (pv 3) (mO bO m_len gb (aN (pv 4)))))) (aE (aJ oM)) aR)
  (aE (zV 2 nd (aZ bQ (pv 4) (pv 3)))))))
  (aE (aJ (pv 2))))),?_⟩
 refine ⟨_,rfl,p,_,_,.ref pr,rfl,rfl,aO.of hp,rfl,?_⟩;refine ⟨_,rfl,q,rfl,⟨_,aO.of hq⟩,wG (K:=K) (a:=q) (xs:=pl.map V.int) (fun i σ G=>∃ (c:Pt) (v3 v4:Option V),σ=[some (.ref p),some (.ref q),some (.ref c.p),v3,v4]/\aS H G/\mC G c/\c.sz<=4000/\sW (.rows pr rs) (pl.take i)=some c)
  ⟨Pt.rows pr rs,_,_,rfl,aS.refl _,hR,hsz,rfl⟩ (by rintro i σ G _ ⟨_,_,_,_,s,_⟩;exact aO.of (s _ _ hq)) ?_ ?_⟩
 ·rintro i v σ G hv ⟨c,v3,v4,rfl,sG,hc,hcs,ha⟩;obtain ⟨m,hm,rfl⟩:=aW6 hv;have kl:=bA7 c;refine ⟨_,rfl,c,rfl,hc,by lia,fun r H1 s1 n1 h1=>?_⟩;refine ⟨fun b G'=>G'=H1/\b=decide (0<=m/\m < (c.kids.length:Int)),?_,?_⟩
  ·refine ⟨_,rfl,_,_,rfl,rfl,_,rfl,?_⟩
   by_cases h0:0<=m
   ·refine bD (ag h0) ⟨_,rfl,r,_,rfl,.inl (bC.of h1),_,_,rfl,rfl,_,rfl,rfl,?_⟩;rw [dM]
    by_cases h2:m < (c.kids.length:Int)
    ·rw [ag h2,ag ⟨h0,h2⟩]
    ·rw [cz h2,cz (fun q=>h2 q.2)]
   ·exact aU (fun q=>h0 (ai q)) ⟨_,rfl,rfl,(cz fun q=>h0 q.1).symm⟩
  rintro b G1 ⟨rfl,rfl⟩;have e:=mP (pl.take i) (.rows pr rs) (pl.drop i);rw [fw,ha,aH0 hm] at e
  by_cases cc:0<=m/\m < (c.kids.length:Int)
  ·rw [ag cc];obtain ⟨c',hc'⟩:∃ c',c.kids[m.toNat]?=some c':=⟨_,ar (by lia)⟩
   have mc:=be hc';refine aU (by decide) ⟨_,rfl,_,rfl,r,_,_,.ref c'.p,rfl,rfl,bC.of h1,?_,c',_,_,rfl,sG.trans s1,(hc.kids c' mc).ts (.of s1),?_,?_⟩
   ·rw [show m=(m.toNat:Int) by lia];exact fB (by unfold fX;rw [cj,hc'];rfl)
   ·have:=bB8 mc
    lia
   ·rw [aT hm,mP,ha];exact aH3 cc.1 hc'
  ·rw [cz cc];have z:=k G1 (sG.trans s1);rw [show sW (.rows pr rs) pl=none from e.trans (aI7 cc)] at z;exact bD rfl z
 ·rintro σ G ⟨c,v3,v4,rfl,sG,hc,hcs,ha⟩;rw [ac,bv] at ha;have z:=k G sG;rw [ha] at z;exact ⟨_,rfl,z⟩
theorem bV2 {cR:Addr}(m_RULES:mg "RULES"=some (.ref cR)) (hR:xI P w K cR rulK) (C_IsR:Cl P w K mg base 1 spIsRow "is_row"):dZ P w K mg base "rule_of" "rule_of" cD1 2 ["part"] spRul:=by
 refine eQ ["part"] fun H Q nd hr h=>?_
 obtain ⟨e,rfl,he,k⟩:=h;refine ⟨_,(aE (aJ (iZ (fJ (bG C_IsR hr (aN (pv 0)))) (aX2 (pgl m_RULES) (aZ aG (pv 0) aC) aH ⟨rfl,rfl,rfl,rfl⟩) aH))),?_⟩;refine ⟨_,rfl,e,rfl,he,_,rfl,?_⟩
 cases e with
 | rows _ _=>exact aU (fun z=>Bool.noConfusion (show false=true from z)) (k H (aS.refl _))
 | row r =>
  have z:=k H (aS.refl _);rw [<- bV0 he] at z;exact bD rfl ⟨cR,rulK,rfl,hR,_,rfl,r.p,_,_,.str r.w,rfl,rfl,aO.of (fE.at he),jQ,Sum.inr r.w,rfl,z⟩
theorem bW0 (C_IsR:Cl P w K mg base 1 spIsRow "is_row") (C_IsI:Cl P w K mg base 2 spIsI "is_idle"):dZ P w K mg base "idle_part" "idle_part" cF8 3 ["part","names"] spIdl:=by
 refine eQ ["part","names"] fun H Q nd hr h=>?_
 obtain ⟨e,np,ss,rfl,he,hn,k⟩:=h;refine ⟨_,(aE (aJ (mL (bG C_IsR hr (aN (pv 0))) (mJ (bG C_IsI hr (aA (pv 0) (aN (pv 1)))))))),?_⟩;refine ⟨_,rfl,e,rfl,he,_,rfl,?_⟩
 cases e with
 | rows _ _=>exact aU (fun z=>Bool.noConfusion (show false=true from z)) k
 | row r=>exact bD rfl ⟨_,rfl,_,rfl,r,np,ss,rfl,he,hn,k⟩
theorem bV9 {cS:Addr}(T:ShT K cS) (C_Ned:Cl P w K mg base 5 spNeeded "needed"):dZ P w K mg base "__init__" "Sheet.__init__" cJ8 6 ["self","program","kind"] (bK7 cS):=by
 refine eQ ["self","program","kind"] fun H Q nd hr h=>?_
 obtain ⟨x,p,dx,xs,rs,kn,rfl,hx,P0,k⟩:=h;refine ⟨_,(aF (wV (pv 0) (pv 1) rfl)
  (aF (wV (pv 0) (pv 2) rfl)
  (aF (wV (pv 0) (bG C_Ned hr (aN (pv 1))) rfl)
  (aE (wV (pv 0) zC rfl))))),?_⟩
 refine ⟨_,rfl,_,rfl,x,cS,dx,_,rfl,hx,T.cl,T.n1,by decide,?_⟩;refine ⟨_,rfl,_,rfl,x,cS,dx,_,rfl,aD,T.cl,T.n2,bz (aN6 (aj 0)) (by decide),?_⟩;rw [aH1];have o2:fW x H (aQ H x (.ins cS dx (fC "kind" (.int kn) (fC "program" (.ref p) [])))):=fW.upd;have h2:aQ H x (.ins cS dx (fC "kind" (.int kn) (fC "program" (.ref p) []))) x=some (.ins cS dx (fC "kind" (.int kn) (fC "program" (.ref p) []))):=aD;generalize aQ H x (.ins cS dx (fC "kind" (.int kn) (fC "program" (.ref p) [])))=H2 at o2 h2 ⊢;refine ⟨_,rfl,p,xs,rs,rfl,P0.ts (o2.ts' hx),fun np ss H3 s3 h3 nds=>?_⟩;refine ⟨_,rfl,x,cS,dx,_,rfl,s3 _ _ h2,T.cl,T.n3,bz (aN6 (aN6 (aj 0))) (by decide),?_⟩;have nx:=dD h3 (s3 _ _ h2) (by intro z;cases z);refine fun d hd=>⟨_,rfl,x,cS,dx,_,rfl,(aB hd (.dT [])) _ _ aD,T.cl,T.n4,bz (aN6 (aN6 (aN6 (aj 0)))) (by decide),?_⟩
 have o3:fW x H (aQ H3 x (.ins cS dx (fC "names" (.ref np) (fC "kind" (.int kn) (fC "program" (.ref p) []))))):=(o2.trans (fW.of s3)).trans fW.upd;have xd:d≠x:=fun z=>by rw [z,aD] at hd;cases hd
 have hd0:H d=none:=by
  cases e:H d with
  | none=>rfl
  | some u=>rw [o3 _ _ xd e] at hd;cases hd
 rw [aU3];refine k _ np d ss (o3.trans ((fW.of (aB hd (.dT []))).trans fW.upd)) hd0 aD ?_ ?_ nds
 ·rw [aI xd];exact aD
 ·rw [aI nx,aI (fun z=>by rw [<- z,aI nx,h3] at hd;cases hd),aI nx];exact h3
theorem bS9 {cT:Addr}(m_THROWS:mg "THROWS"=some (.ref cT)) (hT:∀ H,aO K H cT (dY.map V.str)) {cF cF0 cF1:Addr}(m_FREE:mg "FREE"=some (.ref cF)) (hF:∀ H,aO K H cF [.ref cF0,.ref cF1]/\bJ K H cF0 (1,1)/\bJ K H cF1 (0,1)) {cR:Addr}(m_RULES:mg "RULES"=some (.ref cR)) (hR:xI P w K cR rulK) {cS:Addr}(T:ShT K cS) (C_PAt:Cl P w K mg base 3 spPAt "part_at") (C_PlI:Cl P w K mg base 3 spPlRI "places_right_in") (C_PMd:Cl P w K mg base 5 (aI4 K) "price_made") (C_Rul:Cl P w K mg base 2 spRul "rule_of") (C_POR:Cl P w K mg base 7 (aV9 K) "price_of_row") (C_IdP:Cl P w K mg base 3 spIdl "idle_part") (m_all:mg "all"=none):dZ P w K mg base "due_of" "due_of" cA0 8 ["sheet","place","rule"] (bL6 K cS):=by
 refine eQ ["sheet","place","rule","part","places"] fun H Q nd hr h=>?_
 obtain ⟨sh,p,pr,np,d,q,rs,kn,n,ss,kvs,e,rfl,S,he,hq,hk,k⟩:=h;have hu:=iR hr;refine ⟨_,(dB 3 nd (bG C_PAt hr (aA (oH (pv 0) rfl) (aN (pv 1))))
  (aF (bB (aY8 (aD3 (pv 3))) (aE (aJ oM)) aR)
  (aF (bB (eT cH (pv 2) aH) (aE (aJ (iZ (fJ (bG C_IdP hr (aA (pv 3) (aN (oH (pv 0) rfl))))) (pgl m_FREE) oM))) aR)
  (aF (bB (eT qK (pv 2) (bG C_Rul hr (aN (pv 3)))) (aE (aJ oM)) aR)
  (aF (bB (eT bU (pv 2) (aM (aA aH (aN aH)))) (aE (aJ (bG C_POR hr (aA (pv 3) (aN (oH (pv 0) rfl)))))) aR)
  (dB 4 nd (bG C_PlI hr (aA (pv 1) (aN (pv 3))))
  (aF (bB (kW (fJ (mO aR0 m_all PyProof.Rows.boot_all (aN (cZ ["inner","sheet"] [none,some 0] (bX (pv 4)) (fun _ _ _ _=>(eN 0)) (fun _ _ _ _=>eS) (fun _ _ _ _=>(wE (bX5 hu (pv 0) (aH6 K (pv 1) rfl))))))))) (aE (aJ oM)) aR)
  (aE (aJ (bG C_PMd hr (aA (pv 3) (aN (cZ ["inner","sheet"] [none,some 0] (bX (pv 4)) (fun _ _ _ _=>(eN 0)) (fun _ _ _ _=>eS) (fun _ _ _ _=>(tF hu (aH6 K (pv 1) rfl) (pv 0)))))))))))))))),?_⟩
 obtain ⟨dx,hsh⟩:=S.ob;obtain ⟨xs,P0⟩:=S.pg;obtain ⟨v0,hp⟩:=S.pp;have la:=aW9 p np d kn;have c0:=P0.cnt;have rt:=xP he;obtain ⟨pk,ks,w0,_,_,eks,_,n3,hkd⟩:=S.kn;have kln:=S.kl;have ol:=oR hkd e he;have dp:=P0.dp;have ld:=P0.ld;refine ⟨_,rfl,sh,cS,dx,_,_,rfl,hsh,T.cl,T.n1,la.1,_,rfl,p,q,pr,v0,rs,e.1,rfl,hp,⟨S.pq,P0.rows⟩,(show 3 * bY rs+1<=4000 by lia),hq,fun H1 s1=>?_⟩;rw [rt.1];refine ⟨_,rfl,_,rfl,aU (fun z=>by have z:=ai z;cases z) ?_⟩;have pe:mC H1 e.2:=(uO S.pq P0.rows e he).ts (.of s1);have hsh1:=s1 _ _ hsh;refine ⟨_,rfl,rfl,_,rfl,?_⟩
 by_cases ci:e.2.idle ss=true
 ·refine bD (ag (by rw [wT,ay ci])) ?_;refine ⟨_,rfl,_,rfl,sh,cS,dx,_,_,rfl,hsh1,T.cl,T.n3,la.2.2.1,e.2,np,ss,rfl,pe,s1 _ _ S.nm,_,rfl,bD ci ?_⟩;exact k _ _ s1 (by rw [bG5 kn ci];exact ⟨cF,cF0,cF1,rfl,(hF _).1,(hF _).2.1,(hF _).2.2⟩)
 have er:e.2.rule ss=e.2.rule0:=by rw [wT,ak ci]
 rw [er];refine aU (fun z=>aV7 _ (ai z)) ?_;refine ⟨_,rfl,_,rfl,e.2,rfl,pe,fun H2 s2=>⟨rfl,_,rfl,bL1 rfl ?_⟩⟩;refine ⟨_,rfl,bM,fun t0 ht0=>?_⟩;have s3:=aB ht0 (.tup [.str "throw",.str "plain"]);refine ⟨t0,[.str "throw",.str "plain"],rfl,.inr (aO.of aD),rfl,by decide,_,rfl,?_⟩;generalize aQ H2 t0 (.tup [.str "throw",.str "plain"])=H3 at s3 ⊢;have ei:mU (V.str e.2.rule0) [.str "throw",.str "plain"]= !e.2.made:=(bW _ ["throw","plain"]).trans (aZ5 _);have s03:=s1.trans (s2.trans s3);have pe3:=pe.ts (.of (s2.trans s3));have hsh3:=s03 _ _ hsh
 cases hm:e.2.made with
 | false =>
  obtain ⟨r,e2,ck⟩:=bX2 hm;have nid:lY ss r=false:=by
   have:¬ (Pt.idle ss (Pt.row r))=true:=by rw [<- e2];exact ci
   simpa [Pt.idle] using this
  refine bD (ei.trans (by rw [hm];rfl)) ?_;rw [e2] at pe3 k ⊢;refine ⟨_,rfl,_,rfl,sh,cS,dx,_,_,rfl,hsh3,T.cl,T.n2,la.2.1,r,kn,rfl,pe3,fun p' w' x' d' ed=>?_,fun H4 v s4 h4=>k _ _ (s03.trans s4) ?_⟩
  ·have:=ol.2.2 r e2;rw [ed] at this;have t:(d'.kd:Int)=n:=this
   lia
  ·show dE K H4 v (mB ss kn r);rw [aB7 nid ck];exact h4
 | true =>
  refine aU (fun z=>by have z:=ei.symm.trans z;rw [hm] at z;cases z) ?_;have kl:e.2.kids.length<=4000:=by
   have:=aB8 e he
   lia
  refine ⟨_,rfl,_,rfl,e,q,rfl,s03 _ _ hq,by lia,kl,pe3,fun r5 zs G5 s5 n5 h5 t5=>?_⟩;have s05:=s03.trans s5;have l5:=t5.length;rw [ac,fL] at l5;have gd:=s05 _ _ S.dc;have get:∀ {j:Nat}{y:V},zs[j]?=some y->∃ b u,y= .ref b/\dG G5 d (.ref b) (some u)/\dE K G5 u (Pt.pr ss kn (e.2.kids.getD j e.2)):=fun {j y} hy=>by
   have jl:=(bc.mp hy).1;have jk:j < e.2.kids.length:=by lia
   obtain ⟨ky,hky,b,rfl,hb⟩:=fM t5 hy;rw [vM (e:=e) jk] at hky;injection hky with hky
   subst hky;have ec:=lK (e:=e) (ar jk);obtain ⟨u,hu1,hu2⟩:=hk _ (be ec);have dg:=dG.t (k:=xH (e.1++[(j:Int)])) gd (by rw [sK];exact hb);rw [show bP kvs (xH (e.1++[(j:Int)]))=some u from hu1] at dg;refine ⟨b,u,rfl,dg,?_⟩;rw [dw,ar jk];exact hu2.s s05
  refine ⟨_,rfl,r5,rfl,⟨_,bC.of h5⟩,dL (K:=K) (a:=r5) (xs:=zs) (fun j us σ G'=>G'=G5/\(∃ v,σ=[v,some (.ref sh)])/\us=(List.replicate j true).map V.bl)
   (eI (by lia)) ⟨rfl,⟨_,rfl⟩,rfl⟩ (by rintro j us σ G' ⟨_,_,z⟩;rw [z,ac,qz];(exact aj _)) (by rintro j us σ G' _ ⟨z,_⟩;rw [z];exact bC.of h5) ?_ ?_⟩
  ·rintro j y us σ _ hy ⟨rfl,⟨v',rfl⟩,rfl⟩;obtain ⟨b,u,rfl,dg,_⟩:=get hy;refine ⟨_,rfl,_,rfl,sh,cS,dx,_,_,rfl,s05 _ _ hsh,T.cl,T.n4,la.2.2.2,d,some u,rfl,dg,rfl,⟨_,rfl⟩,?_⟩;rw [<- aR6,bm];rfl
  rintro us σ Gx ⟨ex,_,rfl⟩ l6 hl6;replace ex:=ex.symm;subst ex;have s6:=aB hl6 (.lst ((List.replicate zs.length true).map V.bl));refine ⟨l6,List.replicate zs.length true,rfl,bC.of aD,_,rfl,aU (by rw [aG0];decide) ?_⟩;generalize aQ G5 l6 (.lst ((List.replicate zs.length true).map V.bl))=G6 at s6 ⊢;have h6:=s6 _ _ h5;have s06:=s05.trans s6;refine ⟨_,rfl,_,rfl,r5,rfl,⟨_,bC.of h6⟩,dL (K:=K) (a:=r5) (xs:=zs) (fun j us σ G'=>G'=G6/\(∃ v,σ=[v,some (.ref sh)])/\cO (dE K G6) us ((e.2.kids.map (Pt.pr ss kn)).take j))
   (eI (by lia)) ⟨rfl,⟨_,rfl⟩,trivial⟩ (by rintro j us σ G' ⟨_,_,z⟩;rw [z.length,cp];lia) (by rintro j us σ G' _ ⟨z,_⟩;rw [z];exact bC.of h6) ?_ ?_⟩
  ·rintro j y us σ _ hy ⟨rfl,⟨v',rfl⟩,tu⟩;have jl:=(bc.mp hy).1;have jk:j < e.2.kids.length:=by lia
   obtain ⟨b,u,rfl,dg,hu2⟩:=get hy;rw [dw,ar jk] at hu2;refine ⟨_,rfl,sh,cS,dx,_,_,rfl,s06 _ _ hsh,T.cl,T.n4,la.2.2.2,_,rfl,d,u,rfl,dG.s s6 dg,rfl,⟨_,rfl⟩,?_⟩;rw [aT (show (e.2.kids.map (Pt.pr ss kn))[j]?=some (Pt.pr ss kn e.2.kids[j]) by rw [cj,ar jk];rfl)];exact cO.append tu ⟨hu2.s s6,trivial⟩
  rintro us σ Gx ⟨ex,_,tu⟩ l9 hl9;replace ex:=ex.symm;subst ex;rw [l5, <- ac (f:=Pt.pr ss kn) (as:=e.2.kids),bv] at tu;have s9:=aB hl9 (.lst us);refine ⟨e.2,l9,us,ss,kn,n,rfl,pe3.ts (.of (s5.trans (s6.trans s9))),hm,by lia,ol.2.2,kl,aD,tu.mono fun _ _ z=>z.s s9,fun G10 v10 s10 h10=>k _ _ (s06.trans (s9.trans s10)) h10⟩
theorem bU1 {cS:Addr}(T:ShT K cS) (C_Due:Cl P w K mg base 8 (bL6 K cS) "due_of") (C_Les:Cl P w K mg base 1 (mZ K) "less"):dZ P w K mg base "is_right" "is_right" cB0 9 ["sheet","line"] (bL9 K cS):=by
 refine eQ ["sheet","line","due"] fun H Q nd hr h=>?_
 obtain ⟨sh,p,pr,np,d,z,rs,kn,n,ss,kvs,e,rfl,S,he,hz,hk,k⟩:=h;refine ⟨_,(dB 2 nd (bG C_Due hr (aA (pv 0) (aA (aZ aG (pv 1) aC) (aN (aZ aG (pv 1) aC)))))
  (aE (aJ (mL (wE (bJ0 (pv 2))) (mL (aF2 (bG C_Les hr (aA (aZ aG (pv 1) aC) (aN (aZ aG (pv 2) aC))))) (mJ (aF2 (bG C_Les hr (aA (aZ aG (pv 1) aC) (aN (aZ aG (pv 2) aC))))))))))),?_⟩
 obtain ⟨a,q,f,g,rfl,ha,hq,hf,hg⟩:=hz;refine ⟨_,rfl,_,rfl,a,_,_,_,rfl,rfl,aO.of ha,rfl,_,rfl,a,_,_,_,rfl,rfl,aO.of ha,rfl,sh,p,pr,np,d,q,rs,kn,n,ss,kvs,e,rfl,S,he,hq,hk,fun H1 v s1 hv=>?_⟩;obtain ⟨b,x,y,rfl,hb,hx,hy⟩:=hv;obtain ⟨xs,P0⟩:=S.pg;obtain ⟨_,_,_,_,_,_,_,_,hkd⟩:=S.kn;have ld:=P0.ld;have ol:=oR hkd e he;have bd:=qY (Pt.pr_ok ss kn (uO S.pq P0.rows e he)).2 (by lia);have ne:∀ u:Fr,decide (u.1 * u.2 < u.1 * u.2)=false:=fun u=>cz (Int.lt_irrefl _)
 refine ⟨_,rfl,_,rfl,bD rfl ?_⟩;refine ⟨_,rfl,a,_,_,_,rfl,rfl,aO.of (s1 _ _ ha),rfl,_,rfl,b,_,_,_,rfl,rfl,hb,rfl,f,x,(e.2.pr ss kn).1,(e.2.pr ss kn).1,rfl,bJ.s s1 hf,hx,bd.1,bd.1,?_⟩;rw [ne];refine ⟨_,rfl,_,rfl,bD rfl ?_⟩;refine ⟨_,rfl,a,_,_,_,rfl,rfl,aO.of (s1 _ _ ha),rfl,_,rfl,b,_,_,_,rfl,rfl,hb,rfl,g,y,(e.2.pr ss kn).2,(e.2.pr ss kn).2,rfl,bJ.s s1 hg,hy,bd.2,bd.2,?_⟩;rw [ne];exact ⟨_,rfl,k _ s1⟩
theorem bM0 {cS:Addr}(T:ShT K cS) {f_Ini:Addr}{d_Ini:FuncData}(M_Sheet:Mk K cS f_Ini) (G_Ini:mM P w K mg base CX0 (6) f_Ini d_Ini ["self","program","kind"] (bK7 cS)) (b_Ini:gT K d_Ini ["self","program","kind"] []) (m_Sheet:mg "Sheet"=some (.ref cS)) (C_Rgh:Cl P w K mg base 9 (bL9 K cS) "is_right") (m_enumerate:mg "enumerate"=none) (m_len:mg "len"=none):dZ P w K mg base "paper_shows" "paper_shows" cA3 10 ["program","kind","paper"] (bK2 K):=by
 refine eQ ["program","kind","paper","sheet","at","line"] fun H Q nd hr h=>?_
 obtain ⟨p,pr,a,v0,us,xs,rs,kn,n,ss,rfl,P0,N0,hkn,hp,hpr,ha,nds,tw,k⟩:=h;have hu:=iR hr;have hr1:dQ 1 _:=hr.mono (by decide);have hr7:dQ 7 _:=hr.mono (by decide);refine ⟨_,(dB 3 nd (bD7 M_Sheet G_Ini hr7 (by rfl) m_Sheet b_Ini .nil bK8 (aA (pv 0) (aN (pv 1))))
  (aF (pK (aZ7 (by rfl) m_enumerate (aN (pv 2))) (eV rfl (aX (eN 4 nd) (aX (eN 5 nd) dP)))
  (aF (bB (kW (fJ (bG C_Rgh hr (aA (pv 3) (aN (pv 5)))))) jC aR)
  (aE (pdp hu (oH (pv 3) rfl) (aZ aG (pv 5) aC) (aM (aA (aZ aG (pv 5) aC) (aN (aZ aG (pv 5) aC))))))))
  (aF (bB (PW.pt (vJ (kW (jL (pv 2) (fun _=>rfl))) (oP (eT (bU5 hr1) (aZ aG (aZ aG (pv 2) (nB jY aC)) aC) (aM cD))))) jC aR)
  (aE (aJ (tF hu (oH (pv 3) rfl) (aM cD))))))),?_⟩
 refine ⟨_,rfl,_,rfl,fun x dx nx ndx nex=>?_⟩;have s1:aS H (aQ (aQ H dx (.own x)) x (.ins cS dx [])):=(aB ndx _).trans (aB (show aQ H dx (.own x) x=none by rw [aI nex.symm];exact nx) _);refine ⟨x,p,dx,xs,rs,kn,rfl,aD,P0.ts (.of s1),fun H2 np d ss' o2 nd2 hx2 hd2 hn2 nds'=>⟨rfl,?_⟩⟩;have s2:aS H H2:=fun b u e=>o2 b u (aL e nx) (s1 b u e)
 have es:=nds'.eq nds;subst es;have S2:Sht K H2 cS x p pr np d rs kn n ss' []:=⟨⟨dx,hx2⟩,hd2,hn2,⟨xs,P0.ts (.of s2)⟩,N0.ts (.of s2),hkn,⟨v0,s2 _ _ hp⟩,s2 _ _ hpr⟩
 have hdn:H d=none:=by
  cases e:H d with
  | none=>rfl
  | some u=>rw [s1 _ _ e] at nd2;cases nd2
 clear o2 nd2 hx2 hn2 s1 nx ndx nex;have ol:=xB [] (Pt.rows pr rs);have c0:=P0.cnt;have ol:(cQ ([],Pt.rows pr rs)).length<=4000:=cu ol (show 3 * bY rs+1<=4000 by lia);have nd:=aT9 [] pr rs;have ah:=aJ8 [] pr rs;have lw:=tw.length;unfold kG at lw tw;rw [ac] at lw;obtain ⟨us',zl,eu,_,al,ql,fl,gl,rfl,hal,hql,_,_⟩:=iX (by rw [gE,bm] at tw;exact tw);refine ⟨_,rfl,a,rfl,⟨_,aO.of (s2 _ _ ha)⟩,aA2 (K:=K) (a:=a) (xs:=us) (fun i σ G=>∃ (kvs:List (List Key×V)) (v4 v5:Option V),σ=[some (.ref p),some (.int kn),some (.ref a),some (.ref x),v4,v5]/\fW d H2 G/\Sht K G cS x p pr np d rs kn n ss' kvs/\kvs.length<=i/\jA K G kvs ss' kn ((cQ ([],Pt.rows pr rs)).take i))
  ⟨[],_,_,rfl,fW.refl _ _,S2,aj _,fun e he=>absurd he au⟩ (by rintro i σ G _ ⟨_,_,_,_,o,_⟩;exact aO.of (o.ts hd2 _ _ (s2 _ _ ha))) ?_ ?_⟩
 ·rintro D' i z σ G t hz ⟨kvs,v4,v5,rfl,o,S,lk,kw⟩ ht;obtain ⟨G3,e0,s3,h3⟩:=gG ht (.tup [.int i,z]);rw [e0];clear e0;refine ⟨t,_,rfl,aO.of h3,rfl,_,_,rfl,_,_,rfl,rfl,?_⟩;obtain ⟨x0,hx0,hln⟩:=fM tw hz;rw [cj] at hx0;obtain ⟨e,he,rfl⟩:∃ e,(cQ ([],Pt.rows pr rs))[i]?=some e/\xX ss' kn e=x0:=by
   cases q:(cQ ([],Pt.rows pr rs))[i]? with
   | none=>rw [q] at hx0;cases hx0
   | some e=>rw [q] at hx0;injection hx0 with hx0;exact ⟨e,rfl,hx0⟩
  have il:=(bc.mp he).1;refine ⟨_,rfl,_,rfl,x,p,pr,np,d,z,rs,kn,n,ss',kvs,e,rfl,S.s s3,be he,((hln.s s2).off o hd2).s s3,fun c hc=>let ⟨v,h1,h2⟩:=kw c (bC0 ah he c hc);⟨v,h1,h2.s s3⟩,fun G4 s4=>⟨_,rfl,aU (by decide) ?_⟩⟩;obtain ⟨za,zq,zf,zg,rfl,hza,hzq,hzf,hzg⟩:=((hln.s s2).off o hd2).s (s3.trans s4);refine ⟨_,rfl,za,_,_,_,rfl,rfl,aO.of hza,rfl,_,rfl,za,_,_,_,rfl,rfl,aO.of hza,rfl,bM,fun t5 ht5=>?_⟩;obtain ⟨G5,e0,s5,h5⟩:=gG ht5 (.tup [.ref zf,.ref zg]);rw [e0];clear e0;have s35:=s3.trans (s4.trans s5);have S5:=S.s s35;obtain ⟨dx',hsh5⟩:=S5.ob;refine ⟨_,rfl,x,cS,dx',_,_,rfl,hsh5,T.cl,T.n4,(aW9 p np d kn).2.2.2,_,rfl,za,_,_,_,rfl,rfl,aO.of (s5 _ _ hza),rfl,d,_,rfl,iY.t (k:=xH e.1) S5.dc (by rw [sK];exact s5 _ _ hzq) (eI (by lia)),?_⟩;refine ⟨_,_,_,rfl,(o.trans (fW.of s35)).trans fW.upd,S5.put fW.upd aD,by have:=bS kvs (xH e.1) (V.ref t5);lia,?_⟩;exact jA.put (e:=e) (H:=G) kw nd he ((fW.of s35).trans fW.upd) S.dc (dE.off fW.upd S5.dc ⟨t5,zf,zg,rfl,aO.of h5,hzf.s s5,hzg.s s5⟩)
 ·rintro σ G ⟨kvs,v4,v5,rfl,o,S,lk,kw⟩;rw [lw,bv] at kw;have ts:=o.ts hd2;have ha2:=ts _ _ (s2 _ _ ha);rw [eu] at ha2;refine ⟨_,rfl,_,.inr (.inl ⟨_,aO.of ha2,rfl⟩),aU (by simp) ?_⟩;refine ⟨_,rfl,1,rfl,a,_,_,.ref al,rfl,rfl,aO.of ha2,lR,al,_,_,_,rfl,rfl,aO.of (ts _ _ (s2 _ _ hal)),rfl,bj _,fun t6 ht6=>?_⟩;obtain ⟨G6,e0,s6,h6⟩:=gG ht6 (.tup []);rw [e0];clear e0;refine ⟨ql,t6,[],[],rfl,rfl,aO.of (s6 _ _ (ts _ _ (s2 _ _ hql))),aO.of h6,_,rfl,aU (by decide) ?_⟩;obtain ⟨v,hv1,hv2⟩:=kw _ (jD ([],Pt.rows pr rs));obtain ⟨dx',hsh⟩:=(S.s s6).ob;refine ⟨_,rfl,x,cS,dx',_,_,rfl,hsh,T.cl,T.n4,(aW9 p np d kn).2.2.2,bj _,fun t7 ht7=>?_⟩;have s7:=aB ht7 (.tup []);have dg:=dG.t (k:=[]) (s7 _ _ (s6 _ _ S.dc)) aD;rw [show bP kvs []=some v from hv1] at dg;exact ⟨d,v,rfl,dg,k _ v ((fW.same s2 o hdn).trans (s6.trans s7)) (hv2.s (s6.trans s7))⟩
theorem bM5 {cT:Addr}(m_THROWS:mg "THROWS"=some (.ref cT)) (hT:∀ H,aO K H cT (dY.map V.str)) {cF cF0 cF1:Addr}(m_FREE:mg "FREE"=some (.ref cF)) (hF:∀ H,aO K H cF [.ref cF0,.ref cF1]/\bJ K H cF0 (1,1)/\bJ K H cF1 (0,1)) {cR:Addr}(m_RULES:mg "RULES"=some (.ref cR)) (hR:xI P w K cR rulK) (C_Ned:Cl P w K mg base 5 spNeeded "needed") (C_Prs:Cl P w K mg base 9 (aW7 K) "prices_of") (C_PlO:Cl P w K mg base 4 spPlOf "places_of") (C_IdP:Cl P w K mg base 3 spIdl "idle_part") (C_Rul:Cl P w K mg base 2 spRul "rule_of") (m_tuple:mg "tuple"=none):dZ P w K mg base "paper_of" "paper_of" cJ0 10 ["program","kind"] (bL4 K):=by
 refine eQ ["program","kind","names","prices","lines","place","part","rule"] fun H Q nd hr h=>?_
 obtain ⟨p,pr,v0,xs,rs,kn,n,rfl,P0,N0,hkn,hp,hpr,k⟩:=h;have hu:=iR hr;refine ⟨_,(dB 2 nd (bG C_Ned hr (aN (pv 0)))
  (dB 3 nd (bG C_Prs hr (aA (pv 0) (aN (pv 1))))
  (dB 4 nd (bK cD)
  (aF (pK (bX (bG C_PlO hr (aN (aZ aG (pv 0) aC)))) (eV rfl (aX (eN 5 nd) (aX (eN 6 nd) dP)))
  (dB 7 nd (wF (iZ (fJ (bG C_IdP hr (aA (pv 6) (aN (pv 2))))) aH (bG C_Rul hr (aN (pv 6)))))
  (aE (cY (fN br dk dm dO (pv 4) (aN (aK wM (aM (aA (pv 5) (aN (pv 7)))) (tF hu (pv 3) (pv 5)))))))))
  (aE (aJ (tQ dC m_tuple eo (aN (pv 4))))))))),?_⟩
 have c0:=P0.cnt;obtain ⟨pk,ks,w0,_,_,eks,_,n3,hkd⟩:=id N0;refine ⟨_,rfl,p,xs,rs,rfl,P0,fun np ss H1 s1 h1 nds=>?_⟩;refine ⟨_,rfl,_,rfl,p,xs,rs,kn,n,v0,pr,rfl,P0.ts (.of s1),N0.ts (.of s1),hkn,s1 _ _ hp,s1 _ _ hpr,fun H2 d kvs ss' s2 h2 nds' kw=>?_⟩;have es:=nds'.eq nds;subst es;refine ⟨bj _,fun ll hll=>?_⟩;obtain ⟨H3,e0,s3,h3⟩:=gG hll (.lst []);rw [e0];clear e0;have s03:=s1.trans (s2.trans s3);have nl:H ll=none:=(s1.trans s2).free hll;refine ⟨_,rfl,p,_,_,.ref pr,rfl,rfl,aO.of (s03 _ _ hp),rfl,pr,rs,n,rfl,s03 _ _ hpr,bN.ts (.of s03) rs P0.rows,c0,P0.dp,hkd,fun r4 zs H4 s4 h4 tz=>?_⟩;have s04:=s03.trans s4;have h34:=s4 _ _ h3;have ol:=xB [] (Pt.rows pr rs);have ol:(cQ ([],Pt.rows pr rs)).length<=4000:=cu ol (show 3 * bY rs+1<=4000 by lia);have o1:=sU ([],Pt.rows pr rs);have lz:=tz.length;have nrl:r4≠ll:=fun z=>by
  rw [z,h34] at h4;injection h4 with h4
  injection h4 with h4
  rw [<- h4,jc] at lz
  lia
 have al:=uO (s04 _ _ hpr) (bN.ts (.of s04) rs P0.rows) (pl:=[]);have k':∀ H' a us,aS H H'->H' a=some (.tup us)->cO (pO K H') us ((cQ ([],Pt.rows pr rs)).map (xX ss' kn))->Q (.ref a) H':=fun H' a us x y z=>k H' a us ss' x y nds z
 clear k o1 hkd;have kw4:jA K H4 kvs ss' kn (cQ ([],Pt.rows pr rs)):=fun e he=>let ⟨v,x,y⟩:=kw e he;⟨v,x,y.s (s3.trans s4)⟩
 generalize cQ ([],Pt.rows pr rs)=L at tz al ol lz k' kw4;refine ⟨r4,rfl,⟨_,bC.of h4⟩,dW (K:=K) (a:=r4) (xs:=zs) (fun i σ G=>∃ (ls:List V) (v5 v6 v7:Option V),σ=[some (.ref p),some (.int kn),some (.ref np),some (.ref d),some (.ref ll),v5,v6,v7]/\fW ll H4 G/\G ll=some (.lst ls)/\cO (pO K G) ls ((L.take i).map (xX ss' kn)))
  ⟨[],_,_,_,rfl,fW.refl _ _,h34,trivial⟩ (by rintro i σ G _ ⟨_,_,_,_,_,o,_⟩;exact bC.of (o _ _ nrl h4)) ?_ ?_⟩
 ·rintro D' i v σ G hv ⟨ls,v5,v6,v7,rfl,o,gl,tl⟩;obtain ⟨⟨pl,e⟩,he,q,a,rfl,hq,ha⟩:=fM tz hv;have me:=be he;have il:=(bc.mp he).1;have ts:TS H4 G:=fun b ys z=>o b _ (dD z h34 (by intro q;cases q)) z
  have pe:mC G e:=(al _ me).ts ts;have ga:=ts _ _ ha;refine ⟨q,_,rfl,aO.of (ts _ _ hq),rfl,_,_,rfl,_,_,rfl,rfl,?_⟩;refine ⟨fun v G'=>v= .str (e.rule ss')/\aS G G',?_,?_⟩
  ·refine ⟨_,rfl,_,rfl,e,np,ss',rfl,pe,ts _ _ ((s2.trans (s3.trans s4)) _ _ h1),_,rfl,?_⟩;rw [wT]
   by_cases ci:e.idle ss'=true
   ·rw [ay ci];exact bD ci ⟨rfl,aS.refl _⟩
   ·rw [ak ci];exact aU ci ⟨_,rfl,e,rfl,pe,fun G' s'=>⟨rfl,s'⟩⟩
  rintro v G5 ⟨rfl,s5⟩;have lt:=tl.length;rw [ac,cp] at lt;refine ⟨_,rfl,.inl ⟨rfl,_,bC.of (s5 _ _ gl)⟩,_,rfl,_,rfl,bM,fun t6 ht6=>?_⟩;obtain ⟨G6,e0,s6,h6⟩:=gG ht6 (.tup [.ref a,.str (e.rule ss')]);rw [e0];clear e0;have s56:=s5.trans s6;obtain ⟨u,hu1,b,x,y,rfl,hb,hx,hy⟩:=kw4 _ me;have ndl:d≠ll:=dD ((s3.trans s4) _ _ h2) h34 (by intro z;cases z);have dg:=dG.t (k:=xH pl) (s56 _ _ (o _ _ ndl ((s3.trans s4) _ _ h2))) (by rw [sK];exact s56 _ _ ga);rw [show bP kvs (xH pl)=some (.ref b) from hu1] at dg;have hb6:aO K G6 b [.ref x,.ref y]:=aO.ts s56 (aO.offL o h34 hb);refine ⟨_,rfl,_,rfl,d,.ref b,rfl,dg,t6,b,_,_,rfl,rfl,aO.of h6,hb6,(fun z=>by cases z),by show 4<=sizeLine;decide,(fun z=>by cases z),fun _ t7 ht7=>?_⟩;have s7:=aB ht7 (.tup ([.ref a,.str (e.rule ss')]++[.ref x,.ref y]));have h7:aQ G6 t7 (.tup ([.ref a,.str (e.rule ss')]++[.ref x,.ref y])) t7=some (.tup [.ref a,.str (e.rule ss'),.ref x,.ref y]):=aD
  generalize aQ G6 t7 (.tup ([.ref a,.str (e.rule ss')]++[.ref x,.ref y]))=G7 at s7 h7 ⊢;have s57:=s56.trans s7;have gl7:=s57 _ _ gl;refine ⟨ll,ls,.ref t7,rfl,rfl,gl7,eI (by lia),ls++[.ref t7],_,_,_,rfl,(o.trans (fW.of s57)).trans fW.upd,aD,?_⟩;rw [aT he,bm];refine cO.append (tl.mono fun _ _ z=>(z.s s57).updL gl7) ⟨pO.updL gl7 ⟨t7,a,x,y,rfl,h7,s57 _ _ ga,?_,?_⟩,trivial⟩
  ·exact aO.ts s57 (aO.offL o h34 hx)
  ·exact aO.ts s57 (aO.offL o h34 hy)
 ·rintro σ G ⟨ls,v5,v6,v7,rfl,o,gl,tl⟩;rw [lz,bv] at tl;refine ⟨_,rfl,ll,ls,rfl,.inl ⟨bC.of gl,fun t ht=>?_⟩⟩;exact k' _ t ls ((fW.same s04 o nl).trans (aB ht _)) aD (tl.mono fun _ _ z=>z.s (aB ht _))
theorem bY7 (C_Draw:Cl P w K mg base 1 spDraw "_law_draw") (m_list:mg "list"=none) (m_len:mg "len"=none):dZ P w K mg base "_law_places" "_law_places" cC4 2 ["_law_deal_here","_law_lines_here"] (bA0 K):=by
 refine eQ ["_law_deal_here","_law_lines_here","_law_found","_law_place","_law_more","_law_at_here"] fun H Q nd hr h=>?_
 obtain ⟨d,l,ll,us,xs,rfl,D,hl,nll,tw,x4,xl,k⟩:=h;refine ⟨_,(aF (vS ["_law_line"] [none] (i:=2) nd rfl (kb rfl) (bX (pv 1)) (fun _ _ _ _=>(eN 0)) (fun _ _ _ _=>eS) (fun _ _ _ _=>(aZ (sT K) (pv 0) aC)))
  (aF (pK (bX (tQ hJ m_list jf (aN (pv 2)))) (eN 3 nd)
  (dB 4 nd (aK cV (bG C_Draw hr (aA (pv 0) (aN aC))) aC)
  (aF (cY (fN br dk dm dO (pv 2) (aN (aK lP (pv 3) (aM (aN (pv 4)))))))
  (aE (bB (eT kM (mO bO m_len gb (aN (pv 3))) aC) (dB 5 nd (bG C_Draw hr (aA (pv 0) (aN (mO bO m_len gb (aN (pv 3))))))
  (aF (cY (fN br dk dm dO (pv 2) (aN (aK lP (aK lP (dS iQ (pv 3) eX (eG (pv 5))) (aM (aN (aK cB (aZ aG (pv 3) (pv 5)) (aZ bQ (bK (aA aC (aA (nB jY aC) (aN aC)))) (bG C_Draw hr (aA (pv 0) (aN aC)))))))) (dS iQ (pv 3) (eG (aK cB (pv 5) aC)) eX)))))
  (aE (cY (fN br dk dm dO (pv 2) (aN (aK lP (dS iQ (pv 3) eX (eG (pv 5))) (dS iQ (pv 3) (eG (aK cB (pv 5) aC)) eX)))))))) aR)))))
  (aE (aJ (pv 2))))),?_⟩
 have lw:=tw.length;refine ⟨_,rfl,ll,rfl,⟨_,bC.of hl⟩,dL (K:=K) (a:=ll) (xs:=us) (fun j zs σ G'=>G'=H/\(∃ v,σ=[v])/\cO (lG H) zs ((xs.map (·.1)).take j))
  (eI (by lia)) ⟨rfl,⟨_,rfl⟩,trivial⟩ (by rintro j zs σ G' ⟨_,_,z⟩;rw [z.length,cp];lia) (by rintro j zs σ G' _ ⟨z,_⟩;rw [z];exact bC.of hl) ?_ ?_⟩
 ·rintro j y zs σ _ hy ⟨rfl,⟨v',rfl⟩,tz⟩;obtain ⟨x,hx,a,q,f,g,rfl,ha,hq,_,_⟩:=fM tw hy;refine ⟨_,rfl,a,_,_,_,rfl,rfl,aO.of ha,rfl,rfl,⟨_,rfl⟩,?_⟩;rw [aT (show (xs.map (·.1))[j]?=some x.1 by rw [cj,hx];rfl)];exact cO.append tz ⟨⟨q,rfl,hq⟩,trivial⟩
 rintro zs σ Gx ⟨ex,_,tz⟩ fl hfl;replace ex:=ex.symm;subst ex;rw [lw, <- ac (f:=fun x:Ln=>x.1) (as:=xs),bv] at tz;have lz:=tz.length;rw [ac] at lz;obtain ⟨H1,e0,s1,h1⟩:=gG hfl (.lst zs);rw [e0];clear e0;refine ⟨_,rfl,fl,_,rfl,.inl (bC.of h1),fun rc hrc=>?_⟩;have s2:=aB hrc (.lst zs);have h2:aQ H1 rc (.lst zs) rc=some (.lst zs):=aD;have h12:=s2 _ _ h1;have nfr:fl≠rc:=aL h1 hrc;generalize aQ H1 rc (.lst zs)=H2 at s2 h2 h12 ⊢;have s12:=s1.trans s2;have D2:=D.same s12;have nrl:rc≠l:=(cE (D.same s1) hrc).2;have nfl:fl≠l:=(cE D hfl).2;have x7:∀ p∈xs.map (·.1),p.length<=20:=fun p hp=>by
  obtain ⟨x,hx,rfl⟩:=cy.mp hp;exact xl x hx
 have P2:PlI H d l rc fl zs (xs.map (·.1)) 4000 H2 zs:=⟨D2,eP.of s12,h2,h12,tz.mono fun _ _ z=>z.ts (.of s12),⟨_,tz.mono fun _ _ z=>z.ts (.of s12),by rw [ac];assumption⟩,hfl,nfr,nfl,nrl⟩
 refine ⟨rc,rfl,⟨_,bC.of h2⟩,dW (K:=K) (a:=rc) (xs:=zs) (fun i σ G=>∃ (ys:List V) (v3 v4 v5:Option V),σ=[some (.ref d),some (.ref ll),some (.ref fl),v3,v4,v5]/\PlI H d l rc fl zs (xs.map (·.1)) (4000+3 * i) G ys)
  ⟨zs,_,_,_,rfl,P2⟩ (by rintro i σ G _ ⟨_,_,_,_,_,z⟩;exact bC.of z.gr) ?_ ?_⟩
 ·rintro D' i v σ G hv ⟨ys,v3,v4,v5,rfl,PG⟩;obtain ⟨pl,hpl,a,rfl,ha⟩:=fM PG.tz hv;have pl20:=x7 pl (be hpl);have i4:=(bc.mp hv).1;clear P2 s12 h2 h12 D2 s1 s2 h1 hrc;refine ⟨_,rfl,d,l,4,rfl,PG.dl,by decide,by decide,fun u G1 u0 u1 D1 o1=>⟨_,_,rfl,rfl,?_⟩⟩;have P1:=PG.out D1 o1;have ha1:=TS.out PG.dl o1 _ _ ha;have l1:=P1.len;refine ⟨_,rfl,.inl ⟨rfl,_,bC.of P1.gf⟩,_,rfl,_,rfl,jF,fun t2 ht2=>?_⟩;obtain ⟨G2,e0,s2,h2⟩:=gG ht2 (.tup [.int (u - 1)]);rw [e0];clear e0;refine ⟨a,t2,_,_,rfl,rfl,s2 _ _ ha1,h2,bu (aV (by rw [ac,cv];lia)),fun r3 G3 s3 h3=>?_⟩;have P3:=(P1.s s2).s s3;refine ⟨fl,ys,.ref r3,rfl,rfl,P3.gf,eI (by lia),?_⟩;have P4:=P3.app (pl:=pl++[u - 1]) (by rw [bm];exact h3);have ha4:aQ G3 fl (.lst (ys++[.ref r3])) a=some (.tup (pl.map V.int)):=by rw [aI (dD ((s2.trans s3) _ _ ha1) P3.gf (by intro q;cases q))];exact (s2.trans s3) _ _ ha1
  generalize aQ G3 fl (.lst (ys++[.ref r3]))=G4 at P4 ha4 ⊢;generalize ys++[V.ref r3]=ys4 at P4;refine ⟨_,rfl,a,_,rfl,.inr (aO.of ha4),_,_,rfl,rfl,_,rfl,?_⟩;rw [ac]
  by_cases c0:(0:Int) < (pl.length:Int)
  ·refine bD (ag c0) ?_;refine ⟨_,rfl,_,rfl,a,_,rfl,.inr (aO.of ha4),d,l,_,rfl,P4.dl,by rw [ac];exact c0,by rw [ac];(exact oqq),fun m G5 m0 m1 D5 o5=>?_⟩;rw [ac] at m1;have P5:=P4.out D5 o5;have ha5:=TS.out P4.dl o5 _ _ ha4;have l5:=P5.len;obtain ⟨z,hz⟩:∃ z,pl[m.toNat]?=some z:=⟨_,ar (by lia)⟩
   refine ⟨_,rfl,.inl ⟨rfl,_,bC.of P5.gf⟩,_,rfl,_,rfl,m,rfl,a,_,rfl,ha5,fun r6 G6 s6 h6=>?_⟩;obtain ⟨q6,e6,l6⟩:=wN pl none (some m);rw [e6] at h6;refine ⟨_,rfl,_,rfl,a,_,_,.int z,rfl,rfl,aO.of (s6 _ _ ha5),?_,1,rfl,by show 3<=sizeLine;decide,fun t7 ht7=>?_⟩
   ·rw [show m=(m.toNat:Int) by lia];exact fB (by rw [cj,hz];rfl)
   have s7:=aB ht7 (.lst [.int 1,.int (-1),.int 7]);have h7:aQ G6 t7 (.lst [.int 1,.int (-1),.int 7]) t7=some (.lst [.int 1,.int (-1),.int 7]):=aD;have P7:=(P5.s s6).s s7;have n7:=(cE (P5.s s6).dl ht7).2;generalize aQ G6 t7 (.lst [.int 1,.int (-1),.int 7])=G7 at s7 h7 P7 ⊢;refine ⟨_,rfl,d,l,3,rfl,P7.dl,by decide,by decide,fun w8 G8 w0 w1 D8 o8=>?_⟩;have P8:=P7.out D8 o8;have t8:=TS.out P7.dl o8;obtain ⟨y8,hy8⟩:=aP0 w0 w1;refine ⟨t7,_,_,.int y8,rfl,rfl,bC.of (bA P7.dl h7 n7 o8),hy8,_,_,rfl,rfl,jF,fun t9 ht9=>?_⟩;obtain ⟨G9,e0,s9,h9⟩:=gG ht9 (.tup [.int (z+y8)]);rw [e0];clear e0;refine ⟨r6,t9,_,_,rfl,rfl,s9 _ _ (t8 _ _ (s7 _ _ h6)),h9,bu (aV (by rw [ac,cv];lia)),fun rA GA sA hA=>?_⟩;have haA:=sA _ _ (s9 _ _ (t8 _ _ (s7 _ _ (s6 _ _ ha5))));refine ⟨_,rfl,_,rfl,_,_,rfl,rfl,_,rfl,a,_,rfl,haA,fun rB GB sB hB=>?_⟩;obtain ⟨qB,eB,lB⟩:=wN pl (some (m+1)) none
   rw [eB] at hB;refine ⟨rA,rB,_,_,rfl,rfl,sB _ _ hA,hB,bu (aV (by rw [am,ac,ac,cv];lia)),fun rC GC sC hC=>?_⟩;have PC:=(P8.s s9).s (sA.trans (sB.trans sC));refine ⟨fl,ys4,.ref rC,rfl,rfl,PC.gf,eI (by lia),?_⟩;have PD:=PC.app (pl:=q6++[z+y8]++qB) (by rw [bm,bm];exact hC);have haD:aQ GC fl (.lst (ys4++[.ref rC])) a=some (.tup (pl.map V.int)):=by rw [aI (dD ((sB.trans sC) _ _ haA) PC.gf (by intro q;cases q))];exact (sB.trans sC) _ _ haA
   generalize aQ GC fl (.lst (ys4++[.ref rC]))=GD at PD haD ⊢;generalize ys4++[V.ref rC]=ysD at PD;have lD:=PD.len;refine ⟨_,rfl,.inl ⟨rfl,_,bC.of PD.gf⟩,_,rfl,_,rfl,m,rfl,a,_,rfl,haD,fun rE GE sE hE=>?_⟩;obtain ⟨qE,eE,lE⟩:=wN pl none (some m);rw [eE] at hE;refine ⟨_,rfl,_,rfl,_,_,rfl,rfl,_,rfl,a,_,rfl,sE _ _ haD,fun rF GF sF hF=>?_⟩;obtain ⟨qF,eF,lF⟩:=wN pl (some (m+1)) none;rw [eF] at hF;refine ⟨rE,rF,_,_,rfl,rfl,sF _ _ hE,hF,bu (aV (by rw [ac,ac];lia)),fun rG GG sG hG=>?_⟩;have PE:=PD.s (sE.trans (sF.trans sG));refine ⟨fl,ysD,.ref rG,rfl,rfl,PE.gf,eI (by lia),ysD++[.ref rG],_,_,_,rfl,?_⟩;exact PE.app (pl:=qE++qF) (by rw [bm];exact hG)
  ·refine aU (fun z=>c0 (ai z)) ⟨ys4,_,_,_,rfl,?_⟩;obtain ⟨pp,x,y⟩:=P4.ty;exact ⟨P4.dl,P4.ot,P4.gr,P4.gf,P4.tz,⟨pp,x,by lia⟩,P4.nf,P4.n1,P4.n2,P4.n3⟩
 ·rintro σ G ⟨ys,v3,v4,v5,rfl,PG⟩;obtain ⟨pls,ty,lp⟩:=PG.ty;exact ⟨_,rfl,k G fl ys pls PG.dl PG.ot hfl PG.gf ty (by lia)⟩
theorem bS4 (C_Deal:Cl P w K mg base 1 (aZ6 K) "_law_deal") (C_Prg:Cl P w K mg base 18 spPrg "_law_program") (C_Draw:Cl P w K mg base 1 spDraw "_law_draw") (C_LLs:Cl P w K mg base 15 (aJ4 K 8) "_law_lines") (C_Plx:Cl P w K mg base 2 (bA0 K) "_law_places") (C_LNd:Cl P w K mg base 9 spLNd "_law_needed") (C_PAt:Cl P w K mg base 3 spPAt "part_at") (C_LAt:Cl P w K mg base 2 spPAt "_law_at") (C_Pap:Cl P w K mg base 10 (bL4 K) "paper_of") (C_Pri:Cl P w K mg base 10 (bK3 K) "price") (C_Shw:Cl P w K mg base 10 (bK2 K) "paper_shows") (m_range:mg "range"=none) (m_len:mg "len"=none) (m_repr:mg "repr"=none) (m_tuple:mg "tuple"=none):dZ P w K mg base "law" "law" bB2 19 ["_law_script"] (aL2 K):=by
 refine eQ ["_law_script","_law_deal_here","_law_program_here","_law_kind","_law_lines_here","_law_place","_law_found","_law_due","_law_turn","_law_paper"] fun H Q nd hr h=>?_
 obtain ⟨a,ns,rfl,hS,hlen,k⟩:=h;have hr1:dQ 1 _:=hr.mono (by decide);refine ⟨_,(dB 1 nd (bG C_Deal hr (aA (pv 0) (aN aC)))
  (dB 2 nd (bG C_Prg hr (aA (pv 1) (aA aC (aA aC (aN aC)))))
  (dB 3 nd (bG C_Draw hr (aA (pv 1) (aN (mO bO m_len gb (aN (aZ aG (pv 2) aC))))))
  (dB 4 nd (bG C_LLs hr (aA (aZ aG (pv 2) aC) (aA (aM cD) (aA (bG C_LNd hr (aN (pv 2))) (aN (pv 3))))))
  (aF (pK (bX (bG C_Plx hr (aA (pv 1) (aN (pv 4))))) (eN 5 nd)
  (dB 6 nd (bG C_PAt hr (aA (pv 2) (aN (pv 5))))
  (dB 7 nd (bG C_LAt hr (aA (pv 2) (aN (pv 5))))
  (aE (bB (PW.pt (vJ (eT qK (wE (aD3 (pv 6))) (wE (aD3 (pv 7)))) (oP (eT (bN5 hr1) (pv 6) (pv 7))))) jC aR)))))
  (aF (pK (dN (by rfl) m_range (aN aC)) (eN 8 nd)
  (dB 9 nd (bG C_Pap hr (aA (pv 2) (aN (pv 3))))
  (aF (bB (eT qK (mO (gA hr1) m_repr jg (aN (pv 9))) (mO (gA hr1) m_repr jg (aN (tQ dC m_tuple eo (aN (pv 4)))))) jC aR)
  (aE (bB (eT qK (mO (gA hr1) m_repr jg (aN (bG C_Shw hr (aA (pv 2) (aA (pv 3) (aN (pv 9))))))) (mO (gA hr1) m_repr jg (aN (dS iQ (aZ bQ (pv 4) (nB jY aC)) (eG aC) eX)))) jC aR)))))
  (aE (aJ (pec cH (mO (gA hr1) m_repr jg (aN (bG C_Pri hr (aA (pv 2) (aN (pv 3)))))) (mO (gA hr1) m_repr jg (aN (dS iQ (aZ bQ (pv 4) (nB jY aC)) (eG aC) eX)))))))))))),?_⟩
 refine ⟨_,rfl,a,ns,0,rfl,hS,hlen,by decide,by decide,fun d l H1 nd nl D1 s1=>?_⟩;refine ⟨_,rfl,d,l,rfl,D1,fun p xs rs H2 D2 o2 P2=>?_⟩;have c0:=P2.cnt;obtain ⟨n,N2⟩:=P2.knn;obtain ⟨pk,ks,w0,hp',hk,eks,n1,n3,hkd⟩:=id N2;obtain ⟨v0,pr,hp,hpr⟩:=P2.ex;refine ⟨_,rfl,_,rfl,p,_,_,.ref pk,rfl,rfl,aO.of hp',rfl,pk,_,rfl,.inr (aO.of hk),d,l,_,rfl,D2,by rw [ac];lia,by rw [ac];lia,fun u H3 u0 u1 D3 o3=>?_⟩;rw [ac,eks] at u1;obtain ⟨kn,rfl⟩:∃ kn:Nat,u=(kn:Int):=⟨u.toNat,by lia⟩
 have t3:=TS.out D2 o3;replace P2:=P2.ts t3;replace N2:=N2.ts t3;replace hp:=t3 _ _ hp;replace hpr:=t3 _ _ hpr;clear t3 hp' hk o3 D2 o2 hS s1 nd nl D1;refine ⟨_,rfl,p,_,_,.ref pr,rfl,rfl,aO.of hp,rfl,bj _,fun t4 ht4=>?_⟩;obtain ⟨H4,e0,s4,h4⟩:=gG ht4 (.tup []);rw [e0];clear e0;refine ⟨_,rfl,p,xs,rs,rfl,P2.ts (.of s4),fun np ss H5 s5 h5 nds=>?_⟩;have s35:=s4.trans s5;have P5:=P2.ts (.of s35);have N5:=N2.ts (.of s35);have hp5:=s35 _ _ hp;have hpr5:=s35 _ _ hpr;have hdp:=P5.dp;have lb:=cM9 (ss:=ss) (k:=kn) ⟨hpr5,P5.rows⟩ c0 hdp P5.ld hkd;have ol:=xB [] (Pt.rows pr rs);have ol:(kG ss kn ([],Pt.rows pr rs)).length<=4000:=by
  unfold kG;rw [ac];exact cu ol (show 3 * bY rs+1<=4000 by lia)
 refine ⟨_,rfl,Pt.rows pr rs,t4,np,ss,kn,n,[],rfl,⟨hpr5,P5.rows⟩,(show 2 * fK rs+1 < 8 by lia),(show 2 * fK rs+1+0<=20 by lia),P5.ld,hkd,by assumption,(show 3 * bY rs+1<=4000 by lia),s5 _ _ h4,h5,fun H6 ll us s6 nl6 h6 tw=>?_⟩;have D6:=(D3.same s35).same s6;have nll:=(cE (D3.same s35) nl6).2;have P6:=P5.ts (.of s6);have N6:=N5.ts (.of s6);have hp6:=s6 _ _ hp5;have hpr6:=s6 _ _ hpr5;clear s4 h4 s5 h5 s35 P5 N5 hp5 hpr5 P2 N2 hp hpr D3 s6 nl6;refine ⟨_,rfl,_,rfl,d,l,ll,us,_,rfl,D6,h6,nll,tw,ol,fun x hx=>cu (lb x hx).1 (by decide),fun H7 rp ys pls D7 o7 nrp h7 tp l7=>?_⟩;have t7:=TS.out D6 o7;have P7:=P6.ts t7;have N7:=N6.ts t7;have hp7:=t7 _ _ hp6;have hpr7:=t7 _ _ hpr6;have h67:=bA D6 h6 nll o7;have tw7:=tw.mono fun _ _ z=>z.out D6 o7
 clear P6 N6 hp6 hpr6 h6 tw o7 D6 t7 nrp;refine ⟨rp,rfl,⟨_,bC.of h7⟩,dW (K:=K) (a:=rp) (xs:=ys) (fun i σ G=>∃ (v5 v6 v7:Option V),σ=[some (.ref a),some (.ref d),some (.ref p),some (.int kn),some (.ref ll),v5,v6,v7,none,none]/\aS H7 G)
  ⟨_,_,_,rfl,aS.refl _⟩ (by rintro i σ G _ ⟨_,_,_,_,s⟩;exact bC.of (s _ _ h7)) ?_ ?_⟩
 ·rintro D' i v σ G hv ⟨v5,v6,v7,rfl,sG⟩;obtain ⟨pl,hpl,q,rfl,hq⟩:=fM tp hv;have hR:mC H7 (.rows pr rs):=⟨hpr7,P7.rows⟩
  refine ⟨_,rfl,_,rfl,p,q,pr,v0,rs,pl,rfl,sG _ _ hp7,hR.ts (.of sG),(show 3 * bY rs+1<=4000 by lia),sG _ _ hq,fun G1 s1=>?_⟩;have s01:=sG.trans s1;refine ⟨_,rfl,_,rfl,p,q,pr,v0,rs,pl,rfl,s01 _ _ hp7,hR.ts (.of s01),(show 3 * bY rs+1<=4000 by lia),s01 _ _ hq,fun G2 s2=>?_⟩;refine ⟨_,rfl,_,rfl,rfl,_,rfl,aU (by simp) ?_⟩;have hx:atV (sW (.rows pr rs) pl)= .non\/∃ b zs,atV (sW (.rows pr rs) pl)= .ref b/\aO K G2 b zs:=by
   cases e:sW (.rows pr rs) pl with
   | none=>exact .inl rfl
   | some c =>
    obtain ⟨zs,hz⟩:=aV3 (hR.ts (.of (s01.trans s2))) e;exact .inr ⟨c.p,zs,rfl,aO.of hz⟩
  exact ⟨_,rfl,_,rfl,rfl,hx,_,rfl,aU (by decide) ⟨_,_,_,rfl,s01.trans s2⟩⟩
 rintro σ G ⟨v5,v6,v7,rfl,sG⟩;have PG:=P7.ts (.of sG);have NG:=N7.ts (.of sG);have hpG:=sG _ _ hp7;have hprG:=sG _ _ hpr7;have hlG:=sG _ _ h67;have twG:=tw7.mono fun _ _ z=>z.s sG
 clear P7 N7 hp7 hpr7 h67 tw7 sG h7 tp;have ps:=aR7 lb ol;have la:LnB (xX ss kn ([],Pt.rows pr rs)):=lb _ (cy.mpr ⟨_,jD _,rfl⟩);have lst:∃ us' zl,us=us'++[zl]/\pO K G zl (xX ss kn ([],Pt.rows pr rs)):=by
  have z:=twG;unfold kG at z;rw [gE,bm] at z;obtain ⟨us',zl,e,_,h⟩:=iX z;exact ⟨us',zl,e,h⟩
 obtain ⟨us',zl,eu,al,ql,fl,gl,rfl,hal,hql,hfl,hgl⟩:=lst;obtain ⟨w1,w2,w3,w4⟩:=bB7 la.2.2.2.1 la.2.2.2.2;generalize eD:(kG ss kn ([],Pt.rows pr rs))=LD at twG ps ol lb;refine ⟨_,rfl,by decide,by decide,jJ (n:=2) (fun i σ G'=>∃ (v8 v9:Option V),σ=[some (.ref a),some (.ref d),some (.ref p),some (.int kn),some (.ref ll),v5,v6,v7,v8,v9]/\aS G G')
  ⟨_,_,rfl,aS.refl _⟩ ?_ ?_⟩
 ·rintro i σ G1 hi ⟨v8,v9,rfl,s1⟩;refine ⟨_,rfl,_,rfl,p,pr,v0,xs,rs,kn,n,rfl,PG.ts (.of s1),NG.ts (.of s1),by lia,s1 _ _ hpG,s1 _ _ hprG,fun G2 ap up ss' s2 h2 nds' t2=>?_⟩;have es:=nds'.eq nds;subst es;rw [eD] at t2;have s12:=s1.trans s2;refine ⟨_,rfl,tI LD,ap,rfl,aL4 h2 t2,ps.1,ps.2.1,ps.2.2.1,ps.2.2.2,_,rfl,ll,us,rfl,.inl ⟨bC.of (s12 _ _ hlG),fun t3 ht3=>?_⟩⟩;have s3:=aB ht3 (.tup us);have s13:=s12.trans s3;refine ⟨tI LD,t3,rfl,aL4 aD (twG.mono fun _ _ z=>z.s s13),ps.1,ps.2.1,ps.2.2.1,ps.2.2.2,rfl,_,rfl,aU (by rw [ag rfl];decide) ?_⟩;generalize aQ G2 t3 (.tup us)=G3 at s3 s13 ⊢;refine ⟨_,rfl,_,rfl,_,rfl,p,pr,ap,v0,up,xs,rs,kn,n,ss',rfl,PG.ts (.of s13),NG.ts (.of s13),by lia,s13 _ _ hpG,s13 _ _ hprG,s3 _ _ h2,nds,by rw [eD];exact t2.mono fun _ _ z=>z.s s3,fun G4 v4 s4 hv4=>?_⟩;obtain ⟨a4,x4,y4,rfl,ha4,hx4,hy4⟩:=hv4;have s14:=s13.trans s4;have hl4:=s14 _ _ hlG;rw [eu] at hl4
  refine ⟨rD (iL ss' kn rs),a4,rfl,pV ha4 hx4 hy4,w1,w2,w3,w4,_,rfl,1,rfl,ll,_,_,.ref al,rfl,rfl,bC.of hl4,lR,2,rfl,al,_,rfl,s14 _ _ hal,fun r5 G5 s5 h5=>?_⟩;replace h5:G5 r5=some (.tup [.ref fl,.ref gl]):=h5;have s15:=s14.trans s5;exact ⟨rD (iL ss' kn rs),r5,rfl,pV (aO.of h5) (bJ.s s15 hfl) (bJ.s s15 hgl),w1,w2,w3,w4,rfl,_,rfl,aU (by rw [ag rfl];decide) ⟨_,_,rfl,s15⟩⟩
 ·rintro σ G1 ⟨v8,v9,rfl,s1⟩;refine ⟨_,rfl,_,rfl,p,xs,rs,kn,n,rfl,PG.ts (.of s1),NG.ts (.of s1),by lia,fun G4 ss' v4 s4 nds' hv4=>?_⟩;have es:=nds'.eq nds;subst es;obtain ⟨a4,x4,y4,rfl,ha4,hx4,hy4⟩:=hv4;have s14:=s1.trans s4;have hl4:=s14 _ _ hlG;rw [eu] at hl4;refine ⟨rD (iL ss' kn rs),a4,rfl,pV ha4 hx4 hy4,w1,w2,w3,w4,_,rfl,1,rfl,ll,_,_,.ref al,rfl,rfl,bC.of hl4,lR,2,rfl,al,_,rfl,s14 _ _ hal,fun r5 G5 s5 h5=>?_⟩;replace h5:G5 r5=some (.tup [.ref fl,.ref gl]):=h5;have s15:=s14.trans s5;exact ⟨rD (iL ss' kn rs),r5,rfl,pV (aO.of h5) (bJ.s s15 hfl) (bJ.s s15 hgl),w1,w2,w3,w4,rfl,by rw [ag rfl];exact k _⟩
end
theorem all_mk {l:W.OpenLaw}{w:World}{K:W.Frag}{h:Heap}{mg:Str->Option Value}{fa:Addr}(X:K.In h) (G:h.Ns mainGlobals mg) (hfa:mg "law"=some (.ref fa))
  {xcT xcF xcG xcH xcR cS iI:Addr}{odT odF odG odH:Option Addr}{itsT itsF itsG itsH:Array Value}{nT nF nG nH epR:Nat}{slT slF slG slH:Array (Option Value)}{esR:Array DictEntry}
  (t1:TopAt K "has_one_sum" cJ7)
  (t2:TopAt K "place_of_sums" cH6)
  (t3:TopAt K "sums_of" cF6)
  (t4:TopAt K "parts_of" cA7)
  (t5:TopAt K "names_in" cD3)
  (t6:TopAt K "sets_name" cE3)
  (t7:TopAt K "names_asked" cE1)
  (t8:TopAt K "as_steps" cI5)
  (t9:TopAt K "inner_steps" bZ7)
  (t10:TopAt K "steps_of" cB8)
  (t11:TopAt K "is_row" cD6)
  (t12:TopAt K "parts_right_in" cG6)
  (t13:TopAt K "places_right_in" cG4)
  (t14:TopAt K "places_of" cE2)
  (t15:TopAt K "common_divisor" cJ1)
  (t16:TopAt K "lowest" cE6)
  (t17:TopAt K "added" cI0)
  (t18:TopAt K "times" cI2)
  (t19:TopAt K "minus" aU9)
  (t20:TopAt K "power" cD4)
  (t21:TopAt K "less" bZ4)
  (t22:TopAt K "rows_in" cF5)
  (t23:TopAt K "names_behind" cI3)
  (t24:TopAt K "needed" cI1)
  (t25:TopAt K "is_idle" cF2)
  (t26:TopAt K "far_tail" cF4)
  (t27:TopAt K "tail_of" bK9)
  (t28:TopAt K "turned_power" cA2)
  (t29:TopAt K "price_of_throw" cH1)
  (t30:TopAt K "price_of_row" cC9)
  (t31:TopAt K "price_behind" cJ5)
  (t32:TopAt K "greatest" cD8)
  (t33:TopAt K "greatest_of" cH7)
  (t34:TopAt K "price_made" cB3)
  (t35:TopAt K "prices_of" cE8)
  (t36:TopAt K "price" bZ8)
  (t37:TopAt K "part_at" cC3)
  (t38:TopAt K "rule_of" cD1)
  (t39:TopAt K "idle_part" cF8)
  (t41:TopAt K "due_of" cA0)
  (t42:TopAt K "is_right" cB0)
  (t43:TopAt K "paper_shows" cA3)
  (t44:TopAt K "paper_of" cJ0)
  (t45:TopAt K "_law_deal" aT7)
  (t46:TopAt K "_law_draw" aT2)
  (t47:TopAt K "_law_names" cC1)
  (t48:TopAt K "_law_steep" bZ9)
  (t49:TopAt K "_law_sum" cK2)
  (t50:TopAt K "_law_throw" cH0)
  (t51:TopAt K "_law_term" cD9)
  (t52:TopAt K "_law_row" cG5)
  (t53:TopAt K "_law_rows" cH3)
  (t54:TopAt K "_law_program" cK0)
  (t55:TopAt K "_law_pow" cC7)
  (t56:TopAt K "_law_common" cH8)
  (t57:TopAt K "_law_lowest" cE5)
  (t58:TopAt K "_law_listed" cH4)
  (t59:TopAt K "_law_names_in" cH2)
  (t60:TopAt K "_law_needed" cH5)
  (t61:TopAt K "_law_idle" cG1)
  (t62:TopAt K "_law_tail" bZ5)
  (t63:TopAt K "_law_row_price" cC5)
  (t64:TopAt K "_law_times" cF7)
  (t65:TopAt K "_law_added" cJ9)
  (t66:TopAt K "_law_below" cG0)
  (t67:TopAt K "_law_greater" cI7)
  (t68:TopAt K "_law_joined" cA5)
  (t69:TopAt K "_law_rule" cC8)
  (t70:TopAt K "_law_inner" cE7)
  (t71:TopAt K "_law_lines" cB9)
  (t72:TopAt K "_law_at" cK5)
  (t73:TopAt K "_law_places" cC4)
  (t74:TopAt K "law" bB2)
  (z_reversed:W.nsIn K mainGlobals "reversed"=some none)
  (z_isinstance:W.nsIn K mainGlobals "isinstance"=some none)
  (z_str:W.nsIn K mainGlobals "str"=some none)
  (z_len:W.nsIn K mainGlobals "len"=some none)
  (z_list:W.nsIn K mainGlobals "list"=some none)
  (z_range:W.nsIn K mainGlobals "range"=some none)
  (z_zip:W.nsIn K mainGlobals "zip"=some none)
  (z_tuple:W.nsIn K mainGlobals "tuple"=some none)
  (z_sorted:W.nsIn K mainGlobals "sorted"=some none)
  (z_max:W.nsIn K mainGlobals "max"=some none)
  (z_min:W.nsIn K mainGlobals "min"=some none)
  (z_all:W.nsIn K mainGlobals "all"=some none)
  (z_enumerate:W.nsIn K mainGlobals "enumerate"=some none)
  (z_int:W.nsIn K mainGlobals "int"=some none)
  (z_set:W.nsIn K mainGlobals "set"=some none)
  (z_repr:W.nsIn K mainGlobals "repr"=some none)
  (qT:W.nsIn K mainGlobals "THROWS"=some (some (.ref xcT)))
  (uT:K.lookup xcT=some ⟨.type "tuple",odT,.seq itsT nT,slT⟩)
  (vT:bF (dY.map V.str) itsT.toList)
  (qF:W.nsIn K mainGlobals "FREE"=some (some (.ref xcF)))
  (uF:K.lookup xcF=some ⟨.type "tuple",odF,.seq itsF nF,slF⟩)
  (vF:bF [V.ref xcG,V.ref xcH] itsF.toList)
  (uG:K.lookup xcG=some ⟨.type "tuple",odG,.seq itsG nG,slG⟩)
  (vG:bF [V.int 1,V.int 1] itsG.toList)
  (uH:K.lookup xcH=some ⟨.type "tuple",odH,.seq itsH nH,slH⟩)
  (vH:bF [V.int 0,V.int 1] itsH.toList)
  (qR:W.nsIn K mainGlobals "RULES"=some (some (.ref xcR)))
  (uR:K.lookup xcR=some ⟨.type "dict",none,.dict esR epR, #[]⟩)
  (sR:(xcR == sysModules)=false)
  (vR:Paired (aQ4 w) rulK esR.toList)
  (qS:W.nsIn K mainGlobals "Sheet"=some (some (.ref cS)))
  (S1:W.plainGet K cS Str.empty=true)
  (S2:W.hasDictIn K cS=true)
  (S3:W.plainOver K cS=true)
  (S4:W.findIn K (.ref cS) "__setattr__"=some (some (.builtin "object.__setattr__")))
  (S5:W.findIn K (.ref cS) "program"=some none)
  (S6:W.findIn K (.ref cS) "kind"=some none)
  (S7:W.findIn K (.ref cS) "names"=some none)
  (S8:W.findIn K (.ref cS) "shown"=some none)
  (M1:W.makesIn K cS=true)
  (M2:W.findIn K (.ref cS) "__init__"=some (some (.ref iI)))
  (M3:W.isFn K (.ref iI)=true)
  (M4:W.keepIn K (.ref cS)=true)
  (dI:DefAt K "__init__" "Sheet.__init__" cJ8 iI) :
  ∃ fd:FuncData,(∀ (s:Shared) (v:Value),BindsTo s fd ⟨[v],[]⟩ [("_law_script",v)])/\∀ base:Heap,K.In base->base.Ns mainGlobals mg->mM l.prog w K mg base CX0 19 fa fd ["_law_script"] (aL2 K):=by
 obtain ⟨_,la,oc,od,kV,dc,pm,an,cd,ct,sl,lk,lc,lp⟩:=t74
 cases hfa.symm.trans (W.mg_of X G la)
 refine ⟨W.fnOf "law" "law" (cU bB2) (cJ bB2) (bH bB2) .none kV dc pm an cd ct,fun s v=> .of_eq rfl,fun base _ _=>?_⟩;have Z:Zx l.prog w K mg base:= .of X G;have y_reversed:=Z.no _ z_reversed;have y_isinstance:=Z.no _ z_isinstance;have y_str:=Z.no _ z_str;have y_len:=Z.no _ z_len;have y_list:=Z.no _ z_list;have y_range:=Z.no _ z_range;have y_zip:=Z.no _ z_zip;have y_tuple:=Z.no _ z_tuple;have y_sorted:=Z.no _ z_sorted;have y_max:=Z.no _ z_max;have y_min:=Z.no _ z_min;have y_all:=Z.no _ z_all;have y_enumerate:=Z.no _ z_enumerate;have y_int:=Z.no _ z_int;have y_set:=Z.no _ z_set;have y_repr:=Z.no _ z_repr;have mT:=Z.ns _ _ qT;have mF:=Z.ns _ _ qF;have mR:=Z.ns _ _ qR;have mS:=Z.ns _ _ qS;have zT:itsT.size<=sizeLine:=by
  have e:=vT.length;have e2:itsT.size=4:=by rw [<- db];simpa [dY] using e.symm
  rw [e2]
  decide
 have zz:∀ {vs:List V}{its:Array Value},bF vs its.toList->vs.length<=2->its.size<=sizeLine:=fun {vs its} v l=>by
  have e:=v.length;rw [<- db, <- e];exact cu l (by decide)
 have hF:∀ H,aO K H xcF [.ref xcG,.ref xcH]/\bJ K H xcG (1,1)/\bJ K H xcH (0,1):=fun H=>⟨.inr ⟨_,itsF,nF,uF,rfl,rfl,zz vF (by show 2<=2;decide),vF⟩,.inr ⟨_,itsG,nG,uG,rfl,rfl,zz vG (by show 2<=2;decide),vG⟩,.inr ⟨_,itsH,nH,uH,rfl,rfl,zz vH (by show 2<=2;decide),vH⟩⟩
 have hT:∀ H,aO K H xcT (dY.map V.str):=fun H=> .inr ⟨_,itsT,nT,uT,rfl,rfl,zT,vT⟩
 have hR:xI l.prog w K xcR rulK:=xI.mk uR sR vR (by decide +kernel);have T:ShT K cS:=⟨⟨S1,S2,S3,S4⟩,S5,S6,S7,S8⟩
 have M:Mk K cS iI:=⟨M1,M2,M3,M4⟩
 have C1:=Z.c1 t1 (bO0);have C2:=Z.c1 t2 (bU3);have C3:=Z.c1 t3 (bT0 C2 C1);have C4:=Z.c1 t4 (bQ9);have C5:=Z.c1 t5 (bS5 C4);have C6:=Z.c1 t6 (bO4 mT hT);have C7:=Z.c1 t7 (bX1 C5);have C8:=Z.c1 t8 (bN3);have C9:=Z.c1 t9 (bM9 C8);have C10:=Z.c1 t10 (bX7 C8 C9 y_reversed);have C11:=Z.c1 t11 (bM8 y_isinstance y_str y_len);have C12:=Z.c1 t12 (bS0 C11 y_list);have C13:=Z.c2 t13 (bN4 C12 y_range y_len);have C14:=Z.c1 t14 (bY3 C13 C12 y_list y_reversed y_zip);have C15:=Z.c2 t15 (bN1);have C16:=Z.c2 t16 (bW7 C15);have C17:=Z.c2 t17 (bR4 C16);have C18:=Z.c2 t18 (bQ6 C16);have C19:=Z.c2 t19 (aQ9 C16);have C20:=Z.c2 t20 (bV1 y_range);have C21:=Z.c2 t21 (bO1);have C22:=Z.c1 t22 (bU4 C10);have C23:=Z.c1 t23 (bV6 C7);have C24:=Z.c1 t24 (bM4 C22 C23 C7 y_tuple y_sorted);have C25:=Z.c2 t25 (bN9 C6);have C26:=Z.c2 t26 (bT8 C18 C20);have C27:=Z.c2 t27 (bG8 C19 C26);have C28:=Z.c2 t28 (bW5 C20);have C29:=Z.c2 t29 (bN2 mF hF C18 C28 C16 C27 C3 y_max y_min)
 have C30:=Z.c2 t30 (bT5 mT hT mF hF C29);have C31:=Z.c1 t31 (bP3 mF hF C18 C17);have C32:=Z.c1 t32 (bP0 C21);have C33:=Z.c1 t33 (bW4 C32);have C34:=Z.c2 t34 (bR9 mF hF C20 C11 C31 C33 C18);have C35:=Z.c2 t35 (bW6 mT hT mF hF C24 C14 C11 C25 C30 C34 C12 C13);have C36:=Z.c2 t36 (bU7 C35);have C37:=Z.c2 t37 (bV5 C12 y_len);have C38:=Z.c1 t38 (bV2 mR hR C11);have C39:=Z.c2 t39 (bW0 C11 C25);obtain ⟨_,FI⟩:=dI.fn;have GI:=bV9 T C24 FI;have bI:=FI.b3 (p1:="self") (p2:="program") (p3:="kind") fun _ _ _ _ _ _ _ _ _=>rfl
 have C41:=Z.c3 t41 (bS9 mT hT mF hF mR hR T C37 C13 C34 C38 C30 C39 y_all);have C42:=Z.c2 t42 (bU1 T C41 C21);have C43:=Z.c3 t43 (bM0 T M GI bI mS C42 y_enumerate y_len);have C44:=Z.c2 t44 (bM5 mT hT mF hF mR hR C24 C35 C14 C39 C38 y_tuple);have C45:=Z.c2 t45 fun F=>bF1 F y_max y_reversed y_list
 have C46:=Z.c2 t46 fun F=>bC6 F y_len
 have C47:=Z.c2 t47 (bP6 C46 y_range);have C48:=Z.c2 t48 (bY9 C46 y_int);have C49:=Z.c2 t49 (bY8 C46 y_tuple y_range);have C50:=Z.c3 t50 (bN7 C46 C48 C49 y_tuple y_range);have R51:∀ n,Cl l.prog w K mg base (n+1) (bA8 n) "_law_term":=fun n=>by
  induction n with
  | zero=>exact Z.c3 (p1:="_law_deal_here") (p2:="_law_known") (p3:="_law_room") t51 okn
  | succ n ih=>exact Z.c3 t51 (bY0 n ih C46 y_len)
 have C51:=R51 7;have W0:=Z.c5 t52 (wO 0 C46 C51 (Z.c6 (p1:="_law_deal_here") (p2:="_law_world") (p3:="_law_known") (p4:="_law_deep") (p5:="_law_tells") (p6:="_law_often") t53 okn) C50 y_int y_len);have B0:=Z.c6 t53 (xC 0 C46 W0 C51 y_range y_tuple);have W1:=Z.c5 t52 (wO 1 C46 C51 B0 C50 y_int y_len);have B1:=Z.c6 t53 (xC 1 C46 W1 C51 y_range y_tuple);have W2:=Z.c5 t52 (wO 2 C46 C51 B1 C50 y_int y_len);have B2:=Z.c6 t53 (xC 2 C46 W2 C51 y_range y_tuple);have W3:=Z.c5 t52 (wO 3 C46 C51 B2 C50 y_int y_len);have B3:=Z.c6 t53 (xC 3 C46 W3 C51 y_range y_tuple);have C53:=B3;have C54:=Z.c4 t54 (bO7 C47 C50 C53 C46 y_tuple);have C55:=Z.c2 t55 (bY5 y_range);have C56:=Z.c2 t56 (bM3);have C57:=Z.c2 t57 (bP2 C56);have R58:∀ n,Cl l.prog w K mg base (n+1) (aK6 n) "_law_listed":=fun n=>by
  induction n with
  | zero=>exact Z.c1 (p1:="_law_rows_here") t58 okn
  | succ n ih=>exact Z.c1 t58 (bQ1 n ih)
 have C58:=R58 4;have R59:∀ n,Cl l.prog w K mg base (n+1) (aH5 n) "_law_names_in":=fun n=>by
  induction n with
  | zero=>exact Z.c1 (p1:="_law_term_here") t59 okn
  | succ n ih=>exact Z.c1 t59 (bM2 n ih)
 have C59:=R59 7;have C60:=Z.c1 t60 (bS7 C58 C59 y_range y_sorted y_len y_set);have C61:=Z.c2 t61 (bW9);have R62:∀ n,Cl l.prog w K mg base (n+1) (aG4 n) "_law_tail":=fun n=>by
  induction n with
  | zero=>exact Z.c2 (p1:="_law_steep_here") (p2:="_law_k") t62 okn
  | succ n ih=>exact Z.c2 t62 (bQ5 n ih C55)
 have C62:=R62 2;have C63:=Z.c2 t63 (bY4 C62 C55 C57 y_max y_min);have C64:=Z.c2 t64 (bO6 C57);have C65:=Z.c2 t65 (bW2 C57);have C66:=Z.c2 t66 (bN8);have C67:=Z.c2 t67 (bP9 C66 y_int);have C68:=Z.c4 t68 (bS6 C63 C64 C65 C67);have C69:=Z.c2 t69 (bN6 C61 y_isinstance y_tuple y_int y_len);have C70:=Z.c1 t70 (bX6 y_isinstance y_tuple y_list y_int y_len);have R71:∀ n,Cl l.prog w K mg base (n+7) (aJ4 K n) "_law_lines":=fun n=>by
  induction n with
  | zero=>exact Z.c4 (p1:="_law_part") (p2:="_law_place") (p3:="_law_names_here") (p4:="_law_kind") t71 okn
  | succ n ih=>exact Z.c4 t71 (bN0 n C70 C69 C68 ih y_range y_len)
 have C71:=R71 8;have C72:=Z.c2 t72 (bO8 C70 y_len);have C73:=Z.c2 t73 (bY7 C46 y_list y_len);exact bS4 C45 C54 C46 C71 C73 C60 C37 C72 C44 C36 C43 y_range y_len y_repr y_tuple (aQ6 lk lc lp)
theorem walk {l:W.OpenLaw}{q:Program}{loose:List Str}{XP:(Str->Option Value)->Heap->Prop}{YP:World->Heap->Prop}{d:DefRec}{K:Params->W.Frag}(hn:l.most=some 63) (hdf:d.params.defaults=[])
  (hY:∀ (w:World) (h:Heap),YP w h->(K w.params).In h)
  (F:∀ (w:World) (mg:Str->Option Value) (fa:Addr) (h:Heap),(K w.params).In h->h.Ns mainGlobals mg->mg d.name=some (.ref fa) ->
   ∃ fd:FuncData,(∀ (s:Shared) (u:Value),BindsTo s fd ⟨[u],[]⟩ [("_law_script",u)])/\∀ base:Heap,(K w.params).In base->base.Ns mainGlobals mg->mM l.prog w (K w.params) mg base CX0 19 fa fd ["_law_script"] (aL2 (K w.params))) :
  W.WalkO q loose XP YP l.row.toRowW d [] (fun f vs=>PySem.call f vs) :=
 L2.walk_of (n:=63) (k:=19) (x:="_law_script") (CX:=fun _=>CX0) (sp:=fun w=>aL2 (K w.params)) hn (by decide) hdf ⟨rfl,by decide,by decide,rfl⟩ hY F (fun _ _ a ns hl _ hS=>⟨a,ns,rfl,hS,hl,fun _=>rfl⟩) fun _ _ _ _ _ z=>z
end Mine
open PySem PySem.W PyProof.Rows
namespace PySem.W.Fast
def tw10020923399084998626:=0
def tw10022541585207136203:=0
def tw10095877070880142862:=0
def tw10199810868406024167:=0
def tw10205196328663132329:=0
def tw10232165098237151792:=0
def tw10245773523754373147:=0
def tw1026554271047776711:=0
def tw103435668613990364:=0
def tw10351197571140884623:=0
def tw10396348993369968330:=0
def tw1042809602716707897:=0
def tw10441889121196161176:=0
def tw10470802624774684824:=0
def tw10475226765624445022:=0
def tw1053034578576554673:=0
def tw10594777533110344220:=0
def tw10619938757373176810:=0
def tw10664165227667721976:=0
def tw10680015671208887993:=0
def tw10703558591104689567:=0
def tw1071752188180385478:=0
def tw10749679968397486944:=0
def tw10755798112241627539:=0
def tw10774129274617341916:=0
def tw10785723926891902304:=0
def tw10813726206582146343:=0
def tw10897026897617267144:=0
def tw11003635408232556838:=0
def tw11013275193693746504:=0
def tw11052794627619806297:=0
def tw11062877054525896608:=0
def tw11065294064367657663:=0
def tw11169244439346855418:=0
def tw11195867192069422033:=0
def tw11207036434040355770:=0
def tw11216788609398007474:=0
def tw11317949345631818882:=0
def tw11327031483946615255:=0
def tw11344043942327813628:=0
def tw11370183210478558245:=0
def tw11393143424668229270:=0
def tw11446881368925981567:=0
def tw11535690179988102527:=0
def tw11537616340423550045:=0
def tw11543251925529312252:=0
def tw11578883766926676456:=0
def tw11664907565275935030:=0
def tw11671945943789377735:=0
def tw11687496839606640669:=0
def tw1170870620888304350:=0
def tw11717387093821666141:=0
def tw11727449095176495375:=0
def tw11735915798350785303:=0
def tw11775923751324530048:=0
def tw11795463465925974508:=0
def tw11804061036392913303:=0
def tw11840294189290447069:=0
def tw11841121150036104843:=0
def tw11846420437034869798:=0
def tw11871959014135715814:=0
def tw11910739777467884411:=0
def tw11935153299416205115:=0
def tw11944684762706323294:=0
def tw11968900569005163869:=0
def tw11974489316166433293:=0
def tw12038879192367160793:=0
def tw12066891612674781373:=0
def tw12073269921772327440:=0
def tw12117619252110576331:=0
def tw12187160525293666047:=0
def tw12224949843106726713:=0
def tw12238054754528749783:=0
def tw12245998757464052758:=0
def tw12259023272155565233:=0
def tw12290475863295244654:=0
def tw12433998724692323828:=0
def tw12485056334639346006:=0
def tw12501243166333787152:=0
def tw12513899115467177644:=0
def tw12540070087979391202:=0
def tw12574871819975375479:=0
def tw12600808257995638729:=0
def tw12643132227424545262:=0
def tw12692257725655093235:=0
def tw12700861774501084378:=0
def tw12720785250202994785:=0
def tw12725282818847794009:=0
def tw12759586725578427484:=0
def tw12779157300946178203:=0
def tw12816468160521281760:=0
def tw12830208182262158919:=0
def tw12943143704525882534:=0
def tw12976378522333127553:=0
def tw12985895309980514866:=0
def tw13003498064999456600:=0
def tw1307109993573351183:=0
def tw13129790677552033016:=0
def tw131512545675897011:=0
def tw13184802980874511084:=0
def tw13203404530659653687:=0
def tw13242026737797806872:=0
def tw1324810243815959625:=0
def tw13256925942126286673:=0
def tw1327760813768813258:=0
def tw13334385909031920763:=0
def tw13355447781059874563:=0
def tw1336751376797741986:=0
def tw13381127180652059135:=0
def tw13433566432673089271:=0
def tw13433934470689418710:=0
def tw13451250331395701147:=0
def tw13517051242213094746:=0
def tw13522151118451148805:=0
def tw13595204985528289335:=0
def tw13598896984064376249:=0
def tw13606486925890902629:=0
def tw13615096550058698133:=0
def tw13622457781089388314:=0
def tw13695017940530423338:=0
def tw1375241674378024810:=0
def tw1377187030082525830:=0
def tw13777760966482707932:=0
def tw13843615913799826921:=0
def tw1385122004966979104:=0
def tw13856229703867745410:=0
def tw13911007894192035181:=0
def tw13983755558672595341:=0
def tw140401345978408452:=0
def tw14076536081471507022:=0
def tw1412127197124016456:=0
def tw14167124206132953309:=0
def tw14215497107257066526:=0
def tw14232930832164921352:=0
def tw14234762296981337080:=0
def tw14263437762932046010:=0
def tw14284779390483224288:=0
def tw14305878240690173439:=0
def tw14406456810391516963:=0
def tw14478106119513658639:=0
def tw14541490404647200448:=0
def tw14555118084165988347:=0
def tw14569669345070260286:=0
def tw14578582801788859219:=0
def tw14670851362634532076:=0
def tw14685675081061393557:=0
def tw1481812927691432943:=0
def tw14869338151607867062:=0
def tw14875738666086752216:=0
def tw1488167383154737533:=0
def tw1489022932834736490:=0
def tw14895134324243898125:=0
def tw14908920459181568572:=0
def tw14927621781314788288:=0
def tw14930792755331210296:=0
def tw1493638123934016441:=0
def tw14939058981776402629:=0
def tw15029797175569525070:=0
def tw15093177943078092698:=0
def tw15097133899206256276:=0
def tw15113889284257521614:=0
def tw15146424850934983069:=0
def tw15158659783840326259:=0
def tw15207992990147987508:=0
def tw15256140061791894146:=0
def tw15292119847056127675:=0
def tw15379011935689763004:=0
def tw15397149329015123349:=0
def tw15398289721173512484:=0
def tw15424862866096345195:=0
def tw15484589838515233880:=0
def tw15501400779247952649:=0
def tw15516418877319124264:=0
def tw15522977309942787047:=0
def tw15526974697322016316:=0
def tw15539121573636265611:=0
def tw15540788746191680018:=0
def tw15570846633693473558:=0
def tw15590187862258929069:=0
def tw15661098161564537552:=0
def tw15704045803768833953:=0
def tw1571576291434809680:=0
def tw15789204727848425271:=0
def tw15791366709617280001:=0
def tw15887271107590408958:=0
def tw15900582490946464279:=0
def tw15905827653282863866:=0
def tw15934131284297871986:=0
def tw15936468972117572203:=0
def tw15937172603662659563:=0
def tw15969516807628503875:=0
def tw16008292032693628973:=0
def tw16120392265195803548:=0
def tw16133134245443310488:=0
def tw16156985294915002551:=0
def tw16171076579751046476:=0
def tw16172768621578100336:=0
def tw16185774419283505109:=0
def tw16269494566550780413:=0
def tw16469991774812233541:=0
def tw16517445382840637833:=0
def tw16518587033684947145:=0
def tw16543919712277713807:=0
def tw16575844081131402945:=0
def tw16601365638297403368:=0
def tw16613008901508928998:=0
def tw16618309868575157586:=0
def tw16638706237237401937:=0
def tw16639239028493090631:=0
def tw16653355250902625873:=0
def tw16669834637073267276:=0
def tw16671889632698155617:=0
def tw1667280417966160333:=0
def tw1668545446122242781:=0
def tw16717242691010168074:=0
def tw16737305856704432635:=0
def tw16772868929172297594:=0
def tw16849706014457569793:=0
def tw16898258030583371485:=0
def tw16917612308089451566:=0
def tw16953007461200736838:=0
def tw1696022091443181526:=0
def tw16970088017709681905:=0
def tw1699094766062623135:=0
def tw17042643257312042987:=0
def tw17078298007890962182:=0
def tw17097940462182249335:=0
def tw17112657286199784417:=0
def tw17172485244601406477:=0
def tw1719023574676304596:=0
def tw1720007225937187840:=0
def tw17238621645765664049:=0
def tw17240633227172744668:=0
def tw17353327359180560366:=0
def tw17376575253180499752:=0
def tw17388407888335147256:=0
def tw17478117342384823581:=0
def tw17540010404232982760:=0
def tw1756594880470948201:=0
def tw1757482896377174952:=0
def tw17652552128821924879:=0
def tw17673478692991270799:=0
def tw17690061893886522950:=0
def tw17790686778209431667:=0
def tw17812041927852657987:=0
def tw17823860503129275601:=0
def tw17838250585106207289:=0
def tw17880996759546488355:=0
def tw17885519415082145942:=0
def tw17887720885404747243:=0
def tw17905792592970949999:=0
def tw17946518886956507746:=0
def tw18014217325969457453:=0
def tw18066822529503164027:=0
def tw18113739400553888275:=0
def tw18169054985987725465:=0
def tw18178170002611204669:=0
def tw18213833789729445649:=0
def tw18217034789272666385:=0
def tw18239082563803303997:=0
def tw18249838387046721992:=0
def tw18322324306889379059:=0
def tw18392797329992191026:=0
def tw1840143693838961370:=0
def tw18431019730005830797:=0
def tw1926218645471411093:=0
def tw1952055847074794354:=0
def tw196034239541982608:=0
def tw1991169864638832647:=0
def tw1995656787601023732:=0
def tw1996013696148593925:=0
def tw200533284831186564:=0
def tw2013280953656611344:=0
def tw2069784299091966183:=0
def tw2070960701333504409:=0
def tw2118867622767050042:=0
def tw213336909672092584:=0
def tw2202369977617605424:=0
def tw2219264491704534339:=0
def tw223475658954637508:=0
def tw2243510280871230763:=0
def tw224587336325560385:=0
def tw2272862940145278034:=0
def tw2324926686579465726:=0
def tw2346905205507907780:=0
def tw23823542131297734:=0
def tw2492150778989312544:=0
def tw2499583035739629250:=0
def tw2507868793887762874:=0
def tw2664191617746118397:=0
def tw2701751021467926373:=0
def tw2742478270402856926:=0
def tw2839295694853272039:=0
def tw2843543798796426162:=0
def tw2968020237986828669:=0
def tw2994837904235191849:=0
def tw3005824260960834149:=0
def tw3033518537717168062:=0
def tw3050622929102038684:=0
def tw3061473003994039311:=0
def tw3070230176614155672:=0
def tw3082339752970852885:=0
def tw3082927959769605055:=0
def tw311363333137799081:=0
def tw3215374114481570955:=0
def tw3245075876533606102:=0
def tw3304551333886146548:=0
def tw3378503204191795039:=0
def tw3395688150112074369:=0
def tw3397133628426889142:=0
def tw3522940845646243168:=0
def tw3655874878263697080:=0
def tw368280537965810560:=0
def tw3707910604585853954:=0
def tw3716008846371805116:=0
def tw3727315220297098321:=0
def tw3750252129619306825:=0
def tw3814933412455813276:=0
def tw3819244135824764181:=0
def tw3838048029260927341:=0
def tw3843103943360337219:=0
def tw3902849341225241361:=0
def tw39753763538647463:=0
def tw3999074758491329645:=0
def tw4040895290564504604:=0
def tw4050941659584222576:=0
def tw4167422494054821957:=0
def tw4209935977670025555:=0
def tw4216830775392586783:=0
def tw422457098204997066:=0
def tw4258423655340881329:=0
def tw4259785176532556072:=0
def tw4278440399310963793:=0
def tw4287835734672486294:=0
def tw4309901466436380532:=0
def tw4330960653814374654:=0
def tw4344724039905844668:=0
def tw4429310738412652037:=0
def tw4503686738977822747:=0
def tw4548027458909819409:=0
def tw4561596317350238808:=0
def tw4663554414081051884:=0
def tw4672911279076560702:=0
def tw4734109607753656768:=0
def tw4767064610731352051:=0
def tw4772444549587955450:=0
def tw4798805571225581069:=0
def tw4890836371319193789:=0
def tw4961079842288556288:=0
def tw4993844725657322753:=0
def tw5042359987141696459:=0
def tw5075754718204569072:=0
def tw5080726526172010505:=0
def tw50842690552007925:=0
def tw5118795642805365073:=0
def tw5126930586593726120:=0
def tw5153919313498378097:=0
def tw5199334187567733247:=0
def tw5219092824746229270:=0
def tw5302404772197110482:=0
def tw5537544997689239383:=0
def tw5610736876771044360:=0
def tw5625027107226352144:=0
def tw5631311796532525011:=0
def tw5640178706959141902:=0
def tw5648198542527279418:=0
def tw567751022610645794:=0
def tw5723613480213870585:=0
def tw5765999764019517652:=0
def tw5788871295521237335:=0
def tw586851141853746009:=0
def tw5888029053132308099:=0
def tw5917067578751274198:=0
def tw6107395247845545631:=0
def tw6163817238590355124:=0
def tw6191686524535399770:=0
def tw634644777489112750:=0
def tw6471257639252542523:=0
def tw6534508877180335048:=0
def tw6563315380576774927:=0
def tw6568142570402374399:=0
def tw658319285768845077:=0
def tw6636161352696292579:=0
def tw6700081055065842305:=0
def tw6722454553836577243:=0
def tw6763882282229304142:=0
def tw6779199936698683841:=0
def tw6792849596440672719:=0
def tw6816304690259890807:=0
def tw6819603020907608264:=0
def tw6829548960467967951:=0
def tw6835657382146459099:=0
def tw6869041039493059735:=0
def tw6872781362811504712:=0
def tw6904041774239779245:=0
def tw6921495428675951641:=0
def tw6989125946855504816:=0
def tw7008863103514361196:=0
def tw7015961062975980961:=0
def tw7036718116574805853:=0
def tw7145894313975121337:=0
def tw7223781351975542512:=0
def tw7255979385034619339:=0
def tw7258118426835942564:=0
def tw7270745768892247731:=0
def tw7310427679808457022:=0
def tw731100040153828360:=0
def tw7311241484005970165:=0
def tw7315463505327859440:=0
def tw7317197505115279899:=0
def tw7339168808377318574:=0
def tw7384986372340547408:=0
def tw7414008174150139929:=0
def tw7435598371182730864:=0
def tw7481617896627118812:=0
def tw7537724909517144976:=0
def tw7600139687929231331:=0
def tw7612326633430490688:=0
def tw7628700546100862620:=0
def tw7631043343139595558:=0
def tw7665287648359129035:=0
def tw7696078472235348187:=0
def tw7724396097033649749:=0
def tw77588667553183300:=0
def tw7798722141588839255:=0
def tw7800455866634199534:=0
def tw7848936782642977641:=0
def tw7918073106347199318:=0
def tw794097846111695984:=0
def tw7993667702720546745:=0
def tw8013381084011312918:=0
def tw8043856270319501654:=0
def tw812050607671437923:=0
def tw8129450285877072014:=0
def tw8134930430258122909:=0
def tw8151325640689802825:=0
def tw8197186303533992170:=0
def tw8214226374994747514:=0
def tw8252347235362313004:=0
def tw8308195056965807174:=0
def tw8314618113345809277:=0
def tw8444908327173617326:=0
def tw8460552576457250087:=0
def tw8565418156436324380:=0
def tw8616174110134312606:=0
def tw8630521124279529634:=0
def tw8682982665824899541:=0
def tw8684964279562164078:=0
def tw86946808162262730:=0
def tw8702499204949654109:=0
def tw870996758246931292:=0
def tw8780482037616433903:=0
def tw8794488379984672744:=0
def tw8801444742944827206:=0
def tw8810671873418606613:=0
def tw8823246044460920969:=0
def tw883929603521137898:=0
def tw8844735419183345320:=0
def tw8864540225561401779:=0
def tw892956397039770319:=0
def tw8941450860869884821:=0
def tw8954581504025063749:=0
def tw8983797735948066007:=0
def tw9082956121912460813:=0
def tw9106561429430410169:=0
def tw9108456067529914080:=0
def tw9109466748296897071:=0
def tw9122412074889828429:=0
def tw9134690646300737579:=0
def tw9164077339977626675:=0
def tw9184067519968605492:=0
def tw9186845048252423478:=0
def tw9198864129747327391:=0
def tw9256054342278262849:=0
def tw9272926057719298140:=0
def tw9305778275449243272:=0
def tw9317480765333499128:=0
def tw9357498657907439628:=0
def tw9358338709436945496:=0
def tw9368089718264819016:=0
def tw9548307122580608893:=0
def tw9571681301043182339:=0
def tw9574008526285931983:=0
def tw9654487409310444888:=0
def tw9684983149753351624:=0
def tw9687991043434271078:=0
def tw9809548119549501514:=0
def tw9827432098575935750:=0
def tw9860792491036754496:=0
def tw9864937032256239032:=0
def tw9902790349808959030:=0
def tw9913864385135201599:=0
def tw9926844175628238253:=0
def tw9937605950546687139:=0
end PySem.W.Fast
set_option maxRecDepth 100000 in
set_option maxHeartbeats 0 in
theorem PySem.Challenge.cw_pairedthrows_k38_papers_written_holds : PySem.Challenge.rw_pairedthrows_k38_papers_written.Holds := by
  w_on;o_law;k_head;(case hw=>w_witness2)
  k_fill
  refine Mine.walk (l:=PySem.Challenge.rw_pairedthrows_k38_papers_written) rfl rfl (fun w h Y=>PySem.W.kIn_of Y) ?F
  case F =>
    intro w mg fa h KX G hmg
    refine' Mine.all_mk KX G hmg ?a0 ?a1 ?a2 ?a3 ?a4 ?a5 ?a6 ?a7 ?a8 ?a9 ?a10 ?a11 ?a12 ?a13 ?a14 ?a15 ?a16 ?a17 ?a18 ?a19 ?a20 ?a21 ?a22 ?a23 ?a24 ?a25 ?a26 ?a27 ?a28 ?a29 ?a30 ?a31 ?a32 ?a33 ?a34 ?a35 ?a36 ?a37 ?a38 ?a39 ?a40 ?a41 ?a42 ?a43 ?a44 ?a45 ?a46 ?a47 ?a48 ?a49 ?a50 ?a51 ?a52 ?a53 ?a54 ?a55 ?a56 ?a57 ?a58 ?a59 ?a60 ?a61 ?a62 ?a63 ?a64 ?a65 ?a66 ?a67 ?a68 ?a69 ?a70 ?a71 ?a72 ?a73 ?a74 ?a75 ?a76 ?a77 ?a78 ?a79 ?a80 ?a81 ?a82 ?a83 ?a84 ?a85 ?a86 ?a87 ?a88 ?a89 ?a90 ?a91 ?a92 ?a93 ?a94 ?a95 ?a96 ?a97 ?a98 ?a99 ?a100 ?a101 ?a102 ?a103 ?a104 ?a105 ?a106 ?a107 ?a108 ?a109 ?a110 ?a111 ?a112 ?a113 ?a114 ?a115 ?a116
    case a73|a74|a75|a76|a77|a78|a79|a80|a81|a82|a83|a84|a85|a86|a87|a88|a89|a90=>k_is
    case a91=>exact .cons ⟨_,rfl⟩ (.cons ⟨_,rfl⟩ (.cons ⟨_,rfl⟩ (.cons ⟨_,rfl⟩ .nil)))
    case a92|a93=>k_is
    case a94=>exact .cons rfl (.cons rfl .nil)
    case a95=>k_is
    case a96=>exact .cons ⟨_,rfl⟩ (.cons ⟨_,rfl⟩ .nil)
    case a97=>k_is
    case a98=>exact .cons ⟨_,rfl⟩ (.cons ⟨_,rfl⟩ .nil)
    case a99|a100=>k_is
    case a101=>rfl
    case a102=>exact .cons ⟨rfl,rfl,⟨_,rfl⟩⟩ (.cons ⟨rfl,rfl,⟨_,rfl⟩⟩ (.cons ⟨rfl,rfl,⟨_,rfl⟩⟩ (.cons ⟨rfl,rfl,⟨_,rfl⟩⟩ .nil)))
    case a103|a104|a105|a106|a107|a108|a109|a110|a111|a112|a113|a114|a115=>k_is
    case a116=>apply L2.DefAt.of<;>k_is
    case a0|a1|a2|a3|a4|a5|a6|a7|a8|a9|a10|a11|a12|a13|a14|a15|a16|a17|a18|a19|a20|a21|a22|a23|a24|a25|a26|a27|a28|a29|a30|a31|a32|a33|a34|a35|a36|a37|a38|a39|a40|a41|a42|a43|a44|a45|a46|a47|a48|a49|a50|a51|a52|a53|a54|a55|a56|a57|a58|a59|a60|a61|a62|a63|a64|a65|a66|a67|a68|a69|a70|a71|a72=>apply L2.TopAt.of<;>k_is
