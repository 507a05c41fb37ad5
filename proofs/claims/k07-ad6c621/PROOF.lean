import PyProof.Rows.All
import Wide.All
import OpenK.AllK
import Wide.FinOn
import Lean
import PyProof.EqAt
import PyProof.EqKinds
import PyProof.TupleCall
import PySem.Str
import PyProof.ListMulRoad
import KE.KDictLaws
import PyProof.IsiH_list
import PyProof.IsiH_tuple
import PyProof.CodeObj
import PyProof.DictItems
import PyProof.WalksMore
import KE.KDictOf
import PyProof.ZipIter
import PyProof.EnumMake
import PyProof.SetScanFacts
import PyProof.SetKind
import PyProof.DictFindH
import PyProof.IsRules
import PyProof.Rows.SetFrom
import PyProof.SetRoads
import PyProof.CollectWalk
import PyProof.FactsAll.tuple_iterator
import PyProof.Rows.SortShell
import KE.KSortAsk
import KE.KSortTup
import PyProof.Rows.SortRuns
import PyProof.Rows.StrSplitMax
import PyProof.Rows.SortStr
import KE.KItemsList
import PyProof.DictWalks
import PyProof.FString5
import KE.KDictSum
import PyProof.DictRoadsH
import PyProof.Rows.TupTab
import KE.KDictList
import PyProof.StationsW
import PyProof.ExcClass3
import PyProof.NsDelKeeps
import KE.KIsAll
import PyProof.ExcArgsOwn
import PyProof.ExcAttrAll.ValueError
import OpenK.KOwn
import PyProof.CallStr
import PyProof.DictTruth
import PyProof.FactsAll.zip_1
import KE.KMinBuiltin
import KE.KRevIter
import PySem.Challenge.RW_rulehall_k07_ways
set_option genSizeOf false
set_option compiler.extract_closed false
set_option bootstrap.genMatcherCode false
local macro_rules|`(tactic|show $t)=>`(tactic|refine $t)
local macro_rules|`(-$x)=>`(some $x)
local macro_rules|`(())=>`(rfl)
local macro_rules|`("l")=>`(by lia)
local macro_rules|`("d")=>`(by decide)
local macro_rules|`("s")=>`(by simp)
local macro_rules|`("e")=>`(by simp_all)
local macro_rules|`("g")=>`(by grind)
local macro_rules|`("o")=>`(by omega)
local macro_rules|`("k")=>`(by decide +kernel)
def cV:Nat->Lean.Syntax->Lean.MacroM (Lean.TSyntax `rcasesPat)
|0,_=>`(rcasesPat|_)
|n+1,s=>match s with
|`(⟨$a,*⟩)=>do let b<-a.getElems.mapM (cV n ·.raw);`(rcasesPat|⟨$[$b:rcasesPat],*⟩)
|`($i:ident)=>`(rcasesPat|$i:ident)
|_=>`(rcasesPat|_)
local macro_rules|`(tactic|let $p:term:=$e)=>do let q<-cV 9 p;`(tactic|obtain $q:rcasesPat:=$e)|`(tactic|let $d:letDecl)=>`(tactic|have $d:letDecl)
local macro_rules|`(tactic|ext)=>`(tactic|simp_all)
set_option maxHeartbeats 0
abbrev Kh:=PySem.Value->PySem.Shared->Prop
abbrev Kg:=List (PySem.Addr×PySem.Obj)
abbrev Q0:=@PySem.wpAny_bind
abbrev Q1:=@PySem.Heap.get?_push_of_some
abbrev Q2:=@PySem.wpAny_pure
abbrev Q3:=@List.getElem?_eq_some_iff
abbrev Q4:=@List.mem_map
abbrev Q5:=@Nat.le_refl
abbrev Q6:=@List.mem_of_getElem?
abbrev Q7:=@List.mem_cons_of_mem
abbrev Q8:=@List.mem_cons_self
abbrev Q9:=@PySem.Heap.get?_push_size
abbrev Qa:=@List.getElem?_eq_getElem
abbrev Qb:=@List.length_map
abbrev Qc:=@if_neg
abbrev Qd:=@List.getElem?_map
abbrev Qe:=@List.mem_cons
abbrev Qg:=@List.getElem?_set_ne
abbrev Qh:=@if_pos
abbrev Qi:=@List.getD_eq_getElem?_getD
abbrev Qj:=@PySem.Heap.lt_size
abbrev Qk:=@PyProof.Rows.wpS_bind
abbrev Ql:=@List.getElem?_set_self
abbrev Qn:=@PyProof.Rows.wpS_pure
abbrev Qo:=@Array.getElem?_toList
abbrev Qp:=@Nat.lt_of_lt_of_le
abbrev Qq:=@Nat.ne_of_lt
abbrev Qs:=@bind_congr
abbrev Qt:=@List.mem_append
abbrev Qu:=@List.mem_singleton
abbrev Qv:=@Bool.and_eq_true
abbrev Qw:=@List.map_cons
abbrev Qx:=@Nat.le_trans
abbrev Qy:=@List.size_toArray
abbrev Qz:=@List.length_cons
abbrev QA:=@True.intro
abbrev QB:=@Or.inr
abbrev QC:=@List.mem_append_right
abbrev QD:=@Bool.false_ne_true
abbrev QE:=@Bool.false_eq_true
abbrev QF:=@PySem.PassesOwn.never
abbrev QG:=@List.length_append
abbrev QH:=@List.append_assoc
abbrev QI:=@Or.inl
abbrev QJ:=@Nat.zero_le
abbrev QK:=@List.pairwise_append
abbrev QL:=@List.map_map
abbrev QN:=@List.getElem?_append_left
abbrev QP:=@List.mem_iff_getElem?
abbrev QR:=@PySem.sizeLine_eq
abbrev QS:=@List.mem_filter
abbrev QT:=@PySem.Heap.SameBut.update
abbrev QU:=@List.take_append_drop
abbrev QV:=@decide_eq_false
abbrev QW:=@List.append_nil
abbrev QX:=@List.idxOf_lt_length_of_mem
abbrev QY:=@List.take_length
abbrev QZ:=@Option.some.inj
abbrev J0:=@List.nodup_cons
abbrev J1:=@List.map_append
abbrev J3:=@List.foldl_cons
abbrev J4:=@List.getElem?_append_right
abbrev J6:=@PySem.wpAny_call_entry
abbrev Ja:=@PySem.wpAny_newObj_type
abbrev Jb:=@List.map_congr_left
abbrev Jc:=@Array.toList_append
abbrev Jd:=@Ne.symm
abbrev Je:=@PySem.wpAny_callSpecial?_slot
abbrev Jf:=@ite_congr
abbrev Jh:=@List.take_of_length_le
abbrev Ji:=@List.mem_of_mem_take
abbrev Jk:=@PySem.wpAny_setState_of
abbrev Jl:=@PySem.wpAny_seqItems
abbrev Jn:=@PySem.wpAny_mono
abbrev Jo:=@Array.length_toList
abbrev Jp:=@List.mem_range
abbrev Jr:=@List.take_add_one
abbrev Js:=@List.nodup_append
abbrev Jt:=@PySem.Heap.get?_update_self
abbrev Ju:=@Function.comp_def
abbrev Jv:=@List.getElem?_zip_eq_some
abbrev Jx:=@PySem.wpAny_field
abbrev Jz:=@PySem.wpAny_setField_rec
abbrev JC:=@List.zip_cons_cons
abbrev JD:=@List.nodup_nil
abbrev JE:=@List.mem_of_mem_drop
abbrev JF:=@List.mem_append_left
abbrev JG:=@Nat.lt_irrefl
abbrev JL:=@congrArg
abbrev JM:=@List.pairwise_iff_getElem
abbrev JN:=@PyProof.Rows.wpS_forRange
abbrev JO:=@beq_eq_false_iff_ne
abbrev JT:=@PySem.wpAny_holding
abbrev JU:=@if_false
abbrev JV:=@List.not_mem_nil
abbrev JX:=@PySem.codeAny_builtin
abbrev W3:=@List.ext_getElem?
abbrev W5:=@List.filterMap_cons
abbrev Wc:=@List.getElem?_eq_none
abbrev Wd:=@List.all_eq_true
abbrev Wg:=@Option.isSome_iff_exists
abbrev Wh:=@decide_eq_true
abbrev Wi:=@List.mem_iff_getElem
abbrev Wj:=@PySem.F.slot_dict_valueiterator_next
abbrev Wo:=@decide_eq_true_eq
abbrev Wp:=@List.length_range
abbrev Wq:=@Array.toList_push
abbrev Wr:=@PySem.F.slot_dict_setdefault
abbrev Ws:=@Bool.eq_iff_iff
abbrev Wy:=@PySem.mem_of_lookup
abbrev Wz:=@PySem.F.plain_min_loop
abbrev WA:=@PyProof.Rows.callWith_type1
abbrev WD:=@PySem.wpAny_rule
abbrev WE:=@Nat.lt_succ_self
abbrev WF:=@List.getElem_mem
abbrev WH:=@Nat.lt_of_le_of_lt
abbrev WI:=@List.pairwise_cons
abbrev WJ:=@Array.perm_iff_toList_perm
abbrev WM:=@List.length_singleton
abbrev WN:=@PySem.Calls.callWith_builtin
abbrev WU:=@Nat.pow_le_pow_right
abbrev WV:=@PySem.Heap.size_push
abbrev Z0:=@if_true
abbrev Z2:=@PySem.wpAny_truthy_bool
abbrev Z3:=@PySem.lookup_relabel_local
abbrev Z4:=@PySem.F.plainAttrs_dict
abbrev Z5:=@Nat.le_add_right
abbrev Z6:=@List.length_take
abbrev Z7:=@List.filter_cons
abbrev Z9:=@PySem.wpAny_attempt
abbrev Za:=@PySem.plainId_quiet
abbrev Ze:=@Nat.ne_of_gt
abbrev Zk:=@or_false
abbrev Zl:=@List.of_mem_zip
abbrev Zm:=@PySem.F.slot_dict_get
abbrev Zn:=@List.length_filter_le
abbrev Zx:=@PySem.wpAny_typeNameOfWhole_valiter
abbrev Zy:=@List.foldl_append
abbrev Zz:=@Int.toNat_natCast
abbrev ZA:=@PySem.Obj.data_mapFields
abbrev ZG:=@beq_iff_eq
abbrev ZH:=@List.getElem?_modify
abbrev Y2:=@Classical.byContradiction
abbrev Yb:=@PySem.F.slot_tuple_iterator_next
abbrev Yg:=@List.find?_cons
abbrev Yi:=@PySem.wpAny_isInstance
abbrev Yj:=@List.getElem_idxOf
abbrev Yk:=@PySem.F.called_set
abbrev Yu:=@PySem.F.plainAttrs_list
abbrev Yv:=@List.length_eq_zero_iff
abbrev Yw:=@List.getElem?_replicate
abbrev YJ:=@PySem.wpAny_typeNameOf_valiter
abbrev YK:=@Nat.lt_trichotomy
abbrev YL:=@List.pairwise_map
abbrev YM:=@List.lt_irrefl
abbrev YT:=@PyProof.Rows.wpS_mono
abbrev YU:=@PyProof.Rows.wpS_modify
abbrev YV:=@PySem.wpAny_specialOf
abbrev YW:=@PySem.wpAny_pyIter_tuple
abbrev YX:=@PySem.wpAny_Call_Name_kw
abbrev Uc:=@PySem.wpAny_letGo
abbrev Ud:=@List.mem_flatMap
abbrev Ue:=@List.lookup_cons
abbrev Ux:=@Bool.and_self
abbrev UB:=@PySem.wpAny_tryCatch
abbrev UC:=@PySem.call_meetsIn
abbrev UD:=@PySem.Heap.get?_update_other
abbrev UE:=@PySem.F.slot_tuple_hash
abbrev UG:=@PySem.F.type_dict_setdefault
abbrev UH:=@List.length_nil
abbrev Gg:=@Ordering.then_eq_eq
abbrev Gh:=@List.reverse_append
abbrev Gi:=@PySem.F.slot_enumerate_next
abbrev B9:=@List.perm_ext_iff_of_nodup
abbrev Ba:=@List.mem_filterMap
abbrev Bb:=@List.getElem?_take
abbrev Bc:=@List.filter_append
abbrev Be:=@PySem.Heap.get?_none_of_le
abbrev Bf:=@Array.forIn_toList
abbrev Bu:=@PySem.wpAny_updateSeq
abbrev Bv:=@PySem.wpAny_passesOwn
abbrev Bw:=@List.drop_eq_getElem_cons
abbrev O7:=@Nat.le_succ
abbrev O8:=@List.idxOf_append
abbrev O9:=@List.Pairwise.nil
abbrev Oa:=@PySem.codeAny_mono
abbrev Ob:=@List.filterMap_cons_some
abbrev Oc:=@List.any_cons
abbrev Od:=@Bool.not_true
abbrev Qa7:=@PySem.wpAny_setField
abbrev Qa8:=@PySem.F.args_dict_get_3
abbrev Qa9:=@Nat.add_sub_cancel_left
abbrev Qaa:=@List.mem_nil_iff
abbrev Qab:=@List.getElem_inj
abbrev Qaz:=@PySem.F.entry_min_loop
abbrev Qb0:=@PySem.F.entry_dict_get
abbrev Qb1:=@Option.map_eq_some_iff
abbrev Qb2:=@Array.toList_filterMap
abbrev Qcp:=@PySem.wpAny_pyIter_list
abbrev Qcq:=@PySem.wpAny_pyIter_enum
abbrev Qcr:=@PySem.wpAny_dictEntries
abbrev Qcs:=@PySem.wpAny_assign_Name
abbrev Qct:=@Nat.not_lt_zero
abbrev Qcu:=@List.zip_append
abbrev Qcv:=@List.forIn_cons
abbrev Qcw:=@PySem.wpAny_comprehension_free
abbrev Qcx:=@PySem.filterMap_getElem?_range
abbrev Qcy:=@List.perm_append_comm
abbrev Qem:=@PySem.wpAny_askSetting
abbrev Qen:=@PySem.wpAny_Call_method0_late
abbrev Qeo:=@List.map_eq_cons_iff
abbrev Qgu:=@PySem.evalArgs_none
abbrev Qgv:=@PyProof.Rows.F.entry_set_update_loop
abbrev Qgw:=@List.length_pos_iff
abbrev Qjo:=@PySem.SeqAt.EqAt.same
abbrev Qjp:=@List.lt_trans
abbrev Qjq:=@PySem.F.slot_zip_next
abbrev Qjr:=@PyProof.Rows.wpS_get
abbrev Qjs:=@PySem.wpAny_isOneOf_valiter
abbrev Qjt:=@of_decide_eq_false
abbrev Qju:=@Option.toList_none
abbrev Qjv:=@PySem.Obj.isFreed_of_fields
abbrev Qjw:=@Nat.mod_lt
abbrev Qjx:=@Nat.lt_or_eq_of_le
abbrev Qo2:=@PySem.wpAny_updateSeq_pair
abbrev Qo3:=@PySem.wpAny_of_eq
abbrev Qo4:=@PySem.wpAny_newTuple
abbrev Qo5:=@of_decide_eq_true
abbrev Qo6:=@PySem.isSubtype_stop
abbrev Qo7:=@Nat.le_succ_of_le
abbrev Qo8:=@Nat.le_of_lt
abbrev Qo9:=@List.flatMap_cons
abbrev Qoa:=@PySem.Calls.evalArgs_plain
abbrev Qob:=@Bool.not_eq_true'
abbrev Qoc:=@PySem.Around.under_plainId
abbrev Qqc:=@PySem.F.args_dict_setdefault_3
abbrev Qqd:=@List.nodup_range
abbrev Qqe:=@List.map_fst_zip
abbrev Qqf:=@List.length_drop
abbrev Qqg:=@Array.toList_inj
abbrev Qvj:=@PySem.wpAny_onRaise
abbrev Qvk:=@PySem.F.entry_dict_setdefault
abbrev Qvl:=@PySem.Paired.length
abbrev Qvm:=@List.map_id
abbrev Qvo:=@PySem.tupleKind_room_in1
abbrev Qvp:=@PyProof.Rows.get?_update_seq
abbrev Qvq:=@PySem.SeqAt.EqAt.str_str
abbrev Qvr:=@PySem.SeqAt.EqAt.str_int
abbrev Qvs:=@PySem.SeqAt.EqAt.of_refs
abbrev Qvt:=@PySem.SeqAt.EqAt.int_str
abbrev Qvu:=@PySem.Calls.spliced_cons
abbrev Qyo:=@List.insertIdx_of_length_lt
abbrev Qzm:=@PySem.wpAny_typeOf
abbrev Qzn:=@PySem.wpAny_pyIter_slot
abbrev Qzo:=@PySem.Obj.cls_mapFields
abbrev Qzp:=@Nat.mul_le_mul
abbrev Qzq:=@List.Perm.swap
abbrev Qzr:=@PySem.Heap.get?_push_ne
abbrev Qzs:=@PySem.Heap.SameBut.refl
abbrev Qzt:=@PySem.F.args_dict_valueiterator_next_1
abbrev Qzu:=@Array.getElem?_eq_some_iff
set_option autoImplicit true
set_option relaxedAutoImplicit true
set_option Elab.async false
set_option linter.all false
set_option maxRecDepth 100000
namespace L2
open PySem PySem.Spec PyProof.Rows
abbrev Key:=Sum Int Str
def Qe1:Key->Value->Bool
 |.inl k,v=>Value.isInt k v|.inr x,v=>Value.isStrOf x v
def Jc2(w:World):Key->Int
 |.inl k=>hashInt k|.inr x=>hashStr w x
def JZ:∀{k:Key}{v:Value},Qe1 k v=true->(∃i t,k=Sum.inl i/\v=Value.int i t)\/(∃x t,k=Sum.inr x/\v=Value.str x t)
 |.inl i,v,h=>by
  let⟨t,e⟩:=Value.isInt_shape (k:=i) (v:=v) h;show .inl ⟨i,t,(),e⟩
 |.inr x,v,h=>by
  let⟨t,e⟩:=Value.isStrOf_shape (x:=x) (v:=v) h;show .inr ⟨x,t,(),e⟩
def Qpi(i:Int)(t:Tok):Qe1 (.inl i) (.int i t)=true:=by simp[Qe1,Value.isInt]
def Qph(x:Str)(t:Tok):Qe1 (.inr x) (.str x t)=true:=by simp[Qe1,Value.isStrOf]
def Jc1(a b:Int):decide ((Sum.inl a:Key)=Sum.inl b)=(a==b):=by
 grind
def Jby(a b:Str):decide ((Sum.inr a:Key)=Sum.inr b)=decide (a=b):=by
 ext
def Jc0(a:Int)(b:Str):decide ((Sum.inl a:Key)=Sum.inr b)=false:=QV (λq=>nomatch q)
def Jbz(a:Str)(b:Int):decide ((Sum.inr a:Key)=Sum.inl b)=false:=QV (λq=>nomatch q)
def JI(prog:Program)(w:World):PySem.KeyKind prog w Key where
 is:=Qe1
 hash:=Jc2 w
 inj:=λv a b ha hb=>by
  rcases JZ ha with⟨i,t,rfl,rfl⟩|⟨x,t,rfl,rfl⟩
  ·rcases JZ hb with⟨j,u,rfl,e⟩|⟨y,u,rfl,e⟩
   all_goals ext
  ·rcases JZ hb with⟨j,u,rfl,e⟩|⟨y,u,rfl,e⟩
   all_goals ext
 byValue:=λk v h=>by
  rcases JZ h with⟨i,t,rfl,rfl⟩|⟨x,t,rfl,rfl⟩<;>rfl
 pyHash:=λhv h=>by
  rcases JZ hv with⟨i,t,rfl,rfl⟩|⟨x,t,rfl,rfl⟩
  ·show wpAny_pyHash_int h
  ·show wpAny_pyHash_str h
 eqBool:=λhu hv h=>by
  rcases JZ hu with⟨i,t,rfl,rfl⟩|⟨x,t,rfl,rfl⟩
  ·rcases JZ hv with⟨j,u,rfl,rfl⟩|⟨y,u,rfl,rfl⟩
   ·rw[Jc1]at h;show wpAny_eqBool_int h
   ·rw[Jc0]at h;show Qvt i t y u _ _ _ _ h
  ·rcases JZ hv with⟨j,u,rfl,rfl⟩|⟨y,u,rfl,rfl⟩
   ·rw[Jbz]at h;show Qvr x t j u _ _ _ _ h
   ·rw[Jby]at h;show wpAny_eqBool_str h
 «strs»:=λk x t v h=>by
  rcases JZ h with⟨i,u,rfl,e⟩|⟨y,u,rfl,e⟩
  ·ext
  ·injection e with e1 _
   subst e1;cases v<;>rfl
def OW(prog:Program)(w:World)(i:Int)(t:Tok):(JI prog w).is (.inl i) (.int i t)=true:=Qpi i t
def UW(prog:Program)(w:World)(x:Str)(t:Tok):(JI prog w).is (.inr x) (.str x t)=true:=Qph x t
inductive V where
 |non|bl (b:Bool)|int (i:Int)|str (x:Str)|byt (b:Array UInt8)|flt (b:UInt64)|ref (a:Addr)|ty (n:String)
 deriving DecidableEq
def RelV:V->Value->Prop
 |.non,u=>u=Value.none|.bl b,u=>u=Value.bool b|.int i,u=>∃t,u=Value.int i t|.str x,u=>∃t,u=Value.str x t|.byt b,u=>∃t,u=Value.bytes b t|.flt b,u=>∃t,u=Value.float b t|.ref a,u=>u=Value.ref a|.ty n,u=>u=Value.type n
abbrev Vals:List V->List Value->Prop:=Paired RelV
def Vals.length(r:Vals xs us):xs.length=us.length:=Qvl r
theorem Vals.get:∀{xs:List V}{us:List Value}{i:Nat}{x:V},Vals xs us->xs[i]?=-x->∃u,us[i]?=-u/\RelV x u
 |_,_,_,_,.nil,e=>by simp at e|_,_,0,_,.cons r _,e=>by simp at e;subst e;show⟨_,(),r⟩|_,_,i+1,x,.cons _ t,e=>by
  let⟨u,a,b⟩:=Vals.get (i:=i) (x:=x) t (by simpa using e);show⟨u,by simpa using a,b⟩
theorem Vals.set(r:RelV x u):∀{xs:List V}{us:List Value}(i:Nat),Vals xs us->Vals (xs.set i x) (us.set i u)
 |_,_,_,.nil=>.nil|_,_,0,.cons _ t=>.cons r t|_,_,i+1,.cons q t=>.cons q (Vals.set r i t)
theorem Vals.append:∀{xs ys:List V}{us ws:List Value},Vals xs us->Vals ys ws->Vals (xs++ys) (us++ws)
 |_,_,_,_,.nil,s=>s|_,_,_,_,.cons r t,s=>.cons r (Vals.append t s)
theorem Vals.take:∀{xs:List V}{us:List Value}(n:Nat),Vals xs us->Vals (xs.take n) (us.take n)
 |_,_,0,_=>.nil|_,_,_+1,.nil=>.nil|_,_,n+1,.cons r t=>.cons r (Vals.take n t)
theorem Vals.drop:∀{xs:List V}{us:List Value}(n:Nat),Vals xs us->Vals (xs.drop n) (us.drop n)
 |_,_,0,r=>r|_,_,_+1,.nil=>.nil|_,_,n+1,.cons _ t=>Vals.drop n t
def RelO:Option V->Option Value->Prop
 |some v,-u=>RelV v u|none,none=>True|_,_=>False
def KV{κ:Type}:List (κ×V)->List (κ×Value)->Prop:=Paired λ(p:κ×V) (q:κ×Value)=>p.1=q.1/\RelV p.2 q.2
def kV:Key->V
 |.inl i=>.int i|.inr x=>.str x
inductive HO where
 |lst (xs:List V)|tup (xs:List V)|dK (Kv:List (Key×V))|dT (Kv:List (List Key×V))|set (S:Int->Bool) (n:Nat)|ins (C dx:Addr) (fs:List (Str×V))|own (x:Addr)|xd (fs:List (Str×V))|met (f x:Addr)|rng (lo hi:Int)|frz (o:Obj) (u:HO)|tbl (ps:Array Value)|ext (φ:Heap->Prop)
abbrev Hp:=Addr->Option HO
def upd(H:Hp)(a:Addr)(o:HO):Hp:=λb=>if b=a then -o else H b
def Vu:upd H a o a=some o:=by unfold upd;ext
def Qm(h:b≠a):upd H a o b=H b:=by unfold upd;grind
def Qw1{H:Hp}{a:Addr}{o u:HO}:upd (upd H a o) a u=upd H a u:=by
 funext b;unfold upd;split<;>rfl
def YC{H:Hp}{a b:Addr}{o u:HO}(h:H a=-o)(h':H b=-u)(d:o≠u):a≠b:=by
 intro e;subst e;rw[h]at h';show d (QZ h')
def QM{H:Hp}(h:H a=-o)(h':H b=none):a≠b:=by
 grind
section
variable (P:Program) (w:World)
def ObjOk(H:Hp)(h:Heap)(a:Addr):HO->Prop
 |.lst xs=>xs.length<=sizeLine/\∃(Kw:List Value)(n:Nat),Vals xs Kw/\h.get? a=some {cls:=.type "list",data:=.seq Kw.toArray n}
 |.tup xs=>xs.length<=sizeLine/\∃Kw:List Value,Vals xs Kw/\IsTup h a Kw.toArray|.dK Kv=>Kv.length<=sizeLine/\(a==sysModules)=false/\∃vs,KV Kv vs/\h.DictOf (JI P w) a vs
 |.dT Kv=>Kv.length<=sizeLine/\(a==sysModules)=false/\∃xs:List (List Key×Addr×Value),
   Paired (λ(p:List Key×V) (q:List Key×Addr×Value)=>p.1=q.1/\H q.2.1=-(.tup (p.1.map kV))/\RelV p.2 q.2.2) Kv xs /\
   ∃o es ep,h.get? a=-o/\o.ExactDict/\o.data=.dict es ep/\es.toList=xs.map (entryOfKey (tupleKind (JI P w)))/\(xs.map (·.1)).Nodup
 |.set S n=>h.SetOf (intKind P w) a S n
 |.ins C dx fs=>H dx=-(.own a)/\fs.length<=1000/\dx≠a/\h.get? a=-(W.instObj C dx) /\
   ∃mA,h.Ns1 dx mA/\(∀f,RelO (fs.lookup f) (mA f))/\PySem.Within mA (fs.map (·.1))
 |.own _=>∃o,h.get? a=-o|.xd fs=>∃mA,h.Ns1 a mA/\∀f,RelO (fs.lookup f) (mA f)|.rng lo hi=>∃t u v,h.get? a=some {cls:=.type "range",data:=.fields #[.int lo t,.int hi u,.int 1 v]}
 |.frz o u=>h.get? a=-o/\ObjOk H h a u|.tbl ps=>h.get? a=some {cls:=.none,data:=.fields ps}|.met f x=>h.get? a=-(W.methodObj (.ref f) (.ref x))|.ext φ=>φ h/\(∃o,h.get? a=-o)/\∀h1 h2:Heap,φ h1->(∀o,h1.get? a=-o->h2.get? a=-o)->φ h2
def HOk(H:Hp)(h:Heap):Prop:=∀a o,H a=-o->ObjOk P w H h a o
end
section
variable {P:Program} {w:World} {H H':Hp} {h h':Heap} {a:Addr} {o:HO}
def ObjOk.lt(x:ObjOk P w H h a o):a<h.objs.size:=by
 cases o with
 |lst b=>let⟨_,_,_,_,e⟩:=x;show Qj e
 |tup b=>let⟨_,_,_,p⟩:=x;show p.lt
 |dK Kv=>let⟨_,_,_,_,o,_,_,e,_⟩:=x;show Qj e
 |dT Kv=>let⟨_,_,_,_,o,_,_,e,_⟩:=x;show Qj e
 |set S n=>let⟨o,_,_,_,e,_⟩:=x;show Qj e
 |ins C dx fs=>let⟨_,_,_,e,_⟩:=x;show Qj e
 |own y=>let⟨_,e⟩:=x;show Qj e
 |xd fs=>let⟨_,⟨_,_,_,e,_⟩,_⟩:=x;show Qj e
 |rng lo hi=>let⟨_,_,_,e⟩:=x;show Qj e
 |frz c u=>let⟨e,_⟩:=x;show Qj e
 |tbl d=>show Qj ((x))|met f y=>show Qj ((x))|ext g=>let⟨_,⟨_,e⟩,_⟩:=x;show Qj e
theorem Paired.mapP{α β:Type}{F G:α->β->Prop}:∀{l₁:List α}{l₂:List β},Paired F l₁ l₂->(∀a b,F a b->G a b)->Paired G l₁ l₂
 |_,_,.nil,_=>.nil|_,_,.cons r t,f=>.cons (f _ _ r) (Paired.mapP t f)
def ObjOk.stay(x:ObjOk P w H h a o)(k:∀b u,(b=a\/H b=-(.own a))->h.get? b=-u->h'.get? b=-u)
  (ho:∀b,H b=-(.own a)->H' b=-(.own a)) (ht:∀b xs,H b=-(.tup xs)->H' b=-(.tup xs)):ObjOk P w H' h' a o:=by
 induction o with
 |lst xs=>let⟨z,Kw,n,r,e⟩:=x;show⟨z,Kw,n,r,k _ _ (.inl ()) e⟩
 |tup xs=>let⟨z,Kw,r,g,e,c⟩:=x;show⟨z,Kw,r,g,k _ _ (.inl ()) e,c⟩
 |dK Kv=>let⟨z,y,vs,r,g,i,j,e,c⟩:=x;show⟨z,y,vs,r,g,i,j,k _ _ (.inl ()) e,c⟩
 |dT Kv =>
  let⟨z,y,xs,r,g,i,j,e,c⟩:=x;show⟨z,y,xs,Paired.mapP r λp q z=>⟨z.1,ht _ _ z.2.1,z.2.2⟩,g,i,j,k _ _ (.inl ()) e,c⟩
 |set S n=>let⟨g,i,j,t,e,c⟩:=x;show⟨g,i,j,t,k _ _ (.inl ()) e,c⟩
 |ins C dx fs =>
  let⟨d,z,ne,e,l,⟨m,i,j,e2,c⟩,r⟩:=x;show⟨ho _ d,z,ne,k _ _ (.inl ()) e,l,⟨m,i,j,k _ _ (.inr d) e2,c⟩,r⟩
 |own y=>let⟨g,e⟩:=x;show⟨g,k _ _ (.inl ()) e⟩
 |xd fs=>let⟨l,⟨m,i,j,e,c⟩,r⟩:=x;show⟨l,⟨m,i,j,k _ _ (.inl ()) e,c⟩,r⟩
 |rng lo hi=>let⟨t,u,v,e⟩:=x;show⟨t,u,v,k _ _ (.inl ()) e⟩
 |frz g u ih=>let⟨e,q⟩:=x;show⟨k _ _ (.inl ()) e,ih q⟩
 |tbl s =>
  let e:h.get? a=some {cls:=.none,data:=.fields s}:=x;change h'.get? a=some {cls:=.none,data:=.fields s};show k a _ (.inl ()) e
 |met f y =>
  let e:h.get? a=-(W.methodObj (.ref f) (.ref y)):=x;change h'.get? a=-(W.methodObj (.ref f) (.ref y));show k a _ (.inl ()) e
 |ext φ=>let⟨p,⟨o,e⟩,st⟩:=x;show⟨st _ _ p λo q=>k _ _ (.inl ()) q,⟨o,k _ _ (.inl ()) e⟩,st⟩
def HOk.lt(x:HOk P w H h)(e:H a=-o):a<h.objs.size:=(x a o e).lt
def HOk.fresh(x:HOk P w H h)(e:h.objs.size<=a):H a=none:=by
 cases q:H a with
 |none=>rfl|some u=>show absurd (Qp (x.lt q) e) (JG _)
def HOk.kept(x:HOk P w H h)(k:∀b u,h.get? b=-u->h'.get? b=-u):HOk P w H h':=λa o e =>
 (x a o e).stay (λb u _ q=>k b u q) (λ_ q=>q) λ_ _ q=>q
def HOk.laid(x:HOk P w H h)(k:∀b u,h.get? b=-u->h'.get? b=-u)(hp:h.objs.size<=a)(new:ObjOk P w (upd H a o) h' a o):HOk P w (upd H a o) h':=λb u e=>by
 let d:=x.fresh hp
 by_cases hb:b=a
 ·subst hb;rw[Vu]at e;ext
 ·rw[Qm hb]at e;show(x b u e).stay (λc v _ q=>k c v q) (λc q=>by rw[Qm (QM q d)];show q) λc f q=>by rw[Qm (QM q d)];show q
end
def Rd(H:Hp)(a:Addr)(u:HO):Prop:=H a=-u\/∃o,H a=-(.frz o u)
def Rd.ok{P:Program}{w:World}{H:Hp}{h:Heap}{a:Addr}{u:HO}(r:Rd H a u)(x:HOk P w H h):ObjOk P w H h a u:=by
 rcases r with r|⟨o,r⟩
 ·show x a u r
 ·let⟨_,q⟩:=x a _ r;show q
def Mut:Option HO->Prop
 |some (.lst _)=>True|some (.dK _)=>True|some (.dT _)=>True|some (.set _ _)=>True|some (.ins _ _ _)=>True|some (.ext _)=>True|_=>False
section
variable {P:Program} {w:World} {H:Hp} {h h':Heap} {x e:Addr} {o':HO}
def HOk.write(ok:HOk P w H h)(mu:Mut (H x))(he:e=x\/H e=-(.own x))(k:∀b u,b≠e->h.get? b=-u->h'.get? b=-u)(heo:∃u,h'.get? e=-u)
  (new:ObjOk P w (upd H x o') h' x o'):HOk P w (upd H x o') h':=λb u q=>by
 let a:∀c y,H c=-(.own y)->c≠x:=λc y r z=>by subst z;rw[r]at mu;show mu
 let d:∀c f,H c=-(.tup f)->c≠x:=λc f r z=>by subst z;rw[r]at mu;show mu
 by_cases hb:b=x
 ·subst hb;rw[Vu]at q;ext
 ·rw[Qm hb]at q
  by_cases i:b=e
  ·let g:H b=-(.own x):=by
    ext
   rw[q]at g;cases g;let⟨v,j⟩:=heo;show⟨v,"e"⟩
  ·show(ok b u q).stay (λc v l r=>k c v ?_ r) (λc r=>by rw[Qm (a c b r)];show r) λc f r=>by rw[Qm (d c f r)];show r
   grind
end
structure Un(fs ex:List Addr)(H H':Hp)(h h':Heap):Prop where
 keep:∀b o,h.get? b=-o->H b=none->b∉fs->b∉ex->h'.get? b=-o
 slot:∀b o,h.get? b=-o->H b=none->b∈fs->b∉ex->∃sl,h'.get? b=some {o with slots:=sl}
 free:∀b o,h.get? b=-o->H b=none->b∉ex->H' b=none
 there:∀b o,h.get? b=-o->b∉ex->∃o',h'.get? b=-o'
 tups:∀b xs,H b=-(.tup xs)->H' b=-(.tup xs)
 frzs:∀b o u,H b=-(.frz o u)->H' b=-(.frz o u)
 tbls:∀b ps,H b=-(.tbl ps)->∃more,H' b=-(.tbl (ps++more))
section
variable {fs fs' ex ex':List Addr} {H H1 H2:Hp} {h h1 h2 h':Heap} {a x e:Addr} {o:HO}
def Un.any(u:Un fs ex H H1 h h1)(q:h.get? b=-ob)(n:H b=none)(hx:b∉ex):∃sl,h1.get? b=some {ob with slots:=sl}:=by
 by_cases hb:b∈fs
 ·show u.slot b ob q n hb hx
 ·show⟨ob.slots,u.keep b ob q n hb hx⟩
def Un.kept(k:∀b u,h.get? b=-u->h'.get? b=-u):Un fs ex H H h h':=
 ⟨λb a q _ _ _=>k b a q,λb a q _ _ _=>⟨a.slots,k b a q⟩,λ_ _ _ n _=>n,λb a q _=>⟨a,k b a q⟩,λ_ _ q=>q,λ_ _ _ q=>q,λ_ c q=>⟨#[],"g"⟩⟩
def Un.refl:Un fs ex H H h h:=Un.kept λ_ _ q=>q
def Un.laid(k:∀b u,h.get? b=-u->h'.get? b=-u)(hp:h.objs.size<=a)(hn:H a=none):Un fs ex H (upd H a o) h h' where
 keep:=λb u q _ _ _=>k b u q
 slot:=λb u q _ _ _=>⟨u.slots,k b u q⟩
 free:=λb u q n _=>by rw[Qm (Qq (Qp (Qj q) hp))];show n
 there:=λb u q _=>⟨u,k b u q⟩
 tups:=λb xs q=>by rw[Qm (QM q hn)];show q
 frzs:=λb u xs q=>by rw[Qm (QM q hn)];show q
 tbls:=λb ps q=>⟨#[],by rw[Qm (QM q hn),q];simp⟩
def Un.write(mu:Mut (H x))(he:e=x\/H e=-(.own x))(k:∀b u,b≠e->h.get? b=-u->h'.get? b=-u)(heo:∃u,h'.get? e=-u):Un fs ex H (upd H x o) h h':=by
 let hx:∀b,H b=none->b≠x:=λb n z=>by subst z;rw[n]at mu;show mu
 let hb:∀b,H b=none->b≠e:=λb n z=>by
  ext
 let a:∀b u,H b=-u-> ¬ Mut (-u)->b≠x:=λb u q d z=>by ext
 show⟨λb u q n _ _=>k b u (hb b n) q,λb u q n _ _=>⟨u.slots,k b u (hb b n) q⟩,λb u q n _=>by rw[Qm (hx b n)];show n,λb u q _=>?_,
  λb c q=>by rw[Qm (a b _ q λz=>z)];show q,λb u c q=>by rw[Qm (a b _ q λz=>z)];show q,λb f q=>⟨#[],by rw[Qm (a b _ q λz=>z),q];simp⟩⟩
 grind
end
def trk(h:Heap)(H:Hp):List Addr:=(List.range h.objs.size).filter λa=>(H a).isSome
def Qii(h:Heap)(H:Hp):Heap:=W.hideAll h (trk h H)
def Qpq(h:Heap)(H:Hp):(Qii h H).objs.size=h.objs.size:=W.hideAll_size _ _
def Qu0(e:h.get? b=-o)(n:H b=none):(Qii h H).get? b=some o:=
 W.hideAll_get _ e λa=>by
  let q:=(QS.mp a).2
  ext
def Qxl(e:(Qii h H).get? b=-o):h.get? b=-o/\H b=none:=by
 let a:=W.of_hideAll (trk h H) e;show⟨a,?_⟩;cases q:H b with
 |none=>rfl|some x =>
  let c:b∈trk h H:=QS.mpr ⟨Jp.mpr (Qj a),by simp[q]⟩;let z:(Qii h H).get? b=none:=W.hideAll_none (trk h H) c
  ext
structure Mod(K:W.Frag)(mg:Str->Option Value)(base:Heap):Prop where
 kin:K.In base
 glob:base.Ns mainGlobals mg
 blt:∃mb,base.Ns builtinsNs mb/\∀x:Str,x≠ "__name__" ->mb x=bootBuiltins x
 nolimit:base.NoLimit
structure Cx where
 prog:Program
 w:World
 K:W.Frag
 mg:Str->Option Value
 base:Heap
 A:Around
 N:List Str
 s₀:Shared
 H₀:Hp
 env:Env
 outer:List Env
 stack:List Env
 ex:List Addr
 fn:Str->Bool
 calm:Bool
 pn:Kg
 xe:Kh
def frs(l:List Env):List Addr:=l.filterMap (·.frame)
abbrev Cx.fs(X:Cx):List Addr:=frs X.outer
def Vis(sc:Scope)(x:Str):Prop:=sc.names.lookup x=some .local\/sc.names.lookup x=-.cell\/sc.names.lookup x=-.free
def Loc(sc:Scope)(x:Str):Prop:=sc.names.lookup x=some .local\/sc.names.lookup x=-.cell
def Look(env:Env)(h:Heap)(m:Str->Option Value)(x:Str)(u:Value):Prop:=
 (env.kindOf x=some .local/\m x=-u)\/((env.kindOf x=-.cell\/env.kindOf x=-.free)/\∃c,env.cells.lookup x=-c/\h.IsCell c (-u))
structure Cx.Ok(X:Cx):Prop where
 mod:Mod X.K X.mg X.base
 kind:X.env.scope.kind=.function
 glob:X.env.globals=mainGlobals
 blt:X.env.builtins=builtinsNs
 above:X.s₀.heap.objs.size<=X.env.locals
 inj:∀x y c,X.env.cells.lookup x=-c->X.env.cells.lookup y=-c->x=y
 has:∀x,(X.env.kindOf x=-.cell\/X.env.kindOf x=-.free)->∃c,X.env.cells.lookup x=-c
 cab:∀x c,X.fn x=true->X.env.cells.lookup x=-c->X.s₀.heap.objs.size<=c
 hd:X.calm=true->X.A.handled=none
 frames:X.A.frames=-X.stack
 stk:X.stack=X.outer\/(X.stack=X.env::X.outer/\X.env.frame=-X.env.locals)
 exf:∀b∈X.ex,b≠X.env.locals/\∀x c,X.env.cells.lookup x=-c->c≠b
 bs:∀b o,X.base.get? b=-o->X.s₀.heap.get? b=-o/\X.H₀ b=none
 bsz:X.base.objs.size<=X.s₀.heap.objs.size
 noex:∀b o,X.base.get? b=-o->b∉X.ex
 exfs:∀b∈X.ex,b∉X.fs
 funs:X.s₀.heap.FunFrames X.base X.outer
 frf:∀b∈X.fs,X.H₀ b=none
structure Inv(X:Cx)(Kz:Kg)(σ:List (Option V))(H:Hp)(s:Shared):Prop where
 ok:X.Ok
 os:s.os=X.s₀.os
 bare:AllBare s.gens
 base:Un X.fs X.ex X.H₀ H X.s₀.heap s.heap
 loc:∃m,s.heap.Ns X.env.locals m/\∀(i:Nat)(x:Str)(v:V),X.N[i]?=-x->σ[i]?=-(-v)->Vis X.env.scope x->∃u,RelV v u/\Look X.env s.heap m x u
 cell:∀x c,X.env.cells.lookup x=-c->∃v,s.heap.IsCell c v
 free:H X.env.locals=none
 freeC:∀x c,X.env.cells.lookup x=-c->H c=none
 pin:∀p∈X.pn++Kz,s.heap.get? p.1=-p.2/\H p.1=none/\p.1≠X.env.locals/\p.1∉X.fs/\∀v,p.2.data≠ .cell v
 hok:HOk X.prog X.w H s.heap
 len:σ.length=X.N.length
section
variable {X:Cx} {Kz:Kg} {σ:List (Option V)} {H H':Hp} {s:Shared} {h':Heap}
def Cx.Ok.nofr(ok:X.Ok)(e:X.base.get? b=-o):b∉X.fs:=λhb=>by
 let:=(ok.funs.mem hb).1
 ext
def Inv.bs(I:Inv X Kz σ H s):∀b o,X.base.get? b=-o->s.heap.get? b=-o/\H b=none:=λb o e =>
 ⟨I.base.keep b o (I.ok.bs b o e).1 (I.ok.bs b o e).2 (I.ok.nofr e) (I.ok.noex b o e),I.base.free b o (I.ok.bs b o e).1 (I.ok.bs b o e).2 (I.ok.noex b o e)⟩
def Inv.bk(I:Inv X Kz σ H s):∀b o,X.base.get? b=-o->s.heap.get? b=some o:=λb o e=>(I.bs b o e).1
def Inv.mod(I:Inv X Kz σ H s):Mod X.K X.mg X.base:=I.ok.mod
def Inv.kIn(I:Inv X Kz σ H s):X.K.In s.heap:=I.ok.mod.kin.keeps I.bk
def Inv.fr(I:Inv X Kz σ H s):∃m,Fr X.base X.env.locals s.heap m:=
 let⟨m,a,_⟩:=I.loc
 ⟨m,a,I.bk,Qx I.ok.bsz I.ok.above⟩
def Inv.lt(I:Inv X Kz σ H s):X.env.locals<s.heap.objs.size:=let⟨_,a,_⟩:=I.loc;a.lt
def Inv.sz(I:Inv X Kz σ H s):X.s₀.heap.objs.size<=s.heap.objs.size:=Qx I.ok.above (Qo8 I.lt)
def Inv.nofs(I:Inv X Kz σ H s)(h:s.heap.objs.size<=a):a∉X.fs:=λhb=>by
 let⟨_,o,b,_⟩:=I.ok.funs.mem hb;show absurd (Qp (Qj b) (Qx I.sz h)) (JG _)
def Inv.cne(I:Inv X Kz σ H s):∀x c,X.env.cells.lookup x=-c->c≠X.env.locals:=λx c e z=>by
 let⟨v,o,d,hd⟩:=I.cell x c e;let⟨m,⟨f,g,h,a,b,_⟩,_⟩:=I.loc
 ext
def Inv.funs(I:Inv X Kz σ H s):s.heap.FunFrames X.base X.outer:=by
 let all:∀(l:List Env),(∀b∈frs l,b∈X.fs)->X.s₀.heap.FunFrames X.base l->s.heap.FunFrames X.base l:=by
  intro l
  induction l with
  |nil=>intro _ _;trivial|cons env r f =>
   intro d hl;let⟨g,⟨L,o,a,h,i,hd⟩,j⟩:=hl;let c:L∈X.fs:=d L (by unfold frs;rw[W5,a];show Q8);let⟨sl,e⟩:=I.base.slot L o i (I.ok.frf L c) c λz=>I.ok.exfs L z c
   show⟨g,⟨L,_,a,h,e,hd⟩,f (λb hb=>d b (by unfold frs;rw[W5,a];show Q7 _ hb)) j⟩
 show all X.outer (λ_ hb=>hb) I.ok.funs
def Inv.stack(I:Inv X Kz σ H s):s.heap.FunFrames X.base X.stack:=by
 rcases I.ok.stk with e|⟨e,a⟩
 ·rw[e];show I.funs
 ·rw[e];let⟨m,b,_⟩:=I.loc;show .cons (by rw[I.ok.kind];decide) a b ?_ I.funs;show Be (Qx I.ok.bsz I.ok.above)
def Inv.stkSub(I:Inv X Kz σ H s):∀b∈frs X.stack,b∈X.env.locals::X.fs:=λb hb=>by
 rcases I.ok.stk with e|⟨e,a⟩
 ·ext
 ·rw[e]at hb;unfold frs at hb;rw[W5,a]at hb;show hb
def Inv.stkFree(I:Inv X Kz σ H s):∀b∈frs X.stack,H b=none:=λb hb=>by
 rcases Qe.mp (I.stkSub b hb)with e|hb
 ·rw[e];show I.free
 ·let⟨_,o,a,_⟩:=I.ok.funs.mem hb;show I.base.free b o a (I.ok.frf b hb) λz=>I.ok.exfs b z hb
def Inv.step{g':Array GenState}{t':Nat}{d':Drawn}{ch:List Addr}(I:Inv X Kz σ H s)
  (hch:∀b∈ch,(b∈X.ex\/X.s₀.heap.objs.size<=b)/\b≠X.env.locals/\(∀x c,X.env.cells.lookup x=-c->c≠b)/\∀p∈X.pn++Kz,p.1≠b)
  (keep:∀b o,b≠X.env.locals->b∉X.fs->b∉ch->s.heap.get? b=-o->H b=none->h'.get? b=-o)
  (slot:∀b o,b≠X.env.locals->b∈X.fs->b∉ch->s.heap.get? b=-o->H b=none->∃sl,h'.get? b=some {o with slots:=sl}) (free:∀b o,b∉ch->s.heap.get? b=-o->H b=none->H' b=none)
  (there:∀b o,b∉ch->s.heap.get? b=-o->∃o',h'.get? b=-o')
  (tups:∀b xs,H b=-(.tup xs)->H' b=-(.tup xs)) (frzs:∀b o u,H b=-(.frz o u)->H' b=-(.frz o u)) (tbls:∀b ps,H b=-(.tbl ps)->∃more,H' b=-(.tbl (ps++more)))
  (ns:∀m,s.heap.Ns X.env.locals m->h'.Ns X.env.locals m) (hok:HOk X.prog X.w H' h') (hg:AllBare g') :
  Inv X Kz σ H' {s with heap:=h',gens:=g',drawn:=d',toks:=t'}:=by
 let t:∀b o,X.s₀.heap.get? b=-o->b≠X.env.locals:=λb o e=>Qq (Qp (Qj e) I.ok.above)
 let g:∀b o,X.s₀.heap.get? b=-o->b∉X.ex->b∉ch:=λb o e hx hb=>by
  rcases(hch b hb).1 with z|z
  ·show hx z
  ·show absurd (Qp (Qj e) z) (JG _)
 let a:∀x c,X.env.cells.lookup x=-c->∀v,s.heap.IsCell c v->h'.IsCell c v:=λx c e v ⟨o,j,hd⟩=>by
  let f:c∉ch:=λz=>(hch c z).2.2.1 x c e ()
  by_cases hc:c∈X.fs
  ·let⟨sl,q⟩:=slot c o (I.cne x c e) hc f j (I.freeC x c e);show⟨_,q,hd⟩
  ·show⟨o,keep c o (I.cne x c e) hc f j (I.freeC x c e),hd⟩
 show⟨I.ok,I.os,hg,⟨λb o e n hb hx=>?_,λb o e n hb hx=>?_,λb o e n hx=>?_,λb o e hx=>?_,λb xs e=>tups b xs (I.base.tups b xs e),λb o xs e=>frzs b o xs (I.base.frzs b o xs e),λb ps e=>?_⟩,?_,λx c e=>?_,?_,λx c e=>?_,λp hp=>?_,hok,I.len⟩
 ·show keep b o (t b o e) hb (g b o e hx) (I.base.keep b o e n hb hx) (I.base.free b o e n hx)
 ·let⟨sl,h⟩:=I.base.slot b o e n hb hx;let⟨y,w⟩:=slot b _ (t b o e) hb (g b o e hx) h (I.base.free b o e n hx);show⟨y,w⟩
 ·let⟨o',h⟩:=I.base.there b o e hx;show free b o' (g b o e hx) h (I.base.free b o e n hx)
 ·let⟨o',h⟩:=I.base.there b o e hx;show there b o' (g b o e hx) h
 ·let⟨m1,h⟩:=I.base.tbls b ps e;let⟨m2,w⟩:=tbls b _ h;show⟨m1++m2,by rw[w,Array.append_assoc]⟩
 ·let⟨m,hn,hl⟩:=I.loc;show⟨m,ns m hn,λi x v h w e3=>?_⟩;let⟨u,r,l⟩:=hl i x v h w e3;show⟨u,r,?_⟩;rcases l with l|⟨k,c,e,z⟩
  ·show .inl l
  ·show .inr ⟨k,c,e,a x c e _ z⟩
 ·let⟨v,z⟩:=I.cell x c e;show⟨v,a x c e v z⟩
 ·let⟨m,⟨o,_,_,j,_⟩,_⟩:=I.loc;show free _ o (λz=>(hch _ z).2.1 ()) j I.free
 ·let⟨v,o,j,hd⟩:=I.cell x c e;show free c o (λz=>(hch c z).2.2.1 x c e ()) j (I.freeC x c e)
 ·let⟨e,n,ne,nf,d⟩:=I.pin p hp;let f:p.1∉ch:=λz=>(hch p.1 z).2.2.2 p hp ()
  show⟨keep p.1 p.2 ne nf f e n,free p.1 p.2 f e n,ne,nf,d⟩
def Inv.un(I:Inv X Kz σ H s)(u:Un X.fs [] H H' s.heap h')(hok:HOk X.prog X.w H' h'):Inv X Kz σ H' {s with heap:=h',toks:=t'}:=by
 let⟨m,⟨o,j,k,f,r⟩,_⟩:=id I.loc;let⟨sl,g⟩:=u.any f I.free "s";show I.step (ch:=[]) (λ_ z=>nomatch z) (λb o _ hb _ e n=>u.keep b o e n hb "s") (λb o _ hb _ e n=>u.slot b o e n hb "s") (λb o _ e n=>u.free b o e n "s") (λb o _ e=>u.there b o e "s") u.tups u.frzs u.tbls (λl h=>by
  let⟨p,c,d,a,i⟩:=h;rw[f]at a;cases a;show⟨_,c,d,g,i⟩) hok I.bare
def Inv.call(I:Inv X Kz σ H s)(u:Un (frs X.stack) ch H H' s.heap h')(hok:HOk X.prog X.w H' h')(hg:AllBare g')
  (hch:∀b∈ch,(b∈X.ex\/X.s₀.heap.objs.size<=b)/\b≠X.env.locals/\(∀x c,X.env.cells.lookup x=-c->c≠b)/\∀p∈X.pn++Kz,p.1≠b) :
  Inv X Kz σ H' {s with heap:=h',gens:=g',drawn:=d',toks:=t'}:=by
 let⟨m,⟨o,l,q,i,r⟩,_⟩:=id I.loc;let⟨sl,f⟩:=u.any i I.free λz=>(hch _ z).2.1 ()
 show I.step hch (λb o f hb a e n=>u.keep b o e n (λz=>(Qe.mp (I.stkSub b z)).elim f hb) a) (λb o _ _ a e n=>u.any e n a) (λb o a e n=>u.free b o e n a) (λb o a e=>u.there b o e a) u.tups u.frzs u.tbls (λt j=>by
  let⟨v,g,h,d,k⟩:=j;rw[i]at d;cases d;show⟨_,g,h,f,k⟩) hok hg
def Inv.turned{t':Nat}{it:Addr}(I:Inv X Kz σ H s)(k:∀b o,b≠it->s.heap.get? b=-o->h'.get? b=-o)(hn:H it=none)(hL:it≠X.env.locals)
  (h1:it∈X.ex\/X.s₀.heap.objs.size<=it) (h2:∀x c,X.env.cells.lookup x=-c->c≠it) (h3:∀p∈X.pn++Kz,p.1≠it):Inv X Kz σ H {s with heap:=h',toks:=t'}:=by
 let d:∀b u,H b=-u->b≠it:=λb u e z=>by rw[z,hn]at e;cases e
 show I.step (g':=s.gens) (d':=s.drawn) (ch:=[it]) (λb hb=>?_) (λb o _ _ a e _=>k b o (λz=>a (by simp[z])) e) (λb o _ _ a e _=>⟨o.slots,k b o (λz=>a (by simp[z])) e⟩) (λ_ _ _ _ n=>n)
  (λb o a e=>⟨o,k b o (λz=>a (by simp[z])) e⟩) (λ_ _ e=>e) (λ_ _ _ e=>e) (λb j e=>⟨#[],by rw[e];simp⟩) (λm f=>?_) (λb u e=>?_) I.bare
 ·let e:b=it:=by simpa using hb
  subst e;show⟨h1,hL,h2,h3⟩
 ·let⟨o,g,h,i,r⟩:=f;show⟨o,g,h,k _ o (Jd hL) i,r⟩
 ·show(I.hok b u e).stay (λc v a q=>k c v ?_ q) (λ_ q=>q) λ_ _ q=>q
  rcases a with z|z
  ·rw[z];show d b u e
  ·show d c _ z
def Inv.tok(I:Inv X Kz σ H s)(t:Nat):Inv X Kz σ H {s with toks:=t}:=I.un (h':=s.heap) (t':=t) Un.refl I.hok
def Inv.kept(I:Inv X Kz σ H s)(k:∀b u,s.heap.get? b=-u->h'.get? b=-u):Inv X Kz σ H {s with heap:=h',toks:=t'}:=I.un (Un.kept k) (I.hok.kept k)
def Inv.laid(I:Inv X Kz σ H s)(k:∀b u,s.heap.get? b=-u->h'.get? b=-u)(hp:s.heap.objs.size<=a)(new:ObjOk X.prog X.w (upd H a o) h' a o):
  Inv X Kz σ (upd H a o) {s with heap:=h',toks:=t'}:=I.un (Un.laid k hp (I.hok.fresh hp)) (I.hok.laid k hp new)
def Inv.write(I:Inv X Kz σ H s)(mu:Mut (H x))(he:e=x\/H e=-(.own x))(k:∀b u,b≠e->s.heap.get? b=-u->h'.get? b=-u)(heo:∃u,h'.get? e=-u)
  (new:ObjOk X.prog X.w (upd H x o) h' x o):Inv X Kz σ (upd H x o) {s with heap:=h',toks:=t'}:=I.un (Un.write mu he k heo) (I.hok.write mu he k heo new)
def Inv.weak(I:Inv X Kz σ H s)(hl:Ku.length=σ.length)(w:∀(i:Nat)v,Ku[i]?=-(-v)->σ[i]?=-(-v)):Inv X Kz Ku H s:=
 ⟨I.ok,I.os,I.bare,I.base,let⟨m,b,a⟩:=I.loc;⟨m,b,λi x v c d e=>a i x v c (w i v d) e⟩,I.cell,I.free,I.freeC,I.pin,I.hok,hl.trans I.len⟩
def Inv.pins_of(I:Inv X Kz σ H s)(h:∀p∈pins',s.heap.get? p.1=-p.2/\H p.1=none/\p.1≠X.env.locals/\p.1∉X.fs/\∀v,p.2.data≠ .cell v):Inv X pins' σ H s:=
 ⟨I.ok,I.os,I.bare,I.base,I.loc,I.cell,I.free,I.freeC,λp a=>(Qt.mp a).elim (λz=>I.pin p (JF _ z)) (h p),I.hok,I.len⟩
def Qi2{N:List Str}(hN:N.Nodup){i j:Nat}(a:N[i]?=-x)(b:N[j]?=-x):i=j:=by
 let⟨e,c⟩:=Q3.mp a;let⟨f,d⟩:=Q3.mp b;show(Qab hN).mp (c.trans d.symm)
def Og(I:Inv X Kz σ H s)(hN:X.N.Nodup)(hi:X.N[i]?=-x)(hx:Loc X.env.scope x)(r:RelV v u)
  (h:∀s',Inv X Kz (σ.set i (-v)) H s'->(∃a,Heap.SameBut a s.heap s'.heap/\(a=X.env.locals\/X.env.cells.lookup x=-a))->Q ⟨⟩ s') (hf:X.fn x=true\/X.env.scope.names.lookup x=some .local:=by first|show .inl rfl|show .inr rfl|assumption):wpAny M A (storeName X.env x u) Q E s:=by
 let⟨m,hn,hl⟩:=id I.loc;let hcls:(X.env.scope.kind ==.class || (X.env.scope.kind ==.module&&X.env.locals != X.env.globals))=false:=by rw[I.ok.kind];rfl
 let hiσ:i<σ.length:=by rw[I.len];grind
 let cne:=I.cne;let g:∀{a:Addr}{h':Heap},(∃o,s.heap.get? a=-o/\H a=none)->Heap.SameBut a s.heap h'->HOk X.prog X.w H h':=λ{a h'} ha f b ob e=>by
  show(I.hok b ob e).stay (λc w' t q=>(f.2 c ?_).trans q) (λ_ q=>q) λ_ _ q=>q
  grind
 rcases hx with hk|hk
 ·show wpAny_storeName_local hk hn (λh' hn' f=>?_) hcls;let⟨oL,_,_,hoL,_⟩:=id hn;show h _ ⟨I.ok,I.os,I.bare,⟨λb o e n hb hx=>?_,λb o e n hb hx=>?_,I.base.free,λb o e hx=>?_,I.base.tups,I.base.frzs,I.base.tbls⟩,⟨_,hn',λj y v' l w e3=>?_⟩,λy c e=>?_,I.free,I.freeC,λp hp=>?_,g ⟨oL,hoL,I.free⟩ f,by simpa using I.len⟩ ⟨_,f,.inl ()⟩
  ·show(f.2 b (Qq (Qp (Qj e) I.ok.above))).trans (I.base.keep b o e n hb hx)
  ·let⟨sl,l⟩:=I.base.slot b o e n hb hx;show⟨sl,(f.2 b (Qq (Qp (Qj e) I.ok.above))).trans l⟩
  ·let⟨o',l⟩:=I.base.there b o e hx;show⟨o',(f.2 b (Qq (Qp (Qj e) I.ok.above))).trans l⟩
  ·by_cases hj:j=i
   ·subst hj;rw[hi]at l;cases l;rw[Ql hiσ]at w;cases w;show⟨u,r,.inl ⟨hk,"s"⟩⟩
   ·rw[Qg (Jd hj)]at w;let⟨u',r',q⟩:=hl j y v' l w e3;show⟨u',r',?_⟩;rcases q with⟨k,e⟩|⟨k,c,e,z⟩
    ·show .inl ⟨k,?_⟩;let:y≠x:=λe=>hj (Qi2 hN l (e▸hi))
     ext
    ·show .inr ⟨k,c,e,z.sameBut f (cne y c e)⟩
  ·let⟨w',z⟩:=I.cell y c e;show⟨w',z.sameBut f (cne y c e)⟩
  ·let⟨e,n,ne,nf,d⟩:=I.pin p hp;show⟨(f.2 p.1 ne).trans e,n,ne,nf,d⟩
 ·let hfn:X.fn x=true:=by
   ext
  let⟨c,t⟩:=I.ok.has x (.inl hk);let⟨w',z⟩:=I.cell x c t;show wpAny_storeName_cell I.ok.kind hk t z (λh' Kl f=>?_);let⟨oc,hoc,hocd⟩:=id z;show h {s with heap:=h'} ⟨I.ok,I.os,I.bare,⟨λb o e n hb hx=>?_,λb o e n hb hx=>?_,I.base.free,λb o e hx=>?_,I.base.tups,I.base.frzs,I.base.tbls⟩,⟨m,hn.sameBut f (Jd (cne x c t)),λj y v' l w e3=>?_⟩,λy c' e=>?_,I.free,I.freeC,λp hp=>?_,g ⟨oc,hoc,I.freeC x c t⟩ f,by simpa using I.len⟩ ⟨c,f,.inr t⟩
  ·show(f.2 b (Qq (Qp (Qj e) (I.ok.cab x c hfn t)))).trans (I.base.keep b o e n hb hx)
  ·let⟨sl,l⟩:=I.base.slot b o e n hb hx;show⟨sl,(f.2 b (Qq (Qp (Qj e) (I.ok.cab x c hfn t)))).trans l⟩
  ·let⟨o',l⟩:=I.base.there b o e hx;show⟨o',(f.2 b (Qq (Qp (Qj e) (I.ok.cab x c hfn t)))).trans l⟩
  ·by_cases hj:j=i
   ·subst hj;rw[hi]at l;cases l;rw[Ql hiσ]at w;cases w;show⟨u,r,.inr ⟨.inl hk,c,t,Kl⟩⟩
   ·rw[Qg (Jd hj)]at w;let⟨u',r',q⟩:=hl j y v' l w e3;show⟨u',r',?_⟩;rcases q with q|⟨k,c',e,z'⟩
    ·show .inl q
    ·show .inr ⟨k,c',e,z'.sameBut f ?_⟩;rintro rfl;show hj (Qi2 hN l (I.ok.inj _ _ _ e t▸hi))
  ·by_cases hcc:c'=c
   ·grind
   ·let⟨w2,z2⟩:=I.cell y c' e;show⟨w2,z2.sameBut f hcc⟩
  ·let⟨e,n,ne,nf,d⟩:=I.pin p hp;show⟨(f.2 p.1 ?_).trans e,n,ne,nf,d⟩
   grind
def Qb8(I:Inv X Kz σ H s)(hN:X.N.Nodup)(hi:X.N[i]?=-x)(hx:Loc X.env.scope x)(r:RelV v u)
  (h:∀s',Inv X Kz (σ.set i (-v)) H s'->Q ⟨⟩ s') (hf:X.fn x=true\/X.env.scope.names.lookup x=some .local:=by first|show .inl rfl|show .inr rfl|assumption):wpAny M A (storeName X.env x u) Q E s:=
 Og I hN hi hx r (λs' I' _=>h s' I') hf
def Inv.call'(I:Inv X Kz σ H s)(ho:s'.os=s.os)(u:Un (frs X.stack) ch H H' s.heap s'.heap)(hok:HOk X.prog X.w H' s'.heap)(hg:AllBare s'.gens)
  (hch:∀b∈ch,(b∈X.ex\/X.s₀.heap.objs.size<=b)/\b≠X.env.locals/\(∀x c,X.env.cells.lookup x=-c->c≠b)/\∀p∈X.pn++Kz,p.1≠b):Inv X Kz σ H' s':=by
 let⟨a,d,f,g,h⟩:=s';let e:=ho;subst e;show I.call u hok hg hch
end
abbrev XK:=Value->Option Addr->Hp->Prop
abbrev St:=List (Option V)
abbrev VK:=V->Hp->Prop
abbrev TE:=St->Hp->VK->Prop
abbrev TT:=St->Hp->(Bool->Hp->Prop)->Prop
abbrev TA:=St->Hp->(List V->Hp->Prop)->Prop
structure Ends where
 nx:St->Hp->Prop
 rt:VK
 bk:St->Hp->Prop:=λ_ _=>False
 ct:St->Hp->Prop:=λ_ _=>False
abbrev TS:=Ends->St->Hp->Prop
def EP(X:Cx)(Kz:Kg)(σ:St)(Q:VK)(u:Value)(s':Shared):Prop:=∃v H',Inv X Kz σ H' s'/\RelV v u/\Q v H'
def TP(X:Cx)(Kz:Kg)(σ:St)(Q:Bool->Hp->Prop)(b:Bool)(s':Shared):Prop:=∃H',Inv X Kz σ H' s'/\Q b H'
def AP(X:Cx)(Kz:Kg)(σ:St)(Q:List V->Hp->Prop)(us:List Value)(s':Shared):Prop:=∃vs H',Inv X Kz σ H' s'/\Vals vs us/\Q vs H'
def SP(X:Cx)(Kz:Kg)(D:Ends)(f:Flow)(s':Shared):Prop:=
 match f with
 |.next=>∃Ku H',Inv X Kz Ku H' s'/\D.nx Ku H'|.brk=>∃Ku H',Inv X Kz Ku H' s'/\D.bk Ku H'|.cont=>∃Ku H',Inv X Kz Ku H' s'/\D.ct Ku H'|.ret u=>∃v Ku H',Inv X Kz Ku H' s'/\RelV v u/\D.rt v H'
def PE(X:Cx)(e:Expr)(t:TE):Prop:=
 ∀(Kz:Kg)(s:Shared)(σ:St)(H:Hp)(Q:VK),Inv X Kz σ H s->t σ H Q->wpAny (model X.prog X.w) X.A (eval e X.env) (EP X Kz σ Q) X.xe s
def PT(X:Cx)(e:Expr)(t:TT):Prop:=
 ∀(Kz:Kg)(s:Shared)(σ:St)(H:Hp)(Q:Bool->Hp->Prop),Inv X Kz σ H s->t σ H Q->wpAny (model X.prog X.w) X.A (isTrue e X.env (eval e X.env)) (TP X Kz σ Q) X.xe s
def PW(X:Cx)(e:Expr)(t:TT):Prop:=
 ∀(whole:Sem Value)(Kz:Kg)(s:Shared)(σ:St)(H:Hp)(Q:Bool->Hp->Prop),Inv X Kz σ H s->t σ H Q->wpAny (model X.prog X.w) X.A (isTrue e X.env whole) (TP X Kz σ Q) X.xe s
def PW.pt(h:PW X e t):PT X e t:=h _
def PA(X:Cx)(es:List Expr)(t:TA):Prop:=
 ∀(pos:Pos)(Kz:Kg)(s:Shared)(σ:St)(H:Hp)(Q:List V->Hp->Prop),Inv X Kz σ H s->t σ H Q->wpAny (model X.prog X.w) X.A (spliced (backTo pos (starEach es X.env))) (AP X Kz σ Q) X.xe s
def PS(X:Cx)(st:Stmt)(t:TS):Prop:=
 ∀(Kz:Kg)(s:Shared)(σ:St)(H:Hp)(D:Ends),Inv X Kz σ H s->t D σ H->wpAny (model X.prog X.w) X.A (exec st X.env) (SP X Kz D) X.xe s
def PSs(X:Cx)(st:List Stmt)(t:TS):Prop:=
 ∀(Kz:Kg)(s:Shared)(σ:St)(H:Hp)(D:Ends),Inv X Kz σ H s->t D σ H->wpAny (model X.prog X.w) X.A (execs st X.env) (SP X Kz D) X.xe s
def thn{α:Type}{t:Sem α}{Q Q':α->Shared->Prop}{M:Model}{A:Around}{E:Kh}{s:Shared}(h:wpAny M A t Q E s)(hQ:∀a s,Q a s->Q' a s):wpAny M A t Q' E s:=Jn h hQ λ_ _ x=>x
section
variable {X:Cx}
def bin{a b:Expr}{ta tb:TE}(ha:PE X a ta)(hb:PE X b tb){Kz:Kg}{s:Shared}{σ:St}{H:Hp}{R:V->V->Hp->Prop}(I:Inv X Kz σ H s)(h:ta σ H λx H1=>tb σ H1 λy H2=>R x y H2)
  {α:Type} {Q:α->Shared->Prop} {f:Value->Value->Sem α}
  (hf:∀v u s2 x y H2,Inv X Kz σ H2 s2->RelV x v->RelV y u->R x y H2->wpAny (model X.prog X.w) X.A (f v u) Q X.xe s2) :
  wpAny (model X.prog X.w) X.A (eval a X.env) (λv Km=>wpAny (model X.prog X.w) X.A (eval b X.env) (λu s₂=>wpAny (model X.prog X.w) X.A (f v u) Q X.xe s₂) X.xe Km) X.xe s:=by
 show thn (ha Kz s σ H _ I h) λv c ⟨x,H1,I1,d,e⟩=>?_
 show thn (hb Kz c σ H1 _ I1 e) λu s2 ⟨y,H2,I2,g,i⟩=>?_
 show hf v u s2 x y H2 I2 d g i
def Qb6(i:Nat):TE:=λσ H Q=>∃v,σ[i]?=-(-v)/\Q v H
def tC(v:V):TE:=λ_ H Q=>Q v H
def Wv(hN:X.N[i]?=-x)(hv:Vis X.env.scope x)(hd:(x==("__debug__":Str))=false:=by decide)(hcd:(x==("__classdict__":Str))=false:=by decide):PE X (.Name x pos) (Qb6 i):=by
 intro Kz s g H Q I h;let⟨v,e,h⟩:=h;let⟨m,j,hl⟩:=I.loc;let⟨u,r,l⟩:=hl i x v hN e hv;let b:EP X Kz g Q u s:=⟨v,H,I,r,h⟩;rcases l with⟨d,k⟩|⟨d,c,f,a⟩
 ·show wpAny_Name (wpAny_loadName_local I.ok.kind d j k b) hd
 ·rcases d with d|d
  ·show wpAny_Name (wpAny_loadName_cell I.ok.kind d f a b) hd
  ·show wpAny_Name (wpAny_loadName_free I.ok.kind d f a b hcd) hd
def Jb2:PE X (.Constant (.int i) j pos) (tC (.int i)):=λ_ _ _ H _ I h=>wpAny_Constant_int ⟨.int i,H,I.tok _,⟨_,()⟩,h⟩
def Qz8:PE X (.Constant (.bool b) j pos) (tC (.bl b)):=λ_ _ _ H _ I h=>Constant_bool ⟨.bl b,H,I,(),h⟩
def Jb1:PE X (.Constant .none j pos) (tC .non):=λ_ _ _ H _ I h=>Constant_none ⟨.non,H,I,(),h⟩
def Jaz:PE X (.Constant (.str x) j pos) (tC (.str x)):=λ_ _ _ H _ I h=>Calls.Constant_str ⟨.str x,H,I.tok _,⟨_,()⟩,h⟩
def Gl(X:Cx)(x:Str):Prop:=X.env.kindOf x=-.globalImplicit
def Qn9(I:Inv X Kz σ H s)(hg:Gl X x)(hm:X.mg x=-u)(h:Q u s)
  (hd:(x==("__debug__":Str))=false:=by decide):wpAny (model X.prog X.w) X.A (eval (.Name x pos) X.env) Q E s:=
 Calls.Name_function_global I.ok.kind hg (Calls.loadGlobal_global (by rw[I.ok.glob];show I.mod.glob.keeps I.bk) hm h) hd
def Uo(I:Inv X Kz σ H s)(hg:Gl X x)(hm:X.mg x=none)(hv:bootBuiltins x=-u)(h:Q u s)
  (hn:x≠ "__name__":=by decide) (hd:(x==("__debug__":Str))=false:=by decide):wpAny (model X.prog X.w) X.A (eval (.Name x pos) X.env) Q E s:=by
 let⟨mb,a,b⟩:=I.mod.blt;show Calls.Name_function_global I.ok.kind hg (Calls.loadGlobal_builtin (by rw[I.ok.glob];show I.mod.glob.keeps I.bk) hm (by rw[I.ok.blt];show a.keeps I.bk) ((b x hn).trans hv) h) hd
def Qx2(hg:Gl X x)(hm:X.mg x=none)(hv:bootBuiltins x=-u)(r:RelV v u)(hn:x≠ "__name__":=by decide)(hd:(x==("__debug__":Str))=false:=by decide):PE X (.Name x pos) (tC v):=
 λ_ _ _ H _ I h=>Uo I hg hm hv ⟨v,H,I,r,h⟩ hn hd
variable {a b:Expr} {ta tb:TE} {pos:Pos}
def PC(X:Cx)(op:CmpOp)(a b:Expr)(t:TE):Prop:=
 ∀(Kz:Kg)(s:Shared)(σ:St)(H:Hp)(Q:VK),Inv X Kz σ H s->t σ H Q ->
  wpAny (model X.prog X.w) X.A (eval a X.env) (λv Km=>wpAny (model X.prog X.w) X.A (eval b X.env) (λu s₂=>wpAny (model X.prog X.w) X.A (compareOp op v u) (EP X Kz σ Q) X.xe s₂) X.xe Km) X.xe s
def tB(t:TE):TT:=λσ H Q=>t σ H λx H1=>∃c,x=.bl c/\Q c H1
def Jb4{op:CmpOp}{t:TE}(h:PC X op a b t)(h1:behindInMarks op b=false:=by first|show nobehind _ "d" "d"|rfl):PE X (.Compare a [op] [b] pos) t:=λKz s c H Q I d=>wpAny_Compare1 (h Kz s c H Q I d) h1
def Jfe{op:CmpOp}{t:TE}(h:PC X op a b t)(h1:behindInMarks op b=false:=by first|show nobehind _ "d" "d"|rfl):PT X (.Compare a [op] [b] pos) (tB t):=by
 intro Kz s e H Q I f;show wpAny_isTrue_Compare1 (thn (h Kz s e H _ I f) λv k h1=>thn h1 λu l g=>thn g λc m ⟨x,H1,I1,i,j⟩=>?_) h1;let⟨d,rfl,q⟩:=j;cases i;show Z2 ⟨H1,I1,q⟩
def Jar{e:Expr}{t:TE}(h:PE X e t)(he:∀whole,isTrue e X.env whole=(do let v<-whole;standAt e.pos;holding [v] (truthy v)):=by intro _;rfl):PT X e (tB t):=by
 intro Kz s a H Q I b;show isTrue_plain (thn (h Kz s a H _ I b) λv g ⟨x,H1,I1,c,f⟩=>?_) (he _);let⟨d,rfl,q⟩:=f;cases c;show Z2 ⟨H1,I1,q⟩
variable {tA tB':TT} {rest:List Expr}
def Jfb(t u:TT):TT:=λσ H Q=>t σ H λc H1=>if c=true then u σ H1 Q else Q false H1
def tOr(t u:TT):TT:=λσ H Q=>t σ H λc H1=>if c=true then Q true H1 else u σ H1 Q
def Jf5(t:TT):TT:=λσ H Q=>t σ H λc H1=>Q (!c) H1
def Qwj(ha:PT X a tA):PW X (.BoolOp .And [a] pos) tA:=by
 intro d Kz s b H Q I h;show isTrue_and (thn (ha Kz s b H Q I h) λc f e=>?_);cases c with
 |true=>show isTrue_and_nil e|false=>show e
def Jaq(ha:PT X a tA):PW X (.BoolOp .Or [a] pos) tA:=by
 intro d Kz s b H Q I h;show isTrue_or (thn (ha Kz s b H Q I h) λc f e=>?_);cases c with
 |false=>show isTrue_or_nil e|true=>show e
def Qro(ha:PT X a tA)(hb:PW X (.BoolOp .And (b::rest) pos) tB'):PW X (.BoolOp .And (a::b::rest) pos) (Jfb tA tB'):=by
 intro f Kz s d H Q I h;show isTrue_and (thn (ha Kz s d H _ I h) λc g ⟨H1,I1,e⟩=>?_);cases c with
 |true=>show hb f Kz g d H1 Q I1 e|false=>show⟨H1,I1,e⟩
def Qz5(ha:PT X a tA)(hb:PW X (.BoolOp .Or (b::rest) pos) tB'):PW X (.BoolOp .Or (a::b::rest) pos) (tOr tA tB'):=by
 intro f Kz s d H Q I h;show isTrue_or (thn (ha Kz s d H _ I h) λc g ⟨H1,I1,e⟩=>?_);cases c with
 |true=>show⟨H1,I1,e⟩|false=>show hb f Kz g d H1 Q I1 e
def Jas(ha:PT X a tA):PT X (.UnaryOp .Not a pos) (Jf5 tA):=by
 intro Kz s b H Q I h;show isTrue_not (ha Kz s b H (λc H1=>Q (!c) H1) I h)
def Jd8(ta tb:TE):TE:=λσ H Q=>ta σ H λx H1=>∃c,x=.bl c/\if c=true then tb σ H1 Q else Q (.bl false) H1
def Jb0(h:PE X a t):PE X (.BoolOp op [a] pos) t:=λKz s b H Q I c=>BoolOp_one (h Kz s b H Q I c)
def Qs8(ha:PE X a ta)(hb:PE X (.BoolOp .And (b::rest) pos) tb):PE X (.BoolOp .And (a::b::rest) pos) (Jd8 ta tb):=by
 intro Kz s e H Q I h;show BoolOp_and (thn (ha Kz s e H _ I h) λv f ⟨x,H1,I1,g,d⟩=>?_);let⟨c,rfl,d⟩:=d;cases g;show Z2 ?_;cases c with
 |true=>show hb Kz f e H1 Q I1 d|false=>show⟨.bl false,H1,I1,(),d⟩
def tIf(t:TT)(ta tb:TE):TE:=λσ H Q=>t σ H λc H1=>if c=true then ta σ H1 Q else tb σ H1 Q
def Qs5{c:Expr}(hc:PT X c tA)(ha:PE X a ta)(hb:PE X b tb):PE X (.IfExp c a b pos) (tIf tA ta tb):=by
 intro Kz s e H Q I h;show wpAny_IfExp (thn (hc Kz s e H _ I h) λd f ⟨H1,I1,g⟩=>?_);cases d with
 |true=>show ha Kz f e H1 Q I1 g|false=>show hb Kz f e H1 Q I1 g
end
def SqL(K:W.Frag)(H:Hp)(a:Addr)(xs:List V):Prop:=
 Rd H a (.lst xs) \/
  ∃(o:Obj)(Kw:Array Value)(n:Nat),K.lookup a=-o/\o.cls=.type "list" /\o.dict=none/\o.data=.seq Kw n/\Kw.size<=sizeLine/\Vals xs Kw.toList
def SqT(K:W.Frag)(H:Hp)(a:Addr)(xs:List V):Prop:=
 Rd H a (.tup xs) \/
  ∃(o:Obj)(Kw:Array Value)(n:Nat),K.lookup a=-o/\o.cls=.type "tuple" /\o.data=.seq Kw n/\Kw.size<=sizeLine/\Vals xs Kw.toList
def Jfm:Value->Option V
 |.none=>-.non|.bool b=>-(.bl b)|.int i _=>-(.int i)|.str x _=>-(.str x)|.bytes b _=>-(.byt b)|.float b _=>-(.flt b)|.ref a=>-(.ref a)|.type n=>-(.ty n)|_=>none
def RelV.abs(r:RelV x u):Jfm u=some x:=by
 cases x with
 |non=>cases r;rfl
 |bl _=>cases r;rfl
 |int _=>let⟨t,rfl⟩:=r;rfl
 |str _=>let⟨t,rfl⟩:=r;rfl
 |byt _=>let⟨t,rfl⟩:=r;rfl
 |flt _=>let⟨t,rfl⟩:=r;rfl
 |ref _=>cases r;rfl
 |ty _=>cases r;rfl
def RelV.inj(r:RelV x u)(q:RelV y u):x=y:=QZ (r.abs.symm.trans q.abs)
theorem Vals.inj:∀{xs ys:List V}{us:List Value},Vals xs us->Vals ys us->xs=ys
 |_,_,_,.nil,.nil=>rfl|_,_,_,.cons r t,.cons a b=>by rw[r.inj a,Vals.inj t b]
section
variable {X:Cx} {Kz:Kg} {σ:St} {H:Hp} {s:Shared} {a:Addr} {xs ys:List V}
def SqL.of{K:W.Frag}(h:H a=-(.lst xs)):SqL K H a xs:=.inl (.inl h)
def SqT.of{K:W.Frag}(h:H a=-(.tup xs)):SqT K H a xs:=.inl (.inl h)
def Inv.list(I:Inv X Kz σ H s)(h:SqL X.K H a xs):∃Kw:List Value,Vals xs Kw/\PlainL s.heap a Kw.toArray/\xs.length<=sizeLine:=by
 rcases h with h|⟨o,Kw,n,b,c,hd,d,f,r⟩
 ·let⟨z,Kw,n,r,e⟩:=h.ok I.hok;show⟨Kw,r,⟨_,n,e,(),(),()⟩,z⟩
 ·show⟨Kw.toList,r,⟨o,n,I.kIn a o b,c,hd,"o"⟩,?_⟩;let e:=r.length
  ext
def Inv.tuple(I:Inv X Kz σ H s)(h:SqT X.K H a xs):∃Kw:List Value,Vals xs Kw/\IsTup s.heap a Kw.toArray/\xs.length<=sizeLine:=by
 rcases h with h|⟨o,Kw,n,b,c,d,f,r⟩
 ·let⟨z,Kw,r,p⟩:=h.ok I.hok;show⟨Kw,r,p,z⟩
 ·show⟨Kw.toList,r,⟨o,I.kIn a o b,c,n,by simpa using d⟩,?_⟩;let e:=r.length;simp only[Jo]at e
  lia
def Inv.list_inj(I:Inv X Kz σ H s)(h:SqL X.K H a xs)(h':SqL X.K H a ys):xs=ys:=by
 let⟨Kw,r,⟨o,n,e,_,_,d⟩,_⟩:=I.list h;let⟨b,g,⟨j,k,c,_,_,f⟩,_⟩:=I.list h';rw[e]at c;cases c;rw[d]at f;injection f with i _
 let:Kw=b:=by simpa using JL Array.toList i
 subst this;show r.inj g
def Inv.tuple_inj(I:Inv X Kz σ H s)(h:SqT X.K H a xs)(h':SqT X.K H a ys):xs=ys:=by
 let⟨Kw,r,⟨o,e,_,n,d⟩,_⟩:=I.tuple h;let⟨b,g,⟨j,c,_,k,f⟩,_⟩:=I.tuple h';rw[e]at c;cases c;rw[d]at f;injection f with i _
 let:Kw=b:=by simpa using JL Array.toList i
 subst this;show r.inj g
end
abbrev Cx.wish(X:Cx)(E:Kh):Cx:={X with xe:=E}
abbrev Cx.nox(X:Cx):Cx:=X.wish λ_ _=>False
def Cx.Ok.wish{X:Cx}(ok:X.Ok)(E:Kh):(X.wish E).Ok:=
 ⟨ok.mod,ok.kind,ok.glob,ok.blt,ok.above,ok.inj,ok.has,ok.cab,ok.hd,ok.frames,ok.stk,ok.exf,ok.bs,ok.bsz,ok.noex,ok.exfs,ok.funs,ok.frf⟩
def Cx.Ok.unwish{X:Cx}(ok:(X.wish E).Ok):X.Ok:=
 ⟨ok.mod,ok.kind,ok.glob,ok.blt,ok.above,ok.inj,ok.has,ok.cab,ok.hd,ok.frames,ok.stk,ok.exf,ok.bs,ok.bsz,ok.noex,ok.exfs,ok.funs,ok.frf⟩
section
variable {X:Cx} {Kz:Kg} {σ:St} {H:Hp} {s:Shared} {E:Kh}
def Inv.wish(I:Inv X Kz σ H s)(E:Kh):Inv (X.wish E) Kz σ H s:=⟨I.ok.wish E,I.os,I.bare,I.base,I.loc,I.cell,I.free,I.freeC,I.pin,I.hok,I.len⟩
def Inv.unwish(I:Inv (X.wish E) Kz σ H s):Inv X Kz σ H s:=⟨I.ok.unwish,I.os,I.bare,I.base,I.loc,I.cell,I.free,I.freeC,I.pin,I.hok,I.len⟩
def SP.unwish(h:SP (X.wish E) Kz D f s'):SP X Kz D f s':=by
 cases f with
 |next=>let⟨Ku,H',I,q⟩:=h;show⟨Ku,H',I.unwish,q⟩
 |brk=>let⟨Ku,H',I,q⟩:=h;show⟨Ku,H',I.unwish,q⟩
 |cont=>let⟨Ku,H',I,q⟩:=h;show⟨Ku,H',I.unwish,q⟩
 |ret u=>let⟨v,Ku,H',I,r,q⟩:=h;show⟨v,Ku,H',I.unwish,r,q⟩
def PSs.nox{st:List Stmt}(h:PSs X.nox st t):PSs X st t:=λKz s a H D I b =>
 Jn (h Kz s a H D (I.wish _) b) (λ_ _ q=>q.unwish) λ_ _ z=>False.elim z
end
section
variable {X:Cx} {st:Stmt} {rest:List Stmt} {t u:TS} {e:Expr} {te:TE} {pos:Pos}
def Jd0:TS:=λD σ H=>D.nx σ H
def Jf3(t u:TS):TS:=λD σ H=>t {D with nx:=u D} σ H
def Qwm:PSs X [] Jd0:=λ_ _ a H _ I h=>wpAny_execs_nil ⟨a,H,I,h⟩
def ZX(h1:PS X st t)(h2:PSs X rest u):PSs X (st::rest) (Jf3 t u):=by
 intro Kz s a H D I h;show wpAny_execs_cons (thn (h1 Kz s a H {D with nx:=u D} I h) λf b q=>?_);cases f with
 |next =>
  let⟨Ku,H',I',q⟩:=q;show h2 Kz b Ku H' D I' q
 |ret v=>show q|brk=>show q|cont=>show q
def Uk(h1:PS X st t):PSs X [st] t:=by
 intro Kz s a H D I h;show wpAny_execs_cons (thn (h1 Kz s a H D I h) λf b q=>?_);cases f with
 |next=>show wpAny_execs_nil q|ret v=>show q|brk=>show q|cont=>show q
def Inv.quiet(I:Inv X Kz σ H s):interactive X.env=false:=by simp[interactive,I.ok.kind]
def Jd5(te:TE):TS:=λD σ H=>te σ H λ_ H1=>D.nx σ H1
def Ul(he:PE X e te)(hs:swapsWith e none pos.line X.env=pure false:=by rfl):PS X (.Expr e pos) (Jd5 te):=by
 intro Kz s a H D I h;show wpAny_Expr_any (thn (he Kz s a H _ I h) λv c ⟨x,H1,I1,d,b⟩=>⟨a,H1,I1,b⟩) I.quiet hs
def Jf4(te:TE):TS:=λD σ H=>te σ H D.rt
def Ol(he:PE X e te):PS X (.Return (-e) pos) (Jf4 te):=by
 intro Kz s a H D I h;show wpAny_Return_some (thn (he Kz s a H _ I h) λv d ⟨x,H1,I1,b,c⟩=>⟨x,a,H1,I1,b,c⟩)
def Jf7(c:TT)(t u:TS):TS:=λD σ H=>c σ H λb H1=>if b=true then t D σ H1 else u D σ H1
def Qz6{c:Expr}{a b:List Stmt}{tc:TT}(hc:PT X c tc)(ha:PSs X a t)(hb:PSs X b u):PS X (.If c a b pos) (Jf7 tc t u):=by
 intro Kz s e H D I h;show wpAny_If (thn (hc Kz s e H _ I h) λd f ⟨H1,I1,g⟩=>?_);cases d with
 |true=>show ha Kz f e H1 D I1 g|false=>show hb Kz f e H1 D I1 g
def Qr2:TS:=λ_ _ _=>False
def Oj:PSs X sts Qr2:=λ_ _ _ _ _ _ h=>h.elim
end
abbrev TG:=V->St->Hp->(St->Hp->Prop)->Prop
abbrev TGs:=List V->St->Hp->(St->Hp->Prop)->Prop
def PG(X:Cx)(target:Expr)(t:TG):Prop:=
 ∀(Kz:Kg)(s:Shared)(σ:St)(H:Hp)(v:V)(u:Value)(Q:St->Hp->Prop),Inv X Kz σ H s->RelV v u->t v σ H Q ->
  wpAny (model X.prog X.w) X.A (assign target X.env u) (λ_ s'=>∃Ku H',Inv X Kz Ku H' s'/\Q Ku H') X.xe s
def PGs(X:Cx)(ts:List Expr)(t:TGs):Prop:=
 ∀(Kz:Kg)(s:Shared)(σ:St)(H:Hp)(vs:List V)(us:List Value)(Q:St->Hp->Prop),Inv X Kz σ H s->Vals vs us->t vs σ H Q ->
  wpAny (model X.prog X.w) X.A (assignInOrder ((assignEach ts X.env).map (·.2)) us) (λ_ s'=>∃Ku H',Inv X Kz Ku H' s'/\Q Ku H') X.xe s
section
variable {X:Cx} {pos:Pos}
def Qc4(i:Nat):TG:=λv σ H Q=>Q (σ.set i (-v)) H
def JR(hN:X.N.Nodup)(hi:X.N[i]?=-x)(hx:Loc X.env.scope x)(hf:X.fn x=true\/X.env.scope.names.lookup x=some .local:=by first|show .inl rfl|show .inr rfl|assumption):PG X (.Name x pos) (Qc4 i):=by
 intro Kz s a H v u Q I r h;show Qcs (Qb8 I hN hi hx r (λb I'=>⟨_,H,I',h⟩) hf)
def Jfj:TGs:=λvs σ H Q=>vs=[]/\Q σ H
def Jed(t:TG)(u:TGs):TGs:=λvs σ H Q=>∃v r,vs=v::r/\t v σ H λKu H'=>u r Ku H' Q
def Gw:PGs X [] Jfj:=by
 intro Kz s a H b c Q I r h;let⟨e,h⟩:=h;subst e;show assignInOrder_nil ⟨a,H,I,h⟩
def Vh{e:Expr}{es:List Expr}{t:TG}{u:TGs}(h1:PG X e t)(h2:PGs X es u)
  (hs:(assignEach (e::es) X.env).map (·.2)=assign e X.env::(assignEach es X.env).map (·.2):=by rfl):PGs X (e::es) (Jed t u):=by
 intro Kz s b H g i Q I r h;let⟨v,j,c,h⟩:=h;subst c;cases r with
 |cons r rr =>
  rw[hs];show assignInOrder_cons (thn (h1 Kz s b H _ _ _ I r h) λ_ d ⟨a,H1,I1,f⟩=>?_);show h2 Kz d a H1 _ _ Q I1 rr f
def Jfi(K:W.Frag)(n:Nat)(t:TGs):TG:=λv σ H Q=>∃a xs,v=.ref a/\SqT K H a xs/\xs.length=n/\t xs σ H Q
def Oo{es:List Expr}{k:Nat}{t:TGs}{n:Nat}(hc:X.calm=true)(h:PGs X es t)
  (hn:(assignEach es X.env).length=n:=by rfl) (hst:(assignEach es X.env).findIdx? (·.1)=none:=by rfl):PG X (.Tuple es k pos) (Jfi X.K n t):=by
 intro Kz s d H v u Q I r c;let⟨a,g,i,j,hl,c⟩:=c;subst i;cases r;let⟨Kw,f,l,p⟩:=I.tuple j;show assign_Tuple_tuple (I.ok.hd hc) l (by simp[hn,<-hl,f.length]) hst λm hx=>?_
 let I1:Inv X Kz d H {s with heap:=m}:=I.kept (t':=s.toks) λb o e=>hx b o (Qq (Qj e)) e
 show h Kz _ d H g _ Q I1 (by simpa using f) c
def Ja5(te:TE)(g:TG):TS:=λD σ H=>te σ H λx H1=>g x σ H1 D.nx
def Bj{i:Nat}{x:Str}{e:Expr}{te:TE}{pos':Pos}(hN:X.N.Nodup)(hi:X.N[i]?=-x)(hx:Loc X.env.scope x)(he:PE X e te)(hs:swapsWith e (-(.Name x pos')) pos.line X.env=pure false:=by rfl)(hf:X.fn x=true\/X.env.scope.names.lookup x=some .local:=by first|show .inl rfl|show .inr rfl|assumption):
  PS X (.Assign [.Name x pos'] e pos) (Ja5 te (Qc4 i)):=by
 intro Kz s a H D I h;show wpAny_Assign_Name (thn (he Kz s a H _ I h) λv d ⟨y,H1,I1,b,c⟩=>?_) hs;show Qb8 I1 hN hi hx b (λf I2=>⟨_,H1,I2,c⟩) hf
end
structure It where
 go:Nat->Hp->Prop
 yld:Nat->Hp->V->Hp->Prop
 stop:Nat->Hp->Prop
def FpOk(X:Cx)(Kz:Kg)(H:Hp)(b:Addr):Prop:=
 H b=none/\b≠X.env.locals/\b∉X.fs/\(b∈X.ex\/X.s₀.heap.objs.size<=b)/\(∀x c,X.env.cells.lookup x=-c->c≠b)/\∀p∈X.pn++Kz,p.1≠b
def Inv.fpOk(I:Inv X Kz σ H s)(hb:s.heap.objs.size<=b)(hn:H' b=none):FpOk X Kz H' b:=by
 show⟨hn,Ze (Qp I.lt hb),I.nofs hb,.inr (Qx I.sz hb),λx c e z=>?_,λp a z=>?_⟩
 ·let⟨v,q⟩:=I.cell x c e;show absurd (Qp q.lt "e") (JG _)
 ·show absurd (Qp (Qj (I.pin p a).1) "e") (JG _)
structure Turn(P:Program)(w:World)(K:W.Frag)(tg:Expr)(J:It)(fp:List Addr)(it:Addr)(tn:Nat->Heap->Prop):Prop where
 mem:it∈fp
 obj:∀i h,tn i h->∀b∈fp,∃o,h.get? b=-o/\∀v,o.data≠ .cell v
 keep:∀i h h',tn i h->(∀b∈fp,∀o,h.get? b=-o->h'.get? b=-o)->tn i h'
 item:∀(X:Cx),X.prog=P->X.w=w->X.K=K->X.calm=true->∀(i:Nat)(Kz:Kg)(s:Shared)(σ:St)(H:Hp)(E:Kh),Inv X Kz σ H s->(∀b∈fp,FpOk X Kz H b)->tn i s.heap->J.go i H ->
  wpAny (model P w) X.A (pyNext (.ref it)) (λr s1=>∃u,r=-u /\
   wpAny (model P w) X.A (letOwnedTupleGo tg (.ref it) u) (λ_ s2=>∃x H',Inv X Kz σ H' s2/\RelV x u/\J.yld i H x H'/\tn (i+1) s2.heap/\∀b∈fp,H' b=none) E s1) E s
 done:∀(X:Cx),X.prog=P->X.w=w->X.K=K->X.calm=true->∀(i:Nat)(Kz:Kg)(s:Shared)(σ:St)(H:Hp)(E:Kh),Inv X Kz σ H s->(∀b∈fp,FpOk X Kz H b)->tn i s.heap->J.stop i H ->
  wpAny (model P w) X.A (pyNext (.ref it)) (λr s1=>r=none/\Inv X Kz σ H s1) E s
 self:∀(A:Around)(i:Nat)(s:Shared)(Q:Kh)(E:Kh),tn i s.heap->Q (.ref it) s->wpAny (model P w) A (pyIter (.ref it)) Q E s
abbrev TI:=St->Hp->(It->Hp->Prop)->Prop
def PIE(X:Cx)(Kz:Kg)(σ:St)(tg:Expr)(R:It->Hp->Prop)(itv:Value)(s2:Shared):Prop:=
 ∃(it:Addr)(fp:List Addr)(tn:Nat->Heap->Prop)(J:It)(H':Hp),itv=.ref it/\Inv X Kz σ H' s2/\Turn X.prog X.w X.K tg J fp it tn/\tn 0 s2.heap/\(∀b∈fp,FpOk X Kz H' b)/\R J H'
def PI(X:Cx)(tg iter:Expr)(wi:TI):Prop:=
 ∀(Kz:Kg)(s:Shared)(σ:St)(H:Hp)(R:It->Hp->Prop),Inv X Kz σ H s->wi σ H R ->
  wpAny (model X.prog X.w) X.A (eval iter X.env) (λv s1=>wpAny (model X.prog X.w) X.A (pyIter v) (PIE X Kz σ tg R) X.xe s1) X.xe s
def Qnh{M:Model}{A:Around}{E:Kh}{s:Shared}{tg:Expr}{it:Addr}{u:Value}{o:Obj}{n:String}{vs:Array Value}{Q:Unit->Shared->Prop}(ho:s.heap.get? it=-o)(hc:o.cls=.type n)(hd:o.data=.fields vs)
  (hn:["enumerate", "zip", "dict_itemiterator", "dict_reverseitemiterator", "odict_iterator", "itertools.zip_longest", "itertools.pairwise"].contains n=false) (hQ:Q ⟨⟩ s):wpAny M A (letOwnedTupleGo tg (.ref it) u) Q E s:=by
 unfold letOwnedTupleGo;cases tg<;>first
  |show Q2 hQ
  | (cases u<;>first
    |show Q2 hQ
    | (show Q0 (wpAny_load ho ?_)
       rw[hc,hd];change wpAny M A (if(["enumerate", "zip", "dict_itemiterator", "dict_reverseitemiterator", "odict_iterator", "itertools.zip_longest", "itertools.pairwise"].contains n&&vs[0]? == -(rawInt _))=true then _ else _) Q E s;rw[Qc (by intro h;rw[hn,Bool.false_and]at h;cases h)];show Q2 hQ))
def Itl(K:W.Frag)(a:Addr):It:=
 ⟨λi H=>∃xs x,SqL K H a xs/\xs[i]?=-x,λi H x H'=>H'=H/\∀xs,SqL K H a xs->xs[i]?=-x,λi H=>∃xs,SqL K H a xs/\xs.length<=i⟩
def Itt(K:W.Frag)(a:Addr):It:=
 ⟨λi H=>∃xs x,SqT K H a xs/\xs[i]?=-x,λi H x H'=>H'=H/\∀xs,SqT K H a xs->xs[i]?=-x,λi H=>∃xs,SqT K H a xs/\xs.length<=i⟩
def Itr(lo:Int)(n:Nat):It:=⟨λi _=>i<n,λi H x H'=>H'=H/\x=.int (lo+i),λi _=>n<=i⟩
def Qoh{K:W.Frag}(a it:Addr):Turn P w K tg (Itl K a) [it] it (λi h=>h.IsListIter it a i) where
 mem:="s"
 obj:=λi h st b hb=>by
  let e:b=it:="e"
  let⟨o,e,c,d⟩:=st
  ext
 keep:=λi h h' st k=>st.at λo e=>k it "s" o e
 item:=by
  intro X hP hw hK hc i Kz s σ H E I hf st hg;subst hP hw hK;let⟨xs,x,hq,hx⟩:=hg;let⟨Kw,rv,p,hz⟩:=I.list hq;let⟨u,hu,ru⟩:=rv.get hx;let⟨f0,f1,f2,f3,f4,f5⟩:=hf it "s";show wpAny_pyNext_list_item st p.isList (x:=u) "e" λh' st' sb=>?_
  let I1:Inv X Kz σ H {s with heap:=h'}:=I.turned (λb o hb e=>(sb.2 b hb).trans e) f0 f1 f3 f4 f5;let⟨o,e,c,d⟩:=id st';show⟨u,(),Qnh e c d "d" ⟨x,H,I1,ru,⟨(),λys hy=>by rw[I.list_inj hy hq];show hx⟩,st',λb hb=>(hf b hb).1⟩⟩
 done:=by
  intro X hP hw hK hc i Kz s σ H E I hf st hg;subst hP hw hK;let⟨xs,hq,hx⟩:=hg;let⟨Kw,rv,p,hz⟩:=I.list hq;let⟨f0,f1,f2,f3,f4,f5⟩:=hf it "s";let hl:=rv.length;show wpAny_pyNext_list_end (I.ok.hd hc) st p.isList (by simp;lia) λh' eb=>⟨(),I.turned (λb o hb e=>eb b o hb e) f0 f1 f3 f4 f5⟩
 self:=λ_ _ _ _ _ st h=>wpAny_pyIter_listiter st h
def Qk5{K:W.Frag}(a it:Addr):Turn P w K tg (Itt K a) [it] it (λi h=>h.IsTupleIter it a i) where
 mem:="s"
 obj:=λi h st b hb=>by
  let e:b=it:="e"
  let⟨o,e,c,d⟩:=st
  ext
 keep:=λi h h' st k=>st.at λo e=>k it "s" o e
 item:=by
  intro X hP hw hK hc i Kz s σ H E I hf st hg;subst hP hw hK;let⟨xs,x,hq,hx⟩:=hg;let⟨Kw,rv,p,hz⟩:=I.tuple hq;let⟨u,hu,ru⟩:=rv.get hx;let⟨f0,f1,f2,f3,f4,f5⟩:=hf it "s";show wpAny_pyNext_tuple_item st ((p)) (x:=u) "e" λh' st' sb=>?_
  let I1:Inv X Kz σ H {s with heap:=h'}:=I.turned (λb o hb e=>(sb.2 b hb).trans e) f0 f1 f3 f4 f5;let⟨o,e,c,d⟩:=id st';show⟨u,(),Qnh e c d "d" ⟨x,H,I1,ru,⟨(),λys hy=>by rw[I.tuple_inj hy hq];show hx⟩,st',λb hb=>(hf b hb).1⟩⟩
 done:=by
  intro X hP hw hK hc i Kz s σ H E I hf st hg;subst hP hw hK;let⟨xs,hq,hx⟩:=hg;let⟨Kw,rv,p,hz⟩:=I.tuple hq;let⟨f0,f1,f2,f3,f4,f5⟩:=hf it "s";let hl:=rv.length;show wpAny_pyNext_tuple_end (I.ok.hd hc) st ((p)) (by simp;lia) λh' eb=>⟨(),I.turned (λb o hb e=>eb b o hb e) f0 f1 f3 f4 f5⟩
 self:=λ_ _ _ _ _ st h=>wpAny_pyIter_tupleiter st h
def Qk6{K:W.Frag}(it:Addr)(lo:Int)(n:Nat):Turn P w K tg (Itr lo n) [it] it (λi h=>IsRangeIter h it (lo+(i:Nat)*1) ((n:Int)-(i:Nat)) 1) where
 mem:="s"
 obj:=λi h st b hb=>by
  ext
 keep:=λi h h' st k=>k it "s" _ st
 item:=by
  intro X hP hw hK hc i Kz s σ H E I hf st hg;subst hP hw hK;let⟨f0,f1,f2,f3,f4,f5⟩:=hf it "s";let W:=Walks.range (prog:=X.prog) (w:=X.w) (I.ok.hd hc) it lo 1 n;show W.item i s _ _ hg st λv h' tk hv st' kk=>?_
  let⟨t,rfl⟩:=hv;let I1:Inv X Kz σ H {s with heap:=h',toks:=tk}:=I.turned (λb o hb e=>kk b o "e" e) f0 f1 f3 f4 f5;show⟨_,(),Qnh st' () () "d" ⟨.int (lo+i),H,I1,⟨t,?_⟩,⟨(),()⟩,st',λb hb=>(hf b hb).1⟩⟩
  ext
 done:=by
  intro X hP hw hK hc i Kz s σ H E I hf st hg;let⟨f0,f1,f2,f3,f4,f5⟩:=hf it "s";show wpAny_pyNext_range_end (I.ok.hd hc) st (by let:n<=i:=hg;lia) λh' eb=>⟨(),I.turned (λb o hb e=>eb b o hb e) f0 f1 f3 f4 f5⟩
 self:=λ_ _ _ _ _ st h=>wpAny_pyIter_rangeiter st h
section
variable {X:Cx} {tg:Expr}
def Qih(K:W.Frag)(tl:TE):TI:=λσ H R=>tl σ H λx H1=>∃a,x=.ref a/\(∃xs,SqL K H1 a xs)/\R (Itl K a) H1
def Jea(K:W.Frag)(tl:TE):TI:=λσ H R=>tl σ H λx H1=>∃a,x=.ref a/\(∃xs,SqT K H1 a xs)/\R (Itt K a) H1
def Ye{l:Expr}{tl:TE}(hl:PE X l tl):PI X tg l (Qih X.K tl):=by
 intro Kz s d H R I h;show thn (hl Kz s d H _ I h) λv c ⟨x,H1,I1,f,g⟩=>?_
 let⟨a,e,⟨j,i⟩,q⟩:=g;subst e;cases f;let⟨Kw,k,p,m⟩:=I1.list i;show Qcp p.isList ?_;show⟨c.heap.objs.size,[c.heap.objs.size],_,_,H1,(),I1.kept (t':=c.toks) λb o e=>Q1 _ e,Qoh a _,⟨_,Q9 _ (),(),()⟩,λb hb=>?_,q⟩;let e:b=c.heap.objs.size:="e"
 subst e;show I1.fpOk (Q5 _) (I1.hok.fresh (Q5 _))
def Qfp{l:Expr}{tl:TE}(hl:PE X l tl):PI X tg l (Jea X.K tl):=by
 intro Kz s d H R I h;show thn (hl Kz s d H _ I h) λv c ⟨x,H1,I1,f,g⟩=>?_
 let⟨a,e,⟨j,i⟩,q⟩:=g;subst e;cases f;let⟨Kw,k,p,m⟩:=I1.tuple i;show YW (show c.heap.IsTuple a Kw.toArray from p) ?_;show⟨c.heap.objs.size,[c.heap.objs.size],_,_,H1,(),I1.kept (t':=c.toks) λb o e=>Q1 _ e,Qk5 a _,⟨_,Q9 _ (),(),()⟩,λb hb=>?_,q⟩;let e:b=c.heap.objs.size:="e"
 subst e;show I1.fpOk (Q5 _) (I1.hok.fresh (Q5 _))
def Qrn{lo hi:Int}(I:Inv X Kz σ H s)(h1: Neg.neg (2^62:Int)<=lo)(h2:lo<2^62)(h3: Neg.neg (2^62:Int)<=hi)(h4:hi<2^62)
  (q:R (Itr lo (hi-lo).toNat) H):wpAny (model X.prog X.w) X.A (pyIter (.ref s.heap.objs.size)) (PIE X Kz σ tg R) E {s with heap:=s.heap.push {cls:=.type "range",data:=.fields #[.int lo t,.int hi u,.int 1 v]},toks:=tk}:=by
 show wpAny_pyIter_range (IsRange.new ..) (small_one h1 h2 h3 h4) ?_;let I1:Inv X Kz σ H {s with heap:=s.heap.push {cls:=.type "range",data:=.fields #[.int lo t,.int hi u,.int 1 v]},toks:=tk}:=I.kept λb o e=>Q1 _ e
 show⟨(s.heap.push {cls:=.type "range",data:=.fields #[.int lo t,.int hi u,.int 1 v]}).objs.size,[(s.heap.push {cls:=.type "range",data:=.fields #[.int lo t,.int hi u,.int 1 v]}).objs.size],_,_,H,(),
  I1.kept λb o e=>Q1 _ e,Qk6 _ lo (hi-lo).toNat,?_,λb hb=>?_,q⟩
 ·let a:lo+((0:Nat):Int)*1=lo:="s"
  let c:(((hi-lo).toNat:Nat):Int)-((0:Nat):Int)=Builtin.Range.rangeSize lo hi 1:=by rw[rangeSize_one];lia
  change IsRangeIter _ _ (lo+((0:Nat))*1) ((((hi-lo).toNat))-((0:Nat))) 1;rw[a,c];show Q9 _ ()
 ·let e:b=(s.heap.push {cls:=.type "range",data:=.fields #[.int lo t,.int hi u,.int 1 v]}).objs.size:="e"
  subst e;show I1.fpOk (Q5 _) (I1.hok.fresh (Q5 _))
def Jeb(ta:TA):TI:=λσ H R=>ta σ H λvs H1=>∃j:Int,vs=[.int j]/\ Neg.neg (2^62:Int)<=j/\j<2^62/\R (Itr 0 j.toNat) H1
def Qdn{a:Expr}{ta:TA}{p pos:Pos}(hg:Gl X "range")(hm:X.mg "range"=none)(ha:PA X [a] ta)(hs:starEach [a] X.env=[(false,eval a X.env)]:=by rfl):PI X tg (.Call (.Name "range" p) [a] [] pos) (Jeb ta):=by
 intro Kz s c H R I h;show Call_ (Uo I hg hm boot_range (WA (thn (ha pos Kz s c H _ I h) λg i ⟨k,H1,I1,d,b⟩=>?_) hs ()));let⟨j,e,b,f,q⟩:=b;subst e;cases d with
 |cons r rr =>
  cases rr;let⟨t,rfl⟩:=r;show call_range_1 (Qrn I1 "l" "l" b f (by simpa using q))
def Jf8(wi:TI)(g:TG)(tb:TS):TS:=λD σ H=>wi σ H λJ H1=>∃W:Nat->Nat->St->Hp->Prop,(∃m,W 0 m σ H1)/\∀i m σ H,W i m σ H ->
 (J.stop i H/\D.nx σ H)\/(J.go i H/\∃N:St->Hp->Prop,(∀Ku H',N Ku H'->∃m',m'<m/\W (i+1) m' Ku H')/\∀x H',J.yld i H x H'->g x σ H' λσ2 H2=>tb {D with nx:=N,ct:=N,bk:=D.nx} σ2 H2)
def Um(fp:List Addr)(h:Heap):Kg:=fp.filterMap λb=>(h.get? b).map λo=>(b,o)
def ZM(hb:b∈fp)(e:h.get? b=-o):(b,o)∈Um fp h:=Ba.mpr ⟨b,hb,by rw[e];rfl⟩
def Qp3{fp:List Addr}{h:Heap}{p:Addr×Obj}(hp:p∈Um fp h):p.1∈fp/\h.get? p.1=-p.2:=by
 let⟨b,hb,e⟩:=Ba.mp hp;cases q:h.get? b with
 |none=>rw[q]at e;cases e
 |some o =>
  rw[q]at e;let a:(b,o)=p:=QZ e;subst a;show⟨hb,q⟩
def Inv.pinned{Kz:Kg}{σ:St}{H:Hp}{s:Shared}{fp:List Addr}(I:Inv X Kz σ H s)(hf:∀b∈fp,FpOk X Kz H b)(ho:∀b∈fp,∃o,s.heap.get? b=-o/\∀v,o.data≠ .cell v):Inv X (Kz++Um fp s.heap) σ H s:=
 I.pins_of λp c=>(Qt.mp c).elim (λz=>I.pin p (QC _ z)) λz=>by
  let⟨hb,e⟩:=Qp3 z;let⟨f,g,h,_⟩:=hf p.1 hb;let⟨o,a,d⟩:=ho p.1 hb;rw[e]at a;cases a;show⟨e,f,g,h,d⟩
def Inv.unpinned(I:Inv X (Kz++pl) σ H s):Inv X Kz σ H s:=I.pins_of λp a=>I.pin p (QC _ (JF _ a))
def YO{iter:Expr}{body:List Stmt}{wi:TI}{g:TG}{tb:TS}{pos:Pos}(hp:PassesOwn (model X.prog X.w) X.A X.env X.xe)(hc:X.calm=true)(hi:PI X tg iter wi)(hg:PG X tg g)(hb:PSs X body tb)
  (hs:∀x,foldedSetIterable iter X.env x=pure x:=by intro _;rfl):PS X (.For tg iter body [] pos) (Jf8 wi g tb):=by
 intro Kz s σ H D I h;show wpAny_For (thn (hi Kz s σ H _ I h) λv s1 h1=>thn h1 λitv s2 h2=>?_) hs;let⟨it,fp,tn,J,H2,e,I2,T,w,f2,W,⟨m0,w0⟩,turn⟩:=h2;subst e;let c:∀{H':Hp},(∀b∈fp,H' b=none)->∀b∈fp,FpOk X Kz H' b:=λhn b hb=>⟨hn b hb,(f2 b hb).2⟩
 show codeAny_forLoop_any (λn s'=>∃i Ku H',Inv X Kz Ku H' s'/\tn i s'.heap/\(∀b∈fp,H' b=none)/\W i n Ku H') ?_ m0 ⟨0,σ,H2,I2,w,λb hb=>(f2 b hb).1,w0⟩;rintro n s3 ⟨i,j,H3,I3,p,q,w3⟩;rcases turn i n j H3 w3 with⟨stop,qn⟩|⟨go,N,hN,step⟩
 ·show Bv hp (thn (T.done X () () () hc i Kz s3 j H3 X.xe I3 (c q) p stop) λr s4 ⟨y,I4⟩=>?_);subst y;show wpAny_execs_nil ⟨j,H3,I4,qn⟩
 ·show Bv hp (thn (T.item X () () () hc i Kz s3 j H3 X.xe I3 (c q) p go) λr s4 ⟨u,y,h4⟩=>?_);subst y;show Bv hp (thn h4 λ_ s5 ⟨x,H5,I5,r5,y5,l,z⟩=>?_);let I5':=I5.pinned (c z) (T.obj _ _ l);show Bv hp (thn (hg _ s5 j H5 x u _ I5' r5 (step x H5 y5)) λ_ s6 ⟨σ6,H6,I6,q6⟩=>?_);show Bv hp (thn (hb _ s6 σ6 H6 _ I6 q6) λf s7 k=>?_);let again:∀{a:St}{H7:Hp},Inv X (Kz++Um fp s5.heap) a H7 s7->N a H7->∃m,m<n/\∃i Ku H',Inv X Kz Ku H' s7/\tn i s7.heap/\(∀b∈fp,H' b=none)/\W i m Ku H':=λ{a H7} I7 t=>by
   let⟨m',hm,w7⟩:=hN a H7 t;show⟨m',hm,i+1,a,H7,I7.unpinned,T.keep _ _ _ l λb hb o e=>(I7.pin (b,o) (QC _ (QC _ (ZM hb e)))).1,λb hb=>?_,w7⟩;let⟨o,e,d⟩:=T.obj _ _ l b hb;show(I7.pin (b,o) (QC _ (QC _ (ZM hb e)))).2.1
  cases f with
  |next=>let⟨a,H7,I7,t⟩:=k;show again I7 t
  |cont=>let⟨a,H7,I7,t⟩:=k;show again I7 t
  |brk=>let⟨a,H7,I7,k⟩:=k;show⟨a,H7,I7.unpinned,k⟩
  |ret v=>let⟨x7,a,H7,I7,r7,k⟩:=k;show⟨x7,a,H7,I7.unpinned,r7,k⟩
end
def Qu9{K:W.Frag}{g:TG}{tb:TS}{D:Ends}(Pv:Nat->St->Hp->Prop)(h0:Pv 0 σ H)(hl:∀i σ H,i<=xs.length->Pv i σ H->SqL K H a xs)
  (hs:∀i x σ H,xs[i]?=-x->Pv i σ H->g x σ H λσ2 H2=>tb {D with nx:=Pv (i+1),ct:=Pv (i+1),bk:=D.nx} σ2 H2) (hd:∀σ H,Pv xs.length σ H->D.nx σ H) :
  ∃W:Nat->Nat->St->Hp->Prop,(∃m,W 0 m σ H)/\∀i m σ H,W i m σ H ->
   ((Itl K a).stop i H/\D.nx σ H)\/((Itl K a).go i H/\∃N:St->Hp->Prop,(∀Ku H',N Ku H'->∃m',m'<m/\W (i+1) m' Ku H')/\∀x H',(Itl K a).yld i H x H'->g x σ H' λσ2 H2=>tb {D with nx:=N,ct:=N,bk:=D.nx} σ2 H2):=by
 show⟨λi m σ H=>m=xs.length-i/\i<=xs.length/\Pv i σ H,⟨xs.length,"s",QJ _,h0⟩,?_⟩;rintro i m σ H ⟨rfl,hi,p⟩;let q:=hl i σ H hi p
 by_cases Kt:i<xs.length
 ·show .inr ⟨⟨xs,xs[i],q,by simp[Kt]⟩,Pv (i+1),λKu H' b=>⟨xs.length-(i+1),"l",(),Kt,b⟩,λx H' y=>?_⟩;let⟨e,y⟩:=y
  grind
 ·let e:i=xs.length:="l"
  subst e;show .inl ⟨⟨xs,q,Q5 _⟩,hd σ H p⟩
def Qya{K:W.Frag}{a:Addr}{xs:List V}{g:TG}{tb:TS}{D:Ends}{σ:St}{H:Hp}(Pv:Nat->St->Hp->Prop)(h0:Pv 0 σ H)(hl:∀i σ H,i<=xs.length->Pv i σ H->SqT K H a xs)
  (hs:∀i x σ H,xs[i]?=-x->Pv i σ H->g x σ H λσ2 H2=>tb {D with nx:=Pv (i+1),ct:=Pv (i+1),bk:=D.nx} σ2 H2) (hd:∀σ H,Pv xs.length σ H->D.nx σ H) :
  ∃W:Nat->Nat->St->Hp->Prop,(∃m,W 0 m σ H)/\∀i m σ H,W i m σ H ->
   ((Itt K a).stop i H/\D.nx σ H)\/((Itt K a).go i H/\∃N:St->Hp->Prop,(∀Ku H',N Ku H'->∃m',m'<m/\W (i+1) m' Ku H')/\∀x H',(Itt K a).yld i H x H'->g x σ H' λσ2 H2=>tb {D with nx:=N,ct:=N,bk:=D.nx} σ2 H2):=by
 show⟨λi m σ H=>m=xs.length-i/\i<=xs.length/\Pv i σ H,⟨xs.length,"s",QJ _,h0⟩,?_⟩;rintro i m σ H ⟨rfl,hi,p⟩;let q:=hl i σ H hi p
 by_cases Kt:i<xs.length
 ·show .inr ⟨⟨xs,xs[i],q,by simp[Kt]⟩,Pv (i+1),λKu H' b=>⟨xs.length-(i+1),"l",(),Kt,b⟩,λx H' y=>?_⟩;let⟨e,y⟩:=y;subst e;show hs i x σ _ (y xs q) p
 ·let e:i=xs.length:="l"
  subst e;show .inl ⟨⟨xs,q,Q5 _⟩,hd σ H p⟩
abbrev R2:=V->V->Hp->VK->Prop
def OpR(X:Cx)(f:Value->Value->Sem Value)(r:R2):Prop:=
 ∀(Kz:Kg)(s:Shared)(σ:St)(H:Hp)(x y:V)(v u:Value)(Q:VK),Inv X Kz σ H s->RelV x v->RelV y u->r x y H Q ->
  wpAny (model X.prog X.w) X.A (f v u) (EP X Kz σ Q) X.xe s
def UnR(X:Cx)(f:Value->Sem Value)(r:V->Hp->VK->Prop):Prop:=
 ∀(Kz:Kg)(s:Shared)(σ:St)(H:Hp)(x:V)(v:Value)(Q:VK),Inv X Kz σ H s->RelV x v->r x H Q ->
  wpAny (model X.prog X.w) X.A (f v) (EP X Kz σ Q) X.xe s
def CallR(X:Cx)(f:Value)(r:List V->Hp->VK->Prop):Prop:=
 ∀(Kz:Kg)(s:Shared)(σ:St)(H:Hp)(xs:List V)(us:List Value)(Q:VK),Inv X Kz σ H s->Vals xs us->r xs H Q ->
  wpAny (model X.prog X.w) X.A (call f us) (EP X Kz σ Q) X.xe s
def TruR(X:Cx)(r:V->Hp->(Bool->Hp->Prop)->Prop):Prop:=
 ∀(Kz:Kg)(s:Shared)(σ:St)(H:Hp)(x:V)(v:Value)(Q:Bool->Hp->Prop),Inv X Kz σ H s->RelV x v->r x H Q ->
  wpAny (model X.prog X.w) X.A (truthy v) (TP X Kz σ Q) X.xe s
def tOp(r:R2)(ta tb:TE):TE:=λσ H Q=>ta σ H λx H1=>tb σ H1 λy H2=>r x y H2 Q
def tUn(r:V->Hp->VK->Prop)(ta:TE):TE:=λσ H Q=>ta σ H λx H1=>r x H1 Q
def rI(C:Int->Int->Prop)(g:Int->Int->V):R2:=λx y H Q=>∃i j,x=.int i/\y=.int j/\C i j/\Q (g i j) H
def rI0(g:Int->Int->V):R2:=λx y H Q=>∃i j,x=.int i/\y=.int j/\Q (g i j) H
def rU(g:Int->V):V->Hp->VK->Prop:=λx H Q=>∃i,x=.int i/\Q (g i) H
section
variable {X:Cx} {a b c:Expr} {ta tb tc:TE} {pos:Pos}
def Jco(ha:PE X a ta)(hb:PE X b tb){Kz:Kg}{s:Shared}{σ:St}{H:Hp}{R:V->V->Hp->Prop}(I:Inv X Kz σ H s)
  (h:ta σ H λx H1=>tb σ H1 λy H2=>R x y H2) {Q:Kh} {f:Value->Value->Sem Value}
  (hf:∀v u s2 x y H2,Inv X Kz σ H2 s2->RelV x v->RelV y u->R x y H2->wpAny (model X.prog X.w) X.A (f v u) Q X.xe s2) :
  wpAny (model X.prog X.w) X.A (eval a X.env) (λv Km=>wpAny (model X.prog X.w) X.A (eval b X.env) (λu s₂=>wpAny (model X.prog X.w) X.A (f v u) Q X.xe s₂) X.xe Km) X.xe s:=by
 show thn (ha Kz s σ H _ I h) λv c ⟨x,H1,I1,d,e⟩=>?_
 show thn (hb Kz c σ H1 _ I1 e) λu s2 ⟨y,H2,I2,g,i⟩=>?_
 show hf v u s2 x y H2 I2 d g i
def Qz7(ho:OpR X (binaryOp op) r)(ha:PE X a ta)(hb:PE X b tb):PE X (.BinOp a op b pos) (tOp r ta tb):=by
 intro Kz s c H Q I h;show wpAny_BinOp (Jco ha hb I h λv u d x y H2 I2 e f q=>ho Kz d c H2 x y v u Q I2 e f q)
def Jdo{op:UnaryOp}{r:V->Hp->VK->Prop}(ho:UnR X (unaryOp op) r)(ha:PE X a ta):PE X (.UnaryOp op a pos) (tUn r ta):=by
 intro Kz s b H Q I h;show UnaryOp_ (thn (ha Kz s b H _ I h) λv c ⟨x,H1,I1,d,e⟩=>ho Kz c b H1 x v Q I1 d e)
def opI{g:Int->Int->Int}
  (rule:∀(i j:Int)(t u:Tok)(s:Shared)(Q:Kh)(E:Kh),C i j->Q (.int (g i j) s.toks) {s with toks:=s.toks+1}->wpAny (model X.prog X.w) X.A (f (.int i t) (.int j u)) Q E s) :
  OpR X f (rI C λi j=>.int (g i j)):=by
 intro Kz s e H x y v u Q I a b h;let⟨i,j,rfl,rfl,c,q⟩:=h;let⟨t,rfl⟩:=a;let⟨d,rfl⟩:=b;show rule i j t d s _ _ c ⟨.int (g i j),H,I.tok _,⟨_,()⟩,q⟩
def Jfg{f:Value->Value->Sem Value}{g:Int->Int->Int}
  (rule:∀(i j:Int)(t u:Tok)(s:Shared)(Q:Kh)(E:Kh),Q (.int (g i j) s.toks) {s with toks:=s.toks+1}->wpAny (model X.prog X.w) X.A (f (.int i t) (.int j u)) Q E s) :
  OpR X f (rI0 λi j=>.int (g i j)):=by
 intro Kz s d H x y v u Q I a b h;let⟨i,j,rfl,rfl,q⟩:=h;let⟨t,rfl⟩:=a;let⟨c,rfl⟩:=b;show rule i j t c s _ _ ⟨.int (g i j),H,I.tok _,⟨_,()⟩,q⟩
def Jds{g:Int->Int->Bool}
  (rule:∀(i j:Int)(t u:Tok)(s:Shared)(Q:Kh)(E:Kh),Q (.bool (g i j)) s->wpAny (model X.prog X.w) X.A (f (.int i t) (.int j u)) Q E s) :
  OpR X f (rI0 λi j=>.bl (g i j)):=by
 intro Kz s d H x y v u Q I a b h;let⟨i,j,rfl,rfl,q⟩:=h;let⟨t,rfl⟩:=a;let⟨c,rfl⟩:=b;show rule i j t c s _ _ ⟨.bl (g i j),H,I,(),q⟩
def CMul(i j:Int):Prop:=(Neg.neg (2^64:Int)<i/\i<2^64)\/(Neg.neg (2^64:Int)<j/\j<2^64)
def CMul.ok{i j:Int}(h:CMul i j):IntMulOk i j:=by
 rcases h with⟨a,b⟩|⟨a,b⟩
 ·show .of_left (intBits_le_64 a b)
 ·show .of_right (intBits_le_64 a b)
def Jbc:OpR X (binaryOp .Add) (rI0 λi j=>.int (i+j)):=Jfg λ_ _ _ _ _ _ _ q=>add_int q
def Jb9:OpR X (binaryOp .Mult) (rI CMul λi j=>.int (i*j)):=opI λ_ _ _ _ _ _ _ a q=>mul_int q a.ok
def Jba:OpR X (binaryOp .Mod) (rI (λ_ j=>0<j) λi j=>.int (i % j)):=opI λi j _ _ _ _ _ a q=>by
 let b:(0:Int)<j:=a;show mod_int' "l" (by rw[Int.fmod_eq_emod_of_nonneg i "l"];show q)
def unI{g:Int->Int}
  (rule:∀(i:Int)(t:Tok)(s:Shared)(Q:Kh)(E:Kh),Q (.int (g i) s.toks) {s with toks:=s.toks+1}->wpAny (model X.prog X.w) X.A (f (.int i t)) Q E s) :
  UnR X f (rU λi=>.int (g i)):=by
 intro Kz s b H x v Q I a h;let⟨i,rfl,q⟩:=h;let⟨t,rfl⟩:=a;show rule i t s _ _ ⟨.int (g i),H,I.tok _,⟨_,()⟩,q⟩
def Qzz:UnR X (unaryOp .USub) (rU λi=>.int (Neg.neg i)):=unI λ_ _ _ _ _ q=>neg_int q
end
def scal:V->V->Bool
 |.non,.non=>true|.non,.int _=>true|.int _,.non=>true|.non,.bl _=>true|.bl _,.non=>true|.non,.str _=>true|.str _,.non=>true|.int _,.int _=>true|.bl _,.bl _=>true|.str _,.str _=>true|.byt _,.byt _=>true|.int _,.str _=>true|.str _,.int _=>true|.bl _,.str _=>true|.str _,.bl _=>true|_,_=>false
def rEq:R2:=λx y H Q=>scal x y=true/\Q (.bl (decide (x=y))) H
def rNe:R2:=λx y H Q=>scal x y=true/\Q (.bl (!decide (x=y))) H
def Qnr{i j:Int}:decide (V.int i=V.int j)=(i==j):=by
 rw[Ws]
 simp
def Quk{i j:Bool}:decide (V.bl i=V.bl j)=(i==j):=by
 rw[Ws]
 simp
def Qnq{i j:Str}:decide (V.str i=V.str j)=(i==j):=by
 rw[Ws]
 simp
def Qns:decide (V.byt i=V.byt j)=(i.toList==j.toList):=by
 rw[Ws]
 ext
section
variable {X:Cx} {a b c:Expr} {ta tb tc:TE} {pos:Pos}
def JA(I:Inv X Kz σ H s)(q:Q (.bl k) H)(e:k=k'):EP X Kz σ Q (.bool k') s:=by
 subst e;show⟨.bl k,H,I,(),q⟩
def Qn3:OpR X (compareOp .Eq) rEq:=by
 intro Kz s e H x y v u Q I d a h;let⟨c,q⟩:=h;cases x with
 |non =>
  cases d;cases y with
  |non=>cases a;show PySem.EqNone.eq_none_none (JA I q "s")
  |bl j=>cases a;show PySem.EqNone.eq_none_bool (JA I q "s")
  |int j=>let⟨b,rfl⟩:=a;show PySem.EqNone.eq_none_int (JA I q "s")
  |str j=>let⟨b,rfl⟩:=a;show PySem.EqNone.eq_none_str (JA I q "s")
  |_=>show absurd (show false=true from c) QD
 |bl i =>
  cases d;cases y with
  |non=>cases a;show PySem.EqNone.eq_bool_none (JA I q "s")
  |bl j=>cases a;show eq_bool (JA I q Quk)
  |str j=>let⟨b,rfl⟩:=a;show PySem.EqMixed.eq_bool_str (JA I q "s")
  |_=>show absurd (show false=true from c) QD
 |int i =>
  let⟨t,rfl⟩:=d;cases y with
  |non=>cases a;show PySem.EqNone.eq_int_none (JA I q "s")
  |int j=>let⟨b,rfl⟩:=a;show eq_int (JA I q Qnr)
  |str j=>let⟨b,rfl⟩:=a;show PySem.EqMixed.eq_int_str (JA I q "s")
  |_=>show absurd (show false=true from c) QD
 |str i =>
  let⟨t,rfl⟩:=d;cases y with
  |non=>cases a;show PySem.EqNone.eq_str_none (JA I q "s")
  |bl j=>cases a;show PySem.EqMixed.eq_str_bool (JA I q "s")
  |int j=>let⟨b,rfl⟩:=a;show PySem.EqMixed.eq_str_int (JA I q "s")
  |str j=>let⟨b,rfl⟩:=a;show eq_str (JA I q Qnq)
  |_=>show absurd (show false=true from c) QD
 |byt i =>
  let⟨t,rfl⟩:=d;cases y with
  |byt j=>let⟨b,rfl⟩:=a;show W.eq_bytes (JA I q Qns)
  |_=>show absurd (show false=true from c) QD
 |_=>cases y<;>show absurd (show false=true from c) QD
def Qsc:OpR X (compareOp .NotEq) rNe:=by
 intro Kz s e H x y v u Q I d a h;let⟨c,q⟩:=h;cases x with
 |non =>
  cases d;cases y with
  |non=>cases a;show PySem.EqNone.ne_none_none (JA I q "s")
  |bl j=>cases a;show PySem.EqNone.ne_none_bool (JA I q "s")
  |int j=>let⟨b,rfl⟩:=a;show PySem.EqNone.ne_none_int (JA I q "s")
  |str j=>let⟨b,rfl⟩:=a;show PySem.EqNone.ne_none_str (JA I q "s")
  |_=>show absurd (show false=true from c) QD
 |bl i =>
  cases d;cases y with
  |non=>cases a;show PySem.EqNone.ne_bool_none (JA I q "s")
  |bl j=>cases a;show ne_bool (JA I q (JL not Quk))
  |str j=>let⟨b,rfl⟩:=a;show PySem.EqMixed.ne_bool_str (JA I q "s")
  |_=>show absurd (show false=true from c) QD
 |int i =>
  let⟨t,rfl⟩:=d;cases y with
  |non=>cases a;show PySem.EqNone.ne_int_none (JA I q "s")
  |int j=>let⟨b,rfl⟩:=a;show ne_int (JA I q (JL not Qnr))
  |str j=>let⟨b,rfl⟩:=a;show PySem.EqMixed.ne_int_str (JA I q "s")
  |_=>show absurd (show false=true from c) QD
 |str i =>
  let⟨t,rfl⟩:=d;cases y with
  |non=>cases a;show PySem.EqNone.ne_str_none (JA I q "s")
  |bl j=>cases a;show PySem.EqMixed.ne_str_bool (JA I q "s")
  |int j=>let⟨b,rfl⟩:=a;show PySem.EqMixed.ne_str_int (JA I q "s")
  |str j=>let⟨b,rfl⟩:=a;show ne_str (JA I q (JL not Qnq))
  |_=>show absurd (show false=true from c) QD
 |byt i =>
  let⟨t,rfl⟩:=d;cases y with
  |byt j=>let⟨b,rfl⟩:=a;show W.ne_bytes (JA I q (JL not Qns))
  |_=>show absurd (show false=true from c) QD
 |_=>cases y<;>show absurd (show false=true from c) QD
def Jdq:OpR X (compareOp .Lt) (rI0 λi j=>.bl (decide (i<j))):=Jds λ_ _ _ _ _ _ _ q=>lt_int q
def Jdr:OpR X (compareOp .Gt) (rI0 λi j=>.bl (decide (j<i))):=Jds λ_ _ _ _ _ _ _ q=>gt_int q
def Qoz:OpR X (compareOp .In) (λx y H Q=>∃i j,x=.str i/\y=.str j/\Q (.bl (!(Builtin.Str.occurrences j i 0 j.length 1).isEmpty)) H):=by
 intro Kz s c H x y v u Q I a b h;let⟨i,j,rfl,rfl,q⟩:=h;let⟨t,rfl⟩:=a;let⟨d,rfl⟩:=b;show in_str (JA I q ())
def Qx6:OpR X (compareOp .IsNot) (λx y H Q=>y=.non/\Q (.bl (!decide (x=.non))) H):=by
 intro Kz s c H x y v u Q I a b h;let⟨rfl,q⟩:=h;cases b;show isnot_none_gen (JA I q ?_);cases x<;>first
  | (cases a;rfl)
  | (let⟨t,rfl⟩:=a;rfl)
def nomark(b:Expr)(h:op≠ .In:=by decide)(h2:op≠ .NotIn:=by decide):behindInMarks op b=false:=by
 let a:(op==CmpOp.In)=false:="e"
 let c:(op==CmpOp.NotIn)=false:="e"
 cases b<;>simp[behindInMarks,a,c]
def Qx1(ho:OpR X (compareOp op) r)(ha:PE X a ta)(hb:PE X b tb)(hm:behindInMarks op b=false):PE X (.Compare a [op] [b] pos) (tOp r ta tb):=by
 intro Kz s c H Q I h;show wpAny_Compare1 (Jco ha hb I h λv u d x y H2 I2 e f q=>ho Kz d c H2 x y v u Q I2 e f q) hm
def Jcy(t:TE):TT:=λσ H Q=>t σ H λx H'=>∃k,x=.bl k/\Q k H'
def Qwl{op:CmpOp}{r:R2}(ho:OpR X (compareOp op) r)(ha:PE X a ta)(hb:PE X b tb)(hm:behindInMarks op b=false):PT X (.Compare a [op] [b] pos) (Jcy (tOp r ta tb)):=by
 intro Kz s d H Q I h;show wpAny_isTrue_Compare1 (thn (ha Kz s d H _ I h) λv f ⟨x,H1,I1,g,i⟩=>thn (hb Kz f d H1 _ I1 i) λu j ⟨y,H2,I2,l,m⟩ =>
  thn (ho Kz j d H2 x y v u _ I2 g l m) λc p ⟨z,H3,I3,n,k,e,o⟩=>?_) hm
 subst e;cases n;show Z2 ⟨H3,I3,o⟩
def TruV(K:W.Frag)(x:V)(H:Hp)(k:Bool):Prop:=
 match x with
 |.non=>k=false|.bl b=>k=b|.int i=>k=(i != 0)|.str y=>y.length<=sizeLine/\k=((y.length:Int) != 0)|.byt y=>y.size<=sizeLine/\k=((y.size:Int) != 0)|.ref p=>(∃xs,SqL K H p xs/\k= !xs.isEmpty)\/(∃xs,SqT K H p xs/\k= !xs.isEmpty)\/∃Kv,H p=-(.dK Kv)/\k= !Kv.isEmpty|_=>False
def Ql4{κ:Type}{Kv:List (κ×V)}{vs:List (κ×Value)}(r:KV Kv vs):(!vs.isEmpty)= !Kv.isEmpty:=by
 cases r<;>rfl
def Qbz(r:Vals xs Kw):(!Kw.toArray.isEmpty)= !xs.isEmpty:=by
 cases r<;>simp
def line63:(sizeLine:Nat)<2^63:="d"
def Jez:TruR X (λx H Q=>∃k,TruV X.K x H k/\Q k H):=by
 intro Kz s l H x v Q I d h;let⟨k,e,q⟩:=h;let hl:=line63;let n:sizeLine=16777216:=QR;cases x with
 |non =>
  cases d;let a:k=false:=e;subst a;show truthy_none ⟨H,I,q⟩
 |bl b =>
  cases d;let a:k=b:=e;subst a;show Z2 ⟨H,I,q⟩
 |int i =>
  let⟨t,rfl⟩:=d;let a:k=(i != 0):=e;subst a;show PySem.P.truthy_int ⟨H,I,q⟩
 |str y =>
  let⟨t,rfl⟩:=d;obtain⟨hy,a⟩:y.length<=sizeLine/\k=((y.length:Int) != 0):=e;subst a;show PySem.P.truthy_str "l" ⟨H,I.tok _,q⟩
 |byt y =>
  let⟨t,rfl⟩:=d;obtain⟨hy,a⟩:y.size<=sizeLine/\k=((y.size:Int) != 0):=e;subst a;show W.truthy_bytes "l" ⟨H,I.tok _,q⟩
 |ref p =>
  cases d;let a:(∃c,SqL X.K H p c/\k= !c.isEmpty)\/(∃c,SqT X.K H p c/\k= !c.isEmpty)\/∃Kv,H p=-(.dK Kv)/\k= !Kv.isEmpty:=e;rcases a with⟨c,hx,a⟩|⟨c,hx,a⟩|⟨Kv,hx,a⟩
  ·subst a;let⟨Kw,r,pl,g⟩:=I.list hx;let Ks:=r.length;show wpAny_truthy_list pl.isList (by simp only[Qy];lia) ⟨H,I.tok _,by rw[Qbz r];show q⟩
  ·subst a;let⟨Kw,r,pl,g⟩:=I.tuple hx;let Ks:=r.length;show truthy_tuple pl (by simp only[Qy];lia) ⟨H,I.tok _,by rw[Qbz r];show q⟩
  ·subst a;obtain⟨g,j,f,r,m⟩:Kv.length<=sizeLine/\(p==sysModules)=false/\∃f,KV Kv f/\s.heap.DictOf (JI X.prog X.w) p f:=I.hok p _ hx;let Ks:Kv.length=f.length:=Qvl r;show wpAny_truthy_dict j m "l" ⟨H,I.tok _,by rw[Ql4 r];show q⟩
 |_=>show(show False from e).elim
def Qkr:OpR X (binaryOp .Add) (λx y H Q=>∃i j,x=.str i/\y=.str j/\i.length+j.length<=sizeLine/\Q (.str (i++j)) H):=by
 intro Kz s e H x y v u Q I a b h;let⟨i,j,rfl,rfl,c,q⟩:=h;let⟨t,rfl⟩:=a;let⟨d,rfl⟩:=b;show add_str (λd f=>⟨.str (i++j),H,I.tok _,⟨_,()⟩,q⟩) c
def vals1{x:V}{us:List Value}(r:Vals [x] us):∃u,us=[u]/\RelV x u:=by
 cases r with
 |cons a b=>cases b;show⟨_,(),a⟩
def Qq3:CallR X (.type "int") (λxs H Q=>(∃i,xs=[.int i]/\Q (.int i) H)\/∃k,xs=[.bl k]/\Q (.int (if k then 1 else 0)) H):=by
 intro Kz s b H xs c Q I r h;rcases h with⟨i,rfl,q⟩|⟨k,rfl,q⟩
 ·let⟨u,rfl,t,rfl⟩:=vals1 r;show call_int_int ⟨.int i,H,I,⟨_,()⟩,q⟩
 ·let⟨u,rfl,a⟩:=vals1 r;cases a;show call_int_bool ⟨.int (if k then 1 else 0),H,I.tok _,⟨_,()⟩,q⟩
def LenV(K:W.Frag)(x:V)(H:Hp)(n:Nat):Prop:=
 match x with
 |.str y=>y.length<=sizeLine/\n=y.length|.byt y=>y.size<=sizeLine/\n=y.size|.ref p=>(∃xs,SqL K H p xs/\n=xs.length)\/∃xs,SqT K H p xs/\n=xs.length|_=>False
def Qv0:CallR X (.builtin "len") (λxs H Q=>∃x n,xs=[x]/\LenV X.K x H n/\Q (.int n) H):=by
 intro Kz s f H xs g Q I r h;let⟨x,n,rfl,e,q⟩:=h;let⟨u,rfl,b⟩:=vals1 r;let hl:=line63;let i:sizeLine=16777216:=QR;cases x with
 |str y =>
  let⟨t,rfl⟩:=b;obtain⟨hy,a⟩:y.length<=sizeLine/\n=y.length:=e;subst a;show len_str "l" ⟨.int _,H,I.tok _,⟨_,()⟩,q⟩
 |byt y =>
  let⟨t,rfl⟩:=b;obtain⟨hy,a⟩:y.size<=sizeLine/\n=y.size:=e;subst a;show W.len_bytes "l" ⟨.int _,H,I.tok _,⟨_,()⟩,q⟩
 |ref p =>
  cases b;let a:(∃xs,SqL X.K H p xs/\n=xs.length)\/∃xs,SqT X.K H p xs/\n=xs.length:=e;rcases a with⟨xs,hx,a⟩|⟨xs,hx,a⟩
  ·subst a;let⟨Kw,c,pl,d⟩:=I.list hx;let Ks:=c.length;show Calls.call_len_list pl.isList (by simp only[Qy];lia) ⟨.int xs.length,H,I.tok _,⟨_,by simp only[Qy];rw[Ks]⟩,q⟩
  ·subst a;let⟨Kw,c,pl,d⟩:=I.tuple hx;let Ks:=c.length;show len_tuple pl (by simp only[Qy];lia) ⟨.int xs.length,H,I.tok _,⟨_,by simp only[Qy];rw[Ks]⟩,q⟩
 |_=>show(show False from e).elim
end
structure ObjM(h:Heap)(x dx C:Addr)(mA:Str->Option Value):Prop where
 obj:h.get? x=-(W.instObj C dx)
 ns:h.Ns1 dx mA
 ne:dx≠x
def Qpd{h:Heap}{dx:Addr}{mA:Str->Option Value}(n:h.Ns1 dx mA):∃od,h.get? dx=-od/\∀name,W.lookIn name od=-(mA name):=by
 let⟨o,c,j,d,hd,f,_,g⟩:=n;show⟨o,d,λname=>?_⟩;let e:=g name;unfold nsFind findBy at e;rw[<-Array.find?_toList]at e;unfold W.lookIn;rw[hd];dsimp only;split
 ·rename_i y q;rw[q]at e;show JL some e
 ·rename_i q;rw[q]at e;let a:c.toList.any (·.refKey)=false:=by
   rw[List.any_eq_false];intro y hy;let⟨z,t,b⟩:=f y (Array.mem_toList_iff.mp hy);simp[DictEntry.refKey,b]
  let i: ¬ c.toList.any (·.refKey)=true:=by rw[a];show QD
  rw[Qc i];show JL some e
def ObjM.look(I:ObjM h x dx C mA):∃od,W.InstAt h x (W.instObj C dx) C (-od)/\∀name,W.lookIn name od=-(mA name):=
 let⟨od,a,hl⟩:=Qpd I.ns
 ⟨od,⟨I.obj,(),(),a⟩,hl⟩
section
variable {prog:Program} {w:World} {A:Around} {E:Kh} {s:Shared} {K:W.Frag} {x dx C f:Addr} {mA:Str->Option Value} {name:Str} {v:Value}
def Qni(X:K.In s.heap)(I:ObjM s.heap x dx C mA)(hg:W.plainGet K C name=true)(hh:W.hasDictIn K C=true)
  (ha:W.findIn K (.ref C) name=-none) (hv:mA name=-v) (hv':W.handedIn v=true) (h:Q v {s with toks:=s.toks+1}) :
  wpAny (model prog w) A (getAttr (.ref x) name expr) Q E s:=by
 let⟨a,J,hl⟩:=I.look;show W.get_value X J (W.plainGet_of hg).1 (W.findObj_own hh ha () (by rw[hl,hv])) hv' h
def Qij(X:K.In s.heap)(I:ObjM s.heap x dx C mA)(hg:W.plainGet K C name=true)
  (hf:W.findIn K (.ref C) name=-(-(.ref f))) (ht:W.isFn K (.ref f)=true) (hv:mA name=none) (h:Q (.ref f,[.ref x]) s) :
  wpAny (model prog w) A (getMethod (.ref x) name pl) Q E s:=by
 let⟨a,J,hl⟩:=I.look;show W.method_fn X J (W.plainGet_of hg).1 (W.plainGet_of hg).2 hf (ZG.mp ht) (by change(W.lookIn name a).map (·.isSome)=-false;ext) h
def Qwb(X:K.In s.heap)(I:ObjM s.heap x dx C mA)
  (hs:W.findIn K (.ref C) "__setattr__"=-(-(.builtin "object.__setattr__"))) (hp:W.plainOver K C=true) (ht:W.takerIn K C name=-none) (hh:W.hasDictIn K C=true)
  (hw:PySem.Within mA ns) (hsz:ns.length<=sizeLine)
  (h:∀h',ObjM h' x dx C (λy=>if y=name then -v else mA y)->Heap.SameBut dx s.heap h'->Q ⟨⟩ {s with heap:=h',toks:=s.toks+2}) :
  wpAny (model prog w) A (setAttr (.ref x) name v) Q E s:=by
 let⟨l,J,hl⟩:=I.look;show W.set_plain X J hs (W.osa_open X J hp ht λb=>?_);let⟨m,i,d⟩:=W.any_some hh;let hx:=I.obj;show Q0 (Q2 (Q0 (Q0 (wpAny_loadPart hx (Q0 (W.Looks.here (W.looks_clsIn X i) ?_))))));rw[d];show Q2 (Q0 (Q2 (Q0 ?_)));show wpAny_nsSet1 I.ns λh' a c=>?_
 let⟨oD,j,k,e,f,g⟩:=a.count (PySem.Within.cons name v hw);show Q0 (wpAny_lookBehind e (by rw[f];show pastItsLine_dict (Qx g "e")) ?_);show Q2 (h _ ⟨(c.2 _ (Jd I.ne)).trans I.obj,a,I.ne⟩ c)
def Qtl(X:K.In s.heap)(hm:W.makesIn K C=true)
  (hi:W.findIn K (.ref C) "__init__"=-(-(.ref f))) (hf:W.typeIn K (.ref f)=-(.type "function"))
  (h:codeAny (model prog w) (A.under (.builtin "type.__call__" ⟨.ref C::vs,kw⟩)) (.call (.ref f) ⟨.ref (s.heap.objs.size+1)::vs,kw⟩) (W.InitBack (s.heap.objs.size+1) R)
   {s with heap:=(s.heap.push W.emptyDict).push (W.instObj C s.heap.objs.size)}) :
  codeAny (model prog w) A (.call (.ref C) ⟨vs,kw⟩) R s:=by
 show W.make_core (W.makes_of X hm) (W.looks_findIn X hi) (λself=>W.bind_fn X self hf) (.inl ()) h
end
def Uj(f:Str)(v:V):List (Str×V)->List (Str×V)
 |[]=>[(f,v)]| (g,x)::r=>if g=f then(g,v)::r else(g,x)::Uj f v r
theorem OZ(f g:Str)(v:V):∀fs:List (Str×V),(Uj f v fs).lookup g=if g=f then -v else fs.lookup g
 |[]=>by
  change List.lookup g [(f,v)]=_
  by_cases h:g=f
  ·let hb:(g==f)=true:=ZG.mpr h;simp only[List.lookup,hb,Qh h]
  ·let hb:(g==f)=false:=JO.mpr h;simp only[List.lookup,hb,Qc h]
 | (k,x)::r=>by
  let b:=OZ f g v r;rw[show Uj f v ((k,x)::r)=(if k=f then(k,v)::r else(k,x)::Uj f v r)from ()]
  by_cases a:k=f
  ·rw[Qh a]
   by_cases h:g=k
   ·let hb:(g==k)=true:=ZG.mpr h;simp only[List.lookup,hb,Qh (h.trans a)]
   ·let hb:(g==k)=false:=JO.mpr h;simp only[List.lookup,hb,Qc (λe:g=f=>h (e.trans a.symm))]
  ·rw[Qc a]
   by_cases h:g=k
   ·let hb:(g==k)=true:=ZG.mpr h;simp only[List.lookup,hb,Qc (λe:g=f=>a (h.symm.trans e))]
   ·let hb:(g==k)=false:=JO.mpr h;simp only[List.lookup,hb];show b
theorem OC(f:Str)(v:V):∀fs:List (Str×V),f∈(Uj f v fs).map (·.1)/\∀g,g∈fs.map (·.1)->g∈(Uj f v fs).map (·.1)
 |[]=>⟨by simp[Uj],λg h=>by simp at h⟩| (k,x)::r=>by
  let⟨a,b⟩:=OC f v r;rw[show Uj f v ((k,x)::r)=(if k=f then(k,v)::r else(k,x)::Uj f v r)from ()]
  grind
theorem Qa1(f:Str)(v:V):∀fs:List (Str×V),(Uj f v fs).length<=fs.length+1
 |[]=>by simp[Uj]| (k,x)::r=>by
  let a:=Qa1 f v r;rw[show Uj f v ((k,x)::r)=(if k=f then(k,v)::r else(k,x)::Uj f v r)from ()]
  grind
def RelO.some_of(r:RelO (-v) o):∃u,o=-u/\RelV v u:=by
 cases o with
 |none=>show((r)).elim|some u=>show⟨u,(),r⟩
def RelO.none_of(r:RelO none o):o=none:=by
 cases o with
 |none=>rfl|some u=>show((r)).elim
def Qe7(r:RelV v u):W.handedIn u=true:=by
 cases v with
 |non=>cases((r));rfl
 |bl b=>cases((r));rfl
 |int i=>let⟨t,e⟩:=((r));cases e;rfl
 |str x=>let⟨t,e⟩:=((r));cases e;rfl
 |byt b=>let⟨t,e⟩:=((r));cases e;rfl
 |flt b=>let⟨t,e⟩:=((r));cases e;rfl
 |ref a=>cases((r));rfl
 |ty n=>cases((r));rfl
section
variable {P:Program} {w:World} {H H':Hp} {h h':Heap} {a C dx:Addr} {fs fs':List (Str×V)}
def Qga(hok:HOk P w H h)(e:H a=-(.ins C dx fs)):∃mA,ObjM h a dx C mA/\(∀f,RelO (fs.lookup f) (mA f))/\PySem.Within mA (fs.map (·.1))/\fs.length<=1000/\H dx=-(.own a):=by
 let⟨d,z,ne,b,mA,n,r,q⟩:=(show ObjOk P w H h a (.ins C dx fs)from hok a _ e);show⟨mA,⟨b,n,ne⟩,r,q,z,d⟩
end
structure Cls(K:W.Frag)(C:Addr):Prop where
 pg:W.plainGet K C Str.empty=true
 hd:W.hasDictIn K C=true
 po:W.plainOver K C=true
 sa:W.findIn K (.ref C) "__setattr__"=-(-(.builtin "object.__setattr__"))
def Cls.get{K:W.Frag}(c:Cls K C)(f:Str):W.plainGet K C f=true:=c.pg
def NoAttr(K:W.Frag)(C:Addr)(f:Str):Prop:=W.findIn K (.ref C) f=-none
def NoAttr.taker{K:W.Frag}(n:NoAttr K C f):W.takerIn K C f=some none:=by
 unfold W.takerIn;rw[(n)];rfl
structure Meth(K:W.Frag)(C:Addr)(m:Str)(f:Addr):Prop where
 at_:W.findIn K (.ref C) m=-(-(.ref f))
 fn:W.isFn K (.ref f)=true
 kp:W.keepIn K (.ref f)=true
section
variable {X:Cx} {Kz:Kg} {σ:St} {H:Hp} {s:Shared} {a C dx:Addr} {fs:List (Str×V)} {f:Str} {v:V} {A:Around} {E:Kh}
def Qlc(I:Inv X Kz σ H s)(e:H a=-(.ins C dx fs))(c:Cls X.K C)(n:NoAttr X.K C f)(l:fs.lookup f=-v)
  (h:∀u s',Inv X Kz σ H s'->RelV v u->Q u s'):wpAny (model X.prog X.w) A (getAttr (.ref a) f b) Q E s:=by
 let⟨g,O,r,_,_,_⟩:=Qga I.hok e;let⟨u,i,d⟩:=RelO.some_of (v:=v) (o:=g f) "g";show Qni I.kIn O (c.get f) c.hd n i (Qe7 d) (h u _ (I.tok _) d)
def Qc2{m:Str}{g:Addr}{pl:Sem Bool}{Q:Value×List Value->Shared->Prop}(I:Inv X Kz σ H s)(e:H a=-(.ins C dx fs))(c:Cls X.K C)(k:Meth X.K C m g)(l:fs.lookup m=none)
  (h:Q (.ref g,[.ref a]) s):wpAny (model X.prog X.w) A (getMethod (.ref a) m pl) Q E s:=by
 let⟨b,O,r,_,_,_⟩:=Qga I.hok e;let d:b m=none:=RelO.none_of (by rw[<-l];show r m);show Qij I.kIn O (c.get m) k.at_ k.fn d h
def Qkd(I:Inv X Kz σ H s)(e:H a=-(.ins C dx fs))(c:Cls X.K C)(n:NoAttr X.K C f)(hl:fs.length<1000)(ry:RelV y u)
  (h:∀s',Inv X Kz σ (upd H a (.ins C dx (Uj f y fs))) s'->Q ⟨⟩ s'):wpAny (model X.prog X.w) A (setAttr (.ref a) f u) Q E s:=by
 let⟨p,O,r,d,_,i⟩:=Qga I.hok e;let j:(fs.map (·.1)).length<=sizeLine:=by rw[Qb,QR];lia
 show Qwb I.kIn O c.sa c.po n.taker c.hd d j λk O' sb=>h _ ?_
 let hd:∃o,k.get? dx=some o:=let⟨o,_,_,l,_⟩:=O'.ns;⟨o,l⟩;show I.write (by rw[e];show QA) (.inr i) (λb q hb z=>(sb.2 b hb).trans z) hd ?_;show⟨by rw[Qm O.ne];show i,?_,O.ne,O'.obj,_,O'.ns,λg=>?_,λg m=>?_⟩
 ·let:=Qa1 f y fs;lia
 ·rw[OZ]
  by_cases q:g=f
  ·rw[Qh q,Qh q];show ry
  ext
 ·by_cases q:g=f
  ·rw[q];show(OC f y fs).1
  ·show(OC f y fs).2 g (d g λz=>m ?_)
   ext
def Inv.made(I:Inv X Kz σ H s):Inv X Kz σ (upd (upd H s.heap.objs.size (.own (s.heap.objs.size+1))) (s.heap.objs.size+1) (.ins C s.heap.objs.size []))
  {s with heap:=(s.heap.push W.emptyDict).push (W.instObj C s.heap.objs.size)}:=by
 let a:(s.heap.push W.emptyDict).get? s.heap.objs.size=-W.emptyDict:=Q9 s.heap ();let c:((s.heap.push W.emptyDict).push (W.instObj C s.heap.objs.size)).get? (s.heap.objs.size+1)=-(W.instObj C s.heap.objs.size):=by
  let:=Q9 (s.heap.push W.emptyDict) (o:=W.instObj C s.heap.objs.size) ()
  ext
 let d:(s.heap.push W.emptyDict).Ns s.heap.objs.size (λ_=>none):=⟨W.emptyDict,#[],_,a,(),(λe f=>absurd f "s"),λ_=>rfl⟩;let I1:=I.laid (o:=.own (s.heap.objs.size+1)) (t':=s.toks) (λb u q=>Q1 _ q) (Q5 _) ⟨_,a⟩;show I1.laid (λb u q=>Q1 _ q) (Nat.le_of_eq (WV _ _)) ?_;let ne:s.heap.objs.size≠s.heap.objs.size+1:=Qq (WE _);show⟨by rw[Qm ne,Vu],QJ _,ne,c,λ_=>none,(Heap.Ns1.of_empty d).at λo q=>Q1 _ q,λ_=>QA,λy hy=>absurd () hy⟩
def Qnx(hb:attributeBase e f env (eval e env)=eval e env)
  (h:wpAny (model prog w) A (eval e env) (λo Km=>wpAny (model prog w) A (getAttr o f true) Q E Km) E s):wpAny (model prog w) A (eval (.Attribute e f pos) env) Q E s:=
 Attribute_any_ h (by rw[arm_eval_Attribute,hb])
end
def Jf9(K:W.Frag)(ta:TE)(f:Str):TE:=λσ H Q=>ta σ H λx H1=>∃a C dx fs v,x=.ref a/\H1 a=-(.ins C dx fs)/\Cls K C/\NoAttr K C f/\fs.lookup f=-v/\Q v H1
def Jak(K:W.Frag)(ta tv:TE)(f:Str):TS:=λD σ H=>tv σ H λy H1=>ta σ H1 λx H2=>∃a C dx fs,x=.ref a/\H2 a=-(.ins C dx fs)/\Cls K C/\NoAttr K C f/\fs.length<1000 /\
 D.nx σ (upd H2 a (.ins C dx (Uj f y fs)))
section
variable {X:Cx} {o e value:Expr} {f:Str} {pos pos' tpos:Pos} {ta tv:TE}
def Qs6(he:PE X e ta)(hb:attributeBase e f X.env (eval e X.env)=eval e X.env):PE X (.Attribute e f pos) (Jf9 X.K ta f):=by
 intro Kz s b H Q I h;show Qnx hb (thn (he Kz s b H _ I h) λu j ⟨x,H1,I1,d,a,C,dx,fs,v,ex,g,c,n,l,q⟩=>?_);subst ex;obtain rfl:u=Value.ref a:=d;show Qlc I1 g c n l λk m I2 i=>⟨v,H1,I2,i,q⟩
def Qfn(ha:PE X o ta)(hv:PE X value tv)(hs:swapsWith value (-(.Attribute o f pos')) pos.line X.env=pure false):PS X (.Assign [.Attribute o f pos'] value pos) (Jak X.K ta tv f):=by
 intro Kz s b H D I h;show plainObj_wpAny_Assign_Attribute (thn (hv Kz s b H _ I h) λu d ⟨y,H1,I1,e,q⟩=>thn (ha Kz d b H1 _ I1 q) λg m ⟨x,H2,I2,i,a,C,dx,fs,ex,j,c,n,l,k⟩=>?_) hs;subst ex;obtain rfl:g=Value.ref a:=i;show Qkd I2 j c n l e λp I3=>⟨b,_,I3,k⟩
def Qzb{pl:Sem Bool}{m:Str}{apos:Pos}{args:List Expr}{Kz:Kg}{s:Shared}{σ:St}{H:Hp}{Q:Kh}{te:TE}(he:PE X e te)(I:Inv X Kz σ H s)
  (h:te σ H λx H1=>∃a C dx fs g,x=.ref a/\H1 a=-(.ins C dx fs)/\Cls X.K C/\Meth X.K C m g/\fs.lookup m=none /\
   ∀s1,Inv X Kz σ H1 s1->wpAny (model X.prog X.w) X.A (callWith pos (.ref g) [.ref a] (backTo pos (starEach args X.env)) (backToKw pos (keywordEach [] X.env))) Q X.xe s1)
  (ht:eval (.Call (.Attribute e m apos) args [] pos) X.env=(do
   let ov<-eval e X.env
   standAt apos.atName
   let(f,first)<-holding [ov] (getMethod ov m pl)
   callWith pos f first (backTo pos (starEach args X.env)) (backToKw pos (keywordEach [] X.env)))) :
  wpAny (model X.prog X.w) X.A (eval (.Call (.Attribute e m apos) args [] pos) X.env) Q X.xe s:=by
 show W.methodCall_KW (pl:=pl) (thn (he Kz s σ H _ I h) λu s1 ⟨x,H1,I1,b,a,C,dx,fs,g,ex,d,c,k,l,q⟩=>?_) ht;subst ex;obtain rfl:u=Value.ref a:=b;show Qc2 I1 d c k l (q s1 I1)
end
structure Room(k:Nat)(A:Around):Prop where
 hd:A.handled=none
 dp:A.depth+3*k+5<recursionLimit
 un:A.units+16*k+200<cLine
def Room.mono(r:Room k A)(h:j<=k):Room j A:=⟨r.hd,by let:=r.dp;lia,by let:=r.un;lia⟩
def Room.deeper{k:Nat}{A:Around}(r:Room (k+1) A)(env:Env):Room k (A.deeper env):=
 ⟨r.hd,by let:=r.dp;change A.depth+1+3*k+5<_;lia,by let:=r.un;change A.units+3+16*k+200<_;lia⟩
def Qkz{A:Around}:(A.under (.builtin "type.__call__" ⟨.ref C::us,kw⟩)).depth=A.depth+1:=by
 rfl
def Qky{A:Around}:(A.under (.builtin "type.__call__" ⟨.ref C::us,kw⟩)).units=A.units+1:=by
 rfl
def Room.make{k:Nat}{A:Around}(r:Room (k+1) A)(C:Addr)(us:List Value)(kw:List (Str×Value)):Room k (A.under (.builtin "type.__call__" ⟨.ref C::us,kw⟩)):=
 ⟨r.hd,by let:=r.dp;rw[Qkz];lia,by let:=r.un;rw[Qky];lia⟩
def Room.depth(r:Room k A):A.depth<recursionLimit:=by let:=r.dp;lia
def Room.units(r:Room k A):A.units+64<cLine:=by let:=r.un;lia
def Qw3:TA:=λ_ H Q=>Q [] H
def Qm3(ta:TE)(tr:TA):TA:=λσ H Q=>ta σ H λx H1=>tr σ H1 λxs H2=>Q (x::xs) H2
section
variable {X:Cx} {e:Expr} {es:List Expr} {te:TE} {t:TA} {pos:Pos}
def Zr:PA X [] Qw3:=λ_ _ _ _ H Q I h=>Calls.spliced_nil ⟨[],H,I,.nil,h⟩
def WK(ha:PE X e te)(hr:PA X es t)(hs:starEach (e::es) X.env=(false,eval e X.env)::starEach es X.env:=by rfl):PA X (e::es) (Qm3 te t):=by
 intro a Kz s b H Q I h;rw[hs];change wpAny _ _ (spliced ((false,eval e X.env)::backTo a (starEach es X.env))) _ _ s;show Qvu (thn (ha Kz s b H _ I h) λu c ⟨x,H1,I1,d,f⟩=>?_);show thn (hr a Kz c b H1 _ I1 f) λk l ⟨g,H2,I2,i,j⟩=>⟨x::g,H2,I2,.cons d i,j⟩
def Jf2(t:TA):TE:=λσ H Q=>t σ H λxs H1=>xs.length<=sizeLine/\∀p,H1 p=none->Q (.ref p) (upd H1 p (.tup xs))
def Jf6(t:TA):TE:=λσ H Q=>t σ H λxs H1=>xs.length<=sizeLine/\∀p,H1 p=none->Q (.ref p) (upd H1 p (.lst xs))
def Jay{x1}(h:PA X es t):PE X (.Tuple es x1 pos) (Jf2 t):=by
 intro Kz s c H Q I d;show wpAny_Tuple_spliced (thn (h pos Kz s c H _ I d) λf a ⟨g,H1,I1,r,z,q⟩=>⟨by rw[<-r.length];show z,?_⟩);let i:H1 a.heap.objs.size=none:=I1.hok.fresh (Q5 _);show⟨.ref a.heap.objs.size,upd H1 a.heap.objs.size (.tup g),I1.laid (t':=a.toks) (λb u e=>Q1 _ e) (Q5 _) ?_,(),q _ i⟩;show⟨z,f,r,⟨_,Q9 _ (),(),_,()⟩⟩
def Qs4(h:PA X es t):PE X (.List es pos) (Jf6 t):=by
 intro Kz s c H Q I d;show wpAny_List_spliced (thn (h pos Kz s c H _ I d) λf a ⟨g,H1,I1,r,z,q⟩=>⟨by rw[<-r.length];show z,?_⟩);let i:H1 a.heap.objs.size=none:=I1.hok.fresh (Q5 _);show⟨.ref a.heap.objs.size,upd H1 a.heap.objs.size (.lst g),I1.laid (t':=a.toks) (λb u e=>Q1 _ e) (Q5 _) ?_,(),q _ i⟩;show⟨z,f,0,r,Q9 _ ()⟩
end
abbrev Sp:=List V->Hp->VK->XK->Prop
abbrev CXT:=List Env->Hp->Shared->XK->Kh
structure Env0(P:Program)(w:World)(K:W.Frag)(mg:Str->Option Value)(base:Heap)(A:Around)(outer:List Env)(s:Shared)(H:Hp):Prop where
 frames:A.frames=-outer
 mod:Mod K mg base
 bs:∀b o,base.get? b=-o->s.heap.get? b=-o/\H b=none
 bsz:base.objs.size<=s.heap.objs.size
 funs:s.heap.FunFrames base outer
 frf:∀b∈frs outer,H b=none
 hok:HOk P w H s.heap
 bare:AllBare s.gens
def CE(outer:List Env)(P:Program)(w:World)(H:Hp)(s:Shared)(Q:VK)(u:Value)(s':Shared):Prop:=
 ∃v H',s'.os=s.os/\AllBare s'.gens/\Un (frs outer) [] H H' s.heap s'.heap/\HOk P w H' s'.heap/\RelV v u/\Q v H'
def CR(CX:CXT)(outer:List Env)(P:Program)(w:World)(H:Hp)(s:Shared)(Q:VK)(E:XK)(r:Result)(s':Shared):Prop:=
 match r with
 |.ok (.ret u)=>CE outer P w H s Q u s'|.ok _=>False|.error e=>CX outer H s E e s'
structure FnOk(P:Program)(w:World)(K:W.Frag)(mg:Str->Option Value)(base:Heap)(CX:CXT)(k:Nat)(f:Addr)(fd:FuncData)(ps:List Str)(sp:Sp):Prop where
 len:∀vs H Q E,sp vs H Q E->vs.length=ps.length
 run:∀(A:Around)(outer:List Env)(s:Shared)(H:Hp)(args:Args)(us:List Value)(vs:List V)(Q:VK)(E:XK),Room k A->Env0 P w K mg base A outer s H->BindsTo s fd args (ps.zip us)->Vals vs us->sp vs H Q E ->
  codeAny (model P w) A (.call (.ref f) args) (CR CX outer P w H s Q E) s
def Env0.make{K:W.Frag}(e:Env0 P w K mg base A outer s H)(C:Addr)(us:List Value)(kw:List (Str×Value)):
  Env0 P w K mg base (A.under (.builtin "type.__call__" ⟨.ref C::us,kw⟩)) outer s H:=⟨by first|show e.frames | (simpa[Around.under,Code.envs,Code.isFrame,pushEnvs]using e.frames),e.mod,e.bs,e.bsz,e.funs,e.frf,e.hok,e.bare⟩
section
variable {X:Cx} {Kz:Kg} {σ:St} {H:Hp} {s s':Shared}
def Inv.env0(I:Inv X Kz σ H s):Env0 X.prog X.w X.K X.mg X.base X.A X.stack s H:=
 ⟨I.ok.frames,I.ok.mod,I.bs,Qx I.ok.bsz I.sz,I.stack,I.stkFree,I.hok,I.bare⟩
def Inv.after(I:Inv X Kz σ H s)(h:CE X.stack X.prog X.w H s Q u s'):EP X Kz σ Q u s':=by
 let⟨v,H',os,bare,un,hok,r,q⟩:=h;let⟨c,g,d,t,a⟩:=s';obtain rfl:a=s.os:=os;show⟨v,H',I.call un hok bare (λb z=>absurd z "s"),r,q⟩
end
def Jd7(sp:Sp)(dvs:List V)(E:XK)(t:TA):TE:=λσ H Q=>t σ H λvs H1=>sp (vs++dvs) H1 Q E
def Qyy(C:Addr)(m:Str)(sp:Sp)(dvs:List V)(E:XK)(ta:TE)(t:TA):TE:=λσ H Q=>ta σ H λx H1=>∃a dx fs,x=.ref a/\H1 a=-(.ins C dx fs)/\fs.lookup m=none /\
 t σ H1 λvs H2=>sp (x::(vs++dvs)) H2 Q E
def Jd3(C:Addr)(sp:Sp)(dvs:List V)(E:XK)(t:TA):TE:=λσ H Q=>t σ H λvs H1=>∀x dx,H1 x=none->H1 dx=none->dx≠x ->
 sp (.ref x::(vs++dvs)) (upd (upd H1 dx (.own x)) x (.ins C dx [])) (λv H2=>v=.non/\Q (.ref x) H2) E
def Binds(K:W.Frag)(fd:FuncData)(ps:List Str)(ds:List Value):Prop:=
 ∀(s:Shared)(us:List Value),K.In s.heap->(us++ds).length=ps.length->BindsTo s fd ⟨us,[]⟩ (ps.zip (us++ds))
def Binds.all{K:W.Frag}(h:∀us:List Value,us.length=ps.length->bindArgs fd ⟨us,[]⟩=pure (ps.zip us)):Binds K fd ps []:=λs us _ hl=>by
 rw[QW]at hl ⊢;show .of_eq (h us hl)
def Passes(CX:CXT)(X:Cx)(E:XK):Prop:=∀(Kz:Kg)(σ:St)(H:Hp)(s:Shared)(e:Value)(s':Shared),Inv X Kz σ H s->CX X.stack H s E e s'->X.xe e s'
section
variable {X:Cx} {CX:CXT} {k:Nat} {f C:Addr} {fd:FuncData} {ps:List Str} {sp:Sp} {dvs:List V} {ds:List Value} {E:XK} {x m:Str} {p pos apos:Pos} {e o:Expr} {es:List Expr} {ta:TE} {t:TA}
def Qkk(F:FnOk X.prog X.w X.K X.mg X.base CX k f fd ps sp)(hr:Room k X.A)(hb:Binds X.K fd ps ds)(hd:Vals dvs ds)(hx:Passes CX X E)
  (I:Inv X Kz σ H s) (r:Vals vs us) (h:sp (vs++dvs) H Q E):wpAny (model X.prog X.w) X.A (call (.ref f) us) (EP X Kz σ Q) X.xe s:=by
 let b:=r.append hd;let hl:(us++ds).length=ps.length:=by rw[<-b.length];show F.len _ _ _ _ h
 show wpAny_call (Oa (F.run X.A X.stack s H ⟨us,[]⟩ (us++ds) (vs++dvs) Q E hr I.env0 (hb s us I.kIn hl) b h) λr c a=>?_);cases r with
 |error e=>show hx Kz σ H s e c I a|ok d =>
  cases d with
  |ret u=>show I.after a|next=>show False.elim a|brk=>show False.elim a|cont=>show False.elim a
def Qn0(F:FnOk X.prog X.w X.K X.mg X.base CX k f fd ps sp)(hr:Room k X.A)(hg:Gl X x)(hm:X.mg x=-(.ref f))(hk:W.keepIn X.K (.ref f)=true)(hb:Binds X.K fd ps ds)(hd:Vals dvs ds)(hx:Passes CX X E)
  (ha:PA X (e::es) t) (hdb:(x==("__debug__":Str))=false:=by decide) (he:starEach (e::es) X.env=(false,eval e X.env)::starEach es X.env:=by rfl) (hpl:(backTo pos (starEach es X.env)).any (·.1)=false:=by rfl) :
  PE X (.Call (.Name x p) (e::es) [] pos) (Jd7 sp dvs E t):=by
 intro Kz s a H Q I h;show YX (Qn9 I hg hm ?_ hdb);show W.callWith_K (h₀:=X.base) I.ok.mod.kin hk (thn (ha pos Kz s a H _ I h) λb c ⟨d,H1,I1,r,q⟩=>⟨I1.kIn,?_⟩) he hpl;show Qkk F hr hb hd hx I1 r q
def Qmz{pl:Sem Bool}(he:PE X o ta)(c:Cls X.K C)(hm:Meth X.K C m f)(F:FnOk X.prog X.w X.K X.mg X.base CX k f fd ps sp)(hr:Room k X.A)(hb:Binds X.K fd ps ds)(hd:Vals dvs ds)(hx:Passes CX X E)(ha:PA X (e::es) t)
  (hst:starEach (e::es) X.env=(false,eval e X.env)::starEach es X.env:=by rfl) (hpl:(backTo pos (starEach es X.env)).any (·.1)=false:=by rfl)
  (ht:eval (.Call (.Attribute o m apos) (e::es) [] pos) X.env=(do
   let ov<-eval o X.env
   standAt apos.atName
   let(f,first)<-holding [ov] (getMethod ov m pl)
   callWith pos f first (backTo pos (starEach (e::es) X.env)) (backToKw pos (keywordEach [] X.env))):=by rfl) :
  PE X (.Call (.Attribute o m apos) (e::es) [] pos) (Qyy C m sp dvs E ta t):=by
 intro Kz s b H Q I h;show W.methodCall_KW (pl:=pl) (thn (he Kz s b H _ I h) λu d ⟨x,H1,I1,g,a,dx,fs,ex,i,l,q⟩=>?_) ht;subst ex;obtain rfl:u=Value.ref a:=g;show Qc2 I1 i c hm l ?_;show W.callWith_K (first:=[.ref a]) (h₀:=X.base) I.ok.mod.kin hm.kp (thn (ha pos Kz d b H1 _ I1 q) λus n ⟨vs,H2,I2,r,j⟩=>⟨I2.kIn,?_⟩) hst hpl;show Qkk (us:=.ref a::us) (vs:=.ref a::vs) F hr hb hd hx I2 (.cons () r) j
structure Mk(K:W.Frag)(C f:Addr):Prop where
 makes:W.makesIn K C=true
 init:W.findIn K (.ref C) "__init__"=-(-(.ref f))
 fn:W.isFn K (.ref f)=true
 kp:W.keepIn K (.ref C)=true
def Qri{Kz:Kg}{σ:St}{H:Hp}{s:Shared}{Q:VK}{us:List Value}{vs:List V}(M:Mk X.K C f)(F:FnOk X.prog X.w X.K X.mg X.base CX k f fd ps sp)(hr:Room (k+1) X.A)(hb:Binds X.K fd ps ds)(hd:Vals dvs ds)
  (hx:Passes CX X E) (I:Inv X Kz σ H s) (r:Vals vs us)
  (h:∀x dx,H x=none->H dx=none->dx≠x->sp (.ref x::(vs++dvs)) (upd (upd H dx (.own x)) x (.ins C dx [])) (λv H2=>v=.non/\Q (.ref x) H2) E) :
  wpAny (model X.prog X.w) X.A (call (.ref C) us) (EP X Kz σ Q) X.xe s:=by
 let b:=h (s.heap.objs.size+1) s.heap.objs.size (I.hok.fresh (O7 _)) (I.hok.fresh (Q5 _)) (Qq (WE _));let I2:=Inv.made (C:=C) I;let c:Vals (V.ref (s.heap.objs.size+1)::(vs++dvs)) (Value.ref (s.heap.objs.size+1)::(us++ds)):=.cons () (r.append hd);let hl:(Value.ref (s.heap.objs.size+1)::us++ds).length=ps.length:=by
  let e:=c.length;rw[F.len _ _ _ _ b]at e;show e.symm
 show wpAny_call (Qtl (f:=f) I.kIn M.makes M.init (ZG.mp M.fn) (Oa (F.run _ X.stack _ _ ⟨Value.ref (s.heap.objs.size+1)::us,[]⟩ (Value.ref (s.heap.objs.size+1)::(us++ds)) _ _ E (hr.make C us [])
  (I2.env0.make C us []) (hb _ (Value.ref (s.heap.objs.size+1)::us) I2.kIn hl) c b) λr d a=>?_))
 cases r with
 |error e=>show hx Kz σ _ _ e d I2 a|ok g =>
  cases g with
  |ret u =>
   let⟨v,H',I3,i,j,l⟩:=I2.after a;subst j;show⟨i,⟨V.ref (s.heap.objs.size+1),H',I3,(),l⟩⟩
  |next=>show False.elim a|brk=>show False.elim a|cont=>show False.elim a
def Qwx(M:Mk X.K C f)(F:FnOk X.prog X.w X.K X.mg X.base CX k f fd ps sp)(hr:Room (k+1) X.A)(hg:Gl X x)(hm:X.mg x=-(.ref C))(hb:Binds X.K fd ps ds)(hd:Vals dvs ds)(hx:Passes CX X E)
  (ha:PA X (e::es) t) (hdb:(x==("__debug__":Str))=false:=by decide) (he:starEach (e::es) X.env=(false,eval e X.env)::starEach es X.env:=by rfl) (hpl:(backTo pos (starEach es X.env)).any (·.1)=false:=by rfl) :
  PE X (.Call (.Name x p) (e::es) [] pos) (Jd3 C sp dvs E t):=by
 intro Kz s a H Q I h;show YX (Qn9 I hg hm ?_ hdb);show W.callWith_K (h₀:=X.base) I.ok.mod.kin M.kp (thn (ha pos Kz s a H _ I h) λb c ⟨d,H1,I1,r,q⟩=>⟨I1.kIn,?_⟩) he hpl;show Qri M F hr hb hd hx I1 r q
end
structure Vf(N P:List Str)(sc:Scope):Prop where
 kind:sc.kind=.function
 co:sc.isCoroutine=false
 gen:sc.isGenerator=false
 nd:N.Nodup
 pre:N.take P.length=P
 par:∀x∈P,sc.names.lookup x=some .local\/sc.names.lookup x=-.cell
 nofree:∀y∈sc.names,y.2≠ .free
theorem Qeg{kindOf:Str->Option NameKind}{x:Str}:∀{binds:List (Str×Value)}{m:Str->Option Value},(∀v,(x,v)∉binds)->bindL kindOf binds m x=m x
 |[],_,_=>rfl| (n,v)::r,m,h=>by
  unfold bindL;rw[Qeg λw a=>h w (Q7 _ a)];split
  ·let:x≠n:=by rintro rfl;show h v Q8
   simp[this]
  ·rfl
theorem Qei{kindOf:Str->Option NameKind}:∀{binds:List (Str×Value)}{m:Str->Option Value},(∀v,(x,v)∉binds)->bindC kindOf binds m x=m x
 |[],_,_=>rfl| (n,v)::r,m,h=>by
  unfold bindC;rw[Qei λw a=>h w (Q7 _ a)];split
  all_goals grind
theorem Qeh{kindOf:Str->Option NameKind}:∀{P:List Str}{vs:List Value}{i:Nat}{m:Str->Option Value},P.Nodup->P[i]?=-x->vs[i]?=-v->kindOf x=some .local ->
  bindL kindOf (P.zip vs) m x=-v
 |[],_,_,_,_,h,_,_=>by simp at h|_::_,[],_,_,_,_,h,_=>by simp at h|p::P,w::vs,0,m,nd,a,b,c=>by
  simp at a b;subst a;subst b;change bindL kindOf ((p,w)::P.zip vs) m p=_;unfold bindL;rw[Qeg λv d=>(J0.mp nd).1 (Zl d).1,Qh c]
  simp
 |p::P,w::vs,i+1,m,nd,a,b,c=>by
  unfold bindL;show Qeh (i:=i) (J0.mp nd).2 "e" "e" c
theorem Qej{kindOf:Str->Option NameKind}:∀{P:List Str}{vs:List Value}{i:Nat}{m:Str->Option Value},P.Nodup->P[i]?=-x->vs[i]?=-v->kindOf x≠some .local ->
  bindC kindOf (P.zip vs) m x=-v
 |[],_,_,_,_,h,_,_=>by simp at h|_::_,[],_,_,_,_,h,_=>by simp at h|p::P,w::vs,0,m,nd,a,b,c=>by
  simp at a b;subst a;subst b;change bindC kindOf ((p,w)::P.zip vs) m p=_;unfold bindC;rw[Qei λv d=>(J0.mp nd).1 (Zl d).1,Qc c]
  simp
 |p::P,w::vs,i+1,m,nd,a,b,c=>by
  unfold bindC;show Qej (i:=i) (J0.mp nd).2 "e" "e" c
def start(N:List Str)(vs:List V):St:=vs.map some++List.replicate (N.length-vs.length) none
def ON(CX:CXT)(P:Program)(w:World)(K:W.Frag)(mg:Str->Option Value)(base:Heap)(N:List Str)(qual:Str)(scope:Scope)(f:Addr)(cd:Value)(A:Around)(outer:List Env)(s:Shared)(H:Hp)(E:XK):Cx where
 prog:=P
 w:=w
 K:=K
 mg:=mg
 base:=base
 A:=A.deeper (envOfC qual scope s.heap.objs.size f cd)
 N:=N
 s₀:=s
 H₀:=H
 env:=envOfC qual scope s.heap.objs.size f cd
 outer:=outer
 stack:=envOfC qual scope s.heap.objs.size f cd::outer
 ex:=[]
 calm:=true
 fn:=λ_=>true
 pn:=[]
 xe:=λe s'=>wpAny (model P w) (A.deeper (envOfC qual scope s.heap.objs.size f cd)) (leaving (envOfC qual scope s.heap.objs.size f cd) e) (λ_ s''=>CX outer H s E e s'') (λe' s''=>CX outer H s E e' s'') s'
def Qj7{sc:Scope}(h:sc.names.lookup x=-.cell):∃c,(cellsFrom n sc.names []).lookup x=some c:=by
 let q:=W.cellsFrom_some sc.names n [] (.inl h);show Wg.mp q
def Qpn{CX:CXT}{P:Program}{w:World}{K:W.Frag}{mg:Str->Option Value}{base:Heap}{N ps:List Str}{qual:Str}{scope:Scope}{f:Addr}{cd:Value}{A:Around}{outer:List Env}{s s1:Shared}{H:Hp}{E:XK}{us:List Value}{vs:List V}
  (S:Vf N ps scope) (hd:A.handled=none) (e0:Env0 P w K mg base A outer s H) (hl:vs.length=ps.length) (r:Vals vs us)
  (x:InCallC s s.heap.objs.size (bindL (envOfC qual scope s.heap.objs.size f cd).kindOf (ps.zip us) λ_=>none) (cellsFrom (s.heap.objs.size+1) scope.names []) (bindC (envOfC qual scope s.heap.objs.size f cd).kindOf (ps.zip us) λ_=>none) s1) :
  Inv (ON CX P w K mg base N qual scope f cd A outer s H E) [] (start N vs) H s1:=by
 let hpl:ps.length<=N.length:=by let:=JL List.length S.pre;rw[Z6]at this;lia
 let⟨m,tk,rfl,o⟩:=x.done;let g:∀b:Addr,b∉(ON CX P w K mg base N qual scope f cd A outer s H E).ex:=λb z=>absurd (show b∈([]:List Addr)from z) "s"
 show⟨⟨e0.mod,S.kind,(),(),Q5 _,λy z c m d=>?_,λy hy=>?_,λy c _ h=>?_,λ_=>hd,Around.frames_deeper e0.frames,.inr ⟨(),()⟩,λb z=>absurd z (g b),e0.bs,e0.bsz,λb _ _=>g b,λb z=>absurd z (g b),e0.funs,e0.frf⟩,
  rfl,e0.bare,Un.kept o,⟨_,x.toInCall.ns,λi y v m d h3=>?_⟩,λy c h=>⟨_,x.cell y c h⟩,e0.hok.fresh (Q5 _),λy c h=>?_,λp j=>absurd (show p∈([]:Kg)from j) "s",e0.hok.kept o,?_⟩
 ·show name_of_addr x.apart (Wy m) (Wy d)
 ·let hy:scope.names.lookup y=-.cell\/scope.names.lookup y=-.free:=hy;rcases hy with hy|hy
  ·show Qj7 hy
  ·show absurd () (S.nofree _ (Wy hy))
 ·show Qo8 (x.above y c (Wy h))
 ·let hi:i<vs.length:=by
   unfold start at d
   by_cases hi:i<vs.length
   ·show hi
   ·rw[J4 (by simpa using hi)]at d;rw[Yw]at d;split at d<;>cases d
  let ha:vs[i]?=some v:=by
   unfold start at d;rw[QN (by simpa using hi),Qd]at d;cases e:vs[i]? with
   |none=>rw[e]at d;cases d
   |some a=>rw[e]at d;cases d;rfl
  let⟨u,t,rv⟩:=r.get ha;let j:ps[i]?=some y:=by
   rw[<-S.pre,List.getElem?_take_of_lt "l"];show m
  let l:ps.Nodup:=by rw[<-S.pre];show S.nd.sublist (List.take_sublist _ _)
  show⟨u,rv,?_⟩;rcases S.par y (Q6 j)with k|k
  ·show .inl ⟨k,Qeh l j t k⟩
  ·let⟨c,e⟩:=Qj7 (n:=s.heap.objs.size+1) k;show .inr ⟨.inl k,c,e,?_⟩;let q:=x.cell y c e;rw[Qej l j t (by change scope.names.lookup y≠_;rw[k];decide)]at q;show q
 ·show e0.hok.fresh (Qo8 (x.above y c (Wy h)))
 ·unfold start;change _=N.length;rw[QG,Qb,List.length_replicate]
  lia
def Jee{CX:CXT}{P:Program}{w:World}{K:W.Frag}{mg:Str->Option Value}{base:Heap}{k:Nat}{f:Addr}{name qual:Str}{params:Arguments}{body:List Stmt}{scope:Scope}{dV kV doc pm Kn ct oc:Value}{an od:Option Addr}
  {osl:Array (Option Value)} {N ps:List Str} {sp:Sp} (lk:K.lookup f=-⟨oc,od,.func (W.fnOf name qual params body scope dV kV doc pm an Kn ct),osl⟩) (hcd:W.codeIn K Kn qual=true) (S:Vf N ps scope)
  (len:∀vs H Q E,sp vs H Q E->vs.length=ps.length)
  (hbody:∀(A:Around)(outer:List Env)(s:Shared)(H:Hp)(vs:List V)(Q:VK)(E:XK),Room k (A.deeper (envOfC qual scope s.heap.objs.size f Kn))->sp vs H Q E ->
   ∃t,PSs (ON CX P w K mg base N qual scope f Kn A outer s H E) body t/\t {nx:=λ_ H'=>Q .non H',rt:=Q} (start N vs) H) :
  FnOk P w K mg base CX (k+1) f (W.fnOf name qual params body scope dV kV doc pm an Kn ct) ps sp:=by
 show⟨len,λA outer s H args z vs Q E i d hb r g=>?_⟩;let hl:=len _ _ _ _ g;let KX:K.In s.heap:=d.mod.kin.keeps λb o e=>(d.bs b o e).1
 let j:s.heap.NoLimit:=d.mod.nolimit.keeps λb o e=>(d.bs b o e).1
 let a:∀y∈ps.zip z,scope.names.lookup y.1=some .local\/(scope.names.lookup y.1=-.cell/\((cellsFrom (s.heap.objs.size+1) scope.names []).lookup y.1).isSome=true):=λ⟨n,v⟩ hy=>by
  rcases S.par n (Zl hy).1 with q|q
  ·show .inl q
  ·show .inr ⟨q,W.cellsFrom_some _ _ _ (.inl q)⟩
 show codeAny_call_function i.depth (KX _ _ lk) () S.co S.gen () (W.codeRec_of KX hcd) (hb _ _ _ _ ?_);show wpAny_newFunctionEnv_cells S.kind a λenv he p x=>?_
 subst he;show⟨j.keeps x.toInCall.keep,codeAny_func ?_⟩;let⟨t,ht,hq⟩:=hbody A outer s H vs Q E (i.deeper _) g;let I:Inv (ON CX P w K mg base N qual scope f Kn A outer s H E) [] (start N vs) H p:=Qpn S i.hd d hl r x;show Jn (ht [] p (start N vs) H _ I hq) (λfl l c=>?_) λe l c=>c
 let h:∀{Ku:St}{H':Hp}{v:V}{u:Value},Inv (ON CX P w K mg base N qual scope f Kn A outer s H E) [] Ku H' l->RelV v u->Q v H'->CE outer P w H s Q u l:=
  λ{Ku H' v u} J m q=>⟨v,H',J.os,J.bare,J.base,J.hok,m,q⟩
 cases fl with
 |ret u =>
  let⟨v,Ku,H',J,m,q⟩:=c;show h J m q
 |next =>
  let⟨Ku,H',J,q⟩:=c;show h (v:=V.non) (u:=Value.none) J () q
 |brk =>
  let⟨_,_,_,q⟩:=c;show False.elim q
 |cont =>
  let⟨_,_,_,q⟩:=c;show False.elim q
section
variable {X:Cx} {x:Str} {p pos:Pos} {e:Expr} {es:List Expr} {t:TA} {id T:String} {r:List V->Hp->VK->Prop}
def tCB(r:List V->Hp->VK->Prop)(t:TA):TE:=λσ H Q=>t σ H λvs H1=>r vs H1 Q
def UR(hc:CallR X (.builtin id) r)(hg:Gl X x)(hm:X.mg x=none)(hv:bootBuiltins x=-(.builtin id))(ha:PA X (e::es) t)(hn:x≠ "__name__":=by decide)(hdb:(x==("__debug__":Str))=false:=by decide)
  (he:starEach (e::es) X.env=(false,eval e X.env)::starEach es X.env:=by rfl) (hpl:(backTo pos (starEach es X.env)).any (·.1)=false:=by rfl):PE X (.Call (.Name x p) (e::es) [] pos) (tCB r t):=by
 intro Kz s a H Q I h;show YX (Uo I hg hm hv ?_ hn hdb);show PyProof.Rows.callWith_builtin1 (thn (ha pos Kz s a H _ I h) λb c ⟨d,H1,I1,f,g⟩=>hc Kz c a H1 d b Q I1 f g) he hpl
def Gx(hc:CallR X (.type T) r)(hg:Gl X x)(hm:X.mg x=none)(hv:bootBuiltins x=-(.type T))(ha:PA X (e::es) t)(hn:x≠ "__name__":=by decide)(hdb:(x==("__debug__":Str))=false:=by decide)
  (he:starEach (e::es) X.env=(false,eval e X.env)::starEach es X.env:=by rfl) (hpl:(backTo pos (starEach es X.env)).any (·.1)=false:=by rfl):PE X (.Call (.Name x p) (e::es) [] pos) (tCB r t):=by
 intro Kz s a H Q I h;show YX (Uo I hg hm hv ?_ hn hdb);show WA (thn (ha pos Kz s a H _ I h) λb c ⟨d,H1,I1,f,g⟩=>hc Kz c a H1 d b Q I1 f g) he hpl
end
end L2
namespace HT
open PySem PyProof.Rows
section
variable {prog:Program} {w:World} {A:Around} {E:Kh} {s:Shared}
def sIx(n d:Nat):Option Int->Nat
 |none=>d|some v=>if v<0 then(v+(n:Int)).toNat else min v.toNat n
def Qrh(n d:Nat):sIx n d none=d:=()
def Qfe(n d k:Nat):sIx n d (-(k:Int))=min k n:=by
 rfl
end
end HT
namespace L2
open PySem PySem.Spec PyProof.Rows
abbrev TO:=St->Hp->(Option Int->Hp->Prop)->Prop
def PO(X:Cx)(e:Option Expr)(t:TO):Prop:=
 ∀(Kz:Kg)(s:Shared)(σ:St)(H:Hp)(Q:Option Int->Hp->Prop),Inv X Kz σ H s->t σ H Q ->
  wpAny (model X.prog X.w) X.A (evalPart e X.env) (λu s'=>∃o H',Inv X Kz σ H' s'/\IsPart u o/\Q o H') X.xe s
def Qw2:TO:=λ_ H Q=>Q none H
def Jcz(t:TE):TO:=λσ H Q=>t σ H λx H1=>∃i,x=.int i/\Q (-i) H1
section
variable {X:Cx} {e:Expr} {te:TE} {lo hi:Option Expr} {tl th:TO} {pos p2:Pos}
def Qws:PO X none Qw2:=by
 intro Kz s a H Q I h;show Q2 ⟨none,H,I,.none,h⟩
def Qwr(h:PE X e te):PO X (-e) (Jcz te):=by
 intro Kz s a H Q I b;rw[evalPart_some];show thn (h Kz s a H _ I b) λu f ⟨x,H1,I1,c,d⟩=>?_
 let⟨i,rfl,q⟩:=d;let⟨t,rfl⟩:=c;show⟨-i,H1,I1,.int i t,q⟩
def SlR(X:Cx)(r:V->Option Int->Option Int->Hp->VK->Prop):Prop:=
 ∀(Kz:Kg)(s:Shared)(σ:St)(H:Hp)(x:V)(v vl vu:Value)(lo hi:Option Int)(sl:Addr)(Q:VK),Inv X Kz σ H s->RelV x v->s.heap.IsSliceOf sl vl vu .none->IsPart vl lo->IsPart vu hi->r x lo hi H Q ->
  ∃T id,typeLookup (.type T) "__getitem__"=pure (-(.builtin id))/\s.TypeIs v T/\wpAny (model X.prog X.w) X.A (getItem v (.ref sl)) (EP X Kz σ Q) X.xe s
def tSl(r:V->Option Int->Option Int->Hp->VK->Prop)(te:TE)(tl th:TO):TE:=λσ H Q=>te σ H λx H1=>tl σ H1 λl H2=>th σ H2 λu H3=>r x l u H3 Q
def Qhx{r:V->Option Int->Option Int->Hp->VK->Prop}(hr:SlR X r)(he:PE X e te)(hl:PO X lo tl)(hu:PO X hi th):PE X (.Subscript e (.Slice lo hi none p2) pos) (tSl r te tl th):=by
 intro Kz s c H Q I h;show Subscript_ (thn (he Kz s c H _ I h) λv g ⟨x,H1,I1,i,j⟩=>?_);show wpAny_Slice (thn (hl Kz g c H1 _ I1 j) λd k ⟨l,H2,I2,pl,m⟩=>thn (hu Kz k c H2 _ I2 m) λf a ⟨u,H3,I3,n,o⟩=>?_);rw[evalPart_none];show Q2 ?_;let I4:Inv X Kz c H3 {a with heap:=a.heap.push {cls:=.type "slice",data:=.fields #[d,f,.none]}}:=I3.kept (t':=a.toks) λb y q=>Q1 _ q
 let⟨T,id,p,t,w⟩:=hr Kz {a with heap:=a.heap.push {cls:=.type "slice",data:=.fields #[d,f,.none]}} c H3 x v d f l u a.heap.objs.size Q I4 i (Heap.IsSliceOf.new ..) pl n o;change wpAny (model X.prog X.w) X.A (subscriptTail e (.Slice lo hi none p2) v (.ref a.heap.objs.size)) (EP X Kz c Q) X.xe {a with heap:=a.heap.push {cls:=.type "slice",data:=.fields #[d,f,.none]}};show tail_any (ops:=[.ref a.heap.objs.size,v]) t p w (by with_unfolding_all rfl)
def Quw(xs:List V)(lo hi:Option Int):List V:=(xs.drop (HT.sIx xs.length 0 lo)).take (HT.sIx xs.length xs.length hi-HT.sIx xs.length 0 lo)
def Qiw(xs:List V)(lo hi:Option Int):(Quw xs lo hi).length<=xs.length:=by
 unfold Quw;rw[Z6,Qqf]
 lia
end
def ixN(n:Nat)(i:Int):Option Nat:=if 0<=i then(if i<n then -i.toNat else none)else if Neg.neg (n:Int)<=i then -(i+n).toNat else none
def atI{α:Type}(xs:List α)(i:Int):Option α:=(ixN xs.length i).bind λj=>xs[j]?
def Qy6(h:ixN n i=-j):seqIndex? i n=-j/\j<n/\ Neg.neg (n:Int)<=i/\i<n:=by
 unfold ixN at h
 by_cases b:0<=i
 ·rw[Qh b]at h
  by_cases a:i<n
  ·rw[Qh a]at h;let e:=QZ h;show⟨by rw[seqIndex_of b a,e],"l","l",a⟩
  ext
 ·rw[Qc b]at h
  by_cases a: Neg.neg (n:Int)<=i
  ·rw[Qh a]at h;let e:=QZ h;show⟨by rw[seqIndex_neg "l" a,e],"l",a,"l"⟩
  ext
def Qgs{α:Type}{xs:List α}{i:Int}{v:α}(h:atI xs i=-v):∃j,seqIndex? i xs.length=-j/\xs[j]?=-v/\j<xs.length/\ Neg.neg (xs.length:Int)<=i/\i<xs.length:=by
 unfold atI at h;cases e:ixN xs.length i with
 |none=>rw[e]at h;cases h
 |some j =>
  rw[e]at h;let⟨a,b,h3,h4⟩:=Qy6 e;show⟨j,a,h,b,h3,h4⟩
def Zw{α:Type}{xs:List α}{j:Nat}{v:α}(h:xs[j]?=-v):atI xs (j:Int)=some v:=by
 let a:=(Q3.mp h).1;let e:ixN xs.length (j:Int)=some j:=by
  unfold ixN
  ext
 unfold atI;ext
def Qvb{α:Type}(xs:List α)(v:α):atI (xs++[v]) (Neg.neg (1:Int))=some v:=by
 let hl:(xs++[v]).length=xs.length+1:="s"
 let e:ixN (xs++[v]).length (Neg.neg (1:Int))=-xs.length:=by
  unfold ixN;rw[hl,Qc "d",Qh "l"];congr 1
  lia
 unfold atI;rw[e];change(xs++[v])[xs.length]?=-v
 simp
def PlainIx(b:Expr):Prop:=∀o i,subscripted b false o i=operate [o,i] (getItem o i)
def IxR(X:Cx)(r:R2):Prop:=
 ∀(value slice:Expr)(Kz:Kg)(s:Shared)(σ:St)(H:Hp)(x y:V)(v u:Value)(Q:VK),Inv X Kz σ H s->RelV x v->RelV y u->r x y H Q ->
  subscripted slice false v u=operate [v,u] (getItem v u)->wpAny (model X.prog X.w) X.A (subscriptTail value slice v u) (EP X Kz σ Q) X.xe s
def MtR(X:Cx)(id:String)(r:V->List V->Hp->VK->Prop):Prop:=
 ∀(Kz:Kg)(s:Shared)(σ:St)(H:Hp)(x:V)(xs:List V)(v:Value)(us:List Value)(Q:VK),Inv X Kz σ H s->RelV x v->Vals xs us->r x xs H Q ->
  wpAny (model X.prog X.w) X.A (call (.builtin id) (v::us)) (EP X Kz σ Q) X.xe s
section
variable {X:Cx} {a b:Expr} {ta tb:TE} {pos:Pos}
def IxR.or(h:IxR X r)(h':IxR X r'):IxR X (λx y H Q=>r x y H Q\/r' x y H Q):=by
 intro a b Kz s c H x y v u Q I d e q f;rcases q with q|q
 ·show h a b Kz s c H x y v u Q I d e q f
 ·show h' a b Kz s c H x y v u Q I d e q f
def Jdp(hr:IxR X r)(ha:PE X a ta)(hb:PE X b tb)(hs:PlainIx b):PE X (.Subscript a b pos) (tOp r ta tb):=by
 intro Kz s c H Q I h;show Subscript_ (Jco ha hb I h λv u d x y H2 I2 e f q=>hr a b Kz d c H2 x y v u Q I2 e f q (hs _ _))
def Jdn(K:W.Frag):R2:=λx y H Q=>∃p xs i v,x=.ref p/\y=.int i/\SqL K H p xs/\atI xs i=-v/\Q v H
def Jdl(K:W.Frag):R2:=λx y H Q=>∃p xs i v,x=.ref p/\y=.int i/\SqT K H p xs/\atI xs i=-v/\Q v H
def Jdm:R2:=λx y H Q=>∃z i c,x=.str z/\y=.int i/\z.length<=sizeLine/\atI z.cps.toList i=-c/\Q (.str ⟨#[c]⟩) H
def Qy5:IxR X (Jdn X.K):=by
 intro c d Kz s g H x y v u Q I n o h k;let⟨p,xs,i,z,rfl,rfl,hq,he,q⟩:=h;cases n;let⟨t,rfl⟩:=o;let⟨Kw,r,pl,hz⟩:=I.list hq;let⟨j,b,h2,h3,h4,h5⟩:=Qgs he;let⟨w,l,e⟩:=r.get h2;let hl:=r.length;let hn:=line63;let a:EP X Kz g Q w s:=⟨z,H,I,e,q⟩
 by_cases m:0<=i
 ·let f:i.toNat=j:=by
   rw[seqIndex_of m h5]at b;show QZ b
  show item_listR pl.isList m "l" (by rw[f];simpa using l) a k
 ·let f:(i+(Kw.toArray.size:Int)).toNat=j:=by
   rw[seqIndex_neg "l" h4]at b;rw[Qy,<-hl];show QZ b
  show subscriptTail_builtinR (x:=w) pl.isList.typeIs slot_list_getitem.lookup
   (wpAny_getItem_list_neg (Q:=λr s'=>r=w/\EP X Kz g Q r s') pl.isList "l" (by rw[Qy]<;>lia) "l" (by rw[f];simpa using l) ⟨(),a⟩) k
def Jc3:IxR X (Jdl X.K):=by
 intro a b Kz s e H x y v u Q I f g h k;let⟨p,xs,i,z,rfl,rfl,l,m,q⟩:=h;cases f;let⟨t,rfl⟩:=g;let⟨Kw,r,pl,hz⟩:=I.tuple l;let⟨j,n,o,h3,h4,h5⟩:=Qgs m;let⟨w,ew,c⟩:=r.get o;let hl:=r.length;let hn:=line63;let d:EP X Kz e Q w s:=⟨z,H,I,c,q⟩;show subscriptTail_builtinR (x:=w) pl.typeIs slot_tuple_getitem.lookup
  (getItem_tuple (j:=j) (Q:=λr s'=>r=w/\EP X Kz e Q r s') pl "l" "l" (by rw[Qy,<-hl];show n) (by simpa using ew) ⟨(),d⟩) k
def Jc4:IxR X Jdm:=by
 intro a b Kz s o H x y v u Q I e f h g;let⟨z,i,c,rfl,rfl,p,k,q⟩:=h;let⟨t,rfl⟩:=e;let⟨r,rfl⟩:=f;let⟨j,d,l,h3,h4,h5⟩:=Qgs k;let hl:z.cps.toList.length=z.length:=by simp[Str.length]
 rw[hl]at d h4 h5;let w:=line63;show tail_any (typeIs_str s z t) slot_str_getitem.lookup (getItem_str (c:=c) (by
  let m:decide (i < Neg.neg (2^63:Int))=false:=QV "l";let n:decide (i ≥ 2^63)=false:=QV "l";rw[m,n,Bool.or_false]) (by rw[d];simpa using l) ⟨.str ⟨#[c]⟩,H,I.tok _,⟨_,()⟩,q⟩) g
def rIx(K:W.Frag):R2:=λx y H Q=>Jdn K x y H Q\/Jdl K x y H Q\/Jdm x y H Q
def Jc5:IxR X (rIx X.K):=Qy5.or (Jc3.or Jc4)
def Qey(lo hi:Option Int)(n:Nat):(sliceBounds lo hi none n).1=((HT.sIx n 0 lo:Nat):Int)/\(sliceBounds lo hi none n).2.1=((HT.sIx n n hi:Nat):Int)/\(sliceBounds lo hi none n).2.2=1:=by
 show⟨?_,?_,()⟩
 ·cases lo with
  |none=>rfl|some i =>
   simp only[sliceBounds,HT.sIx,Option.getD_none,show(1) > 0 by decide,Z0]
   grind
 ·cases hi with
  |none=>rfl|some i =>
   simp only[sliceBounds,HT.sIx,Option.getD_none,show(1) > 0 by decide,Z0]
   grind
def Qd1(Kw:List Value)(lo hi:Option Int):slicePick Kw.toArray lo hi none=((Kw.drop (HT.sIx Kw.length 0 lo)).take (HT.sIx Kw.length Kw.length hi-HT.sIx Kw.length 0 lo)).toArray:=by
 let⟨a,b,h3⟩:=Qey lo hi Kw.toArray.size;unfold slicePick;rw[a,b,h3];simp only[sliceRange_one,pick_run,Qy]<;>rfl
def Jfd(K:W.Frag):V->Option Int->Option Int->Hp->VK->Prop:=λx lo hi H Q=>∃a xs,x=.ref a/\SqL K H a xs/\∀p,H p=none->Q (.ref p) (upd H p (.lst (Quw xs lo hi)))
def Qwa:SlR X (Jfd X.K):=by
 intro Kz s j H x v k l lo hi sl Q I e f pl g h;let⟨a,c,rfl,hx,q⟩:=h;cases e;let⟨Kw,r,d,i⟩:=I.list hx;let Ks:=r.length;show⟨"list",_,slot_list_getitem.lookup,d.isList.typeIs,?_⟩;show wpAny_getItem_list_slice d.isList f pl g .none "s" ?_ "e";rw[Qd1,<-Ks];show⟨.ref s.heap.objs.size,_,I.laid (λb m q=>Q1 _ q) (Q5 _) ?_,(),q _ (I.hok.fresh (Q5 _))⟩;show⟨Qx (Qiw c lo hi) i,_,0,(r.drop (HT.sIx c.length 0 lo)).take (HT.sIx c.length c.length hi-HT.sIx c.length 0 lo),Q9 _ ()⟩
def BS:V->Bool
 |.non=>true|.bl _=>true|.int _=>true|.str _=>true|_=>false
def eqV:V->V->Bool
 |.non,.non=>true|.bl a,.bl b=>a==b|.bl a,.int b=>(if a then 1 else 0)==b
 |.int a,.bl b=>a==(if b then 1 else 0)
 |.int a,.int b=>a==b|.str a,.str b=>a==b|_,_=>false
def Jcb{y x:V}(ry:RelV y u)(rx:RelV x v)(fy:BS y=true)(fx:BS x=true):SeqAt.EqAt A s u v (eqV y x):=by
 cases y with
 |non =>
  cases ry;cases x with
  |non=>cases rx;show Qjo _
  |bl b=>cases rx;show SeqAt.EqAt.none_bool b
  |int b=>let⟨t,rfl⟩:=rx;show SeqAt.EqAt.none_int b t
  |str b=>let⟨t,rfl⟩:=rx;show SeqAt.EqAt.none_str b t
  |_=>show absurd ((fx)) QD
 |bl a =>
  cases ry;cases x with
  |non=>cases rx;show SeqAt.EqAt.bool_none a
  |bl b=>cases rx;show SeqAt.EqAt.bool_bool a b
  |int b=>let⟨t,rfl⟩:=rx;show SeqAt.EqAt.bool_int a b t
  |str b=>let⟨t,rfl⟩:=rx;show SeqAt.EqAt.bool_str a b t
  |_=>show absurd ((fx)) QD
 |int a =>
  let⟨c,rfl⟩:=ry;cases x with
  |non=>cases rx;show SeqAt.EqAt.int_none a c
  |bl b=>cases rx;show SeqAt.EqAt.int_bool a c b
  |int b=>let⟨t,rfl⟩:=rx;show SeqAt.EqAt.int_int a c b t
  |str b=>let⟨t,rfl⟩:=rx;show Qvt a c b t
  |_=>show absurd ((fx)) QD
 |str a =>
  let⟨c,rfl⟩:=ry;cases x with
  |non=>cases rx;show SeqAt.EqAt.str_none a c
  |bl b=>cases rx;show SeqAt.EqAt.str_bool a c b
  |int b=>let⟨t,rfl⟩:=rx;show Qvr a c b t
  |str b=>let⟨t,rfl⟩:=rx;show Qvq a c b t
  |_=>show absurd ((fx)) QD
 |_=>show absurd ((fy)) QD
def eqU(x:V)(u:Value):Bool:=match u with
 |.none=>eqV .non x|.bool b=>eqV (.bl b) x|.int i _=>eqV (.int i) x|.str z _=>eqV (.str z) x|_=>false
def Quc(r:RelV y u)(f:BS y=true):eqU x u=eqV y x:=by
 cases y with
 |non=>cases r;rfl
 |bl b=>cases r;rfl
 |int i=>let⟨t,rfl⟩:=r;rfl
 |str z=>let⟨t,rfl⟩:=r;rfl
 |_=>show absurd ((f)) QD
theorem O6:∀{xs:List V}{us:List Value},Vals xs us->xs.all BS=true->us.any (eqU x)=xs.any λy=>eqV y x
 |_,_,.nil,_=>rfl|y::xs,u::us,.cons r t,f=>by
  rw[List.all_cons,Qv]at f;rw[Oc,Oc,Quc r f.1,O6 t f.2]
theorem UY(rx:RelV x v)(fx:BS x=true):∀{xs:List V}{us:List Value},Vals xs us->xs.all BS=true->∀u∈us,SeqAt.EqAt A s u v (eqU x u)
 |_,_,.nil,_=>λu a=>by cases a
 |y::xs,u::us,.cons r t,f=>λb a=>by
  rw[List.all_cons,Qv]at f;rcases Qe.mp a with rfl|a
  ·rw[Quc r f.1];show Jcb r rx f.1 fx
  ·show UY rx fx t f.2 b a
def inV(x:V)(xs:List V):Bool:=xs.any λy=>eqV y x
def rIn(K:W.Frag)(neg:Bool):R2:=λx y H Q=>∃p xs,y=.ref p/\(SqL K H p xs\/SqT K H p xs)/\BS x=true/\xs.all BS=true/\Q (.bl (if neg then !inV x xs else inV x xs)) H
def Qp0:OpR X (compareOp .In) (rIn X.K false):=by
 intro Kz s g H x y v u Q I b d h;let⟨p,i,rfl,a,c,fs,q⟩:=h;cases d;rcases a with a|a
 ·let⟨Kw,r,pl,e⟩:=I.list a;show SeqAt.in_listAt (eqU x) pl.isList (λw f=>UY b c r fs w "e") ⟨.bl _,H,I,(),?_⟩;rw[show Kw.toArray.any (eqU x)=Kw.any (eqU x) by simp,O6 r fs];show q
 ·let⟨Kw,r,pl,e⟩:=I.tuple a;show SeqAt.in_tupleAt (eqU x) pl (λw f=>UY b c r fs w "e") ⟨.bl _,H,I,(),?_⟩;rw[show Kw.toArray.any (eqU x)=Kw.any (eqU x) by simp,O6 r fs];show q
def Qfq:OpR X (compareOp .NotIn) (rIn X.K true):=by
 intro Kz s g H x y v u Q I b d h;let⟨p,i,rfl,a,c,fs,q⟩:=h;cases d;rcases a with a|a
 ·let⟨Kw,r,pl,e⟩:=I.list a;show SeqAt.notIn_listAt (eqU x) pl.isList (λw f=>UY b c r fs w "e") ⟨.bl _,H,I,(),?_⟩;rw[show Kw.toArray.any (eqU x)=Kw.any (eqU x) by simp,O6 r fs];show q
 ·let⟨Kw,r,pl,e⟩:=I.tuple a;show SeqAt.notIn_tupleAt (eqU x) pl (λw f=>UY b c r fs w "e") ⟨.bl _,H,I,(),?_⟩;rw[show Kw.toArray.any (eqU x)=Kw.any (eqU x) by simp,O6 r fs];show q
def Qd6:CallR X (.type "tuple") (λxs H Q=>∃p ys,xs=[.ref p]/\((SqL X.K H p ys/\∀l,H l=none->Q (.ref l) (upd H l (.tup ys)))\/(SqT X.K H p ys/\Q (.ref p) H))):=by
 intro Kz s f H xs j Q I r h;let⟨p,ys,rfl,h⟩:=h;let⟨u,rfl,i⟩:=vals1 r;cases i;rcases h with⟨c,q⟩|⟨c,q⟩
 ·let⟨Kw,d,pl,g⟩:=I.list c;let Ks:=d.length;show call_tuple_list pl.isList (λa kp=>?_) "e";let I1:Inv X Kz f H {s with heap:=a}:=I.kept kp;let I2:Inv X Kz f (upd H a.objs.size (.tup ys)) {s with heap:=a.push {cls:=.type "tuple",data:=.seq Kw.toArray}}:=
   I1.laid (λb o e=>Q1 _ e) (Q5 _) ((⟨g,Kw,d,IsTup.new _ _⟩))
  show⟨.ref a.objs.size,_,I2,(),q _ (I1.hok.fresh (Q5 _))⟩
 ·let⟨Kw,d,pl,g⟩:=I.tuple c;show call_tuple_same pl ⟨.ref p,H,I,(),q⟩
def tyV(K:W.Frag)(T:String)(x:V)(H:Hp):Prop:=match x with
 |.str _=>T= "str"
 |.int _=>T= "int"
 |.ref p=>(T= "list" /\∃xs,SqL K H p xs)\/(T= "tuple" /\∃o,K.lookup p=-o/\o.cls=.type "tuple" /\o.dict=none) \/
   (T= "dict" /\((∃Kv,H p=-(.dK Kv))\/∃Kv,H p=-(.dT Kv)))\/(T= "set" /\∃S n,H p=-(.set S n))
 |_=>False
def Qqx{Kz:Kg}{σ:St}{H:Hp}{s:Shared}{T:String}{x:V}{v:Value}(I:Inv X Kz σ H s)(r:RelV x v)(ty:tyV X.K T x H):
  s.TypeIs v T/\∀a,v=.ref a->∃ob,s.heap.get? a=-ob/\ob.dict=none:=by
 cases x with
 |str z =>
  let⟨t,rfl⟩:=r;cases(show T= "str" from ty);show⟨typeIs_str s z t,λ_ e=>nomatch e⟩
 |int i =>
  let⟨t,rfl⟩:=r;cases(show T= "int" from ty);show⟨typeIs_int s i t,λ_ e=>nomatch e⟩
 |ref p =>
  cases r;rcases ty with⟨rfl,h,f⟩|⟨rfl,o,b,g,hd⟩|⟨rfl,b⟩|⟨rfl,S,n,b⟩
  ·let⟨Kw,_,pl,_⟩:=I.list f;show⟨pl.isList.typeIs,λa e=>?_⟩;cases e;let⟨o,n,e,c,hd,_⟩:=pl;show⟨o,e,hd⟩
  ·show⟨⟨o,I.kIn p o b,g⟩,λa e=>?_⟩;cases e;show⟨o,I.kIn _ o b,hd⟩
  ·let z:∃o,s.heap.get? p=-o/\o.ExactDict:=by
    rcases b with⟨Kv,b⟩|⟨Kv,b⟩
    ·let⟨_,_,_,_,o,_,_,e,ex,_⟩:=I.hok p _ b;show⟨o,e,ex⟩
    ·let⟨_,_,_,_,o,_,_,e,ex,_⟩:=I.hok p _ b;show⟨o,e,ex⟩
   let⟨o,e,ex⟩:=z;show⟨⟨o,e,ex.1⟩,λa d=>?_⟩;cases d;show⟨o,e,ex.2.1⟩
  ·let⟨o,_,_,_,e,ex,_⟩:=I.hok p _ b;show⟨⟨o,e,ex.1⟩,λa d=>?_⟩;cases d;show⟨o,e,ex.2.1⟩
 |_=>show False.elim ty
def Jfa(K:W.Frag)(T:String)(r:V->List V->Hp->VK->Prop)(to:TE):TE:=λσ H Q=>to σ H λx H1=>tyV K T x H1/\r x [] H1 Q
def tBM(K:W.Frag)(T:String)(r:V->List V->Hp->VK->Prop)(to:TE)(t:TA):TE:=λσ H Q=>to σ H λx H1=>tyV K T x H1/\t σ H1 λxs H2=>r x xs H2 Q
variable {o e:Expr} {es:List Expr} {to:TE} {t:TA} {name:Str} {apos cpos:Pos} {T id:String} {r:V->List V->Hp->VK->Prop}
def Jb5(pa:PlainAttrs T)(slot:Slot T name id)(hty:typeOf (.builtin id)=pure (.type "method_descriptor"))(hm:MtR X id r)(ho:PE X o to)
  (hbase:attributeBase o name X.env (eval o X.env)=eval o X.env:=by rfl) (Kj:(apos.endLine==cpos.line)=true:=by rfl):PE X (.Call (.Attribute o name apos) [] [] cpos) (Jfa X.K T r to):=by
 intro Kz s a H Q I h;show Qen hbase Kj (thn (ho Kz s a H _ I h) λv c ⟨x,H1,I1,b,ty,d⟩=>?_);let⟨e,f⟩:=Qqx I1 b ty;show⟨T,id,pa,slot,hty,e,f,WN () (Qgu (hm Kz c a H1 x [] v [] Q I1 b .nil d))⟩
def Qdo(pa:PlainAttrs T)(slot:Slot T name id)(hty:typeOf (.builtin id)=pure (.type "method_descriptor"))(hm:MtR X id r)(ho:PE X o to)(ha:PA X (e::es) t)
  (hbase:attributeBase o name X.env (eval o X.env)=eval o X.env:=by rfl)
  (hfew:((backTo cpos (starEach (e::es) X.env)).all (λx=> !x.1)&&(backToKw cpos (keywordEach [] X.env)).all (λx=>x.1.isSome)
   && decide ((e::es).length+([]:List Keyword).length+(if([]:List Keyword).isEmpty then 0 else 1)<30))=true:=by rfl)
  (Kj:(apos.endLine==cpos.line)=true:=by rfl) (hs:starEach (e::es) X.env=(false,eval e X.env)::starEach es X.env:=by rfl) (hplain:(backTo cpos (starEach es X.env)).any (·.1)=false:=by rfl) :
  PE X (.Call (.Attribute o name apos) (e::es) [] cpos) (tBM X.K T r to t):=by
 intro Kz s a H Q I h;show wpAny_Call_method_late hbase hfew Kj () (thn (ho Kz s a H _ I h) λv d ⟨x,H1,I1,b,ty,f⟩=>?_);let⟨g,i⟩:=Qqx I1 b ty;show⟨T,id,pa,slot,hty,g,i,?_⟩;let c:=ha cpos Kz d a H1 _ I1 f;rw[hs]at c ⊢;show WN (by change(false || (backTo cpos (starEach es X.env)).any (·.1))=false;rw[hplain]<;>rfl) (Qoa ?_);show thn c λj k ⟨l,H2,I2,m,n⟩=>hm Kz k a H2 x l v j Q I2 b m n

end
def MtM(X:Cx)(id:String)(r:V->List V->Hp->VK->Prop):Prop:=
 ∀(Kz:Kg)(s:Shared)(σ:St)(H:Hp)(x:V)(xs:List V)(v:Value)(us:List Value)(Q:VK),Inv X Kz σ H s->RelV x v->Vals xs us->r x xs H Q ->
  wpAny (model X.prog X.w) X.A (call (.builtin id) (v::us)) (EP X Kz σ Q) X.xe s
def Vals.one:∀{x:V}{us:List Value},Vals [x] us->∃u,us=[u]/\RelV x u
 |_,_,.cons r .nil=>⟨_,(),r⟩
def Vals.two:∀{x y:V}{us:List Value},Vals [x,y] us->∃u v,us=[u,v]/\RelV x u/\RelV y v
 |_,_,_,.cons r (.cons q .nil)=>⟨_,_,(),r,q⟩
section
variable {X:Cx} {Kz:Kg} {σ:St} {H:Hp} {s:Shared} {l b:Addr} {xs ys zs:List V}
def Inv.lset{Kw its':List Value}(I:Inv X Kz σ H s)(hH:H l=-(.lst xs))
  (e:s.heap.get? l=some {cls:=.type "list",data:=.seq Kw.toArray n}) (hf:f Kw.toArray=its'.toArray) (hv:Vals ys its') (hz:ys.length<=sizeLine) :
  Inv X Kz σ (upd H l (.lst ys)) {s with heap:=s.heap.update l (Obj.mapSeq f),toks:=t'}:=by
 let q:=PySem.IsL.update e f;rw[hf]at q;show I.write (by rw[hH];show trivial) (.inl ()) (λb u hb a=>(UD s.heap (Obj.mapSeq f) (Jd hb)).trans a) ⟨_,q⟩ ?_;show⟨hz,its',_,hv,q⟩
def Inv.lnew(I:Inv X Kz σ H s)(hv:Vals ys Kw)(hz:ys.length<=sizeLine):
  Inv X Kz σ (upd H s.heap.objs.size (.lst ys)) {s with heap:=s.heap.push {cls:=.type "list",data:=.seq Kw.toArray},toks:=t'}:=
 I.laid (λ_ _ q=>Q1 _ q) (Q5 _) ⟨hz,Kw,0,hv,Q9 _ ()⟩
def Inv.fresh(I:Inv X Kz σ H s):H s.heap.objs.size=none:=I.hok.fresh (Q5 _)
def Inv.lstM(I:Inv X Kz σ H s)(hH:H l=-(.lst xs)):xs.length<=sizeLine/\∃(Kw:List Value)(n:Nat),Vals xs Kw/\xs.length=Kw.length/\s.heap.get? l=some {cls:=.type "list",data:=.seq Kw.toArray n}:=by
 let⟨z,Kw,n,r,e⟩:=I.hok l _ hH;show⟨z,Kw,n,r,r.length,e⟩
def Qt3(h:n<=sizeLine):Builtin.List.listTooLong n=false:=by
 unfold Builtin.List.listTooLong
 ext
end
section
variable {X:Cx}
def Qmq:V->List V->Hp->VK->Prop:=λx vs H Q=>∃l xs y,x=.ref l/\vs=[y]/\H l=-(.lst xs)/\xs.length<sizeLine/\Q .non (upd H l (.lst (xs++[y])))
def Qdz:MtM X "list.append" Qmq:=by
 intro Kz s f H x g v i Q I b c h;let⟨l,j,y,rfl,rfl,a,k,q⟩:=h;cases b;let⟨u,rfl,d⟩:=c.one;let⟨z,Kw,n,r,hl,e⟩:=I.lstM a;show call_meets F.slot_list_append ⟨_,e,()⟩ F.entry_list_append (F.args_list_append_2 _ _) (PySem.list_append l Kw.toArray n u (by rw[Qy];lia)) ⟨e,?_⟩;show⟨.non,_,I.lset (its':=Kw++[u]) a e "s" (r.append (.cons d .nil)) ?_,(),q⟩;rw[QG,WM]
 lia
def Qmp:V->List V->Hp->VK->Prop:=λx vs H Q=>∃l b xs zs,x=.ref l/\vs=[.ref b]/\H l=-(.lst xs)/\H b=-(.lst zs)/\xs.length+zs.length<=sizeLine/\Q .non (upd H l (.lst (xs++zs)))
def Qpa:MtM X "list.extend" Qmp:=by
 intro Kz s w H x y v us Q I g i h;let⟨l,b,xs,zs,rfl,rfl,f,j,hz,q⟩:=h;cases g;let⟨u,rfl,k⟩:=i.one;cases k;let⟨z,Kw,n,r,hl,e⟩:=I.lstM f;let⟨z2,a,m,o,p,t⟩:=I.lstM j;let d:Kw.toArray.size+a.toArray.size<=sizeLine:="e"
 let c: ¬ (!Kw.toArray.isEmpty&&Builtin.List.listTooLong (Kw.toArray.size+a.toArray.size))=true:=by
  rw[Qt3 d,Bool.and_false]
  ext
 show call_meets F.slot_list_extend ⟨_,e,()⟩ F.entry_list_extend (F.args_list_extend_2 _ _)
  (AutoSeq1.list_extend_list_list_0 l Kw.toArray n b a.toArray m c "l" "l") ⟨e,t,?_⟩
 show⟨.non,_,I.lset f e "s" (r.append o) ?_,(),q⟩
 ext
end
end L2
namespace Att
open PySem PySem.W PySem.Calls PyProof.Rows
def Qad:∀(ns:List Int)(vs:List Value),WellAll P h vs (ns.map WData.int)->IntsAre vs ns:=by
 intro ns
 induction ns with
 |nil =>
  intro vs w;cases w;show .nil
 |cons n ns c =>
  intro vs w;cases w with
  |cons a b =>
   cases a;show .cons _ _ (c _ b)
def Qos{l:OpenLaw}(hn:l.most=-n)
  (hpre:l.row.toRowW.claim.pre args=true) (hwl:WellAll P h vals args) :
  ∃a vs ns,vals=[Value.ref a]/\args=[WData.list (ns.map WData.int)]/\h.get? a=some {cls:=.type "list",data:=.seq vs.toArray}/\IntsAre vs ns/\ns.length<=n:=by
 let c:=(pre_splitW hpre).1;let e:l.pre.holds [] {args:=args}=true:=(pre_splitW hpre).2;let⟨d,r,rfl,f,g⟩:=hasAllW_cons c;obtain rfl:=hasAllW_nil g;let⟨m,rfl,h3⟩:=hasW_list f;let⟨ns,rfl⟩:=items_int h3;let Ks:ns.length<=n:=by
  let h4:(WTm.not (.lt (.lit (.int (n:Int))) (.len (.arg 0)))).holds [] {args:=[.list (ns.map .int)]}=true:=by
   let h4:=(holds_andW e).1
   ext
  let h5:=condW_of h4 (w_not (w_lt w_lit (w_len_list (w_arg ()))))
  ext
 cases hwl with
 |cons i j =>
  cases j;cases i with
  |list k b=>show⟨_,_,ns,(),(),k,Qad ns _ b,Ks⟩
def Qow(l:OpenLaw)(args:List WData):l.row.toRowW.claim.post args (.bool true) args=true:=
 postW_of
  (show WShape.has [] (.bool true) .bool=true by rfl)
  ((w_eq_bool (w_res ()) w_lit)) ()
def attach_call{l:OpenLaw}{n:Nat}{q:Program}{loose:List Str}{XP:(Str->Option Value)->Heap->Prop}{YP:World->Heap->Prop}{d:DefRec}
  (hn:l.most=-n) (hdf:d.params.defaults=[])
  (call:∀(w:World)(s₀ Km:Shared)(mg mb:Str->Option Value)(fa:Addr)(o:Obj)(pm cd doc:Value)(a:Addr)(vs:List Value)(ns:List Int),
   Ground q loose [] XP w s₀ mg mb Km.heap->YP w Km.heap ->
   Km.heap.get? fa=-o->o.data=.func (docDef d.name d.params d.body d.scope pm cd doc)->Km.heap.CodeRec cd d.name->mg d.name=-(.ref fa) ->
   Km.heap.get? a=some {cls:=.type "list",data:=.seq vs.toArray}->IntsAre vs ns->ns.length<=n->Km.gens= #[] ->
   codeAny (model l.prog w) callerA (.call (.ref fa) ⟨[.ref a],[]⟩) (λr s'=>r=.ok (.ret (.bool true))/\OldK Km.heap s'.heap/\s'.os=Km.os/\AllBare s'.gens) Km) :
  WalkO q loose XP YP l.row.toRowW d [] (λf vs=>PySem.call f vs):=by
 intro w s₀ Km mg mb G Y fa o pm cd doc dV kV p hd g j h s args k z c m t i u;obtain rfl:dV=.none:=Dflts.none j hdf;obtain rfl:kV=.none:=Dflts.noKw j;let⟨a,vs,ns,rfl,rfl,e,b,Ks⟩:=Qos hn c i;show enter_call (Oa (call w s₀ Km mg mb fa o pm cd doc a vs ns G Y p (fd_plain hd) g h e b Ks s) λr s' v=>?_);let⟨rfl,x,h3,h4⟩:=v;show⟨.inl ⟨.bool true,.bool true,[],(),λ_=>rfl,.bool true,Qow l _,λ_=>⟨O9,λ_ y=>(nomatch y)⟩⟩,x,h3,h4⟩
end Att
namespace L2
open PySem PySem.Spec PyProof.Rows
theorem Qde:∀{vs:List Value}{ns:List Int},IntsAre vs ns->Vals (ns.map V.int) vs
 |_,_,.nil=>.nil|_,_,.cons n t h=>.cons ⟨t,()⟩ (Qde h)
def Only(H:Hp):Prop:=∀b,H b=none\/∃o xs,H b=-(.frz o (.lst xs))
def Qto{w:World}{K:W.Frag}{CX:CXT}{k:Nat}{x:Str}{sp:Sp}
  (KX:K.In Km.heap) (hns:Km.heap.Ns mainGlobals mg) (hb:Km.heap.Ns builtinsNs mb) (hbb:∀x:Str,x≠ "__name__" ->mb x=bootBuiltins x) (hlim:Km.heap.NoLimit) (hg:Km.gens= #[])
  (ha:Km.heap.get? a=some {cls:=.type "list",data:=.seq vs.toArray}) (hi:IntsAre vs ns) (hl:ns.length<=sizeLine) (hr:Room k callerA)
  (F:∀base:Heap,K.In base->base.Ns mainGlobals mg->FnOk P w K mg base CX k fa fd [x] sp) (hbind:∀(s:Shared)(u:Value),BindsTo s fd ⟨[u],[]⟩ [(x,u)])
  (hsp:∀H:Hp,Only H->SqL K H a (ns.map V.int)->sp [.ref a] H (λv _=>v=.bl true) λ_ _ _=>False)
  (hCX:∀H e s',CX [] H Km (λ_ _ _=>False) e s'->False) :
  codeAny (model P w) callerA (.call (.ref fa) ⟨[.ref a],[]⟩) (λr s'=>r=.ok (.ret (.bool true))/\OldK Km.heap s'.heap/\s'.os=Km.os/\AllBare s'.gens) Km:=by
 let rv:=Qde hi;let lenV:=hi.length;let g:∀H:Hp,Only H->SqL K H a (ns.map V.int)->HOk P w H Km.heap->(∀b,H b≠none->b=a)->(H a≠none->K.lookup a=none) ->
   codeAny (model P w) callerA (.call (.ref fa) ⟨[.ref a],[]⟩) (λr s'=>r=.ok (.ret (.bool true))/\OldK Km.heap s'.heap/\s'.os=Km.os/\AllBare s'.gens) Km:=by
  intro H hO hS hok hA hK;let c:∀{b:Addr}{o:Obj},Km.heap.get? b=-o->H b=none->(Qii Km.heap H).get? b=some o:=λe n=>Qu0 e n
  let t:∀{b:Addr}{o:Obj}{l:Array DictEntry}{p:Nat},Km.heap.get? b=-o->o.data=.dict l p->H b=none:=λ{b o l p} e d=>by
   grind
  let f:∀{b:Addr}{m:Str->Option Value},Km.heap.Ns b m->(Qii Km.heap H).Ns b m:=λ{b m} ⟨o,l,p,e,d,r⟩=>⟨o,l,p,c e (t e d),d,r⟩
  let i:=λb o e=>c (KX b o e) (by
   grind)
  let hM:Mod K mg (Qii Km.heap H):=⟨i,f hns,⟨mb,f hb,hbb⟩,let⟨mc,h1,h2⟩:=hlim;⟨mc,f h1,h2⟩⟩;let e0:Env0 P w K mg (Qii Km.heap H) callerA [] Km H:=⟨(),hM,λb o e=>Qxl e,Nat.le_of_eq (Qpq _ _),trivial,λb hb=>absurd (show b∈([]:List Addr)from hb) "s",hok,.of_eq hg⟩;show Oa ((F _ i (f hns)).run callerA [] Km H ⟨[.ref a],[]⟩ [.ref a] [.ref a] _ _ hr e0 (hbind Km (.ref a)) (.cons () .nil) (hsp H hO hS)) λr s' h=>?_
  cases r with
  |error e=>show(hCX H e s' h).elim|ok fl =>
   cases fl with
   |next=>show False.elim h|brk=>show False.elim h|cont=>show False.elim h|ret u =>
    let⟨v,H',os,bare,un,j,r',q⟩:=h;let q':=q;subst q';obtain rfl:u=Value.bool true:=r';show⟨(),OldK.of_keep λb o e=>?_,os,bare⟩;cases q:H b with
    |none=>show un.keep b o e q (by intro z;show absurd (show b∈([]:List Addr)from z) "s") "s"|some u =>
     rcases hO b with z|⟨ob,xs,z⟩
     ·ext
     ·let z2:=un.frzs b ob _ z;let⟨e1,_⟩:=hok b _ z;let⟨e2,_⟩:=j b _ z2
      ext
 cases y:K.lookup a with
 |some o =>
  let e:=KX a o y;rw[ha]at e;cases e;show g (λ_=>none) (λ_=>.inl ()) (.inr ⟨_,vs.toArray,_,y,(),(),(),"e","l"⟩) (λb u z=>by ext) (λb z=>absurd () z) λz=>absurd () z
 |none =>
  show g (λb=>if b=a then -(.frz {cls:=.type "list",data:=.seq vs.toArray} (.lst (ns.map V.int)))else none) (λb=>?_) (.inl (.inr ⟨{cls:=.type "list",data:=.seq vs.toArray},Qh ()⟩)) (λb u z=>?_) (λb z=>?_) λ_=>y
  ·grind
  ·by_cases hb:b=a
   ·let z':=(Qh hb).symm.trans z;cases z';subst hb;show⟨ha,"e",vs,_,rv,ha⟩
   ext
  ext
abbrev KOf{K:W.Frag}{h:Heap}(_:K.In h):W.Frag:=K
def Qw0{l:W.OpenLaw}{K:Params->W.Frag}{CX:World->CXT}{sp:World->Sp}
  (hn:l.most=-n) (hn2:n<=sizeLine) (hdf:d.params.defaults=[]) (hr:Room k callerA)
  (hY:∀(w:World)(h:Heap),YP w h->(K w.params).In h)
  (F:∀(w:World)(mg:Str->Option Value)(fa:Addr)(h:Heap),(K w.params).In h->h.Ns mainGlobals mg->mg d.name=-(.ref fa) ->
   ∃fd:FuncData,(∀(s:Shared)(u:Value),BindsTo s fd ⟨[u],[]⟩ [(x,u)]) /\
    ∀base:Heap,(K w.params).In base->base.Ns mainGlobals mg->FnOk l.prog w (K w.params) mg base (CX w) k fa fd [x] (sp w))
  (hsp:∀(w:World)(H:Hp)(a:Addr)(ns:List Int),ns.length<=n->Only H->SqL (K w.params) H a (ns.map V.int)->sp w [.ref a] H (λv _=>v=.bl true) λ_ _ _=>False)
  (hCX:∀(w:World)(H:Hp)(s:Shared)(e:Value)(s':Shared),CX w [] H s (λ_ _ _=>False) e s'->False) :
  W.WalkO q loose XP YP l.row.toRowW d [] (λf vs=>PySem.call f vs):=by
 show Att.attach_call hn hdf λw s₀ Km mg mb fa o pm y i a vs ns G Y z hd j g c b Ks m=>?_
 let KX:=hY w _ Y;let⟨fd,hb,p⟩:=F w mg fa _ KX G.T.g g;show Qto KX G.T.g G.T.b G.T.builtins G.T.nolimit m c b (Qx Ks hn2) hr p hb (λH r t=>hsp w H a ns Ks r t) λH e s'=>hCX w H Km e s'
def Qqv{l:W.OpenLaw}{K:Params->W.Frag}{sp:W.Frag->Sp}
  (hn:l.most=-n) (hn2:n<=sizeLine) (hdf:d.params.defaults=[]) (hr:Room k callerA)
  (hY:∀(w:World)(h:Heap),YP w h->(K w.params).In h)
  (F:∀(w:World)(mg:Str->Option Value)(fa:Addr)(h:Heap),(K w.params).In h->h.Ns mainGlobals mg->mg d.name=-(.ref fa) ->
   ∃fd:FuncData,(∀(s:Shared)(u:Value),BindsTo s fd ⟨[u],[]⟩ [(x,u)]) /\
    ∀base:Heap,(K w.params).In base->base.Ns mainGlobals mg->FnOk l.prog w (K w.params) mg base CX k fa fd [x] (sp (K w.params)))
  (hsp:∀(K:W.Frag)(H:Hp)(a:Addr)(ns:List Int),ns.length<=n->Only H->SqL K H a (ns.map V.int)->sp K [.ref a] H (λv _=>v=.bl true) λ_ _ _=>False)
  (hCX:∀(H:Hp)(s:Shared)(e:Value)(s':Shared),CX [] H s (λ_ _ _=>False) e s'->False) :
  W.WalkO q loose XP YP l.row.toRowW d [] (λf vs=>PySem.call f vs):=
 Qw0 hn hn2 hdf hr hY F (λw H a ns b c h3=>hsp (K w.params) H a ns b c h3) λ_ H s e s'=>hCX H s e s'
def Zd(s:Stmt):Arguments:=match s with
 |.FunctionDef _ a _ _ _ _ _ _ _ _=>a|_=>{posonlyargs:=[],args:=[],vararg:=none,kwonlyargs:=[],kw_defaults:=[],kwarg:=none,defaults:=[]}
def W1(s:Stmt):List Stmt:=match s with
 |.FunctionDef _ _ b _ _ _ _ _ _ _=>b|_=>[]
def Vs(s:Stmt):Scope:=match s with
 |.FunctionDef _ _ _ _ _ _ sc _ _ _=>sc|_=>{kind:=.function,names:=[],isGenerator:=false,isCoroutine:=false}
abbrev CX0:CXT:=λ_ _ _ _ _ _=>False
abbrev E0:XK:=λ_ _ _=>False
def pass0:Passes CX0 X E0:=λ_ _ _ _ _ _ _ h=>h.elim
structure Fun(K:W.Frag)(x qual:Str)(st:Stmt)(f:Addr)(fd:FuncData):Prop where
 ex:∃(oc:Value)(od:Option Addr)(kV doc pm:Value)(an:Option Addr)(Kn ct:Value)(osl:Array (Option Value)),
  fd=W.fnOf x qual (Zd st) (W1 st) (Vs st) .none kV doc pm an Kn ct/\K.lookup f=-⟨oc,od,.func fd,osl⟩/\W.codeIn K Kn qual=true
 kp:W.keepIn K (.ref f)=true
section
variable {P:Program} {w:World} {K:W.Frag} {mg:Str->Option Value} {base:Heap}
def Fun.ok{x qual:Str}{st:Stmt}{f:Addr}{fd:FuncData}{N ps:List Str}{k:Nat}{sp:Sp}(F:Fun K x qual st f fd)(S:Vf N ps (Vs st))(len:∀vs H Q E,sp vs H Q E->vs.length=ps.length)
  (hbody:∀(Kn:Value)(A:Around)(outer:List Env)(s:Shared)(H:Hp)(vs:List V)(Q:VK)(E:XK),Room k (A.deeper (envOfC qual (Vs st) s.heap.objs.size f Kn))->sp vs H Q E ->
   ∃t,PSs (ON CX0 P w K mg base N qual (Vs st) f Kn A outer s H E).nox (W1 st) t/\t {nx:=λ_ H'=>Q .non H',rt:=Q} (start N vs) H):FnOk P w K mg base CX0 (k+1) f fd ps sp:=by
 let⟨i,j,kV,c,pm,l,Kn,ct,d,rfl,e,a⟩:=F.ex;show Jee e a S len λA outer s H vs Q E g b=>?_
 let⟨t,h,q⟩:=hbody Kn A outer s H vs Q E g b;show⟨t,h.nox,q⟩
def Fun.binds{st:Stmt}(F:Fun K x qual st f fd)
  (h:∀(kV doc pm:Value)(an:Option Addr)(Kn ct:Value)(us:List Value),us.length=ps.length->bindArgs (W.fnOf x qual (Zd st) (W1 st) (Vs st) .none kV doc pm an Kn ct) ⟨us,[]⟩=pure (ps.zip us)):Binds K fd ps []:=by
 let⟨c,d,kV,doc,pm,an,Kn,ct,a,rfl,e,b⟩:=F.ex;show .all (h kV doc pm an Kn ct)
def OI{x qual:Str}{st:Stmt}{f:Addr}{oc:Value}{od an:Option Addr}{osl:Array (Option Value)}{kV doc pm Kn ct:Value}(l:K.lookup f=-⟨oc,od,.func (W.fnOf x qual (Zd st) (W1 st) (Vs st) .none kV doc pm an Kn ct),osl⟩)
  (c:W.codeIn K Kn qual=true) (k:W.keepIn K (.ref f)=true):Fun K x qual st f (W.fnOf x qual (Zd st) (W1 st) (Vs st) .none kV doc pm an Kn ct):=⟨⟨oc,od,kV,doc,pm,an,Kn,ct,osl,(),l,c⟩,k⟩
end
def Qne(hr:Room k A):A.units+1<cLine:=WH (Nat.add_le_add_left "d" _) hr.units
section
variable {X:Cx}
def pv(i:Nat)(hN:X.N[i]?=some x:=by rfl)(hv:Vis X.env.scope x:=by first|show QI rfl|show QB (QI ())|show QB (QB ()))(hd:(x==("__debug__":Str))=false:=by decide)
  (hcd:(x==("__classdict__":Str))=false:=by decide):PE X (.Name x pos) (Qb6 i):=Wv hN hv hd hcd
end
def Qtu{A B:Prop}(h:B):if false=true then A else B:=by
 ext
def Qpl{A B:Prop}(h:A):if true=true then A else B:=by
 ext
def Same(H H':Hp):Prop:=∀b o,H b=-o->H' b=-o
def Same.refl(H:Hp):Same H H:=λ_ _ h=>h
def Same.trans(a:Same H H1)(b:Same H1 H2):Same H H2:=λc o h=>b c o (a c o h)
def Same.free(e:Same H H')(h:H' l=Option.none):H l=Option.none:=by
 cases q:H l with
 |none=>rfl|some o =>
  rw[e l o q]at h;cases h
def Same.seq{K:W.Frag}{H H':Hp}{a:Addr}{xs:List V}(e:Same H H')(h:SqL K H a xs):SqL K H' a xs:=by
 rcases h with(h|⟨o,h⟩)|h
 ·show .inl (.inl (e _ _ h))
 ·show .inl (.inr ⟨o,e _ _ h⟩)
 ·show .inr h
def YS(scope:Scope)(env:Env):List (Str×Addr):=
 (scope.names.filterMap λy=>if y.2 ==.free then(env.cells.lookup y.1).map λa=>(y.1,a)else none).reverse
def Qtg{scope:Scope}{env:Env}{y:Str}{c:Addr}(h:(y,c)∈YS scope env):env.cells.lookup y=some c:=by
 unfold YS at h;rw[List.mem_reverse,Ba]at h;let⟨⟨n,k⟩,_,e⟩:=h;split at e
 ·cases q:env.cells.lookup n with
  |none=>simp[q]at e|some a =>
   simp[q]at e;let⟨rfl,rfl⟩:=e;show q
 ·cases e
def Wb(h:(YS scope env).lookup y=-c):env.cells.lookup y=some c:=
 Qtg (Wy h)
def Qj6{scope:Scope}{env:Env}{y:Str}{c:Addr}(hm:(y,NameKind.free)∈scope.names)(h:env.cells.lookup y=-c):(YS scope env).lookup y=some c:=by
 let b:(y,c)∈YS scope env:=by
  unfold YS;rw[List.mem_reverse,Ba];show⟨(y,.free),hm,by simp[h]⟩
 cases q:(YS scope env).lookup y with
 |none =>
  exfalso;let:∀(l:List (Str×Addr)),l.lookup y=none->(y,c)∉l:=by
   intro l
   induction l with
   |nil=>intro _ z;cases z
   |cons a r f =>
    let⟨n,d⟩:=a;intro e z;rw[Ue]at e;cases hb:(y==n)with
    |true=>simp[hb]at e|false =>
     simp only[hb]at e;rcases Qe.mp z with z|z
     ·injection z with g _
      subst g;simp at hb
     ·show f e z
  show this _ q b
 |some d =>
  let:=Wb q;rw[h]at this;cases this;rfl
def Gf(env:Env)(x:Str×NameKind)(cs:List (Str×Addr)):Sem (ForInStep (List (Str×Addr))):=
 match x with
 | (name,kind)=>if(kind==NameKind.free)=true then do
   let a<-cellOf env name
   pure (ForInStep.yield ((name,a)::cs))
  else pure (ForInStep.yield cs)
def YR{scope:Scope}{env:Env}(h:∀y∈scope.names,y.2=.free->(env.cells.lookup y.1).isSome=true):closureFor scope env=pure (YS scope env):=by
 let go:∀(l:List (Str×NameKind))(b:List (Str×Addr)),(∀y∈l,y.2=.free->(env.cells.lookup y.1).isSome=true) ->
   forIn (m:=Sem) l b (Gf env)=pure ((l.filterMap λy=>if y.2 ==.free then(env.cells.lookup y.1).map λa=>(y.1,a)else none).reverse++b):=by
  intro l
  induction l with
  |nil=>intro b _;rfl|cons y r g =>
   let⟨n,k⟩:=y;intro b hy;let i:=λy o=>hy y (Q7 _ o)
   rw[Qcv];cases d:(k==NameKind.free)with
   |false =>
    let e:Gf env (n,k) b=pure (ForInStep.yield b):=by simp[Gf,d]
    rw[e];change forIn (m:=Sem) r b (Gf env)=_;rw[g b i];let f:k≠ .free:=by simpa using d
    simp[W5,f]
   |true =>
    let c:k=.free:=by simpa using d
    let j:=hy (n,k) Q8 c;cases q:env.cells.lookup n with
    |none=>rw[q]at j;cases j
    |some a =>
     let e:Gf env (n,k) b=pure (ForInStep.yield ((n,a)::b)):=by
      simp only[Gf,d,Z0,cellOf,q];rfl
     rw[e];change forIn (m:=Sem) r ((n,a)::b) (Gf env)=_;rw[g ((n,a)::b) i];simp[W5,c,q]
 let:=go scope.names [] h;rw[QW]at this;unfold closureFor;change(forIn (m:=Sem) scope.names [] (Gf env) >>= λp=>pure p)=_;rw[this];rfl
def relab(env:Env)(y:Str×NameKind):Str×NameKind:=match y with
 | (n,k)=>if(k==NameKind.free&&env.scope.kind ==.function&&env.kindOf n==-.cell)=true then(n,.cell)else(n,k)
def UZ{scope:Scope}{env:Env}(y:Str):(relabel scope env).names.lookup y =
  (scope.names.lookup y).map λk=>if(k ==.free&&env.scope.kind ==.function&&env.kindOf y==-.cell)=true then .cell else k:=by
 change List.lookup y (scope.names.map (relab env))=_
 induction scope.names with
 |nil=>rfl|cons a r b =>
  let⟨n,k⟩:=a;rw[Qw];let c:(relab env (n,k))=(n,if(k ==.free&&env.scope.kind ==.function&&env.kindOf n==-.cell)=true then .cell else k):=by
   unfold relab;simp only;split<;>rfl
  rw[c,Ue,Ue];cases hb:(y==n)with
  |true =>
   let e:y=n:=by simpa using hb
   subst e;rfl
  |false=>show b
structure CompOk(N:List Str)(osc:Scope)(x:Str)(scope:Scope):Prop where
 kind:scope.kind=.function
 nocell:∀y∈scope.names,y.2≠ .cell
 names:∀y∈scope.names,y.2=.local->scope.names.lookup y.1=some .local
 hx:scope.names.lookup x=some .local
 only:∀y∈N,scope.names.lookup y≠some .local
 free:∀y∈scope.names,y.2=.free->osc.names.lookup y.1=-.cell\/osc.names.lookup y.1=-.free
 nd:(x::N).Nodup
def ZV(N:List Str)(osc:Scope)(x:Str)(scope:Scope):Bool:=
 (scope.kind ==.function)&&scope.names.all (λy=> !(y.2 ==.cell))&&scope.names.all (λy=> !(y.2 ==.local) || scope.names.lookup y.1==some .local) &&
 (scope.names.lookup x==some .local)&&N.all (λy=> !(scope.names.lookup y==some .local)) &&
 scope.names.all (λy=> !(y.2 ==.free) || (osc.names.lookup y.1==-.cell || osc.names.lookup y.1==-.free))&&decide ((x::N).Nodup)
def CompOk.of{N:List Str}{osc:Scope}{x:Str}{scope:Scope}(h:ZV N osc x scope=true):CompOk N osc x scope:=by
 unfold ZV at h;simp only[Qv,Wd,Wo,ZG,Bool.or_eq_true,Qob,JO]at h;let⟨⟨⟨⟨⟨⟨a,b⟩,h3⟩,h4⟩,h5⟩,c⟩,d⟩:=h;show⟨by simpa using a,λy hy e=>?_,λy hy e=>?_,h4,λy hy e=>?_,λy hy e=>?_,d⟩
 ·let:=b y hy;simp[e]at this
 ·let:=h3 y hy;simpa[e]using this
 ·let:=h5 y hy;simp[e]at this
 ·let:=c y hy;simpa[e]using this
def cxC(X:Cx)(x:Str)(scope:Scope)(cl:List (Str×Addr))(C:Addr)(s:Shared)(H:Hp)(ex:List Addr):Cx where
 prog:=X.prog
 w:=X.w
 K:=X.K
 mg:=X.mg
 base:=X.base
 A:=X.A
 N:=x::X.N
 s₀:=s
 H₀:=H
 env:=compEnvC scope cl C X.env
 outer:=X.stack
 stack:=X.stack
 ex:=ex
 fn:=λ_=>false
 calm:=X.calm
 pn:=[]
 xe:=λ_ _=>False
section
variable {X:Cx} {Kz:Kg} {σ:St} {H:Hp} {s:Shared}
def CompOk.cells(ok:CompOk X.N X.env.scope x scope)(I:Inv X Kz σ H s)(hy:(y,NameKind.free)∈scope.names):∃c,X.env.cells.lookup y=some c:=
 I.ok.has y (ok.free (y,.free) hy ())
def Qe5{x:Str}{scope:Scope}{fp:List Addr}{h1:Heap}{C:Addr}{m0:Str->Option Value}{t:Nat}(ok:CompOk X.N X.env.scope x scope)(I:Inv X Kz σ H s)
  (hf:∀b∈fp,FpOk X Kz H b) (ho:∀b∈fp,∃o,s.heap.get? b=-o) (hC:s.heap.objs.size<=C) (kp:∀b o,s.heap.get? b=-o->h1.get? b=-o) (ns:h1.Ns C m0) :
  Inv (cxC X x scope (YS scope X.env) C s H fp) [] (none::σ) H {s with heap:=h1,toks:=t}:=by
 let d:∀y,((relabel scope X.env).names.lookup y=-.cell\/(relabel scope X.env).names.lookup y=-.free)->(y,NameKind.free)∈scope.names:=λy hy=>by
  rw[UZ]at hy;cases q:scope.names.lookup y with
  |none=>rw[q]at hy;simp at hy|some k =>
   let f:=Wy q;cases k with
   |free=>show f|cell=>show absurd () (ok.nocell _ f)|_=>rw[q]at hy;simp at hy
 show⟨⟨I.ok.mod,ok.kind,I.ok.glob,I.ok.blt,hC,λy z c h1 h2=>I.ok.inj y z c (Wb h1) (Wb h2),λy hy=>?_,λy c hy _=>absurd hy (by change ¬ (false=true);simp),I.ok.hd,I.ok.frames,.inl (),λb hb=>⟨?_,λy c e=>(hf b hb).2.2.2.2.1 y c (Wb e)⟩,
   I.bs,Qx I.ok.bsz I.sz,λb o e hb=>?_,λb hb z=>?_,I.stack,I.stkFree⟩,(),I.bare,Un.kept kp,⟨m0,ns,λi y v e1 e2 a=>?_⟩,λy c e=>?_,I.hok.fresh hC,λy c e=>I.freeC y c (Wb e),λp hp=>absurd (show p∈([]:Kg)from hp) "s",I.hok.kept kp,?_⟩
 ·let f:=d y hy;let⟨c,e⟩:=ok.cells I f;show⟨c,Qj6 f e⟩
 ·let⟨o,e⟩:=ho b hb;show Qq (Qp (Qj e) hC)
 ·rcases(hf b hb).2.2.2.1 with z|z
  ·show I.ok.noex b o e z
  ·show absurd (Qp (Qj (I.ok.bs b o e).1) z) (JG _)
 ·rcases Qe.mp (I.stkSub b z)with z|z
  ·show(hf b hb).2.1 z
  ·show(hf b hb).2.2.1 z
 ·cases i with
  |zero =>
   let:(none:Option V)=some v:=by simpa using e2
   cases this
  |succ i =>
   let g:X.N[i]?=some y:=by simpa[cxC]using e1
   let n:σ[i]?=-(-v):=by simpa using e2
   let hy:y∈X.N:=Q6 g;let h:(relabel scope X.env).names.lookup y=-.cell\/(relabel scope X.env).names.lookup y=-.free:=by
    rcases a with a|a|a
    ·exfalso;let a:(relabel scope X.env).names.lookup y=some .local:=a;rw[UZ]at a;cases q:scope.names.lookup y with
     |none=>rw[q]at a;simp at a|some k =>
      rw[q]at a
      by_cases hk:k=.local
      ·show ok.only y hy (by rw[q,hk])
      ·simp only[Option.map_some,Option.some.injEq]at a;split at a
       ·cases a
       ·show hk a
    ·show .inl a
    ·show .inr a
   let f:=d y h;let w:Vis X.env.scope y:=by
    rcases ok.free _ f rfl with z|z
    ·show .inr (.inl z)
    ·show .inr (.inr z)
   let⟨m,_,hl⟩:=I.loc;let⟨u,r,l⟩:=hl i y v g n w;show⟨u,r,.inr ⟨h,?_⟩⟩;rcases l with⟨k,_⟩|⟨_,c,e,z⟩
   ·rcases ok.free _ f rfl with z|z
    ·let j:X.env.scope.names.lookup y=some .local:=k;rw[z]at j;cases j
    ·let j:X.env.scope.names.lookup y=some .local:=k;rw[z]at j;cases j
   ·show⟨c,Qj6 f e,z.keeps kp⟩
 ·let⟨v,z⟩:=I.cell y c (Wb e);show⟨v,z.keeps kp⟩
 ·change(none::σ).length=(x::X.N).length;simp[I.len]
def PTs(X:Cx)(ifs:List Expr)(t:TT):Prop:=
 ∀(Kz:Kg)(s:Shared)(σ:St)(H:Hp)(Q:Bool->Hp->Prop),Inv X Kz σ H s->t σ H Q ->
  wpAny (model X.prog X.w) X.A (forIn ifs true λc r=>if r=true then do let ok<-isTrue c X.env (eval c X.env);pure (ForInStep.yield ok)else pure (ForInStep.yield r)) (TP X Kz σ Q) X.xe s
def Jcx:TT:=λ_ H Q=>Q true H
def Qms:PTs X [] Jcx:=λ_ _ _ H _ I h=>Q2 ⟨H,I,h⟩
def Qwk(h:PT X c t):PTs X [c] t:=by
 intro Kz s a H Q I d;show Q0 (Q0 (thn (h Kz s a H Q I d) λb e hb=>Q2 (Q2 hb)))
def Qr4(wi:TI)(tc:TT)(te:TE):TE:=λσ H Q=>wi σ H λJ H1=>∃W:Nat->Nat->List V->Hp->Prop,(∃m,W 0 m [] H1)/\∀i m ys H,W i m ys H ->
 (J.stop i H/\∀p,H p=none->Q (.ref p) (upd H p (.lst ys))) \/
 (J.go i H/\ys.length<sizeLine/\∀x H',J.yld i H x H'->tc (-x::σ) H' λb H''=>if b=true then te (-x::σ) H'' (λy H3=>∃m',m'<m/\W (i+1) m' (ys++[y]) H3)else ∃m',m'<m/\W (i+1) m' ys H'')
def lobj(Kw:List Value)(k:Nat):Obj:={cls:=.type "list",data:=.seq Kw.toArray k}
def Qcb{elt iter:Expr}{x:Str}{px:Pos}{ifs:List Expr}{scope:Scope}{pos:Pos}{tc:TT}{te:TE}{J:It}{fp:List Addr}{it:Addr}{tn:Nat->Heap->Prop}{RR:Value->Addr->Result->Shared->Prop}{E:Kh}
  (ok:CompOk X.N X.env.scope x scope) (hc:X.calm=true) (hifs:∀cl C s H ex,PTs (cxC X x scope cl C s H ex) ifs tc) (helt:∀cl C s H ex,PE (cxC X x scope cl C s H ex) elt te)
  (I:Inv X Kz σ H s) (T:Turn X.prog X.w X.K (.Name x px) J fp it tn) (st:tn 0 s.heap) (hf:∀b∈fp,FpOk X Kz H b) {W:Nat->Nat->List V->Hp->Prop} (w0:∃m,W 0 m [] H) {Qf:List V->Hp->Prop}
  (turn:∀i m ys H,W i m ys H->(J.stop i H/\Qf ys H) \/
   (J.go i H/\ys.length<sizeLine/\∀x H',J.yld i H x H'->tc (-x::σ) H' λb H''=>if b=true then te (-x::σ) H'' (λy H3=>∃m',m'<m/\W (i+1) m' (ys++[y]) H3)else ∃m',m'<m/\W (i+1) m' ys H''))
  (fin:∀D C s' H' ys Kw k,s.heap.objs.size<=D->s.heap.objs.size<=C->D≠C->Inv (cxC X x scope (YS scope X.env) C s H fp) [(D,lobj Kw k)] (none::σ) H' s'->Vals ys Kw->ys.length<=sizeLine->Qf ys H'->RR (.ref D) C (.ok .next) s') :
  wpAny (model X.prog X.w) X.A (newList []) (λacc s₃=>wpAny (model X.prog X.w) X.A (newFunctionEnv scope X.env.globals (YS scope X.env) [] X.env.qual none .none (-X.env)) (λcenv s₄ =>
   codeAny (model X.prog X.w) X.A (.compStart (.ListComp elt [⟨.Name x px,iter,ifs,0⟩] scope pos) 0 (.ref it) acc {cenv with scope:=relabel scope X.env}) (RR acc cenv.locals) s₄) E s₃) E s:=by
 show Ja (wpAny_newFunctionEnv ok.nocell (by intro y hy;simp at hy) (λh g d=>?_) ok.kind);dsimp only at g d ⊢;generalize hH2:s.heap.push {cls:=.type "list",dict:=none,data:=.seq ([]:List Value).toArray}=H2 at g d ⊢;let hCs:H2.objs.size=s.heap.objs.size+1:=by rw[<-hH2,WV]
 let hDC:s.heap.objs.size≠H2.objs.size:=by rw[hCs];show Qq (WE _)
 let hCle:s.heap.objs.size<=H2.objs.size:=by rw[hCs];show O7 _
 let old:∀b o,s.heap.get? b=-o->h.get? b=some o:=λb o e=>d.extBut b o (Qq (Qp (Qj e) hCle)) (Q1 _ (hH2▸Q1 _ e))
 let hacc:h.get? s.heap.objs.size=-(lobj [] 0):=d.extBut _ _ hDC (Q1 _ (hH2▸Q9 _ ()));let hobj:∀b∈fp,∃o,s.heap.get? b=some o:=λb hb=>let⟨o,e,_⟩:=T.obj 0 _ st b hb;⟨o,e⟩
 let fpD:∀b∈fp,b≠s.heap.objs.size:=λb hb=>let⟨o,e⟩:=hobj b hb;Qq (Qj e)
 let fpC:∀b∈fp,b≠H2.objs.size:=λb hb=>let⟨o,e⟩:=hobj b hb;Qq (Qp (Qj e) hCle)
 let st1:tn 0 h:=T.keep 0 _ _ st λb _ o e=>old b o e
 generalize a:cxC X x scope (YS scope X.env) H2.objs.size s H fp=Xc;let eP:Xc.prog=X.prog:=by rw[<-a];rfl
 let eW:Xc.w=X.w:=by rw[<-a];rfl
 let eK:Xc.K=X.K:=by rw[<-a];rfl
 let eA:Xc.A=X.A:=by rw[<-a];rfl
 let eL:Xc.env.locals=H2.objs.size:=by rw[<-a];rfl
 let eE:Xc.env=compEnvC scope (YS scope X.env) H2.objs.size X.env:=by rw[<-a];rfl
 let eX:Xc.ex=fp:=by rw[<-a];rfl
 let eS:Xc.s₀=s:=by rw[<-a];rfl
 let eN:Xc.N=x::X.N:=by rw[<-a];rfl
 let eQ:Xc.pn=[]:=by rw[<-a];rfl
 let eF:Xc.xe=λ_ _=>False:=by rw[<-a];rfl
 let eO:Xc.fs=frs X.stack:=by rw[<-a];rfl
 let eCm:Xc.calm=true:=by rw[<-a];show hc
 let hifs':PTs Xc ifs tc:=a▸hifs _ _ _ _ _;let helt':PE Xc elt te:=a▸helt _ _ _ _ _;let nfsD:s.heap.objs.size∉Xc.fs:=λz=>by
  rw[eO]at z;rcases Qe.mp (I.stkSub _ z)with z|z
  ·show absurd I.lt (by rw[<-z];show JG _)
  ·show I.nofs (Q5 _) z
 let cellD:∀y c,Xc.env.cells.lookup y=-c->c≠s.heap.objs.size:=λy c e=>by
  rw[eE]at e;let⟨v,z⟩:=I.cell y c (Wb e);show Qq z.lt
 let cellF:∀b∈fp,∀y c,Xc.env.cells.lookup y=-c->c≠b:=λb hb y c e=>by
  rw[eE]at e;show(hf b hb).2.2.2.2.1 y c (Wb e)
 let nfsF:∀b∈fp,b∉Xc.fs:=λb hb z=>by
  rw[eO]at z;rcases Qe.mp (I.stkSub _ z)with z|z
  ·show(hf b hb).2.1 z
  ·show(hf b hb).2.2.1 z
 let t:∀{H':Hp}{o:Obj},(∀b∈fp,H' b=none)->∀b∈fp,FpOk Xc [(s.heap.objs.size,o)] H' b:=λ{H' o} hn b hb =>
  ⟨hn b hb,by rw[eL];show fpC b hb,nfsF b hb,.inl (by rw[eX];show hb),cellF b hb,λp l=>by
   rw[eQ]at l;let e:p=(s.heap.objs.size,o):=by simpa using l
   rw[e];show Jd (fpD b hb)⟩
 let pinD:∀{Ku:St}{H':Hp}{s':Shared}{Kw:List Value}{k:Nat},Inv Xc [] Ku H' s'->s'.heap.get? s.heap.objs.size=-(lobj Kw k)->H' s.heap.objs.size=none->Inv Xc [(s.heap.objs.size,lobj Kw k)] Ku H' s':=λ{Ku H' s' Kw k} I' e n =>
  I'.pins_of λp l=>by
   let z:p=(s.heap.objs.size,lobj Kw k):=by simpa using l
   subst z;show⟨e,n,by rw[eL];show hDC,nfsD,λv z=>by cases z⟩
 let loop:∀s₃:Shared,s₃={s with heap:=h,toks:=s.toks+([]:List (Str×Value)).length} ->
   codeAny (model X.prog X.w) X.A (.compLoop (.ListComp elt [⟨.Name x px,iter,ifs,0⟩] scope pos) 0 (.ref it) (.ref s.heap.objs.size) Xc.env) (RR (.ref s.heap.objs.size) H2.objs.size) s₃:=by
  rintro s₃ rfl;let⟨m0,w0⟩:=w0;let I0:Inv Xc [] (none::σ) H {s with heap:=h,toks:=s.toks+([]:List (Str×Value)).length}:=a▸Qe5 ok I hf hobj hCle old g;show codeAny_compLoop_tests (λn s'=>∃i ys Kw H' k,Inv Xc [(s.heap.objs.size,lobj Kw k)] (none::σ) H' s'/\tn i s'.heap/\(∀b∈fp,H' b=none)/\Vals ys Kw/\ys.length<=sizeLine/\W i n ys H') ?_ m0
   ⟨0,[],[],H,0,pinD I0 hacc (I.hok.fresh (Q5 _)),st1,λb hb=>(hf b hb).1,.nil,QJ _,w0⟩
  rintro n s3 ⟨i,ys,Kw,H3,k,I3,st3,fr3,rv,hlen3,w3⟩;rcases turn i n ys H3 w3 with⟨stop,q⟩|⟨go,Ks,step⟩
  ·let hd:=T.done Xc eP eW eK eCm i _ s3 (none::σ) H3 (notedBy (model X.prog X.w) X.A Xc.env λe s'=>RR (.ref s.heap.objs.size) H2.objs.size (.error e) s') I3 (t fr3) st3 stop;rw[eA]at hd;show thn hd λr s4 ⟨hr,I4⟩=>?_
   subst hr;show fin _ _ s4 H3 ys Kw k (Q5 _) hCle hDC (a▸I4) rv hlen3 q
  ·let hd:=T.item Xc eP eW eK eCm i _ s3 (none::σ) H3 (notedBy (model X.prog X.w) X.A Xc.env λe s'=>RR (.ref s.heap.objs.size) H2.objs.size (.error e) s') I3 (t fr3) st3 go;rw[eA]at hd;show thn hd λr s4 ⟨u,hr,h4⟩=>?_
   subst hr;change wpAny (model X.prog X.w) X.A (letOwnedTupleGo (.Name x px) (.ref it) u >>= λ_=>assign (.Name x px) Xc.env u) _ _ s4;show Q0 (thn h4 λ_ s5 ⟨v,H5,I5,r5,y5,st5,fr5⟩=>?_);let I5':=I5.pinned (t fr5) (T.obj _ _ st5);show Qcs (Qb8 (i:=0) I5' (by rw[eN];show ok.nd) (by rw[eN];rfl) (.inl (by rw[eE];show Z3 ok.hx)) r5 (λs6 I6=>?_) (.inr (by rw[eE];show Z3 ok.hx)));let I6':Inv Xc ([(s.heap.objs.size,lobj Kw k)]++Um fp s5.heap) (-v::σ) H5 s6:=I6;let ht:=hifs' _ s6 (-v::σ) H5 _ I6' (step v H5 y5);rw[eP,eW,eA,eF]at ht;show Jn ht (λb s7 ⟨H7,I7,q7⟩=>?_) λ_ _ f=>f.elim
   let back:∀{H':Hp}{s':Shared},Inv Xc ([(s.heap.objs.size,lobj Kw k)]++Um fp s5.heap) (-v::σ) H' s' ->
     s'.heap.get? s.heap.objs.size=-(lobj Kw k)/\H' s.heap.objs.size=none/\tn (i+1) s'.heap/\(∀b∈fp,H' b=none)/\Inv Xc [] (none::σ) H' s':=λ{H' s'} J'=>by
    let l:∀p∈[(s.heap.objs.size,lobj Kw k)]++Um fp s5.heap,s'.heap.get? p.1=-p.2/\H' p.1=none:=λp l=>⟨(J'.pin p (QC _ l)).1,(J'.pin p (QC _ l)).2.1⟩
    show⟨(l (s.heap.objs.size,lobj Kw k) "s").1,(l (s.heap.objs.size,lobj Kw k) "s").2,T.keep _ _ _ st5 λb hb o e=>(l (b,o) (QC _ (ZM hb e))).1,λb hb=>?_,?_⟩
    ·let⟨o,e,_⟩:=T.obj _ _ st5 b hb;show(l (b,o) (QC _ (ZM hb e))).2
    ·show(J'.pins_of (pins':=[]) λp l=>by cases l).weak "s" λj w e=>?_
     cases j with
     |zero =>
      let:(none:Option V)=some w:=by simpa using e
      cases this
     |succ j=>simpa using e
   cases b with
   |false =>
    let⟨m',hm,w7⟩:=(show(if false=true then _ else ∃m',m'<n/\W (i+1) m' ys H7)from q7);let⟨e,hn,st7,fr7,J7⟩:=back I7;show⟨m',hm,i+1,ys,Kw,H7,k,pinD J7 e hn,st7,fr7,rv,hlen3,w7⟩
   |true =>
    let q7':te (-v::σ) H7 (λy H3=>∃m',m'<n/\W (i+1) m' (ys++[y]) H3):=q7;let he:=helt' _ s7 (-v::σ) H7 _ I7 q7';rw[eP,eW,eA,eF]at he;show Jn he (λy s8 ⟨yv,H8,I8,r8,m',hm,w8⟩=>?_) λ_ _ f=>f.elim
    let⟨e,hn,st8,fr8,J8⟩:=back I8;let hl:=rv.length;show wpAny_list_append_plain (items:=Kw.toArray) ⟨k,e⟩ (λh' pl sb=>?_) (by rw[Qy];lia);let⟨k',e'⟩:=pl;let e'':h'.get? s.heap.objs.size=-(lobj (Kw++[y]) k'):=by
     rw[e'];simp[lobj]
    let J9:Inv Xc [] (none::σ) H8 {s8 with heap:=h'}:=J8.turned (t':=s8.toks) (it:=s.heap.objs.size) (λb o hb q=>(sb.2 b hb).trans q) hn (by rw[eL];show hDC) (.inr (by rw[eS];show Q5 _)) cellD (λp l=>by
     rw[eQ]at l;show absurd l "s")
    show⟨m',hm,i+1,ys++[yv],Kw++[y],H8,k',pinD J9 e'' hn,T.keep _ _ _ st8 λb hb o q=>(sb.2 b (fpD b hb)).trans q,fr8,rv.append (.cons r8 .nil),?_,w8⟩;rw[QG];change ys.length+1<=_
    lia
 let eE':({ (newEnv scope H2.objs.size X.env.globals (YS scope X.env) X.env.qual none .none (-X.env) builtinsNs)with scope:=relabel scope X.env}:Env)=Xc.env:=by rw[eE];rfl
 rw[eE'];show codeAny_compStart_list (loop _ ()) (T.self X.A 0 _ _ _ st1 (loop _ ()))
def Bl{x:Str}{scope:Scope}{fp:List Addr}{D C:Addr}{s':Shared}{H':Hp}{ys:List V}{Kw:List Value}{k:Nat}{h':Heap}(I:Inv X Kz σ H s)(hf:∀b∈fp,FpOk X Kz H b)
  (hD:s.heap.objs.size<=D) (hC:s.heap.objs.size<=C) (hDC:D≠C) (J:Inv (cxC X x scope (YS scope X.env) C s H fp) [(D,lobj Kw k)] (none::σ) H' s') (rv:Vals ys Kw) (hl:ys.length<=sizeLine) (sb:Heap.SameBut C s'.heap h') :
  Inv X Kz σ (upd H' D (.lst ys)) {s' with heap:=h'}/\H' D=none:=by
 let⟨l,d,_⟩:=J.pin (D,lobj Kw k) (by change _∈[]++[_];simp);let i:H' C=none:=J.free;let u:Un (frs X.stack) fp H H' s.heap s'.heap:=J.base;let a:∀b o,s.heap.get? b=-o->b≠C:=λb o e=>Qq (Qp (Qj e) hC)
 let g:∀b o,s.heap.get? b=-o->b≠D:=λb o e=>Qq (Qp (Qj e) hD)
 show⟨I.call' (s':={s' with heap:=h'}) (ch:=fp) J.os ⟨λb o e n hb hx=>(sb.2 b (a b o e)).trans (u.keep b o e n hb hx),λb o e n hb hx=>?_,λb o e n hx=>?_,λb o e hx=>?_,λb j q=>?_,λb o w q=>?_,λb m q=>?_⟩ ?_ J.bare
  λb hb=>⟨(hf b hb).2.2.2.1,(hf b hb).2.1,(hf b hb).2.2.2.2.1,(hf b hb).2.2.2.2.2⟩,d⟩
 ·let⟨sl,z⟩:=u.slot b o e n hb hx;show⟨sl,(sb.2 b (a b o e)).trans z⟩
 ·rw[Qm (g b o e)];show u.free b o e n hx
 ·let⟨p,z⟩:=u.there b o e hx;show⟨p,(sb.2 b (a b o e)).trans z⟩
 ·let z:=u.tups b j q;rw[Qm (QM z d)];show z
 ·let z:=u.frzs b o w q;rw[Qm (QM z d)];show z
 ·let⟨f,z⟩:=u.tbls b m q;show⟨f,by rw[Qm (QM z d)];show z⟩
 ·intro b w e
  by_cases hb:b=D
  ·subst hb;rw[Vu]at e;cases e;show⟨hl,Kw,k,rv,(sb.2 b hDC).trans l⟩
  ·rw[Qm hb]at e;show(J.hok b w e).stay (λc z h q=>(sb.2 c ?_).trans q) (λc q=>by rw[Qm (QM q d)];show q) λc j q=>by rw[Qm (QM q d)];show q
   rcases h with rfl|h
   ·show QM e i
   ·show QM h i
def Qx0(hc:X.calm=true)(hi:PI X (.Name x px) iter wi)
  (hifs:∀cl C s H ex,PTs (cxC X x scope cl C s H ex) ifs tc) (helt:∀cl C s H ex,PE (cxC X x scope cl C s H ex) elt te)
  (hok:ZV X.N X.env.scope x scope=true:=by rfl) (hs:∀x,foldedSetIterable iter X.env x=pure x:=by intro _;rfl) :
  PE X (.ListComp elt [⟨.Name x px,iter,ifs,0⟩] scope pos) (Qr4 wi tc te):=by
 intro Kz s f H Q I h;let ok:=CompOk.of hok;show Qcw () hs (YR λy hy e=>?_) ok.kind ok.names ?_
 ·let⟨n,k⟩:=y;cases e;let⟨c,z⟩:=ok.cells I hy
  ext
 ·show thn (hi Kz s f H _ I h) λv w g=>thn g λi s2 j=>?_
  let⟨it,fp,tn,J,H2,e,I2,T,a,d,W,l,turn⟩:=j;subst e;show Qcb ok hc hifs helt I2 T a d l turn ?_;intro D C s' H' ys Kw k o p b J' r hl q;let⟨m,t,_⟩:=id J'.loc;show⟨m,t,λh' sb=>?_⟩;let⟨I',u⟩:=Bl I2 d o p b J' r hl sb;show⟨.ref D,_,I',(),q D u⟩
def Qwp(hN:X.N.Nodup)(hyi:X.N[i]?=-y)(hyl:X.env.scope.names.lookup y=some .local)(hc:X.calm=true)(hi:PI X (.Name x px) iter wi)
  (hifs:∀cl C s H ex,PTs (cxC X x scope cl C s H ex) ifs tc) (helt:∀cl C s H ex,PE (cxC X x scope cl C s H ex) elt te)
  (hok:ZV X.N X.env.scope x scope=true:=by rfl) (hs:∀x,foldedSetIterable iter X.env x=pure x:=by intro _;rfl)
  (hsw:swapsWith (.ListComp elt [⟨.Name x px,iter,ifs,0⟩] scope pos) (-(.Name y py)) spos.line X.env=pure true:=by rfl) :
  PS X (.Assign [.Name y py] (.ListComp elt [⟨.Name x px,iter,ifs,0⟩] scope pos) spos) (Ja5 (Qr4 wi tc te) (Qc4 i)):=by
 intro Kz s t H Dd I h;let ok:=CompOk.of hok;rw[exec_Assign_Name_used _ _ _ _ hsw];show Q0 (wpAny_standAt (Q0 ?_));show Q0 (Jn (Qcw () hs (YR λy hy e=>?_) ok.kind ok.names ?_) (λ_ u w=>Q2 (Q2 w)) λ_ _ e=>e)
 ·let⟨n,k⟩:=y;cases e;let⟨c,z⟩:=ok.cells I hy
  ext
 ·show thn (hi Kz s t H _ I h) λv s1 h1=>thn h1 λitv s2 h2=>?_
  let⟨it,fp,tn,J,H2,e,I2,T,g,l,W,w0,turn⟩:=h2;subst e;show Qcb ok hc hifs helt I2 T g l w0 turn ?_;intro D C u H' ys Kw k hD p f J' rv hl q;let⟨m,hn,_⟩:=id J'.loc;let⟨I',nD⟩:=Bl I2 l hD p f J' rv hl (Qzs ..);let r:upd H' D (.lst ys) C=none:=by rw[Qm (Jd f)];show J'.free
  let d:=I2.fpOk p r;show Qcs (Og I' hN hyi (.inl hyl) (v:=.ref D) () (λs'' I'' ⟨a,sa,ha⟩=>?_) (.inr hyl));let j:C≠a:=by
   rcases ha with ha|ha
   ·rw[ha];show d.2.1
   ·show Jd (d.2.2.2.2.1 _ _ ha)
  show⟨m,hn.sameBut sa j,λh' sb=>?_⟩;show⟨_,_,I''.turned (λb o hb e=>(sb.2 b hb).trans e) r d.2.1 d.2.2.2.1 d.2.2.2.2.1 d.2.2.2.2.2,q D nD⟩
end
end L2
namespace L2
open PySem
inductive Oth where
 |dcx (fz:Bool) (hs:List Int)|obj (C:Nat)|fls
def Qpt(i:Int):Nat:=if 0<=i then 2*i.toNat else 2*(Neg.neg i).toNat-1
def Oth.enc:Oth->List Nat
 |.dcx fz hs=>0::fz.toNat::hs.map Qpt|.obj C=>[1,C]|.fls=>[2]
def Qud(h:Qpt i=Qpt j):i=j:=by
 unfold Qpt at h
 grind
theorem Qed:∀{a b:List Int},a.map Qpt=b.map Qpt->a=b
 |[],[],_=>rfl|[],_::_,h=>by simp at h|_::_,[],h=>by simp at h|x::a,y::b,h=>by
  simp only[Qw,List.cons.injEq]at h;rw[Qud h.1,Qed h.2]
def Oth.enc_inj{t u:Oth}(h:t.enc=u.enc):t=u:=by
 cases t<;>cases u<;>simp[Oth.enc]at h ⊢
 ·let⟨b,a⟩:=h;show⟨?_,Qed a⟩;rename_i f _ g _;cases f<;>cases g<;>ext
 ·show h
inductive D where
 |non|bl (b:Bool)|int (i:Int)|str (x:Str)|tup (ds:List D)|lst (ds:List D)|dct (fz:Bool) (ks ds:List D)|oth (t:Oth) (ks ds:List D)
end L2
namespace L2
open PySem PySem.Spec PyProof.Rows
def Wt(ks:List Str)(vs:List V):List (Key×V):=(ks.zip vs).map λq=>(Sum.inr q.1,q.2)
structure DkAt(fz:Bool)(H:Hp)(p:Addr)(ks:List Str)(vs:List V):Prop where
 len:ks.length=vs.length
 nd:ks.Nodup
 at_:if fz=true then ∃o,H p=-(.frz o (.dK (Wt ks vs)))else H p=-(.dK (Wt ks vs))
def DkAt.rd(h:DkAt fz H a ks xs):Rd H a (.dK (Wt ks xs)):=by
 let:=h.at_;cases fz
 ·show .inl this
 ·show .inr this
def Same.dk(e:Same H H')(h:DkAt fz H a ks xs):DkAt fz H' a ks xs:=by
 show⟨h.len,h.nd,?_⟩;let:=h.at_;cases fz
 ·show e _ _ this
 ·show let⟨o,z⟩:=this;⟨o,e _ _ z⟩
def Jeg(p:Addr)(hs:List Int)(as:List Addr)(vs:List V)(h:Heap):Prop:=(p==sysModules)=false/\vs.length<=sizeLine/\hs.length=as.length/\as.length=vs.length /\
 ∃o es ep us,h.get? p=-o/\o.ExactDict/\o.data=.dict es ep/\Vals vs us/\es.toList=List.zipWith (λ(q:Int×Addr) (u:Value)=>(⟨q.1,Value.ref q.2,u⟩:DictEntry)) (hs.zip as) us
def DxO(p:Addr)(hs:List Int)(as:List Addr)(vs:List V):HO:=.ext (Jeg p hs as vs)
def DxAt(fz:Bool)(H:Hp)(p:Addr)(hs:List Int)(as:List Addr)(vs:List V):Prop:=if fz=true then ∃o,H p=-(.frz o (DxO p hs as vs))else H p=-(DxO p hs as vs)
def DxAt.rd(h:DxAt fz H p hs as vs):Rd H p (DxO p hs as vs):=by
 cases fz
 ·show .inl h
 ·show .inr h
def Same.dx(e:Same H H')(h:DxAt fz H p hs as vs):DxAt fz H' p hs as vs:=by
 cases fz
 ·show e _ _ ((h))
 ·show let⟨o,z⟩:=((h));⟨o,e _ _ z⟩
mutual
def Is(K:W.Frag)(H:Hp):D->V->Prop
 |.non,v=>v=.non|.bl b,v=>v=.bl b|.int i,v=>v=.int i|.str x,v=>v=.str x|.tup ds,v=>∃p vs,v=.ref p/\SqT K H p vs/\Va K H ds vs|.lst ds,v=>∃p vs,v=.ref p/\SqL K H p vs/\Va K H ds vs|.dct fz ks ds,v=>∃p ss vs,v=.ref p/\ks=List.map D.str ss/\DkAt fz H p ss vs/\Va K H ds vs|.oth (.dcx fz hs) ks ds,v=>∃p as vs,v=.ref p/\DxAt fz H p hs as vs/\ks.Nodup/\Va K H ks (List.map V.ref as)/\Va K H ds vs|.oth (.obj C) ks ds,v=>∃p dx ss vs o,v=.ref p/\ks=List.map D.str ss/\ss.length=vs.length/\H p=-(.frz o (.ins C dx (ss.zip vs)))/\Va K H ds vs|.oth .fls ks ds,v=>∃p vs o,v=.ref p/\ks=[]/\H p=-(.frz o (.lst vs))/\Va K H ds vs
def Va(K:W.Frag)(H:Hp):List D->List V->Prop
 |[],vs=>vs=[]|d::ds,vs=>∃v r,vs=v::r/\Is K H d v/\Va K H ds r
end
def Same.sqT{K:W.Frag}(e:Same H H')(h:SqT K H a xs):SqT K H' a xs:=by
 rcases h with(h|⟨o,h⟩)|h
 ·show .inl (.inl (e _ _ h))
 ·show .inl (.inr ⟨o,e _ _ h⟩)
 ·show .inr h
def Same.upd(h:H p=none):Same H (upd H p o):=λb u e=>by
 rw[Qm (QM e h)];show e
mutual
theorem Is.same{K:W.Frag}{H H':Hp}(s:Same H H'):∀{d:D}{v:V},Is K H d v->Is K H' d v
 |.non,_,h=>by simpa[Is]using h|.bl _,_,h=>by simpa[Is]using h|.int _,_,h=>by simpa[Is]using h|.str _,_,h=>by simpa[Is]using h|.tup c,v,h=>by
  rw[Is]at h ⊢;let⟨p,a,e,q,r⟩:=h;show⟨p,a,e,s.sqT q,Va.same s r⟩
 |.lst c,v,h=>by
  rw[Is]at h ⊢;let⟨p,a,e,q,r⟩:=h;show⟨p,a,e,s.seq q,Va.same s r⟩
 |.dct fz f c,v,h=>by
  rw[Is]at h ⊢;let⟨p,g,a,e,b,q,r⟩:=h;show⟨p,g,a,e,b,s.dk q,Va.same s r⟩
 |.oth (.dcx fz k) f c,v,h=>by
  rw[Is]at h ⊢;let⟨p,j,a,e,b,q,i,r⟩:=h;show⟨p,j,a,e,s.dx b,q,Va.same s i,Va.same s r⟩
 |.oth (.obj C) f c,v,h=>by
  rw[Is]at h ⊢;let⟨p,dx,g,a,o,e,b,q,i,r⟩:=h;show⟨p,dx,g,a,o,e,b,q,s _ _ i,Va.same s r⟩
 |.oth .fls f c,v,h=>by
  rw[Is]at h ⊢;let⟨p,a,o,e,b,i,r⟩:=h;show⟨p,a,o,e,b,s _ _ i,Va.same s r⟩
theorem Va.same{K:W.Frag}{H H':Hp}(s:Same H H'):∀{ds:List D}{vs:List V},Va K H ds vs->Va K H' ds vs
 |[],_,h=>by simpa[Va]using h|d::ds,vs,h=>by
  rw[Va]at h ⊢;let⟨v,r,e,q,t⟩:=h;show⟨v,r,e,Is.same s q,Va.same s t⟩
end
section
variable {K:W.Frag} {H H':Hp}
def Y5(h:Is K H (.int i) v):v=.int i:=by simpa[Is]using h
def BQ(h:Is K H (.bl i) v):v=.bl i:=by simpa[Is]using h
def W9(h:Is K H (.str i) v):v=.str i:=by simpa[Is]using h
def Ql2(h:Is K H .non v):v=.non:=by simpa[Is]using h
def JS(h:Is K H (.tup ds) v):∃p vs,v=.ref p/\SqT K H p vs/\Va K H ds vs:=by simpa[Is]using h
def We(h:Is K H (.lst ds) v):∃p vs,v=.ref p/\SqL K H p vs/\Va K H ds vs:=by simpa[Is]using h
def UM{a b:List Str}(h:a.map D.str=b.map D.str):a=b:=by
 let:=JL (List.map λd=>match d with|D.str x=>x|_=>⟨#[]⟩) h;simpa[QL,Ju]using this
def Bk{fz:Bool}{ss:List Str}{ds:List D}{v:V}(h:Is K H (.dct fz (ss.map .str) ds) v):∃p vs,v=.ref p/\DkAt fz H p ss vs/\Va K H ds vs:=by
 rw[Is]at h;let⟨p,a,vs,e,b,q,r⟩:=h;rw[UM b];show⟨p,vs,e,q,r⟩
def Qnc(h:Is K H (.dct fz ks ds) v):∃p Kv,v=.ref p/\Rd H p (.dK Kv):=by
 let⟨p,a,b,e,c,q,r⟩:=h;show⟨p,_,e,q.rd⟩
def Jbs{fz:Bool}{ks:List Str}{ds:List D}{p:Addr}{vs:List V}(h:DkAt fz H p ks vs)(a:Va K H ds vs):Is K H (.dct fz (ks.map .str) ds) (.ref p):=by rw[Is];show⟨p,ks,vs,(),(),h,a⟩
def Qg8(h:Is K H (.oth (.dcx fz hs) ks ds) v):∃p as vs,v=.ref p/\DxAt fz H p hs as vs/\ks.Nodup/\Va K H ks (as.map .ref)/\Va K H ds vs:=by show h
def Qfw{fz:Bool}{hs:List Int}{ks ds:List D}{p:Addr}{as:List Addr}{vs:List V}(h:DxAt fz H p hs as vs)(hn:ks.Nodup)(hk:Va K H ks (as.map .ref))(a:Va K H ds vs):Is K H (.oth (.dcx fz hs) ks ds) (.ref p):=by rw[Is];show⟨p,as,vs,(),h,hn,hk,a⟩
def Qtv{C:Nat}{ss:List Str}{ds:List D}{v:V}(h:Is K H (.oth (.obj C) (ss.map .str) ds) v):∃p dx vs o,v=.ref p/\ss.length=vs.length/\H p=-(.frz o (.ins C dx (ss.zip vs)))/\Va K H ds vs:=by
 rw[Is]at h;let⟨p,dx,a,vs,o,e,b,q⟩:=h;rw[UM b];show⟨p,dx,vs,o,e,q⟩
def Jbq{C:Nat}{ss:List Str}{ds:List D}{p dx:Addr}{vs:List V}{o:Obj}(h:H p=-(.frz o (.ins C dx (ss.zip vs))))(hl:ss.length=vs.length)(a:Va K H ds vs):Is K H (.oth (.obj C) (ss.map .str) ds) (.ref p):=by
 rw[Is];show⟨p,dx,ss,vs,o,(),(),hl,h,a⟩
def Ql3(h:Is K H (.oth .fls [] ds) v):∃p vs o,v=.ref p/\H p=-(.frz o (.lst vs))/\Va K H ds vs:=by
 rw[Is]at h
 ext
def Qfv{ds:List D}{p:Addr}{vs:List V}{o:Obj}(h:H p=-(.frz o (.lst vs)))(a:Va K H ds vs):Is K H (.oth .fls [] ds) (.ref p):=by
 rw[Is];show⟨p,vs,o,(),(),h,a⟩
def Jc6{t:Oth}{ks ds:List D}{v:V}(h:Is K H (.oth t ks ds) v):∃p u,v=.ref p/\H p=some u:=by
 cases t with
 |dcx fz b =>
  let⟨p,c,a,rfl,q,_⟩:=Qg8 h;rcases q.rd with q|⟨o,q⟩
  ·show⟨p,_,(),q⟩
  ·show⟨p,_,(),q⟩
 |obj C =>
  rw[Is]at h;let⟨p,dx,d,a,o,rfl,_,_,q,_⟩:=h;show⟨p,_,(),q⟩
 |fls =>
  rw[Is]at h;let⟨p,a,o,rfl,_,q,_⟩:=h;show⟨p,_,(),q⟩
def Y4(i:Int):Is K H (.int i) (.int i):=by simp[Is]
def Y0(i:Bool):Is K H (.bl i) (.bl i):=by simp[Is]
def ZL(i:Str):Is K H (.str i) (.str i):=by simp[Is]
def Jbr:Is K H .non .non:=by simp[Is]
def Qbt{ds:List D}{p:Addr}{vs:List V}(h:SqT K H p vs)(a:Va K H ds vs):Is K H (.tup ds) (.ref p):=by rw[Is];show⟨p,vs,(),h,a⟩
def Qbu{ds:List D}{p:Addr}{vs:List V}(h:SqL K H p vs)(a:Va K H ds vs):Is K H (.lst ds) (.ref p):=by rw[Is];show⟨p,vs,(),h,a⟩
def Jq:Va K H [] []:=by rfl
def Vg{d:D}{ds:List D}{v:V}{vs:List V}(h:Is K H d v)(t:Va K H ds vs):Va K H (d::ds) (v::vs):=by rw[Va];show⟨v,vs,(),h,t⟩
theorem Va.length:∀{ds:List D}{vs:List V},Va K H ds vs->ds.length=vs.length
 |[],_,h=>by rw[Va]at h;grind|d::ds,vs,h=>by
  let⟨v,r,e,_,t⟩:=h;subst e;simp[Va.length t]
theorem Va.get:∀{ds:List D}{vs:List V}{i:Nat}{d:D},Va K H ds vs->ds[i]?=-d->∃v,vs[i]?=-v/\Is K H d v
 |[],_,_,_,_,e=>by simp at e|d::ds,vs,0,b,h,e=>by
  rw[Va]at h;let⟨v,r,a,q,_⟩:=h;subst a;let:d=b:=by simpa using e
  subst this;show⟨v,"s",q⟩
 |d::ds,vs,i+1,b,h,e=>by
  rw[Va]at h;let⟨v,r,a,q,t⟩:=h;subst a;let⟨u,c,f⟩:=Va.get (i:=i) t (by simpa using e);show⟨u,by simpa using c,f⟩
def Va.at{ds:List D}{vs:List V}{i:Nat}{v:V}(h:Va K H ds vs)(e:vs[i]?=-v):∃d,ds[i]?=-d/\Is K H d v:=by
 let hl:=h.length;let hi:i<ds.length:=by rw[hl];show(Q3.mp e).1
 let⟨u,a,b⟩:=h.get (i:=i) (d:=ds[i]) (by simp[hi]);rw[e]at a;cases a;show⟨_,by simp[hi],b⟩
theorem Va.append:∀{ds es:List D}{vs us:List V},Va K H ds vs->Va K H es us->Va K H (ds++es) (vs++us)
 |[],_,_,_,h,t=>by rw[Va]at h;ext|d::ds,_,vs,_,h,t=>by
  let⟨v,r,e,q,a⟩:=h;subst e;show Vg q (Va.append a t)
theorem Va.drop:∀{ds:List D}{vs:List V}(n:Nat),Va K H ds vs->Va K H (ds.drop n) (vs.drop n)
 |_,_,0,h=>h|[],_,n+1,h=>by subst h;rfl|d::ds,vs,n+1,h=>by
  let⟨v,r,e,q,t⟩:=h;subst e;show Va.drop n t
theorem Va.take:∀{ds:List D}{vs:List V}(n:Nat),Va K H ds vs->Va K H (ds.take n) (vs.take n)
 |_,_,0,_=>by rfl|[],_,n+1,h=>by subst h;rfl|d::ds,vs,n+1,h=>by
  let⟨v,r,e,q,t⟩:=h;subst e;show Vg q (Va.take n t)
def Va.one(h:Va K H [d] vs):∃v,vs=[v]/\Is K H d v:=by
 let⟨v,r,e,q,t⟩:=h;rw[Va]at t
 ext
def Va.two{d d':D}{vs:List V}(h:Va K H [d,d'] vs):∃v v',vs=[v,v']/\Is K H d v/\Is K H d' v':=by
 rw[Va]at h;let⟨v,r,e,q,t⟩:=h;let⟨v',a,b⟩:=t.one;subst a;show⟨v,v',e,q,b⟩
def EnvIs(K:W.Frag)(H:Hp)(σ:St)(ρ:List (Option D)):Prop:=σ.length=ρ.length/\∀(i:Nat)(d:D),ρ[i]?=-(-d)->∃v,σ[i]?=-(-v)/\Is K H d v
def EnvIs.same(h:EnvIs K H σ ρ)(s:Same H H'):EnvIs K H' σ ρ:=⟨h.1,λi d e=>let⟨v,a,b⟩:=h.2 i d e;⟨v,a,b.same s⟩⟩
def EnvIs.cons{σ:St}{ρ:List (Option D)}{v:V}{d:D}(h:EnvIs K H σ ρ)(q:Is K H d v):EnvIs K H (-v::σ) (-d::ρ):=
 ⟨by simp[h.1],λi e z=>by
  cases i with
  |zero =>
   let:d=e:=by simpa using z
   subst this;show⟨v,"s",q⟩
  |succ i =>
   let⟨u,a,b⟩:=h.2 i e (by simpa using z);show⟨u,by simpa using a,b⟩⟩
def EnvIs.set{σ:St}{ρ:List (Option D)}{v:V}{d:D}(h:EnvIs K H σ ρ)(i:Nat)(q:Is K H d v):EnvIs K H (σ.set i (-v)) (ρ.set i (-d)):=
 ⟨by simp[h.1],λj e z=>by
  by_cases a:i=j
  ·subst a
   by_cases hi:i<ρ.length
   ·rw[Ql hi]at z;let:d=e:=by simpa using z
    subst this;show⟨v,by rw[Ql (by rw[h.1];show hi)],q⟩
   ·rw[Wc (by simpa using hi)]at z;cases z
  ·rw[Qg a]at z ⊢;show h.2 j e z⟩
end
def rdD(K:W.Frag)(ρ:List (Option D))(d:D):TE:=λσ H Q=>EnvIs K H σ ρ/\∀v H',Same H H'->Is K H' d v->Q v H'
structure PD(X:Cx)(ρ:List (Option D))(e:Expr)(d:D):Prop where
 pe:PE X e (rdD X.K ρ d)
def Jdh(K:W.Frag)(ρ:List (Option D))(ds:List D):TA:=λσ H Q=>EnvIs K H σ ρ/\∀vs H',Same H H'->Va K H' ds vs->Q vs H'
structure PDs(X:Cx)(ρ:List (Option D))(es:List Expr)(ds:List D):Prop where
 pe:PA X es (Jdh X.K ρ ds)
def rdB(K:W.Frag)(ρ:List (Option D))(b:Bool):TT:=λσ H Q=>EnvIs K H σ ρ/\∀H',Same H H'->Q b H'
structure PB(X:Cx)(ρ:List (Option D))(e:Expr)(b:Bool):Prop where
 pe:PT X e (rdB X.K ρ b)
structure PWB(X:Cx)(ρ:List (Option D))(e:Expr)(b:Bool):Prop where
 pe:PW X e (rdB X.K ρ b)
def PE.imp{X:Cx}{e:Expr}{t t':TE}(h:PE X e t)(w:∀σ H Q,t' σ H Q->t σ H Q):PE X e t':=λKz s σ H Q I q=>h Kz s σ H Q I (w σ H Q q)
def PT.imp{X:Cx}{e:Expr}{t t':TT}(h:PT X e t)(w:∀σ H Q,t' σ H Q->t σ H Q):PT X e t':=λKz s σ H Q I q=>h Kz s σ H Q I (w σ H Q q)
def PW.imp{X:Cx}{e:Expr}{t t':TT}(h:PW X e t)(w:∀σ H Q,t' σ H Q->t σ H Q):PW X e t':=λa Kz s σ H Q I q=>h a Kz s σ H Q I (w σ H Q q)
def PA.imp{X:Cx}{es:List Expr}{t t':TA}(h:PA X es t)(w:∀σ H Q,t' σ H Q->t σ H Q):PA X es t':=λa Kz s σ H Q I q=>h a Kz s σ H Q I (w σ H Q q)
def PSs.imp{X:Cx}{b:List Stmt}{t t':TS}(h:PSs X b t)(w:∀D σ H,t' D σ H->t D σ H):PSs X b t':=λKz s σ H D I q=>h Kz s σ H D I (w D σ H q)
def PS.imp{X:Cx}{b:Stmt}{t t':TS}(h:PS X b t)(w:∀D σ H,t' D σ H->t D σ H):PS X b t':=λKz s σ H D I q=>h Kz s σ H D I (w D σ H q)
section
variable {X:Cx} {ρ:List (Option D)} {a b c e:Expr} {es:List Expr} {d da db dc:D} {ds:List D} {pos:Pos}
def ZR(h:PE X e t)(w:∀σ H Q,EnvIs X.K H σ ρ->(∀v H',Same H H'->Is X.K H' d v->Q v H')->t σ H Q):PD X ρ e d:=⟨h.imp λσ H Q q=>w σ H Q q.1 q.2⟩
def Vv(i:Nat){x:Str}(hd:ρ[i]?=-(-d))(hN:X.N[i]?=some x:=by rfl)(hv:Vis X.env.scope x:=by first|show QI rfl|show QB (QI ())|show QB (QB ()))(hdb:(x==("__debug__":Str))=false:=by decide)
  (hcd:(x==("__classdict__":Str))=false:=by decide):PD X ρ (.Name x pos) d:=
 ZR (Wv hN hv hdb hcd) λe H Q a q=>let⟨v,b,c⟩:=a.2 i d hd;⟨v,b,q v H (Same.refl H) c⟩
def Vi{i j}:PD X ρ (.Constant (.int i) j pos) (.int i):=ZR Jb2 λa H Q b q=>q _ H (Same.refl H) (Y4 i)
def Jcm:PD X ρ (.Constant (.bool i) j pos) (.bl i):=ZR Qz8 λa H Q b q=>q _ H (Same.refl H) (Y0 i)
def Vt:PD X ρ (.Constant (.str i) j pos) (.str i):=ZR Jaz λa H Q b q=>q _ H (Same.refl H) (ZL i)
def Qum:PD X ρ (.Constant .none j pos) .non:=ZR Jb1 λa H Q b q=>q _ H (Same.refl H) Jbr
def Vn:PDs X ρ [] []:=⟨Zr.imp λa H Q q=>q.2 [] H (Same.refl H) Jq⟩
def Vc(h:PD X ρ e d)(t:PDs X ρ es ds)(hs:starEach (e::es) X.env=(false,eval e X.env)::starEach es X.env:=by rfl):PDs X ρ (e::es) (d::ds):=
 ⟨(WK h.pe t.pe hs).imp λi H Q q=>⟨q.1,λv H1 a c=>⟨q.1.same a,λf H2 b g=>q.2 (v::f) H2 (a.trans b) (Vg (c.same b) g)⟩⟩⟩
def Vp{k}(h:PDs X ρ es ds)(hz:ds.length<=sizeLine):PD X ρ (.Tuple es k pos) (.tup ds):=
 ZR (Jay h.pe) λe H Q c q=>⟨c,λf H1 d a=>⟨by rw[<-a.length];show hz,λp b=>q _ _ (d.trans (Same.upd b)) (Qbt (SqT.of Vu) (a.same (Same.upd b)))⟩⟩
def OpD(X:Cx)(r:R2)(da db d:D):Prop:=∀H x y Q,Is X.K H da x->Is X.K H db y->(∀v H',Same H H'->Is X.K H' d v->Q v H')->r x y H Q
def Qyf(ho:OpR X (binaryOp op) r)(ha:PD X ρ a da)(hb:PD X ρ b db)(w:OpD X r da db d):PD X ρ (.BinOp a op b pos) d:=
 ZR (Qz7 ho ha.pe hb.pe) λk H Q c q=>⟨c,λv H1 e g=>⟨c.same e,λu H2 f h=>w H2 v u Q (g.same f) h λz H3 i j=>q z H3 ((e.trans f).trans i) j⟩⟩
def Qus(ho:OpR X (compareOp op) r)(ha:PD X ρ a da)(hb:PD X ρ b db)(w:OpD X r da db d)(hm:behindInMarks op b=false:=by rfl):PD X ρ (.Compare a [op] [b] pos) d:=
 ZR (Qx1 ho ha.pe hb.pe hm) λk H Q c q=>⟨c,λv H1 e g=>⟨c.same e,λu H2 f h=>w H2 v u Q (g.same f) h λz H3 i j=>q z H3 ((e.trans f).trans i) j⟩⟩
def UA(ho:OpR X (compareOp op) r)(ha:PD X ρ a da)(hb:PD X ρ b db)(w:OpD X r da db (.bl k))(hm:behindInMarks op b=false:=by rfl):PB X ρ (.Compare a [op] [b] pos) k:=
 ⟨(Qwl ho ha.pe hb.pe hm).imp λi H Q q=>⟨q.1,λv H1 c e=>⟨q.1.same c,λu H2 d f=>w H2 v u _ (e.same d) f λz H3 g h=>⟨k,BQ h,q.2 H3 ((c.trans d).trans g)⟩⟩⟩⟩
def Qst(h:∀H,Is X.K H d (g i j)):OpD X (rI0 g) (.int i) (.int j) d:=λH x y Q hx hy q=>⟨i,j,Y5 hx,Y5 hy,q _ H (Same.refl H) (h H)⟩
def Jdt(hc:C i j)(h:∀H,Is X.K H d (g i j)):OpD X (rI C g) (.int i) (.int j) d:=λH x y Q hx hy q=>⟨i,j,Y5 hx,Y5 hy,hc,q _ H (Same.refl H) (h H)⟩
def ZF(ha:PD X ρ a (.int i))(hb:PD X ρ b (.int j)):PD X ρ (.BinOp a .Add b pos) (.int (i+j)):=Qyf Jbc ha hb (Qst λ_=>Y4 _)
def O1(ha:PD X ρ a (.int i))(hb:PD X ρ b (.int j))(hc:CMul i j):PD X ρ (.BinOp a .Mult b pos) (.int (i*j)):=Qyf Jb9 ha hb (Jdt hc λ_=>Y4 _)
def Qun(ha:PD X ρ a (.int i))(hb:PD X ρ b (.int j))(hc:0<j):PD X ρ (.BinOp a .Mod b pos) (.int (i % j)):=Qyf Jba ha hb (Jdt hc λ_=>Y4 _)
def Jcp(ha:PD X ρ a (.int i))(hb:PD X ρ b (.int j)):PB X ρ (.Compare a [.Lt] [b] pos) (decide (i<j)):=UA Jdq ha hb (Qst λ_=>Y0 _) (nomark _)
def Jet(ha:PD X ρ a (.int i))(hb:PD X ρ b (.int j)):PB X ρ (.Compare a [.Gt] [b] pos) (decide (j<i)):=UA Jdr ha hb (Qst λ_=>Y0 _) (nomark _)
def dV:D->Option V
 |.non=>-.non|.bl b=>-(.bl b)|.int i=>-(.int i)|.str x=>-(.str x)|_=>none
def Qnd{K:W.Frag}{H:Hp}{d:D}{v x:V}(h:dV d=-v)(i:Is K H d x):x=v:=by
 cases d<;>simp[dV,Is]at h i<;>first| (subst h;show i)|cases h
def Qn4(hx:dV da=-x)(hy:dV db=-y)(hs:scal x y=true):OpD X rEq da db (.bl (decide (x=y))):=λH c d Q a b q=>by
 cases Qnd hx a;cases Qnd hy b;show⟨hs,q _ H (Same.refl H) (Y0 _)⟩
def Qsq(hx:dV da=-x)(hy:dV db=-y)(hs:scal x y=true):OpD X rNe da db (.bl (!decide (x=y))):=λH c d Q a b q=>by
 cases Qnd hx a;cases Qnd hy b;show⟨hs,q _ H (Same.refl H) (Y0 _)⟩
def Qzh(ha:PD X ρ a (.int i))(hb:PD X ρ b (.int j)):PD X ρ (.Compare a [.Eq] [b] pos) (.bl (decide (i=j))):=by
 let:=Qus (pos:=pos) Qn3 ha hb (Qn4 () () ()) (nomark _)
 ext
def Qjg(ha:PD X ρ a (.int i))(hb:PD X ρ b (.int j)):PB X ρ (.Compare a [.Eq] [b] pos) (decide (i=j)):=by
 let:=UA (pos:=pos) Qn3 ha hb (Qn4 () () ()) (nomark _)
 ext
def Jem(ha:PD X ρ a (.str i))(hb:PD X ρ b (.str j)):PD X ρ (.Compare a [.Eq] [b] pos) (.bl (decide (i=j))):=by
 let:=Qus (pos:=pos) Qn3 ha hb (Qn4 () () ()) (nomark _)
 ext
def Jeu(ha:PD X ρ a (.str i))(hb:PD X ρ b (.str j)):PB X ρ (.Compare a [.Eq] [b] pos) (decide (i=j)):=by
 let:=UA (pos:=pos) Qn3 ha hb (Qn4 () () ()) (nomark _)
 ext
def B8(h:PD X ρ e (.bl k))(he:∀whole,isTrue e X.env whole=(do let v<-whole;standAt e.pos;holding [v] (truthy v)):=by intro _;rfl):PB X ρ e k:=
 ⟨(Jar h.pe he).imp λc H Q q=>⟨q.1,λv H1 a b=>⟨k,BQ b,q.2 H1 a⟩⟩⟩
def Quu{k:Bool}{rest:List Expr}(ha:PD X ρ a (.bl k))(hb:k=true->PD X ρ (.BoolOp .And (b::rest) pos) d)(hf:k=false->d=.bl false):PD X ρ (.BoolOp .And (a::b::rest) pos) d:=by
 cases k with
 |false =>
  let:=hf ();subst this;let g:PE X (.BoolOp .And (b::rest) pos) (λ_ _ _=>False):=λ_ _ _ _ _ _ f=>f.elim
  show ZR (Qs8 ha.pe g) λi H Q c q=>⟨c,λv H1 e h=>⟨false,BQ h,Qtu (q _ H1 e (Y0 _))⟩⟩
 |true =>
  show ZR (Qs8 ha.pe (hb ()).pe) λi H Q c q=>⟨c,λv H1 e h=>⟨true,BQ h,Qpl (⟨c.same e,λu H2 j l=>q u H2 (e.trans j) l⟩)⟩⟩
def Jej(h:PD X ρ a d):PD X ρ (.BoolOp op [a] pos) d:=⟨Jb0 h.pe⟩
def Qgr(ha:PB X ρ a k):PWB X ρ (.BoolOp .And [a] pos) k:=⟨Qwj ha.pe⟩
def Qzk{rest:List Expr}(ha:PB X ρ a k)(hb:k=true->PWB X ρ (.BoolOp .And (b::rest) pos) k')(hf:k=false->k'=false):PWB X ρ (.BoolOp .And (a::b::rest) pos) k':=by
 cases k with
 |false =>
  let:=hf ();subst this;let d:PW X (.BoolOp .And (b::rest) pos) (λ_ _ _=>False):=λ_ _ _ _ _ _ _ f=>f.elim
  show⟨(Qro ha.pe d).imp λe H Q q=>⟨q.1,λH1 c=>Qtu (q.2 H1 c)⟩⟩
 |true =>
  show⟨(Qro ha.pe (hb ()).pe).imp λe H Q q=>⟨q.1,λH1 c=>Qpl (⟨q.1.same c,λH2 g=>q.2 H2 (c.trans g)⟩)⟩⟩
def Qv6(ha:PB X ρ a k):PWB X ρ (.BoolOp .Or [a] pos) k:=⟨Jaq ha.pe⟩
def Qyj{rest:List Expr}(ha:PB X ρ a k)(hb:k=false->PWB X ρ (.BoolOp .Or (b::rest) pos) k')(hf:k=true->k'=true):PWB X ρ (.BoolOp .Or (a::b::rest) pos) k':=by
 cases k with
 |true =>
  let:=hf ();subst this;let d:PW X (.BoolOp .Or (b::rest) pos) (λ_ _ _=>False):=λ_ _ _ _ _ _ _ f=>f.elim
  show⟨(Qz5 ha.pe d).imp λe H Q q=>⟨q.1,λH1 c=>Qpl (q.2 H1 c)⟩⟩
 |false =>
  show⟨(Qz5 ha.pe (hb ()).pe).imp λe H Q q=>⟨q.1,λH1 c=>Qtu (⟨q.1.same c,λH2 g=>q.2 H2 (c.trans g)⟩)⟩⟩
def Qlp(h:PWB X ρ e k):PB X ρ e k:=⟨h.pe.pt⟩
def Qje(h:PB X ρ a k):PB X ρ (.UnaryOp .Not a pos) (!k):=⟨(Jas h.pe).imp λc H Q q=>⟨q.1,λH1 b=>q.2 H1 b⟩⟩
def spD(K:W.Frag)(n:Nat)(R:List D->D->Prop):Sp:=λvs H Q _=>vs.length=n/\∃ds d,Va K H ds vs/\R ds d/\∀v H',Same H H'->Is K H' d v->Q v H'
def Jcl(F:FnOk X.prog X.w X.K X.mg X.base CX0 k f fd ps (spD X.K n R))(hr:Room k X.A)(hm:X.mg x=-(.ref f))(hk:W.keepIn X.K (.ref f)=true)
  (hb:Binds X.K fd ps []) (ha:PDs X ρ (e::es) ds) (hn:ds.length=n) (hR:R ds d) (hg:Gl X x:=by rfl) (hdb:(x==("__debug__":Str))=false:=by decide)
  (he:starEach (e::es) X.env=(false,eval e X.env)::starEach es X.env:=by rfl) (hpl:(backTo pos (starEach es X.env)).any (·.1)=false:=by rfl):PD X ρ (.Call (.Name x p) (e::es) [] pos) d:=
 ZR (Qn0 F hr hg hm hk hb .nil pass0 ha.pe hdb he hpl) λi H Q he q=>⟨he,λb H1 c a=>by
  change spD X.K n R (b++[]) H1 Q _;rw[QW];show⟨by rw[<-a.length];show hn,ds,d,a,hR,λv H2 g h=>q v H2 (c.trans g) h⟩⟩
def Qnu{id:String}(hc:CallR X (.builtin id) r)(hm:X.mg x=none)(hv:bootBuiltins x=-(.builtin id))(ha:PDs X ρ (e::es) ds)
  (w:∀H vs Q,Va X.K H ds vs->(∀v H',Same H H'->Is X.K H' d v->Q v H')->r vs H Q) (hg:Gl X x:=by rfl) (hn:x≠ "__name__":=by decide) (hdb:(x==("__debug__":Str))=false:=by decide)
  (he:starEach (e::es) X.env=(false,eval e X.env)::starEach es X.env:=by rfl) (hpl:(backTo pos (starEach es X.env)).any (·.1)=false:=by rfl):PD X ρ (.Call (.Name x p) (e::es) [] pos) d:=
 ZR (UR hc hg hm hv ha.pe hn hdb he hpl) λg H Q he q=>⟨he,λvs H1 a b=>w H1 vs Q b λv H2 c f=>q v H2 (a.trans c) f⟩
def Qnt(hc:CallR X (.type T) r)(hm:X.mg x=none)(hv:bootBuiltins x=-(.type T))(ha:PDs X ρ (e::es) ds)
  (w:∀H vs Q,Va X.K H ds vs->(∀v H',Same H H'->Is X.K H' d v->Q v H')->r vs H Q) (hg:Gl X x:=by rfl) (hn:x≠ "__name__":=by decide) (hdb:(x==("__debug__":Str))=false:=by decide)
  (he:starEach (e::es) X.env=(false,eval e X.env)::starEach es X.env:=by rfl) (hpl:(backTo pos (starEach es X.env)).any (·.1)=false:=by rfl):PD X ρ (.Call (.Name x p) (e::es) [] pos) d:=
 ZR (Gx hc hg hm hv ha.pe hn hdb he hpl) λg H Q he q=>⟨he,λvs H1 a b=>w H1 vs Q b λv H2 c f=>q v H2 (a.trans c) f⟩
def Qd4:D->Option Nat
 |.str x=>-x.length|.tup ds=>-ds.length|.lst ds=>-ds.length|_=>none
def B7(hm:X.mg "len"=none)(ha:PD X ρ e d)(hd:Qd4 d=-n)(hz:∀x,d=.str x->x.length<=sizeLine)(hg:Gl X "len":=by rfl)(hs:starEach [e] X.env=[(false,eval e X.env)]:=by rfl):PD X ρ (.Call (.Name "len" p) [e] [] pos) (.int n):=
 Qnu Qv0 hm PySem.boot_len (Vc ha Vn hs) (λH g Q c q=>by
  let⟨v,rfl,i⟩:=c.one;show⟨v,n,(),?_,q _ H (Same.refl H) (Y4 _)⟩;cases d with
  |str x =>
   let:=W9 i;subst this;let:=by simpa[Qd4]using hd
   show⟨hz x (),this.symm⟩
  |tup f =>
   let⟨p,a,rfl,b,r⟩:=JS i;let:=by simpa[Qd4]using hd
   show .inr ⟨a,b,by rw[<-this,r.length]⟩
  |lst f =>
   let⟨p,a,rfl,b,r⟩:=We i;let:=by simpa[Qd4]using hd
   show .inl ⟨a,b,by rw[<-this,r.length]⟩
  |_=>simp[Qd4]at hd) hg "d" "d" hs ()
def dAt:D->Int->Option D
 |.str x,i=>(atI x.cps.toList i).map λc=>.str ⟨#[c]⟩|.tup ds,i=>atI ds i|.lst ds,i=>atI ds i|_,_=>none
def Va.atI{K:W.Frag}(h:Va K H ds vs)(e:L2.atI ds i=-d):∃v,L2.atI vs i=-v/\Is K H d v:=by
 unfold L2.atI at e ⊢;rw[<-h.length];cases q:ixN ds.length i with
 |none=>ext|some j =>
  rw[q]at e;show h.get e
def JW{i:Int}(ha:PD X ρ a da)(hb:PD X ρ b (.int i))(hd:dAt da i=-d)(hz:∀x,da=.str x->x.length<=sizeLine:=by intro x e;cases e)(hs:PlainIx b:=by intro _ _;rfl):PD X ρ (.Subscript a b pos) d:=
 ZR (Jdp Jc5 ha.pe hb.pe hs) λy H Q o q=>⟨o,λv H1 f s=>⟨o.same f,λu H2 g t=>by
  let h:=s.same g;let e:=Y5 t;subst e;cases da with
  |str x =>
   let e:=W9 h;subst e;simp only[dAt]at hd;cases j:L2.atI x.cps.toList i with
   |none=>rw[j]at hd;cases hd
   |some c =>
    rw[j]at hd;cases hd;show .inr (.inr ⟨x,i,c,(),(),hz x (),j,q _ H2 (f.trans g) (ZL _)⟩)
  |tup w =>
   let⟨p,k,rfl,l,r⟩:=JS h;let⟨z,m,n⟩:=r.atI hd;show .inr (.inl ⟨p,k,i,z,(),(),l,m,q z H2 (f.trans g) n⟩)
  |lst w =>
   let⟨p,k,rfl,l,r⟩:=We h;let⟨z,m,n⟩:=r.atI hd;show .inl ⟨p,k,i,z,(),(),l,m,q z H2 (f.trans g) n⟩
  |_=>simp[dAt]at hd⟩⟩
def tyD:D->String
 |.non=> "NoneType"
 |.bl _=> "bool"
 |.int _=> "int"
 |.str _=> "str"
 |.tup _=> "tuple"
 |.lst _=> "list"
 |.dct _ _ _=> "dict"
 |.oth (.dcx _ _) _ _=> "dict"
 |.oth .fls _ _=> "list"
 |.oth (.obj _) _ _=> "list"
def Je8:D->Bool
 |.oth (.obj _) _ _=>true|_=>false
def Qj8:CallR X (.builtin "isinstance") (λvs H Q=>∃d x c k,vs=[x,.ty c]/\Je8 d=false/\Is X.K H d x/\W.kitOne X.K (.type (tyD d)) (.type c)=-k/\Q (.bl k) H):=by
 intro Kz s σ H xs us Q I r h;let⟨d,x,c,k,rfl,l,i,e,q⟩:=h;let⟨u,u',rfl,b,rc⟩:=r.two;cases((rc));let a:∀v,EP X Kz σ Q (.bool k) {s with toks:=v}:=λv=>⟨.bl k,H,I.tok _,(),q⟩
 cases d with
 |non=>cases Ql2 i;cases((b));show W.kia_one W.kitx_none I.kIn QA e (λz=>nomatch z) a
 |bl y=>cases BQ i;cases((b));show W.kia_one W.kitx_bool I.kIn QA e (λz=>nomatch z) a
 |int y=>cases Y5 i;let⟨t,z⟩:=((b));cases z;show W.kia_one W.kitx_int I.kIn QA e (λz=>nomatch z) a
 |str y=>cases W9 i;let⟨t,z⟩:=((b));cases z;show W.kia_one W.kitx_str I.kIn QA e (λz=>nomatch z) a
 |tup j =>
  let⟨p,vs,rfl,f,_⟩:=JS i;cases((b));let⟨Kw,_,⟨o,g,m,_⟩,_⟩:=I.tuple f;show W.kia_one W.kitx_tuple I.kIn ⟨o,g,m⟩ e (λz=>nomatch z) a
 |lst j =>
  let⟨p,vs,rfl,f,_⟩:=We i;cases((b));let⟨Kw,_,pl,_⟩:=I.list f;let⟨o,g,m,_⟩:=pl.isList;show W.kia_one W.kitx_list I.kIn ⟨o,g,m⟩ e (λz=>nomatch z) a
 |dct fz w j =>
  let⟨p,Kv,rfl,f⟩:=Qnc i;cases((b));let⟨_,_,ws,_,dd⟩:=((f.ok I.hok));show W.kia_one W.kitx_dict I.kIn dd.typeIs e (λz=>nomatch z) a
 |oth t w j =>
  cases t with
  |obj C=>cases l
  |fls =>
   let⟨p,vs,o,rfl,hk,f,_⟩:=(show ∃p vs o,x=.ref p/\w=[]/\H p=-(.frz o (.lst vs))/\Va X.K H j vs by show i);cases((b));let⟨_,_,Kw,n,_,g⟩:=((I.hok p _ f));show W.kia_one W.kitx_list I.kIn ⟨_,g,()⟩ e (λz=>nomatch z) a
  |dcx fz hs =>
   let⟨p,as,vs,rfl,f,_⟩:=Qg8 i;cases((b));let⟨⟨_,_,_,_,o,es,ep,us,g,hc,_⟩,_⟩:=((f.rd.ok I.hok));show W.kia_one W.kitx_dict I.kIn ⟨o,g,hc.1⟩ e (λz=>nomatch z) a
def Quo{T:Str}{c:String}{k:Bool}{p p':Pos}(hm:X.mg "isinstance"=none)(hT:X.mg T=none)(hv:bootBuiltins T=-(.type c))(ha:PD X ρ e d)(hk:W.kitOne X.K (.type (tyD d)) (.type c)=-k)(hob:Je8 d=false:=by rfl)
  (hg:Gl X "isinstance":=by rfl) (hg':Gl X T:=by rfl) (hn:T≠ "__name__":=by decide) (hdb:(T==("__debug__":Str))=false:=by decide) (hs:starEach [e,.Name T p'] X.env=[(false,eval e X.env),(false,eval (.Name T p') X.env)]:=by rfl) (hs2:starEach [.Name T p'] X.env=[(false,eval (.Name T p') X.env)]:=by rfl) :
  PD X ρ (.Call (.Name "isinstance" p) [e,.Name T p'] [] pos) (.bl k):=
 ZR (UR Qj8 hg hm "k" (WK ha.pe (WK (Qx2 hg' hT hv (v:=.ty c) () hn hdb) Zr hs2) (by rw[hs,hs2])) "d" "d" (by rw[hs,hs2]) (by rw[hs2];rfl))
  λg H Q a q=>⟨a,λv H1 b f=>⟨d,v,c,k,(),hob,f,hk,q _ H1 b (Y0 _)⟩⟩
theorem Qe4{K:W.Frag}:∀{bs:List Bool}{vs:List V},Va K H (bs.map D.bl) vs->vs=bs.map V.bl
 |[],_,h=>by simpa[Va]using h|b::bs,vs,h=>by
  let⟨v,r,e,q,t⟩:=h;rw[Qe4 t,BQ q]at e
  grind
def Qsr:OpD X (λx y H Q=>∃i j,x=.str i/\y=.str j/\Q (.bl (!(Builtin.Str.occurrences j i 0 j.length 1).isEmpty)) H) (.str x) (.str y) (.bl (!(Builtin.Str.occurrences y x 0 y.length 1).isEmpty)):=λH _ _ Q hx hy q =>
 ⟨x,y,W9 hx,W9 hy,q _ H (Same.refl H) (Y0 _)⟩
theorem Yp{K:W.Frag}:∀{bs:List Str}{vs:List V},Va K H (bs.map D.str) vs->vs=bs.map V.str
 |[],_,h=>by simpa[Va]using h|b::bs,vs,h=>by
  let⟨v,r,e,q,t⟩:=h;rw[Yp t,W9 q]at e
  grind
def Qeb(bs:List Str):(bs.map V.str).all BS=true:=by
 rw[Wd];intro v a;let⟨s,_,rfl⟩:=Q4.mp a;rfl
def Qig(x:Str)(bs:List Str):inV (.str x) (bs.map V.str)=decide (x∈bs):=by
 unfold inV;rw[Ws];simp[eqV]
def Qss{ss:List Str}(hd:d=.tup (ss.map D.str)\/d=.lst (ss.map D.str))(neg:Bool):OpD X (rIn X.K neg) (.str x) d (.bl (if neg=true then !decide (x∈ss)else decide (x∈ss))):=λH v u Q c b q=>by
 let e:=W9 c;subst e;rcases hd with rfl|rfl
 ·let⟨p,f,rfl,a,r⟩:=JS b;rw[Yp r]at a;show⟨p,_,(),.inr a,(),Qeb _,by rw[Qig];show q _ H (Same.refl H) (Y0 _)⟩
 ·let⟨p,f,rfl,a,r⟩:=We b;rw[Yp r]at a;show⟨p,_,(),.inl a,(),Qeb _,by rw[Qig];show q _ H (Same.refl H) (Y0 _)⟩
def Qzj{ss:List Str}(ha:PD X ρ a (.str x))(hb:PD X ρ b db)(hd:db=.tup (ss.map D.str)\/db=.lst (ss.map D.str))(hm:behindInMarks .In b=false:=by rfl):PB X ρ (.Compare a [.In] [b] pos) (decide (x∈ss)):=
 UA Qp0 ha hb (Qss hd false) hm
def Qjd{ss:List Str}(ha:PD X ρ a (.str x))(hb:PD X ρ b db)(hd:db=.tup (ss.map D.str)\/db=.lst (ss.map D.str))(hm:behindInMarks .NotIn b=false:=by rfl):PB X ρ (.Compare a [.NotIn] [b] pos) (!decide (x∈ss)):=
 UA Qfq ha hb (Qss hd true) hm
structure JIs(K:W.Frag)(J:It)(H:Hp)(ds:List D):Prop where
 go:∀i H',Same H H'->i<ds.length->J.go i H'
 yld:∀i H' x H2,Same H H'->i<ds.length->J.yld i H' x H2->H2=H'/\∃d,ds[i]?=-d/\Is K H' d x
 stop:∀i H',Same H H'->ds.length<=i->J.stop i H'
def rdI(K:W.Frag)(ρ:List (Option D))(ds:List D):TI:=λσ H R=>EnvIs K H σ ρ/\∀J H',Same H H'->JIs K J H' ds->R J H'
structure PDI(X:Cx)(ρ:List (Option D))(tg iter:Expr)(ds:List D):Prop where
 pe:PI X tg iter (rdI X.K ρ ds)
def PI.imp{tg iter:Expr}{t t':TI}(h:PI X tg iter t)(w:∀σ H R,t' σ H R->t σ H R):PI X tg iter t':=λKz s σ H R I q=>h Kz s σ H R I (w σ H R q)
def WQ{K:W.Frag}(hq:SqL K H p vs)(r:Va K H ds vs):JIs K (Itl K p) H ds:=by
 let hl:=r.length;show⟨λi H' s hi=>⟨vs,vs[i]'"l",s.seq hq,"s"⟩,λi H' x H2 s _ y=>?_,λi H' s hi=>⟨vs,s.seq hq,"l"⟩⟩;let⟨e,y⟩:=y;let a:=y vs (s.seq hq);let⟨d,b,c⟩:=r.at a;show⟨e,d,b,c.same s⟩
def Uq{K:W.Frag}(hq:SqT K H p vs)(r:Va K H ds vs):JIs K (Itt K p) H ds:=by
 let hl:=r.length;show⟨λi H' s hi=>⟨vs,vs[i]'"l",s.sqT hq,"s"⟩,λi H' x H2 s _ y=>?_,λi H' s hi=>⟨vs,s.sqT hq,"l"⟩⟩;let⟨e,y⟩:=y;let a:=y vs (s.sqT hq);let⟨d,b,c⟩:=r.at a;show⟨e,d,b,c.same s⟩
def ZU(h:PD X ρ e (.lst ds)):PDI X ρ tg e ds:=
 ⟨(Ye h.pe).imp λf H R q=>⟨q.1,λv H1 b c=>by
  let⟨p,d,rfl,a,r⟩:=We c;show⟨p,(),⟨d,a⟩,q.2 _ H1 b (WQ a r)⟩⟩⟩
def OM{tg:Expr}(h:PD X ρ e (.tup ds)):PDI X ρ tg e ds:=
 ⟨(Qfp h.pe).imp λf H R q=>⟨q.1,λv H1 b c=>by
  let⟨p,d,rfl,a,r⟩:=JS c;show⟨p,(),⟨d,a⟩,q.2 _ H1 b (Uq a r)⟩⟩⟩
def Wu(lo:Int)(n:Nat):List D:=(List.range n).map λ(i:Nat)=>.int (lo+i)
def GB{K:W.Frag}(lo:Int)(n:Nat):JIs K (Itr lo n) H (Wu lo n):=by
 show⟨λi H' s hi=>?_,λi H' y H2 s hi b=>?_,λi H' s hi=>?_⟩
 ·change i<n;simpa[Wu]using hi
 ·let⟨e,rfl⟩:=b;let a:=by simpa[Wu]using hi
  show⟨e,.int (lo+i),by simp[Wu,a],Y4 _⟩
 ·change n<=i;simpa[Wu]using hi
def Yh(hm:X.mg "range"=none)(ha:PD X ρ a (.int n))(h1: Neg.neg (2^62:Int)<=n)(h2:n<2^62)(hg:Gl X "range":=by rfl)(hs:starEach [a] X.env=[(false,eval a X.env)]:=by rfl):PDI X ρ tg (.Call (.Name "range" p) [a] [] pos) (Wu 0 n.toNat):=
 ⟨(Qdn hg hm (Vc ha Vn hs).pe hs).imp λd H R q=>⟨q.1,λf H1 b c=>by
  let⟨v,rfl,i⟩:=c.one;let e:=Y5 i;subst e;show⟨n,(),h1,h2,q.2 _ H1 b (GB 0 n.toNat)⟩⟩⟩
def rdL(K:W.Frag)(ρ:List (Option D))(ds:List D):TE:=λσ H Q=>EnvIs K H σ ρ/\∀p vs H',H p=none->Same H H'->H' p=-(.lst vs)->Va K H' ds vs->Q (.ref p) H'
structure PDL(X:Cx)(ρ:List (Option D))(e:Expr)(ds:List D):Prop where
 pe:PE X e (rdL X.K ρ ds)
structure PTB(X:Cx)(ρ:List (Option D))(ifs:List Expr)(k:Bool):Prop where
 pe:PTs X ifs (rdB X.K ρ k)
def PDL.pd{ρ:List (Option D)}(h:PDL X ρ e ds):PD X ρ e (.lst ds):=⟨h.pe.imp λb H Q q=>⟨q.1,λp c H' n s a i=>q.2 _ H' s (Qbu (SqL.of a) i)⟩⟩
def WB(h:PDs X ρ xs ds)(hz:ds.length<=sizeLine):PDL X ρ (.List xs pos) ds:=
 ⟨(Qs4 h.pe).imp λe H Q q=>⟨q.1,λd H1 b c=>⟨by rw[<-c.length];show hz,λp a=>q.2 p d _ (b.free a) (b.trans (Same.upd a)) Vu (c.same (Same.upd a))⟩⟩⟩
def Qef{K:W.Frag}(hz:ds.length<=sizeLine)(h:rdL K ρ ((ds.filter p).map f) σ H Q):
  Qr4 (rdI K ρ ds) (λσ H Q=>∃d,d∈ds/\rdB K (-d::ρ) (p d) σ H Q) (λσ H Q=>∃d,d∈ds/\p d=true/\rdD K (-d::ρ) (f d) σ H Q) σ H Q:=by
 let⟨k,q⟩:=h;show⟨k,λJ H1 j n=>?_⟩;show⟨λi m o H2=>∃x:Unit,Same H1 H2/\i<=ds.length/\m=ds.length-i/\Va K H2 (((ds.take i).filter p).map f) o,⟨ds.length,⟨⟩,Same.refl _,QJ _,(),by rfl⟩,?_⟩;rintro i m o H2 ⟨_,a,hi,rfl,r⟩
 by_cases Kt:i<ds.length
 ·show .inr ⟨n.go i H2 a Kt,?_,λv H3 y=>?_⟩
  ·let h1:=r.length
   grind
  ·let⟨e,d,hd,s⟩:=n.yld i H2 v H3 a Kt y;subst e;let t:=Q6 hd;let b:ds.take (i+1)=ds.take i++[d]:=by rw[Jr,hd];rfl
   show⟨d,t,((k.same j).same a).cons s,λH4 c=>?_⟩
   by_cases g:p d=true
   ·change if p d=true then _ else _;rw[Qh g];show⟨d,t,g,(((k.same j).same a).cons s).same c,λz H5 u w=>⟨ds.length-(i+1),"l",⟨⟩,(a.trans c).trans u,Kt,(),?_⟩⟩;rw[b,Bc,J1];simp only[Z7,List.filter_nil,g,Z0,Qw,List.map_nil];show((r.same c).same u).append (Vg w Jq)
   ·change if p d=true then _ else _;rw[Qc g];show⟨ds.length-(i+1),"l",⟨⟩,a.trans c,Kt,(),?_⟩;rw[b,Bc,J1];simp only[Z7,List.filter_nil,g,QE,JU,List.map_nil,QW];show r.same c
 ·let e:i=ds.length:="l"
  subst e;show .inl ⟨n.stop _ H2 a (Q5 _),λl hl=>q l o _ ((j.trans a).free hl) ((j.trans a).trans (Same.upd hl)) Vu (Va.same (Same.upd hl) ?_)⟩
  ext
def Qgj(hc:X.calm=true)(hi:PDI X ρ (.Name x px) iter ds)(hz:ds.length<=sizeLine)
  (ht:∀d∈ds,∀cl C s H ex,PTB (cxC X x scope cl C s H ex) (-d::ρ) ifs (p d)) (he:∀d∈ds,p d=true->∀cl C s H ex,PD (cxC X x scope cl C s H ex) (-d::ρ) elt (f d))
  (hok:ZV X.N X.env.scope x scope=true:=by rfl) (hs:∀x,foldedSetIterable iter X.env x=pure x:=by intro _;rfl) :
  PDL X ρ (.ListComp elt [⟨.Name x px,iter,ifs,0⟩] scope pos) ((ds.filter p).map f):=
 ⟨(Qx0 hc hi.pe (λcl C s H ex Kz b a H' Q I ⟨d,hd,q⟩=>(ht d hd cl C s H ex).pe Kz b a H' Q I q) (λcl C s H ex Kz b a H' Q I ⟨d,hd,c,q⟩=>(he d hd c cl C s H ex).pe Kz b a H' Q I q) hok hs).imp λa H Q q=>Qef hz q⟩
def OL{α:Type}(l:List α):l.filter (λ_=>true)=l:="s"
def Qrr(cl:List (Str×Addr))(C:Addr)(s:Shared)(H:Hp)(ex:List Addr):PTB (cxC X x scope cl C s H ex) (-d::ρ) [] true:=⟨λKz a b H' Q I q=>Qms Kz a b H' Q I (q.2 H' (Same.refl H'))⟩
def Qr0(h:PB X ρ c k):PTB X ρ [c] k:=⟨Qwk h.pe⟩
def Zu{elt iter:Expr}{x:Str}{px:Pos}{scope:Scope}{f:D->D}(hc:X.calm=true)(hi:PDI X ρ (.Name x px) iter ds)(hz:ds.length<=sizeLine)
  (he:∀d∈ds,∀cl C s H ex,PD (cxC X x scope cl C s H ex) (-d::ρ) elt (f d))
  (hok:ZV X.N X.env.scope x scope=true:=by rfl) (hs:∀x,foldedSetIterable iter X.env x=pure x:=by intro _;rfl) :
  PDL X ρ (.ListComp elt [⟨.Name x px,iter,[],0⟩] scope pos) (ds.map f):=by
 let:=Qgj (pos:=pos) (elt:=elt) (scope:=scope) (ifs:=[]) (p:=λ_=>true) hc hi hz (λd hd=>Qrr) (λd hd _=>he d hd) hok hs;rwa [OL]at this
end
mutual
def LF:D->Bool
 |.tup ds=>LFs ds|.lst _=>false|.dct fz _ ds=>fz&&LFs ds|.oth (.dcx fz _) ks ds=>fz&&(LFs ks&&LFs ds)|.oth (.obj _) _ ds=>LFs ds|.oth .fls _ ds=>LFs ds|_=>true
def LFs:List D->Bool
 |[]=>true|d::ds=>LF d&&LFs ds
end
theorem WL:∀{ds:List D},LFs ds=true↔∀d∈ds,LF d=true
 |[]=>by simp[LFs]|d::ds=>by simp[LFs,WL]
def Qvi:LF (.tup ds)=LFs ds:=by simp[LF]
def W4:LF (.str x)=true:=by simp[LF]
def Bt:LF (.int x)=true:=by simp[LF]
def JJ{α:Type}{f:α->D}(h:∀a,LF (f a)=true)(l:List α):LFs (l.map f)=true:=by
 rw[WL];intro d hd;let⟨a,_,rfl⟩:=Q4.mp hd;show h a
def Zg{ds es:List D}:LFs (ds++es)=(LFs ds&&LFs es):=by
 rw[Ws];simp only[Qv,WL,Qt];constructor
 ·show λh=>⟨λd hd=>h d (.inl hd),λd hd=>h d (.inr hd)⟩
 ·rintro⟨a,b⟩ d (hd|hd)
  ·show a d hd
  ·show b d hd
structure TSame(H H':Hp):Prop where
 tp:∀b xs,Rd H b (.tup xs)->Rd H' b (.tup xs)
 fz:∀b o u,H b=-(.frz o u)->H' b=-(.frz o u)
def TSame.refl(H:Hp):TSame H H:=⟨λ_ _ h=>h,λ_ _ _ h=>h⟩
def TSame.trans(a:TSame H H1)(b:TSame H1 H2):TSame H H2:=⟨λc d h=>b.tp c d (a.tp c d h),λc o u h=>b.fz c o u (a.fz c o u h)⟩
def Same.t(s:Same H H'):TSame H H':=by
 show⟨λb a h=>?_,λb o u h=>s _ _ h⟩;rcases h with h|⟨o,h⟩
 ·show .inl (s _ _ h)
 ·show .inr ⟨o,s _ _ h⟩
def TSame.updM(h:H p=-u)(h1:∀xs,u≠ .tup xs)(h2:∀o v,u≠ .frz o v):TSame H (upd H p u'):=by
 let hb:∀b v,H b=-v->(∀e:v=u,False)->b≠p:=λb v q ne z=>by
  ext
 show⟨λb xs q=>?_,λb o v q=>by rw[Qm (hb b _ q λe=>h2 o v e.symm)];show q⟩;rcases q with q|⟨o,q⟩
 ·show .inl (by rw[Qm (hb b _ q λe=>h1 xs e.symm)];show q)
 ·show .inr ⟨o,by rw[Qm (hb b _ q λe=>h2 o _ e.symm)];show q⟩
def TSame.lst(h:H p=-(.lst vs)):TSame H (upd H p (.lst ws)):=TSame.updM h (λ_ e=>nomatch e) (λ_ _ e=>nomatch e)
mutual
theorem Is.tsame{K:W.Frag}{H H':Hp}(s:TSame H H'):∀{d:D}{v:V},LF d=true->Is K H d v->Is K H' d v
 |.non,_,_,h=>by simpa[Is]using h|.bl _,_,_,h=>by simpa[Is]using h|.int _,_,_,h=>by simpa[Is]using h|.str _,_,_,h=>by simpa[Is]using h|.tup b,v,l,h=>by
  rw[Is]at h ⊢;rw[LF]at l;let⟨p,a,e,q,r⟩:=h;show⟨p,a,e,?_,Va.tsame s l r⟩;rcases q with q|q
  ·show .inl (s.tp _ _ q)
  ·show .inr q
 |.lst b,v,l,h=>by simp[LF]at l|.dct fz g b,v,l,h=>by
  rw[LF,Qv]at l;rw[Is]at h ⊢;let⟨p,f,a,e,t,dk,r⟩:=h;let⟨j,k⟩:=l;subst j;let⟨o,m⟩:=(show ∃o,H p=-(.frz o (.dK (Wt f a)))from dk.at_);show⟨p,f,a,e,t,⟨dk.len,dk.nd,⟨o,s.fz _ _ _ m⟩⟩,Va.tsame s k r⟩
 |.oth (.dcx fz u) g b,v,l,h=>by
  rw[LF,Qv,Qv]at l;rw[Is]at h ⊢;let⟨p,n,a,e,dk,w,c,r⟩:=h;let⟨j,k,x⟩:=l;subst j;let⟨o,m⟩:=(show ∃o,H p=-(.frz o (DxO p u n a))from dk);show⟨p,n,a,e,⟨o,s.fz _ _ _ m⟩,w,Va.tsame s k c,Va.tsame s x r⟩
 |.oth (.obj C) g b,v,l,h=>by
  rw[LF]at l;rw[Is]at h ⊢;let⟨p,dx,f,a,o,e,c,q,i,r⟩:=h;show⟨p,dx,f,a,o,e,c,q,s.fz _ _ _ i,Va.tsame s l r⟩
 |.oth .fls g b,v,l,h=>by
  rw[LF]at l;rw[Is]at h ⊢;let⟨p,a,o,e,c,i,r⟩:=h;show⟨p,a,o,e,c,s.fz _ _ _ i,Va.tsame s l r⟩
theorem Va.tsame{K:W.Frag}{H H':Hp}(s:TSame H H'):∀{ds:List D}{vs:List V},LFs ds=true->Va K H ds vs->Va K H' ds vs
 |[],_,_,h=>by simpa[Va]using h|d::ds,vs,l,h=>by
  rw[Va]at h ⊢;rw[LFs,Qv]at l;let⟨v,r,e,q,t⟩:=h;show⟨v,r,e,Is.tsame s l.1 q,Va.tsame s l.2 t⟩
end
inductive Sl where
 |no|arg (d:D)|own (ds:List D)|any (d:D)|odc (ks:List Str) (ds:List D)|ftp (ds:List D)|flt (ds:List D)|odx (hs:List Int) (ks ds:List D)
def Sl.d:Sl->Option D
 |.no=>none|.arg d=>-d|.own ds=>-(.lst ds)|.any d=>-d|.odc ks ds=>-(.dct false (ks.map .str) ds)|.ftp ds=>-(.tup ds)|.flt ds=>-(.lst ds)|.odx hs ks ds=>-(.oth (.dcx false hs) ks ds)
def SlIs(K:W.Frag)(H₀ H:Hp):Sl->Option V->Prop
 |.no,_=>True|.arg d,o=>∃v,o=-v/\Is K H₀ d v|.own ds,o=>∃p vs,o=-(.ref p)/\H₀ p=none/\H p=-(.lst vs)/\LFs ds=true/\Va K H ds vs|.any d,o=>∃v,o=-v/\Is K H d v|.odc ks ds,o=>∃p vs,o=-(.ref p)/\H₀ p=none/\DkAt false H p ks vs/\LFs ds=true/\Va K H ds vs|.ftp ds,o=>∃p vs,o=-(.ref p)/\(∃ob,ob.dict=none/\H p=-(.frz ob (.tup vs)))/\LFs ds=true/\Va K H ds vs|.flt ds,o=>∃p vs,o=-(.ref p)/\(∃ob,H p=-(.frz ob (.lst vs)))/\LFs ds=true/\Va K H ds vs|.odx hs ks ds,o=>∃p as vs,o=-(.ref p)/\H₀ p=none/\H p=-(DxO p hs as vs)/\ks.Nodup/\LFs ks=true/\LFs ds=true/\Va K H ks (as.map .ref)/\Va K H ds vs
structure EnvO(K:W.Frag)(H₀ H:Hp)(σ:St)(τ:List Sl):Prop where
 same:Same H₀ H
 len:σ.length=τ.length
 sl:∀(i:Nat)(s:Sl),τ[i]?=-s->∃o,σ[i]?=-o/\SlIs K H₀ H s o
 apart:∀(i j:Nat)(ds es:List D)(p:Addr),i≠j->τ[i]?=-(.own ds)->τ[j]?=-(.own es)->σ[i]?=-(-(.ref p))->σ[j]? ≠-(-(.ref p))
 apD:∀(i j:Nat)(ks ks':List Str)(ds es:List D)(p:Addr),i≠j->τ[i]?=-(.odc ks ds)->τ[j]?=-(.odc ks' es)->σ[i]?=-(-(.ref p))->σ[j]? ≠-(-(.ref p))
def dat(τ:List Sl):List (Option D):=τ.map Sl.d
def EnvO.env{K:W.Frag}{H₀ H:Hp}{σ:St}{τ:List Sl}(h:EnvO K H₀ H σ τ):EnvIs K H σ (dat τ):=by
 show⟨by simp[dat,h.len],λi d e=>?_⟩;unfold dat at e;rw[Qd]at e;cases q:τ[i]? with
 |none=>rw[q]at e;cases e
 |some s =>
  rw[q]at e;let⟨o,b,c⟩:=h.sl i s q;let a:s.d=some d:=by simpa using e
  cases s with
  |no=>cases a
  |arg x =>
   cases a;let⟨v,rfl,z⟩:=c;show⟨v,b,z.same h.same⟩
  |any x =>
   cases a;let⟨v,rfl,z⟩:=c;show⟨v,b,z⟩
  |own f =>
   cases a;let⟨p,g,rfl,_,z,_,t⟩:=c;show⟨.ref p,b,Qbu (SqL.of z) t⟩
  |odc k f =>
   cases a;let⟨p,g,rfl,_,z,_,t⟩:=c;show⟨.ref p,b,Jbs z t⟩
  |ftp f =>
   cases a;let⟨p,g,rfl,⟨j,_,z⟩,_,t⟩:=c;show⟨.ref p,b,Qbt (.inl (.inr ⟨j,z⟩)) t⟩
  |flt f =>
   cases a;let⟨p,g,rfl,⟨j,z⟩,_,t⟩:=c;show⟨.ref p,b,Qbu (.inl (.inr ⟨j,z⟩)) t⟩
  |odx m k f =>
   cases a;let⟨p,n,g,rfl,_,z,l,_,_,i,t⟩:=c;show⟨.ref p,b,Qfw (fz:=false) z l i t⟩
def EnvO.step{K:W.Frag}(h:EnvO K H₀ H σ τ)(s:Same H H'):EnvO K H₀ H' σ τ:=by
 show⟨h.same.trans s,h.len,λi sl e=>?_,h.apart,h.apD⟩;let⟨o,k,c⟩:=h.sl i sl e;show⟨o,k,?_⟩;cases sl with
 |no=>trivial|arg d=>show c|any d =>
  let⟨v,z,t⟩:=c;show⟨v,z,t.same s⟩
 |own f =>
  let⟨p,b,z,n,t,l,a⟩:=c;show⟨p,b,z,n,s _ _ t,l,a.same s⟩
 |odc m f =>
  let⟨p,b,z,n,t,l,a⟩:=c;show⟨p,b,z,n,s.dk t,l,a.same s⟩
 |ftp f =>
  let⟨p,b,z,⟨g,j,t⟩,l,a⟩:=c;show⟨p,b,z,⟨g,j,s _ _ t⟩,l,a.same s⟩
 |flt f =>
  let⟨p,b,z,⟨g,t⟩,l,a⟩:=c;show⟨p,b,z,⟨g,s _ _ t⟩,l,a.same s⟩
 |odx w m f =>
  let⟨p,q,b,z,n,t,j,r,u,i,a⟩:=c;show⟨p,q,b,z,n,s _ _ t,j,r,u,i.same s,a.same s⟩
def EnvO.set{K:W.Frag}{H₀ H:Hp}{σ:St}{τ:List Sl}{v:V}{s:Sl}(h:EnvO K H₀ H σ τ)(i:Nat)(hs:SlIs K H₀ H s (-v))(hn:∀ds,s=.own ds->∀(j:Nat)(p:Addr)(es:List D),v=.ref p->τ[j]?=-(.own es)->j≠i->σ[j]? ≠-(-(.ref p)))
  (hd:∀ks ds,s=.odc ks ds->∀(j:Nat)(p:Addr)(ks':List Str)(es:List D),v=.ref p->τ[j]?=-(.odc ks' es)->j≠i->σ[j]? ≠-(-(.ref p)):=by intro _ _ e;cases e):EnvO K H₀ H (σ.set i (-v)) (τ.set i s):=by
 show⟨h.same,by simp[h.len],λj u e=>?_,λj k ds es p c q n a b=>?_,λj k ks ks' ds es p c q n a b=>?_⟩
 ·by_cases w:i=j
  ·subst w
   by_cases hi:i<τ.length
   ·rw[Ql hi]at e;let:s=u:=by simpa using e
    subst this;show⟨-v,by rw[Ql (by rw[h.len];show hi)],hs⟩
   ·rw[Wc (by simpa using hi)]at e;cases e
  ·rw[Qg w]at e ⊢;show h.sl j u e
 ·let look:∀(m:Nat)(ds:List D),(τ.set i s)[m]?=-(.own ds)->(m=i/\s=.own ds/\i<τ.length)\/(m≠i/\τ[m]?=-(.own ds)):=λm ds e=>by
   by_cases f:i=m
   ·subst f
    by_cases hi:i<τ.length
    ·rw[Ql hi]at e;show .inl ⟨(),by simpa using e,hi⟩
    ·rw[Wc (by simpa using hi)]at e;cases e
   ·rw[Qg f]at e;show .inr ⟨Jd f,e⟩
  rcases look j ds q with⟨rfl,r,hi⟩|⟨g,o⟩
  ·rcases look k es n with⟨rfl,_,_⟩|⟨d,l⟩
   ·show c ()
   ·rw[Ql (by rw[h.len];show hi)]at a;rw[Qg (Jd d)]at b;show hn ds r k p es (by simpa using a) l d b
  ·rcases look k es n with⟨rfl,t,hi⟩|⟨d,l⟩
   ·rw[Ql (by rw[h.len];show hi)]at b;rw[Qg (Jd g)]at a;show hn es t j p ds (by simpa using b) o g a
   ·rw[Qg (Jd g)]at a;rw[Qg (Jd d)]at b;show h.apart j k ds es p c o l a b
 ·let look:∀(m:Nat)(ks:List Str)(ds:List D),(τ.set i s)[m]?=-(.odc ks ds)->(m=i/\s=.odc ks ds/\i<τ.length)\/(m≠i/\τ[m]?=-(.odc ks ds)):=λm ks ds e=>by
   by_cases f:i=m
   ·subst f
    by_cases hi:i<τ.length
    ·rw[Ql hi]at e;show .inl ⟨(),by simpa using e,hi⟩
    ·rw[Wc (by simpa using hi)]at e;cases e
   ·rw[Qg f]at e;show .inr ⟨Jd f,e⟩
  rcases look j ks ds q with⟨rfl,r,hi⟩|⟨g,o⟩
  ·rcases look k ks' es n with⟨rfl,_,_⟩|⟨d,l⟩
   ·show c ()
   ·rw[Ql (by rw[h.len];show hi)]at a;rw[Qg (Jd d)]at b;show hd ks ds r k p ks' es (by simpa using a) l d b
  ·rcases look k ks' es n with⟨rfl,t,hi⟩|⟨d,l⟩
   ·rw[Ql (by rw[h.len];show hi)]at b;rw[Qg (Jd g)]at a;show hd ks' es t j p ks ds (by simpa using b) o g a
   ·rw[Qg (Jd g)]at a;rw[Qg (Jd d)]at b;show h.apD j k ks ks' ds es p c o l a b
def EnvO.mut{K:W.Frag}{H₀ H:Hp}{σ:St}{τ:List Sl}{i:Nat}{p:Addr}{vs ws:List V}{ds es:List D}(h:EnvO K H₀ H σ τ)(hi:τ[i]?=-(.own ds))(hσ:σ[i]?=-(-(.ref p)))(hn:H₀ p=none)(hp:H p=-(.lst vs))
  (hl:∀(j:Nat)(d:D),τ[j]?=-(.any d)->LF d=true) (le:LFs es=true) (ie:Va K H es ws):EnvO K H₀ (upd H p (.lst ws)) σ (τ.set i (.own es)):=by
 let ts:TSame H (upd H p (.lst ws)):=TSame.lst hp;let Kt:i<τ.length:=(Q3.mp hi).1;show⟨λb o e=>by rw[Qm (QM e hn)];show h.same b o e,by simp[h.len],λj u e=>?_,λj k Kq g q r w f e3 e4=>?_,λj k s n Kq g q r w f=>?_⟩
 ·by_cases hj:i=j
  ·subst hj;rw[Ql Kt]at e;let:Sl.own es=u:=by simpa using e
   subst this;show⟨_,hσ,p,ws,(),hn,Vu,le,ie.tsame ts le⟩
  ·rw[Qg hj]at e;let⟨o,w,f⟩:=h.sl j u e;show⟨o,w,?_⟩;cases u with
   |no=>trivial|arg d=>show f|any d =>
    let⟨v,z,t⟩:=f;show⟨v,z,t.tsame ts (hl j d e)⟩
   |own Kq =>
    let⟨c,Kk,z,x,t,l,a⟩:=f;subst z;let Ko:c≠p:=by
     rintro rfl;show h.apart i j ds Kq c hj hi e hσ w
    show⟨c,Kk,(),x,by rw[Qm Ko];show t,l,a.tsame ts l⟩
   |odc n Kq =>
    let⟨c,Kk,z,x,t,l,a⟩:=f;subst z;let ta:H c=-(.dK (Wt n Kk)):=t.at_;let Ko:c≠p:=by
     rintro rfl;rw[hp]at ta;cases ta
    show⟨c,Kk,(),x,⟨t.len,t.nd,by change upd H p (.lst ws) c=_;rw[Qm Ko];show ta⟩,l,a.tsame ts l⟩
   |ftp Kq =>
    let⟨c,Kk,z,⟨ob,hno,t⟩,l,a⟩:=f;subst z;let Ko:c≠p:=by
     rintro rfl;rw[hp]at t;cases t
    show⟨c,Kk,(),⟨ob,hno,by rw[Qm Ko];show t⟩,l,a.tsame ts l⟩
   |flt Kq =>
    let⟨c,Kk,z,⟨ob,t⟩,l,a⟩:=f;show⟨c,Kk,z,⟨ob,ts.fz _ _ _ t⟩,l,a.tsame ts l⟩
   |odx hs s Kq =>
    let⟨c,as,Kk,z,x,t,hnd,l1,l2,ik,a⟩:=f;let Ko:c≠p:=by
     rintro rfl;rw[hp]at t;cases t
    show⟨c,as,Kk,z,x,by rw[Qm Ko];show t,hnd,l1,l2,ik.tsame ts l1,a.tsame ts l2⟩
 ·let look:∀(m:Nat)(Kq:List D),(τ.set i (.own es))[m]?=-(.own Kq)->∃y,τ[m]?=-(.own y):=λm Kq e=>by
   by_cases hm:i=m
   ·subst hm;show⟨ds,hi⟩
   ·rw[Qg hm]at e;show⟨_,e⟩
  let⟨d1,t1⟩:=look j Kq w;let⟨d2,t2⟩:=look k g f;show h.apart j k d1 d2 q r t1 t2 e3 e4
 ·let look:∀(m:Nat)(s:List Str)(Kq:List D),(τ.set i (.own es))[m]?=-(.odc s Kq)->τ[m]?=-(.odc s Kq):=λm s Kq e=>by
   by_cases hm:i=m
   ·subst hm;rw[Ql Kt]at e;cases e
   ·rw[Qg hm]at e;show e
  show h.apD j k s n Kq g q r (look j s Kq w) (look k n g f)
def TSame.dk(h:H p=-(.dK vs)):TSame H (upd H p (.dK ws)):=TSame.updM h (λ_ e=>nomatch e) (λ_ _ e=>nomatch e)
def EnvO.mutD{K:W.Frag}{H₀ H:Hp}{σ:St}{τ:List Sl}{i:Nat}{p:Addr}{vs ws:List V}{ks ks2:List Str}{ds es:List D}(h:EnvO K H₀ H σ τ)(hi:τ[i]?=-(.odc ks ds))(hσ:σ[i]?=-(-(.ref p)))(hn:H₀ p=none)(hp:DkAt false H p ks vs)
  (hl:∀(j:Nat)(d:D),τ[j]?=-(.any d)->LF d=true) (le:LFs es=true) (Ks:ks2.length=ws.length) (hnd:ks2.Nodup) (ie:Va K H es ws):EnvO K H₀ (upd H p (.dK (Wt ks2 ws))) σ (τ.set i (.odc ks2 es)):=by
 let g:H p=-(.dK (Wt ks vs)):=hp.at_;let ts:TSame H (upd H p (.dK (Wt ks2 ws))):=TSame.dk g;let Kt:i<τ.length:=(Q3.mp hi).1;show⟨λb o e=>by rw[Qm (QM e hn)];show h.same b o e,by simp[h.len],λj u e=>?_,λj k Kq n q r s f=>?_,λj k kk kk' Kq n q r s f e3 e4=>?_⟩
 ·by_cases hj:i=j
  ·subst hj;rw[Ql Kt]at e;let:Sl.odc ks2 es=u:=by simpa using e
   subst this;show⟨_,hσ,p,ws,(),hn,⟨Ks,hnd,Vu⟩,le,ie.tsame ts le⟩
  ·rw[Qg hj]at e;let⟨o,s,f⟩:=h.sl j u e;show⟨o,s,?_⟩;cases u with
   |no=>trivial|arg d=>show f|any d =>
    let⟨v,z,t⟩:=f;show⟨v,z,t.tsame ts (hl j d e)⟩
   |own Kq =>
    let⟨c,Kk,z,w,t,l,a⟩:=f;subst z;let Ko:c≠p:=by
     rintro rfl;rw[g]at t;cases t
    show⟨c,Kk,(),w,by rw[Qm Ko];show t,l,a.tsame ts l⟩
   |odc x Kq =>
    let⟨c,Kk,z,w,t,l,a⟩:=f;subst z;let ta:H c=-(.dK (Wt x Kk)):=t.at_;let Ko:c≠p:=by
     rintro rfl;show h.apD i j ks x ds Kq c hj hi e hσ s
    show⟨c,Kk,(),w,⟨t.len,t.nd,by change upd H p (.dK (Wt ks2 ws)) c=_;rw[Qm Ko];show ta⟩,l,a.tsame ts l⟩
   |ftp Kq =>
    let⟨c,Kk,z,⟨ob,hno,t⟩,l,a⟩:=f;subst z;let Ko:c≠p:=by
     rintro rfl;rw[g]at t;cases t
    show⟨c,Kk,(),⟨ob,hno,by rw[Qm Ko];show t⟩,l,a.tsame ts l⟩
   |flt Kq =>
    let⟨c,Kk,z,⟨ob,t⟩,l,a⟩:=f;show⟨c,Kk,z,⟨ob,ts.fz _ _ _ t⟩,l,a.tsame ts l⟩
   |odx hs ks3 Kq =>
    let⟨c,as,Kk,z,w,t,hnd,l1,l2,ik,a⟩:=f;let Ko:c≠p:=by
     rintro rfl;rw[g]at t;cases t
    show⟨c,as,Kk,z,w,by rw[Qm Ko];show t,hnd,l1,l2,ik.tsame ts l1,a.tsame ts l2⟩
 ·let look:∀(m:Nat)(Kq:List D),(τ.set i (.odc ks2 es))[m]?=-(.own Kq)->τ[m]?=-(.own Kq):=λm Kq e=>by
   by_cases y:i=m
   ·subst y;rw[Ql Kt]at e;cases e
   ·rw[Qg y]at e;show e
  show h.apart j k Kq n q r (look j Kq s) (look k n f)
 ·let look:∀(m:Nat)(kk:List Str)(Kq:List D),(τ.set i (.odc ks2 es))[m]?=-(.odc kk Kq)->∃k2 d2,τ[m]?=-(.odc k2 d2):=λm kk Kq e=>by
   by_cases y:i=m
   ·subst y;show⟨ks,ds,hi⟩
   ·rw[Qg y]at e;show⟨_,_,e⟩
  let⟨k1,d1,t1⟩:=look j kk Kq s;let⟨k2,d2,t2⟩:=look k kk' n f;show h.apD j k k1 k2 d1 d2 q r t1 t2 e3 e4
def EnvO.mutX{K:W.Frag}{H₀ H:Hp}{σ:St}{τ:List Sl}{i:Nat}{p:Addr}{hs hs2:List Int}{as as2:List Addr}{vs ws:List V}{ks ks2:List D}{ds es:List D}(h:EnvO K H₀ H σ τ)(hi:τ[i]?=-(.odx hs ks ds))(hσ:σ[i]?=-(-(.ref p)))(hn:H₀ p=none)(hp:H p=-(DxO p hs as vs))
  (hl:∀(j:Nat)(d:D),τ[j]?=-(.any d)->LF d=true) (hx:∀(j:Nat)hs' ks' Kq,τ[j]?=-(.odx hs' ks' Kq)->j=i) (lk:LFs ks2=true) (le:LFs es=true) (hnd:ks2.Nodup) (ik:Va K H ks2 (as2.map .ref)) (ie:Va K H es ws):EnvO K H₀ (upd H p (DxO p hs2 as2 ws)) σ (τ.set i (.odx hs2 ks2 es)):=by
 let ts:TSame H (upd H p (DxO p hs2 as2 ws)):=TSame.updM hp (λ_ e=>nomatch e) (λ_ _ e=>nomatch e);let Kt:i<τ.length:=(Q3.mp hi).1;show⟨λb o e=>by rw[Qm (QM e hn)];show h.same b o e,by simp[h.len],λj u e=>?_,λj k Kq f q n s g=>?_,λj k r w Kq f q n s g=>?_⟩
 ·by_cases y:i=j
  ·subst y;rw[Ql Kt]at e;let:Sl.odx hs2 ks2 es=u:=by simpa using e
   subst this;show⟨_,hσ,p,as2,ws,(),hn,Vu,hnd,lk,le,ik.tsame ts lk,ie.tsame ts le⟩
  ·rw[Qg y]at e;let⟨o,s,g⟩:=h.sl j u e;show⟨o,s,?_⟩;cases u with
   |no=>trivial|arg d=>show g|any d =>
    let⟨v,z,t⟩:=g;show⟨v,z,t.tsame ts (hl j d e)⟩
   |own Kq =>
    let⟨c,Kk,z,n',t,l,a⟩:=g;subst z;let Ko:c≠p:=by
     rintro rfl;rw[hp]at t;cases t
    show⟨c,Kk,(),n',by rw[Qm Ko];show t,l,a.tsame ts l⟩
   |odc ks' Kq =>
    let⟨c,Kk,z,n',t,l,a⟩:=g;subst z;let ta:H c=-(.dK (Wt ks' Kk)):=t.at_;let Ko:c≠p:=by
     rintro rfl;rw[hp]at ta;cases ta
    show⟨c,Kk,(),n',⟨t.len,t.nd,by change upd H p (DxO p hs2 as2 ws) c=_;rw[Qm Ko];show ta⟩,l,a.tsame ts l⟩
   |ftp Kq =>
    let⟨c,Kk,z,⟨ob,hno,t⟩,l,a⟩:=g;subst z;let Ko:c≠p:=by
     rintro rfl;rw[hp]at t;cases t
    show⟨c,Kk,(),⟨ob,hno,by rw[Qm Ko];show t⟩,l,a.tsame ts l⟩
   |flt Kq =>
    let⟨c,Kk,z,⟨ob,t⟩,l,a⟩:=g;show⟨c,Kk,z,⟨ob,ts.fz _ _ _ t⟩,l,a.tsame ts l⟩
   |odx hs' ks' Kq=>show absurd (hx j hs' ks' Kq e) (Jd y)
 ·let look:∀(m:Nat)(Kq:List D),(τ.set i (.odx hs2 ks2 es))[m]?=-(.own Kq)->τ[m]?=-(.own Kq):=λm Kq e=>by
   by_cases x:i=m
   ·subst x;rw[Ql Kt]at e;cases e
   ·rw[Qg x]at e;show e
  show h.apart j k Kq f q n (look j Kq s) (look k f g)
 ·let look:∀(m:Nat)(r:List Str)(Kq:List D),(τ.set i (.odx hs2 ks2 es))[m]?=-(.odc r Kq)->τ[m]?=-(.odc r Kq):=λm r Kq e=>by
   by_cases x:i=m
   ·subst x;rw[Ql Kt]at e;cases e
   ·rw[Qg x]at e;show e
  show h.apD j k r w Kq f q n (look j r Kq s) (look k w f g)
def Rl:Bool->Hp->Hp->Prop
 |true,H,H'=>Same H H'|false,H,H'=>TSame H H'
def Rl.of(s:Same H H'):Rl m H H':=by
 cases m
 ·show s.t
 ·show s
def Rl.refl{m:Bool}(H:Hp):Rl m H H:=.of (Same.refl H)
def Rl.t(s:Rl m H H'):TSame H H':=by
 cases m
 ·show s
 ·show Same.t s
def Rl.trans(a:Rl m H H1)(b:Rl n H1 H2):Rl (m&&n) H H2:=by
 cases m
 ·show TSame.trans a.t b.t
 ·cases n
  ·show TSame.trans a.t b.t
  ·show Same.trans a b
def Rl.weak(a:Rl m H H1)(h:n=true->m=true):Rl n H H1:=by
 cases n
 ·show a.t
 ext
inductive RO where
 |ret (d:D)|retL (ds:List D)|retT (ds:List D)|next (m:Bool) (τ:List Sl)|brk (m:Bool) (τ:List Sl)|cnt (m:Bool) (τ:List Sl)
def rdO(K:W.Frag)(H₀:Hp)(τ:List Sl)(r:RO):TS:=λDd σ H=>EnvO K H₀ H σ τ/\match r with
 |.ret d=>∀v H',Same H₀ H'->Is K H' d v->Dd.rt v H'|.retL ds=>∀p vs H',H₀ p=none->Same H₀ H'->H' p=-(.lst vs)->Va K H' ds vs->Dd.rt (.ref p) H'|.retT ds=>∀p vs ob H',ob.dict=none->Same H₀ H'->H' p=-(.frz ob (.tup vs))->Va K H' ds vs->Dd.rt (.ref p) H'|.next m τ'=>∀Ku H',Rl m H H'->EnvO K H₀ H' Ku τ'->Dd.nx Ku H'|.brk m τ'=>∀Ku H',Rl m H H'->EnvO K H₀ H' Ku τ'->Dd.bk Ku H'|.cnt m τ'=>∀Ku H',Rl m H H'->EnvO K H₀ H' Ku τ'->Dd.ct Ku H'
structure QO(X:Cx)(H₀:Hp)(τ:List Sl)(st:Stmt)(r:RO):Prop where
 pe:PS X st (rdO X.K H₀ τ r)
structure QOs(X:Cx)(H₀:Hp)(τ:List Sl)(sts:List Stmt)(r:RO):Prop where
 pe:PSs X sts (rdO X.K H₀ τ r)
section
variable {X:Cx} {H₀:Hp} {τ τ' τ1 τ2:List Sl} {st:Stmt} {sts rest:List Stmt} {r:RO} {e c:Expr} {d:D} {ds es:List D} {pos:Pos} {m n:Bool}
def ZY:QOs X H₀ τ [] (.next true τ):=⟨Qwm.imp λD a H q=>q.2 a H (Rl.refl H) q.1⟩
def RO.after(m:Bool):RO->RO
 |.next n τ=>.next (m&&n) τ|.brk n τ=>.brk (m&&n) τ|.cnt n τ=>.cnt (m&&n) τ|r=>r
def Qbi(q:rdO X.K H₀ τ (r.after m) Dd σ H)(t:Rl m H H')(h:EnvO X.K H₀ H' Ku τ1):rdO X.K H₀ τ1 r Dd Ku H':=by
 let⟨_,q⟩:=q;show⟨h,?_⟩;cases r with
 |ret d=>show q|retL e=>show q|retT e=>show q|next n b=>show λa H2 c=>q a H2 (t.trans c)|brk n b=>show λa H2 c=>q a H2 (t.trans c)|cnt n b=>show λa H2 c=>q a H2 (t.trans c)
def Br:r.after true=r:=by cases r<;>simp[RO.after]
def Qfs(h1:QO X H₀ τ st (.next m τ1))(h2:QOs X H₀ τ1 rest r):QOs X H₀ τ (st::rest) (r.after m):=
 ⟨(ZX h1.pe h2.pe).imp λD a H q=>⟨q.1,λKu H' t h=>Qbi q t h⟩⟩
def YB(h1:QO X H₀ τ st (.next true τ1))(h2:QOs X H₀ τ1 rest r):QOs X H₀ τ (st::rest) r:=by
 let:=Qfs h1 h2;rwa [Br]at this
def Ov(h1:QO X H₀ τ st (.next false τ1))(h2:QOs X H₀ τ1 rest (.next m τ2)):QOs X H₀ τ (st::rest) (.next false τ2):=Qfs h1 h2
def Vq(h1:QO X H₀ τ st (.next m τ1))(h2:QOs X H₀ τ1 rest (.ret d)):QOs X H₀ τ (st::rest) (.ret d):=Qfs h1 h2
def WR(h1:QO X H₀ τ st (.next m τ1))(h2:QOs X H₀ τ1 rest (.retL ds)):QOs X H₀ τ (st::rest) (.retL ds):=Qfs h1 h2
def Vz(h1:QO X H₀ τ st r):QOs X H₀ τ [st] r:=⟨Uk h1.pe⟩
def RO.leaves:RO->Bool
 |.next _ _=>false|_=>true
def Qdx(h1:QO X H₀ τ st r)(hr:r.leaves=true:=by rfl):QOs X H₀ τ (st::rest) r:=by
 let b:PSs X rest Qr2:=Oj;show⟨(ZX h1.pe b).imp λD e H q=>?_⟩;cases r with
 |next m a=>cases hr
 |ret d=>show q|retL c=>show q|retT c=>show q|brk m a=>show q|cnt m a=>show q
def Wk(τ τ':List Sl):Prop:=τ.length=τ'.length/\∀(i:Nat)(s:Sl),τ'[i]?=-s->s=.no\/τ[i]?=-s\/∃d,s=.any d/\τ[i]?=-(.arg d)
def Wk.refl(τ:List Sl):Wk τ τ:=⟨(),λi s h=>.inr (.inl h)⟩
def EnvO.wk{K:W.Frag}(h:EnvO K H₀ H σ τ)(w:Wk τ τ'):EnvO K H₀ H σ τ':=by
 let own:∀(i:Nat)(a:List D),τ'[i]?=-(Sl.own a)->τ[i]?=-(Sl.own a):=λi a e=>by
  rcases w.2 i _ e with z|z|⟨d,z,_⟩
  all_goals ext
 let odc:∀(i:Nat)(c:List Str)(a:List D),τ'[i]?=-(Sl.odc c a)->τ[i]?=-(Sl.odc c a):=λi c a e=>by
  rcases w.2 i _ e with z|z|⟨d,z,_⟩
  all_goals ext
 show⟨h.same,by rw[h.len,w.1],λi s e=>?_,λi j a f p b g l=>h.apart i j a f p b (own i a g) (own j f l),λi j c k a f p b g l=>h.apD i j c k a f p b (odc i c a g) (odc j k f l)⟩;rcases w.2 i s e with rfl|z|⟨d,rfl,z⟩
 ·let hi:i<σ.length:=by rw[h.len,w.1];grind
  show⟨σ[i],by simp[hi],trivial⟩
 ·show h.sl i s z
 ·let⟨o,g,v,rfl,m⟩:=h.sl i _ z;show⟨_,g,v,(),m.same h.same⟩
def ZB(h:QOs X H₀ τ sts (.next m τ1))(w:Wk τ1 τ2)(hn:n=true->m=true):QOs X H₀ τ sts (.next n τ2):=
 ⟨PSs.imp h.pe λD b H q=>⟨q.1,λKu H' t a=>q.2 Ku H' (t.weak hn) (a.wk w)⟩⟩
def Z1(h:PD X (dat τ) e d):QO X H₀ τ (.Return (-e) pos) (.ret d):=
 ⟨(Ol h.pe).imp λD a H q=>⟨q.1.env,λv H' s i=>q.2 v H' (q.1.same.trans s) i⟩⟩
def UV(h:PDL X (dat τ) e ds):QO X H₀ τ (.Return (-e) pos) (.retL ds):=
 ⟨(Ol h.pe).imp λD c H q=>⟨q.1.env,λp a H' n s b i=>q.2 p a H' (q.1.same.free n) (q.1.same.trans s) b i⟩⟩
def U6{i:Nat}(hi:τ[i]?=-(.own ds))(hN:X.N[i]?=some x:=by rfl)(hv:Vis X.env.scope x:=by first|show QI rfl|show QB (QI ())|show QB (QB ()))(hdb:(x==("__debug__":Str))=false:=by decide)
  (hcd:(x==("__classdict__":Str))=false:=by decide):QO X H₀ τ (.Return (-(.Name x p)) pos) (.retL ds):=
 ⟨(Ol (Wv hN hv hdb hcd)).imp λD e H q=>by
  let⟨o,a,p,b,rfl,n,c,_,d⟩:=q.1.sl i _ hi;show⟨_,a,q.2 p b H n q.1.same c d⟩⟩
def Zi(h:PD X (dat τ) e d)(hN:X.N.Nodup)(hi:X.N[i]?=some x:=by rfl)(hx:Loc X.env.scope x:=by first|show QI rfl|show QB ())
  (hs:swapsWith e (-(.Name x p)) pos.line X.env=pure false:=by rfl) (hf:X.fn x=true\/X.env.scope.names.lookup x=some .local:=by first|show .inl rfl|show .inr ()):QO X H₀ τ (.Assign [.Name x p] e pos) (.next true (τ.set i (.any d))):=
 ⟨(Bj hN hi hx h.pe hs hf).imp λD b H q=>⟨q.1.env,λv H' s a=>q.2 _ H' s ((q.1.step s).set i ⟨v,(),a⟩ λc e=>nomatch e)⟩⟩
def EnvO.setOwn{K:W.Frag}(h:EnvO K H₀ H σ τ)(i:Nat)(n:H p=none)(s:Same H H')(hp:H' p=-(.lst vs))(hl:LFs ds=true)(iv:Va K H' ds vs):EnvO K H₀ H' (σ.set i (-(.ref p))) (τ.set i (.own ds)):=
 (h.step s).set i ⟨p,vs,(),h.same.free n,hp,hl,iv⟩ λKq _ j c d e t _ z=>by
  let⟨o,f,g,a,k,_,b,_⟩:=h.sl j _ t
  ext
def W8(h:PDL X (dat τ) e ds)(hl:LFs ds=true)(hN:X.N.Nodup)(hi:X.N[i]?=some x:=by rfl)(hx:Loc X.env.scope x:=by first|show QI rfl|show QB ())
  (hs:swapsWith e (-(.Name x p)) pos.line X.env=pure false:=by rfl) (hf:X.fn x=true\/X.env.scope.names.lookup x=some .local:=by first|show .inl rfl|show .inr ()):QO X H₀ τ (.Assign [.Name x p] e pos) (.next true (τ.set i (.own ds))):=
 ⟨(Bj hN hi hx h.pe hs hf).imp λD c H q=>⟨q.1.env,λp d H' n s a b=>q.2 _ H' s (q.1.setOwn i n s a hl b)⟩⟩
def Yx(hc:PB X (dat τ) c k)(ha:k=true->QOs X H₀ τ A r)(hb:k=false->QOs X H₀ τ B r):QO X H₀ τ (.If c A B pos) r:=by
 cases k with
 |true=>show⟨(Qz6 hc.pe (ha ()).pe (Oj)).imp λD a H q=>⟨q.1.env,λH' s=>Qpl (Qbi (m:=true) (by rw[Br];show q) s (q.1.step s))⟩⟩|false=>show⟨(Qz6 hc.pe (Oj) (hb ()).pe).imp λD a H q=>⟨q.1.env,λH' s=>Qtu (Qbi (m:=true) (by rw[Br];show q) s (q.1.step s))⟩⟩
def ZZ(hi:τ[i]?=-(.own ds))(h:PD X (dat τ) e d)(ld:LF d=true)(hl:∀(j:Nat)(d:D),τ[j]?=-(.any d)->LF d=true)(hz:ds.length<sizeLine)
  (hN:X.N[i]?=some x:=by rfl) (hv:Vis X.env.scope x:=by first|show QI rfl|show QB (QI ())|show QB (QB ())) (hdb:(x==("__debug__":Str))=false:=by decide) (hcd:(x==("__classdict__":Str))=false:=by decide)
  (Kj:(ap.endLine==cp.line)=true:=by rfl) (hs:starEach [e] X.env=[(false,eval e X.env)]:=by rfl) :
  QO X H₀ τ (.Expr (.Call (.Attribute (.Name x p) "append" ap) [e] [] cp) pos) (.next false (τ.set i (.own (ds++[d])))):=by
 let pe:PE X (.Call (.Attribute (.Name x p) "append" ap) [e] [] cp) (tBM X.K "list" Qmq (Qb6 i) (Qm3 (rdD X.K (dat τ) d) Qw3)):=
  Qdo Yu PySem.F.slot_list_append PySem.F.type_list_append Qdz (Wv hN hv hdb hcd) (WK h.pe Zr hs) () (by rw[hs];rfl) Kj hs ()
 show⟨(Ul pe ()).imp λD g H q=>?_⟩;let⟨o,b,p,c,rfl,n,a,lf,f⟩:=q.1.sl i _ hi;show⟨_,b,.inl ⟨(),c,SqL.of a⟩,q.1.env,λv H' s k=>⟨p,c,v,(),(),s _ _ a,?_,?_⟩⟩
 ·rw[<-f.length];show hz
 ·show q.2 g _ (s.t.trans (TSame.lst (s _ _ a))) ((q.1.step s).mut hi b n (s _ _ a) hl ?_ ((f.same s).append (Vg k Jq)));rw[Zg,lf];simp[LFs,ld]
def Qt2(hi:τ[i]?=-(.own ds))(h:PDL X (dat τ) e es)(ld:LFs es=true)(hl:∀(j:Nat)(d:D),τ[j]?=-(.any d)->LF d=true)(hz:ds.length+es.length<=sizeLine)
  (hN:X.N[i]?=some x:=by rfl) (hv:Vis X.env.scope x:=by first|show QI rfl|show QB (QI ())|show QB (QB ())) (hdb:(x==("__debug__":Str))=false:=by decide) (hcd:(x==("__classdict__":Str))=false:=by decide)
  (Kj:(ap.endLine==cp.line)=true:=by rfl) (hs:starEach [e] X.env=[(false,eval e X.env)]:=by rfl) :
  QO X H₀ τ (.Expr (.Call (.Attribute (.Name x p) "extend" ap) [e] [] cp) pos) (.next false (τ.set i (.own (ds++es)))):=by
 let pe:PE X (.Call (.Attribute (.Name x p) "extend" ap) [e] [] cp) (tBM X.K "list" Qmp (Qb6 i) (Qm3 (rdL X.K (dat τ) es) Qw3)):=
  Qdo Yu PySem.F.slot_list_extend PySem.F.type_list_extend Qpa (Wv hN hv hdb hcd) (WK h.pe Zr hs) () (by rw[hs];rfl) Kj hs ()
 show⟨(Ul pe ()).imp λD l H q=>?_⟩;let⟨o,c,p,f,rfl,n,a,lf,g⟩:=q.1.sl i _ hi;show⟨_,c,.inl ⟨(),f,SqL.of a⟩,q.1.env,λb m H' nb s hb k=>⟨p,b,f,m,(),(),s _ _ a,hb,?_,?_⟩⟩
 ·rw[<-g.length,<-k.length];show hz
 ·show q.2 l _ (s.t.trans (TSame.lst (s _ _ a))) ((q.1.step s).mut hi c n (s _ _ a) hl ?_ ((g.same s).append k));rw[Zg,lf,ld];rfl
def Qdw(hl:LFs ((ds.filter p).map f)=true)(hN:X.N.Nodup)(hc:X.calm=true)(hi:PDI X (dat τ) (.Name x px) iter ds)(hz:ds.length<=sizeLine)
  (ht:∀d∈ds,∀cl C s H ex,PTB (cxC X x scope cl C s H ex) (-d::dat τ) ifs (p d)) (he:∀d∈ds,p d=true->∀cl C s H ex,PD (cxC X x scope cl C s H ex) (-d::dat τ) elt (f d))
  (hyi:X.N[i]?=some y:=by rfl) (hyl:X.env.scope.names.lookup y=some .local:=by rfl) (hok:ZV X.N X.env.scope x scope=true:=by rfl) (hs:∀x,foldedSetIterable iter X.env x=pure x:=by intro _;rfl)
  (hsw:swapsWith (.ListComp elt [⟨.Name x px,iter,ifs,0⟩] scope cp) (-(.Name y py)) pos.line X.env=pure true:=by rfl) :
  QO X H₀ τ (.Assign [.Name y py] (.ListComp elt [⟨.Name x px,iter,ifs,0⟩] scope cp) pos) (.next true (τ.set i (.own ((ds.filter p).map f)))):=
 ⟨(Qwp hN hyi hyl hc hi.pe (λcl C s H ex Kz b a H' Q I ⟨d,hd,q⟩=>(ht d hd cl C s H ex).pe Kz b a H' Q I q) (λcl C s H ex Kz b a H' Q I ⟨d,hd,c,q⟩=>(he d hd c cl C s H ex).pe Kz b a H' Q I q) hok hs hsw).imp λD a H q =>
  Qef hz ⟨q.1.env,λp g H' n s c e=>q.2 _ H' s (q.1.setOwn i n s c hl e)⟩⟩
def UU(hl:LFs (ds.map f)=true)(hN:X.N.Nodup)(hc:X.calm=true)(hi:PDI X (dat τ) (.Name x px) iter ds)(hz:ds.length<=sizeLine)
  (he:∀d∈ds,∀cl C s H ex,PD (cxC X x scope cl C s H ex) (-d::dat τ) elt (f d))
  (hyi:X.N[i]?=some y:=by rfl) (hyl:X.env.scope.names.lookup y=some .local:=by rfl) (hok:ZV X.N X.env.scope x scope=true:=by rfl) (hs:∀x,foldedSetIterable iter X.env x=pure x:=by intro _;rfl)
  (hsw:swapsWith (.ListComp elt [⟨.Name x px,iter,[],0⟩] scope cp) (-(.Name y py)) pos.line X.env=pure true:=by rfl) :
  QO X H₀ τ (.Assign [.Name y py] (.ListComp elt [⟨.Name x px,iter,[],0⟩] scope cp) pos) (.next true (τ.set i (.own (ds.map f)))):=by
 let:=Qdw (H₀:=H₀) (by rwa [OL]) hN hc hi hz (λd hd=>Qrr) (λd hd _=>he d hd) hyi hyl hok hs hsw;rwa [OL]at this
structure JSt(K:W.Frag)(H₀:Hp)(J:It)(St:Hp->Prop)(ds:List D)(slot:D->Sl):Prop where
 go:∀i H',St H'->i<ds.length->J.go i H'
 yld:∀i H' x H2,St H'->i<ds.length->J.yld i H' x H2->H2=H'/\∃d,ds[i]?=-d/\SlIs K H₀ H' (slot d) (-x)
 stop:∀i H',St H'->ds.length<=i->J.stop i H'
def Qbq{iter:Expr}{x:Str}{px:Pos}{body:List Stmt}{j:Nat}{wi:TI}{slot:D->Sl}(Kr:Nat->List Sl)(hno:∀d ds,slot d≠ .own ds)(hnoD:∀d ks ds,slot d≠ .odc ks ds)(hp:PassesOwn (model X.prog X.w) X.A X.env X.xe)(hc:X.calm=true)(hi:PI X (.Name x px) iter wi)
  (hr:∀σ H R,EnvO X.K H₀ H σ τ->(∀J H'(St:Hp->Prop),Same H H'->St H'->(∀H1 H2,St H1->Rl m H1 H2->Same H₀ H2->St H2)->JSt X.K H₀ J St ds slot->R J H')->wi σ H R)
  (h0:Kr 0=τ) (hb:∀(i:Nat)(d:D),ds[i]?=-d->∃n,QOs X H₀ ((Kr i).set j (slot d)) body (.next n (Kr (i+1)))/\(m=true->n=true))
  (hN:X.N.Nodup) (hj:X.N[j]?=some x:=by rfl) (hx:Loc X.env.scope x:=by first|show QI rfl|show QB ()) (hf:X.fn x=true\/X.env.scope.names.lookup x=some .local:=by first|show .inl rfl|show .inr ())
  (hs:∀x,foldedSetIterable iter X.env x=pure x:=by intro _;rfl) :
  QO X H₀ τ (.For (.Name x px) iter body [] pos) (.next m (Kr ds.length)):=by
 let f:PSs X body (λD σ H=>∃i d,ds[i]?=-d/\rdO X.K H₀ ((Kr i).set j (slot d)) (.next m (Kr (i+1))) D σ H):=λKz s σ H D I ⟨i,d,hd,q⟩=>by
  let⟨n,v,w⟩:=hb i d hd;show v.pe Kz s σ H D I ⟨q.1,λKu H' t=>q.2 Ku H' (t.weak w)⟩
 show⟨(YO hp hc hi (JR (i:=j) hN hj hx hf) f hs).imp λD σ H q=>?_⟩;show hr σ H _ q.1 λJ H1 St p g keep h=>?_
 show⟨λi k Ku H'=>i<=ds.length/\k=ds.length-i/\EnvO X.K H₀ H' Ku (Kr i)/\Rl m H H'/\St H',⟨ds.length,QJ _,(),by rw[h0];show q.1.step p,.of p,g⟩,?_⟩;rintro i k Ku H' ⟨z,rfl,r,u,st⟩
 by_cases Kt:i<ds.length
 ·show .inr ⟨h.go i H' st Kt,λa H2=>EnvO X.K H₀ H2 a (Kr (i+1))/\Rl m H' H2,λa H2 ⟨b,c⟩=>⟨ds.length-(i+1),"l",Kt,(),b,?_,keep H' H2 st c b.same⟩,λy H2 yl=>?_⟩
  ·let:=u.trans c;rwa [Ux]at this
  ·let⟨e,d,hd,is⟩:=h.yld i H' y H2 st Kt yl;subst e;show⟨i,d,hd,r.set j is (λKq e=>absurd e (hno d Kq)) (λl Kq e=>absurd e (hnoD d l Kq)),λσ3 H3 t3 o=>⟨o,t3⟩⟩
 ·let e:i=ds.length:="l"
  subst e;show .inl ⟨h.stop _ H' st (Q5 _),q.2 Ku H' u r⟩
def Jfn{iter:Expr}{x:Str}{px:Pos}{body:List Stmt}{j:Nat}(Kr:Nat->List Sl)(hp:PassesOwn (model X.prog X.w) X.A X.env X.xe)(hc:X.calm=true)(hi:PDI X (dat τ) (.Name x px) iter ds)
  (h0:Kr 0=τ) (hb:∀(i:Nat)(d:D),ds[i]?=-d->QOs X H₀ ((Kr i).set j (.any d)) body (.next true (Kr (i+1))))
  (hN:X.N.Nodup) (hj:X.N[j]?=some x:=by rfl) (hx:Loc X.env.scope x:=by first|show QI rfl|show QB ()) (hf:X.fn x=true\/X.env.scope.names.lookup x=some .local:=by first|show .inl rfl|show .inr ())
  (hs:∀x,foldedSetIterable iter X.env x=pure x:=by intro _;rfl) :
  QO X H₀ τ (.For (.Name x px) iter body [] pos) (.next true (Kr ds.length)):=
 Qbq (slot:=.any) Kr (λ_ _ e=>nomatch e) (λ_ _ _ e=>nomatch e) hp hc hi.pe (λg H R f h=>⟨f.env,λJ H' s c=>h J H' (λH2=>Same H' H2) s (Same.refl H') (λH1 H2 a b _=>Same.trans a b)
  ⟨λi H2 st hi=>c.go i H2 st hi,λi H2 v H3 st hi y=>let⟨e,d,hd,is⟩:=c.yld i H2 v H3 st hi y;⟨e,d,hd,v,(),is⟩,λi H2 st hi=>c.stop i H2 st hi⟩⟩) h0 (λi d hd=>⟨true,hb i d hd,λ_=>rfl⟩) hN hj hx hf hs
def Qt0{a:Expr}{x:Str}{px cp rp:Pos}{body:List Stmt}{j:Nat}{k:Int}(Kr:Nat->List Sl)(hp:PassesOwn (model X.prog X.w) X.A X.env X.xe)(hc:X.calm=true)(hm:X.mg "range"=none)(ha:PD X (dat τ) a (.int k))(h1: Neg.neg (2^62:Int)<=k)(h2:k<2^62)
  (h0:Kr 0=τ) (hb:∀(i:Nat),i<k.toNat->∃n,QOs X H₀ ((Kr i).set j (.any (.int i))) body (.next n (Kr (i+1)))/\(m=true->n=true))
  (hN:X.N.Nodup) (hj:X.N[j]?=some x:=by rfl) (hx:Loc X.env.scope x:=by first|show QI rfl|show QB ()) (hf:X.fn x=true\/X.env.scope.names.lookup x=some .local:=by first|show .inl rfl|show .inr ())
  (hg:Gl X "range":=by rfl) (hse:starEach [a] X.env=[(false,eval a X.env)]:=by rfl) (hs:∀x,foldedSetIterable (.Call (.Name "range" rp) [a] [] cp) X.env x=pure x:=by intro _;rfl) :
  QO X H₀ τ (.For (.Name x px) (.Call (.Name "range" rp) [a] [] cp) body [] pos) (.next m (Kr k.toNat)):=by
 let Ks:(Wu 0 k.toNat).length=k.toNat:=by simp[Wu]
 let:=Qbq (H₀:=H₀) (pos:=pos) (m:=m) (ds:=Wu 0 k.toNat) (slot:=.any) Kr (λ_ _ e=>nomatch e) (λ_ _ _ e=>nomatch e) hp hc (Qdn (tg:=.Name x px) (pos:=cp) (p:=rp) hg hm (Vc ha Vn hse).pe hse) (λf H R b h=>⟨b.env,λg H' s c=>by
   let⟨v,rfl,i⟩:=c.one;let e:=Y5 i;subst e;show⟨k,(),h1,h2,h _ H' (λ_=>True) s trivial (λ_ _ _ _ _=>trivial) ⟨λi H2 _ hi=>?_,λi H2 v H3 _ hi y=>?_,λi H2 _ hi=>?_⟩⟩
   ·show(GB (K:=X.K) (H:=H2) 0 k.toNat).go i H2 (Same.refl _) hi
   ·let⟨e,d,hd,is⟩:=(GB (K:=X.K) (H:=H2) 0 k.toNat).yld i H2 v H3 (Same.refl _) hi y;show⟨e,d,hd,v,(),is⟩
   ·show(GB (K:=X.K) (H:=H2) 0 k.toNat).stop i H2 (Same.refl _) hi⟩) h0 (λi d hd=>by
   let hi:i<k.toNat:=by
    rw[<-Ks];show(Q3.mp hd).1
   let e:d=.int i:=by
    simp[Wu,hi]at hd;rw[<-hd]
   subst e;show hb i hi) hN hj hx hf hs
 rwa [Ks]at this
def Qku(Kr:Nat->List Sl)(hp:PassesOwn (model X.prog X.w) X.A X.env X.xe)(hc:X.calm=true)(hi:PD X (dat τ) iter (.tup ds))(hl:LFs ds=true)
  (h0:Kr 0=τ) (hb:∀(i:Nat)(d:D),ds[i]?=-d->∃n,QOs X H₀ ((Kr i).set j (.any d)) body (.next n (Kr (i+1)))/\(m=true->n=true))
  (hN:X.N.Nodup) (hj:X.N[j]?=some x:=by rfl) (hx:Loc X.env.scope x:=by first|show QI rfl|show QB ()) (hf:X.fn x=true\/X.env.scope.names.lookup x=some .local:=by first|show .inl rfl|show .inr ())
  (hs:∀x,foldedSetIterable iter X.env x=pure x:=by intro _;rfl) :
  QO X H₀ τ (.For (.Name x px) iter body [] pos) (.next m (Kr ds.length)):=
 Qbq (slot:=.any) Kr (λ_ _ e=>nomatch e) (λ_ _ _ e=>nomatch e) hp hc (Qfp hi.pe) (λq H R l h=>⟨l.env,λv H' s o=>by
  let⟨p,k,rfl,c,f⟩:=JS o;let g:∀{H2:Hp},TSame H' H2->SqT X.K H2 p k:=λt=>by
   rcases c with c|c
   ·show .inl (t.tp _ _ c)
   ·show .inr c
  show⟨p,(),⟨k,c⟩,h _ H' (λH2=>TSame H' H2) s (TSame.refl H') (λH1 H2 a b _=>a.trans b.t) ⟨λi H2 t hi=>?_,λi H2 v H3 t hi y=>?_,λi H2 t hi=>?_⟩⟩
  ·show(Uq (g t) (f.tsame t hl)).go i H2 (Same.refl _) hi
  ·let⟨e,d,hd,is⟩:=(Uq (g t) (f.tsame t hl)).yld i H2 v H3 (Same.refl _) hi y;show⟨e,d,hd,v,(),is⟩
  ·show(Uq (g t) (f.tsame t hl)).stop i H2 (Same.refl _) hi⟩) h0 hb hN hj hx hf hs
def Qkv{j k:Nat}(Kr:Nat->List Sl)(hp:PassesOwn (model X.prog X.w) X.A X.env X.xe)(hc:X.calm=true)(hk:τ[k]?=-(.arg (.lst ds)))
  (h0:Kr 0=τ) (hb:∀(i:Nat)(d:D),ds[i]?=-d->∃n,QOs X H₀ ((Kr i).set j (.arg d)) body (.next n (Kr (i+1)))/\(m=true->n=true))
  (hN:X.N.Nodup) (hky:X.N[k]?=some y:=by rfl) (hv:Vis X.env.scope y:=by first|show QI rfl|show QB (QI ())|show QB (QB ())) (hdb:(y==("__debug__":Str))=false:=by decide) (hcd:(y==("__classdict__":Str))=false:=by decide)
  (hj:X.N[j]?=some x:=by rfl) (hx:Loc X.env.scope x:=by first|show QI rfl|show QB ()) (hf:X.fn x=true\/X.env.scope.names.lookup x=some .local:=by first|show .inl rfl|show .inr ())
  (hs:∀x,foldedSetIterable (.Name y py) X.env x=pure x:=by intro _;rfl) :
  QO X H₀ τ (.For (.Name x px) (.Name y py) body [] pos) (.next m (Kr ds.length)):=
 Qbq (slot:=.arg) Kr (λ_ _ e=>nomatch e) (λ_ _ _ e=>nomatch e) hp hc (Ye (Wv hky hv hdb hcd)) (λu H R g h=>by
  let⟨o,r,v,rfl,s⟩:=g.sl k _ hk;let⟨p,q,rfl,f,l⟩:=We s;show⟨_,r,p,(),⟨q,g.same.seq f⟩,h _ H (λH2=>Same H₀ H2) (Same.refl H) g.same (λH1 H2 a b c=>c) ⟨λi H2 t hi=>?_,λi H2 v H3 t hi y=>?_,λi H2 t hi=>?_⟩⟩
  ·show(WQ (t.seq f) (l.same t)).go i H2 (Same.refl _) hi
  ·let⟨e,y⟩:=y;let z:=y q (t.seq f);let⟨d,hd,is⟩:=l.at z;show⟨e,d,hd,v,(),is⟩
  ·show(WQ (t.seq f) (l.same t)).stop i H2 (Same.refl _) hi) h0 hb hN hj hx hf hs
def args(ds:List D)(n:Nat):List Sl:=ds.map .arg++List.replicate (n-ds.length) .no
def Qc6{K:W.Frag}(h:Va K H ds vs)(hl:ds.length<=N.length):EnvO K H H (start N vs) (args ds N.length):=by
 let e:=h.length;show⟨Same.refl H,?_,λi s hi=>?_,λi j Kq c p _ a=>?_,λi j d _ Kq c p _ a=>?_⟩
 ·simp[start,args];omega
 ·by_cases Kt:i<ds.length
  ·rw[args,QN "e",Qd]at hi;let hd:ds[i]?=-ds[i]:=by simp[Kt]
   let:s=.arg ds[i]:="e"
   subst this;let⟨v,a,f⟩:=h.get hd;show⟨-v,?_,v,(),f⟩;rw[start,QN (by simp;omega),Qd,a];rfl
  ·let b:s=.no:=by
    rw[args,J4 "e",Yw]at hi
    ext
   subst b;let g:=by
    let:=(Q3.mp hi).1;simp[args]at this;omega
   let:i<(start N vs).length:=by
    simp[start];omega
   show⟨(start N vs)[i],by simp[this],trivial⟩
 ·by_cases Kt:i<ds.length
  ·rw[args,QN "e",Qd]at a
   ext
  ·rw[args,J4 "e",Yw]at a
   ext
 ·by_cases Kt:i<ds.length
  ·rw[args,QN "e",Qd]at a
   ext
  ·rw[args,J4 "e",Yw]at a
   ext
end
section
variable {P:Program} {w:World} {K:W.Frag} {mg:Str->Option Value} {base:Heap}
def Jc9{st:Stmt}(F:Fun K x qual st f fd)(S:Vf N ps (Vs st))(hl:ps.length<=N.length)
  (hb:∀(Kn:Value)(A:Around)(outer:List Env)(s:Shared)(H:Hp)(E:XK)(ds:List D)(d:D),Room k (A.deeper (envOfC qual (Vs st) s.heap.objs.size f Kn))->R ds d->ds.length=ps.length ->
   QOs (ON CX0 P w K mg base N qual (Vs st) f Kn A outer s H E).nox H (args ds N.length) (W1 st) (.ret d)):FnOk P w K mg base CX0 (k+1) f fd ps (spD K ps.length R):=by
 show F.ok S (λb H Q E h=>h.1) (λKn A outer s H b Q E c h=>?_);let⟨e,ds,d,a,g,q⟩:=h;let hd:ds.length=ps.length:=by rw[a.length];show e
 show⟨_,(hb Kn A outer s H E ds d c g hd).pe,Qc6 a "l",λv H' j i=>q v H' j i⟩
def spL(K:W.Frag)(n:Nat)(R:List D->List D->Prop):Sp:=λvs H Q _=>vs.length=n/\∃ds es,Va K H ds vs/\R ds es/\∀p us H',H p=none->Same H H'->H' p=-(.lst us)->Va K H' es us->Q (.ref p) H'
def Jfk{st:Stmt}(F:Fun K x qual st f fd)(S:Vf N ps (Vs st))(hl:ps.length<=N.length)
  (hb:∀(Kn:Value)(A:Around)(outer:List Env)(s:Shared)(H:Hp)(E:XK)(ds es:List D),Room k (A.deeper (envOfC qual (Vs st) s.heap.objs.size f Kn))->R ds es->ds.length=ps.length ->
   QOs (ON CX0 P w K mg base N qual (Vs st) f Kn A outer s H E).nox H (args ds N.length) (W1 st) (.retL es)):FnOk P w K mg base CX0 (k+1) f fd ps (spL K ps.length R):=by
 show F.ok S (λb H Q E h=>h.1) (λKn A outer s H b Q E c h=>?_);let⟨d,ds,es,a,e,q⟩:=h;let hd:ds.length=ps.length:=by rw[a.length];show d
 show⟨_,(hb Kn A outer s H E ds es c e hd).pe,Qc6 a "l",λp g H' n j l i=>q p g H' n j l i⟩
end
section
variable {X:Cx} {ρ:List (Option D)} {e:Expr} {es:List Expr} {ds rs:List D} {pos:Pos}
def Qyb(F:FnOk X.prog X.w X.K X.mg X.base CX0 k f fd ps (spL X.K n R))(hr:Room k X.A)(hm:X.mg x=-(.ref f))(hk:W.keepIn X.K (.ref f)=true)
  (hb:Binds X.K fd ps []) (ha:PDs X ρ (e::es) ds) (hn:ds.length=n) (hR:R ds rs) (hg:Gl X x:=by rfl) (hdb:(x==("__debug__":Str))=false:=by decide)
  (he:starEach (e::es) X.env=(false,eval e X.env)::starEach es X.env:=by rfl) (hpl:(backTo pos (starEach es X.env)).any (·.1)=false:=by rfl):PDL X ρ (.Call (.Name x p) (e::es) [] pos) rs:=
 ⟨(Qn0 F hr hg hm hk hb .nil pass0 ha.pe hdb he hpl).imp λl H Q q=>⟨q.1,λc H1 a b=>by
  change spL X.K n R (c++[]) H1 Q _;rw[QW];show⟨by rw[<-b.length];show hn,ds,rs,b,hR,λp d H2 g h i j=>q.2 p d H2 (a.free g) (a.trans h) i j⟩⟩⟩
end
section
variable {X:Cx} {ρ:List (Option D)} {a b c e:Expr} {es:List Expr} {d da db dc:D} {ds xs ys:List D} {pos:Pos}
def Ja8:SlR X (λx lo hi H Q=>∃z,x=.str z/\z.length<=sizeLine/\Q (.str (Txt.slice z lo hi)) H):=by
 intro Kz s c H x v f g lo hi sl Q I m n pl d h;let⟨z,rfl,p,q⟩:=h;let⟨t,rfl⟩:=m;show⟨"str",_,F.slot_str_getitem.lookup,typeIs_str _ _ _,?_⟩;let⟨o,r,w,h3⟩:=n;let a:∀e k,EP X Kz c Q (.str (Txt.slice z lo hi) e) {s with toks:=k}:=λe k=>⟨.str (Txt.slice z lo hi),H,I.tok _,⟨_,()⟩,q⟩
 let go:∀(l u:Option (Int×Tok)),f=partValue l->g=partValue u->l.map (·.1)=lo->u.map (·.1)=hi->wpAny (model X.prog X.w) X.A (getItem (.str z t) (.ref sl)) (EP X Kz c Q) X.xe s:=by
  rintro l u rfl rfl rfl rfl;show wpAny_getItem_str_slice (st:=none) ⟨o,r,w,h3⟩ () (post_val_or_str ⟨Qx (Txt.slice_le z _ _) p,a⟩)
 cases pl with
 |none =>
  cases d with
  |none=>show go none none () () () rfl|int j b=>show go none (-(j,b)) () () () ()
 |int i ti =>
  cases d with
  |none=>show go (-(i,ti)) none () () () rfl|int j b=>show go (-(i,ti)) (-(j,b)) () () () ()
def O3{α:Type}(xs:List α)(lo hi:Option Int):List α:=(xs.drop (HT.sIx xs.length 0 lo)).take (HT.sIx xs.length xs.length hi-HT.sIx xs.length 0 lo)
def Qpm{K:W.Frag}(lo hi:Option Int)(h:Va K H ds vs):Va K H (O3 ds lo hi) (Quw vs lo hi):=by
 unfold O3 Quw;rw[<-h.length];show(h.drop _).take _
structure PDO(X:Cx)(ρ:List (Option D))(e:Option Expr)(o:Option Int):Prop where
 pe:PO X e (λσ H Q=>EnvIs X.K H σ ρ/\∀H',Same H H'->Q o H')
def PO.imp{e:Option Expr}{t t':TO}(h:PO X e t)(w:∀σ H Q,t' σ H Q->t σ H Q):PO X e t':=λKz s σ H Q I q=>h Kz s σ H Q I (w σ H Q q)
def Qno:PDO X ρ none none:=⟨Qws.imp λa H Q q=>q.2 H (Same.refl H)⟩
def GE(h:PD X ρ e (.int i)):PDO X ρ (-e) (-i):=⟨(Qwr h.pe).imp λc H Q q=>⟨q.1,λv H1 a b=>⟨i,Y5 b,q.2 H1 a⟩⟩⟩
def Qc8{lo hi:Option Expr}(ha:PD X ρ a (.lst ds))(hl:PDO X ρ lo ol)(hu:PDO X ρ hi oh):PDL X ρ (.Subscript a (.Slice lo hi none p2) pos) (O3 ds ol oh):=
 ⟨(Qhx Qwa ha.pe hl.pe hu.pe).imp λh H Q q=>⟨q.1,λv H1 c e=>⟨q.1.same c,λH2 b=>⟨(q.1.same c).same b,λH3 d=>by
  let⟨p,f,rfl,g,r⟩:=We e;let s:=(c.trans b).trans d;show⟨p,f,(),(b.trans d).seq g,λl hl=>q.2 l _ _ (s.free hl) (s.trans (Same.upd hl)) Vu (Qpm _ _ ((r.same (b.trans d)).same (Same.upd hl)))⟩⟩⟩⟩⟩
def Qx7:OpR X (binaryOp .Add) (λx y H Q=>∃l b xs zs,x=.ref l/\y=.ref b/\SqL X.K H l xs/\SqL X.K H b zs/\xs.length+zs.length<=sizeLine/\∀p,H p=none->Q (.ref p) (upd H p (.lst (xs++zs)))):=by
 intro Kz s σ H x y v u Q I w z h;let⟨l,b,xs,zs,rfl,rfl,hl,hb,hz,q⟩:=h;cases w;cases z;let⟨Kw,k,p1,_⟩:=I.list hl;let⟨a,m,p2,_⟩:=I.list hb;let⟨⟨cls,dd,o,sl⟩,r,hc,n,hd⟩:=id p1.isList;let⟨⟨t,d,data2,f⟩,c,g,n2,i⟩:=id p2.isList;subst hc hd g i;let Ks:=k.length;let j:=m.length;show concat_meets ⟨_,r,()⟩ ⟨_,c,()⟩ noFill_list_add seq_list_add PySem.F.slot_list_add PySem.F.entry_list_add (PySem.F.args_list_add_2 _ _) (list_addW l b Kw.toArray a.toArray n n2 dd d sl f "e") ⟨r,c,?_⟩;let e:Kw.toArray++a.toArray=(Kw++a).toArray:="s"
 rw[e];show⟨.ref _,_,I.lnew (k.append m) "e",(),q _ I.fresh⟩
def Qgk(ha:PD X ρ a (.lst xs))(hb:PD X ρ b (.lst ys))(hz:xs.length+ys.length<=sizeLine):PDL X ρ (.BinOp a .Add b pos) (xs++ys):=
 ⟨(Qz7 Qx7 ha.pe hb.pe).imp λm H Q q=>⟨q.1,λv H1 d g=>⟨q.1.same d,λu H2 e h=>by
  let⟨p,i,rfl,j,r⟩:=We (g.same e);let⟨k,Kk,rfl,c,f⟩:=We h;let s:=d.trans e;show⟨p,k,i,Kk,(),(),j,c,by rw[<-r.length,<-f.length];show hz,λl hl=>q.2 l _ _ (s.free hl) (s.trans (Same.upd hl)) Vu ((r.append f).same (Same.upd hl))⟩⟩⟩⟩
def Qut(ha:PD X ρ a (.str x))(hb:PD X ρ b (.str y))(hz:x.length+y.length<=sizeLine):PD X ρ (.BinOp a .Add b pos) (.str (x++y)):=
 Qyf Qkr ha hb λH u v Q hx hy q=>⟨x,y,W9 hx,W9 hy,hz,q _ H (Same.refl H) (ZL _)⟩
def Qjb:bootBuiltins "tuple"=-(.type "tuple"):="k"
def Qln:bootBuiltins "list"=-(.type "list"):="k"
def Qq9:bootBuiltins "int"=-(.type "int"):="k"
def W2{p:Pos}(hm:X.mg "tuple"=none)(ha:PD X ρ e d)(hd:d=.lst ds\/d=.tup ds)(hg:Gl X "tuple":=by rfl)(hs:starEach [e] X.env=[(false,eval e X.env)]:=by rfl):PD X ρ (.Call (.Name "tuple" p) [e] [] pos) (.tup ds):=
 Qnt Qd6 hm Qjb (Vc ha Vn hs) (λH f Q c q=>by
  let⟨v,rfl,i⟩:=c.one;rcases hd with rfl|rfl
  ·let⟨p,b,rfl,a,r⟩:=We i;show⟨p,b,(),.inl ⟨a,λl hl=>q _ _ (Same.upd hl) (Qbt (SqT.of Vu) (r.same (Same.upd hl)))⟩⟩
  ·let⟨p,b,rfl,a,r⟩:=JS i;show⟨p,b,(),.inr ⟨a,q _ H (Same.refl H) (Qbt a r)⟩⟩) hg "d" "d" hs ()
def Jcg(hm:X.mg "int"=none)(ha:PD X ρ e (.bl k))(hg:Gl X "int":=by rfl)(hs:starEach [e] X.env=[(false,eval e X.env)]:=by rfl):PD X ρ (.Call (.Name "int" p) [e] [] pos) (.int (if k then 1 else 0)):=
 Qnt Qq3 hm Qq9 (Vc ha Vn hs) (λH b Q a q=>by
  let⟨v,rfl,i⟩:=a.one;show .inr ⟨k,by rw[BQ i],q _ H (Same.refl H) (Y4 _)⟩) hg "d" "d" hs ()
theorem Bh:∀{ss:List Str}{us:List Value},Vals (ss.map V.str) us->StrsAre us ss
 |[],us,r=>by cases r;show .nil
 |s::ss,us,r=>by
  cases r with
  |cons a b =>
   let⟨t,e⟩:=a;subst e;show .cons s t (Bh b)
def Qxv:MtR X "str.join" (λx xs H Q=>∃z p ss,x=.str z/\xs=[.ref p]/\(SqL X.K H p (ss.map V.str)\/SqT X.K H p (ss.map V.str))/\(ss.map (·.length)).sum+ss.length*z.length<=16777216/\Q (.str (Txt.join z ss)) H):=by
 intro Kz s g H x xs v i Q I c d h;let⟨z,p,ss,rfl,rfl,a,b,q⟩:=h;let⟨t,rfl⟩:=c;let⟨u,rfl,e⟩:=vals1 d;cases e;rcases a with a|a
 ·let⟨Kw,r,pl,_⟩:=I.list a;show join_list pl.isList (by simpa using Bh r) b λf k=>⟨.str _,H,I.tok _,⟨_,()⟩,q⟩
 ·let⟨Kw,r,pl,_⟩:=I.tuple a;show join_tuple pl (by simpa using Bh r) b λf k=>⟨.str _,H,I.tok _,⟨_,()⟩,q⟩
def Jce(ho:PD X ρ o (.str z))(ha:PD X ρ e d)(hd:d=.lst (ss.map D.str)\/d=.tup (ss.map D.str))(hz:(ss.map (·.length)).sum+ss.length*z.length<=16777216)
  (hbase:attributeBase o "join" X.env (eval o X.env)=eval o X.env:=by rfl) (Kj:(ap.endLine==cp.line)=true:=by rfl) (hs:starEach [e] X.env=[(false,eval e X.env)]:=by rfl) :
  PD X ρ (.Call (.Attribute o "join" ap) [e] [] cp) (.str (Txt.join z ss)):=
 ZR (Qdo PySem.F.plainAttrs_str PySem.F.slot_str_join PySem.F.type_str_join Qxv ho.pe (Vc ha Vn hs).pe hbase (by rw[hs];rfl) Kj hs ()) λl H Q c q=>⟨c,λv H1 b g=>by
  let h:=W9 g;subst h;show⟨(),c.same b,λm H2 f j=>?_⟩;let⟨u,rfl,i⟩:=j.one;rcases hd with rfl|rfl
  ·let⟨p,k,rfl,a,r⟩:=We i;rw[Yp r]at a;show⟨z,p,ss,(),(),.inl a,hz,q _ H2 (b.trans f) (ZL _)⟩
  ·let⟨p,k,rfl,a,r⟩:=JS i;rw[Yp r]at a;show⟨z,p,ss,(),(),.inr a,hz,q _ H2 (b.trans f) (ZL _)⟩⟩
end
def Qmo:V->List V->Hp->VK->Prop:=λx vs H Q=>∃l xs i y,x=.ref l/\vs=[.int i,y]/\H l=-(.lst xs)/\0<=i/\i<=xs.length/\xs.length<sizeLine/\Q .non (upd H l (.lst (xs.take i.toNat++y::xs.drop i.toNat)))
def Qpo(Kw:List Value)(i:Int)(h0:0<=i)(h1:i<=Kw.length)(u:Value):
  (λxs:Array Value=>have k:=if i<0 then(i+((xs.size:Nat):Int)).toNat else min i.toNat xs.size;(xs.extract 0 k).push u++xs.extract k) Kw.toArray=(Kw.take i.toNat++u::Kw.drop i.toNat).toArray:=by
 let a:(if i<0 then(i+((Kw.toArray.size:Nat):Int)).toNat else min i.toNat Kw.toArray.size)=i.toNat:=by
  rw[Qc "l",Qy]
  lia
 change((Kw.toArray.extract 0 (if i<0 then(i+((Kw.toArray.size:Nat):Int)).toNat else min i.toNat Kw.toArray.size)).push u++Kw.toArray.extract (if i<0 then(i+((Kw.toArray.size:Nat):Int)).toNat else min i.toNat Kw.toArray.size))=_;rw[a];apply Array.ext';simp only[Jc,Wq,Array.toList_extract,List.extract_eq_take_drop,List.drop_zero,Qy];let e:List.take (Kw.length-i.toNat) (List.drop i.toNat Kw)=List.drop i.toNat Kw:=Jh (by rw[Qqf];lia);simp[e]
def Vals.insert(n:Nat)(r:Vals xs us)(q:RelV y u):Vals (xs.take n++y::xs.drop n) (us.take n++u::us.drop n):=(r.take n).append (.cons q (r.drop n))
section
variable {X:Cx}
def Qp9:MtM X "list.insert" Qmo:=by
 intro Kz s k H x m v o Q I d f h;let⟨l,p,i,y,rfl,rfl,b,g,w,hz,q⟩:=h;cases d;let⟨u,c,rfl,j,a⟩:=f.two;let⟨t,rfl⟩:=j;let⟨z,Kw,n,r,hl,e⟩:=I.lstM b;let hs:=QR;show call_meets F.slot_list_insert ⟨_,e,()⟩ F.entry_list_insert (F.args_list_insert_3 _ _ _)
  (AutoListH.list_insert_list_int_val_1 l Kw.toArray n i t c (by rw[fitsIndex_both "l" "l"];ext) "e") ⟨e,?_⟩
 show⟨.non,_,I.lset b e (Qpo Kw i g "l" c) (r.insert _ a) ?_,(),q⟩
 grind
variable {H₀:Hp} {τ:List Sl} {e e':Expr} {d:D} {ds:List D} {pos:Pos}
def Qsy{i:Nat}{x:Str}{p ap cp:Pos}{k:Int}(hi:τ[i]?=-(.own ds))(hk:PD X (dat τ) e (.int k))(h:PD X (dat τ) e' d)(ld:LF d=true)(hl:∀(j:Nat)(d:D),τ[j]?=-(.any d)->LF d=true)(k0:0<=k)(k1:k<=ds.length)(hz:ds.length<sizeLine)
  (hN:X.N[i]?=some x:=by rfl) (hv:Vis X.env.scope x:=by first|show QI rfl|show QB (QI ())|show QB (QB ())) (hdb:(x==("__debug__":Str))=false:=by decide) (hcd:(x==("__classdict__":Str))=false:=by decide)
  (Kj:(ap.endLine==cp.line)=true:=by rfl) (hs:starEach [e,e'] X.env=[(false,eval e X.env),(false,eval e' X.env)]:=by rfl) (hs2:starEach [e'] X.env=[(false,eval e' X.env)]:=by rfl) :
  QO X H₀ τ (.Expr (.Call (.Attribute (.Name x p) "insert" ap) [e,e'] [] cp) pos) (.next false (τ.set i (.own (ds.take k.toNat++d::ds.drop k.toNat)))):=by
 let pe:PE X (.Call (.Attribute (.Name x p) "insert" ap) [e,e'] [] cp) (tBM X.K "list" Qmo (Qb6 i) (Jdh X.K (dat τ) [.int k,d])):=
  Qdo Yu PySem.F.slot_list_insert PySem.F.type_list_insert Qp9 (Wv hN hv hdb hcd) (Vc hk (Vc h Vn hs2) (by rw[hs,hs2])).pe () (by rw[hs];rfl) Kj (by rw[hs,hs2]) (by rw[hs2];rfl)
 show⟨(Ul pe ()).imp λD g H q=>?_⟩;let⟨o,c,p,f,rfl,n,a,lf,b⟩:=q.1.sl i _ hi;let Ks:=b.length;show⟨_,c,.inl ⟨(),f,SqL.of a⟩,q.1.env,λw H' s l=>?_⟩;let⟨v,m,rfl,r,t⟩:=l.two;let u:=Y5 r;subst u;show⟨p,f,k,m,(),(),s _ _ a,k0,"l","l",?_⟩;show q.2 g _ (s.t.trans (TSame.lst (s _ _ a))) ((q.1.step s).mut hi c n (s _ _ a) hl ?_ (((b.same s).take _).append (Vg t ((b.same s).drop _))));rw[WL]at lf ⊢;intro z hz;rcases Qt.mp hz with hz|hz
 ·show lf z (Ji hz)
 ·rcases Qe.mp hz with rfl|hz
  ·show ld
  ·show lf z (JE hz)
end
end L2
namespace RH
open PySem L2
abbrev signs(x:Str):List Nat:=x.cps.toList
abbrev SMALL:Str:= "abcdefghijklmnopqrstuvwxyz"
abbrev CAPS:Str:= "ABCDEFGHIJKLMNOPQRSTUVWXYZ"
abbrev FIGS:Str:= "0123456789"
abbrev KEPT:List Str:=["rule", "fact", "if", "and", "not"]
def WZ(x:Str):Bool:=(decide (1<=(x.length:Int))&&decide ((x.length:Int)<=8))&&((signs x).all (λc=>decide (c∈signs SMALL)) && !decide (x∈KEPT))
def Qg9(x:Str):Bool:=(decide (1<=(x.length:Int))&&decide ((x.length:Int)<=2))&&(((signs x).take 1).all (λc=>decide (c∈signs CAPS))&&((signs x).drop 1).all (λc=>decide (c∈signs FIGS)))
def cell(ns:List Int)(k:Nat):Int:=ns.getD k 0
def mix(c p m:Int):Int:=c*48271 % p % m
def Ww(c p:Int)(h:0<m):0<=mix c p m:=Int.emod_nonneg _ "l"
def Zt(c p:Int)(h:0<m):mix c p m<m:=Int.emod_lt_of_pos _ h
def sg(x:Str)(i:Nat):Str:=⟨#[(signs x).getD i 97]⟩
def B6(l:List Str):Str:=⟨(l.flatMap signs).toArray⟩
def word(c:Int)(k:Nat)(firsts:Str):Str:=
 let tail:=B6 ((List.range (mix (c+k) 9929 8).toNat).map λ(j:Nat)=>sg SMALL (mix (c+7*j*j+k) 9931 26).toNat)
 let Kx:=sg firsts k++tail
 if Kx∈(["and", "fact", "if", "rule", "not"]:List Str)then sg firsts k++ "zz" else Kx
def kinds(ns:List Int):List Str:=(List.range 6).map λk=>word (cell ns 0) k "pqrstu"
def YE(ns:List Int):Nat:=if mix (cell ns 3) 9479 7=3 then 4 else 3
def words(ns:List Int):List Str:=(List.range (YE ns)).map λk=>word (cell ns 1) k "abcdef"
def size(ns:List Int)(k:Nat):Nat:=[2,1,2,1,0,2].getD k 0+(if mix (cell ns 1+k) 9923 7=0 then 1 else 0)
def pick(c:Int)(l:List Str):Str:=l.getD (mix c 9907 l.length).toNat ""
structure At where
 k:Str
 ts:List Str
structure Li where
 y:Bool
 a:At
structure Ru where
 h:At
 b:List Li
def At.d(a:At):D:=.tup [.str a.k,.tup (a.ts.map .str)]
def Li.d(l:Li):D:=.tup [.str (if l.y then "yes" else "no"),l.a.d]
def Ru.d(r:Ru):D:=.tup [r.h.d,.tup (r.b.map Li.d)]
def kd(ns:List Int)(k:Nat):Str:=(kinds ns).getD k ""
def Zc(c:Int)(head:Nat)(free:Bool)(k:Nat):Nat:=
 let a:=if free then(mix (c+31*k) 9887 6).toNat else(mix (c+31*k) 9887 (head+1)).toNat
 if k=0/\a=head/\mix c 9883 2=0 then 0 else a
def Y7(ns:List Int)(c:Int)(head:Nat)(free:Bool)(k:Nat):At:=
 let q:=Zc c head free k
 ⟨kd ns q,(List.range (size ns q)).map λ(j:Nat)=>pick (c+13*k+5*j) ["X", "Y", "Z", "X", "Y",(words ns).getD 0 "",(words ns).getD 1 ""]⟩
def body(ns:List Int)(c:Int)(head:Nat)(free:Bool):List At:=(List.range (mix c 9901 4).toNat).map λk=>Y7 ns c head free k
def Yy(acc:List Str)(t:Str):List Str:=if t∈(["X", "Y", "Z"]:List Str)/\t∉acc then acc++[t]else acc
def bound(as:List At):List Str:=as.foldl (λacc a=>a.ts.foldl Yy acc) []
def QQ(c:Int):Nat:=(mix c 9871 6).toNat
def Jj(ns:List Int)(c:Int)(free:Bool):List Str:=bound (body ns c (QQ c) free)++[(words ns).getD 0 "",(words ns).getLastD ""]
def BR(ns:List Int)(c:Int)(free:Bool):Bool:= !free&&decide (0<QQ c)&&decide ((body ns c (QQ c) free).length<4)&&decide (mix c 9859 3=0)
def Y3(c:Int):Nat:=(mix c 9857 (QQ c)).toNat
def Qd2(ns:List Int)(c:Int)(free:Bool):At:=⟨kd ns (Y3 c),(List.range (size ns (Y3 c))).map λ(j:Nat)=>pick (c+3+j) (Jj ns c free)⟩
def Wm(ns:List Int)(c:Int)(free:Bool):List Li:=
 let b:=(body ns c (QQ c) free).map λa=>Li.mk true a
 if BR ns c free then b.insertIdx (mix c 9851 (b.length+1)).toNat ⟨false,Qd2 ns c free⟩else b
def rule(ns:List Int)(c:Int)(free:Bool):Ru:=⟨⟨kd ns (QQ c),(List.range (size ns (QQ c))).map λ(j:Nat)=>pick (c+17*j) (Jj ns c free)⟩,Wm ns c free⟩
def WW(c:Int):Nat:=(mix c 9839 6).toNat
def fact(ns:List Int)(c:Int):At:=⟨kd ns (WW c),(List.range (size ns (WW c))).map λ(j:Nat)=>pick (c+11*j) (words ns)⟩
def Zo(x y:Str):signs (x++y)=signs x++signs y:=by
 change(Str.append x y).cps.toList=_;simp[Str.append,signs]
def U9(x:Str):x.length=(signs x).length:=by
 simp[Str.length,signs]
def UN(x:Str)(i:Nat):signs (sg x i)=[(signs x).getD i 97]:=()
def UO(l:List Str):signs (B6 l)=l.flatMap signs:=by simp[signs,B6]
def Jda:signs "zz"=[122,122]:="k"
def Qu6{l:List Nat}:l.getD i a∈l\/l.getD i a=a:=by
 by_cases h:i<l.length
 ·simp[h]
 ·simp[Nat.le_of_not_lt h]
def Qyn:(97:Nat)∈signs SMALL:="k"
def Qbb(h:∀c∈signs x,c∈signs SMALL)(i:Nat):∀c∈signs (sg x i),c∈signs SMALL:=by
 intro c b;rw[UN]at b;let e:c=(signs x).getD i 97:=by simpa using b
 subst e;rcases Qu6 with a|a
 ·show h _ a
 ·rw[a];show Qyn
def firsts2:∀c∈signs "abcdef",c∈signs SMALL:="k"
def Ql0:∀x∈KEPT,∀f:Nat,signs x≠[f,122,122]:=by
 intro x hx f h;simp only[KEPT,Qe,Qaa,Zk]at hx;let a:(signs x).length=3:=by rw[h];rfl
 let g1:(signs x).getD 1 0=122:=by rw[h];rfl
 rcases hx with rfl|rfl|rfl|rfl|rfl
 ·show absurd a "k"
 ·show absurd a "k"
 ·show absurd a "k"
 ·show absurd g1 "k"
 ·show absurd g1 "k"
def Qby(h1:1<=(signs x).length)(h2:(signs x).length<=8)(h3:∀c∈signs x,c∈signs SMALL)(h4:x∉KEPT):WZ x=true:=by
 unfold WZ;rw[U9];simp only[Qv,Wo,Wd,Qob,decide_eq_false_iff_not];show⟨⟨"l","l"⟩,h3,h4⟩
def Qvz(c:Int)(k:Nat)(hf:∀c∈signs firsts,c∈signs SMALL):WZ (word c k firsts)=true:=by
 unfold word;simp only;split
 ·let e:signs (sg firsts k++("zz":Str))=[(signs firsts).getD k 97,122,122]:=by rfl
  show Qby (by rw[e];simp) (by rw[e];simp) ?_ (λh=>Ql0 _ h _ e);intro z b;rw[Zo,Qt]at b;rcases b with b|b
  ·show Qbb hf k z b
  ·revert z;decide +kernel
 ·rename_i d;let Ks:(signs (B6 ((List.range (mix (c+k) 9929 8).toNat).map λ(j:Nat)=>sg SMALL (mix (c+7*j*j+k) 9931 26).toNat))).length<=7:=by
   rw[UO,List.flatMap_map];let:∀l:List Nat,(l.flatMap λ(j:Nat)=>signs (sg SMALL (mix (c+7*j*j+k) 9931 26).toNat)).length=l.length:=by
    intro l
    induction l with
    |nil=>rfl|cons a r f=>rw[Qo9,QG,f,UN];simp;lia
   rw[this,Wp];let g:=Zt (c+k) 9929 (m:=8) "l"
   lia
  show Qby (by rw[Zo,QG,UN];simp) (by rw[Zo,QG,UN];simp only[WM];lia) ?_ (λh=>d ?_)
  ·intro z b;rw[Zo,Qt]at b;rcases b with b|b
   ·show Qbb hf k z b
   ·rw[UO,Ud]at b;let⟨y,hy,b⟩:=b;let⟨j,_,rfl⟩:=Q4.mp hy;show Qbb (λ_ h=>h) _ z b
  ·simp only[KEPT,Qe,Qaa,Zk]at h ⊢;rcases h with h|h|h|h|h<;>simp[h]
def Qpg(ns:List Int):(kinds ns).length=6:=by simp[kinds]
def UI(ns:List Int):∀x∈words ns,WZ x=true:=by
 intro x hx;let⟨k,_,rfl⟩:=Q4.mp hx;show Qvz _ _ firsts2
def ZJ(ns:List Int):(words ns).length=3\/(words ns).length=4:=by
 simp only[words,Qb,Wp,YE];split
 ·show .inr ()
 ·show .inl ()
def OH{l:List Str}(h:i<l.length):l.getD i a∈l:=by
 simp[h]
def Yz(ns:List Int)(k:Nat):size ns k<=3:=by
 unfold size;let:[2,1,2,1,0,2].getD k 0<=2:=by
  match k with
  |0|1|2|3|4|5=>decide|k+6=>simp
 split<;>lia
def U5(c:Int)(h:l≠[]):pick c l∈l:=by
 let hl:=Qgw.mpr h;let a:=Zt c 9907 (m:=l.length) "l";show OH "l"
def Qe6(c:Int):QQ c<6:=by
 unfold QQ;let:=Zt c 9871 (m:=6) "l"
 lia
def Qin(c:Int):WW c<6:=by
 unfold WW;let:=Zt c 9839 (m:=6) "l"
 lia
def Qjc(c:Int)(h:head<6)(free:Bool)(k:Nat):Zc c head free k<6:=by
 unfold Zc;let b:=Zt (c+31*k) 9887 (m:=6) "l";let a:=Zt (c+31*k) 9887 (m:=(head+1:Nat)) "l";let e:((head+1:Nat):Int)=(head:Int)+1:="l"
 rw[e]at a;cases free
 ·simp only[QE,JU];split<;>lia
 ·simp only[Z0];split<;>lia
abbrev XYZ:List Str:=["X", "Y", "Z"]
def Qlw:∀x∈XYZ,Qg9 x=true:="k"
def Bz(h:WZ x=true):Qg9 x=false:=by
 cases b:Qg9 x with
 |false=>rfl|true =>
  exfalso;unfold WZ at h;unfold Qg9 at b;simp only[Qv,Wo,Wd]at h b;let⟨⟨d,_⟩,h3,_⟩:=h;let⟨_,f,_⟩:=b;rw[U9]at d;cases e:signs x with
  |nil=>rw[e]at d;simp at d|cons c r =>
   let g:=h3 c (by rw[e];show Q8);let i:=f c (by rw[e];simp);let a:∀c∈signs SMALL,c∉signs CAPS:="k"
   show a c g i
def tm(x:Str):Prop:=x∈XYZ\/WZ x=true
def Qyw(ns:List Int):WZ ((words ns).getD 0 "")=true:=UI ns _ (OH (by rcases ZJ ns with h|h<;>lia))
def Jcw(ns:List Int):WZ ((words ns).getD 1 "")=true:=UI ns _ (OH (by rcases ZJ ns with h|h<;>lia))
def Jcv(ns:List Int):WZ ((words ns).getLastD "")=true:=by
 show UI ns _ ?_;let Ko:words ns≠[]:=λh=>by rcases ZJ ns with z|z<;>simp[h]at z
 rw[List.getLastD_eq_getLast?,List.getLast?_eq_some_getLast Ko];show List.getLast_mem Ko
def Qqa(ns:List Int)(c:Int)(head:Nat)(free:Bool)(k:Nat):∀t∈(Y7 ns c head free k).ts,tm t:=by
 intro t a;let⟨j,_,rfl⟩:=Q4.mp a;let:=U5 (c+13*k+5*j) (l:=["X", "Y", "Z", "X", "Y",(words ns).getD 0 "",(words ns).getD 1 ""]) "s";simp only[Qe,Qaa,Zk]at this;rcases this with h|h|h|h|h|h|h
 ·show .inl (by rw[h];decide +kernel)
 ·show .inl (by rw[h];decide +kernel)
 ·show .inl (by rw[h];decide +kernel)
 ·show .inl (by rw[h];decide +kernel)
 ·show .inl (by rw[h];decide +kernel)
 ·show .inr (by rw[h];show Qyw ns)
 ·show .inr (by rw[h];show Jcw ns)
def Qck(ns:List Int)(c:Int)(head:Nat)(free:Bool)(k:Nat):(Y7 ns c head free k).ts.length<=3:=by
 simp only[Y7,Qb,Wp];show Yz _ _
def Qcj(ns:List Int)(c:Int)(head:Nat)(free:Bool):(body ns c head free).length<=3:=by
 simp only[body,Qb,Wp];let:=Zt c 9901 (m:=4) "l"
 lia
def Qvf:x∈Yy acc t↔x∈acc\/(x=t/\t∈XYZ):=by
 unfold Yy;split
 ·rename_i h;simp only[Qt,Qu];constructor
  ·rintro(a|a)
   ·show .inl a
   ·show .inr ⟨a,h.1⟩
  ·rintro(a|a)
   ·show .inl a
   ·show .inr a.1
 ·rename_i h;constructor
  ·show .inl
  ·rintro(a|⟨rfl,b⟩)
   ·show a
   ·show Y2 λz=>h ⟨b,z⟩
theorem Qea:∀{ts:List Str}{acc:List Str},x∈ts.foldl Yy acc↔x∈acc\/(x∈ts/\x∈XYZ)
 |[],acc=>by simp|t::ts,acc=>by
  rw[J3,Qea,Qvf];simp only[Qe];constructor
  ·rintro((h|⟨rfl,h⟩)|⟨b,a⟩)
   ·show .inl h
   ·show .inr ⟨.inl (),h⟩
   ·show .inr ⟨.inr b,a⟩
  ·rintro(h|⟨rfl|b,a⟩)
   ·show .inl (.inl h)
   ·show .inl (.inr ⟨(),a⟩)
   ·show .inr ⟨b,a⟩
theorem Qj9:∀{as:List At}{acc:List Str},x∈as.foldl (λacc a=>a.ts.foldl Yy acc) acc↔x∈acc\/(x∈XYZ/\∃a∈as,x∈a.ts)
 |[],acc=>by simp|a::as,acc=>by
  rw[J3,Qj9,Qea];simp only[Qe,exists_eq_or_imp];constructor
  ·rintro((h|⟨c,b⟩)|⟨c,b⟩)
   ·show .inl h
   ·show .inr ⟨b,.inl c⟩
   ·show .inr ⟨c,.inr b⟩
  ·rintro(h|⟨c,b|b⟩)
   ·show .inl (.inl h)
   ·show .inl (.inr ⟨b,c⟩)
   ·show .inr ⟨c,b⟩
def Qq4:x∈bound as↔x∈XYZ/\∃a∈as,x∈a.ts:=by
 unfold bound;rw[Qj9]
 simp
def B0(h:t∈Jj ns c free):WZ t=true\/(t∈XYZ/\∃a∈body ns c (QQ c) free,t∈a.ts):=by
 unfold Jj at h;rw[Qt]at h;rcases h with h|h
 ·show .inr (Qq4.mp h)
 ·simp only[Qe,Qaa,Zk]at h;rcases h with h|h
  ·show .inl (by rw[h];show Qyw ns)
  ·show .inl (by rw[h];show Jcv ns)
def Zq(ns:List Int)(c:Int)(free:Bool):Jj ns c free≠[]:=by
 unfold Jj
 simp
def OT(h:t∈Jj ns c free):tm t:=by
 rcases B0 h with h|h
 ·show .inr h
 ·show .inl h.1
def Qp6(c:Int)(h:0<QQ c):Y3 c<6:=by
 unfold Y3;let a:=Zt c 9857 (m:=QQ c) "l";let b:=Qe6 c
 lia
def BH{ns:List Int}{c:Int}{free:Bool}{l:Li}(h:l∈Wm ns c free):
  (∃a∈body ns c (QQ c) free,l=⟨true,a⟩)\/(BR ns c free=true/\l=⟨false,Qd2 ns c free⟩):=by
 unfold Wm at h;simp only at h;split at h
 ·rename_i e;let d:l=⟨false,Qd2 ns c free⟩\/l∈(body ns c (QQ c) free).map λa=>Li.mk true a:=by
   generalize((body ns c (QQ c) free).map λa=>Li.mk true a)=b at h ⊢
   by_cases hi:(mix c 9851 (b.length+1)).toNat<=b.length
   ·show(List.mem_insertIdx hi).mp h
   ·rw[Qyo "l"]at h;show .inr h
  rcases d with d|d
  ·show .inr ⟨e,d⟩
  ·let⟨a,ha,rfl⟩:=Q4.mp d;show .inl ⟨a,ha,()⟩
 ·let⟨a,ha,rfl⟩:=Q4.mp h;show .inl ⟨a,ha,()⟩
def Qfl(h:a∈body ns c (QQ c) free):(⟨true,a⟩:Li)∈Wm ns c free:=by
 unfold Wm;let d:(⟨true,a⟩:Li)∈(body ns c (QQ c) free).map λa=>Li.mk true a:=Q4.mpr ⟨a,h,()⟩
 split
 ·generalize((body ns c (QQ c) free).map λa=>Li.mk true a)=b at d ⊢
  by_cases hi:(mix c 9851 (b.length+1)).toNat<=b.length
  ·show(List.mem_insertIdx hi).mpr (.inr d)
  ·rw[Qyo "l"];show d
 ·show d
def Qfm(ns:List Int)(c:Int)(free:Bool):(Wm ns c free).length<=4:=by
 let h:=Qcj ns c (QQ c) free;unfold Wm
 grind
def Ql7(h:BR ns c free=true):0<QQ c:=by
 unfold BR at h
 ext
end RH
namespace L2
open PySem PySem.Spec PyProof.Rows
def Fd(K:W.Frag)(mg:Str->Option Value)(x:Str)(st:Stmt)(ps:List Str):Prop:=
 ∃f fd,mg x=-(.ref f)/\Fun K x x st f fd/\Binds K fd ps []
def Pr(P:Program)(w:World)(K:W.Frag)(mg:Str->Option Value)(base:Heap)(x:Str)(k:Nat)(ps:List Str)(sp:Sp):Prop:=
 ∃f fd,mg x=-(.ref f)/\W.keepIn K (.ref f)=true/\Binds K fd ps []/\FnOk P w K mg base CX0 k f fd ps sp
section
variable {P:Program} {w:World} {K:W.Frag} {mg:Str->Option Value} {base:Heap}
def UF{st:Stmt}(F:Fd K mg x st ps)(S:Vf N ps (Vs st))(hl:ps.length<=N.length)
  (hb:∀(f:Addr)(Kn:Value)(A:Around)(outer:List Env)(s:Shared)(H:Hp)(E:XK)(ds:List D)(d:D),Room k (A.deeper (envOfC x (Vs st) s.heap.objs.size f Kn))->R ds d->ds.length=ps.length ->
   QOs (ON CX0 P w K mg base N x (Vs st) f Kn A outer s H E).nox H (args ds N.length) (W1 st) (.ret d)):Pr P w K mg base x (k+1) ps (spD K ps.length R):=by
 let⟨f,c,e,b,a⟩:=F;show⟨f,c,e,b.kp,a,Jc9 b S hl (hb f)⟩
def Qbj{st:Stmt}(F:Fd K mg x st ps)(S:Vf N ps (Vs st))(hl:ps.length<=N.length)
  (hb:∀(f:Addr)(Kn:Value)(A:Around)(outer:List Env)(s:Shared)(H:Hp)(E:XK)(ds es:List D),Room k (A.deeper (envOfC x (Vs st) s.heap.objs.size f Kn))->R ds es->ds.length=ps.length ->
   QOs (ON CX0 P w K mg base N x (Vs st) f Kn A outer s H E).nox H (args ds N.length) (W1 st) (.retL es)):Pr P w K mg base x (k+1) ps (spL K ps.length R):=by
 let⟨f,c,d,b,a⟩:=F;show⟨f,c,d,b.kp,a,Jfk b S hl (hb f)⟩
end
section
variable {X:Cx} {ρ:List (Option D)} {e:Expr} {es:List Expr} {d:D} {ds rs:List D} {pos:Pos}
def Z8(F:Pr X.prog X.w X.K X.mg X.base x k ps (spD X.K n R))(hr:Room k X.A)(ha:PDs X ρ (e::es) ds)(hR:R ds d)(hn:ds.length=n:=by rfl)(hg:Gl X x:=by rfl)(hdb:(x==("__debug__":Str))=false:=by decide)
  (he:starEach (e::es) X.env=(false,eval e X.env)::starEach es X.env:=by rfl) (hpl:(backTo pos (starEach es X.env)).any (·.1)=false:=by rfl):PD X ρ (.Call (.Name x p) (e::es) [] pos) d:=by
 let⟨f,c,a,b,hb,F⟩:=F;show Jcl F hr a b hb ha hn hR hg hdb he hpl
def Zv(F:Pr X.prog X.w X.K X.mg X.base x k ps (spL X.K n R))(hr:Room k X.A)(ha:PDs X ρ (e::es) ds)(hR:R ds rs)(hn:ds.length=n:=by rfl)(hg:Gl X x:=by rfl)(hdb:(x==("__debug__":Str))=false:=by decide)
  (he:starEach (e::es) X.env=(false,eval e X.env)::starEach es X.env:=by rfl) (hpl:(backTo pos (starEach es X.env)).any (·.1)=false:=by rfl):PDL X ρ (.Call (.Name x p) (e::es) [] pos) rs:=by
 let⟨f,c,a,b,hb,F⟩:=F;show Qyb F hr a b hb ha hn hR hg hdb he hpl
end
def Qpf(a c:String):Option Bool:=if(Value.type a==Value.type c)=true then -true else if W.kitMeta c=true then(fastBuiltinMro a).map (·.contains (Value.type c))else none
def Jew(K:W.Frag)(a c:String):W.kitOne K (.type a) (.type c)=Qpf a c:=()
def Jc7:D->Bool|.tup _=>true|_=>false
def Qy2(K:W.Frag)(d:D):W.kitOne K (.type (tyD d)) (.type "tuple")=-(Jc7 d):=by
 let c:Qpf "bool" "tuple"=some false:=by rfl
 let hint:Qpf "int" "tuple"=some false:=by rfl
 let e:Qpf "str" "tuple"=some false:=by rfl
 let a:Qpf "list" "tuple"=some false:=by rfl
 let b:Qpf "dict" "tuple"=some false:=by rfl
 cases d
 ·rfl
 ·show c
 ·show hint
 ·show e
 ·rfl
 ·show a
 ·show b
 ·rename_i t _ _;cases t
  ·show b
  ·show a
  ·show a
section
variable {X:Cx} {ρ:List (Option D)} {ds:List D} {pos:Pos}
def Jfl{rest:List Expr}(ha:PD X ρ a (.bl k))(hb:k=true->PD X ρ (.BoolOp .And (b::rest) pos) (.bl k2)):PD X ρ (.BoolOp .And (a::b::rest) pos) (.bl (k&&k2)):=by
 cases k with
 |true=>show Quu ha hb (λh=>nomatch h)|false=>show Quu ha (λh=>nomatch h) (λ_=>rfl)
def Bq{rest:List Expr}(ha:PB X ρ a k)(hb:k=true->PWB X ρ (.BoolOp .And (b::rest) pos) k2):PWB X ρ (.BoolOp .And (a::b::rest) pos) (k&&k2):=by
 cases k with
 |true=>show Qzk ha hb (λh=>nomatch h)|false=>show Qzk ha (λh=>nomatch h) (λ_=>rfl)
def Jeq{rest:List Expr}(ha:PB X ρ a k)(hb:k=false->PWB X ρ (.BoolOp .Or (b::rest) pos) k2):PWB X ρ (.BoolOp .Or (a::b::rest) pos) (k || k2):=by
 cases k with
 |false=>show Qyj ha hb (λh=>nomatch h)|true=>show Qyj ha (λh=>nomatch h) (λ_=>rfl)
end
def AL:List Sl->Prop
 |[]=>True|.any d::r=>LF d=true/\AL r|_::r=>AL r
theorem AL.h:∀{τ:List Sl},AL τ->∀(j:Nat)(d:D),τ[j]?=-(.any d)->LF d=true
 |.any d::r,h,0,e,c=>by
  let:d=e:=by simpa using c
  subst this;show h.1
 |.no::r,h,0,e,c=>by simp at c|.arg d::r,h,0,e,c=>by simp at c|.own d::r,h,0,e,c=>by simp at c|.odc k d::r,h,0,e,c=>by simp at c|.ftp d::r,h,0,e,c=>by simp at c|.flt d::r,h,0,e,c=>by simp at c|.odx a b d::r,h,0,e,c=>by simp at c|.any d::r,h,j+1,e,c=>AL.h (τ:=r) h.2 j e (by simpa using c)|.no::r,h,j+1,e,c=>AL.h (τ:=r) h j e (by simpa using c)|.arg d::r,h,j+1,e,c=>AL.h (τ:=r) h j e (by simpa using c)|.own d::r,h,j+1,e,c=>AL.h (τ:=r) h j e (by simpa using c)|.odc k d::r,h,j+1,e,c=>AL.h (τ:=r) h j e (by simpa using c)|.ftp d::r,h,j+1,e,c=>AL.h (τ:=r) h j e (by simpa using c)|.flt d::r,h,j+1,e,c=>AL.h (τ:=r) h j e (by simpa using c)|.odx a b d::r,h,j+1,e,c=>AL.h (τ:=r) h j e (by simpa using c)
inductive WkI:List Sl->List Sl->Prop where
 |nil:WkI [] []|keep {s:Sl} {τ τ':List Sl}:WkI τ τ'->WkI (s::τ) (s::τ')|no {s:Sl} {τ τ':List Sl}:WkI τ τ'->WkI (s::τ) (.no::τ')|any {d:D} {τ τ':List Sl}:WkI τ τ'->WkI (.arg d::τ) (.any d::τ')
def WkI.wk{τ τ':List Sl}(h:WkI τ τ'):Wk τ τ':=by
 induction h with
 |nil=>show .refl _|keep _ a =>
  show⟨by simp[a.1],λi s e=>?_⟩;cases i with
  |zero=>show .inr (.inl e)|succ i=>show a.2 i s (by simpa using e)
 |no _ a =>
  show⟨by simp[a.1],λi s e=>?_⟩;cases i with
  |zero=>show .inl (by simpa using e.symm)|succ i=>show a.2 i s (by simpa using e)
 | @any d _ _ _ a =>
  show⟨by simp[a.1],λi s e=>?_⟩;cases i with
  |zero =>
   let:s=.any d:=by simpa using e.symm
   show .inr (.inr ⟨d,this,()⟩)
  |succ i=>show a.2 i s (by simpa using e)
def O5{α:Type}{l:List α}{i:Int}(d:α)(h0:0<=i)(h1:i<l.length):atI l i=-(l.getD i.toNat d):=by
 let a:="o"
 let e:l[i.toNat]?=-(l.getD i.toNat d):=by
  ext
 let:=Zw e
 grind
def Ql1(ss:List Str):Txt.join "" ss=RH.B6 ss:=by
 let go:∀(l:List Str)(a:Array Nat),(l.foldl (λa p=>a++(Str.ofString "").cps++p.cps) a)=a++(l.flatMap λp=>p.cps.toList).toArray:=by
  intro l
  induction l with
  |nil=>intro a;simp|cons p r b =>
   intro a;let e:(Str.ofString "").cps= #[]:="k"
   rw[J3,b,e];apply Array.ext'
   simp
 change(⟨((ss.drop 1).foldl (λa p=>a++(Str.ofString "").cps++p.cps) (ss.headD Str.empty).cps)⟩:Str)=⟨(ss.flatMap RH.signs).toArray⟩;rw[go];cases ss with
 |nil=>rfl|cons s r=>simp[RH.signs]
def Yn(lo:Int)(n:Nat):(Wu lo n).length=n:=by simp[Wu]
def BZ:Qd4 (.lst ds)=-ds.length:=()
end L2
namespace L2
open PySem
def Wn{kV doc pm Kn ct:Value}(X:K.In h)(G:h.Ns mainGlobals mg)
  (a:W.nsIn K mainGlobals x=-(-(.ref f))) (l:K.lookup f=-⟨oc,od,.func (W.fnOf x x (Zd st) (W1 st) (Vs st) .none kV doc pm an Kn ct),osl⟩) (c:W.codeIn K Kn x=true) (k:W.keepIn K (.ref f)=true)
  (hb:∀(kV doc pm:Value)(an:Option Addr)(Kn ct:Value)(us:List Value),us.length=ps.length->bindArgs (W.fnOf x x (Zd st) (W1 st) (Vs st) .none kV doc pm an Kn ct) ⟨us,[]⟩=pure (ps.zip us)):Fd K mg x st ps:=
 ⟨f,_,W.mg_of X G a,OI l c k,(OI l c k).binds hb⟩
theorem Qjl:∀ss:List Int,Va K H (ss.map D.int) (ss.map V.int)
 |[]=>Jq|s::ss=>Vg (Y4 s) (Qjl ss)
def RLaw0:List D->D->Prop:=λds d=>∃(ns:List Int),ds=[.lst (ns.map .int)]/\ns.length<=63/\d=.bl true
def Je6(H:Hp)(a:Addr)(ns:List Int)(hl:ns.length<=63)(hS:SqL K H a (ns.map V.int)):spD K 1 RLaw0 [.ref a] H (λv _=>v=.bl true) λ_ _ _=>False:=
 ⟨(),[.lst (ns.map .int)],.bl true,Vg (Qbu hS (Qjl ns)) Jq,⟨ns,(),hl,()⟩,λv H' _ i=>BQ i⟩
def Je7{kV doc pm Kn ct:Value}(X:K.In h)(G:h.Ns mainGlobals mg)(hfa:mg "law"=-(.ref fa))
  (a:W.nsIn K mainGlobals "law"=-(-(.ref f))) (l:K.lookup f=-⟨oc,od,.func (W.fnOf "law" "law" (Zd st) (W1 st) (Vs st) .none kV doc pm an Kn ct),osl⟩)
  (hb:∀(s:Shared)(u:Value),BindsTo s (W.fnOf "law" "law" (Zd st) (W1 st) (Vs st) .none kV doc pm an Kn ct) ⟨[u],[]⟩ [(y,u)])
  (hF:∀base:Heap,FnOk P w K mg base CX0 k f (W.fnOf "law" "law" (Zd st) (W1 st) (Vs st) .none kV doc pm an Kn ct) [y] (spD K 1 RLaw0)) :
  ∃fd:FuncData,(∀(s:Shared)(u:Value),BindsTo s fd ⟨[u],[]⟩ [(y,u)])/\∀base:Heap,K.In base->base.Ns mainGlobals mg->FnOk P w K mg base CX0 k fa fd [y] (spD K 1 RLaw0):=by
 let e:=hfa.symm.trans (W.mg_of X G a);cases e;show⟨_,hb,λbase _ _=>hF base⟩
end L2
namespace K07
open PySem L2 RH
def top(i:Nat):Stmt:=PySem.Challenge.pw_rulehall_k07_ways.main.body.getD i (.Pass ⟨0,0,0,0⟩)
abbrev Qak:Stmt:=top 24
abbrev Qmj:Stmt:=top 14
abbrev Qwg:Stmt:=top 15
abbrev Qfa:Stmt:=top 16
abbrev Qfd:Stmt:=top 17
abbrev Qf9:Stmt:=top 18
abbrev Qmg:Stmt:=top 19
abbrev Qmf:Stmt:=top 20
abbrev Qmk:Stmt:=top 21
abbrev Qfg:Stmt:=top 22
abbrev Qfb:Stmt:=top 23
abbrev Qmi:Stmt:=top 25
abbrev Qrg:Stmt:=top 35
abbrev Qmh:Stmt:=top 4
abbrev Qaj:Stmt:=top 5
abbrev Qao:Stmt:=top 6
abbrev BG:Stmt:=top 7
abbrev Qam:Stmt:=top 8
abbrev Qme:Stmt:=top 9
abbrev Qfi:Stmt:=top 10
abbrev Jaj:Stmt:=top 3
def meth(i:Nat):Stmt:=match Jaj with|.ClassDef _ _ _ b .. =>b.getD i (.Pass ⟨0,0,0,0⟩)|_=>.Pass ⟨0,0,0,0⟩
abbrev Qbh:Stmt:=meth 0
abbrev Qho:Stmt:=meth 1
abbrev Qbg:Stmt:=meth 2
structure Txt(K:W.Frag)(mg:Str->Option Value):Prop where
 bIsi:mg "isinstance"=none
 bStr:mg "str"=none
 bTup:mg "tuple"=none
 bLen:mg "len"=none
 bInt:mg "int"=none
 bRng:mg "range"=none
 bBool:mg "bool"=none
 bSet:mg "set"=none
 bSrt:mg "sorted"=none
 bDct:mg "dict"=none
 bEnu:mg "enumerate"=none
 bLst:mg "list"=none
 bZip:mg "zip"=none
 bAny:mg "any"=none
 bAll:mg "all"=none
 bMin:mg "min"=none
 bRev:mg "reversed"=none
def Vl{n:Nat}(h:n<=1000000):n<=sizeLine:=Qx h (by rw[QR];decide)
abbrev PrD(P:Program)(w:World)(K:W.Frag)(mg:Str->Option Value)(base:Heap)(x:Str)(k:Nat)(ps:List Str)(R:List D->D->Prop):Prop:=Pr P w K mg base x k ps (spD K ps.length R)
abbrev PrL(P:Program)(w:World)(K:W.Frag)(mg:Str->Option Value)(base:Heap)(x:Str)(k:Nat)(ps:List Str)(R:List D->List D->Prop):Prop:=Pr P w K mg base x k ps (spL K ps.length R)
def at0{α:Type}{a:α}{l:List α}:atI (a::l) 0=some a:=by
 let:=Zw (xs:=a::l) (j:=0) (v:=a) ();simpa using this
def at1{α:Type}{a b:α}{l:List α}:atI (a::b::l) 1=some b:=by
 let:=Zw (xs:=a::b::l) (j:=1) (v:=b) ();simpa using this
abbrev scr(ns:List Int):D:=.lst (ns.map .int)
section
variable {P:Program} {w:World} {K:W.Frag} {mg:Str->Option Value} {base:Heap}
def RCell:List D->D->Prop:=λds d=>∃(ns:List Int)(k:Nat),ds=[scr ns,.int k]/\d=.int (cell ns k)
def Jai:Vf ["_law_script", "_law_k"] ["_law_script", "_law_k"] (Vs Qmj):=⟨(),(),(),"k",(),"k","k"⟩
def Qxj(T:Txt K mg)(F:Fd K mg "_law_cell" Qmj ["_law_script", "_law_k"]):PrD P w K mg base "_law_cell" 1 ["_law_script", "_law_k"] RCell:=by
 show UF F Jai (Q5 _) λf Kn A outer s H E c d g a _=>?_
 let⟨ns,k,rfl,rfl⟩:=a
 by_cases h:(k:Int)<((ns.map D.int).length)
 ·let b:k<ns.length:="e"
  show Qdx (Yx (k:=true) ?_ (λ_=>Vz (Z1 (JW (Vv 0 ()) (Vv 1 ()) ?_))) (λh=>nomatch h))
  ·let e:=Wh h;rw[<-e];show Jcp (Vv 1 ()) (B7 T.bLen (Vv 0 ()) () (λy e=>nomatch e))
  ·show Zw ?_;rw[Qd,cell,Qi];simp[b]
 ·show YB (Yx (k:=false) ?_ (λh=>nomatch h) (λ_=>ZY)) (Vz (Z1 ?_))
  ·let e:=QV h;rw[<-e];show Jcp (Vv 1 ()) (B7 T.bLen (Vv 0 ()) () (λy e=>nomatch e))
  ·let e:cell ns k=0:=by
    rw[cell,Qi]
    ext
   rw[e];show Vi
def RMix:List D->D->Prop:=λds d=>∃c p m:Int,ds=[.int c,.int p,.int m]/\0<p/\0<m/\d=.int (mix c p m)
def Jdc:Vf ["_law_cell_here", "_law_prime", "_law_many"] ["_law_cell_here", "_law_prime", "_law_many"] (Vs Qwg):=⟨(),(),(),"k",(),"k","k"⟩
def Jbe(F:Fd K mg "_law_mix" Qwg ["_law_cell_here", "_law_prime", "_law_many"]):PrD P w K mg base "_law_mix" 1 ["_law_cell_here", "_law_prime", "_law_many"] RMix:=by
 show UF F Jdc (Q5 _) λf Kn A outer s H E g d h a _=>?_
 let⟨c,p,m,rfl,b,e,rfl⟩:=a;show Vz (Z1 (Qun (Qun (O1 (Vv 0 ()) Vi (.inr ⟨"d","d"⟩)) (Vv 1 ()) b) (Vv 2 ()) e))
def YH(G:PrD X.prog X.w X.K X.mg X.base "_law_mix" 1 ["_law_cell_here", "_law_prime", "_law_many"] RMix)(hr:Room 1 X.A)(ha:PD X ρ a (.int i))(hb:PD X ρ b (.int q))(hc:PD X ρ c (.int m))(hq:0<q)(hm:0<m)
  (hg:Gl X "_law_mix":=by rfl) (h1:starEach [a,b,c] X.env=[(false,eval a X.env),(false,eval b X.env),(false,eval c X.env)]:=by rfl) (h2:starEach [b,c] X.env=[(false,eval b X.env),(false,eval c X.env)]:=by rfl) (h3:starEach [c] X.env=[(false,eval c X.env)]:=by rfl) :
  PD X ρ (.Call (.Name "_law_mix" p) [a,b,c] [] pos) (.int (mix i q m)):=
 Z8 G hr (Vc ha (Vc hb (Vc hc Vn h3) (by rw[h2,h3])) (by rw[h1,h2])) ⟨i,q,m,(),hq,hm,()⟩ () hg "d" (by rw[h1,h2]) (by rw[h2];rfl)
def RLWord:List D->D->Prop:=λds d=>∃(c:Int)(k:Nat)(fs:Str),ds=[.int c,.int k,.str fs]/\k<fs.length/\fs.length<=10/\d=.str (word c k fs)
abbrev Jbn:List Str:=["_law_cell_here", "_law_k", "_law_firsts", "_law_letters", "_law_tail", "_law_found"]
def Qah:Vf Jbn ["_law_cell_here", "_law_k", "_law_firsts"] (Vs Qfa):=⟨(),(),(),"k",(),"k","k"⟩
def tailS(c:Int)(k:Nat):List Str:=(List.range (mix (c+k) 9929 8).toNat).map λ(j:Nat)=>sg SMALL (mix (c+7*j*j+k) 9931 26).toNat
def Qhc(c:Int)(k:Nat):(tailS c k).length<=7:=by
 let:=Zt (c+k) 9929 (m:=8) "l";simp[tailS]
 lia
def Qhb(c:Int)(k:Nat):((tailS c k).map (·.length)).sum=(tailS c k).length:=by
 unfold tailS;let:∀l:List Nat,(l.map ((·.length)∘λ(j:Nat)=>sg SMALL (mix (c+7*j*j+k) 9931 26).toNat)).sum=l.length:=by
  intro l
  induction l with
  |nil=>rfl|cons a r b =>
   rw[Qw,List.sum_cons,b];change 1+r.length=r.length+1
   lia
 ext
def Qpk(c:Int)(k:Nat):(B6 (tailS c k)).length<=7:=by
 rw[U9,UO,List.length_flatMap];let e:(tailS c k).map (λs=>(signs s).length)=(tailS c k).map (·.length):=Jb λs _=>(U9 s).symm
 rw[(e),Qhb];show Qhc c k
def Qg7(h0:0<=i)(h1:i<x.length):dAt (.str x) i=-(.str (sg x i.toNat)):=by
 change(atI x.cps.toList i).map _=_;rw[O5 97 h0 (by rw[((U9 x).symm)];show h1)];rfl
def Qop:SMALL.length=26:=by rfl
def Qsg(T:Txt K mg)(F:Fd K mg "_law_word" Qfa ["_law_cell_here", "_law_k", "_law_firsts"])(G:PrD P w K mg base "_law_mix" 1 ["_law_cell_here", "_law_prime", "_law_many"] RMix):PrD P w K mg base "_law_word" 2 ["_law_cell_here", "_law_k", "_law_firsts"] RLWord:=by
 show UF F Qah "d" λf Kn A outer s H E ds d p v _=>?_
 let⟨c,k,fs,rfl,hk,x,rfl⟩:=v;let q:∀y,D.str fs=.str y->y.length<=sizeLine:=λy e=>by cases e;show Vl "o"
 let l:∀y,D.str SMALL=.str y->y.length<=sizeLine:=λy e=>by cases e;show Vl "d"
 let m1:=Zt (c+k) 9929 (m:=8) "o";let m0:=Ww (c+k) 9929 (m:=8) "o";show Vq (Zi (i:=3) Vt Qah.nd) ?_;show Vq (Zi (i:=4) (d:=.str (Txt.join "" (tailS c k))) (Jce Vt (PDL.pd (Zu (f:=λd=>match d with|.int j=>.str (sg SMALL (mix (c+7*j*j+k) 9931 26).toNat)|d=>d) ()
  (Yh T.bRng (YH G p (ZF (Vv 0 ()) (Vv 1 ())) Vi Vi "d" "d") "o" "o") (by rw[Yn];show Vl "o") (λd hd cl C s H ex=>?_))) (.inl ?_) ?_) Qah.nd) ?_
 ·let⟨j,r,rfl⟩:=Q4.mp hd;let z:=Jp.mp r;let b1:=Zt (c+7*(0+(j:Int))*(0+j)+k) 9931 (m:=26) "o";let b0:=Ww (c+7*(0+(j:Int))*(0+j)+k) 9931 (m:=26) "o";show JW (Vv 4 ()) (YH G p (ZF (ZF (Vv 1 ()) (O1 (O1 Vi (Vv 0 ()) (.inl ⟨"d","d"⟩)) (Vv 0 ()) (.inl ⟨"o","o"⟩))) (Vv 2 ())) Vi Vi "d" "d") (Qg7 b0 (by rw[Qop];omega)) l
 ·simp[Wu,tailS,QL,Ju]
 ·rw[Qhb];let:=Qhc c k;let e:(Str.ofString "").length=0:=by rfl
  grind
 rw[Ql1];let n:(sg fs k).length=1:=rfl;let r:=Qpk c k;show Vq (Zi (i:=5) (d:=.str (sg fs k++B6 (tailS c k))) (Qut (JW (Vv 2 ()) (Vv 1 ()) (Qg7 "o" "o") q) (Vv 4 ()) (Vl "o")) Qah.nd) ?_;let t:=λ{X:Cx} {u} {a b} {pos} (ha:PD X u a (.str (sg fs k++B6 (tailS c k)))) (hb:PD X u b (.lst ((["and", "fact", "if", "rule", "not"]:List Str).map D.str))) (hm)=>Qzj (pos:=pos) ha hb (.inr ()) hm
 by_cases g:(sg fs k++B6 (tailS c k))∈(["and", "fact", "if", "rule", "not"]:List Str)
 ·let o:word c k fs=sg fs k++ "zz":=by
   show Qh g
  rw[o];show Qdx (Yx (k:=true) ?_ (λ_=>Vz (Z1 (Qut (JW (Vv 2 ()) (Vv 1 ()) (Qg7 "o" "o") q) Vt (Vl (by rw[n];decide +kernel))))) (λh=>nomatch h));let e:=Wh g;rw[<-e];show t (Vv 5 ()) (PDL.pd (WB (Vc Vt (Vc Vt (Vc Vt (Vc Vt (Vc Vt Vn))))) (Vl "d"))) ()
 ·let o:word c k fs=sg fs k++B6 (tailS c k):=by
   show Qc g
  rw[o];show YB (Yx (k:=false) ?_ (λh=>nomatch h) (λ_=>ZY)) (Vz (Z1 (Vv 5 ())));let e:=QV g;rw[<-e];show t (Vv 5 ()) (PDL.pd (WB (Vc Vt (Vc Vt (Vc Vt (Vc Vt (Vc Vt Vn))))) (Vl "d"))) ()
abbrev Qbn:List Str:=["_law_cell_here", "_law_prime", "_law_many"]
abbrev Ya:List Str:=["_law_script", "_law_k"]
abbrev Qn1:List Str:=["_law_cell_here", "_law_k", "_law_firsts"]
def Qcg{k:Nat}(G:PrD X.prog X.w X.K X.mg X.base "_law_cell" 1 Ya RCell)(hr:Room 1 X.A)(ha:PD X ρ a (scr ns))(hb:PD X ρ b (.int k))
  (hg:Gl X "_law_cell":=by rfl) (h1:starEach [a,b] X.env=[(false,eval a X.env),(false,eval b X.env)]:=by rfl) (h2:starEach [b] X.env=[(false,eval b X.env)]:=by rfl) :
  PD X ρ (.Call (.Name "_law_cell" p) [a,b] [] pos) (.int (cell ns k)):=
 Z8 G hr (Vc ha (Vc hb Vn h2) (by rw[h1,h2])) ⟨ns,k,(),()⟩ () hg "d" (by rw[h1,h2]) (by rw[h2];rfl)
def RNs(g:List Int->List Str):List D->List D->Prop:=λds es=>∃ns:List Int,ds=[scr ns]/\ns.length<=63/\es=(g ns).map .str
def Jff:(Str.ofString "pqrstu").length=6:=by rfl
def Jct:(Str.ofString "abcdef").length=6:=by rfl
def Qwd:Vf ["_law_script"] ["_law_script"] (Vs Qfd):=⟨(),(),(),"e",(),"k","k"⟩
def Qsj(T:Txt K mg)(F:Fd K mg "_law_kinds" Qfd ["_law_script"])(G1:PrD P w K mg base "_law_cell" 1 Ya RCell)(G2:PrD P w K mg base "_law_word" 2 Qn1 RLWord):PrL P w K mg base "_law_kinds" 3 ["_law_script"] (RNs kinds):=by
 show Qbj F Qwd (Q5 _) λf Kn A outer s H E h i b c _=>?_
 let⟨ns,rfl,_,rfl⟩:=c;let e:(kinds ns).map D.str=(Wu 0 6).map (λd=>match d with|.int j=>.str (word (cell ns 0) j.toNat "pqrstu")|d=>d):=by
  rfl
 rw[e];show Vz (UV (Zu () (Yh T.bRng Vi "d" "d") (by show Vl "d") λd hd cl C s H ex=>?_));let⟨j,g,rfl⟩:=Q4.mp hd;let a:=Jp.mp g;show Z8 G2 b (Vc (Qcg G1 (b.mono "d") (Vv 1 ()) Vi) (Vc (Vv 0 ()) (Vc Vt Vn))) ⟨cell ns 0,j, "pqrstu","s",by show a,"d","s"⟩
def Qf1:Vf ["_law_script", "_law_many"] ["_law_script"] (Vs Qf9):=⟨(),(),(),"k",(),"k","k"⟩
def Qk9(hns:ns.length<=63)(hl:X.mg "len"=none)(G1:PrD X.prog X.w X.K X.mg X.base "_law_cell" 1 Ya RCell)(G2:PrD X.prog X.w X.K X.mg X.base "_law_mix" 1 Qbn RMix)(hr:Room 1 X.A)
  (hs:∀p,PD X ρ (.Name x p) (scr ns)) (g1:Gl X "len":=by rfl) (g2:Gl X "_law_mix":=by rfl) (g3:Gl X "_law_cell":=by rfl) :
  PB X ρ (.BoolOp .Or [.Compare (.Call (.Name "len" p0) [.Name x p1] [] p2) [.Gt] [.Constant (.int 63) j0 p3] p4,
   .Compare (.Call (.Name "_law_mix" p5) [.Call (.Name "_law_cell" p6) [.Name x p7,.Constant (.int 3) j1 p8] [] p9,.Constant (.int 9479) j2 pa,.Constant (.int 7) j3 pb] [] pc) [.Eq] [.Constant (.int 3) j4 pd] pe] pz)
   (decide (mix (cell ns 3) 9479 7=3)):=by
 let e:decide ((63:Int)<((ns.map D.int).length:Nat))=false:=QV "g";let a:=Jet (pos:=p4) (B7 (p:=p0) (pos:=p2) hl (hs p1) BZ (λy e=>nomatch e) g1) (Vi (pos:=p3) (i:=63) (j:=j0));rw[e]at a;let b:=Jeq a (λ_=>Qv6 (pos:=pz) (Qjg (pos:=pe) (YH (p:=p5) (pos:=pc) G2 hr (Qcg (k:=3) (p:=p6) (pos:=p9) G1 hr (hs p7) (Vi (j:=j1) (pos:=p8)) g3) (Vi (i:=9479) (j:=j2) (pos:=pa)) (Vi (i:=7) (j:=j3) (pos:=pb)) "d" "d" g2) (Vi (i:=3) (j:=j4) (pos:=pd))));show Qlp b
def Qsd(T:Txt K mg)(F:Fd K mg "_law_words" Qf9 ["_law_script"])(G1:PrD P w K mg base "_law_cell" 1 Ya RCell)(G2:PrD P w K mg base "_law_word" 2 Qn1 RLWord)(G3:PrD P w K mg base "_law_mix" 1 Qbn RMix):PrL P w K mg base "_law_words" 3 ["_law_script"] (RNs words):=by
 show Qbj F Qf1 "d" λf Kn A outer s H E r t g k _=>?_
 let⟨ns,rfl,c,rfl⟩:=k;let b:=g.mono (show 1<=2 by decide);let u:YE ns<=4:=by unfold YE;grind
 show WR (Zi (i:=1) Vi Qf1.nd) ?_;show WR (m:=true) (τ1:=[.arg (scr ns),.any (.int (YE ns))]) ?_ ?_
 ·show Yx (Qk9 c T.bLen G1 G3 b (λp=>Vv 0 ())) (λh=>?_) (λh=>?_)
  ·let e:YE ns=4:=Qh (Qo5 h);rw[e];show Vz (Zi (i:=1) Vi Qf1.nd)
  ·let e:YE ns=3:=Qc (Qjt h);rw[e];show ZY
 ·let e:(words ns).map D.str=(Wu 0 (YE ns)).map (λd=>match d with|.int j=>.str (word (cell ns 1) j.toNat "abcdef")|d=>d):=by
   simp[Wu,words,QL,Ju]
  rw[e];let hi:=λ{X:Cx} {tg a p pos} (l) (n:PD X (dat [.arg (scr ns),.any (.int (YE ns))]) a (.int (YE ns))) (h3) (h4)=>Yh (tg:=tg) (p:=p) (pos:=pos) l n "l" "l" h3 h4
  show Vz (UV (Zu () (hi T.bRng (Vv 1 ()) () ()) (by rw[Yn];show Vl "l") λd hd cl C s H ex=>?_));let⟨j,o,rfl⟩:=Q4.mp hd;let q:=Jp.mp o;show Z8 G2 g (Vc (Qcg G1 b (Vv 1 ()) Vi) (Vc (Vv 0 ()) (Vc Vt Vn))) ⟨cell ns 1,j, "abcdef","s",by rw[Jct];lia,"d","s"⟩
def RSize:List D->D->Prop:=λds d=>∃(ns:List Int)(k:Nat),ds=[scr ns,.int k]/\k<6/\d=.int (size ns k:Nat)
def Jae:Vf ["_law_script", "_law_k"] ["_law_script", "_law_k"] (Vs Qmg):=⟨(),(),(),"k",(),"k","k"⟩
def Qxb(T:Txt K mg)(F:Fd K mg "_law_size" Qmg Ya)(G1:PrD P w K mg base "_law_cell" 1 Ya RCell)(G3:PrD P w K mg base "_law_mix" 1 Qbn RMix):PrD P w K mg base "_law_size" 2 Ya RSize:=by
 show UF (N:=["_law_script", "_law_k"]) F Jae (Q5 _) λf Kn A outer s H E j d a g _=>?_
 let⟨ns,k,rfl,c,hd⟩:=g;let e:((size ns k:Nat):Int)=(([2,1,2,1,0,2]:List Int).getD k 0)+(if decide (mix (cell ns 1+k) 9923 7=0)=true then 1 else 0):=by
  unfold size;let i:((([2,1,2,1,0,2]:List Nat).getD k 0:Nat):Int)=([2,1,2,1,0,2]:List Int).getD k 0:=by
   clear hd a
   match k,c with
   |0,_=>rfl|1,_=>rfl|2,_=>rfl|3,_=>rfl|4,_=>rfl|5,_=>rfl
  rw[Int.natCast_add,i]
  by_cases h:mix (cell ns 1+k) 9923 7=0<;>simp[h]
 rw[e]at hd;subst hd;let b:dAt (.lst [.int 2,.int 1,.int 2,.int 1,.int 0,.int 2]) k=-(.int (([2,1,2,1,0,2]:List Int).getD k 0)):=by
  change atI ([.int 2,.int 1,.int 2,.int 1,.int 0,.int 2]:List D) k=_
  match k,c with
  |0,_=>show Zw rfl|1,_=>show Zw rfl|2,_=>show Zw rfl|3,_=>show Zw rfl|4,_=>show Zw rfl|5,_=>show Zw ()
 show Vz (Z1 (ZF (JW (da:=.lst [.int 2,.int 1,.int 2,.int 1,.int 0,.int 2]) (PDL.pd (WB (Vc Vi (Vc Vi (Vc Vi (Vc Vi (Vc Vi (Vc Vi Vn)))))) (Vl "d"))) (Vv 1 ()) b (λx e=>nomatch e)) (Jcg T.bInt (Qzh (YH G3 a (ZF (Qcg (k:=1) G1 a (Vv 0 ()) Vi) (Vv 1 ())) Vi Vi "d" "d") Vi))))
def RSome:List D->D->Prop:=λds d=>∃(c:Int)(ss:List Str),ds=[.int c,.lst (ss.map .str)]/\ss≠[]/\d=.str (pick c ss)
abbrev BN:List Str:=["_law_cell_here", "_law_things"]
def Jad:Vf BN BN (Vs Qmf):=⟨(),(),(),"k",(),"k","k"⟩
def Qc3{α β:Type}(f:α->β)(l:List α)(i:Nat)(d:α):(l.map f).getD i (f d)=f (l.getD i d):=by
 ext
def Qxa(T:Txt K mg)(F:Fd K mg "_law_some" Qmf BN)(G3:PrD P w K mg base "_law_mix" 1 Qbn RMix):PrD P w K mg base "_law_some" 2 BN RSome:=by
 show UF F Jad (Q5 _) λf Kn A outer s H E k d g h _=>?_
 let⟨c,b,rfl,Ko,rfl⟩:=h;let hl:=Qgw.mpr Ko;let a:(0:Int)<((b.map D.str).length:Nat):="e"
 let i:=Zt c 9907 a;let j:=Ww c 9907 a;show Vz (Z1 (JW (Vv 1 ()) (YH G3 g (Vv 0 ()) Vi (B7 T.bLen (Vv 1 ()) BZ (λy e=>nomatch e)) "d" a) ?_));change atI (b.map D.str) _=_;rw[O5 (D.str "") j i,Qc3,Qb];rfl
abbrev Qdv:List Str:=["_law_script", "_law_cell_here", "_law_head", "_law_free"]
abbrev Qza:List Str:=["_law_script", "_law_cell_here", "_law_head", "_law_free", "_law_words_here", "_law_kinds_here", "_law_found", "_law_k", "_law_kind", "_law_terms", "_law_j"]
def YN:Vf Qza Qdv (Vs Qmk):=⟨(),(),(),"k",(),"k","k"⟩
def Wl(a:At):D:=(Li.mk true a).d
def Qqj(a:At):Wl a=.tup [.str "yes",.tup [.str a.k,.tup (a.ts.map .str)]]:=()
def Qqk(a:At):LF (Wl a)=true:=by
 rw[Qqj];simp only[Qvi,LFs,W4,Bool.true_and,Bool.and_true];show JJ (λ_=>W4) _
def RBody:List D->List D->Prop:=λds es=>∃(ns:List Int)(c:Int)(head:Nat)(free:Bool),ds=[scr ns,.int c,.int head,.bl free]/\ns.length<=63/\head<6/\es=(body ns c head free).map Wl
abbrev from7(ns:List Int):List Str:=["X", "Y", "Z", "X", "Y",(words ns).getD 0 "",(words ns).getD 1 ""]
def Yc(l:List Str):LFs (l.map D.str)=true:=JJ (λ_=>W4) _
def UQ{α:Type}(f:Nat->α)(n:Nat):(List.range (n+1)).map f=(List.range n).map f++[f n]:=by
 rw[List.range_succ,J1];rfl
def wix(ns:List Int){k:Nat}(h:k<3):dAt (.lst ((words ns).map D.str)) k=-(.str ((words ns).getD k "")):=by
 let hl:k<(words ns).length:=by rcases ZJ ns with z|z<;>lia
 change atI ((words ns).map D.str) k=_;rw[O5 (D.str "") "l" "e",Qc3]
 simp
def kix(ns:List Int){k:Nat}(h:k<6):dAt (.lst ((kinds ns).map D.str)) k=-(.str (kd ns k)):=by
 change atI ((kinds ns).map D.str) k=_;rw[O5 (D.str "") "l" (by rw[Qb,Qpg];lia),Qc3];simp[kd]
def Qxk(T:Txt K mg)(F:Fd K mg "_law_body" Qmk Qdv)(G3:PrD P w K mg base "_law_mix" 1 Qbn RMix)(G4:PrL P w K mg base "_law_words" 3 ["_law_script"] (RNs words))(G5:PrL P w K mg base "_law_kinds" 3 ["_law_script"] (RNs kinds))
  (G6:PrD P w K mg base "_law_size" 2 Ya RSize) (G7:PrD P w K mg base "_law_some" 2 BN RSome):PrL P w K mg base "_law_body" 4 Qdv RBody:=by
 show Qbj (N:=Qza) F YN "d" λf Kn A outer s H E ds es p hR _=>?_
 let⟨ns,c,head,free,rfl,l,hh,rfl⟩:=hR;let b:=p.mono (show 1<=3 by decide);let n:=p.mono (show 2<=3 by decide);let hm1:=Zt c 9901 (m:=4) "l";let hm0:=Ww c 9901 (m:=4) "l";show WR (W8 (i:=4) (Zv G4 p (Vc (Vv 0 ()) Vn) ⟨ns,(),l,()⟩) (Yc _) YN.nd) ?_;show WR (W8 (i:=5) (Zv G5 p (Vc (Vv 0 ()) Vn) ⟨ns,(),l,()⟩) (Yc _) YN.nd) ?_;show WR (W8 (i:=6) (WB Vn (Vl "d")) () YN.nd) ?_;show WR (m:=false) (Qt0 (j:=7) (k:=mix c 9901 4) (m:=false) (λi=>[.arg (scr ns),.arg (.int c),.arg (.int head),.arg (.bl free),.own ((words ns).map .str),.own ((kinds ns).map .str),.own ((List.range i).map λk=>Wl (Y7 ns c head free k)),.no,.no,.no,.no])
  QF () T.bRng (YH G3 b (Vv 1 ()) Vi Vi "d" "d") "l" "l" () (λi hi=>⟨false,?_,λh=>nomatch h⟩) YN.nd) ?_
 ·-- a turn
  generalize r:((List.range i).map λk=>Wl (Y7 ns c head free k))=Kx;let t:Kx.length<=4:="g"
  generalize u:(if free=true then mix (c+31*(i:Int)) 9887 6 else mix (c+31*(i:Int)) 9887 ((head:Int)+1))=o;let hk0:0<=o:=by
   rw[<-u];split
   ·show Ww _ _ "l"
   ·show Ww _ _ "l"
  let g:=Qjc c hh free i;show ZB (m:=false) (τ1:=[.arg (scr ns),.arg (.int c),.arg (.int head),.arg (.bl free),.own ((words ns).map .str),.own ((kinds ns).map .str),.own (Kx++[Wl (Y7 ns c head free i)]),.any (.int i),.any (.int (Zc c head free i:Nat)),.own ((Y7 ns c head free i).ts.map .str),.no]) ?_ ?_ (λh=>nomatch h)
  ·show YB (Zi (i:=8) (YH G3 b (ZF (Vv 1 ()) (O1 Vi (Vv 7 ()) (.inl ⟨"d","d"⟩))) Vi (ZF (Vv 2 ()) Vi) "d" "l") YN.nd) ?_;show YB (τ1:=[.arg (scr ns),.arg (.int c),.arg (.int head),.arg (.bl free),.own ((words ns).map .str),.own ((kinds ns).map .str),.own Kx,.any (.int i),.any (.int o),.no,.no]) (Yx (k:=free) (B8 (Vv 3 ())) (λh=>?_) (λh=>?_)) ?_
   ·subst h;let e:o=mix (c+31*(i:Int)) 9887 6:="e"
    rw[e];show Vz (Zi (i:=8) (YH G3 b (ZF (Vv 1 ()) (O1 Vi (Vv 7 ()) (.inl ⟨"d","d"⟩))) Vi Vi "d" "d") YN.nd)
   ·subst h;let e:o=mix (c+31*(i:Int)) 9887 ((head:Int)+1):="e"
    rw[e];show ZY
   ·show YB (τ1:=[.arg (scr ns),.arg (.int c),.arg (.int head),.arg (.bl free),.own ((words ns).map .str),.own ((kinds ns).map .str),.own Kx,.any (.int i),.any (.int (Zc c head free i:Nat)),.no,.no])
     (Yx (Qlp (Bq (Qjg (Vv 7 ()) Vi) (λ_=>Bq (Qjg (Vv 8 ()) (Vv 2 ())) (λ_=>Qgr (Qjg (YH G3 b (Vv 1 ()) Vi Vi "d" "d") Vi))))) (λh=>?_) (λh=>?_)) ?_
    ·let e:Zc c head free i=0:=by
      simp only[Qv,Wo]at h;unfold Zc
      grind
     rw[e];show Vz (Zi (i:=8) (d:=.int 0) Vi YN.nd)
    ·let e:((Zc c head free i:Nat):Int)=o:=by
      unfold Zc
      grind
     rw[e];show ZY
    ·generalize y:Zc c head free i=q at g;let ets:(Y7 ns c head free i).ts=(List.range (size ns q)).map λ(j:Nat)=>pick (c+13*i+5*j) (from7 ns):=by rw[<-y];rfl
     let ek:(Y7 ns c head free i).k=kd ns q:=by rw[<-y];rfl
     let v:=Yz ns q;show YB (W8 (i:=9) (ds:=[]) (WB Vn (Vl "d")) () YN.nd) ?_;show Ov (m:=false) (Qt0 (j:=10) (k:=(size ns q:Nat)) (m:=false) (λz=>[.arg (scr ns),.arg (.int c),.arg (.int head),.arg (.bl free),.own ((words ns).map .str),.own ((kinds ns).map .str),.own Kx,.any (.int i),.any (.int (q:Nat)),.own ((List.range z).map λ(j:Nat)=>.str (pick (c+13*i+5*j) (from7 ns))),.no])
      QF () T.bRng (Z8 G6 n (Vc (Vv 0 ()) (Vc (Vv 8 ()) Vn)) ⟨ns,q,(),g,()⟩) "l" "l" () (λz x=>⟨false,?_,λh=>nomatch h⟩) YN.nd) ?_
     ·show ZB (m:=false) (Vz (ZZ (i:=9) () (Z8 G7 n (Vc (ZF (ZF (Vv 1 ()) (O1 Vi (Vv 7 ()) (.inl ⟨"d","d"⟩))) (O1 Vi (Vv 10 ()) (.inl ⟨"d","d"⟩)))
       (Vc (PDL.pd (WB (Vc Vt (Vc Vt (Vc Vt (Vc Vt (Vc Vt (Vc (JW (Vv 4 ()) Vi (wix ns (k:=0) "d")) (Vc (JW (Vv 4 ()) Vi (wix ns (k:=1) "d")) Vn))))))) (Vl "s"))) Vn)) ⟨_,from7 ns,(),"s",()⟩) W4 (AL.h ⟨Bt,Bt,Bt,trivial⟩) ?_)) ?_ (λh=>nomatch h)
      ·rw[Qb,Wp];show Qp (Qp x v) (Vl "d")
      ·rw[UQ];show WkI.wk (.keep (.keep (.keep (.keep (.keep (.keep (.keep (.keep (.keep (.keep (.no .nil)))))))))))
     ·rw[Zz];let e1:((List.range (size ns q)).map λ(j:Nat)=>D.str (pick (c+13*i+5*j) (from7 ns)))=(Y7 ns c head free i).ts.map D.str:="e"
      rw[e1];show Vz (ZZ (i:=6) () ?_ (Qqk _) (AL.h ⟨Bt,Bt,trivial⟩) (WH t (by rw[QR];decide)));rw[Qqj,ek];show Vp (Vc Vt (Vc (Vp (Vc (JW (Vv 5 ()) (Vv 8 ()) (kix ns g)) (Vc (W2 T.bTup (Vv 9 ()) (.inl ())) Vn)) (Vl "s")) Vn)) (Vl "s")
  ·rw[UQ,r];show WkI.wk (.keep (.keep (.keep (.keep (.keep (.keep (.keep (.no (.no (.no (.no .nil)))))))))))
 ·let e:(body ns c head free).map Wl=(List.range (mix c 9901 4).toNat).map λk=>Wl (Y7 ns c head free k):=by
   rw[body,QL];rfl
  rw[e];show Vz (U6 (i:=6) ())
abbrev Qta:List Str:=["_law_body_here", "_law_found", "_law_literal", "_law_term"]
def Qai:Vf Qta ["_law_body_here"] (Vs Qfg):=⟨(),(),(),"k",(),"k","k"⟩
def RBound:List D->List D->Prop:=λds es=>∃as:List At,ds=[.lst (as.map Wl)]/\as.length<=4/\(∀a∈as,a.ts.length<=3)/\es=(bound as).map .str
def Qvg(acc:List Str)(t:Str):(Yy acc t).length<=acc.length+1:=by
 unfold Yy;split
 ·simp
 ·lia
theorem OK:∀(ts acc:List Str),(ts.foldl Yy acc).length<=acc.length+ts.length
 |[],acc=>by simp|t::ts,acc=>by
  rw[J3,Qz];let a:=OK ts (Yy acc t);let b:=Qvg acc t
  lia
theorem O4:∀(as:List At)(acc:List Str),(∀a∈as,a.ts.length<=3)->(as.foldl (λacc a=>a.ts.foldl Yy acc) acc).length<=acc.length+3*as.length
 |[],acc,_=>by simp|a::as,acc,h=>by
  let c:=O4 as (a.ts.foldl Yy acc) λb hb=>h b (Q7 _ hb)
  let d:=OK a.ts acc
  grind
def OP{as:List At}(h:∀a∈as,a.ts.length<=3):(bound as).length<=3*as.length:=by
 let:=O4 as [] h;simpa[RH.bound]using this
def Qlm{as:List At}(h:as[i]?=-a):bound (as.take (i+1))=a.ts.foldl Yy (bound (as.take i)):=by
 rw[Jr,h,RH.bound,RH.bound,Zy];rfl
def Qlf{ts:List Str}(acc:List Str)(h:ts[i]?=-t):(ts.take (i+1)).foldl Yy acc=Yy ((ts.take i).foldl Yy acc) t:=by
 rw[Jr,h,Zy];rfl
def Qsn(F:Fd K mg "_law_bound" Qfg ["_law_body_here"]):PrL P w K mg base "_law_bound" 1 ["_law_body_here"] RBound:=by
 show Qbj (N:=Qta) F Qai "d" λf Kn A outer s H E ds es hr y _=>?_
 let⟨as,rfl,r,l,rfl⟩:=y;show WR (W8 (i:=1) (WB Vn (Vl "d")) () Qai.nd) ?_;show WR (m:=false) (Qkv (j:=2) (k:=0) (ds:=as.map Wl) (m:=false) (λi=>[.arg (.lst (as.map Wl)),.own ((bound (as.take i)).map .str),.no,.no]) QF () () () (λi d hi=>⟨false,?_,λh=>nomatch h⟩) Qai.nd) ?_
 ·obtain⟨a,ha,rfl⟩:∃a,as[i]?=-a/\Wl a=d:=by
   rw[Qd]at hi;show Qb1.mp hi
  let n:=Q6 ha;let h3:=l a n;let u:(bound (as.take i)).length<=12:=by
   let z:=OP (as:=as.take i) λb hb=>l b (Ji hb)
   let h2:(as.take i).length<=4:=Qx (by rw[Z6];lia) r
   lia
  generalize o:bound (as.take i)=c at u;show ZB (m:=false) (Vz (Qku (j:=3) (ds:=a.ts.map .str) (m:=false) (λg=>[.arg (.lst (as.map Wl)),.own (((a.ts.take g).foldl Yy c).map .str),.arg (Wl a),.no]) QF ()
   (JW (da:=.tup [.str a.k,.tup (a.ts.map .str)]) (JW (Vv 2 ()) Vi at1) Vi at1) (Yc _) () (λg d v=>⟨false,?_,λh=>nomatch h⟩) Qai.nd)) ?_ (λh=>nomatch h)
  ·obtain⟨t,ht,rfl⟩:∃t,a.ts[g]?=-t/\D.str t=d:=by
    rw[Qd]at v;show Qb1.mp v
   let p:((a.ts.take g).foldl Yy c).length<=15:=by
    let z:=OK (a.ts.take g) c;let h2:(a.ts.take g).length<=3:=Qx (by rw[Z6];lia) h3
    lia
   rw[Qlf c ht];generalize hac:(a.ts.take g).foldl Yy c=q at p;show Vz (Yx (Qlp (Bq (Qzj (ss:=XYZ) (Vv 3 ()) (PDL.pd (WB (Vc Vt (Vc Vt (Vc Vt Vn))) (Vl "d"))) (.inr ())) (λ_=>Qgr (Qjd (ss:=q) (Vv 3 ()) (Vv 1 ()) (.inr ()))))) (λh=>?_) (λh=>?_))
   ·let e:Yy q t=q++[t]:=by
     unfold Yy;rw[Qh];simpa using h
    rw[e,J1];show ZB (m:=false) (Vz (ZZ (i:=1) (d:=.str t) () (Vv 3 ()) W4 (AL.h ⟨W4,trivial⟩) (by rw[Qb];show WH p (by rw[QR];decide)))) ?_ (λh=>nomatch h);show WkI.wk (.keep (.keep (.keep (.no .nil))))
   ·let e:Yy q t=q:=by
     unfold Yy;rw[Qc];intro x;rw[Wh x.1,QV x.2]at h;cases h
    rw[e];show ZB ZY (WkI.wk (.keep (.keep (.keep (.no .nil))))) (λh=>nomatch h)
  ·rw[Qb,QY,Qlm ha,o];show WkI.wk (.keep (.keep (.no (.no .nil))))
 ·rw[Qb,QY];show Vz (U6 (i:=1) ())
def Jek(h:PD X ρ a (.int i)):PD X ρ (.UnaryOp .USub a pos) (.int (Neg.neg i)):=
 ZR (Jdo Qzz h.pe) λe H Q b q=>⟨b,λv H1 c d=>⟨i,Y5 d,q _ H1 c (Y4 _)⟩⟩
theorem Qa2{α:Type}:∀(l:List α)(k:Nat)(x:α),k<=l.length->l.insertIdx k x=l.take k++x::l.drop k
 |l,0,x,_=>by simp|[],k+1,x,h=>by simp at h|a::l,k+1,x,h=>by
  rw[List.insertIdx_succ_cons,Qa2 l k x (by simpa using h)];rfl
def lastix(h:l≠[]):dAt (.lst (l.map D.str)) (Neg.neg (1:Int))=-(.str (l.getLastD "")):=by
 change atI (l.map D.str) (Neg.neg (1:Int))=_;obtain⟨r,x,rfl⟩:∃r x,l=r++[x]:=⟨l.dropLast,l.getLast h,(List.dropLast_concat_getLast h).symm⟩;let:=Qvb (r.map D.str) (D.str x)
 ext
abbrev Oq:List Str:=["_law_script", "_law_cell_here", "_law_free"]
abbrev Qt8:List Str:=["_law_script", "_law_cell_here", "_law_free", "_law_head", "_law_body_here", "_law_terms", "_law_kind", "_law_some_here"]
def Ug:Vf Qt8 Oq (Vs Qfb):=⟨(),(),(),"k",(),"k","k"⟩
def RLRule:List D->D->Prop:=λds d=>∃(ns:List Int)(c:Int)(free:Bool),ds=[scr ns,.int c,.bl free]/\ns.length<=63/\d=(rule ns c free).d
def Qgq:∀a∈body ns c head free,a.ts.length<=3:=by
 intro a ha;let⟨k,_,rfl⟩:=Q4.mp ha;show Qck ..
def Qvn(ns:List Int)(c:Int)(free:Bool):(Jj ns c free).length<=11:=by
 unfold Jj;let a:=OP (as:=body ns c (QQ c) free) Qgq;let b:=Qcj ns c (QQ c) free
 grind
def Je5(l:Li):LF l.d=true:=by
 change LF (.tup [.str _,.tup [.str _,.tup (l.a.ts.map .str)]])=true;simp only[Qvi,LFs,W4,Bool.true_and,Bool.and_true];show Yc _
def Qlv(as:List At):as.map Wl=(as.map λa=>Li.mk true a).map Li.d:=by
 rw[QL];rfl
def Qbk(f:Nat->Int)(n:Nat)(l:List Str):((List.range n).map λ(j:Nat)=>pick (f j) l).map D.str=(Wu 0 n).map (λd=>match d with|.int j=>.str (pick (f j.toNat) l)|d=>d):=by
 simp[Wu,QL,Ju]
def Qsh(T:Txt K mg)(F:Fd K mg "_law_rule" Qfb Oq)(G3:PrD P w K mg base "_law_mix" 1 Qbn RMix)(G4:PrL P w K mg base "_law_words" 3 ["_law_script"] (RNs words))(G5:PrL P w K mg base "_law_kinds" 3 ["_law_script"] (RNs kinds))
  (G6:PrD P w K mg base "_law_size" 2 Ya RSize) (G7:PrD P w K mg base "_law_some" 2 BN RSome) (G8:PrL P w K mg base "_law_body" 4 Qdv RBody) (G9:PrL P w K mg base "_law_bound" 1 ["_law_body_here"] RBound):PrD P w K mg base "_law_rule" 5 Oq RLRule:=by
 show UF (N:=Qt8) F Ug "d" λf Kn A outer s H E ds d r hR _=>?_
 let⟨ns,c,free,rfl,a,rfl⟩:=hR;let b:=r.mono (show 1<=4 by decide);let g:=r.mono (show 2<=4 by decide);let l:=r.mono (show 3<=4 by decide);let u:=Qe6 c;let hm0:=Ww c 9871 (m:=6) "l";let v:mix c 9871 6=(QQ c:Nat):=by unfold QQ;lia
 let Ko:words ns≠[]:=λh=>by rcases ZJ ns with z|z<;>simp[h]at z
 let x:=Qcj ns c (QQ c) free;let p:=Zq ns c free;show Vq (τ1:=[.arg (scr ns),.arg (.int c),.arg (.bl free),.any (.int (QQ c:Nat)),.no,.no,.no,.no]) (m:=true) ?_ ?_
 ·rw[<-v];show Zi (i:=3) (YH G3 b (Vv 1 ()) Vi Vi "d" "d") Ug.nd
 show Vq (W8 (i:=4) (Zv G8 r (Vc (Vv 0 ()) (Vc (Vv 1 ()) (Vc (Vv 3 ()) (Vc (Vv 2 ()) Vn)))) ⟨ns,c,QQ c,free,(),a,u,()⟩) (JJ Qqk _) Ug.nd) ?_;show Vq (m:=true) (τ1:=[.arg (scr ns),.arg (.int c),.arg (.bl free),.any (.int (QQ c:Nat)),.own ((body ns c (QQ c) free).map Wl),.own ((Jj ns c free).map .str),.no,.no]) ?_ ?_
 ·let e:(Jj ns c free).map D.str=(RH.bound (body ns c (QQ c) free)).map D.str++[.str ((words ns).getD 0 ""),.str ((words ns).getLastD "")]:=by
   unfold Jj
   ext
  rw[e];let hbo:=OP (as:=body ns c (QQ c) free) Qgq;show W8 (i:=5) (Qgk (PDL.pd (Zv G9 b (Vc (Vv 4 ()) Vn) ⟨_,(),"l",Qgq,()⟩)) (PDL.pd (WB (Vc (JW (PDL.pd (Zv G4 l (Vc (Vv 0 ()) Vn) ⟨ns,(),a,()⟩)) Vi (wix ns (k:=0) "d")) (Vc (JW (PDL.pd (Zv G4 l (Vc (Vv 0 ()) Vn) ⟨ns,(),a,()⟩)) (Jek Vi) (lastix Ko)) Vn)) (Vl "s"))) ?_) ?_ Ug.nd
  ·rw[Qb];show Vl (by simp;lia)
  ·rw[Zg,Yc];rfl
 show Vq (m:=false) (τ1:=[.arg (scr ns),.arg (.int c),.arg (.bl free),.any (.int (QQ c:Nat)),.own ((Wm ns c free).map Li.d),.own ((Jj ns c free).map .str),.no,.no])
  (Yx (Qlp (Bq (Qje (B8 (Vv 2 ()))) (λ_=>Bq (Jet (Vv 3 ()) Vi) (λ_=>Bq (Jcp (B7 T.bLen (Vv 4 ()) BZ (λy e=>nomatch e)) Vi) (λ_=>Qgr (Qjg (YH G3 b (Vv 1 ()) Vi Vi "d" "d") Vi)))))) (λh=>?_) (λh=>?_)) ?_
 ·let t:BR ns c free=true:=by
   unfold BR
   grind
  let h0:=Ql7 t;let hk0:=Ww c 9857 (m:=QQ c) "l";let ekd:mix c 9857 (QQ c:Nat)=(Y3 c:Nat):=by unfold Y3;lia
  let q:=Qp6 c h0;let hsz:=Yz ns (Y3 c);let hi0:=Ww c 9851 (m:=((body ns c (QQ c) free).map Wl).length+1) "l";let hi1:=Zt c 9851 (m:=((body ns c (QQ c) free).map Wl).length+1) "l";let o:(Wm ns c free).map Li.d=((body ns c (QQ c) free).map Wl).take (mix c 9851 (((body ns c (QQ c) free).map Wl).length+1)).toNat++(⟨false,Qd2 ns c free⟩:Li).d::((body ns c (QQ c) free).map Wl).drop (mix c 9851 (((body ns c (QQ c) free).map Wl).length+1)).toNat:=by
   unfold Wm;simp only;rw[Qh t,Qb,Qa2 _ _ _ "g",Qlv,J1,Qw,List.map_take,List.map_drop,Qb,Qb]
  rw[o];show ZB (m:=false) (τ1:=[.arg (scr ns),.arg (.int c),.arg (.bl free),.any (.int (QQ c:Nat)),.own (((body ns c (QQ c) free).map Wl).take (mix c 9851 (((body ns c (QQ c) free).map Wl).length+1)).toNat++(⟨false,Qd2 ns c free⟩:Li).d::((body ns c (QQ c) free).map Wl).drop (mix c 9851 (((body ns c (QQ c) free).map Wl).length+1)).toNat),.own ((Jj ns c free).map .str),.any (.int (Y3 c:Nat)),.own ((Qd2 ns c free).ts.map .str)]) ?_ (WkI.wk (.keep (.keep (.keep (.keep (.keep (.keep (.no (.no .nil))))))))) (λh=>nomatch h);show YB (τ1:=[.arg (scr ns),.arg (.int c),.arg (.bl free),.any (.int (QQ c:Nat)),.own ((body ns c (QQ c) free).map Wl),.own ((Jj ns c free).map .str),.any (.int (Y3 c:Nat)),.no]) ?_ ?_
  ·rw[<-ekd];show Zi (i:=6) (YH G3 b (Vv 1 ()) Vi (Vv 3 ()) "d" "l") Ug.nd
  show YB (τ1:=[.arg (scr ns),.arg (.int c),.arg (.bl free),.any (.int (QQ c:Nat)),.own ((body ns c (QQ c) free).map Wl),.own ((Jj ns c free).map .str),.any (.int (Y3 c:Nat)),.own ((Qd2 ns c free).ts.map .str)]) ?_ ?_
  ·let e:(Qd2 ns c free).ts.map D.str=(Wu 0 (size ns (Y3 c))).map (λd=>match d with|.int j=>.str (pick (c+3+j.toNat) (Jj ns c free))|d=>d):=Qbk (λj=>c+3+j) _ _;rw[e];show UU (i:=7) (by rw[<-e];show Yc _) Ug.nd () (Yh (n:=(size ns (Y3 c):Nat)) T.bRng (Z8 G6 g (Vc (Vv 0 ()) (Vc (Vv 6 ()) Vn)) ⟨ns,_,(),q,()⟩) "l" "l") (by rw[Yn];show Vl "l") λd hd cl C s H ex=>?_
   let⟨j,hj,rfl⟩:=Q4.mp hd;show Z8 G7 g (Vc (ZF (ZF (Vv 2 ()) Vi) (Vv 0 ())) (Vc (Vv 6 ()) Vn)) ⟨c+3+j,Jj ns c free,"s",p,"s"⟩
  ·show Vz (Qsy (i:=4) () (YH G3 b (Vv 1 ()) Vi (ZF (B7 T.bLen (Vv 4 ()) BZ (λy e=>nomatch e)) Vi) "d" "l") ?_ (Je5 _) (AL.h ⟨Bt,Bt,trivial⟩) hi0 "l" (by rw[Qb];show WH x (by rw[QR];decide)));show Vp (Vc Vt (Vc (Vp (Vc (JW (PDL.pd (Zv G5 l (Vc (Vv 0 ()) Vn) ⟨ns,(),a,()⟩)) (Vv 6 ()) (kix ns q)) (Vc (W2 T.bTup (Vv 7 ()) (.inl ())) Vn)) (Vl "s")) Vn)) (Vl "s")
 ·let t:BR ns c free=false:=by
   cases hx:BR ns c free with
   |false=>rfl|true =>
    exfalso;unfold BR at hx
    grind
  let o:(Wm ns c free).map Li.d=(body ns c (QQ c) free).map Wl:=by
   unfold Wm;simp only;rw[t,Qlv];rfl
  rw[o];show ZB ZY (Wk.refl _) (λh=>nomatch h)
 ·let hsz:=Yz ns (QQ c);show Vq (m:=true) (τ1:=[.arg (scr ns),.arg (.int c),.arg (.bl free),.any (.int (QQ c:Nat)),.own ((Wm ns c free).map Li.d),.own ((Jj ns c free).map .str),.no,.own ((rule ns c free).h.ts.map .str)]) ?_ ?_
  ·let e:(rule ns c free).h.ts.map D.str=(Wu 0 (size ns (QQ c))).map (λd=>match d with|.int j=>.str (pick (c+17*(j.toNat:Nat)) (Jj ns c free))|d=>d):=Qbk (λj=>c+17*j) _ _;rw[e];show UU (i:=7) (by rw[<-e];show Yc _) Ug.nd () (Yh (n:=(size ns (QQ c):Nat)) T.bRng (Z8 G6 g (Vc (Vv 0 ()) (Vc (Vv 3 ()) Vn)) ⟨ns,_,(),u,()⟩) "l" "l") (by rw[Yn];show Vl "l") λd hd cl C s H ex=>?_
   let⟨j,hj,rfl⟩:=Q4.mp hd;show Z8 G7 g (Vc (ZF (Vv 2 ()) (O1 Vi (Vv 0 ()) (.inl ⟨"d","d"⟩))) (Vc (Vv 6 ()) Vn)) ⟨c+17*j,Jj ns c free,"s",p,"s"⟩
  ·show Vz (Z1 ?_);show Vp (Vc (Vp (Vc (JW (PDL.pd (Zv G5 l (Vc (Vv 0 ()) Vn) ⟨ns,(),a,()⟩)) (Vv 3 ()) (kix ns u)) (Vc (W2 T.bTup (Vv 7 ()) (.inl ())) Vn)) (Vl "s")) (Vc (W2 T.bTup (Vv 4 ()) (.inl ())) Vn)) (Vl "s")
end
def OX(ns:List Int):Nat:=if mix (cell ns 3) 9479 7=3 then 9 else 5
def Bm(ns:List Int):Bool:=decide (cell ns 2 % 3=0)
def cutR(ns:List Int):List Int:=O3 ns (-4) (-(4+(OX ns:Int)))
def rulesR(ns:List Int):List Ru:=(cutR ns).map λc=>rule ns c (Bm ns)
def Qfk(ns:List Int):List D:=(rulesR ns).map Ru.d
def Ub{α β:Type}(f:α->β)(l:List α)(lo hi:Option Int):O3 (l.map f) lo hi=(O3 l lo hi).map f:=by
 unfold O3
 ext
def Qiy{α:Type}(l:List α)(a k:Nat):(O3 l (-(a:Int)) (-((a:Int)+(k:Int)))).length<=k:=by
 let e:((a:Int)+(k:Int))=((a+k:Nat):Int):="o"
 unfold O3;rw[e,HT.Qfe,HT.Qfe,Z6,Qqf];omega
def Qtj(ns:List Int):OX ns<=9:=by unfold OX;grind
def Qux(ns:List Int):(cutR ns).length<=9:=Qx (Qiy ns 4 (OX ns)) (Qtj ns)
section
variable {P:Program} {w:World} {K:W.Frag} {mg:Str->Option Value} {base:Heap}
def RNsT(g:List Int->List D):List D->D->Prop:=λds d=>∃ns:List Int,ds=[scr ns]/\ns.length<=63/\d=.tup (g ns)
abbrev Qt7:List Str:=["_law_script", "_law_most", "_law_free"]
def Qag:Vf Qt7 ["_law_script"] (Vs Qak):=⟨(),(),(),"k",(),"k","k"⟩
def Qse(T:Txt K mg)(F:Fd K mg "_law_rules" Qak ["_law_script"])(G1:PrD P w K mg base "_law_cell" 1 Ya RCell)(G3:PrD P w K mg base "_law_mix" 1 Qbn RMix)(GL:PrD P w K mg base "_law_rule" 5 Oq RLRule):PrD P w K mg base "_law_rules" 6 ["_law_script"] (RNsT Qfk):=by
 show UF (N:=Qt7) F Qag "d" λf Kn A outer s H E l d g j _=>?_
 let⟨ns,rfl,a,rfl⟩:=j;let b:=g.mono (show 1<=5 by decide);show Vq (Zi (i:=1) (d:=.int 5) Vi Qag.nd) ?_;show Vq (m:=true) (τ1:=[.arg (scr ns),.any (.int (OX ns:Nat)),.no]) ?_ ?_
 ·show Yx (Qk9 a T.bLen G1 G3 b (λp=>Vv 0 ())) (λh=>?_) (λh=>?_)
  ·let e:OX ns=9:=Qh (Qo5 h);rw[e];show Vz (Zi (i:=1) (d:=.int 9) Vi Qag.nd)
  ·let e:OX ns=5:=Qc (Qjt h);rw[e];show ZY
 show Vq (Zi (i:=2) (d:=.bl (Bm ns)) (Qzh (Qun (Qcg (k:=2) G1 b (Vv 0 ()) Vi) Vi "d") Vi) Qag.nd) ?_;let e:Qfk ns=(O3 (ns.map D.int) (-4) (-(4+(OX ns:Int)))).map (λd=>match d with|.int c=>(rule ns c (Bm ns)).d|d=>d):=by
  rw[Ub];simp[Qfk,rulesR,cutR,QL,Ju]
 rw[e];let hl:=Qux ns;show Vz (Z1 (W2 T.bTup (PDL.pd (Zu () (ZU (PDL.pd (Qc8 (Vv 0 ()) (GE Vi) (GE (ZF Vi (Vv 1 ())))))) ?_ λd hd cl C s H ex=>?_)) (.inl ())))
 ·rw[Ub,Qb];show Vl (Qx hl "d")
 ·rw[Ub]at hd;let⟨c,_,rfl⟩:=Q4.mp hd;show Z8 GL g (Vc (Vv 1 ()) (Vc (Vv 0 ()) (Vc (Vv 3 ()) Vn))) ⟨ns,c,Bm ns,(),a,()⟩
end
end K07
namespace L2
open PySem PySem.Spec PyProof.Rows
section
variable {κ:Type} [DecidableEq κ]
def UK(Kv:List (κ×V))(k:κ):Option V:=(Kv.find? λkv=>decide (kv.1=k)).map (·.2)
def GX(Kv:List (κ×V))(k:κ)(v:V):List (κ×V):=
 if(Kv.any λkv=>decide (kv.1=k))=true then Kv.map (λkv=>if kv.1=k then(kv.1,v)else kv)else Kv++[(k,v)]
def BC{k:κ}(e:p.1=k):UK (p::r) k=-p.2:=by simp[UK,Yg,e]
def UJ{k:κ}(e: ¬ p.1=k):UK (p::r) k=UK r k:=by simp[UK,Yg,e]
theorem Qh8(k:κ):∀Kv:List (κ×V),(Kv.any λkv=>decide (kv.1=k))=(UK Kv k).isSome
 |[]=>rfl|p::r=>by
  rw[Oc]
  by_cases e:p.1=k
  ·simp only[BC e,Wh e,Bool.true_or,Option.isSome_some]
  ·rw[UJ e,QV e,Bool.false_or];show Qh8 k r
def Qa0(Kv:List (κ×V))(k:κ)(v:V):(GX Kv k v).length<=Kv.length+1:=by
 unfold GX;split
 ·rw[Qb];lia
 ·rw[QG,Qz,UH];lia
def RelO.isSome_eq(r:RelO o u):o.isSome=u.isSome:=by
 cases o with
 |none=>cases u with
  |none=>rfl|some _=>show((r)).elim
 |some _=>cases u with
  |none=>show((r)).elim|some _=>rfl
def RelO.getD(r:RelO o u)(rd:RelV d d'):RelV (o.getD d) (u.getD d'):=by
 cases o with
 |none=>cases u with
  |none=>show rd|some _=>show((r)).elim
 |some _=>cases u with
  |none=>show((r)).elim|some _=>show r
def KV.val{Kv:List (κ×V)}{vs:List (κ×Value)}(r:KV Kv vs)(k:κ):RelO (UK Kv k) (valueAt vs k):=by
 unfold KV at r
 induction r with
 |nil=>show QA| @cons p q i a h t f =>
  let⟨d,g⟩:=h
  by_cases e:p.1=k
  ·let c:q.1=k:=d.symm.trans e;let b:valueAt (q::a) k=-q.2:=by simp[valueAt,Yg,c]
   rw[BC e,b];show g
  ·let c: ¬ q.1=k:=λz=>e (d.trans z)
   let b:valueAt (q::a) k=valueAt a k:=by simp[valueAt,Yg,c]
   rw[UJ e,b];show f
def KV.any(r:KV Kv vs)(k:κ):(Kv.any λkv=>decide (kv.1=k))=vs.any λkv=>decide (kv.1=k):=by
 induction r with
 |nil=>rfl|cons h t a=>ext
def KV.repl(r:KV Kv vs)(k:κ)(ry:RelV y u):
  KV (Kv.map λkv=>if kv.1=k then(kv.1,y)else kv) (vs.map λkv=>if kv.1=k then(kv.1,u)else kv):=by
 induction r with
 |nil=>show .nil| @cons p q b c h t a =>
  show .cons ?_ a
  grind
def KV.put(r:KV Kv vs)(k:κ)(ry:RelV y u):KV (GX Kv k y) (stored vs k u):=by
 unfold GX stored;rw[r.any k]
 by_cases e:(vs.any λa=>decide (a.1=k))=true
 ·rw[Qh e,Qh e];show r.repl k ry
 ·rw[Qc e,Qc e];show Paired.snoc r ⟨(),ry⟩
def KV.keys{vs:List (κ×Value)}(r:KV Kv vs):Kv.map (·.1)=vs.map (·.1):=by
 induction r with
 |nil=>rfl|cons h t a=>ext
def KV.length(r:KV Kv vs):Kv.length=vs.length:=Qvl r
end
def Qna(r:RelV (kV k) u):(JI P w).is k u=true:=by
 cases k with
 |inl i=>let⟨t,e⟩:=((r));subst e;show OW P w i t
 |inr x=>let⟨t,e⟩:=((r));subst e;show UW P w x t
theorem Qe2:∀{ks:List Key}{us:List Value},Vals (ks.map kV) us->ItemsAre (JI P w) ks us
 |[],_,r=>by cases r;show .nil
 |k::ks,_,r=>by
  cases r with
  |cons h t=>show .cons (Qna h) (Qe2 t)
abbrev KT(H:Hp):List (List Key×V)->List (List Key×Addr×Value)->Prop:=Paired λp q=>p.1=q.1/\H q.2.1=-(.tup (p.1.map kV))/\RelV p.2 q.2.2
def KT.val(r:KT H Kv xs)(k:List Key):RelO (UK Kv k) ((atKey xs k).map (·.2)):=by
 induction r with
 |nil=>show QA| @cons p q i a h t f =>
  let⟨d,_,g⟩:=h
  by_cases e:p.1=k
  ·let c:=d.symm.trans e;let b:atKey (q::a) k=-q.2:=by simp[atKey,Yg,c]
   rw[BC e,b];show g
  ·let c: ¬ q.1=k:=λz=>e (d.trans z)
   let b:atKey (q::a) k=atKey a k:=by simp[atKey,Yg,c]
   rw[UJ e,b];show f
def KT.repl{H:Hp}{Kv:List (List Key×V)}{xs:List (List Key×Addr×Value)}(r:KT H Kv xs)(k:List Key){y:V}{u:Value}(ry:RelV y u):
  KT H (Kv.map λkv=>if kv.1=k then(kv.1,y)else kv) (xs.map (putAt k u)):=by
 induction r with
 |nil=>show .nil| @cons p q d f h t c =>
  rw[Qw,Qw];show .cons ?_ c;let⟨a,b,h3⟩:=h;unfold putAt
  by_cases e:p.1=k
  ·rw[Qh e,Qh (a.symm.trans e)];show⟨a,b,ry⟩
  ·rw[Qc e,Qc (λz=>e (a.trans z))];show⟨a,b,h3⟩
def KT.put{H:Hp}{Kv:List (List Key×V)}{xs:List (List Key×Addr×Value)}(r:KT H Kv xs)(k:List Key){b:Addr}{y:V}{u:Value}(hb:H b=-(.tup (k.map kV)))(ry:RelV y u):
  KT H (GX Kv k y) (storedH xs k b u):=by
 let e:(Kv.any λa=>decide (a.1=k))=(atKey xs k).isSome:=by
  rw[Qh8,(r.val k).isSome_eq,Option.isSome_map]
 unfold GX storedH;rw[e]
 by_cases q:(atKey xs k).isSome=true
 ·rw[Qh q,Qh q];show r.repl k ry
 ·rw[Qc q,Qc q];show Paired.snoc r ⟨(),hb,ry⟩
def KT.keeps(r:KT H Kv xs)(ht:∀b ys,H b=-(.tup ys)->H' b=-(.tup ys)):KT H' Kv xs:=
 Paired.mapP r λ_ _ z=>⟨z.1,ht _ _ z.2.1,z.2.2⟩
section
variable {P:Program} {w:World} {H:Hp} {h:Heap} {a:Addr}
def Qz3(ok:HOk P w H h)(e:Rd H a u):ObjOk P w H h a u:=e.ok ok
def Qa5(ok:HOk P w H h)(e:Rd H a (.dK Kv)):Kv.length<=sizeLine/\(a==sysModules)=false/\∃vs,KV Kv vs/\h.DictOf (JI P w) a vs:=
 (Qz3 ok e)
def Quh(ok:HOk P w H h)(e:H a=-(.dK Kv)):Kv.length<=sizeLine/\(a==sysModules)=false/\∃vs,KV Kv vs/\h.DictOf (JI P w) a vs:=Qa5 ok (.inl e)
def Qg5(ok:HOk P w H h)(e:H a=-(.tup (ks.map kV))):(tupleKind (JI P w)).is h ks a:=by
 let⟨_,Kw,r,o,b,c,n,h3⟩:=((ok a _ e));show⟨o,Kw.toArray,n,b,c,h3,by simpa using Qe2 r⟩
def Qis{Kv:List (List Key×V)}(ok:HOk P w H h)(e:Rd H a (.dT Kv)):Kv.length<=sizeLine/\(a==sysModules)=false /\
  ∃xs,KT H Kv xs/\h.DictOfH (tupleKind (JI P w)) a xs:=by
 let⟨z,y,xs,r,o,c,d,f,g,h3,h4,h5⟩:=(show ObjOk P w H h a (.dT Kv)from Qz3 ok e);show⟨z,y,xs,r,o,c,d,f,g,h3,h4,λx hx=>?_,h5⟩;let all:∀{l:List (List Key×V)}{m:List (List Key×Addr×Value)},KT H l m->∀x∈m,(tupleKind (JI P w)).is h x.1 x.2.1:=by
  intro l m q
  induction q with
  |nil=>intro x hx;show nomatch hx| @cons p q j k b t i =>
   intro x hx;rcases Qe.mp hx with e|hx
   ·subst e;show Qg5 ok (by rw[<-b.1];show b.2.1)
   ·show i x hx
 show all r x hx
def Jeh(ok:HOk P w H h)(e:H a=-(.dT Kv)):Kv.length<=sizeLine/\(a==sysModules)=false /\
  ∃xs,KT H Kv xs/\h.DictOfH (tupleKind (JI P w)) a xs:=Qis ok (.inl e)
end
def DGet(H:Hp)(a:Addr)(y:V)(r:Option V):Prop:=
 (∃Kv k,Rd H a (.dK Kv)/\y=kV k/\r=UK Kv k)\/∃Kv k b,Rd H a (.dT Kv)/\y=.ref b/\H b=-(.tup (k.map kV))/\r=UK Kv k
def DPut(H:Hp)(a:Addr)(y v:V)(H':Hp):Prop:=
 (∃Kv k,H a=-(.dK Kv)/\y=kV k/\Kv.length<sizeLine/\H'=upd H a (.dK (GX Kv k v))) \/
 ∃Kv k b,H a=-(.dT Kv)/\y=.ref b/\H b=-(.tup (k.map kV))/\Kv.length<sizeLine/\H'=upd H a (.dT (GX Kv k v))
section
variable {X:Cx} {Kz:Kg} {σ:St} {H:Hp} {s:Shared} {a:Addr} {y v:V} {u r:Value} {o:Option V} {A:Around} {E:Kh}
def Inv.big(I:Inv X Kz σ H s):sysModules<s.heap.objs.size:=by
 let h:=(I.mod.glob.keeps I.bk).lt;show Nat.lt_trans "d" h
def Qpy{Q:Kh}(hu:A.units+1<cLine)(I:Inv X Kz σ H s)(g:DGet H a y (-v))(ry:RelV y u)(h:∀w' s',Inv X Kz σ H s'->RelV v w'->Q w' s'):
  wpAny (model X.prog X.w) A (getItem (.ref a) u) Q E s:=by
 rcases g with⟨Kv,k,e,f,l⟩|⟨Kv,k,b,e,f,n,l⟩
 ·subst f;let⟨z,hd,q,c,i⟩:=Qa5 I.hok e;let⟨w',j,d⟩:=RelO.some_of (v:=v) (o:=valueAt q k) (by rw[l];show c.val k);show wpAny_getItem_of (Qna ry) i.mapOf j (h w' _ (I.tok _) d)
 ·subst f;cases(show u=Value.ref b from ry);let⟨z,hd,r,c,i⟩:=Qis I.hok e;let⟨w',j,d⟩:=RelO.some_of (v:=v) (o:=(atKey r k).map (·.2)) (by rw[l];show c.val k);let⟨p,t,m⟩:=Qb1.mp j;show wpAny_getItem_heap (Qvo hu) (Qg5 I.hok n) i t ?_;rw[m];show h w' _ (I.tok _) d
def Qgm(I:Inv X Kz σ H s)(mu:Mut (H a))(hs:Heap.SameBut a s.heap h')(he:∃q,h'.get? a=-q)(new:ObjOk X.prog X.w (upd H a ob) h' a ob):
  Inv X Kz σ (upd H a ob) {s with heap:=h',toks:=t'}:=
 I.write mu (.inl ()) (λb q hb z=>(hs.2 b hb).trans z) he new
def Qui(z:Kv.length<=sizeLine)(hd:(a==sysModules)=false)(rel:KV Kv vs)(dd:h'.DictOf (JI P w) a vs):
  ObjOk P w H' h' a (.dK Kv):=⟨z,hd,vs,rel,dd⟩
def Qpx{H':Hp}{Q:Unit->Shared->Prop}(hu:A.units+1<cLine)(I:Inv X Kz σ H s)(g:DPut H a y v H')(ry:RelV y u)(rv:RelV v r)(h:∀s',Inv X Kz σ H' s'->Q ⟨⟩ s'):
  wpAny (model X.prog X.w) A (setItem (.ref a) u r) Q E s:=by
 rcases g with⟨Kv,k,e,j,l,m⟩|⟨Kv,k,b,e,j,t,l,m⟩
 ·subst j m;let⟨z,hd,vs,d,n⟩:=Quh I.hok e;let o:vs.length<=sizeLine:=by rw[<-d.length];show z
  let hl:(GX Kv k v).length<=sizeLine:=by let:=Qa0 Kv k v;lia
  show wpAny_setItem_pairs (hsz:=o) (Qna ry) n λw f p=>h _ ?_
  let he:∃q,w.get? a=some q:=let⟨q,_,_,i,_⟩:=f;⟨q,i⟩;show Qgm I (by rw[e];show QA) p he (Qui hl hd (d.put k rv) f)
 ·subst j m;cases(show u=Value.ref b from ry);let⟨z,hd,xs,d,n⟩:=Jeh I.hok e;let o:xs.length<=sizeLine:=by rw[<-Qvl d];show z
  let hl:(GX Kv k v).length<=sizeLine:=by let:=Qa0 Kv k v;lia
  show wpAny_setItem_heap (hsz:=o) (Qvo hu) (Qg5 I.hok t) n λw f p=>h _ ?_
  let⟨q,es,ep,i,h2,h3,h4,_,h5⟩:=f;show Qgm I (by rw[e];show QA) p ⟨q,i⟩ ⟨hl,hd,_,(d.put k t rv).keeps λc ys x=>?_,q,es,ep,i,h2,h3,h4,h5⟩;rw[Qm (YC x e (λz=>nomatch z))];show x
end
def NoSl(i:Expr):Prop:=∀ov iv,subscripted i false ov iv=operate [ov,iv] (getItem ov iv)
def Qw4{T id:String}
  (hl:typeLookup (.type T) "__getitem__"=pure (-(.builtin id))) (hs:NoSl slice)
  (h:wpAny (model prog w) A (eval value env) (λo Km=>wpAny (model prog w) A (eval slice env) (λi s₂=>s₂.TypeIs o T/\wpAny (model prog w) A (getItem o i) Q E s₂) E Km) E s) :
  wpAny (model prog w) A (eval (.Subscript value slice pos) env) Q E s:=by
 show Subscript_ (Jn h (λo Km d=>Jn d (λi s₂ a=>?_) λ_ _ x=>x) λ_ _ x=>x);let⟨f,a⟩:=a;show Q0 ?_;show Q0 (YV f hl ?_);let c:wpAny (model prog w) A (subscripted slice false o i) (λr b=>wpAny (model prog w) A (letTemporaryGo value o r >>= λ_=>pure r) Q E b) E s₂:=by
  rw[hs o i];show wpAny_operating (Jn a (λr b e=>Q0 (wpAny_letTemporaryGo (Q2 e))) λ_ _ x=>x)
 first
  |show Q2 (Q0 c)|show Q0 (Q2 (Q0 c))|show Q0 c
def Qit{X:Cx}{Kz:Kg}{σ:St}{H:Hp}{s:Shared}{a:Addr}{y:V}{o:Option V}(I:Inv X Kz σ H s)(g:DGet H a y o):s.TypeIs (.ref a) "dict":=by
 rcases g with⟨Kv,k,e,_,_⟩|⟨Kv,k,b,e,_,_,_⟩
 ·let⟨_,_,d,_,c⟩:=Qa5 I.hok e;show c.typeIs
 ·let⟨_,_,f,_,c⟩:=Qis I.hok e;show c.typeIs
def Jd6(td ty:TE):TE:=λσ H Q=>td σ H λx H1=>ty σ H1 λy H2=>∃a v,x=.ref a/\DGet H2 a y (-v)/\Q v H2
def Jdf(td ty tv:TE):TS:=λD σ H=>tv σ H λv H1=>td σ H1 λx H2=>ty σ H2 λy H3=>∃a H4,x=.ref a/\DPut H3 a y v H4/\D.nx σ H4
section
variable {X:Cx} {o i e value:Expr} {pos pos' tpos:Pos} {td ty tv:TE}
def Qwz(hu:X.A.units+1<cLine)(ho:PE X o td)(hi:PE X i ty)(hs:NoSl i):PE X (.Subscript o i pos) (Jd6 td ty):=by
 intro Kz s c H Q I h;show Qw4 PySem.F.slot_dict_getitem.lookup hs (thn (ho Kz s c H _ I h) λu d ⟨x,H1,I1,e,f⟩=>thn (hi Kz d c H1 _ I1 f) λl m ⟨y,H2,I2,j,a,v,ex,g,k⟩=>?_);subst ex;obtain rfl:u=Value.ref a:=e;show⟨Qit I2 g,Qpy hu I2 g j λn p I3 b=>⟨v,H2,I3,b,k⟩⟩
def Qwo(hu:X.A.units+1<cLine)(ho:PE X o td)(hi:PE X i ty)(hv:PE X value tv)(hs:swapsWith value (-(.Subscript o i pos')) pos.line X.env=pure false):
  PS X (.Assign [.Subscript o i pos'] value pos) (Jdf td ty tv):=by
 intro Kz s b H D I h;show wpAny_Assign_Subscript (thn (hv Kz s b H _ I h) λr c ⟨v,H1,I1,d,e⟩=>thn (ho Kz c b H1 _ I1 e) λu f ⟨x,H2,I2,j,k⟩=>thn (hi Kz f b H2 _ I2 k) λn p ⟨y,H3,I3,l,a,H4,ex,g,m⟩=>?_) hs;subst ex;obtain rfl:u=Value.ref a:=j;show Qpx hu I3 g l d λq I4=>⟨b,H4,I4,m⟩
end
def Quj{P:Program}{w:World}{H:Hp}(h:Heap)(hb:sysModules<h.objs.size):ObjOk P w H (h.push {cls:=.type "dict",data:=.dict #[]}) h.objs.size (.dK []):=
 ⟨QJ _,JO.mpr (Jd (Qq hb)),[],.nil,Heap.DictOf.new h⟩
def Ja3:TE:=λ_ H Q=>∀p,H p=none->Q (.ref p) (upd H p (.dK []))
section
variable {X:Cx} {pos:Pos}
def Qs7:PE X (.Dict [] [] pos) Ja3:=λKz s b H Q I h =>
 wpAny_Dict_empty ⟨.ref s.heap.objs.size,_,I.laid (a:=s.heap.objs.size) (o:=.dK []) (t':=s.toks) (λ_ _ q=>Q1 _ q) (Q5 _) (Quj s.heap I.big),(),h _ (I.hok.fresh (Q5 _))⟩
end
structure M2(X:Cx)(o:Expr)(m:Str)(apos:Pos)(e f:Expr)(cpos:Pos):Prop where
 base:attributeBase o m X.env (eval o X.env)=eval o X.env
 few:((backTo cpos (starEach [e,f] X.env)).all (λx=> !x.1)&&(backToKw cpos (keywordEach [] X.env)).all (λx=>x.1.isSome)
  && decide (([e,f]:List Expr).length+([]:List Keyword).length+(if([]:List Keyword).isEmpty then 0 else 1)<30))=true
 line:(apos.endLine==cpos.line)=true
 trees:backTo cpos (starEach [e,f] X.env)=[(false,eval e X.env),(false,eval f X.env)]
def IsD(H:Hp)(a:Addr):Prop:=(∃Kv,Rd H a (.dK Kv))\/∃Kv,Rd H a (.dT Kv)
def Qtw{X:Cx}{Kz:Kg}{σ:St}{H:Hp}{s:Shared}{a:Addr}(I:Inv X Kz σ H s)(d:IsD H a):
  s.TypeIs (.ref a) "dict" /\(∀b,Value.ref a=.ref b->∃ob,s.heap.get? b=-ob/\ob.dict=none)/\(a==sysModules)=false:=by
 rcases d with⟨Kv,e⟩|⟨Kv,e⟩
 ·let⟨_,hd,h,_,c⟩:=Qa5 I.hok e;show⟨c.typeIs,λb q=>?_,hd⟩;cases q;let⟨ob,_,_,f,g,_⟩:=c;show⟨ob,f,g.2.1⟩
 ·let⟨_,hd,i,_,c⟩:=Qis I.hok e;show⟨c.typeIs,λb q=>?_,hd⟩;cases q;let⟨ob,_,_,f,g,_⟩:=c;show⟨ob,f,g.2.1⟩
section
variable {X:Cx} {Kz:Kg} {σ:St} {H:Hp} {s:Shared} {a:Addr} {y d:V} {u r:Value} {o:Option V} {A:Around} {E:Kh}
def Jci{Q:Kh}(hu:A.units+1<cLine)(I:Inv X Kz σ H s)(g:DGet H a y o)(ry:RelV y u)(rd:RelV d r)(h:∀w' s',Inv X Kz σ H s'->RelV (o.getD d) w'->Q w' s'):
  wpAny (model X.prog X.w) A (call (.builtin "dict.get") [.ref a,u,r]) Q E s:=by
 rcases g with⟨Kv,k,e,i,l⟩|⟨Kv,k,b,e,i,j,l⟩
 ·subst i;let⟨z,hd,n,c,f⟩:=Qa5 I.hok e;show UC Zm f.typeIs Qb0 (Qa8 _ _ _) (meets_dict_get_default (JI X.prog X.w) a (Qna ry) hd r) ⟨_,f.mapOf,h _ _ (I.tok _) ?_⟩;rw[l];show(c.val k).getD rd
 ·subst i;cases(show u=Value.ref b from ry);let⟨z,hd,m,c,f⟩:=Qis I.hok e;show UC Zm f.typeIs Qb0 (Qa8 _ _ _) (meetsH_dict_get_default (tupleKind (JI X.prog X.w)) a b hd r) ⟨Qvo hu,k,m,Qg5 I.hok j,f,h _ _ (I.tok _) ?_⟩;rw[l];show(c.val k).getD rd
end
def Ja4(td ty tx:TE):TE:=λσ H Q=>td σ H λx H1=>∃a,x=.ref a/\IsD H1 a/\ty σ H1 λy H2=>tx σ H2 λz H3=>∃o,DGet H3 a y o/\Q (o.getD z) H3
section
variable {X:Cx} {o e f:Expr} {apos cpos:Pos} {td ty tx:TE}
def Qhy(hu:X.A.units+1<cLine)(ho:PE X o td)(he:PE X e ty)(hf:PE X f tx)(m:M2 X o "get" apos e f cpos):PE X (.Call (.Attribute o "get" apos) [e,f] [] cpos) (Ja4 td ty tx):=by
 intro Kz s b H Q I h;show wpAny_Call_method m.base m.few m.line Z4 Zm PySem.F.type_dict_get (thn (ho Kz s b H _ I h) λu i ⟨x,H1,I1,j,a,ex,d,k⟩=>?_);subst ex;obtain rfl:u=Value.ref a:=j;let⟨l,n,_⟩:=Qtw I1 d;show⟨l,n,?_⟩;rw[m.trees];show WN () (Qoa (Qvu (thn (he Kz i b H1 _ I1 k) λw p ⟨y,H2,I2,q,r⟩ =>
  Qvu (thn (hf Kz p b H2 _ I2 r) λfv s3 ⟨z,H3,I3,t,ov,g,v⟩=>Calls.spliced_nil ?_))))
 show Jci hu I3 g q t λw' s4 I4 c=>⟨_,H3,I4,c,v⟩
end
section
variable {X:Cx} {Kz:Kg} {σ:St} {H:Hp} {s:Shared} {a:Addr} {Kv:List (Key×V)} {A:Around} {E:Kh}
def Qur{Q:Kh}(I:Inv X Kz σ H s)(e:Rd H a (.dK Kv))(h:∀p s',H p=none->Inv X Kz σ (upd H p (.dK Kv)) s'->Q (.ref p) s'):wpAny (model X.prog X.w) A (call (.type "dict") [.ref a]) Q E s:=by
 let⟨z,hd,j,c,g⟩:=Qa5 I.hok e;show kt_call_dict hd g (by rw[<-c.length];show z) λk d i=>?_
 show h _ _ (I.hok.fresh (Q5 _)) (I.laid (a:=s.heap.objs.size) (o:=.dK Kv) (t':=s.toks) (λb q f=>?_) (Q5 _) (Qui z (JO.mpr (Jd (Qq I.big))) c d));show(i.2 b (Qq (Qj f))).trans (Q1 _ f)
end
end L2
namespace ZP
open PySem
section
variable {prog:Program} {w:World} {A:Around} {E:Kh} {s:Shared}
open Builtin.SmallTypes in
def draw_some(hj:s.heap.IsTupleIter j q n)(hq:s.heap.IsTuple q us)(hv:us[n]?=-v)
  (go:∀h',h'.IsTupleIter j q (n+1)->Heap.SameBut j s.heap h'->Q v {s with heap:=h'}):wpAny (model prog w) A (nextOf (.ref j)) Q E s:=by
 let⟨g,b,c,a⟩:=id hj;let⟨h,d,_,e,f⟩:=hq;show Q0 (Je hj.typeIs Yb (J6 Yb hj.typeIs F.entry_tuple_iterator_next ?_ (F.args_tuple_iterator_next_1 _)));change wpAny (model prog w) _ (field (.ref j) 0 >>= _) _ _ s;show Q0 (Jx b a () ?_);rw[Qc ((λz=>nomatch z))];show Q0 (Jx b a () ?_);show Q0 (Jl d f ?_);simp only[Zz,hv];show Q0 (Qa7 b a "s" (Q2 ⟨v,(),Q2 (go _ ?_ (QT ..))⟩));show⟨_,Jt _ b (Qjv (ZA a _)),(Qzo ..).trans c,?_⟩;rw[ZA a];rfl
open Builtin.SmallTypes in
def draw_none(hA:A.handled=none)(hj:s.heap.IsTupleIter j q n)(hq:s.heap.IsTuple q us)(hv:us[n]?=none)
  (out:∀h' e,Heap.ExtBut j s.heap h'->(∃o,h'.get? e=-o/\o.cls=.type "StopIteration")->E (.ref e) {s with heap:=h'}):wpAny (model prog w) A (nextOf (.ref j)) Q E s:=by
 let⟨g,a,h,b⟩:=id hj;let⟨i,c,_,d,f⟩:=hq;show Q0 (Je hj.typeIs Yb (J6 Yb hj.typeIs F.entry_tuple_iterator_next ?_ (F.args_tuple_iterator_next_1 _)));change wpAny (model prog w) _ (field (.ref j) 0 >>= _) _ _ s;show Q0 (Jx a b () ?_);rw[Qc ((λz=>nomatch z))];show Q0 (Jx a b () ?_);show Q0 (Jl c f ?_);simp only[Zz,hv];show Q0 (WD (Q0 (Qa7 a b "s" ?_)));show Q0 ?_;show Q0 (Ja ?_ (by size_fits));show Q0 (Qo3 (by first|rfl | (rfl)) ?_);show Ja ?_ (by size_fits);show Q0 (wpAny_handled ?_);rw[(hA)];show Q0 (Q2 (wpAny_throw ?_));show out _ _ (((QT ..).extBut.push _).push _) ⟨_,Q9 _ (),()⟩
structure At(h:Heap)(z ti to j1 j2 q1 q2:Addr)(n:Nat):Prop where
 z:IsZip h z ti to .none
 ti:IsPair h ti (.ref j1) (.ref j2)
 to:∃a b,IsPair h to a b
 j1:h.IsTupleIter j1 q1 n
 j2:h.IsTupleIter j2 q2 n
open Builtin.SmallTypes in
def Qqh{n:Nat}{Q:Kh}(D:ZipApart z ti to j1 j2 q1 q2)(st:At s.heap z ti to j1 j2 q1 q2 n)(h1:s.heap.IsTuple q1 us)(h2:s.heap.IsTuple q2 vs)
  (hu:us[n]?=-u) (hv:vs[n]?=-v)
  (go:∀h',IsZip h' z ti to (rawInt s.heap.objs.size)->IsPair h' to u v->h'.IsTupleIter j1 q1 (n+1)->h'.IsTupleIter j2 q2 (n+1)->IsPair h' s.heap.objs.size u v ->
   (∀c o,c≠z->c≠to->c≠j1->c≠j2->s.heap.get? c=-o->h'.get? c=-o)->Q (.ref s.heap.objs.size) {s with heap:=h'}) :
  wpAny (model prog w) A (Builtin.«zip.__next__» ⟨[.ref z],[]⟩) (λfin s'=>∃v,fin=.done (.ret v)/\Q v s') E s:=by
 let⟨k,hti,⟨a,b,hto⟩,hj1,hj2⟩:=st;change wpAny (model prog w) _ (field (.ref z) 2 >>= _) _ _ _;show Q0 (Jx k () () ?_);show Q0 (Jx k () () ?_);show Q0 (Jl hti () ?_);show Q0 ?_;show Q0 (Jx k () () (Q2 ?_));show Q0 (WD (Q0 (Jx k () () ?_)));show Q0 (Jz k "s" λk1 z1 e=>?_);let z1':=z1;show Q0 ?_;show Q0 (Q0 (Qvj ?_));show Q0 (draw_some (hj1.extBut e.extBut D.i1z) (h1.extBut e.extBut D.l1z) hu λk2 t2 i=>Q2 ?_);let o2:=i.extBut _ _ D.TOi1 (e.extBut _ _ D.TOz hto);show Q0 (Jl o2 () (Q0 (Qo2 o2 λk3 o3 j=>?_)));let o3':=o3;show Q0 (Uc (Q2 (Q0 (Q0 (Qvj ?_)))));show Q0 (draw_some (((hj2.extBut e.extBut D.i2z).extBut i.extBut D.i12.symm).extBut j.extBut D.TOi2.symm) (((h2.extBut e.extBut D.l2z).extBut i.extBut D.l2i1).extBut j.extBut D.l2TO) hv λk4 t4 l=>Q2 ?_);let o4:=l.extBut _ _ D.TOi2 o3';show Q0 (Jl o4 () (Q0 (Qo2 o4 λm o5 p=>?_)));let q:IsPair m to u v:=o5;show Q0 (Uc (Q2 (Q2 (Q0 (Jl q () (Q0 (Qo4 ?_)))))));let d:m.objs.size=s.heap.objs.size:=by rw[p.1,l.1,j.1,i.1,e.1]
 let z5:=p.extBut _ _ D.TOz.symm (l.extBut _ _ D.i2z.symm (j.extBut _ _ D.TOz.symm (i.extBut _ _ D.i1z.symm z1')));let f:∀c o,c≠z->c≠to->c≠j1->c≠j2->s.heap.get? c=-o->m.get? c=some o:=λc o h x n3 n4 g=>p.extBut _ _ x (l.extBut _ _ n4 (j.extBut _ _ x (i.extBut _ _ n3 (e.extBut _ _ h g))))
 let j15:=((t2.extBut j.extBut D.TOi1.symm).extBut l.extBut D.i12).extBut p.extBut D.TOi1.symm;let j25:=t4.extBut p.extBut D.TOi2.symm;let r:=Qj z5;show Q0 ?_;let z6:IsZip (m.push {cls:=.type "tuple",data:=.seq #[u,v]}) z ti to .ellipsis:=Q1 _ z5;show Q0 (Jz z6 "s" λk7 z7 e7=>?_);let z7':=z7;show Jz z7' "s" λk8 z8 e8=>?_
 let t:=z8;let y:∀c o,c≠z->m.get? c=-o->k8.get? c=some o:=λc o h g=>e8.extBut _ _ h (e7.extBut _ _ h (Q1 _ g))
 let t8:=e8.extBut _ _ (Ze r) (e7.extBut _ _ (Ze r) (Q9 _ ()));rw[d]at t t8;show Q2 ⟨_,(),?_⟩;rw[d];let⟨x1,y1,r1⟩:=j15;let⟨x2,y2,r2⟩:=j25;show go k8 t (y _ _ D.TOz q) ⟨x1,y _ _ D.i1z y1,r1⟩ ⟨x2,y _ _ D.i2z y2,r2⟩ t8 λc o h x n3 n4 g=>y c o h (f c o h x n3 n4 g)
open Builtin.SmallTypes in
def Qqi{n:Nat}(hA:A.handled=none)(D:ZipApart z ti to j1 j2 q1 q2)(st:At s.heap z ti to j1 j2 q1 q2 n)(h1:s.heap.IsTuple q1 us)(h2:s.heap.IsTuple q2 vs)
  (fin:us[n]?=none\/vs[n]?=none)
  (out:∀h' e,(∀c o,c≠z->c≠to->c≠j1->c≠j2->s.heap.get? c=-o->h'.get? c=-o)->(∃o,h'.get? e=-o/\o.cls=.type "StopIteration")->E (.ref e) {s with heap:=h'}) :
  wpAny (model prog w) A (Builtin.«zip.__next__» ⟨[.ref z],[]⟩) Q E s:=by
 let⟨i,m,⟨a,b,p⟩,j,q⟩:=st;change wpAny (model prog w) _ (field (.ref z) 2 >>= _) _ _ _;show Q0 (Jx i () () ?_);show Q0 (Jx i () () ?_);show Q0 (Jl m () ?_);show Q0 ?_;show Q0 (Jx i () () (Q2 ?_));show Q0 (WD (Q0 (Jx i () () ?_)));show Q0 (Jz i "s" λk1 z1 d=>?_);let k:=z1;show Q0 ?_;show Q0 (Q0 (Qvj ?_));cases hu:us[n]? with
 |none =>
  show Q0 (draw_none hA (j.extBut d.extBut D.i1z) (h1.extBut d.extBut D.l1z) hu λk2 e f ⟨r,t,v⟩=>?_);let z2:=f _ _ D.i1z.symm k;let ne:e≠z:=λy=>by ext
  show Jz z2 "s" λk3 _ h=>out k3 e (λc o l _ x _ g=>h.extBut _ _ l (f _ _ x (d.extBut _ _ l g))) ⟨r,h.extBut _ _ ne t,v⟩
 |some u =>
  let hv:vs[n]?=none:=by
   ext
  show Q0 (draw_some (j.extBut d.extBut D.i1z) (h1.extBut d.extBut D.l1z) hu λk2 t2 f=>Q2 ?_);let o2:=f.extBut _ _ D.TOi1 (d.extBut _ _ D.TOz p);show Q0 (Jl o2 () (Q0 (Qo2 o2 λk3 o3 h=>?_)));show Q0 (Uc (Q2 (Q0 (Q0 (Qvj ?_)))));show Q0 (draw_none hA (((q.extBut d.extBut D.i2z).extBut f.extBut D.i12.symm).extBut h.extBut D.TOi2.symm) (((h2.extBut d.extBut D.l2z).extBut f.extBut D.l2i1).extBut h.extBut D.l2TO) hv λk4 e e4 ⟨r,t,v⟩=>?_);let z4:=e4 _ _ D.i2z.symm (h.extBut _ _ D.TOz.symm (f.extBut _ _ D.i1z.symm k));let ne:e≠z:=λy=>by ext
  show Jz z4 "s" λk5 _ e5=>out k5 e (λc o l n2 x n4 g=>e5.extBut _ _ l (e4 _ _ n4 (h.extBut _ _ n2 (f.extBut _ _ x (d.extBut _ _ l g))))) ⟨r,e5.extBut _ _ ne t,v⟩
def next_some(D:ZipApart z ti to j1 j2 q1 q2)(st:At s.heap z ti to j1 j2 q1 q2 n)(h1:s.heap.IsTuple q1 us)(h2:s.heap.IsTuple q2 vs)
  (hu:us[n]?=-u) (hv:vs[n]?=-v)
  (go:∀h',IsZip h' z ti to (rawInt s.heap.objs.size)->IsPair h' to u v->h'.IsTupleIter j1 q1 (n+1)->h'.IsTupleIter j2 q2 (n+1)->IsPair h' s.heap.objs.size u v ->
   (∀c o,c≠z->c≠to->c≠j1->c≠j2->s.heap.get? c=-o->h'.get? c=-o)->Q (-(.ref s.heap.objs.size)) {s with heap:=h'}):wpAny (model prog w) A (pyNext (.ref z)) Q E s:=by
 let ty:s.TypeIs (.ref z) "zip":=⟨_,st.z,()⟩;show Q0 (Z9 (Je ty Qjq (J6 Qjq ty F.entry_zip_next (Qqh D st h1 h2 hu hv λh' a b d e f g=>Q2 (go h' a b d e f g)) (F.args_zip_next_1 _))))
def next_none(hA:A.handled=none)(D:ZipApart z ti to j1 j2 q1 q2)(st:At s.heap z ti to j1 j2 q1 q2 n)(h1:s.heap.IsTuple q1 us)(h2:s.heap.IsTuple q2 vs)
  (fin:us[n]?=none\/vs[n]?=none) (go:∀h',(∀c o,c≠z->c≠to->c≠j1->c≠j2->s.heap.get? c=-o->h'.get? c=-o)->Q none {s with heap:=h'}):wpAny (model prog w) A (pyNext (.ref z)) Q E s:=by
 let ty:s.TypeIs (.ref z) "zip":=⟨_,st.z,()⟩;show Q0 (Z9 (Je ty Qjq (J6 Qjq ty F.entry_zip_next (Qqi hA D st h1 h2 fin λh' e keep ⟨o,g,c⟩=>?_) (F.args_zip_next_1 _))));show Q0 (Yi ⟨o,g,c⟩ Qo6 (Q2 (go _ keep)))
abbrev tit(q:Addr):Obj:={cls:=.type "tuple_iterator",data:=.fields #[.ref q,.int 0 0]}
abbrev g1(h:Heap)(q1:Addr):Heap:=h.push (tit q1)
abbrev g2(h:Heap)(q1 q2:Addr):Heap:=(g1 h q1).push (tit q2)
abbrev g3(h:Heap)(q1 q2:Addr):Heap:=(g2 h q1 q2).push {cls:=.type "tuple",data:=.seq #[.ref h.objs.size,.ref (g1 h q1).objs.size]}
abbrev g4(h:Heap)(q1 q2:Addr):Heap:=(g3 h q1 q2).push {cls:=.type "tuple",data:=.seq #[.none,.none]}
abbrev g5(h:Heap)(q1 q2:Addr):Heap:=(g4 h q1 q2).push {cls:=.type "zip",data:=.fields #[.none,.bool false,.bool false,.ref (g2 h q1 q2).objs.size,.ref (g3 h q1 q2).objs.size]}
def Oz(q1 q2:Addr)(us vs:Array Value):Meets (Builtin.«zip.__new__» ⟨[.type "zip",.ref q1,.ref q2],[]⟩) (λ_ R s=>s.heap.IsTuple q1 us/\s.heap.IsTuple q2 vs/\R (.ok (.ret (.ref (g4 s.heap q1 q2).objs.size))) {s with heap:=g5 s.heap q1 q2}):=
 .of_wp λprog w A R s h=>by
  let⟨a,g,d,b,os⟩:=s;let⟨c,e,h⟩:=h;let sub:=sub_zip;let f:=c;let i:Heap.IsTuple (Shared.heap ⟨a.push {cls:=.type "tuple_iterator",data:=.fields #[.ref q1,.int 0 0]},g,d,b,os⟩) q2 vs:=Heap.IsTuple.push e _
  wp_walk using YW f,YW i
  show⟨_,(),h⟩
def call_zip{q1 q2:Addr}{us vs:Array Value}{Q:Kh}(a1:s.heap.IsTuple q1 us)(a2:s.heap.IsTuple q2 vs)
  (go:∀h',At h' (s.heap.objs.size+4) (s.heap.objs.size+2) (s.heap.objs.size+3) s.heap.objs.size (s.heap.objs.size+1) q1 q2 0->(∀c o,s.heap.get? c=-o->h'.get? c=-o)->Q (.ref (s.heap.objs.size+4)) {s with heap:=h'}) :
  wpAny (model prog w) A (call (.type "zip") [.ref q1,.ref q2]) Q E s:=by
 show callType_new F.called_zip "d" (F.typeCall_zip_2 _ _) (F.newCall_zip_2 _ _) (λobj=>F.args_object_init_3 obj _ _) F.entry_zip_new (Oz q1 q2 us vs) ⟨a1,a2,?_⟩;let a:(g1 s.heap q1).objs.size=s.heap.objs.size+1:=WV ..;let b:(g2 s.heap q1 q2).objs.size=s.heap.objs.size+2:=by rw[WV,a]
 let d:(g3 s.heap q1 q2).objs.size=s.heap.objs.size+3:=by rw[WV,b]
 let f:(g4 s.heap q1 q2).objs.size=s.heap.objs.size+4:=by rw[WV,d]
 let e:(g5 s.heap q1 q2).get? (g4 s.heap q1 q2).objs.size=some _:=Q9 _ ();let g:(g5 s.heap q1 q2).get? (g3 s.heap q1 q2).objs.size=some _:=Q1 _ (Q9 _ ());let h:(g5 s.heap q1 q2).get? (g2 s.heap q1 q2).objs.size=some _:=Q1 _ (Q1 _ (Q9 _ ()));let i:(g5 s.heap q1 q2).get? (g1 s.heap q1).objs.size=some _:=Q1 _ (Q1 _ (Q1 _ (Q9 _ ())));let j:(g5 s.heap q1 q2).get? s.heap.objs.size=some _:=Q1 _ (Q1 _ (Q1 _ (Q1 _ (Q9 _ ()))));change _/\_;rw[b,d,f]at e;rw[a,b]at h;rw[d]at g;rw[a]at i;rw[f];show⟨⟨_,e,()⟩,go _ ⟨e,h,⟨_,_,g⟩,⟨_,j,(),()⟩,⟨_,i,(),()⟩⟩ λc o y=>Q1 _ (Q1 _ (Q1 _ (Q1 _ (Q1 _ y))))⟩
def apart{n q1 q2:Addr}(a1:q1<n)(a2:q2<n):ZipApart (n+4) (n+2) (n+3) n (n+1) q1 q2:=by
 constructor<;>(intro z;simp only[Addr]at *; lia)
end
end ZP
namespace L2
open PySem PySem.Spec PyProof.Rows
section
variable {X:Cx} {Kz:Kg} {σ:St} {H:Hp} {s:Shared}
def Inv.turnedL{h':Heap}{t':Nat}{fp:List Addr}(I:Inv X Kz σ H s)(k:∀b o,b∉fp->s.heap.get? b=-o->h'.get? b=-o)(hf:∀b∈fp,FpOk X Kz H b):Inv X Kz σ H {s with heap:=h',toks:=t'}:=by
 let d:∀b u,H b=-u->b∉fp:=λb u e z=>by rw[(hf b z).1]at e;cases e
 show I.step (g':=s.gens) (d':=s.drawn) (ch:=fp) (λb hb=>⟨(hf b hb).2.2.2.1,(hf b hb).2.1,(hf b hb).2.2.2.2.1,(hf b hb).2.2.2.2.2⟩) (λb o _ _ a e _=>k b o a e) (λb o _ _ a e _=>⟨o.slots,k b o a e⟩) (λ_ _ _ _ n=>n)
  (λb o a e=>⟨o,k b o a e⟩) (λ_ _ e=>e) (λ_ _ _ e=>e) (λb j e=>⟨#[],by rw[e];simp⟩) (λm f=>?_) (λb u e=>?_) I.bare
 ·let⟨o,g,h,i,r⟩:=f;show⟨o,g,h,k _ o (λz=>(hf _ z).2.1 ()) i,r⟩
 ·show(I.hok b u e).stay (λc v a q=>k c v ?_ q) (λ_ q=>q) λ_ _ q=>q
  rcases a with z|z
  ·rw[z];show d b u e
  ·show d c _ z
end
def Itz(K:W.Frag)(a b:Addr):It:=
 ⟨λi H=>∃xs ys x y,SqT K H a xs/\SqT K H b ys/\xs[i]?=-x/\ys[i]?=-y,
  λi H v H'=>∃p x y,v=.ref p/\H p=none/\H'=upd H p (.tup [x,y])/\(∀xs,SqT K H a xs->xs[i]?=-x)/\∀ys,SqT K H b ys->ys[i]?=-y,
  λi H=>∃xs ys,SqT K H a xs/\SqT K H b ys/\(xs.length<=i\/ys.length<=i)⟩
def Qqy{K:W.Frag}(D:ZipApart z ti to j1 j2 a b):
  Turn P w K (.Tuple elts k pos) (Itz K a b) [z,ti,to,j1,j2] z (λi h=>ZP.At h z ti to j1 j2 a b i) where
 mem:="s"
 obj:=λi h st c hc=>by
  let⟨hz,hti,⟨u,v,hto⟩,⟨o1,e1,_,d1⟩,⟨o2,e2,_,d2⟩⟩:=st
  grind
 keep:=λi h h' st k=>by
  let⟨hz,hti,⟨u,v,hto⟩,⟨o1,e1,r1⟩,⟨o2,e2,r2⟩⟩:=st;show⟨k _ "s" _ hz,k _ "s" _ hti,⟨u,v,k _ "s" _ hto⟩,⟨o1,k _ "s" _ e1,r1⟩,⟨o2,k _ "s" _ e2,r2⟩⟩
 item:=by
  intro X hP hw hK hc i Kz s σ H E I hf st hg;subst hP hw hK;let⟨xs,ys,x,y,q1,q2,hx,hy⟩:=hg;let⟨us,r1,p1,z1⟩:=I.tuple q1;let⟨vs,r2,p2,z2⟩:=I.tuple q2;let⟨u,hu,ru⟩:=r1.get hx;let⟨v,hv,rv⟩:=r2.get hy;show ZP.next_some D st ((p1)) ((p2)) (u:=u) (v:=v) "e" "e" λh' nz nt n1 n2 np keep=>?_
  show⟨_,(),wpAny_letOwnedTupleGo_zip nz λh2 mz sb=>?_⟩;let fresh:=I.hok.fresh (Q5 _);let lt:∀c∈[z,ti,to,j1,j2],c≠s.heap.objs.size:=λc Kl=>by
   let:∃o,s.heap.get? c=some o:=by
    let⟨hz,hti,⟨u,v,hto⟩,⟨o1,e1,r1⟩,⟨o2,e2,r2⟩⟩:=st
    grind
   let⟨o,e⟩:=this;show Qq (Qj e)
  let I0:Inv X Kz σ (upd H s.heap.objs.size (.tup [x,y])) {s with heap:=s.heap.push {cls:=.type "tuple",data:=.seq #[u,v]},toks:=s.toks}:=
   I.laid (λc o e=>Q1 _ e) (Q5 _) ⟨by change 2<=_;decide,[u,v],.cons ru (.cons rv .nil),⟨_,Q9 _ (),(),_,()⟩⟩
  let fok:∀c∈[z,to,j1,j2],FpOk X Kz (upd H s.heap.objs.size (.tup [x,y])) c:=λc Kl=>by
   let hc2:c∈[z,ti,to,j1,j2]:=by
    grind
   let⟨f0,f1,f2,f3,f4,f5⟩:=hf c hc2;show⟨by rw[Qm (lt c hc2)];show f0,f1,f2,f3,f4,f5⟩
  show⟨.ref s.heap.objs.size,upd H s.heap.objs.size (.tup [x,y]),?_,(),⟨_,x,y,(),fresh,(),λzs hz'=>by rw[I.tuple_inj hz' q1];show hx,λzs hz'=>by rw[I.tuple_inj hz' q2];show hy⟩,?_,λc Kl=>by rw[Qm (lt c Kl)];show(hf c Kl).1⟩
  ·let I1:Inv X Kz σ (upd H s.heap.objs.size (.tup [x,y])) {s with heap:=h2,toks:=s.toks}:=Inv.turnedL (s:={s with heap:=s.heap.push {cls:=.type "tuple",data:=.seq #[u,v]},toks:=s.toks}) I0 ?_ fok
   ·show I1
   intro c o Kl e;replace e:=e;simp only[Qe,JV,Zk,not_or]at Kl;let⟨c1,c2,c3,c4⟩:=Kl
   by_cases hT:c=s.heap.objs.size
   ·subst hT;rw[Q9 _ ()]at e;rw[<-e];show sb.extBut _ _ c1 np
   ·show sb.extBut _ _ c1 (keep c o c1 c2 c3 c4 (by rwa [Qzr _ _ _ hT]at e))
  ·let⟨o1,e1,s1⟩:=n1;let⟨o2,e2,s2⟩:=n2;show⟨mz,sb.extBut _ _ D.TIz (keep _ _ D.TIz D.TITO D.TIi1 D.TIi2 st.ti),⟨u,v,sb.extBut _ _ D.TOz nt⟩,⟨o1,sb.extBut _ _ D.i1z e1,s1⟩,⟨o2,sb.extBut _ _ D.i2z e2,s2⟩⟩
 done:=by
  intro X hP hw hK hc i Kz s σ H E I hf st hg;subst hP hw hK;let⟨xs,ys,q1,q2,hx⟩:=hg;let⟨us,r1,p1,z1⟩:=I.tuple q1;let⟨vs,r2,p2,z2⟩:=I.tuple q2;let l1:=r1.length;let l2:=r2.length;show ZP.next_none (I.ok.hd hc) D st ((p1)) ((p2)) (hx.imp (λq=>by simp;lia) λq=>by simp;lia) λh' keep=>⟨(),?_⟩
  show I.turnedL (fp:=[z,to,j1,j2]) (λc o Kl e=>?_) λc Kl=>hf c ?_
  all_goals grind
 self:=λ_ _ _ _ _ st h=>wpAny_pyIter_zip st.z h
section
variable {X:Cx}
def Qq5:bootBuiltins "zip"=-(.type "zip"):="k"
def Jfh(K:W.Frag)(ta:TA):TI:=λσ H R=>ta σ H λvs H1=>∃a b,vs=[.ref a,.ref b]/\(∃xs,SqT K H1 a xs)/\(∃ys,SqT K H1 b ys)/\R (Itz K a b) H1
def Qry{e1 e2:Expr}{ta:TA}{p pos tp:Pos}{elts:List Expr}{k:Nat}(hg:Gl X "zip")(hm:X.mg "zip"=none)(ha:PA X [e1,e2] ta)(hs:starEach [e1,e2] X.env=[(false,eval e1 X.env),(false,eval e2 X.env)]:=by rfl)(hs2:starEach [e2] X.env=[(false,eval e2 X.env)]:=by rfl):
  PI X (.Tuple elts k tp) (.Call (.Name "zip" p) [e1,e2] [] pos) (Jfh X.K ta):=by
 intro Kz s j H R I h;show Call_ (Uo I hg hm Qq5 (WA (thn (ha pos Kz s j H _ I h) λz d ⟨vs,H1,I1,l,m⟩=>?_) (by rw[hs,hs2]) (by rw[hs2];rfl)));let⟨a,b,rfl,⟨xs,n⟩,⟨ys,o⟩,q⟩:=m;let⟨u,v,rfl,r,t⟩:=l.two;cases r;cases t;let⟨w,ra,x,za⟩:=I1.tuple n;let⟨bs,rb,y,zb⟩:=I1.tuple o;let f:d.heap.IsTuple a w.toArray:=x;let g:d.heap.IsTuple b bs.toArray:=y;let la:a<d.heap.objs.size:=by let⟨_,e,_⟩:=f;show Qj e
 let lb:b<d.heap.objs.size:=by let⟨_,e,_⟩:=g;show Qj e
 show ZP.call_zip f g λh' st keep=>wpAny_pyIter_zip st.z ?_
 show⟨_,[d.heap.objs.size+4,d.heap.objs.size+2,d.heap.objs.size+3,d.heap.objs.size,d.heap.objs.size+1],_,_,H1,(),I1.kept (t':=d.toks) keep,Qqy (ZP.apart la lb),st,λc i=>?_,q⟩;let le:d.heap.objs.size<=c:=by
  simp only[Qe,JV,Zk]at i;rcases i with rfl|rfl|rfl|rfl|rfl
  ·show Z5 _ _
  ·show Z5 _ _
  ·show Z5 _ _
  ·show Q5 _
  ·show Z5 _ _
 show I1.fpOk le (I1.hok.fresh le)
end
end L2
namespace EN
open PySem
open AutoSeq1 (wpAny_loadPart')
section
variable {prog:Program} {w:World} {A:Around} {E:Kh} {s:Shared}
open Builtin.SmallTypes in
def Qps{e j q:Addr}{n:Nat}{us:Array Value}{u old:Value}{Q:Kh}(he:IsEnum s.heap e j n old)(hj:s.heap.IsTupleIter j q n)(hq:s.heap.IsTuple q us)(hu:us[n]?=-u)(ne:e≠j)
  (go:∀h',IsEnumOut h' e j ((n:Int)+1) u s.heap.objs.size->h'.IsTupleIter j q (n+1)->h'.get? s.heap.objs.size=some {cls:=.type "tuple",data:=.seq #[.int n s.toks,u]} ->
   (∀c o,c≠e->c≠j->s.heap.get? c=-o->h'.get? c=-o)->Q (.ref s.heap.objs.size) {s with heap:=h',toks:=s.toks+1}) :
  wpAny (model prog w) A (Builtin.«enumerate.__next__» ⟨[.ref e],[]⟩) (λfin s'=>∃v,fin=.done (.ret v)/\Q v s') E s:=by
 let⟨b,g,d,a,os⟩:=s;change wpAny (model prog w) _ (field (.ref e) 2 >>= _) _ _ _;show Q0 (Jx he () (x:=.ref j) () ?_);show Q0 (ZP.draw_some hj hq hu λf t1 b1=>?_);let h:Heap.SameBut j b f:=b1;let e1:IsEnum f e j n old:=(h.2 e ne).trans he;change wpAny (model prog w) _ (field (.ref e) 3 >>= _) _ _ ⟨f,g,d,a,os⟩;show Q0 (Jx e1 () (x:=rawInt n) () ?_);change wpAny (model prog w) _ (field (.ref e) 4 >>= _) _ _ ⟨f,g,d,a,os⟩;show Q0 (Jx e1 () (x:=.none) () ?_);change wpAny (model prog w) _ (mkInt n >>= _) _ _ ⟨f,g,d,a,os⟩;show Q0 (wpAny_mkInt ?_);change wpAny (model prog w) _ (setField (.ref e) 3 (rawInt ((n:Int)+1)) >>= _) _ _ ⟨f,g,d,a+1,os⟩;show Q0 (Jz e1 "s" λk2 e2 b2=>?_);let i:Heap.SameBut e f k2:=b2;let e2':IsEnum k2 e j ((n:Int)+1) old:=e2;change wpAny (model prog w) _ (setField (.ref e) 4 .none >>= _) _ _ ⟨k2,g,d,a+1,os⟩;show Q0 (Jz e2' "s" λz e3 b3=>?_);let k:Heap.SameBut e k2 z:=b3;let e3':IsEnum z e j ((n:Int)+1) old:=e3;change wpAny (model prog w) _ (newTuple [.int n a,u] >>= _) _ _ ⟨z,g,d,a+1,os⟩;show Q0 (Qo4 ?_);let e4:IsEnum (z.push {cls:=.type "tuple",data:=.seq #[.int n a,u]}) e j ((n:Int)+1) old:=Q1 _ e3';generalize h4:z.push {cls:=.type "tuple",data:=.seq #[.int n a,u]}=k4 at e4;let sz:z.objs.size=b.objs.size:=by rw[k.1,i.1,h.1]
 let lt:e<b.objs.size:=Qj he;let t4:k4.get? b.objs.size=some {cls:=.type "tuple",data:=.seq #[.int n a,u]}:=by rw[<-h4,<-sz];show Q9 _ ()
 let l:∀c o,c≠e->c≠j->b.get? c=-o->k4.get? c=some o:=λc o m n2 g=>by
  rw[<-h4];show Q1 _ (k.extBut c o m (i.extBut c o m (h.extBut c o n2 g)))
 let j4:k4.IsTupleIter j q (n+1):=by
  rw[<-h4];let⟨o,ho,r⟩:=(t1.extBut i.extBut (Jd ne)).extBut k.extBut (Jd ne);show⟨o,Q1 _ ho,r⟩
 change wpAny (model prog w) _ (ownedTupleIsFree (.ref e) >>= _) _ _ ⟨k4,g,d,a+1,os⟩;rw[sz];show Q0 ?_;unfold ownedTupleIsFree;show Q0 (Jx e4 () (x:=.none) () (Q2 ?_));simp only[Z0];show Q0 (WD (Q0 (Jx e4 () (x:=old) () ?_)));show Q0 (Jz e4 "s" λk5 e5 b5=>?_);let p:Heap.SameBut e k4 k5:=b5;let e5':IsEnum k5 e j ((n:Int)+1) u:=e5;change wpAny (model prog w) _ (ownedTupleHandOut (.ref e) (.ref b.objs.size) >>= _) _ _ ⟨k5,g,d,a+1,os⟩;show Q0 ?_;unfold ownedTupleHandOut;show Q0 (Jz e5' "s" λk6 e6 b6=>?_);let t:Heap.SameBut e k5 k6:=b6;let e6':IsEnumOut k6 e j ((n:Int)+1) u b.objs.size:=e6;show Jz e6' "s" λk7 e7 b7=>?_
 let y:Heap.SameBut e k6 k7:=b7;let e7':IsEnumOut k7 e j ((n:Int)+1) u b.objs.size:=e7;show Q0 (Uc (Q2 ⟨_,(),go k7 e7' ?_ ?_ ?_⟩))
 ·show((j4.extBut p.extBut (Jd ne)).extBut t.extBut (Jd ne)).extBut y.extBut (Jd ne)
 ·show y.extBut _ _ (Ze lt) (t.extBut _ _ (Ze lt) (p.extBut _ _ (Ze lt) t4))
 ·show λc o m n2 g=>y.extBut c o m (t.extBut c o m (p.extBut c o m (l c o m n2 g)))
def next_some{n:Nat}(he:IsEnum s.heap e j n old)(hj:s.heap.IsTupleIter j q n)(hq:s.heap.IsTuple q us)(hu:us[n]?=-u)(ne:e≠j)
  (go:∀h',IsEnumOut h' e j ((n:Int)+1) u s.heap.objs.size->h'.IsTupleIter j q (n+1)->h'.get? s.heap.objs.size=some {cls:=.type "tuple",data:=.seq #[.int n s.toks,u]} ->
   (∀c o,c≠e->c≠j->s.heap.get? c=-o->h'.get? c=-o)->Q (-(.ref s.heap.objs.size)) {s with heap:=h',toks:=s.toks+1}):wpAny (model prog w) A (pyNext (.ref e)) Q E s:=by
 let ty:s.TypeIs (.ref e) "enumerate":=⟨_,he,()⟩;show Q0 (Z9 (Je ty Gi (J6 Gi ty F.entry_enumerate_next (Qps he hj hq hu ne λh' a b c d=>Q2 (go h' a b c d)) (F.args_enumerate_next_1 _))))
def next_none{n:Nat}(hA:A.handled=none)(he:IsEnum s.heap e j n old)(hj:s.heap.IsTupleIter j q n)(hq:s.heap.IsTuple q us)(hu:us[n]?=none)
  (go:∀h',Heap.ExtBut j s.heap h'->Q none {s with heap:=h'}):wpAny (model prog w) A (pyNext (.ref e)) Q E s:=by
 let ty:s.TypeIs (.ref e) "enumerate":=⟨_,he,()⟩;show Q0 (Z9 (Je ty Gi (J6 Gi ty F.entry_enumerate_next ?_ (F.args_enumerate_next_1 _))));change wpAny (model prog w) _ (field (.ref e) 2 >>= _) _ _ _;show Q0 (Jx he () () (Q0 (ZP.draw_none hA hj hq hu λh' x k ⟨o,a,b⟩=>?_)));show Q0 (Yi ⟨o,a,b⟩ Qo6 (Q2 (go _ k)))
def Oz(q:Addr)(us:Array Value)(n:Nat)(dct:Option Addr)(sl:Array (Option Value)):
  Meets (Builtin.«enumerate.__new__» ⟨[.type "enumerate",.ref q],[]⟩) (λ_ R s=>s.heap.get? q=some {cls:=.type "tuple",dict:=dct,data:=.seq us n,slots:=sl} /\
   R (.ok (.ret (.ref (s.heap.push (ZP.tit q)).objs.size))) {s with heap:=(s.heap.push (ZP.tit q)).push {cls:=.type "enumerate",data:=.fields #[.none,.bool false,.ref s.heap.objs.size,rawInt 0,.none,.none]}}):=
 .of_wp λprog w A R s h=>by
  let⟨b,g,d,e,os⟩:=s;let⟨hl,h⟩:=h;let sub:=sub_enumerate;let a:Heap.IsTuple (Shared.heap ⟨b,g,d,e,os⟩) q us:=⟨_,hl,(),n,()⟩
  wp_walk using wpAny_loadPart' hl
  show wpAny_stack_any λst=>Q2 ?_
  split
  ·rename_i c _ _ _ _ _;cases(c==Value.type "enumerate")
   all_goals
    wp_walk using wpAny_loadPart' hl,YW a
    show⟨_,(),h⟩
  ·wp_walk using wpAny_loadPart' hl,YW a
   show⟨_,(),h⟩
def call_enum{q:Addr}{us:Array Value}{Q:Kh}(hq:s.heap.IsTuple q us)
  (go:∀h',IsEnum h' (s.heap.objs.size+1) s.heap.objs.size 0 .none->h'.IsTupleIter s.heap.objs.size q 0->(∀c o,s.heap.get? c=-o->h'.get? c=-o)->Q (.ref (s.heap.objs.size+1)) {s with heap:=h'}) :
  wpAny (model prog w) A (call (.type "enumerate") [.ref q]) Q E s:=by
 let⟨⟨c,dct,d,sl⟩,hl,e,n,hd⟩:=hq;cases(show c=Value.type "tuple" from e);cases(show d=Data.seq us n from hd);show callType_new F.called_enumerate "d" (F.typeCall_enumerate_1 _) (F.newCall_enumerate_1 _) (λobj=>F.args_object_init_2 obj _) F.entry_enumerate_new (Oz q us n dct sl) ⟨hl,?_⟩;let sz:(s.heap.push (ZP.tit q)).objs.size=s.heap.objs.size+1:=WV ..;change _/\_;rw[sz];let a:IsEnum ((s.heap.push (ZP.tit q)).push {cls:=.type "enumerate",data:=.fields #[.none,.bool false,.ref s.heap.objs.size,rawInt 0,.none,.none]}) (s.heap.objs.size+1) s.heap.objs.size 0 .none:=by
  let:=Q9 (s.heap.push (ZP.tit q)) (o:={cls:=.type "enumerate",data:=.fields #[.none,.bool false,.ref s.heap.objs.size,rawInt 0,.none,.none]}) ();rw[sz]at this;show this
 show⟨⟨_,a,()⟩,go _ a ⟨_,Q1 _ (Q9 _ ()),(),()⟩ λb o x=>Q1 _ (Q1 _ x)⟩
end
end EN
namespace L2
open PySem PySem.Spec PyProof.Rows
def Ite(K:W.Frag)(a:Addr):It:=
 ⟨λi H=>∃xs x,SqT K H a xs/\xs[i]?=-x,λi H v H'=>∃p x,v=.ref p/\H p=none/\H'=upd H p (.tup [.int i,x])/\∀xs,SqT K H a xs->xs[i]?=-x,λi H=>∃xs,SqT K H a xs/\xs.length<=i⟩
def Qoi{P:Program}{w:World}{K:W.Frag}{elts:List Expr}{k:Nat}{pos:Pos}{e j a:Addr}(ne:e≠j):
  Turn P w K (.Tuple elts k pos) (Ite K a) [e,j] e (λi h=>(∃old,IsEnum h e j (i:Nat) old)/\h.IsTupleIter j a i) where
 mem:="s"
 obj:=λi h st c hc=>by
  let⟨⟨old,he⟩,o,ej,_,dj⟩:=st;simp only[Qe,JV,Zk]at hc;rcases hc with rfl|rfl
  ·show⟨_,he,λv q=>by cases q⟩
  ·show⟨_,ej,λv q=>by rw[dj]at q;cases q⟩
 keep:=λi h h' st k=>by
  let⟨⟨old,he⟩,o,ej,r⟩:=st;show⟨⟨old,k _ "s" _ he⟩,o,k _ "s" _ ej,r⟩
 item:=by
  intro X hP hw hK hc i Kz s σ H E I hf st hg;subst hP hw hK;let⟨xs,x,q1,hx⟩:=hg;let⟨⟨old,he⟩,hj⟩:=st;let⟨us,r1,p1,z1⟩:=I.tuple q1;let⟨u,hu,ru⟩:=r1.get hx;show EN.next_some he hj (show s.heap.IsTuple a us.toArray from p1) (u:=u) (by simpa using hu) ne λh' no nj np keep=>?_
  show⟨_,(),wpAny_letOwnedTupleGo_enum no λh2 mo sb=>?_⟩;let fresh:H s.heap.objs.size=none:=I.hok.fresh (Q5 _);let lt:∀c∈[e,j],c≠s.heap.objs.size:=λc Kl=>by
   let:∃o,s.heap.get? c=some o:=by
    let⟨o,ej,_⟩:=hj;simp only[Qe,JV,Zk]at Kl;rcases Kl with rfl|rfl
    ·show⟨_,he⟩
    ·show⟨_,ej⟩
   let⟨o,ee⟩:=this;show Qq (Qj ee)
  let I0:Inv X Kz σ (upd H s.heap.objs.size (.tup [.int i,x])) {s with heap:=s.heap.push {cls:=.type "tuple",data:=.seq #[.int i s.toks,u]},toks:=s.toks+1}:=
   I.laid (λc o e=>Q1 _ e) (Q5 _) ⟨by change 2<=_;decide,[.int i s.toks,u],.cons ⟨_,()⟩ (.cons ru .nil),⟨_,Q9 _ (),(),_,()⟩⟩
  let fok:∀c∈[e,j],FpOk X Kz (upd H s.heap.objs.size (.tup [.int i,x])) c:=λc Kl=>by
   let⟨f0,f1,f2,f3,f4,f5⟩:=hf c Kl;show⟨by rw[Qm (lt c Kl)];show f0,f1,f2,f3,f4,f5⟩
  show⟨.ref s.heap.objs.size,upd H s.heap.objs.size (.tup [.int i,x]),?_,(),⟨_,x,(),fresh,(),λzs hz'=>by rw[I.tuple_inj hz' q1];show hx⟩,?_,λc Kl=>by rw[Qm (lt c Kl)];show(hf c Kl).1⟩
  ·let I1:Inv X Kz σ (upd H s.heap.objs.size (.tup [.int i,x])) {s with heap:=h2,toks:=s.toks+1}:=Inv.turnedL (s:={s with heap:=s.heap.push {cls:=.type "tuple",data:=.seq #[.int i s.toks,u]},toks:=s.toks+1}) (fp:=[e,j]) I0 ?_ fok
   ·show I1
   intro c o Kl ee;replace ee:(s.heap.push {cls:=.type "tuple",data:=.seq #[.int i s.toks,u]}).get? c=some o:=ee;simp only[Qe,JV,Zk,not_or]at Kl
   by_cases hT:c=s.heap.objs.size
   ·subst hT;rw[Q9 _ ()]at ee;rw[<-ee];show sb.extBut _ _ Kl.1 np
   ·show sb.extBut _ _ Kl.1 (keep c o Kl.1 Kl.2 (by rwa [Qzr _ _ _ hT]at ee))
  ·let⟨o1,e1,s1⟩:=nj;show⟨⟨u,?_⟩,o1,sb.extBut _ _ (Jd ne) e1,s1⟩;let:((i:Int)+1)=((i+1:Nat):Int):="l"
   rw[<-this];show mo
 done:=by
  intro X hP hw hK hc i Kz s σ H E I hf st hg;subst hP hw hK;let⟨xs,q1,hx⟩:=hg;let⟨⟨old,he⟩,hj⟩:=st;let⟨us,r1,p1,z1⟩:=I.tuple q1;let l1:=r1.length;show EN.next_none (I.ok.hd hc) he hj (show s.heap.IsTuple a us.toArray from p1) (by simp;lia) λh' keep=>⟨(),?_⟩
  show I.turnedL (t':=s.toks) (fp:=[j]) (λc o Kl ee=>keep c o (by simpa using Kl) ee) λc Kl=>hf c (by simp at Kl ⊢; show .inr Kl)
 self:=λ_ _ _ _ _ st h=>by
  let⟨⟨old,he⟩,_⟩:=st;show Qcq he h
section
variable {X:Cx}
def Qci:bootBuiltins "enumerate"=-(.type "enumerate"):="k"
def Jec(K:W.Frag)(ta:TA):TI:=λσ H R=>ta σ H λvs H1=>∃a,vs=[.ref a]/\(∃xs,SqT K H1 a xs)/\R (Ite K a) H1
def Qmy{e1:Expr}{ta:TA}{p pos tp:Pos}{elts:List Expr}{k:Nat}(hg:Gl X "enumerate")(hm:X.mg "enumerate"=none)(ha:PA X [e1] ta)(hs:starEach [e1] X.env=[(false,eval e1 X.env)]:=by rfl):
  PI X (.Tuple elts k tp) (.Call (.Name "enumerate" p) [e1] [] pos) (Jec X.K ta):=by
 intro Kz s e H R I h;show Call_ (Uo I hg hm Qci (WA (thn (ha pos Kz s e H _ I h) λo b ⟨r,H1,I1,f,g⟩=>?_) hs ()));let⟨a,rfl,⟨t,i⟩,q⟩:=g;let⟨u,rfl,j⟩:=vals1 f;cases j;let⟨l,v,m,w⟩:=I1.tuple i;show EN.call_enum (show b.heap.IsTuple a l.toArray from m) λx st n keep=>Qcq st ?_
 show⟨_,[b.heap.objs.size+1,b.heap.objs.size],_,_,H1,(),I1.kept (t':=b.toks) keep,Qoi (Ze (WE _)),⟨⟨.none,st⟩,n⟩,λc d=>?_,q⟩;let le:b.heap.objs.size<=c:=by
  simp only[Qe,JV,Zk]at d;rcases d with rfl|rfl
  ·show O7 _
  ·show Q5 _
 show I1.fpOk le (I1.hok.fresh le)
end
def Qtm{prog:Program}{w:World}{A:Around}{R:Result->Shared->Prop}{s:Shared}{elt tg iter:Expr}{ifs:List Expr}{scope:Scope}{pos:Pos}{it acc:Value}{env:Env}(W:Nat->Shared->Prop)
  (turn:∀n s,W n s->wpAny (model prog w) A (pyNext it) (λr s1=>match r with
   |none=>R (.ok .next) s1
   |some v=>wpAny (model prog w) A (letOwnedTupleGo tg it v) (λ_ s2=>wpAny (model prog w) A (assign tg env v) (λ_ s3 =>
     wpAny (model prog w) A (forIn ifs true λc r=>if r=true then do let ok<-isTrue c env (eval c env);pure (ForInStep.yield ok)else pure (ForInStep.yield r)) (λok s4 =>
      if ok=true then wpAny (model prog w) A (eval elt env) (λy s5 =>
       wpAny (model prog w) A (call (.builtin "list.append") [acc,y]) (λ_ s6=>∃m,m<n/\W m s6) (notedBy (model prog w) A env λe s'=>R (.error e) s') s5) (notedBy (model prog w) A env λe s'=>R (.error e) s') s4
      else ∃m,m<n/\W m s4) (notedBy (model prog w) A env λe s'=>R (.error e) s') s3) (notedBy (model prog w) A env λe s'=>R (.error e) s') s2) (notedBy (model prog w) A env λe s'=>R (.error e) s') s1) (notedBy (model prog w) A env λe s'=>R (.error e) s') s)
  (n:Nat) (h:W n s):codeAny (model prog w) A (.compLoop (.ListComp elt [⟨tg,iter,ifs,0⟩] scope pos) 0 it acc env) R s:=by
 show codeAny_loop () W (λn s b=>?_) n h;change wpAny (model prog w) A ((compTurn (.ListComp elt [⟨tg,iter,ifs,0⟩] scope pos) 0 it acc env).onRaise (λx=>do noteFrame x env;theTreesLotGoes x)) _ _ s;show wpAny_noted ?_;rw[compTurn_list];show Q0 (wpAny_standAt (Q0 (thn (turn n s b) λr s1 a=>?_)));cases r with
 |none=>show Q2 a|some v =>
  show Q0 (thn a λ_ s2 d=>Q0 (thn d λ_ s3 h3=>Q0 (thn h3 λok s4 h4=>?_)));cases ok with
  |false=>show Q2 ⟨(),h4⟩|true=>show Q0 (Q0 (thn h4 λy s5 h5=>Q0 (thn h5 λ_ s6 f=>Q2 (Q2 ⟨(),f⟩))))
structure PairOk(N:List Str)(x y:Str)(scope:Scope):Prop where
 hy:scope.names.lookup y=some .local
 nd:(x::y::N).Nodup
def cxP(X:Cx)(x y:Str)(scope:Scope)(cl:List (Str×Addr))(C:Addr)(s:Shared)(H:Hp)(ex:List Addr):Cx:=
 {cxC X x scope cl C s H ex with N:=x::y::X.N}
section
variable {X:Cx} {Kz:Kg} {σ:St} {H:Hp} {s:Shared}
def Inv.named{N':List Str}{Ku:St}(I:Inv X Kz σ H s)(hl:Ku.length=N'.length)(h:∀(i:Nat)(x:Str)(v:V),N'[i]?=-x->Ku[i]?=-(-v)->∃j:Nat,X.N[j]?=-x/\σ[j]?=-(-v)):
  Inv {X with N:=N'} Kz Ku H s:=by
 let⟨ok,p,q,r,⟨m,t,a⟩,u,w,y,z,b,o11⟩:=I;let⟨a1,a2,a3,a4,a5,a6,a7,a8,a9,c,d,e,f,g,k,l,n,o⟩:=ok;show⟨⟨a1,a2,a3,a4,a5,a6,a7,a8,a9,c,d,e,f,g,k,l,n,o⟩,p,q,r,⟨m,t,λi x v e1 e2 e3=>?_⟩,u,w,y,z,b,hl⟩;let⟨j,f1,f2⟩:=h i x v e1 e2;show a j x v f1 f2 e3
def Ql5(ok:CompOk X.N X.env.scope x scope)(I:Inv X Kz σ H s)
  (hf:∀b∈fp,FpOk X Kz H b) (ho:∀b∈fp,∃o,s.heap.get? b=-o) (hC:s.heap.objs.size<=C) (kp:∀b o,s.heap.get? b=-o->h1.get? b=-o) (ns:h1.Ns C m0) :
  Inv (cxP X x y scope (YS scope X.env) C s H fp) [] (none::none::σ) H {s with heap:=h1,toks:=t}:=by
 show(Qe5 ok I hf ho hC kp ns).named (by simp[I.len]) λi z v a c=>?_
 cases i with
 |zero=>ext|succ i =>
  cases i with
  |zero=>ext|succ i=>show⟨i+1,by simpa[cxC]using a,"e"⟩
def Ql6(J:Inv (cxP X x y scope cl C s H fp) ps (none::none::σ) H' s')(hl:σ.length=X.N.length):Inv (cxC X x scope cl C s H fp) ps (none::σ) H' s':=by
 show J.named (by simp[hl]) λi z v a b=>?_
 cases i with
 |zero=>ext|succ i=>show⟨i+2,by simpa[cxP]using a,"e"⟩
def Qr3(K:W.Frag)(wi:TI)(tc:TT)(te:TE):TE:=λσ H Q=>wi σ H λJ H1=>∃W:Nat->Nat->List V->Hp->Prop,(∃m,W 0 m [] H1)/\∀i m ys H,W i m ys H ->
 (J.stop i H/\∀p,H p=none->Q (.ref p) (upd H p (.lst ys))) \/
 (J.go i H/\ys.length<sizeLine/\∀v H',J.yld i H v H'->∃p a c,v=.ref p/\SqT K H' p [a,c]/\tc (-a::-c::σ) H' λb H''=>if b=true then te (-a::-c::σ) H'' (λy H3=>∃m',m'<m/\W (i+1) m' (ys++[y]) H3)else ∃m',m'<m/\W (i+1) m' ys H'')
def Qj1{elt iter:Expr}{x y:Str}{px py tp:Pos}{tk:Nat}{ifs:List Expr}{scope:Scope}{pos:Pos}{tc:TT}{te:TE}{J:It}{fp:List Addr}{it:Addr}{tn:Nat->Heap->Prop}{RR:Value->Addr->Result->Shared->Prop}{E:Kh}
  (ok:CompOk X.N X.env.scope x scope) (ok2:PairOk X.N x y scope) (hc:X.calm=true) (hifs:∀cl C s H ex,PTs (cxP X x y scope cl C s H ex) ifs tc) (helt:∀cl C s H ex,PE (cxP X x y scope cl C s H ex) elt te)
  (I:Inv X Kz σ H s) (T:Turn X.prog X.w X.K (.Tuple [.Name x px,.Name y py] tk tp) J fp it tn) (st:tn 0 s.heap) (hf:∀b∈fp,FpOk X Kz H b) {W:Nat->Nat->List V->Hp->Prop} (w0:∃m,W 0 m [] H) {Qf:List V->Hp->Prop}
  (turn:∀i m ys H,W i m ys H->(J.stop i H/\Qf ys H) \/
   (J.go i H/\ys.length<sizeLine/\∀v H',J.yld i H v H'->∃p a c,v=.ref p/\SqT X.K H' p [a,c]/\tc (-a::-c::σ) H' λb H''=>if b=true then te (-a::-c::σ) H'' (λy H3=>∃m',m'<m/\W (i+1) m' (ys++[y]) H3)else ∃m',m'<m/\W (i+1) m' ys H''))
  (fin:∀D C s' H' ys Kw k,s.heap.objs.size<=D->s.heap.objs.size<=C->D≠C->Inv (cxP X x y scope (YS scope X.env) C s H fp) [(D,lobj Kw k)] (none::none::σ) H' s'->Vals ys Kw->ys.length<=sizeLine->Qf ys H'->RR (.ref D) C (.ok .next) s') :
  wpAny (model X.prog X.w) X.A (newList []) (λacc s₃=>wpAny (model X.prog X.w) X.A (newFunctionEnv scope X.env.globals (YS scope X.env) [] X.env.qual none .none (-X.env)) (λcenv s₄ =>
   codeAny (model X.prog X.w) X.A (.compStart (.ListComp elt [⟨.Tuple [.Name x px,.Name y py] tk tp,iter,ifs,0⟩] scope pos) 0 (.ref it) acc {cenv with scope:=relabel scope X.env}) (RR acc cenv.locals) s₄) E s₃) E s:=by
 show Ja (wpAny_newFunctionEnv ok.nocell (by intro y hy;simp at hy) (λl h g=>?_) ok.kind);dsimp only at h g ⊢;generalize hH2:s.heap.push {cls:=.type "list",dict:=none,data:=.seq ([]:List Value).toArray}=H2 at h g ⊢;let hCs:H2.objs.size=s.heap.objs.size+1:=by rw[<-hH2,WV]
 let hDC:s.heap.objs.size≠H2.objs.size:=by rw[hCs];show Qq (WE _)
 let hCle:s.heap.objs.size<=H2.objs.size:=by rw[hCs];show O7 _
 let old:∀b o,s.heap.get? b=-o->l.get? b=some o:=λb o e=>g.extBut b o (Qq (Qp (Qj e) hCle)) (Q1 _ (hH2▸Q1 _ e))
 let hacc:l.get? s.heap.objs.size=-(lobj [] 0):=g.extBut _ _ hDC (Q1 _ (hH2▸Q9 _ ()));let hobj:∀b∈fp,∃o,s.heap.get? b=some o:=λb hb=>let⟨o,e,_⟩:=T.obj 0 _ st b hb;⟨o,e⟩
 let fpD:∀b∈fp,b≠s.heap.objs.size:=λb hb=>let⟨o,e⟩:=hobj b hb;Qq (Qj e)
 let fpC:∀b∈fp,b≠H2.objs.size:=λb hb=>let⟨o,e⟩:=hobj b hb;Qq (Qp (Qj e) hCle)
 let st1:tn 0 l:=T.keep 0 _ _ st λb _ o e=>old b o e
 generalize d:cxP X x y scope (YS scope X.env) H2.objs.size s H fp=Xc;let eP:Xc.prog=X.prog:=by rw[<-d];rfl
 let eW:Xc.w=X.w:=by rw[<-d];rfl
 let eK:Xc.K=X.K:=by rw[<-d];rfl
 let eA:Xc.A=X.A:=by rw[<-d];rfl
 let eL:Xc.env.locals=H2.objs.size:=by rw[<-d];rfl
 let eE:Xc.env=compEnvC scope (YS scope X.env) H2.objs.size X.env:=by rw[<-d];rfl
 let eX:Xc.ex=fp:=by rw[<-d];rfl
 let eS:Xc.s₀=s:=by rw[<-d];rfl
 let eN:Xc.N=x::y::X.N:=by rw[<-d];rfl
 let eQ:Xc.pn=[]:=by rw[<-d];rfl
 let eF:Xc.xe=λ_ _=>False:=by rw[<-d];rfl
 let eO:Xc.fs=frs X.stack:=by rw[<-d];rfl
 let eCm:Xc.calm=true:=by rw[<-d];show hc
 let hifs':PTs Xc ifs tc:=d▸hifs _ _ _ _ _;let helt':PE Xc elt te:=d▸helt _ _ _ _ _;let nfsD:s.heap.objs.size∉Xc.fs:=λz=>by
  rw[eO]at z;rcases Qe.mp (I.stkSub _ z)with z|z
  ·show absurd I.lt (by rw[<-z];show JG _)
  ·show I.nofs (Q5 _) z
 let cellD:∀y c,Xc.env.cells.lookup y=-c->c≠s.heap.objs.size:=λy c e=>by
  rw[eE]at e;let⟨v,z⟩:=I.cell y c (Wb e);show Qq z.lt
 let cellF:∀b∈fp,∀y c,Xc.env.cells.lookup y=-c->c≠b:=λb hb y c e=>by
  rw[eE]at e;show(hf b hb).2.2.2.2.1 y c (Wb e)
 let nfsF:∀b∈fp,b∉Xc.fs:=λb hb z=>by
  rw[eO]at z;rcases Qe.mp (I.stkSub _ z)with z|z
  ·show(hf b hb).2.1 z
  ·show(hf b hb).2.2.1 z
 let fpOkC:∀{H':Hp}{o:Obj},(∀b∈fp,H' b=none)->∀b∈fp,FpOk Xc [(s.heap.objs.size,o)] H' b:=λ{H' o} hn b hb =>
  ⟨hn b hb,by rw[eL];show fpC b hb,nfsF b hb,.inl (by rw[eX];show hb),cellF b hb,λp t=>by
   rw[eQ]at t;let e:p=(s.heap.objs.size,o):=by simpa using t
   rw[e];show Jd (fpD b hb)⟩
 let pinD:∀{Ku:St}{H':Hp}{s':Shared}{Kw:List Value}{k:Nat},Inv Xc [] Ku H' s'->s'.heap.get? s.heap.objs.size=-(lobj Kw k)->H' s.heap.objs.size=none->Inv Xc [(s.heap.objs.size,lobj Kw k)] Ku H' s':=λ{Ku H' s' Kw k} I' e n =>
  I'.pins_of λp t=>by
   let z:p=(s.heap.objs.size,lobj Kw k):=by simpa using t
   subst z;show⟨e,n,by rw[eL];show hDC,nfsD,λv z=>by cases z⟩
 let loop:∀s₃:Shared,s₃={s with heap:=l,toks:=s.toks+([]:List (Str×Value)).length} ->
   codeAny (model X.prog X.w) X.A (.compLoop (.ListComp elt [⟨.Tuple [.Name x px,.Name y py] tk tp,iter,ifs,0⟩] scope pos) 0 (.ref it) (.ref s.heap.objs.size) Xc.env) (RR (.ref s.heap.objs.size) H2.objs.size) s₃:=by
  rintro s₃ rfl;let⟨m0,w0⟩:=w0;let I0:Inv Xc [] (none::none::σ) H {s with heap:=l,toks:=s.toks+([]:List (Str×Value)).length}:=d▸Ql5 ok I hf hobj hCle old h;show Qtm (λn s'=>∃i ys Kw H' k,Inv Xc [(s.heap.objs.size,lobj Kw k)] (none::none::σ) H' s'/\tn i s'.heap/\(∀b∈fp,H' b=none)/\Vals ys Kw/\ys.length<=sizeLine/\W i n ys H') ?_ m0
   ⟨0,[],[],H,0,pinD I0 hacc (I.hok.fresh (Q5 _)),st1,λb hb=>(hf b hb).1,.nil,QJ _,w0⟩
  rintro n s3 ⟨i,ys,Kw,H3,k,I3,st3,fr3,rv,hlen3,w3⟩;rcases turn i n ys H3 w3 with⟨stop,q⟩|⟨go,Ks,step⟩
  ·let hd:=T.done Xc eP eW eK eCm i _ s3 (none::none::σ) H3 (notedBy (model X.prog X.w) X.A Xc.env λe s'=>RR (.ref s.heap.objs.size) H2.objs.size (.error e) s') I3 (fpOkC fr3) st3 stop;rw[eA]at hd;show thn hd λr s4 ⟨hr,I4⟩=>?_
   subst hr;show fin _ _ s4 H3 ys Kw k (Q5 _) hCle hDC (d▸I4) rv hlen3 q
  ·let hd:=T.item Xc eP eW eK eCm i _ s3 (none::none::σ) H3 (notedBy (model X.prog X.w) X.A Xc.env λe s'=>RR (.ref s.heap.objs.size) H2.objs.size (.error e) s') I3 (fpOkC fr3) st3 go;rw[eA]at hd;show thn hd λr s4 ⟨u,hr,h4⟩=>?_
   subst hr;show thn h4 λ_ s5 ⟨v,H5,I5,r5,y5,st5,fr5⟩=>?_
   let I5':=I5.pinned (fpOkC fr5) (T.obj _ _ st5);let⟨p,va,vc,ev,sq,ht0⟩:=step v H5 y5;let pgx:PG Xc (.Name x px) (Qc4 0):=JR (by rw[eN];show ok2.nd) (by rw[eN];rfl) (.inl (by rw[eE];show Z3 ok.hx)) (.inr (by rw[eE];show Z3 ok.hx));let pgy:PG Xc (.Name y py) (Qc4 1):=JR (by rw[eN];show ok2.nd) (by rw[eN];rfl) (.inl (by rw[eE];show Z3 ok2.hy)) (.inr (by rw[eE];show Z3 ok2.hy));let pgt:=Oo (k:=tk) (pos:=tp) (n:=2) eCm (Vh pgx (Vh pgy Gw));let hg:=pgt _ s5 (none::none::σ) H5 v u (λKu H'=>Ku=-va::-vc::σ/\H'=H5) I5' r5 ⟨p,[va,vc],ev,by rw[eK];show sq,(),va,[vc],(),vc,[],(),(),(),()⟩;rw[eP,eW,eA,eF]at hg;show Jn hg (λ_ s6 ⟨σ6,H6,I6,e6,e7⟩=>?_) λ_ _ f=>f.elim
   subst e6 e7;let ht:=hifs' _ s6 (-va::-vc::σ) H6 _ I6 ht0;rw[eP,eW,eA,eF]at ht;show Jn ht (λb s7 ⟨H7,I7,q7⟩=>?_) λ_ _ f=>f.elim
   let back:∀{H':Hp}{s':Shared},Inv Xc ([(s.heap.objs.size,lobj Kw k)]++Um fp s5.heap) (-va::-vc::σ) H' s' ->
     s'.heap.get? s.heap.objs.size=-(lobj Kw k)/\H' s.heap.objs.size=none/\tn (i+1) s'.heap/\(∀b∈fp,H' b=none)/\Inv Xc [] (none::none::σ) H' s':=λ{H' s'} J'=>by
    let t:∀p∈[(s.heap.objs.size,lobj Kw k)]++Um fp s5.heap,s'.heap.get? p.1=-p.2/\H' p.1=none:=λp t=>⟨(J'.pin p (QC _ t)).1,(J'.pin p (QC _ t)).2.1⟩
    show⟨(t (s.heap.objs.size,lobj Kw k) "s").1,(t (s.heap.objs.size,lobj Kw k) "s").2,T.keep _ _ _ st5 λb hb o e=>(t (b,o) (QC _ (ZM hb e))).1,λb hb=>?_,?_⟩
    ·let⟨o,e,_⟩:=T.obj _ _ st5 b hb;show(t (b,o) (QC _ (ZM hb e))).2
    ·show(J'.pins_of (pins':=[]) λp t=>by cases t).weak "s" λj w e=>?_
     cases j with
     |zero =>
      let:(none:Option V)=some w:=by simpa using e
      cases this
     |succ j =>
      cases j with
      |zero =>
       let:(none:Option V)=some w:=by simpa using e
       cases this
      |succ j=>simpa using e
   cases b with
   |false =>
    let⟨m',hm,w7⟩:=(show(if false=true then _ else ∃m',m'<n/\W (i+1) m' ys H7)from q7);let⟨e,hn,st7,fr7,J7⟩:=back I7;show⟨m',hm,i+1,ys,Kw,H7,k,pinD J7 e hn,st7,fr7,rv,hlen3,w7⟩
   |true =>
    let q7':te (-va::-vc::σ) H7 (λy H3=>∃m',m'<n/\W (i+1) m' (ys++[y]) H3):=q7;let he:=helt' _ s7 (-va::-vc::σ) H7 _ I7 q7';rw[eP,eW,eA,eF]at he;show Jn he (λy s8 ⟨yv,H8,I8,r8,m',hm,w8⟩=>?_) λ_ _ f=>f.elim
    let⟨e,hn,st8,fr8,J8⟩:=back I8;let hl:=rv.length;show wpAny_list_append_plain (items:=Kw.toArray) ⟨k,e⟩ (λh' pl sb=>?_) (by rw[Qy];lia);let⟨k',e'⟩:=pl;let e'':h'.get? s.heap.objs.size=-(lobj (Kw++[y]) k'):=by
     rw[e'];simp[lobj]
    let J9:Inv Xc [] (none::none::σ) H8 {s8 with heap:=h'}:=J8.turned (t':=s8.toks) (it:=s.heap.objs.size) (λb o hb q=>(sb.2 b hb).trans q) hn (by rw[eL];show hDC) (.inr (by rw[eS];show Q5 _)) cellD (λp t=>by
     rw[eQ]at t;show absurd t "s")
    show⟨m',hm,i+1,ys++[yv],Kw++[y],H8,k',pinD J9 e'' hn,T.keep _ _ _ st8 λb hb o q=>(sb.2 b (fpD b hb)).trans q,fr8,rv.append (.cons r8 .nil),?_,w8⟩;rw[QG];change ys.length+1<=_
    lia
 let eE':({ (newEnv scope H2.objs.size X.env.globals (YS scope X.env) X.env.qual none .none (-X.env) builtinsNs)with scope:=relabel scope X.env}:Env)=Xc.env:=by rw[eE];rfl
 rw[eE'];show codeAny_compStart_list (loop _ ()) (T.self X.A 0 _ _ _ st1 (loop _ ()))
end
mutual
def CIs(h:Heap):D->Value->Prop
 |.non,v=>v=.none|.bl b,v=>v=.bool b|.int i,v=>∃t,v=.int i t|.str x,v=>∃t,v=.str x t|.tup ds,v=>∃(a:Addr)(Kw:List Value),v=.ref a/\h.IsTuple a Kw.toArray/\CAll h ds Kw|.lst ds,v=>∃(a:Addr)(Kw:List Value),v=.ref a/\h.IsList a Kw.toArray/\CAll h ds Kw|.dct _ _ _,_=>False|.oth _ _ _,_=>False
def CAll(h:Heap):List D->List Value->Prop
 |[],vs=>vs=[]|d::ds,vs=>∃v r,vs=v::r/\CIs h d v/\CAll h ds r
end
mutual
def dep:D->Nat
 |.tup ds=>1+deps ds|.lst ds=>1+deps ds|_=>1
def deps:List D->Nat
 |[]=>0|d::ds=>max (dep d) (deps ds)
end
mutual
def eqD:D->D->Bool
 |.non,.non=>true|.bl a,.bl b=>a==b|.bl a,.int b=>(if a then 1 else 0)==b
 |.int a,.bl b=>a==(if b then 1 else 0)
 |.int a,.int b=>a==b|.str a,.str b=>a==b|.tup a,.tup b=>Y6 a b|.lst a,.lst b=>Y6 a b|.dct f a b,.dct g c d=>f==g&&(Y6 a c&&Y6 b d)|.oth t a b,.oth u c d=>t.enc==u.enc&&(Y6 a c&&Y6 b d)|_,_=>false
def Y6:List D->List D->Bool
 |[],[]=>true|a::as,b::bs=>eqD a b&&Y6 as bs|_,_=>false
end
def Qgl(d:D):1<=dep d:=by cases d<;>simp[dep]
theorem Ua:∀{ds:List D}{d:D},d∈ds->dep d<=deps ds
 |a::r,d,h=>by
  rw[deps];rcases Qe.mp h with rfl|h
  ·lia
  ·let:=Ua h
   lia
section
variable {h h':Heap}
theorem CAll.len:∀{ds:List D}{vs:List Value},CAll h ds vs->ds.length=vs.length
 |[],_,x=>by rw[CAll]at x;grind|d::ds,vs,x=>by
  let⟨v,r,rfl,_,t⟩:=x;simp[CAll.len t]
theorem CAll.get:∀{ds:List D}{vs:List Value}{i:Nat}{d:D},CAll h ds vs->ds[i]?=-d->∃v,vs[i]?=-v/\CIs h d v
 |[],_,_,_,_,e=>by simp at e|a::ds,vs,0,d,x,e=>by
  rw[CAll]at x;let⟨v,r,rfl,q,_⟩:=x;let:a=d:=by simpa using e
  subst this;show⟨v,(),q⟩
 |a::ds,vs,i+1,d,x,e=>by
  rw[CAll]at x;let⟨v,r,rfl,_,t⟩:=x;show CAll.get (i:=i) t (by simpa using e)
def ctup:CIs h (.tup ds) v↔∃(a:Addr)(Kw:List Value),v=.ref a/\h.IsTuple a Kw.toArray/\CAll h ds Kw:=by rw[CIs]
def clst:CIs h (.lst ds) v↔∃(a:Addr)(Kw:List Value),v=.ref a/\h.IsList a Kw.toArray/\CAll h ds Kw:=by rw[CIs]
def tuple_inj(p:h.IsTuple a x)(q:h.IsTuple a y):x=y:=by
 let⟨o,e,_,n,d⟩:=p;let⟨b,c,_,f,g⟩:=q
 ext
def list_inj(p:h.IsList a x)(q:h.IsList a y):x=y:=by
 let⟨o,e,_,n,d⟩:=p;let⟨b,c,_,f,g⟩:=q
 ext
def Qi1(p:h.IsTuple a x)(q:h.IsList a y):False:=by
 let⟨o,e,c,_⟩:=p;let⟨b,d,f,_⟩:=q
 ext
mutual
theorem CIs.inj:∀{d e:D}{v:Value},CIs h d v->CIs h e v->d=e
 |.non,e,v,x,y=>by
  simp only[CIs]at x;subst x;cases e<;>simp_all [CIs]
 |.bl b,e,v,x,y=>by
  simp only[CIs]at x;subst x;cases e<;>simp_all [CIs]
 |.int i,e,v,x,y=>by
  simp only[CIs]at x;let⟨t,rfl⟩:=x;cases e<;>simp_all [CIs]
 |.str i,e,v,x,y=>by
  simp only[CIs]at x;let⟨t,rfl⟩:=x;cases e<;>simp_all [CIs]
 |.tup q,e,v,x,y=>by
  let⟨a,Kw,rfl,p,c⟩:=ctup.mp x;cases e with
  |tup m =>
   let⟨n,g,j,k,l⟩:=ctup.mp y;cases j;let o:Kw=g:=by simpa using tuple_inj p k
   subst o;rw[CAll.inj c l]
  |lst m =>
   let⟨n,g,j,k,l⟩:=clst.mp y;cases j;show(Qi1 p k).elim
  |_=>simp[CIs]at y
 |.lst q,e,v,x,y=>by
  let⟨a,Kw,rfl,p,c⟩:=clst.mp x;cases e with
  |lst m =>
   let⟨n,g,j,k,l⟩:=clst.mp y;cases j;let o:Kw=g:=by simpa using list_inj p k
   subst o;rw[CAll.inj c l]
  |tup m =>
   let⟨n,g,j,k,l⟩:=ctup.mp y;cases j;show(Qi1 k p).elim
  |_=>simp[CIs]at y
 |.dct f a b,e,v,x,y=>by simp only[CIs]at x|.oth f a b,e,v,x,y=>by simp only[CIs]at x
theorem CAll.inj:∀{ds es:List D}{vs:List Value},CAll h ds vs->CAll h es vs->ds=es
 |[],es,vs,x,y=>by
  simp only[CAll]at x;subst x;cases es with
  |nil=>rfl|cons e r=>simp[CAll]at y
 |d::ds,es,vs,x,y=>by
  rw[CAll]at x;let⟨v,r,rfl,q,t⟩:=x;cases es with
  |nil=>simp[CAll]at y|cons e es =>
   rw[CAll]at y;let⟨f,g,a,b,c⟩:=y;cases a;rw[CIs.inj q b,CAll.inj t c]
end
mutual
theorem BW:∀d:D,eqD d d=true
 |.non=>by simp[eqD]|.bl b=>by simp[eqD]|.int b=>by simp[eqD]|.str b=>by simp[eqD]|.tup c=>by rw[eqD];show ZQ c|.lst c=>by rw[eqD];show ZQ c|.dct f a b=>by rw[eqD,ZQ a,ZQ b];simp|.oth f a b=>by rw[eqD,ZQ a,ZQ b];simp
theorem ZQ:∀ds:List D,Y6 ds ds=true
 |[]=>by simp[Y6]|d::ds=>by rw[Y6,BW d,ZQ ds];rfl
end
theorem Qip:∀{ds es:List D},Y6 ds es=true->ds.length=es.length
 |[],[],_=>rfl|[],_::_,x=>by simp[Y6]at x|_::_,[],x=>by simp[Y6]at x|d::ds,e::es,x=>by
  rw[Y6,Qv]at x;simp[Qip x.2]
theorem Qau:∀(ds es:List D),Y6 ds es=((List.range (min ds.length es.length)).all (λi=>eqD (ds.getD i .non) (es.getD i .non))&&ds.length==es.length)
 |[],[]=>by simp[Y6]|[],e::es=>by simp[Y6]|d::ds,[]=>by simp[Y6]|d::ds,e::es=>by
  rw[Y6,Qau ds es];let a:min (d::ds).length (e::es).length=min ds.length es.length+1:=by simp only[Qz];lia
  rw[a,List.range_succ_eq_map,List.all_cons,List.all_map];let b:((d::ds).length==(e::es).length)=(ds.length==es.length):="s"
  rw[b,Bool.and_assoc];rfl
end
section
variable {A:Around} {s:Shared}
mutual
theorem Qgg:∀(d e:D){v u:Value}{A:Around},CIs s.heap d v->CIs s.heap e u->A.units+dep d+dep e<cLine->SeqAt.EqAt A s v u (eqD d e)
 |.non,e,v,u,A,x,y,l=>by
  simp only[CIs]at x;subst x;cases e with
  |dct i j k=>simp only[CIs]at y|oth i j k=>simp only[CIs]at y|non=>simp only[CIs]at y;subst y;show Qjo _|bl b=>simp only[CIs]at y;subst y;show SeqAt.EqAt.none_bool b|int b=>simp only[CIs]at y;let⟨t,rfl⟩:=y;show SeqAt.EqAt.none_int b t
  |str b=>simp only[CIs]at y;let⟨t,rfl⟩:=y;show SeqAt.EqAt.none_str b t
  |tup g=>let⟨a,Kw,rfl,p,_⟩:=ctup.mp y;show SeqAt.EqAt.none_tuple p "o"
  |lst g=>let⟨a,Kw,rfl,p,_⟩:=clst.mp y;show SeqAt.EqAt.none_list p "o"
 |.bl b,e,v,u,A,x,y,l=>by
  simp only[CIs]at x;subst x;cases e with
  |dct i j k=>simp only[CIs]at y|oth i j k=>simp only[CIs]at y|non=>simp only[CIs]at y;subst y;show SeqAt.EqAt.bool_none b|bl c=>simp only[CIs]at y;subst y;show SeqAt.EqAt.bool_bool b c|int c=>simp only[CIs]at y;let⟨t,rfl⟩:=y;show SeqAt.EqAt.bool_int b c t
  |str c=>simp only[CIs]at y;let⟨t,rfl⟩:=y;show SeqAt.EqAt.bool_str b c t
  |tup g=>let⟨a,Kw,rfl,p,_⟩:=ctup.mp y;show SeqAt.EqAt.bool_tuple b p "o"
  |lst g=>let⟨a,Kw,rfl,p,_⟩:=clst.mp y;show SeqAt.EqAt.bool_list b p "o"
 |.int b,e,v,u,A,x,y,l=>by
  simp only[CIs]at x;let⟨t,rfl⟩:=x;cases e with
  |dct i j k=>simp only[CIs]at y|oth i j k=>simp only[CIs]at y|non=>simp only[CIs]at y;subst y;show SeqAt.EqAt.int_none b t|bl c=>simp only[CIs]at y;subst y;show SeqAt.EqAt.int_bool b t c|int c=>simp only[CIs]at y;let⟨n,rfl⟩:=y;show SeqAt.EqAt.int_int b t c n
  |str c=>simp only[CIs]at y;let⟨n,rfl⟩:=y;show Qvt b t c n
  |tup g=>let⟨a,Kw,rfl,p,_⟩:=ctup.mp y;show SeqAt.EqAt.int_tuple b t p "o"
  |lst g=>let⟨a,Kw,rfl,p,_⟩:=clst.mp y;show SeqAt.EqAt.int_list b t p "o"
 |.str b,e,v,u,A,x,y,l=>by
  simp only[CIs]at x;let⟨t,rfl⟩:=x;cases e with
  |dct i j k=>simp only[CIs]at y|oth i j k=>simp only[CIs]at y|non=>simp only[CIs]at y;subst y;show SeqAt.EqAt.str_none b t|bl c=>simp only[CIs]at y;subst y;show SeqAt.EqAt.str_bool b t c|int c=>simp only[CIs]at y;let⟨n,rfl⟩:=y;show Qvr b t c n
  |str c=>simp only[CIs]at y;let⟨n,rfl⟩:=y;show Qvq b t c n
  |tup g=>let⟨a,Kw,rfl,p,_⟩:=ctup.mp y;show SeqAt.EqAt.str_tuple b t p "o"
  |lst g=>let⟨a,Kw,rfl,p,_⟩:=clst.mp y;show SeqAt.EqAt.str_list b t p "o"
 |.tup o,e,v,u,A,x,y,l=>by
  let⟨a,Kw,rfl,p,c⟩:=ctup.mp x;let f:A.units<cLine:="o"
  cases e with
  |dct i j k=>simp only[CIs]at y|oth i j k=>simp only[CIs]at y|non=>simp only[CIs]at y;subst y;show SeqAt.EqAt.tuple_none p f|bl b=>simp only[CIs]at y;subst y;show SeqAt.EqAt.tuple_bool b p f|int b=>simp only[CIs]at y;let⟨t,rfl⟩:=y;show SeqAt.EqAt.tuple_int b t p f
  |str b=>simp only[CIs]at y;let⟨t,rfl⟩:=y;show SeqAt.EqAt.tuple_str b t p f
  |tup g =>
   let⟨r,h,rfl,m,w⟩:=ctup.mp y
   by_cases ha:a=r
   ·subst ha;rw[CIs.inj x y,BW];show Qjo _
   ·rw[eqD];let z:=SeqAt.RcAt.tuples p m f (BY o g c w (by simp only[dep]at l;grind));let l1:=c.len;let l2:=w.len;rw[Qau,l1,l2];show Qvs ha ?_;omega
  |lst g=>let⟨r,h,rfl,m,_⟩:=clst.mp y;show SeqAt.EqAt.tuple_list p m f
 |.lst o,e,v,u,A,x,y,l=>by
  let⟨a,Kw,rfl,p,c⟩:=clst.mp x;let f:A.units<cLine:="o"
  cases e with
  |dct i j k=>simp only[CIs]at y|oth i j k=>simp only[CIs]at y|non=>simp only[CIs]at y;subst y;show SeqAt.EqAt.list_none p f|bl b=>simp only[CIs]at y;subst y;show SeqAt.EqAt.list_bool b p f|int b=>simp only[CIs]at y;let⟨t,rfl⟩:=y;show SeqAt.EqAt.list_int b t p f
  |str b=>simp only[CIs]at y;let⟨t,rfl⟩:=y;show SeqAt.EqAt.list_str b t p f
  |tup g=>let⟨r,h,rfl,m,_⟩:=ctup.mp y;show SeqAt.EqAt.list_tuple p m f
  |lst g =>
   let⟨r,h,rfl,m,w⟩:=clst.mp y
   by_cases ha:a=r
   ·subst ha;rw[CIs.inj x y,BW];show Qjo _
   ·rw[eqD];let l1:=c.len;let l2:=w.len
    by_cases hl:Kw.length=h.length
    ·let z:=SeqAt.RcAt.lists p m "o" f (BY o g c w (by simp only[dep]at l;grind));rw[Qau,l1,l2];show Qvs ha ?_
     ext
    ·let e0:Y6 o g=false:=by
      cases q:Y6 o g with
      |false=>rfl|true=>show absurd (Qip q) "o"
     rw[e0];show Qvs ha (SeqAt.RcAt.lists_lengths p m "e" f)
 |.dct i j k,e,v,u,A,x,y,l=>by simp only[CIs]at x|.oth i j k,e,v,u,A,x,y,l=>by simp only[CIs]at x
theorem BY:∀(ds es:List D){vs us:List Value}{A:Around},CAll s.heap ds vs->CAll s.heap es us->A.units+deps ds+deps es<cLine->∀(j:Nat)(h1:j<vs.toArray.size)(h2:j<us.toArray.size),SeqAt.EqAt A s vs.toArray[j] us.toArray[j] (eqD (ds.getD j .non) (es.getD j .non))
 |[],es,vs,us,A,x,y,a,j,h1,h2=>by
  simp only[CAll]at x;subst x;simp at h1
 |d::ds,[],vs,us,A,x,y,a,j,h1,h2=>by
  simp only[CAll]at y;subst y;simp at h2
 |d::ds,e::es,vs,us,A,x,y,a,0,h1,h2=>by
  rw[CAll]at x y;let⟨v,r,rfl,q,_⟩:=x;let⟨b,c,rfl,f,_⟩:=y;show Qgg d e q f (by simp only[deps]at a;lia)
 |d::ds,e::es,vs,us,A,x,y,a,j+1,h1,h2=>by
  rw[CAll]at x y;let⟨v,r,rfl,_,t⟩:=x;let⟨b,c,rfl,_,g⟩:=y;let:=BY ds es t g (A:=A) (by simp only[deps]at a;lia) j (by simpa using h1) (by simpa using h2);simpa using this
end
end
end L2
namespace ST
open PySem PySem.SetTable
def adv(mask:Nat)(p:Probe):Probe:=
 if p.more > 0 then{p with j:=p.j+1,more:=p.more-1}else
 {p with j:=(leap mask p.i p.perturb).1,more:=runEnd mask (leap mask p.i p.perturb).1-(leap mask p.i p.perturb).1,i:=(leap mask p.i p.perturb).1,perturb:=(leap mask p.i p.perturb).2}
def Jcs(t:SetTable)(p:Probe):t.advance p=adv t.mask p:=()
def at0(mask i perturb:Nat):Probe:={j:=i,more:=runEnd mask i-i,i:=i,perturb:=perturb,dummy:=none}
def seq(mask:Nat)(h:Int):Nat->Probe
 |0=>at0 mask (bits h % (mask+1)) (bits h)|n+1=>adv mask (seq mask h n)
def Qdl{mask i:Nat}(h:i<=mask):runEnd mask i<=mask:=by
 unfold runEnd;split<;>omega
def Gp(mask i:Nat):i<=runEnd mask i/\runEnd mask i<=i+9:=by
 unfold runEnd
 grind
def Qn8(mask i p:Nat):(leap mask i p).1<=mask:=by
 unfold leap;let:=Qjw (i*5+1+p / 32) (show 0<mask+1 by lia)
 lia
structure Pk(mask:Nat)(p:Probe):Prop where
 i:p.i<=mask
 j:p.i<=p.j
 m:p.j+p.more=runEnd mask p.i
 d:p.dummy=none
def Jav{mask i perturb:Nat}(h:i<=mask):Pk mask (at0 mask i perturb):=⟨h,Q5 _,by let:=Gp mask i;change i+(runEnd mask i-i)=runEnd mask i;lia,()⟩
def Jaw{mask:Nat}(h:Pk mask p):Pk mask (adv mask p):=by
 unfold adv;split
 ·let b:=h.m;let a:=h.j;show⟨h.i,"g","g",h.d⟩
 ·let:=Qn8 mask p.i p.perturb;let a:=Gp mask (leap mask p.i p.perturb).1;show⟨this,Q5 _,"e",h.d⟩
theorem Qko(mask:Nat)(h:Int):∀n,Pk mask (seq mask h n)
 |0=>Jav (by let:=Qjw (bits h) (show 0<mask+1 by lia);lia)|n+1=>Jaw (Qko mask h n)
def Jac(mask:Nat)(h:Int)(n:Nat):(seq mask h n).j<=mask:=by
 let k:=Qko mask h n;let:=Qdl k.i;let:=k.m
 lia
def bs(mask:Nat)(h:Int):Nat->Nat×Nat
 |0=>(bits h % (mask+1),bits h)|n+1=>leap mask (bs mask h n).1 (bs mask h n).2
def Qv2(mask:Nat)(h:Int)(n:Nat):(bs mask h n).1<=mask:=by
 cases n with
 |zero=>have:=Qjw (bits h) (show 0<mask+1 by lia);change bits h % (mask+1)<=mask;lia|succ n=>show Qn8 ..
theorem Qgt{mask i perturb:Nat}:∀k,k<=runEnd mask i-i->Nat.rec (motive:=λ_=>Probe) (at0 mask i perturb) (λ_ p=>adv mask p) k={j:=i+k,more:=runEnd mask i-i-k,i:=i,perturb:=perturb,dummy:=none}
 |0,_=>rfl|k+1,h=>by
  change adv mask (Nat.rec (motive:=λ_=>Probe) (at0 mask i perturb) (λ_ p=>adv mask p) k)=_;rw[Qgt k "l"];unfold adv;rw[Qh (by change runEnd mask i-i-k > 0;lia)];change({j:=i+k+1,more:=runEnd mask i-i-k-1,i:=i,perturb:=perturb,dummy:=none}:Probe)=_;rw[Nat.add_assoc,Nat.sub_sub _ k 1]
theorem Qbc{mask:Nat}(e:seq mask h n=p):∀k,seq mask h (n+k)=Nat.rec (motive:=λ_=>Probe) p (λ_ p=>adv mask p) k
 |0=>e|k+1=>by
  change adv mask (seq mask h (n+k))=adv mask _;rw[Qbc e k]
def Qvc{mask i perturb:Nat}:adv mask {j:=i+(runEnd mask i-i),more:=0,i:=i,perturb:=perturb,dummy:=none}=at0 mask (leap mask i perturb).1 (leap mask i perturb).2:=by
 rfl
def nb(mask:Nat)(h:Int):Nat->Nat
 |0=>0|b+1=>nb mask h b+(runEnd mask (bs mask h b).1-(bs mask h b).1)+1
theorem Qke(mask:Nat)(h:Int):∀b,seq mask h (nb mask h b)=at0 mask (bs mask h b).1 (bs mask h b).2
 |0=>rfl|b+1=>by
  let e:=Qbc (Qke mask h b) (runEnd mask (bs mask h b).1-(bs mask h b).1);rw[Qgt _ (Q5 _),Nat.sub_self]at e;change adv mask (seq mask h (nb mask h b+(runEnd mask (bs mask h b).1-(bs mask h b).1)))=_;rw[e,Qvc];rfl
theorem Qz9(mask:Nat)(h:Int):∀b,nb mask h b<=10*b
 |0=>Q5 _|b+1=>by
  let:=Qz9 mask h b;let:=Gp mask (bs mask h b).1;change nb mask h b+(runEnd mask (bs mask h b).1-(bs mask h b).1)+1<=_
  lia
def Qf0(mask:Nat)(h:Int)(b k:Nat)(hk:k<=runEnd mask (bs mask h b).1-(bs mask h b).1):(seq mask h (nb mask h b+k)).j=(bs mask h b).1+k:=by
 rw[Qbc (Qke mask h b) k,Qgt k hk]
def Qyi(h:Int):bits h<2^64:=by
 unfold bits
 lia
theorem Qch(mask:Nat)(h:Int):∀b,(bs mask h b).2=bits h / 32^b
 |0=>by change bits h=_;simp|b+1=>by
  change(bs mask h b).2 / 32=_;rw[Qch mask h b,Nat.div_div_eq_div_mul,Nat.pow_succ]
def Qyg(mask:Nat)(h:Int)(b:Nat)(hb:13<=b):(bs mask h b).2=0:=by
 rw[Qch];show Nat.div_eq_of_lt (Qp (Qyi h) ?_);let:(2:Nat)^64<=32^13:="d"
 show Qx this (WU "d" hb)
def fi(mask:Nat):Nat->Nat->Nat
 |0,i=>i|m+1,i=>fi mask m ((i*5+1) % (mask+1))
theorem BT(mask:Nat):∀m i,fi mask (m+1) i=(fi mask m i*5+1) % (mask+1)
 |0,i=>rfl|m+1,i=>by
  change fi mask (m+1) ((i*5+1) % (mask+1))=_;rw[BT mask m];rfl
theorem Qgd(mask:Nat):∀m n i,fi mask (m+n) i=fi mask m (fi mask n i)
 |0,n,i=>by rw[Nat.zero_add];rfl|m+1,n,i=>by
  rw[Nat.succ_add_eq_add_succ];rw[Qgd mask m (n+1) i,BT,BT];rw[<-BT mask m];rfl
theorem Qv3(mask:Nat)(h:Int):∀m,(bs mask h (13+m)).1=fi mask m (bs mask h 13).1
 |0=>rfl|m+1=>by
  rw[BT,<-Qv3 mask h m];change(leap mask (bs mask h (13+m)).1 (bs mask h (13+m)).2).1=_;rw[Qyg mask h (13+m) "l"];rfl
def Cyc(mask:Nat):Prop:=fi mask (mask+1) 0=0/\∀v,v<=mask->∃m,m<=mask/\fi mask m 0=v
def Jeo(mask:Nat):Bool:=(fi mask (mask+1) 0==0)&&(List.range (mask+1)).all λv=>(List.range (mask+1)).any λm=>fi mask m 0==v
def Qlk{mask:Nat}(h:Jeo mask=true):Cyc mask:=by
 unfold Jeo at h;simp only[Qv,ZG,Wd,List.any_eq_true,Jp]at h;show⟨h.1,λv a=>let⟨m,b,e⟩:=h.2 v "l";⟨m,"l",e⟩⟩
def cyc7:Cyc 7:=Qlk (by rfl)
def cyc31:Cyc 31:=Qlk (by rfl)
def cyc127:Cyc 127:=Qlk "k"
def Cyc.all{mask:Nat}(c:Cyc mask)(hi:i<=mask)(hv:v<=mask):∃m,m<=mask/\fi mask m i=v:=by
 let⟨a,ha,rfl⟩:=c.2 i hi;let⟨b,hb,rfl⟩:=c.2 v hv
 by_cases h:a<=b
 ·show⟨b-a,"l",by rw[<-Qgd];ext⟩
 ·show⟨mask+1-a+b,"l",?_⟩;rw[<-Qgd];let e:mask+1-a+b+a=b+(mask+1):="l"
  rw[e,Qgd,c.1]
def Qwc{mask:Nat}(c:Cyc mask)(h:Int)(hv:v<=mask):∃n,n<=10*(13+mask)/\(seq mask h n).j=v:=by
 let⟨m,a,e⟩:=c.all (Qv2 mask h 13) hv;show⟨nb mask h (13+m),Qx (Qz9 _ _ _) "l",?_⟩;rw[Qke,<-e,<-Qv3];rfl
def Jcn{mask:Nat}(c:Cyc mask)(h:Int)(hv:v<=mask):∃b,b<=13+mask/\(bs mask h b).1=v:=by
 let⟨m,a,e⟩:=c.all (Qv2 mask h 13) hv;show⟨13+m,"l",by rw[Qv3];show e⟩
def Go{xs:List Nat}(h:xs.Pairwise (· < ·)){i j a b:Nat}(hi:xs[i]?=-a)(hj:xs[j]?=-b)(hij:i<j):a<b:=by
 rw[JM]at h;let⟨c,d⟩:=Q3.mp hi;let⟨e,f⟩:=Q3.mp hj;rw[<-d,<-f];show h i j c e hij
def Qew{xs:List Nat}(h:xs.Pairwise (· < ·)){i j a:Nat}(hi:xs[i]?=-a)(hj:xs[j]?=-a):i=j:=by
 rcases YK i j with z|z|z
 ·show absurd (Go h hi hj z) (JG _)
 ·show z
 ·show absurd (Go h hj hi z) (JG _)
structure Bel(xs:Array Nat)(j r:Nat):Prop where
 le:r<=xs.size
 lo:∀i a,i<r->xs[i]?=-a->a<j
 hi:∀i a,r<=i->xs[i]?=-a->j<=a
theorem Qcm{xs:Array Nat}{j:Nat}(h:xs.toList.Pairwise (· < ·)):∀(fuel lo hi:Nat),hi-lo<=fuel->lo<=hi->hi<=xs.size->(∀i a,i<lo->xs[i]?=-a->a<j)->(∀i a,hi<=i->xs[i]?=-a->j<=a)->Bel xs j (below.go xs j fuel lo hi)
 |0,lo,hi,n,hl,d,f,g=>by
  let e:lo=hi:="l"
  subst e;show⟨d,f,g⟩
 |fuel+1,lo,hi,n,hl,d,f,g=>by
  unfold below.go;split
  ·rename_i Kt;let l:(lo+hi) / 2<xs.size:="l"
   let k:xs.getD ((lo+hi) / 2) j=xs[(lo+hi) / 2]:=by simp[Array.getD,l]
   let b:xs[(lo+hi) / 2]?=-xs[(lo+hi) / 2]:=by simp[l]
   simp only;rw[k];split
   ·rename_i m;show Qcm h fuel _ _ "l" "l" d (λi a c e=>?_) g;rcases Qjx (Nat.lt_succ_iff.mp c)with z|z
    ·let:=Go h (by rw[Qo];show e) (by rw[Qo];show b) z
     lia
    ·subst z;rw[b]at e;cases e;show m
   ·rename_i m;show Qcm h fuel _ _ "l" "l" "l" f (λi a c e=>?_);rcases Qjx c with z|z
    ·let:=Go h (by rw[Qo];show b) (by rw[Qo];show e) z
     lia
    ·subst z;rw[b]at e;cases e
     lia
  ·let e:lo=hi:="l"
   subst e;show⟨d,f,g⟩
def OQ(h:xs.toList.Pairwise (· < ·))(j:Nat):Bel xs j (below xs j):=
 Qcm h _ _ _ "l" (QJ _) (Q5 _) (λi a hi=>absurd hi (Qct _)) (λi a hi e=>by
  ext)
def Qv5{xs:Array Nat}(h:xs.toList.Pairwise (· < ·)){i j:Nat}(e:xs[i]?=-j):below xs j=i:=by
 let b:=OQ h j;rcases YK (below xs j) i with z|z|z
 ·let c:=(Qzu.mp e).1;let hb:below xs j<xs.size:="l"
  let a:xs[below xs j]?=-xs[below xs j]:=by simp[hb]
  let d:=b.hi _ _ (Q5 _) a;let f:=Go h (by rw[Qo];show a) (by rw[Qo];show e) z
  lia
 ·show z
 ·show absurd (b.lo i j z e) (JG _)
def Qng(j:Nat):has #[] j=false:=by
 rfl
def Qdk{t:SetTable}(h:t.place.toList.Pairwise (· < ·))(e:t.place[i]?=-j):t.slot j=.live i:=by
 unfold slot;simp only;rw[Qv5 h e,e]
 simp
def Qoq{t:SetTable}(hd:t.dummies= #[]){j:Nat}(e:j∉t.place.toList):t.slot j=.empty:=by
 unfold slot;simp only;rw[Qc,Qc]
 ·rw[hd,Qng];simp
 ·intro z;rw[ZG]at z;show e (Q6 (by rw[Qo];show z))
def Qpb{t:SetTable}{j:Nat}(h:j∈t.place.toList):∃i:Nat,t.place[i]?=some j:=by
 let⟨i,hi,e⟩:=Wi.mp h;show⟨i,by rw[<-Qo,Qa hi,e]⟩
def Re(mask:Nat)(ps:List Nat)(h:Int)(j:Nat):Prop:=∃n,(seq mask h n).j=j/\∀m,m<n->(seq mask h m).j∈ps
def Re.mono{mask:Nat}(r:Re mask ps h j)(s:∀x∈ps,x∈qs):Re mask qs h j:=
 let⟨n,e,f⟩:=r;⟨n,e,λm a=>s _ (f m a)⟩
def MaskOk(m:Nat):Prop:=m=7\/m=31\/m=127
def MaskOk.cyc(h:MaskOk m):Cyc m:=by
 rcases h with rfl|rfl|rfl
 ·show cyc7
 ·show cyc31
 ·show cyc127
def MaskOk.odd(h:MaskOk m):(m % 2==0)=false:=by
 rcases h with rfl|rfl|rfl<;>rfl
structure TabOk{α:Type}(t:SetTable)(es:Array (Int×α)):Prop where
 mask:MaskOk t.mask
 dum:t.dummies= #[]
 size:t.place.size=es.size
 full:t.place.size*5<t.mask*3
 srt:t.place.toList.Pairwise (· < ·)
 bnd:∀j∈t.place.toList,j<=t.mask
 reach:∀q∈t.place.toList.zip es.toList,Re t.mask t.place.toList q.2.1 q.1
section
variable {α:Type} {t:SetTable} {es:Array (Int×α)}
def TabOk.fresh(f m:Nat)(led:Bool):TabOk (SetTable.fresh f m led) (#[]:Array (Int×α)):=⟨.inl (),(),(),(by change 0*5<7*3;decide),O9,(λj a=>nomatch a),(λq b=>nomatch b)⟩
def TabOk.fits(T:TabOk t es):t.fits es.size=true:=by
 unfold SetTable.fits SetTable.fill;let a:=T.size;let b:=T.full;rw[T.dum,T.size]
 grind
theorem pigeon:∀(n:Nat)(ps:List Nat),ps.Pairwise (· < ·)->ps.length<n->∃v,v<n/\v∉ps
 |0,ps,_,h=>by lia|n+1,ps,c,h=>by
  by_cases e:n∈ps
  ·let⟨f,g,rfl⟩:=List.append_of_mem e;let d:(f++g).Pairwise (· < ·):=by
    rw[QK]at c ⊢;show⟨c.1,(WI.mp c.2.1).2,λa ha b hb=>c.2.2 a ha b (Q7 _ hb)⟩
   let⟨v,j,i⟩:=pigeon n (f++g) d (by simp at h ⊢; lia);show⟨v,"l",λz=>?_⟩;rcases Qt.mp z with z|z
   ·show i (JF _ z)
   ·rcases Qe.mp z with z|z
    ·lia
    ·show i (QC _ z)
  ·show⟨n,"l",e⟩
def TabOk.empty(T:TabOk t es):∃v,v<=t.mask/\v∉t.place.toList:=by
 let⟨v,a,b⟩:=pigeon (t.mask+1) t.place.toList T.srt (by let:=T.full;simp;lia)
 grind
theorem least{p:Nat->Prop}[DecidablePred p]:∀(n:Nat),p n->∃m,m<=n/\p m/\∀k,k<m-> ¬ p k
 |0,h=>⟨0,Q5 _,h,λk b=>by lia⟩|n+1,h=>by
  by_cases q:∃k,k<=n/\p k
  ·let⟨k,b,a⟩:=q;let⟨m,c,pm,f⟩:=least k a;show⟨m,"l",pm,f⟩
  ·show⟨n+1,Q5 _,h,λk b a=>q ⟨k,"l",a⟩⟩
def TabOk.first(T:TabOk t es)(h:Int):∃n,n<=10*(13+t.mask)/\(seq t.mask h n).j∉t.place.toList/\∀m,m<n->(seq t.mask h m).j∈t.place.toList:=by
 let⟨v,a,b⟩:=T.empty;let⟨n,i,e⟩:=Qwc T.mask.cyc h a;let⟨m,c,d,f⟩:=least (p:=λn=>(seq t.mask h n).j∉t.place.toList) n (by rw[e];show b);show⟨m,"l",d,λk g=>Y2 λz=>f k g z⟩
inductive Met1(t:SetTable)(hashAt:Nat->Int)(h:Int)(n e:Nat):Option Met->Prop where
 |cand (m i:Nat) (hm:n<=m) (he:m<e) (hi:t.place[i]?=-(seq t.mask h m).j) (hh:hashAt i=h) (no:∀k,n<=k->k<m->∃i',t.place[i']?=-(seq t.mask h k).j/\hashAt i'≠h) :
   Met1 t hashAt h n e (-(.candidate (seq t.mask h m).j i (seq t.mask h (m+1))))
 |emp (no:∀k,n<=k->k<e->∃i',t.place[i']?=-(seq t.mask h k).j/\hashAt i'≠h):Met1 t hashAt h n e (-(.empty (seq t.mask h e).j none))
theorem Qhv(T:TabOk t es)(hashAt:Nat->Int)(h:Int)(he:(seq t.mask h e).j∉t.place.toList)(hl:∀m,m<e->(seq t.mask h m).j∈t.place.toList):
  ∀(fuel n:Nat),n<=e->e-n<fuel->Met1 t hashAt h n e (probe.go t hashAt h fuel (seq t.mask h n))
 |0,n,_,o=>by lia|fuel+1,n,q,o=>by
  unfold probe.go
  by_cases z:n=e
  ·subst z;rw[Qoq T.dum he];rw[(Qko t.mask h n).d];show .emp λk g j=>by lia
  ·let Kt:n<e:="l"
   let⟨i,hi⟩:=Qpb (hl n Kt);rw[Qdk T.srt hi];simp only;split
   ·rename_i b;rw[ZG]at b;show .cand n i (Q5 _) Kt hi b λk g j=>by lia
   ·rename_i b;let l:=Qhv T hashAt h he hl fuel (n+1) Kt "l";change Met1 t hashAt h n e (probe.go t hashAt h fuel (seq t.mask h (n+1)));let ext:∀k m,(∀k,n+1<=k->k<m->∃a,t.place[a]?=-(seq t.mask h k).j/\hashAt a≠h)->n<=k->k<m->∃a,t.place[a]?=-(seq t.mask h k).j/\hashAt a≠h:=λk m f g j=>by
     grind
    generalize probe.go t hashAt h fuel (seq t.mask h (n+1))=r at l;cases l with
    |cand m a s c d p no=>show .cand m a "l" c d p λk=>ext k m no|emp no=>show .emp λk=>ext k e no
def Qov(T:TabOk t es)(hashAt:Nat->Int)(h:Int)(he:(seq t.mask h e).j∉t.place.toList)(hl:∀m,m<e->(seq t.mask h m).j∈t.place.toList)(hb:e<=10*(13+t.mask))(hn:n<=e):Met1 t hashAt h n e (t.probe hashAt h (seq t.mask h n)):=by
 show Qhv T hashAt h he hl _ n hn (by unfold turns;lia)
def Qvv{β γ:Type}{xs:List β}{ys:List γ}(hl:xs.length=ys.length)(p:Nat)(x:β)(y:γ):(xs.take p++x::xs.drop p).zip (ys.take p++y::ys.drop p)=(xs.zip ys).take p++(x,y)::(xs.zip ys).drop p:=by
 rw[Qcu "e",JC];congr 1
 ·show(List.take_zipWith).symm
 ·congr 1;show(List.drop_zipWith).symm
def Qw8{xs:List Nat}{p j:Nat}(h:xs.Pairwise (· < ·))(h1:∀a∈xs.take p,a<j)(h2:∀a∈xs.drop p,j<a):(xs.take p++j::xs.drop p).Pairwise (· < ·):=by
 rw[QK];show⟨h.sublist (List.take_sublist _ _),WI.mpr ⟨h2,h.sublist (List.drop_sublist _ _)⟩,λa ha b hb=>?_⟩;rcases Qe.mp hb with rfl|hb
 ·show h1 a ha
 ·let:=h1 a ha;let:=h2 b hb
  lia
def TabOk.put(T:TabOk t es)(he:(seq t.mask h e).j∉t.place.toList)(hl:∀m,m<e->(seq t.mask h m).j∈t.place.toList):
  let t':=(t.put (seq t.mask h e).j).1
  let c:=insertAt es (t.put (seq t.mask h e).j).2 (h,x)
  t'.mask=t.mask/\t'.dummies= #[]/\t'.place.size=t.place.size+1/\c.size=es.size+1/\t'.place.toList.Pairwise (· < ·)/\(∀j∈t'.place.toList,j<=t'.mask)/\(∀q∈t'.place.toList.zip c.toList,Re t'.mask t'.place.toList q.2.1 q.1)/\t'.led=t.led/\t'.plain=t.plain:=by
 intro t' c;generalize g:(seq t.mask h e).j=j at he;let n:j<=t.mask:=by rw[<-g];show Jac ..
 let s:t'.place=insertAt t.place (below t.place j) j:=by change(t.put (seq t.mask h e).j).1.place=_;rw[g];rfl
 let o:c=insertAt es (below t.place j) (h,x):=by change insertAt es (t.put (seq t.mask h e).j).2 (h,x)=_;rw[g];rfl
 let b:=OQ T.srt j;let k:t'.place.toList=t.place.toList.take (below t.place j)++j::t.place.toList.drop (below t.place j):=by rw[s,toList_insertAt]
 let le:c.toList=es.toList.take (below t.place j)++(h,x)::es.toList.drop (below t.place j):=by rw[o,toList_insertAt]
 let d:∀a,a∈t.place.toList->a∈t'.place.toList:=λa ha=>by
  rw[<-QU (below t.place j) t.place.toList]at ha
  grind
 let Ks:=by simpa using T.size
 let p:t'.place.size=t.place.size+1:=by
  let:=JL List.length k
  grind
 let r:c.size=es.size+1:=by
  let:=JL List.length le
  grind
 show⟨(),?_,p,r,?_,?_,?_,(),()⟩
 ·change(if has t.dummies (seq t.mask h e).j then _ else t.dummies)= #[];rw[T.dum,Qng];rfl
 ·rw[k];show Qw8 T.srt (λa ha=>?_) λa ha=>?_
  ·let⟨i,hi,u⟩:=Wi.mp ha;let f:i<below t.place j/\i<t.place.toList.length:="g"
   show b.lo i a f.1 "e"
  ·let⟨i,hi,u⟩:=Wi.mp ha;let f:below t.place j+i<t.place.toList.length:=by
    grind
   let w:=b.hi (below t.place j+i) a (Z5 _ _) "e"
   grind
 ·intro a ha;rw[k]at ha;rcases Qt.mp ha with z|z
  ·show T.bnd a (Ji z)
  ·rcases Qe.mp z with rfl|z
   ·show n
   ·show T.bnd a (JE z)
 ·intro q l;rw[k,le,Qvv Ks]at l;let old:∀q∈t.place.toList.zip es.toList,Re t'.mask t'.place.toList q.2.1 q.1:=λq l=>(T.reach q l).mono d
  rcases Qt.mp l with z|z
  ·grind
  ·rcases Qe.mp z with rfl|z
   ·show⟨e,g,λm v=>d _ (hl m v)⟩
   grind
end
def occ(mask:Nat)(owner:Array (Option Nat)):List Nat:=(List.range (mask+1)).filter λj=>(owner.getD j none).isSome
def YD{mask:Nat}{owner:Array (Option Nat)}{j:Nat}:j∈occ mask owner↔j<=mask/\(owner.getD j none).isSome=true:=by
 unfold occ;rw[QS,Jp];constructor
 ·rintro⟨a,b⟩;show⟨"l",b⟩
 ·rintro⟨a,b⟩;show⟨"l",b⟩
def Jex{owner:Array (Option Nat)}(h:j<owner.size)(a b:Option Nat):owner.getD j a=owner.getD j b:="e"
theorem Qnj{mask:Nat}(hsz:owner.size=mask+1):∀(fuel b:Nat),(∃b',b<=b'/\b'-b<fuel/\(bs mask h b').1∉occ mask owner)->(∀m,m<nb mask h b->(seq mask h m).j∈occ mask owner) ->
  ∃j,layClean.free mask owner fuel (bs mask h b).1 (bs mask h b).2=-j/\j<=mask/\j∉occ mask owner/\Re mask (occ mask owner) h j
 |0,b,⟨b',i,l,_⟩,_=>by lia|fuel+1,b,⟨b',i,l,h3⟩,f=>by
  unfold layClean.free;let s:=Gp mask (bs mask h b).1;let n:=Qdl (Qv2 mask h b);cases c:(List.range (runEnd mask (bs mask h b).1+1-(bs mask h b).1)).find? λk=>(owner.getD ((bs mask h b).1+k) (-0)).isNone with
  |some k =>
   rw[List.find?_range_eq_some]at c;let⟨t,o,p⟩:=c;rw[Jp]at o;let q:(bs mask h b).1+k<owner.size:="l"
   show⟨_,(),"l",λz=>?_,nb mask h b+k,Qf0 mask h b k "l",λm g=>?_⟩
   ·let:=(YD.mp z).2
    ext
   ·by_cases d:m<nb mask h b
    ·ext
    ·let e:m=nb mask h b+(m-nb mask h b):="l"
     rw[e,Qf0 mask h b _ "l",YD];let:=p (m-nb mask h b) "l"
     grind
  |none =>
   rw[List.find?_range_eq_none]at c;let a:∀k,k<=runEnd mask (bs mask h b).1-(bs mask h b).1->(bs mask h b).1+k∈occ mask owner:=λk u=>by
    rw[YD]
    grind
   let Ko:b≠b':=λz=>h3 (by rw[<-z];let:=a 0 "l";lia)
   show Qnj hsz fuel (b+1) ⟨b',"l","l",h3⟩ λm g=>?_
   by_cases d:m<nb mask h b
   ·ext
   ·let r:m<nb mask h b+(runEnd mask (bs mask h b).1-(bs mask h b).1)+1:=g;let e:m=nb mask h b+(m-nb mask h b):="l"
    rw[e,Qf0 mask h b _ "l"];show a _ "l"
structure Own(mask:Nat)(owner:Array (Option Nat))(hs:List Int):Prop where
 size:owner.size=mask+1
 no:∀j i,owner.getD j none=-i->i<hs.length/\∀h,hs[i]?=-h->Re mask (occ mask owner) h j
 all:∀i,i<hs.length->∃j,j<=mask/\owner.getD j none=-i
 inj:∀j j' i,owner.getD j none=-i->owner.getD j' none=-i->j=j'
def Gb{owner:Array (Option Nat)}(hj:j<owner.size):(owner.setIfInBounds j v).getD k none=if k=j then v else owner.getD k none:=by
 by_cases h:k=j
 ·ext
 ·rw[Qc h]
  by_cases b:k<owner.size
  ·let a:k<(owner.setIfInBounds j v).size:="e"
   simp only[Array.getD,a,b,dite_true];show Array.getElem_setIfInBounds_ne b (Jd h)
  ext
theorem Qt6:∀(n:Nat)(l:List Nat),l.Nodup->(∀x∈l,x<n)->l.length<=n
 |0,l,_,h=>by
  cases l with
  |nil=>ext|cons a r=>show absurd (h a Q8) (Qct _)
 |n+1,l,b,h=>by
  let c:=Qt6 n (l.erase n) (b.erase n) λx hx=>by
   grind
  grind
def Qx4{mask:Nat}{owner:Array (Option Nat)}{hs:List Int}(O:Own mask owner hs):(occ mask owner).length<=hs.length:=by
 let key:∀(l:List Nat),l.Nodup->(∀j∈l,(owner.getD j none).isSome=true)->(l.map λj=>(owner.getD j none).getD 0).Nodup:=by
  intro l
  induction l with
  |nil=>intro _ _;show JD|cons a r i =>
   intro k c;rw[Qw,J0];let⟨g,m⟩:=J0.mp k;show⟨λz=>?_,i m λj d=>c j (Q7 _ d)⟩;let⟨b,hb,e⟩:=Q4.mp z;let⟨x,hx⟩:=Wg.mp (c a Q8);let⟨y,hy⟩:=Wg.mp (c b (Q7 _ hb));rw[hx,hy]at e;let n:y=x:=e;subst n;show g (by rw[O.inj a b _ hx hy];show hb)
 let h:(occ mask owner).Nodup:=(Qqd).filter _;let g:=key _ h λj d=>(YD.mp d).2
 let f:∀x∈(occ mask owner).map (λj=>(owner.getD j none).getD 0),x∈List.range hs.length:=λx hx=>by
  let⟨j,d,rfl⟩:=Q4.mp hx;let⟨y,hy⟩:=Wg.mp (YD.mp d).2;rw[hy];show Jp.mpr (O.no j y hy).1
 let:=Qt6 hs.length _ g λx hx=>Jp.mp (f x hx)
 rwa [Qb]at this
def Qsa{mask:Nat}{owner:Array (Option Nat)}{hs:List Int}(c:Cyc mask)(O:Own mask owner hs)(hl:hs.length<=mask)(h:Int):
  ∃j,layClean.free mask owner (turns mask) (bits h % (mask+1)) (bits h)=-j/\Own mask (owner.setIfInBounds j (-hs.length)) (hs++[h]):=by
 let hol:=Qx4 O;let l:(occ mask owner).Pairwise (· < ·):=List.pairwise_lt_range.sublist List.filter_sublist;let⟨v,hv,hm⟩:=pigeon (mask+1) (occ mask owner) l "l";let⟨b,hb,e⟩:=Jcn c h (show v<=mask by lia);let⟨j,ej,w,p,r⟩:=Qnj (h:=h) O.size (turns mask) 0 ⟨b,QJ _,by unfold turns;lia,by rw[e];show hm⟩ λm s=>by cases s
 show⟨j,ej,?_⟩;let f:j<owner.size:=by rw[O.size];lia
 let t:owner.getD j none=none:=by
  cases q:owner.getD j none with
  |none=>rfl|some x=>show absurd (YD.mpr ⟨w,by rw[q];rfl⟩) p
 let g:∀x∈occ mask owner,x∈occ mask (owner.setIfInBounds j (-hs.length)):=λx hx=>by
  rw[YD]at hx ⊢;show⟨hx.1,?_⟩;rw[Gb f];split
  ·rfl
  ·show hx.2
 show⟨by simpa using O.size,λk i d=>?_,λi hi=>?_,λk y i d a=>?_⟩
 ·rw[Gb f]at d;rw[QG,WM];split at d
  ·rename_i n;cases d;show⟨"l",λu o=>?_⟩;rw[J4 (Q5 _),Nat.sub_self]at o;let:h=u:=by simpa using o
   subst this;rw[n];show r.mono g
  ·let⟨h1,h2⟩:=O.no k i d;show⟨"l",λu o=>?_⟩;rw[QN h1]at o;show(h2 u o).mono g
 ·rw[QG,WM]at hi
  by_cases z:i=hs.length
  ·subst z;show⟨j,w,by rw[Gb f,Qh ()]⟩
  ·let⟨k,d,n⟩:=O.all i "l";show⟨k,d,?_⟩;rw[Gb f,Qc]
   ·show n
   ·rintro rfl;rw[t]at n;cases n
 ·rw[Gb f]at d a;split at d
  ·rename_i e1;split at a
   ·rename_i e2;rw[e1,e2]
   ·cases d;let:=(O.no y _ a).1
    lia
  ·split at a
   ·cases a;let:=(O.no k _ d).1
    lia
   ·show O.inj k y i d a
theorem Qib{mask:Nat}(c:Cyc mask):∀(rest:List Int)(owner:Array (Option Nat))(hs:List Int),Own mask owner hs->hs.length+rest.length<=mask+1 ->
  ∃owner',rest.foldl (λ(acc:Option (Array (Option Nat)×Nat)) h=>do
   let(owner,k)<-acc
   let j<-layClean.free mask owner (turns mask) (bits h % (mask+1)) (bits h)
   pure (owner.setIfInBounds j (-k),k+1)) (-(owner,hs.length))=-(owner',hs.length+rest.length)/\Own mask owner' (hs++rest)
 |[],owner,hs,O,_=>⟨owner,(),by rw[QW];show O⟩|h::rest,owner,hs,O,hl=>by
  rw[Qz]at hl;let⟨j,b,O'⟩:=Qsa c O "l" h;let⟨d,a,O2⟩:=Qib c rest _ _ O' (by rw[QG,WM];lia);show⟨d,?_,by rw[QH]at O2;show O2⟩;rw[J3];let e:(do
   let(owner,k)<-(-(owner,hs.length):Option (Array (Option Nat)×Nat))
   let j<-layClean.free mask owner (turns mask) (bits h % (mask+1)) (bits h)
   pure (owner.setIfInBounds j (-k),k+1))=-(owner.setIfInBounds j (-hs.length),hs.length+1):=by
   change(do
    let j<-layClean.free mask owner (turns mask) (bits h % (mask+1)) (bits h)
    pure (owner.setIfInBounds j (-hs.length),hs.length+1))=_
   rw[b];rfl
  rw[e];rw[QG,WM]at a;rw[a,Qz];congr 2
  lia
def Qx3(mask:Nat):Own mask (Array.replicate (mask+1) none) []:=by
 let e:∀j,(Array.replicate (mask+1) (none:Option Nat)).getD j none=none:=λj=>by
  unfold Array.getD
  ext
 show⟨"s",λj i h=>?_,λi hi=>absurd hi (Qct _),λj a i h=>?_⟩
 all_goals ext
def Qic{mask:Nat}(c:Cyc mask)(hs:Array Int)(hl:hs.size<=mask+1):∃owner,layClean mask hs=-owner/\Own mask owner hs.toList:=by
 let⟨o,e,O⟩:=Qib c hs.toList _ [] (Qx3 mask) (by simpa using hl);show⟨o,?_,by simpa using O⟩;unfold layClean;rw[<-Array.foldl_toList];let a:=JL (λx=>x.map (·.1)) e;show a
def liv(mask:Nat)(owner:Array (Option Nat)):List (Nat×Nat):=(List.range (mask+1)).filterMap λj=>(owner.getD j none).map (j,·)
def Qn7(l:List Nat)(f:Nat->Option Nat):(l.filterMap λj=>(f j).map (j,·)).map (·.1)=l.filter λj=>(f j).isSome:=by
 induction l with
 |nil=>rfl|cons a r b =>
  cases q:f a with
  |none=>ext|some x=>ext
def Gz{mask:Nat}:(j,i)∈liv mask owner↔j<=mask/\owner.getD j none=some i:=by
 unfold liv
 simp;lia
def Qd3{mask:Nat}{owner:Array (Option Nat)}{hs:List Int}(O:Own mask owner hs):((liv mask owner).map (·.2)).Nodup:=by
 let d:(liv mask owner).Pairwise λa b=>a.2≠b.2:=by
  let c:((liv mask owner).map (·.1)).Pairwise (· ≠ ·):=by
   let e:(liv mask owner).map (·.1)=occ mask owner:=Qn7 _ _;rw[e];show(Qqd).filter _
  rw[YL]at c;show c.imp_of_mem ?_;rintro⟨j,i⟩ ⟨f,g⟩ h k Ko z;let l:i=g:=z;subst l;show Ko (O.inj j f i (Gz.mp h).2 (Gz.mp k).2)
 show YL.mpr d
def Qtn{mask:Nat}(O:Own mask owner hs):((liv mask owner).map (·.2)).Perm (List.range hs.length):=by
 show(B9 (Qd3 O) Qqd).mpr λi=>?_
 rw[Q4,Jp];constructor
 ·rintro⟨⟨j,a⟩,h,e⟩;let b:=e;subst b;show(O.no j a (Gz.mp h).2).1
 ·intro hi;let⟨j,c,e⟩:=O.all i hi;show⟨(j,i),Gz.mpr ⟨c,e⟩,()⟩
theorem Qlt{β:Type}{es:Array β}:∀(l:List (Nat×Nat)),(∀p∈l,p.2<es.size)->((l.map (·.2)).filterMap (es[·]?)).length=l.length/\∀q∈(l.map (·.1)).zip ((l.map (·.2)).filterMap (es[·]?)),∃i:Nat,(q.1,i)∈l/\es[i]?=-q.2
 |[],_=>⟨(),λq a=>nomatch a⟩| (j,i)::r,h=>by
  let hi:i<es.size:=h (j,i) Q8;let⟨b,c⟩:=Qlt r λp d=>h p (Q7 _ d)
  let e:es[i]?=-es[i]:=by simp[hi]
  rw[Qw,Qw,Ob e];show⟨by rw[Qz,Qz,b],λq a=>?_⟩;rw[JC]at a;rcases Qe.mp a with rfl|a
  ·show⟨i,Q8,e⟩
  ·let⟨f,h3,h4⟩:=c q a;show⟨f,Q7 _ h3,h4⟩
def Qot{α:Type}{t:SetTable}{es:Array (Int×α)}{Ki:Nat}(hm:MaskOk (sizeAbove Ki-1))(hf:es.size*5<(sizeAbove Ki-1)*3):
  ∃t' order,t.relaid (es.map (·.1)) Ki=-(t',order)/\(order.filterMap (es[·]?)).size=es.size/\TabOk t' (order.filterMap (es[·]?))/\(order.filterMap (es[·]?)).toList.Perm es.toList/\t'.led=t.led/\t'.plain=t.plain/\order.toList.Perm (List.range es.size):=by
 let⟨a,e,O⟩:=Qic hm.cyc (es.map (·.1)) (by rw[Array.size_map];lia);let Ks:(es.map (·.1)).toList.length=es.size:="s"
 let hb:∀p∈liv (sizeAbove Ki-1) a,p.2<es.size:=λp l=>by
  let:=(O.no p.1 p.2 (Gz.mp (show(p.1,p.2)∈_ from l)).2).1;rwa [Ks]at this
 let⟨m,n⟩:=Qlt (es:=es) (liv (sizeAbove Ki-1) a) hb;let b:=Qtn O;rw[Ks]at b;let d:(liv (sizeAbove Ki-1) a).length=es.size:=by
  let:=b.length_eq;simpa using this
 let f:(((liv (sizeAbove Ki-1) a).map (·.2)).toArray.filterMap (es[·]?)).size=es.size:=by
  rw[<-Jo,Qb2];show m.trans d
 let c:(liv (sizeAbove Ki-1) a).map (·.1)=occ (sizeAbove Ki-1) a:=Qn7 _ _;show⟨⟨(sizeAbove Ki-1),((liv (sizeAbove Ki-1) a).map (·.1)).toArray,#[],t.finger,t.led,t.movedTo (sizeAbove Ki-1),t.plain⟩,((liv (sizeAbove Ki-1) a).map (·.2)).toArray,?_,f,⟨hm,(),?_,?_,?_,?_,?_⟩,?_,(),(),by simpa using b⟩
 ·unfold relaid laid;rw[e];rfl
 ·rw[f];change((liv (sizeAbove Ki-1) a).map (·.1)).toArray.size=_;simpa using d
 ·change((liv (sizeAbove Ki-1) a).map (·.1)).toArray.size*5<_;rw[Qy,Qb,d];show hf
 ·change((liv (sizeAbove Ki-1) a).map (·.1)).Pairwise _;rw[c];show List.pairwise_lt_range.sublist List.filter_sublist
 ·intro j o;let g:j∈(liv (sizeAbove Ki-1) a).map (·.1):=o;rw[c]at g;show(YD.mp g).1
 ·intro q k;let h:q∈((liv (sizeAbove Ki-1) a).map (·.1)).zip (((liv (sizeAbove Ki-1) a).map (·.2)).filterMap (es[·]?)):=by
   rw[Qb2]at k;show k
  let⟨i,r,s⟩:=n q h;change Re (sizeAbove Ki-1) ((liv (sizeAbove Ki-1) a).map (·.1)) q.2.1 q.1;rw[c];show(O.no q.1 i (Gz.mp r).2).2 q.2.1 ?_;rw[Qo,Array.getElem?_map,s];rfl
 ·rw[Qb2];show(b.filterMap _).trans (by rw[Qcx])
section
variable {prog:Program} {w:World} {K:Type} [DecidableEq K] (knd:HeapKind prog w K)
structure SK:Prop where
 stmt:∀{A:Around}{E:Kh}{s:Shared}{k:K}{a:Addr}{Q:Bool->Shared->Prop},knd.is s.heap k a->Q false s->wpAny (model prog w) A (ofAClassStatement 8 (.ref a)) Q E s
 byVal:∀{A:Around}{E:Kh}{s:Shared}{k:K}{a:Addr}{Q:Bool->Shared->Prop},knd.is s.heap k a->(∀b,Q b s)->wpAny (model prog w) A (hashByValue 8 (.ref a)) Q E s
 keeps:∀{h h':Heap}{k:K}{a:Addr},knd.is h k a->(∀b o,h.get? b=-o->o.cls=.type "tuple" ->h'.get? b=-o)->knd.is h' k a
def Qae(x:K×Addr):Int×Value:=(knd.hash x.1,.ref x.2)
def SetH(led:Bool)(h:Heap)(a:Addr)(ks:List K):Prop:=
 ∃(o:Obj)(es:Array (Int×Value))(ep:Nat)(t:SetTable)(xs:List (K×Addr)),h.get? a=-o/\o.ExactSet/\o.data=.set es ep t/\TabOk t es/\es.toList=xs.map (Qae knd)/\(∀x∈xs,knd.is h x.1 x.2)/\(xs.map (·.1)).Nodup/\(xs.map (·.1)).Perm ks/\t.led=led
variable {knd}
def SK.butSet(hk:SK knd){h h':Heap}{k:K}{a d:Addr}{o:Obj}(hi:knd.is h k a)(ho:h.get? d=-o)(hex:o.ExactSet)(hs:Heap.SameBut d h h'):knd.is h' k a:=
 hk.keeps hi λb e hb c=>by
  let Ko:b≠d:=by
   rintro rfl;rw[ho]at hb;cases hb;rw[hex.1]at c;show absurd c "d"
  rw[hs.2 b Ko];show hb
variable {A:Around} {E:Kh} {s:Shared}
def Qgh{es:Array (Int×Value)}{xs:List (K×Addr)}(he:es.toList=xs.map (Qae knd))(j:Nat):es[j]? =(xs[j]?).map (Qae knd):=by
 rw[<-Qo,he,Qd]
def Qiz{stored:List Value}(hk:SK knd)(hkey:knd.is s.heap k b)(hst:∀v∈stored,∃k' c,v=.ref c/\knd.is s.heap k' c)(h:Q false s):
  wpAny (model prog w) A (searchCouldBeSeen (.ref b) stored) Q E s:=by
 show Q0 ?_;show wpAny_forIn_list _ (λa r f=>f=s/\r=(none,⟨⟩)/\∀v∈a,∃k' c,v=.ref c/\knd.is s.heap k' c) _ ?_ ?_ _ _ ⟨(),(),hst⟩
 ·rintro x a r f ⟨rfl,rfl,g⟩;let⟨k',c,rfl,hb⟩:=g x Q8;let d:=λv e=>g v (Q7 _ e)
  by_cases e:(b==c || (carriedByValue (.ref b)&&carriedByValue (.ref c)))=true
  ·rw[Qh e];show Q2 ⟨(),(),d⟩
  ·rw[Qc e];show Q0 (knd.quiet hkey ?_);show Q0 (knd.quiet hb ?_);show Q0 (hk.stmt hkey ?_);show Q0 (hk.stmt hb ?_);show Q2 ⟨(),(),d⟩
 ·rintro r f ⟨rfl,rfl,_⟩;show Q2 h
theorem OR{a b:Addr}{o:Obj}{es:Array (Int×Value)}{ep:Nat}{t:SetTable}{xs:List (K×Addr)}{k:K}(hk:SK knd)(hu:knd.room A)(ho:s.heap.get? a=-o)(hd:o.data=.set es ep t)(T:TabOk t es)
  (he:es.toList=xs.map (Qae knd)) (hxs:∀x∈xs,knd.is s.heap x.1 x.2) (hkey:knd.is s.heap k b) {e:Nat} (hem:(seq t.mask (knd.hash k) e).j∉t.place.toList) (hl:∀m,m<e->(seq t.mask (knd.hash k) m).j∈t.place.toList) (hb:e<=10*(13+t.mask))
  (hyes:k∈xs.map (·.1)->Q (.there none) s) (hno:k∉xs.map (·.1)->Q (.free (seq t.mask (knd.hash k) e).j false) s) :
  ∀(fuel n:Nat)(stand:Option Probe),stand.getD (t.probeStart (knd.hash k))=seq t.mask (knd.hash k) n->n<=e->e-n<fuel ->
   (∀(i:Nat)(x:K×Addr),xs[i]?=-x->x.1=k->∃m:Nat,n<=m/\m<e/\t.place[i]?=-(seq t.mask (knd.hash k) m).j) ->
   wpAny (model prog w) A (setSearchFrom a (.ref b) (knd.hash k) true fuel stand) Q E s
 |0,n,_,_,_,hf,_=>by lia|fuel+1,n,stand,hs,hn,hf,j=>by
  unfold setSearchFrom;show Q0 (Jk ho hd T.fits ?_);dsimp only;let hgw:t.gaveWay=false:=T.mask.odd;rw[hgw];rw[hs];generalize hP:t.probe _ (knd.hash k) (seq t.mask (knd.hash k) n)=P;let l:Met1 t (λi=>(es[i]?.map (·.1)).getD 0) (knd.hash k) n e P:=by
   rw[<-hP];show Qov T _ (knd.hash k) hem hl hb hn
  cases l with
  |emp no =>
   dsimp only;show Q2 (hno λhm=>?_);let⟨x,hx,ex⟩:=Q4.mp hm;let⟨i,hi,ei⟩:=Wi.mp hx;let d:xs[i]?=some x:="e"
   let⟨m,h1,h2,h3⟩:=j i x d ex;let⟨p,h4,h5⟩:=no m h1 h2;let:i=p:=Qew T.srt (by rw[Qo];show h3) "e";subst this;rw[Qgh he,d]at h5;show h5 (by change knd.hash x.1=_;rw[ex])
  |cand m i hm hme hi hh no =>
   dsimp only;let hsz:=T.size;let r:i<xs.length:=by
    let:=JL List.length he
    grind
   let d:xs[i]?=-xs[i]:=Qa r;let u:es[i]?=-(Qae knd xs[i]):=by rw[Qgh he,d];rfl
   let y:xs[i]∈xs:=WF r;let hisx:=hxs _ y;let hst:∀v∈(es.filter λx=>x.1==knd.hash k).toList.map (·.2),∃k' c,v=.ref c/\knd.is s.heap k' c:=λv hv=>by
    let⟨q,hq,rfl⟩:=Q4.mp hv;let hq':q∈es.toList:=by
     ext
    rw[he]at hq';let⟨x,hx,rfl⟩:=Q4.mp hq';show⟨x.1,x.2,(),hxs x hx⟩
   by_cases f:(!t.led)=true
   case' pos =>
    rw[Qh f];show Q0 (Qiz hk hkey hst ?_);simp only[QE,JU]
   case' neg=>rw[Qc f]
   all_goals
    rw[u];dsimp only[Qae];show Q0 (JT (knd.eqBool hu hisx hkey ?_));show Q0 (Jk ho hd T.fits ?_);dsimp only
    by_cases g:xs[i].1=k
    ·rw[Wh g];show Q2 (hyes (Q4.mpr ⟨_,y,g⟩))
    ·rw[QV g];let h:t.sameMemory t.moves t.mask=some true:=by unfold sameMemory;simp
     rw[h];dsimp only;simp only[Z0];rw[Qdk T.srt hi];dsimp only;rw[u];dsimp only[Qae];show Q0 (wpAny_isSame_ref_self (Q0 (Q2 ?_)));simp only[Z0];show OR hk hu ho hd T he hxs hkey hem hl hb hyes hno fuel (m+1) _ () "l" "l" λp x hx ex=>?_
     let⟨m',h1,h2,h3⟩:=j p x hx ex;show⟨m',?_,h2,h3⟩;rcases YK m' m with z|z|z
     ·let⟨i'',h4,h5⟩:=no m' h1 z;let:p=i'':=Qew T.srt (by rw[Qo];show h3) "e";subst this;rw[Qgh he,hx]at h5;show absurd (by change knd.hash x.1=_;rw[ex]) h5
     ·subst z;let:p=i:=Qew T.srt (by rw[Qo];show h3) "e"
      ext
     ·show z
def Qz0:sizeAbove 20=32:="d"
def Qyz:sizeAbove 76=128:="d"
def Qkl{t:SetTable}(hm:MaskOk t.mask)(h1:n*5<t.mask*3)(h2:t.mask*3<=(n+1)*5)(hn:n<64):MaskOk (sizeAbove (grown (n+1))-1)/\(n+1)*5<(sizeAbove (grown (n+1))-1)*3:=by
 let e:grown (n+1)=(n+1)*4:=by unfold grown;grind
 rw[e];rcases hm with hm|hm|hm
 ·let:n=4:="l"
  subst this;show⟨.inr (.inl ()),"d"⟩
 ·let:n=18:="l"
  subst this;show⟨.inr (.inr ()),"d"⟩
 ·lia
def Yf{α β:Type}{f:α->β}:∀{l:List α}{m:List β},m.Perm (l.map f)->∃l':List α,l'.Perm l/\m=l'.map f:=by
 intro l m h;generalize hl:l.map f=u at h
 induction h generalizing l with
 |nil =>
  ext
 | @cons x a b _ o =>
  let⟨y,k,rfl,rfl,g⟩:=Qeo.mp hl;let⟨l',p,e⟩:=o g;show⟨y::l',p.cons y,by rw[e];rfl⟩
 | @swap x y a =>
  let⟨z,k,rfl,rfl,g⟩:=Qeo.mp hl;let⟨n,d,rfl,rfl,h3⟩:=Qeo.mp g;show⟨n::z::d,Qzq z n d,"e"⟩
 | @trans a b c _ _ i j =>
  let⟨k,q,r⟩:=j hl;let⟨d,s,t⟩:=i r.symm;show⟨d,s.trans q,t⟩
def Qlq{led:Bool}{a b:Addr}{ks:List K}{k:K}{Q:Bool->Shared->Prop}(hk:SK knd)(hu:knd.room A)(hS:SetH knd led s.heap a ks)(hkey:knd.is s.heap k b)(hn:ks.length<64)
  (h:∀h',Heap.SameBut a s.heap h'->SetH knd led h' a (if k∈ks then ks else ks++[k])->Q (decide (k∉ks)) {s with heap:=h'}) :
  wpAny (model prog w) A (setAddHashed a (.ref b) (knd.hash k)) Q E s:=by
 let⟨o,es,ep,t,xs,ho,hex,hd,T,he,hxs,hnd,hp,hld⟩:=id hS;let hmem:k∈xs.map (·.1)↔k∈ks:=hp.mem_iff;let hxl:es.size=xs.length:=by
  let:=JL List.length he;simpa using this
 let hkl:xs.length=ks.length:=by
  let:=hp.length_eq;simpa using this
 let⟨e,hb,hem,hl⟩:=T.first (knd.hash k);unfold setAddHashed setAddHashedIn;show JT (Q0 (Jk ho hd T.fits ?_));dsimp only;let hsc:byScan (.ref b) es=false:=rfl;rw[hsc];simp only[QE,JU];show Q0 ?_;unfold setSearch;show OR hk hu ho hd T he hxs hkey hem hl hb (λhy=>?_) (λhno=>?_) 100000 0 none () (QJ _) (by let:=T.mask;rcases this with z|z|z<;>(rw[z]at hb;lia)) (λi x hx ex=>?_)
 ·-- it is there
  dsimp only;let hy':=hmem.mp hy;let:=h s.heap (Qzs a s.heap) (by rw[Qh hy'];show hS);rw[QV (λz=>z hy')]at this;show Q2 this
 ·-- it is new
  let hno':k∉ks:=λz=>hno (hmem.mpr z)
  dsimp only;show Q0 (Jk ho hd T.fits ?_);dsimp only;let⟨p1,p2,p3,p4,p5,p6,p7,p8,p9⟩:=T.put (x:=Value.ref b) hem hl;generalize hput:t.put (seq t.mask (knd.hash k) e).j=R at p1 p2 p3 p4 p5 p6 p7 p8 p9;let⟨t1,p⟩:=R;dsimp only at p1 p2 p3 p4 p5 p6 p7 p8 p9 ⊢;let go:∀pl:Bool,wpAny (model prog w) A (do
    storeSet a (insertAt es p (knd.hash k,Value.ref b)) {t1 with plain:=pl}
    if(!false&&({t1 with plain:=pl}:SetTable).tooFull)=true then do
      setRelay a (grown (es.size+1))
      pure true
     else pure true) Q E s:=by
   intro pl;let hz:(insertAt es p (knd.hash k,Value.ref b)).size<=sizeLine:=by
    rw[p4,QR]
    lia
   show Q0 (wpAny_storeSet_of ho hd ?_ hz);let hg:(s.heap.update a (Obj.putSet (insertAt es p (knd.hash k,Value.ref b)) {t1 with plain:=pl})).get? a=some {o with data:=.set (insertAt es p (knd.hash k,Value.ref b)) (ep+1) {t1 with plain:=pl}}:=by
    let:=Jt (Obj.putSet (insertAt es p (knd.hash k,Value.ref b)) {t1 with plain:=pl}) ho (by rw[putSet_of _ _ hd];rfl);rw[putSet_of _ _ hd]at this;show this
   let hsb:=QT s.heap a (Obj.putSet (insertAt es p (knd.hash k,Value.ref b)) {t1 with plain:=pl});let hperm:(insertAt es p (knd.hash k,Value.ref b)).toList.Perm ((xs++[(k,b)]).map (Qae knd)):=by
    show(SetTable.insertAt_perm _ _ _).trans ?_;rw[Wq,he,J1];show .refl _
   let hmem1:∀(h':Heap),Heap.SameBut a s.heap h'->∀x∈xs++[(k,b)],knd.is h' x.1 x.2:=λh' hs x hx=>by
    rcases Qt.mp hx with z|z
    ·show hk.butSet (hxs x z) ho hex hs
    ·rw[Qu]at z;subst z;show hk.butSet hkey ho hex hs
   let hnd1:((xs++[(k,b)]).map (·.1)).Nodup:=by
    rw[J1,Js];show⟨hnd,"s",λx hx y hy=>?_⟩;let:y=k:=by simpa using hy
    subst this;rintro rfl;show hno hx
   let hperm1:((xs++[(k,b)]).map (·.1)).Perm (ks++[k]):=by
    rw[J1];show hp.append (.refl _)
   let fin:∀(h':Heap)(o':Obj)(es':Array (Int×Value))(ep':Nat)(t':SetTable),Heap.SameBut a s.heap h'->h'.get? a=-o'->o'.ExactSet->o'.data=.set es' ep' t'->TabOk t' es'->t'.led=led->es'.toList.Perm ((xs++[(k,b)]).map (Qae knd))->Q true {s with heap:=h'}:=by
    intro h' o' es' ep' t' hs hg' hex' hd' T' hl' hp';let⟨ys,py,ey⟩:=Yf hp';let:=h h' hs;rw[Qc hno',Wh hno']at this;show this ⟨o',es',ep',t',ys,hg',hex',hd',T',ey,λx hx=>hmem1 h' hs x (py.mem_iff.mp hx),(py.map (·.1)).nodup_iff.mpr hnd1,(py.map (·.1)).trans hperm1,hl'⟩
   let hfull:t1.fill=es.size+1:=by
    unfold SetTable.fill;rw[p2,p3,T.size];rfl
   by_cases hf:(!false&&({t1 with plain:=pl}:SetTable).tooFull)=true
   ·rw[Qh hf];let hf':t.mask*3<=(es.size+1)*5:=by
     let:decide (t1.fill*5 ≥ t1.mask*3)=true:=by simpa[SetTable.tooFull,SetTable.fill]using hf
     rw[Wo,hfull,p1]at this;show this
    let⟨rm,rf⟩:=Qkl T.mask (by rw[<-T.size];show T.full) hf' "l";let⟨t2,order,e2,sz2,T2,pp2,l2,_⟩:=Qot (t:={t1 with plain:=pl}) (es:=insertAt es p (knd.hash k,Value.ref b)) rm (by rw[p4];show rf);let hfit:({t1 with plain:=pl}:SetTable).fits (insertAt es p (knd.hash k,Value.ref b)).size=true:=by
     change t1.fits _=true;let h1:=p3;let h2:=T.full;let h3:=T.size;rw[p4];unfold SetTable.fits;rw[hfull,p1,p3,T.size]
     simp
     let:=T.mask;rcases this with z|z|z<;>(rw[z]at h2 ⊢; lia)
    show Q0 ?_;unfold setRelay;show Q0 (Jk hg () hfit ?_);dsimp only;let hsa: ¬ sizeAbove (grown (es.size+1)) > sizeLine:=by
     rw[QR];let:=rm;rcases this with z|z|z<;>lia
    rw[Qc hsa];rw[e2];show Q0 ?_;change wpAny (model prog w) A (if((order.filterMap ((insertAt es p (knd.hash k,Value.ref b))[·]?)).size != (insertAt es p (knd.hash k,Value.ref b)).size)=true then _ else _) _ _ _;rw[Qc (by rw[sz2];simp)];show Q2 ?_;let hz2:(order.filterMap ((insertAt es p (knd.hash k,Value.ref b))[·]?)).size<=sizeLine:=by
     rw[sz2];show hz
    show wpAny_storeSet_of hg () (Q2 ?_) hz2;let hg2:((s.heap.update a (Obj.putSet (insertAt es p (knd.hash k,Value.ref b)) {t1 with plain:=pl})).update a (Obj.putSet (order.filterMap ((insertAt es p (knd.hash k,Value.ref b))[·]?)) t2)).get? a=some {o with data:=.set (order.filterMap ((insertAt es p (knd.hash k,Value.ref b))[·]?)) (ep+1+1) t2}:=by
     let:=Jt (Obj.putSet (order.filterMap ((insertAt es p (knd.hash k,Value.ref b))[·]?)) t2) hg (by rw[putSet_of _ _ ()];rfl);rw[putSet_of _ _ ()]at this;show this
    show fin _ _ _ _ _ (hsb.trans (QT _ a _)) hg2 hex () T2 (by rw[l2];change t1.led=led;rw[p8,hld]) (pp2.trans hperm)
   ·rw[Qc hf];let hT:TabOk {t1 with plain:=pl} (insertAt es p (knd.hash k,Value.ref b)):=by
     let hnf: ¬ (t1.fill*5 ≥ t1.mask*3):=λz=>hf (by simpa[SetTable.tooFull,SetTable.fill]using z)
     rw[hfull]at hnf;show⟨by change MaskOk t1.mask;rw[p1];show T.mask,p2,by change t1.place.size=_;rw[p3,p4,T.size],by change t1.place.size*5<t1.mask*3;rw[p3,T.size];lia,p5,p6,p7⟩
    show Q2 (fin _ _ _ _ _ hsb hg hex () hT (by change t1.led=led;rw[p8,hld]) hperm)
  by_cases hpl:t1.plain=true
  ·rw[Qh hpl];show Q0 (hk.byVal hkey λbv=>?_);cases bv with
   |true =>
    simp only[Z0];let:=go t1.plain;show this
   |false =>
    simp only[QE,JU];show go false
  ·rw[Qc hpl];show Q0 (Q2 ?_);simp only[Z0];show go t1.plain
 ·-- where it stands if it is there
  let hxi2:es[i]?=-(Qae knd x):=by rw[Qgh he,hx];rfl
  let hi:i<t.place.size:=by
   let:=(Qzu.mp hxi2).1;let:=T.size
   lia
  let hpi:t.place[i]?=-t.place[i]:=by simp[hi]
  let hz:(t.place[i],Qae knd x)∈t.place.toList.zip es.toList:=by
   show Q6 (i:=i) ?_;rw[Jv];show⟨by rw[Qo];show hpi,by rw[Qo];show hxi2⟩
  let⟨m,e1,e2⟩:=T.reach _ hz;let e1':(seq t.mask (knd.hash k) m).j=t.place[i]:=by rw[<-ex];show e1
  show⟨m,QJ _,?_,by rw[e1'];show hpi⟩;show Nat.lt_of_not_le λz=>?_
  rcases Qjx z with z|z
  ·let:=e2 e z;let ek:(Qae knd x).1=knd.hash k:=by change knd.hash x.1=_;rw[ex]
   rw[ek]at this;show hem this
  ·subst z;rw[e1']at hem;show hem "s"
end
end ST
namespace ST
open PySem PySem.SetTable PySem.Spec
def U3{K:Type}[DecidableEq K](acc:List K)(k:K):List K:=if k∈acc then acc else acc++[k]
def Ut{K:Type}[DecidableEq K](ks:List K):List K:=ks.foldl U3 []
def Qpv{K:Type}[DecidableEq K]{ks:List K}{k:K}(h:ks[i]?=-k):Ut (ks.take (i+1))=U3 (Ut (ks.take i)) k:=by
 unfold Ut;rw[Jr,h,Zy];rfl
def Qc9{K:Type}[DecidableEq K](ks:List K):(Ut ks).length<=ks.length:=by
 let go:∀(l b:List K),(l.foldl U3 b).length<=b.length+l.length:=by
  intro l
  induction l with
  |nil=>intro b;simp|cons a r c =>
   intro b;rw[J3,Qz];let d:=c (U3 b a);let e:(U3 b a).length<=b.length+1:=by
    unfold U3;split
    ·omega
    ·simp
   omega
 let:=go ks [];simpa[Ut]using this
def GU{K:Type}[DecidableEq K](ks:List K):(Ut ks).Nodup/\∀k,k∈Ut ks↔k∈ks:=by
 let go:∀(l b:List K),b.Nodup->(l.foldl U3 b).Nodup/\∀k,k∈l.foldl U3 b↔k∈b\/k∈l:=by
  intro l
  induction l with
  |nil=>intro b h;show⟨h,λk=>by simp⟩|cons a r c =>
   intro b h;rw[J3];let d:(U3 b a).Nodup:=by
    unfold U3;split
    ·show h
    ·rename_i e;rw[Js];show⟨h,"s",λx hx y hy=>?_⟩;let:y=a:=by simpa using hy
     subst this;rintro rfl;show e hx
   let⟨n,m⟩:=c _ d;show⟨n,λk=>?_⟩;rw[m k];let f:k∈U3 b a↔k∈b\/k=a:=by
    unfold U3;split
    ·rename_i ha;constructor
     ·show .inl
     ·rintro(z|rfl)
      ·show z
      ·show ha
    ·simp
   rw[f,Qe,or_assoc]
 let:=go ks [] JD;show⟨this.1,λk=>by rw[show Ut ks=ks.foldl U3 []from (),this.2 k];simp⟩
section
variable {prog:Program} {w:World} {K:Type} [DecidableEq K] {knd:HeapKind prog w K}
variable {A:Around} {R:Result->Shared->Prop} {I:Addr} {fp wr:List Addr} {G:Array GenState->Array GenState->Prop} {n:Nat} {P:Nat->Value->Prop} {St:Nat->Shared->Prop}
def SetH.at{led:Bool}(hk:SK knd)(hS:SetH knd led h S ks)(hs:∀o,h.get? S=-o->h'.get? S=-o)(ht:∀b o,h.get? b=-o->o.cls=.type "tuple" ->h'.get? b=-o):SetH knd led h' S ks:=by
 let⟨o,d,e,t,f,g,hex,hd,T,i,a,c,j⟩:=hS;show⟨o,d,e,t,f,hs o g,hex,hd,T,i,λx hx=>hk.keeps (a x hx) ht,c,j⟩
def Qeu{led:Bool}(W:WalksS prog w A.in1 I fp wr G n P St)(S:Addr)(hSf:S∉fp)(hk:SK knd)(hu:knd.room A.in1)(ks:List K)(hl:ks.length=n)(hb:n<64)(h0:Heap)
  (hval:∀i v k,P i v->ks[i]?=-k->∃b,v=.ref b/\knd.is h0 k b) (hwr:∀i s,St i s->∀b∈wr,∀o,s.heap.get? b=-o->o.cls≠ .type "tuple") :
  ∀(j i:Nat)(s:Shared),n-i=j->i<=n->St i s->(∀b o,h0.get? b=-o->o.cls=.type "tuple" ->s.heap.get? b=-o)->SetH knd led s.heap S (Ut (ks.take i)) ->
   (∀s',Moved (S::wr) G s s'->(∀b o,h0.get? b=-o->o.cls=.type "tuple" ->s'.heap.get? b=-o)->SetH knd led s'.heap S (Ut ks)->R (.ok (.ret .none)) s') ->
   codeAny (model prog w) A (.builtin "set.update.loop" ⟨[.ref S,.ref I],[]⟩) R s:=by
 let t:S∉wr:=λh=>hSf (W.sub _ h)
 let l:∀b∈wr,b∈S::wr:=λb hb=>Q7 _ hb
 let d:∀{i:Nat}{s s':Shared},St i s->Moved wr G s s'->(∀b o,s.heap.get? b=-o->o.cls=.type "tuple" ->s'.heap.get? b=-o):=λa c b o e f=>c.heap b o (λz=>hwr _ _ a b z o e f) e
 intro j
 induction j with
 |zero =>
  intro i s hj hi a ht hS hR;let hin:i=n:="l"
  subst hin;show JX Qgv ?_;show Q0 (W.done s _ _ a λs' c=>?_);let g:=by
   rw[Jh "l"]at hS;show SetH.at hk hS (λo e=>c.heap S o t e) (d a c)
  show Q2 (hR s' (c.mono l) (λb o e f=>d a c b o (ht b o e f) f) g)
 |succ j ih =>
  intro i s hj hi a ht hS hR;let Kt:i<n:="l"
  show JX Qgv ?_;show Q0 (W.item i s _ _ Kt a λv s' hP u c=>?_);let p:ks[i]?=-(ks[i]'"l"):=Qa _;generalize ks[i]'"l"=k at p;let⟨b,rfl,hkb⟩:=hval i v k hP p;let x:=λb o e f=>d a c b o (ht b o e f) f
  let m:=hk.keeps hkb x;let g:=SetH.at hk hS (λo e=>c.heap S o t e) (d a c);show Q0 (JT ?_);show JT ?_;show Q0 (knd.pyHash hu m ?_);let q:(Ut (ks.take i)).length<64:=by
   let h1:=Qc9 (ks.take i)
   grind
  show Qlq hk hu g m q λh' r hS2=>?_
  let hex:∀o,s'.heap.get? S=-o->o.cls≠ .type "tuple":=λo e=>by
   let⟨o',_,_,_,_,ho',y,_⟩:=g;rw[ho']at e;cases e;rw[y.1];decide
  let hSi:SetH knd led h' S (Ut (ks.take (i+1))):=by rw[Qpv p];show hS2
  show Q2 ⟨Za PyProof.Rows.F.plain_set_update_loop _,ih (i+1) _ "l" Kt (W.frame _ s' _ _ u (Z5 _ _) λb hb o e=>?_) (λb o e f=>?_) hSi λs'' hm'' ht'' hS''=>?_⟩
  ·rw[r.2 b (λh:b=S=>hSf "e")];show e
  ·let e':=x b o e f;let Ko:b≠S:=by
    grind
   rw[r.2 b Ko];show e'
  ·show hR s'' (Moved.trans W.gtrans ((c.mono l).then_heap (Z5 _ _) λb o hb e=>?_) hm'') ht'' hS'';rw[r.2 b (λh:b=S=>hb "e")];show e
end
abbrev Oi(led:Bool):Obj:={cls:=.type "set",dict:=none,data:=.set #[] 0 (SetTable.fresh 0 0 led)}
section
variable {prog:Program} {w:World} {A:Around} {E:Kh} {s:Shared}
def Qxr{v:Value}(q:Q (.ref s.heap.objs.size) {s with heap:=s.heap.push (Oi (!w.params.followText "set-order"))}):
  codeAny (model prog w) A (.call (.builtin "set.__new__") ⟨[.type "set",v],[]⟩) (wants Q E) s:=by
 let a:=sub_set_self;apply codeAny_of_tree;apply Q0;apply Qo3 (PySem.F.newCall_set_1 v);show Q2 ⟨Za F.plain_set_new _,JX F.entry_set_new ?_⟩;cases s
 wp_walk
 apply Qem;apply Q2;show Q0 (wpAny_alloc (Q2 (Q2 q)))
def Qgo{v:Value}{Q:Kh}
  (go:∀(led:Bool)(Z:PySem.Fin->Shared->Prop),led= !w.params.followText "set-order" ->(∀s2,Q (.ref s.heap.objs.size) s2->Z (.done (.ret .none)) s2) ->
   wpAny (model prog w) A.in1.in1 (Builtin.«set.__init__» ⟨[.ref s.heap.objs.size,v],[]⟩) Z E {s with heap:=s.heap.push (Oi led)}) :
  wpAny (model prog w) A (call (.type "set") [v]) Q E s:=by
 let⟨_,_,i⟩:=Yk.mro;let d:=Yk.made;let j:=Yk.sub;let m:=Yk.notType;let n:=Yk.canCreate;let o:=PySem.F.typeCall_set_1 v;let e:=Yk.init.lookup;apply wpAny_call;apply codeAny_of_tree;change wpAny _ _ (callAny (.type "set") _) _ _ _;apply Q2;show⟨Code.quiet_builtin _ "k",JX F.entry_type_call ?_⟩;rw[Around.under_plain (weight_type_call_type "set" [v] []) ()]
 repeat (any_goals (first|assumption|wp_step))
 show Oa (Qxr (v:=v) (E:=E) (Q:=λk z=>∃led,led=(!w.params.followText "set-order")/\k=.ref s.heap.objs.size/\z={s with heap:=s.heap.push (Oi led)}) ⟨_,(),(),()⟩) ?_;rintro(p|t) z f
 ·show f
 ·cases t with
  |ret k =>
   let⟨led,b,rfl,rfl⟩:=f;let c:(s.heap.push (Oi led)).get? s.heap.objs.size=-(Oi led):=Q9 _ ();let ty:Shared.TypeIs {s with heap:=s.heap.push (Oi led)} (.ref s.heap.objs.size) "set":=⟨_,c,()⟩;let g:=Yk.init.bind (.ref s.heap.objs.size)
   repeat (any_goals (first|assumption|wp_step))
   show Oa (codeAny_call_builtin (R:=wants (λr l=>r=.none/\Q (.ref s.heap.objs.size) l) E) Yk.init.plain F.entry_set_init (PySem.check_set_init_1 ty ?_)) ?_
   ·show go led _ b λs2 q=>⟨(),q⟩
   ·rintro(p|h) l a
    ·show a
    ·cases h with
     |ret r =>
      let⟨rfl,q⟩:=a
      repeat (any_goals (first|assumption|wp_step))
     |_=>show a.elim
  |_=>show f.elim
end
section
variable {prog:Program} {w:World} {K:Type} [DecidableEq K] {knd:HeapKind prog w K} {A:Around} {E:Kh} {s:Shared}
def Qhn{l:Addr}{items:Array Value}{ks:List K}{Q:Kh}(hk:SK knd)(hu:knd.room A.in1.in1.in1)(hh:A.handled=none)(hl:s.heap.IsList l items)(Ks:ks.length=items.size)
  (hi:∀(i:Nat)(v:Value)(k:K),items[i]?=-v->ks[i]?=-k->∃b,v=.ref b/\knd.is s.heap k b) (hb:items.size<64)
  (h:∀(h':Heap)(tk:Nat),SetH knd (!w.params.followText "set-order") h' s.heap.objs.size (Ut ks)->(∀b o,s.heap.get? b=-o->h'.get? b=-o)->Q (.ref s.heap.objs.size) {s with heap:=h',toks:=tk}) :
  wpAny (model prog w) A (call (.type "set") [.ref l]) Q E s:=by
 show Qgo λled Z a r=>?_
 let⟨⟨cl,t,da,sl⟩,at0,n,c,p⟩:=hl;simp only at n p;subst n p;let d:l<s.heap.objs.size:=Qj at0;let at1:(s.heap.push (Oi led)).get? l=-⟨.type "list",t,.seq items c,sl⟩:=Q1 _ at0;let f:(s.heap.push (Oi led)).IsList l items:=⟨_,at1,(),c,()⟩;let u:(s.heap.push (Oi led)).get? s.heap.objs.size=-(Oi led):=Q9 _ ();let f1:=PySem.F.sub_list_set;let f2:=PySem.F.sub_list_frozenset;let f3:(Value.type "list"== Value.type "dict")=false:="d"
 let sz:(s.heap.push (Oi led)).objs.size=s.heap.objs.size+1:=WV ..;unfold Builtin.«set.__init__» noKeywords Builtin.Frozenset.updateFrom;generalize y:pyIter=it
 wp_walk
 subst y;show Qcp f (Q0 (wpAny_runValue ?_));let nI:l≠(s.heap.push (Oi led)).objs.size:=by rw[sz];show Qq (Nat.lt_succ_of_lt d)
 let nS:s.heap.objs.size∉[(s.heap.push (Oi led)).objs.size,l]:=λz=>by
  rcases Qe.mp z with z|z
  ·rw[sz]at z;show Qq (WE _) z
  ·show Ze d (Qu.mp z)
 rw[<-a]at h;show Qeu (led:=led) (h0:=s.heap) (Walks.list (by simp[hh]) _ l nI items).toS s.heap.objs.size nS hk hu ks Ks hb (λi v k=>hi i v k) ?wr items.size 0 _ (Nat.sub_zero _) (QJ _) ⟨⟨_,Q9 _ (),(),()⟩,f.push _⟩ ?tu ?se ?re
 case wr =>
  rintro i z ⟨⟨o',g1,g2,_⟩,_⟩ b j o'' e;cases Qu.mp j;rw[g1]at e;cases e;rw[g2];decide
 case tu=>show λb o e _=>Q1 _ (Q1 _ e)
 case se=>show⟨_,#[],0,_,[],Q1 _ u,⟨(),(),()⟩,(),TabOk.fresh 0 0 led,(),λx hx=>(nomatch hx),JD,.nil,()⟩
 case re =>
  rintro⟨hp,gs,dr,tk,os⟩ g _ m;cases(show gs=s.gens from g.gens);cases(show dr=s.drawn from g.drawn);cases(show os=s.os from g.os);show Q2 (Q2 (r _ (h hp tk m λb o e=>?_)));let blt:=Qj e;show g.heap b o (λz=>by
   rcases Qe.mp z with z|z
   ·show Qq blt z
   ·let q:=Qu.mp z;rw[sz]at q;show Qq (Nat.lt_succ_of_lt blt) q) (Q1 _ (Q1 _ e))
end
def Qrd:Manifest.owners.lookup (String.ofList "rotareti_tes".toList.reverse)=-Manifest.sig_set_iterator:=by kernel_rfl
def Uf:Slot "set_iterator" "__next__" "set_iterator.__next__":=by
 show Slot.of (owner:= "set_iterator") (n:= "__next__") ?_ ?_ ?_ ?_ ?_ ?_
 ·kernel_rfl
 ·rfl
 ·rfl
 ·rfl
 ·first
   |show .inl "k"|show .inr "k"
 ·kernel_rfl
def Qhj:entryFor table "set_iterator.__next__"=-Builtin.«set_iterator.__next__»:=entryFor_of_tree (by kernel_rfl)
def Qm8(a:Value):argsOk "set_iterator.__next__" ⟨[a],[]⟩:=by
 unfold argsOk;rw[signature?_of (n:= "__txen__".toList) (by kernel_rfl) Qrd]
 kernel_rfl
def Qrf:entryFor table "set.__iter__"=-Builtin.«frozenset.__iter__»:=entryFor_alias (id':= "frozenset.__iter__") (by kernel_rfl) () "k" (by kernel_rfl)
theorem Bo{α:Type}:∀{l:List α}{i:Nat}(h:i<l.length),(l[i]::l.eraseIdx i).Perm l
 |a::r,0,h=>by simp|a::r,i+1,h=>by
  let hi:i<r.length:=by simpa using h
  let:=Bo hi;simp only[List.getElem_cons_succ,List.eraseIdx_cons_succ];show(Qzq _ _ _).trans (this.cons a)
theorem Qmx{α:Type}(nx:Nat->Nat):∀(fuel k:Nat)(left:List α)(out:Array α),left.length=fuel->(pickOrder.go nx fuel k left out).toList.Perm (out.toList++left)
 |0,k,left,out,h=>by
  let:=Yv.mp h;subst this;unfold pickOrder.go
  simp
 |fuel+1,k,left,out,h=>by
  unfold pickOrder.go;let Kt:nx k % left.length<left.length:=Qjw _ "l";rw[Qa Kt];show(Qmx nx fuel (k+1) _ _ "g").trans ?_;rw[Wq,QH];show List.Perm.append_left _ ?_;show(Bo Kt)
def Gu{α:Type}(nx:Nat->Nat)(xs:Array α):(pickOrder nx xs).toList.Perm xs.toList:=by
 let:=Qmx nx xs.size 0 xs.toList #[] "s";simpa[pickOrder]using this
section
variable {prog:Program} {w:World} {A:Around} {E:Kh}
def Qk1(hn:0<n)(h:∀i dr,i<n->Q i {s with drawn:=dr}):wpAny (model prog w) A (choose src n) Q E s:=by
 intro Γ p a;unfold choose;show⟨"l",h _ _ (Qjw _ hn)⟩
theorem Qc7{α:Type}:∀(n:Nat)(xs:List α)(s:Shared)(Q:List α->Shared->Prop),xs.length<=n->(∀ys dr,ys.Perm xs->Q ys {s with drawn:=dr})->wpAny (model prog w) A (drawOrder n xs) Q E s
 |0,xs,s,Q,hl,h=>by
  let:xs=[]:=Yv.mp "l";subst this;unfold drawOrder;show Q2 (h [] s.drawn .nil)
 |n+1,[],s,Q,hl,h=>by
  unfold drawOrder;show Q2 (h [] s.drawn .nil)
 |n+1,x::xs,s,Q,hl,h=>by
  unfold drawOrder;show Q0 (Qk1 "s" λi dr hi=>?_);rw[Qa hi];simp only;show Q0 (Qc7 n _ _ _ (by rw[List.length_eraseIdx_of_lt hi];simp at hl hi ⊢; lia) λys a b=>Q2 (h _ a ?_));show(b.cons _).trans (Bo hi)
end
inductive Md where
 |text|place|drawn (ps:List Nat) (T:Addr)
def slotAt(t:SetTable):Nat->Nat
 |0=>0|i+1=>t.place.getD i 0+1
def Md.fst(t:SetTable):Md->Nat->Value
 |.text,_=>.int 0 0|.place,i=>.int (slotAt t i) 0|.drawn _ T,_=>.ref T
def Md.out(w:World)(S:Addr)(es:Array (Int×Value))(ep:Nat):Md->List Value
 |.text=>(pickOrder (w.params.setOrder S ep) es).toList.map (·.2)|.place=>es.toList.map (·.2)|.drawn ps _=>ps.filterMap λp=>es[p]?.map (·.2)
def Md.ok(w:World)(es:Array (Int×Value))(t:SetTable)(h:Heap):Md->Prop
 |.text=>w.params.followText "set-order"=true
 |.place=>w.params.followText "set-order"=false/\t.led=true/\(!t.plain&&decide (es.size > 1))=false
 |.drawn ps T=>h.IsTuple T (ps.map λ(p:Nat)=>rawInt p).toArray/\ps.Perm (List.range es.size)
def Md.fp:Md->List Addr
 |.drawn _ T=>[T]|_=>[]
structure WSt(w:World)(I S:Addr)(es:Array (Int×Value))(ep:Nat)(t:SetTable)(m:Md)(i:Nat)(s:Shared):Prop where
 it:∃o,s.heap.get? I=-o/\o.cls=.type "set_iterator" /\o.data=.fields #[m.fst t i,.int i 0,.ref S,.int es.size 0,.int ep 0]
 st:∃o,s.heap.get? S=-o/\o.ExactSet/\o.data=.set es ep t
 ok:m.ok w es t s.heap
theorem Gd{α β:Type}{f:α->Option β}:∀{l:List α},(∀a∈l,(f a).isSome=true)->∀(i:Nat)(a:α),l[i]?=-a->(l.filterMap f)[i]?=f a
 |[],_,i,a,e=>by simp at e|b::r,h,0,a,e=>by
  let:b=a:=by simpa using e
  subst this;let⟨c,d⟩:=Wg.mp (h b Q8);rw[Ob d,d];rfl
 |b::r,h,i+1,a,e=>by
  let⟨c,d⟩:=Wg.mp (h b Q8);rw[Ob d];change(r.filterMap f)[i]?=f a;show Gd (λx hx=>h x (Q7 _ hx)) i a (by simpa using e)
section
variable {prog:Program} {w:World} {A:Around} {E:Kh} {s:Shared} {I S:Addr} {es:Array (Int×Value)} {ep:Nat} {t:SetTable} {m:Md}
def Qcl(T:TabOk t es){i:Nat}(hi:i<=es.size):below t.place (slotAt t i)=i:=by
 let b:=OQ T.srt (slotAt t i);let h:=T.size;cases i with
 |zero =>
  rcases Nat.eq_zero_or_pos (below t.place (slotAt t 0))with z|z
  ·show z
  ·let f:0<t.place.size:=Qp z b.le;let:=b.lo 0 t.place[0] z (by simp[f]);show absurd this (Qct _)
 |succ i =>
  let a:i<t.place.size:="l"
  let e:t.place[i]?=-t.place[i]:=by simp[a]
  let c:slotAt t (i+1)=t.place[i]+1:=by
   change t.place.getD i 0+1=_;simp[Array.getD,a]
  rw[c]at b ⊢;rcases YK (below t.place (t.place[i]+1)) (i+1)with z|z|z
  ·let:=b.hi i t.place[i] "l" e
   lia
  ·show z
  ·let hb:=b.le;let g:i+1<t.place.size:="l"
   let d:t.place[i+1]?=-t.place[i+1]:=by simp[g]
   let j:=b.lo (i+1) t.place[i+1] z d;let h3:=Go T.srt (by rw[Qo];show e) (by rw[Qo];show d) (WE i)
   lia
def Qx5(h:m.ok w es t s.heap):(m.out w S es ep).length=es.size:=by
 cases m with
 |text =>
  change((pickOrder (w.params.setOrder S ep) es).toList.map (·.2)).length=_;rw[Qb,(Gu _ _).length_eq]
  simp
 |place=>change(es.toList.map (·.2)).length=_;simp|drawn a T =>
  let b:=h.2;let:(a.filterMap λp=>es[p]?.map (·.2)).Perm (es.toList.map (·.2)):=by
   show(b.filterMap _).trans ?_;let e:((List.range es.size).filterMap λp=>es[p]?.map (·.2))=((List.range es.size).filterMap λp=>es[p]?).map (·.2):=by
    rw[List.map_filterMap]
   rw[e,Qcx]
  let:=this.length_eq;change(a.filterMap λp=>es[p]?.map (·.2)).length=es.size;simpa using this
def Qsb(h:m.ok w es t s.heap):(m.out w S es ep).Perm (es.toList.map (·.2)):=by
 cases m with
 |text=>show(Gu _ _).map _|place=>rfl|drawn b T =>
  let a:=h.2;show(a.filterMap _).trans ?_;let e:((List.range es.size).filterMap λp=>es[p]?.map (·.2))=((List.range es.size).filterMap λp=>es[p]?).map (·.2):=by
   grind
  rw[e,Qcx]
def Uu(h:Q (w.params.followText "set-order") s):wpAny (model prog w) A setsByText Q E s:=Q0 (Qem (Q2 h))
def Qdy{i:Nat}{Z:PySem.Fin->Shared->Prop}(T:TabOk t es)(hw:WSt w I S es ep t m i s)
  (h:wpAny (model prog w) A (match m.fst t i with
   |.int slot _=>do
    match<-setNext S slot.toNat i ep with
    |some (x,next) =>
     setField (.ref I) 0 (rawInt next)
     setField (.ref I) 1 (rawInt (i+1))
     ret x
    |none=>setField (.ref I) 2 .none;raiseNew (<-newExc (.type "StopIteration") [])
   |first=>do
    let some places<-seqItems? first|unsupported "internal:set_iterator"
    match places[i]? with
    |some (.int place _) =>
     let x<-setNextDrawn S place.toNat ep
     setField (.ref I) 1 (rawInt (i+1))
     ret x
    |some _=>unsupported "internal:set_iterator"
    |none=>setField (.ref I) 0 (rawInt 0);setField (.ref I) 2 .none;raiseNew (<-newExc (.type "StopIteration") [])) Z E s) :
  wpAny (model prog w) A (Builtin.«set_iterator.__next__» ⟨[.ref I],[]⟩) Z E s:=by
 let⟨⟨o,c,d,hd⟩,⟨e,a,hex,b⟩,hok⟩:=hw;unfold Builtin.«set_iterator.__next__»;show Q0 (m:=slotArgs _ _ _) (Q2 ?_);show Q0 (wpAny_fieldsOf c hd ?_);dsimp only;show Q0 (wpAny_setEntries_of a b T.fits ?_);rw[Qc "s"];cases m with
 |text=>show h|place=>show h|drawn f T=>show h
def Yd(ho:s.heap.get? a=-o)(hd:o.data=.fields vs)(hk:k<vs.size)
  (h:∀h' o',h'.get? a=-o'->o'.cls=o.cls->o'.data=.fields (vs.setIfInBounds k x)->Heap.SameBut a s.heap h'->Q ⟨⟩ {s with heap:=h'}):wpAny (model prog w) A (setField (.ref a) k x) Q E s:=
 Qa7 ho hd hk (h _ _ (Jt _ ho (Qjv (ZA hd _))) (Qzo ..) (ZA hd _) (QT ..))
def Qxf(hok:m.ok w es t h)(hD:∀b∈m.fp,b≠I)(hs:Heap.SameBut I h h'):m.ok w es t h':=by
 cases m with
 |text=>show hok|place=>show hok|drawn d T =>
  let⟨⟨o,a,r⟩,c⟩:=hok;show⟨⟨o,by rw[hs.2 T (hD T (by simp[Md.fp]))];show a,r⟩,c⟩
def Oy{i:Nat}(T:TabOk t es)(hw:WSt w I S es ep t m i s)(hS:S≠I)(hD:∀b∈m.fp,b≠I)(hi:i<es.size)
  (h:∀v h',(m.out w S es ep)[i]?=-v->WSt w I S es ep t m (i+1) {s with heap:=h'}->Heap.SameBut I s.heap h'->Q (-v) {s with heap:=h'}) :
  wpAny (model prog w) A (pyNext (.ref I)) Q E s:=by
 let⟨⟨o,y,hc,hd⟩,⟨oS,c,hex,d⟩,hok⟩:=id hw;let ty:s.TypeIs (.ref I) "set_iterator":=⟨o,y,hc⟩;let esz:="o"
 let k:∀(v:Value)(h':Heap)(r:Obj),(m.out w S es ep)[i]?=-v->h'.get? I=-r->r.cls=o.cls->r.data=.fields #[m.fst t (i+1),.int (i+1:Nat) 0,.ref S,.int es.size 0,.int ep 0]->Heap.SameBut I s.heap h'->Q (-v) {s with heap:=h'}:=λv h' r hv g1 g2 g3 sb =>
  h v h' hv ⟨⟨r,g1,g2.trans hc,g3⟩,⟨oS,by rw[sb.2 S hS];show c,hex,d⟩,Qxf hok hD sb⟩ sb
 show Q0 (Z9 (Je ty Uf (J6 Uf ty Qhj (Qdy T hw ?_) (Qm8 _))));cases m with
 |text =>
  let hb:=hok;show Q0 ?_;show Q0 (Jk c d T.fits (Q0 (Uu ?_)));rw[hb];simp only[Z0];rw[Qc "s"];show Q0 ?_;show Q0 (Jk c d T.fits (Q0 (Uu ?_)));rw[hb];show Q0 (Qem (Q2 (Q2 ?_)));let hl:i<(pickOrder (w.params.setOrder S ep) es).size:=by
   let:=(Gu (w.params.setOrder S ep) es).length_eq
   ext
  change wpAny _ _ (match Option.map (λe=>(e.2,Int.toNat 0)) (pickOrder (w.params.setOrder S ep) es)[i]? with
   |some (x,next)=>_
   |none=>_) _ _ _
  rw[show(pickOrder (w.params.setOrder S ep) es)[i]?=-(pickOrder (w.params.setOrder S ep) es)[i] by simp[hl]];show Q0 (Yd y hd "s" λz o1 g1 g2 g3 f=>Q0 (Yd g1 g3 "s" λh2 o2 g4 g5 g6 l=>Q2 ⟨_,(),Q2 ?_⟩));show k _ h2 o2 ?_ g4 (g5.trans g2) ?_ (f.trans l)
  ·change((pickOrder (w.params.setOrder S ep) es).toList.map (·.2))[i]?=_
   ext
  ·rw[g6];rfl
 |place =>
  obtain⟨hb,u,hdr⟩:w.params.followText "set-order"=false/\t.led=true/\(!t.plain&&decide (es.size > 1))=false:=hok;show Q0 ?_;show Q0 (Jk c d T.fits (Q0 (Uu ?_)));rw[hb];change wpAny _ _ (if(!t.plain&&decide (es.size > 1))=true then _ else _) _ _ _;rw[hdr];simp only[QE,JU];let hp:i<t.place.size:=by rw[T.size];show hi
  let eb:below t.place (((slotAt t i:Nat):Int).toNat)=i:=by show Qcl T "o"
  rw[eb,show es[i]?=-es[i] by simp[hi],show t.place[i]?=-t.place[i] by simp[hp]];let go:∀{Q':Unit->Shared->Prop}{E':Kh},Q' ⟨⟩ s->wpAny (model prog w) A.in1 (if(!t.led && !es.isEmpty)=true then unsupported "set:maker-not-led" else pure ⟨⟩) Q' E' s:=λq=>by
   rw[u,Qc "s"];show Q2 q
  show Q0 (go (Q2 ?_));show Q0 (Yd y hd "s" λz o1 g1 g2 g3 f=>Q0 (Yd g1 g3 "s" λh2 o2 g4 g5 g6 l=>Q2 ⟨_,(),Q2 ?_⟩));show k _ h2 o2 ?_ g4 (g5.trans g2) ?_ (f.trans l)
  ·change(es.toList.map (·.2))[i]?=_
   ext
  ·rw[g6];simp[rawInt,Md.fst,slotAt,Array.getD,hp]
 |drawn j T' =>
  let⟨⟨oT,hoT,hcT,nT,hdT⟩,g⟩:=id hok;let hpl:j.length=es.size:=by
   let:=g.length_eq
   ext
  let n:i<j.length:="o"
  let hpi:j[i]<es.size:=by
   let:=g.mem_iff.mp (WF n)
   ext
  show Q0 (Jl hoT hdT ?_);dsimp only;rw[show((j.map λ(p:Nat)=>rawInt p).toArray)[i]?=-(.int (j[i]:Nat) 0) by simp[n,rawInt]];show Q0 ?_;show Q0 (Jk c d T.fits ?_);dsimp only;rw[Qc "s",Zz,show es[j[i]]?=-es[j[i]] by simp[hpi]];show Q2 (Q0 (Yd y hd "s" λz o1 g1 g2 g3 f=>Q2 ⟨_,(),Q2 ?_⟩));show k _ z o1 ?_ g1 g2 ?_ f
  ·change(j.filterMap λp=>es[p]?.map (·.2))[i]?=_;rw[Gd (λa ha=>?_) i j[i] (Qa n)]
   all_goals grind
  ·rw[g3];rfl
def Qp7(hh:A.handled=none)(T:TabOk t es)(hw:WSt w I S es ep t m es.size s)
  (h:∀h',Heap.ExtBut I s.heap h'->Q none {s with heap:=h'}):wpAny (model prog w) A (pyNext (.ref I)) Q E s:=by
 let⟨⟨o,j,hc,hd⟩,⟨oS,c,hex,d⟩,hok⟩:=id hw;let ty:s.TypeIs (.ref I) "set_iterator":=⟨o,j,hc⟩;let stop:∀(g:Shared),Heap.ExtBut I s.heap g.heap->g={s with heap:=g.heap}->wpAny (model prog w) A.in1 (newExc (.type "StopIteration") [] >>= raiseNew) (λ(fl:PySem.Fin) k=>∃v,fl=.done (.ret v)/\wpAny (model prog w) A (pure (-v)) Q E k) (λe k=>wpAny (model prog w) A (do
   if<-isInstance e (.type "StopIteration")then pure none else throw e) Q E k) g:=by
  intro g ext l;apply Q0;apply Q0;show Ja ?_;apply Q0;apply Qo3
  ·first
    |rfl| (rfl)
  show Ja ?_;apply Q0;apply wpAny_handled;rw[(hh)];apply wpAny_throw;apply Q0;show Yi (b:=true) ⟨_,Q9 _ (),()⟩ Qo6 ?_;rw[l];show Q2 (h _ ((ext.push _).push _))
 show Q0 (Z9 (Je ty Uf (J6 Uf ty Qhj (Qdy T hw ?_) (Qm8 _))));cases m with
 |text =>
  let hb:=hok;show Q0 ?_;show Q0 (Jk c d T.fits (Q0 (Uu ?_)));rw[hb];simp only[Z0];rw[Qc "s"];show Q0 ?_;show Q0 (Jk c d T.fits (Q0 (Uu ?_)));rw[hb];show Q0 (Qem (Q2 (Q2 ?_)));let hl: ¬ es.size<(pickOrder (w.params.setOrder S ep) es).size:=by
   let:=(Gu (w.params.setOrder S ep) es).length_eq
   grind
  change wpAny _ _ (match Option.map (λe=>(e.2,Int.toNat 0)) (pickOrder (w.params.setOrder S ep) es)[es.size]? with
   |some (x,next)=>_
   |none=>_) _ _ _
  rw[show(pickOrder (w.params.setOrder S ep) es)[es.size]?=none by grind];show Q0 (Yd j hd "s" λh1 o1 g1 g2 g3 a=>stop _ a.extBut ())
 |place =>
  obtain⟨hb,i,n⟩:w.params.followText "set-order"=false/\t.led=true/\(!t.plain&&decide (es.size > 1))=false:=hok;show Q0 ?_;show Q0 (Jk c d T.fits (Q0 (Uu ?_)));rw[hb];change wpAny _ _ (if(!t.plain&&decide (es.size > 1))=true then _ else _) _ _ _;rw[n];simp only[QE,JU];let eb:below t.place (((slotAt t es.size:Nat):Int).toNat)=es.size:=by show Qcl T (Q5 _)
  rw[eb,show es[es.size]?=none by simp];let go:∀{Q':Unit->Shared->Prop}{E':Kh},Q' ⟨⟩ s->wpAny (model prog w) A.in1 (if(!t.led && !es.isEmpty)=true then unsupported "set:maker-not-led" else pure ⟨⟩) Q' E' s:=λq=>by
   rw[i,Qc "s"];show Q2 q
  show Q0 (go (Q2 ?_));show Q0 (Yd j hd "s" λh1 o1 g1 g2 g3 a=>stop _ a.extBut ())
 |drawn ps T' =>
  let⟨⟨oT,r,hcT,nT,u⟩,f⟩:=id hok;let y:ps.length=es.size:=by
   let:=f.length_eq
   grind
  show Q0 (Jl r u ?_);dsimp only;rw[show((ps.map λ(p:Nat)=>rawInt p).toArray)[es.size]?=none by simp[y]];show Q0 (Yd j hd "s" λh1 o1 g1 g2 g3 a=>Q0 (Yd g1 g3 "s" λh2 o2 g4 g5 g6 z=>stop _ (a.trans z).extBut ()))
end
section
variable {prog:Program} {w:World} {A:Around} {E:Kh} {s:Shared} {S:Addr} {es:Array (Int×Value)} {ep:Nat} {t:SetTable}
def Qm9:Slot "set_iterator" "__iter__" "set_iterator.__iter__":=by
 show Slot.of (owner:= "set_iterator") (n:= "__iter__") ?_ ?_ ?_ ?_ ?_ ?_
 ·kernel_rfl
 ·rfl
 ·rfl
 ·rfl
 ·first
   |show .inl "k"|show .inr "k"
 ·kernel_rfl
def Qre:entryFor table "set_iterator.__iter__"=-Builtin.«dict_keyiterator.__iter__»:=entryFor_alias (id':= "dict_keyiterator.__iter__") (by kernel_rfl) () "k" (by kernel_rfl)
def Qw9(a:Value):argsOk "set_iterator.__iter__" ⟨[a],[]⟩:=by
 unfold argsOk;rw[signature?_of (n:= "__reti__".toList) (by kernel_rfl) Qrd]
 kernel_rfl
def Qtt(T:TabOk t es)(ho:s.heap.get? S=-o)(hex:o.ExactSet)(hd:o.data=.set es ep t)(hled:t.led= !w.params.followText "set-order")(hn:es.size<=sizeLine)
  (h:∀(m:Md)(I:Addr)(h':Heap)(dr:Drawn),WSt w I S es ep t m 0 {s with heap:=h',drawn:=dr}->s.heap.get? I=none->(∀b∈m.fp,b≠I/\s.heap.get? b=none)->(∀b o,s.heap.get? b=-o->h'.get? b=-o)->Q (.ref I) {s with heap:=h',drawn:=dr}) :
  wpAny (model prog w) A (pyIter (.ref S)) Q E s:=by
 let ty:s.TypeIs (.ref S) "set":=⟨o,ho,hex.1⟩;let g:=Qj ho;show Qzn ty F.slot_set_iter (J6 F.slot_set_iter ty Qrf ?_ (F.args_set_iter_1 _));show Q0 (Q0 (Q2 (Q2 ?_)));show Q0 (Q0 (wpAny_setEntries_of ho hd T.fits (Q2 ?_)));show Q0 ?_;show Q0 (Jk ho hd T.fits (Q0 (Uu (Q2 ?_))));change wpAny _ _ (if(!w.params.followText "set-order" && (!t.plain&&decide (es.size > 1)))=true then _ else _) _ _ _
 by_cases a:(!w.params.followText "set-order" && (!t.plain&&decide (es.size > 1)))=true
 ·rw[Qh a];show Q0 (Qc7 _ _ _ _ "s" λc dr d=>?_);show Q0 (Qo4 ?_ (by let:=d.length_eq;ext));let g1:(s.heap.push {cls:=.type "tuple",data:=.seq (c.map λ(i:Nat)=>rawInt i).toArray}).get? S=some o:=Q1 _ ho;show Q0 (wpAny_setEpoch_of g1 hd T.fits ?_);show Q0 (Ja (Q2 ⟨_,(), "set_iterator",_,⟨_,Q9 _ (),()⟩,Uf.lookup,?_⟩));show h (.drawn c s.heap.objs.size) _ _ dr ⟨⟨_,Q9 _ (),(),?_⟩,⟨o,Q1 _ g1,hex,hd⟩,?_⟩ ?_ ?_ ?_
  ·rfl
  ·show⟨⟨_,Q1 _ (Q9 _ ()),(),_,()⟩,d⟩
  ·show Be "e"
  ·intro b hb;let:=by simpa[Md.fp]using hb
   subst this;show⟨"e",Be (Q5 _)⟩
  ·show λb o e=>Q1 _ (Q1 _ e)
 ·rw[Qc a];show Q0 (Q2 ?_);show Q0 (wpAny_setEpoch_of ho hd T.fits ?_);show Q0 (Ja (Q2 ⟨_,(), "set_iterator",_,⟨_,Q9 _ (),()⟩,Uf.lookup,?_⟩));let f:s.heap.get? s.heap.objs.size=none:=Be (Q5 _);cases hb:w.params.followText "set-order" with
  |true =>
   show h .text _ _ s.drawn ⟨⟨_,Q9 _ (),(),?_⟩,⟨o,Q1 _ ho,hex,hd⟩,hb⟩ f (λb hb=>nomatch hb) (λb o e=>Q1 _ e);rfl
  |false =>
   show h .place _ _ s.drawn ⟨⟨_,Q9 _ (),(),?_⟩,⟨o,Q1 _ ho,hex,hd⟩,hb,"e","e"⟩ f (λb hb=>nomatch hb) (λb o e=>Q1 _ e);rfl
def Qqu{I:Addr}{m:Md}(hh:A.handled=none)(T:TabOk t es)(hS:S≠I)(hD:∀b∈m.fp,b≠I)(hok:True):
  ∀(s0:Shared),WSt w I S es ep t m 0 s0->WalksS prog w A I (I::S::m.fp) [I] (λa b=>b=a) es.size (λi v=>(m.out w S es ep)[i]?=-v) (λi s=>WSt w I S es ep t m i s):=by
 intro s0 x;show⟨λb hb=>by rw[Qu.mp hb];show Q8,λ_=>rfl,λ_ _ _ k l=>l.trans k,?_,?_,?_,?_⟩
 ·rintro i s g y ⟨⟨o,g1,g2,g3⟩,⟨h,g4,g5,n⟩,ok⟩ _ d;show⟨⟨o,d I Q8 o g1,g2,g3⟩,⟨h,d S (Q7 _ Q8) h g4,g5,n⟩,?_⟩;cases m with
  |text=>show ok|place=>show ok|drawn ps T' =>
   let⟨⟨j,p,r⟩,q⟩:=ok;show⟨⟨j,d T' (by simp[Md.fp]) j p,r⟩,q⟩
 ·intro i s Q E hi st c;show Oy T st hS hD hi λv g u f sb=>c v _ u f ⟨λb o hb e=>sb.extBut b o (λz=>hb (by rw[z];show Qu.mpr ())) e,(),(),(),Q5 _⟩
 ·intro s Q E st c;show Qp7 hh T st λg ext=>c _ ⟨λb o hb e=>ext b o (λz=>hb (by rw[z];show Qu.mpr ())) e,(),(),(),Q5 _⟩
 ·rintro i s Q E ⟨⟨o,g1,g2,_⟩,_⟩ c;let ty:s.TypeIs (.ref I) "set_iterator":=⟨o,g1,g2⟩;show Qzn ty Qm9 (J6 Qm9 ty Qre ?_ (Qw9 _));show Q2 ⟨.ref I,(), "set_iterator",_,ty,Uf.lookup,c⟩
def Qtz(ho:s.heap.get? S=-o)(hex:o.ExactSet)(h:Q false s):wpAny (model prog w) A (Builtin.List.listLengthHint (.ref S)) Q E s:=by
 let ty:s.TypeIs (.ref S) "set":=⟨o,ho,hex.1⟩;show Q0 (YV ty F.slot_set_len.lookup ?_);dsimp only;rw[show splitId "set.__len__"=-("set", "__len__") by kernel_rfl];show Q0 (Yi ty sub_set_self ?_);simp only[Od,QE,JU];show Q0 (Qzm ty (Q2 h))
def Qi8(h:ItemsOf (λi v=>l[i]?=-v) acc l.length):acc.toList=l:=by
 show W3 λi=>?_
 rw[Qo]
 by_cases hi:i<acc.size
 ·let e:acc[i]?=-acc[i]:=by simp[hi]
  rw[e];show(h.2 i _ e).symm
 ·let a:=h.1
  ext
def Qj2{o:Obj}(hh:A.handled=none)(T:TabOk t es)(ho:s.heap.get? S=-o)(hex:o.ExactSet)(hd:o.data=.set es ep t)(hled:t.led= !w.params.followText "set-order")(hn:es.size<=sizeLine)
  (h:∀(out:List Value)(h':Heap)(dr:Drawn)(tk:Nat),out.Perm (es.toList.map (·.2))->(∀b o,s.heap.get? b=-o->h'.get? b=-o)->s.heap.objs.size<=h'.objs.size->Q out {s with heap:=h',drawn:=dr,toks:=tk}) :
  wpAny (model prog w) A (collect (.ref S)) Q E s:=by
 let v:=Qj ho;show Q0 (wpAny_runValue (JX F.entry_proto_collect ?_));show Q0 (Ja (Q2 ⟨Za F.plain_list_iadd _,JX F.entry_list_iadd ?_⟩));generalize r:s.heap.objs.size=L;generalize d:s.heap.push {cls:=.type "list",data:=.seq ([]).toArray}=H1;let x:H1.get? L=some {cls:=.type "list",data:=.seq ([]:List Value).toArray}:=by rw[<-d,<-r];show Q9 _ ()
 let up1:∀b o,s.heap.get? b=-o->H1.get? b=some o:=λb o e=>by rw[<-d];show Q1 _ e
 let ne:S≠L:="g"
 let ty:Shared.TypeIs {s with heap:=H1} (.ref S) "set":=⟨o,up1 _ _ ho,hex.1⟩;change wpAny _ A.in1 (Builtin.List.listExtendWith (.ref L) (.ref S) (.ref L)) _ _ {s with heap:=H1};show Q0 (Qzm ty ?_);rw[Qc (by simp[Builtin.List.listSameRef,Jd ne])];show Q0 (Qtt T (up1 _ _ ho) hex hd hled hn λm I H2 dr st nI y a=>?_);let j:S≠I:=by
  grind
 show Q0 (JT (Qtz (a _ _ (up1 _ _ ho)) hex ?_));show Q0 (WD ?_);show Q0 ?_;let g2:=a _ _ x;show Q0 (Bu g2 () (Bu (Jt (Obj.mapSeq (·.push Value.none)) g2 ()) () ?_));generalize f:(H2.update L (Obj.mapSeq (·.push Value.none))).update L (Obj.mapSeq (·.pop))=H3;let g3:∃c,H3.get? L=some {cls:=.type "list",dict:=none,data:=.seq #[] c,slots:= #[]}:=by
  rw[<-f];show⟨_,Jt (Obj.mapSeq (·.pop)) (Jt (Obj.mapSeq (·.push Value.none)) g2 ()) ()⟩
 let⟨c3,g3⟩:=g3;let g:∀b o,b≠L->H2.get? b=-o->H3.get? b=some o:=λb o hb e=>by
  rw[<-f,UD _ _ (Jd hb),UD _ _ (Jd hb)];show e
 let i:∀b∈I::S::m.fp,b≠L:=λb hb=>by
  grind
 let W:=Qqu (prog:=prog) (A:=A.in1) (by simp[hh]) T j (λb hb=>(y b hb).1) trivial _ st;let k:=W.frame 0 _ H3 s.toks st (Q5 _) λb hb o e=>g b o (i b hb) e
 let ol:(m.out w S es ep).length=es.size:=Qx5 st.ok;show Q2 ⟨Za F.plain_extend_loop _,codeAny_extend_loopS W hn L (λz=>i L z ()) _ es.size 0 _ #[] c3 (Nat.sub_zero _) (QJ _) k g3 (ItemsOf.nil _) λs4 l c4 n g4 ia=>?_⟩;show Q0 (wpAny_load g4 (Q2 ?_));let ea:l.toList=m.out w S es ep:=Qi8 "e";rw[ea];let⟨H4,gs,p,q,os4⟩:=s4;cases((n.gens));cases((n.os));show h _ H4 p q (Qsb st.ok) (λb u e=>?_) ?_
 ·let bL:b≠L:=by
   rintro rfl;rw[<-r]at e;show absurd (Qj e) (JG _)
  show n.heap b u (λz=>?_) (g b u bL (a _ _ (up1 _ _ e)))
  ext
 ·let:=Qj g4
  grind
end
end ST
namespace L2
open PySem PySem.Spec PyProof.Rows
noncomputable instance:DecidableEq D:=λa b=>Classical.propDecidable (a=b)
mutual
def keyOk:D->Bool
 |.int _=>true|.str _=>true|.tup ds=>keyOks ds|_=>false
def keyOks:List D->Bool
 |[]=>true|d::ds=>keyOk d&&keyOks ds
end
mutual
def noD:D->Bool
 |.tup ds=>Qi3 ds|.lst ds=>Qi3 ds|.dct _ _ _=>false|.oth _ _ _=>false|_=>true
def Qi3:List D->Bool
 |[]=>true|d::ds=>noD d&&Qi3 ds
end
mutual
theorem Qft:∀{d:D},keyOk d=true->noD d=true
 |.int _,_=>by simp[noD]|.str _,_=>by simp[noD]|.tup a,h=>by rw[noD];show Zs (by simpa[keyOk]using h)|.non,h=>by rfl|.bl _,h=>by rfl|.lst _,h=>by simp[keyOk]at h|.dct _ _ _,h=>by simp[keyOk]at h|.oth _ _ _,h=>by simp[keyOk]at h
theorem Zs:∀{ds:List D},keyOks ds=true->Qi3 ds=true
 |[],_=>by simp[Qi3]|d::ds,h=>by
  rw[keyOks,Qv]at h;rw[Qi3,Qft h.1,Zs h.2];rfl
end
theorem J5:∀{ds:List D},keyOks ds=true↔∀d∈ds,keyOk d=true
 |[]=>by simp[keyOks]|d::ds=>by simp[keyOks,J5]
mutual
theorem BX:∀{d e:D},keyOk d=true->keyOk e=true->eqD d e=decide (d=e)
 |.int a,e,hd,c=>by cases e<;>simp_all [keyOk,eqD]<;>rfl
 |.str a,e,hd,c=>by cases e<;>simp_all [keyOk,eqD]<;>rfl
 |.tup a,e,hd,c=>by
  cases e with
  |tup b =>
   rw[eqD,Qiq (by simpa[keyOk]using hd) (by simpa[keyOk]using c)]
   simp
  |_=>simp_all [keyOk,eqD]
 |.non,e,hd,c=>by simp[keyOk]at hd|.bl _,e,hd,c=>by simp[keyOk]at hd|.lst _,e,hd,c=>by simp[keyOk]at hd|.dct _ _ _,e,hd,c=>by simp[keyOk]at hd|.oth _ _ _,e,hd,c=>by simp[keyOk]at hd
theorem Qiq:∀{ds es:List D},keyOks ds=true->keyOks es=true->Y6 ds es=decide (ds=es)
 |[],es,hd,a=>by cases es<;>simp[Y6]
 |d::ds,[],hd,a=>by simp[Y6]|d::ds,e::es,hd,a=>by
  simp only[keyOks,Qv]at hd a;rw[Y6,BX hd.1 a.1,Qiq hd.2 a.2]
  ext
end
section
variable (w:World)
mutual
def Jg:D->Int
 |.int i=>Jc2 w (.inl i)|.str x=>Jc2 w (.inr x)|.tup ds=>reduceHash (Builtin.Tuple.tupleHashOf (ZN ds))|_=>0
def ZN:List D->List Int
 |[]=>[]|d::ds=>Jg d::ZN ds
end
end
mutual
def drw:D->Nat
 |.tup ds=>drws ds+1|_=>1
def drws:List D->Nat
 |[]=>0|d::ds=>drw d+drws ds
end
def TStay(h h':Heap):Prop:=∀b o,h.get? b=-o->o.cls=.type "tuple" ->h'.get? b=-o
def TStay.tuple(t:TStay h h')(p:h.IsTuple a Kw):h'.IsTuple a Kw:=let⟨o,e,c,r⟩:=p;⟨o,t a o e c,c,r⟩
mutual
theorem CIs.stay{h h':Heap}(t:TStay h h'):∀{d:D}{v:Value},keyOk d=true->CIs h d v->CIs h' d v
 |.int _,_,_,x=>by simpa[CIs]using x|.str _,_,_,x=>by simpa[CIs]using x|.tup b,v,k,x=>by
  let⟨a,Kw,rfl,p,c⟩:=ctup.mp x;show ctup.mpr ⟨a,Kw,(),t.tuple p,CAll.stay t (by simpa[keyOk]using k) c⟩
 |.non,_,k,_=>by simp[keyOk]at k|.bl _,_,k,_=>by simp[keyOk]at k|.lst _,_,k,_=>by simp[keyOk]at k|.dct _ _ _,_,k,_=>by simp[keyOk]at k|.oth _ _ _,_,k,_=>by simp[keyOk]at k
theorem CAll.stay{h h':Heap}(t:TStay h h'):∀{ds:List D}{vs:List Value},keyOks ds=true->CAll h ds vs->CAll h' ds vs
 |[],_,_,x=>by simpa[CAll]using x|d::ds,vs,k,x=>by
  simp only[keyOks,Qv]at k;rw[CAll]at x ⊢;let⟨v,r,e,q,y⟩:=x;show⟨v,r,e,CIs.stay t k.1 q,CAll.stay t k.2 y⟩
end
section
variable {prog:Program} {w:World} {E:Kh}
mutual
theorem Qu1:∀(d:D){v:Value}{A:Around}{s:Shared}{E:Kh}{Q:Int->Shared->Prop},keyOk d=true->CIs s.heap d v->A.units+dep d<cLine->Q (Jg w d) {s with toks:=s.toks+drw d}->wpAny (model prog w) A (pyHash v) Q E s
 |.int i,v,A,s,E,Q,k,x,b,q=>by
  simp only[CIs]at x;let⟨t,rfl⟩:=x;show(JI prog w).pyHash (k:=.inl i) (OW prog w i t) (by simp only[Jg,drw]at q;show q)
 |.str i,v,A,s,E,Q,k,x,b,q=>by
  simp only[CIs]at x;let⟨t,rfl⟩:=x;show(JI prog w).pyHash (k:=.inr i) (UW prog w i t) (by simp only[Jg,drw]at q;show q)
 |.tup e,v,A,s,E,Q,k,x,b,q=>by
  let⟨a,Kw,rfl,p,c⟩:=ctup.mp x;let ty:s.TypeIs (.ref a) "tuple":=p.typeIs;let⟨o,g,m,n,hd⟩:=p;unfold pyHash
  (first|unfold pyHashByItsType|skip)
  (first|show Q0 (wpAny_cRoomFor_or (.inr "l") ?_)|skip)
  apply Q0;apply YV ty UE.lookup;change wpAny _ _ (if(-(Value.builtin "tuple.__hash__")==-Value.none)=true then _ else _) Q E s;rw[Qc "e"];apply Q0;apply YV ty UE.lookup;change wpAny _ _ (callSpecialIfBoundUnlessNone? (.ref a) "__hash__" _ >>= _) Q E s;apply Q0;apply wpAny_callSpecialIfBoundUnlessNone?_slot ty UE;show J6 UE ty F.entry_tuple_hash ?_ (F.args_tuple_hash_1 _);change wpAny _ _ (Builtin.Tuple.tupleItemsOf (.ref a) >>= _) _ _ s;apply Q0;apply wpAny_tupleItemsOf g hd;apply Q0;rw[<-Bf];show Qnf e #[] (λv j r Z l=>?_) (by simpa[keyOk]using k) "l" (by simp only[dep]at b;grind) ?_
  ·show Q0 (Jn l (λh u y=>by first|show Q2 y|show Q0 (Q2 (Q2 y))) λ_ _ y=>y)
  ·change wpAny _ _ (retInt (Builtin.Tuple.tupleHashOf ((#[]:Array Int)++(ZN w e).toArray).toList)) _ _ _;rw[show((#[]:Array Int)++(ZN w e).toArray).toList=ZN w e by simp];show wpAny_ret_mkInt ?_;let f:Q (reduceHash (Builtin.Tuple.tupleHashOf (ZN w e))) {s with toks:=s.toks+(drws e+1)}:=by simpa[Jg,drw]using q
   unfold reduceHash at f;change wpAny _ _ (if(decide (Neg.neg ((2:Int)^63)<=Builtin.Tuple.tupleHashOf (ZN w e))&&decide (Builtin.Tuple.tupleHashOf (ZN w e)<2^63))=true then _ else _) Q E _;split at f
   ·rename_i hb;rw[Qh hb];show Q2 f
   ·rename_i hb;rw[Qc hb];show Q0 (WD (Q2 f))
 |.non,v,A,s,E,Q,k,x,b,q=>by simp[keyOk]at k|.bl _,v,A,s,E,Q,k,x,b,q=>by simp[keyOk]at k|.lst _,v,A,s,E,Q,k,x,b,q=>by simp[keyOk]at k|.dct _ _ _,v,A,s,E,Q,k,x,b,q=>by simp[keyOk]at k|.oth _ _ _,v,A,s,E,Q,k,x,b,q=>by simp[keyOk]at k
theorem Qnf:∀(ds:List D){Kw:List Value}{A:Around}{s:Shared}{E:Kh}{f:Value->Array Int->Sem (ForInStep (Array Int))}{R:Array Int->Shared->Prop}(acc:Array Int),
  (∀(v:Value)(acc:Array Int)(s1:Shared)(Z:ForInStep (Array Int)->Shared->Prop),wpAny (model prog w) A (pyHash v) (λh s2=>Z (.yield (acc.push h)) s2) E s1->wpAny (model prog w) A (f v acc) Z E s1) ->
  keyOks ds=true->CAll s.heap ds Kw->A.units+deps ds<cLine->R (acc++(ZN w ds).toArray) {s with toks:=s.toks+drws ds}->wpAny (model prog w) A (forIn Kw acc f) R E s
 |[],Kw,A,s,E,f,R,acc,a,k,c,b,q=>by
  simp only[CAll]at c;subst c;rw[List.forIn_nil];show Q2 (by simpa[ZN,drws]using q)
 |d::ds,Kw,A,s,E,f,R,acc,a,k,c,b,q=>by
  simp only[keyOks,Qv]at k;rw[CAll]at c;let⟨v,r,rfl,x,c⟩:=c;rw[Qcv];show Q0 (a v acc s _ (Qu1 d k.1 x (by simp only[deps]at b;lia) ?_));dsimp only;show Qnf ds (acc.push (Jg w d)) a k.2 c (by simp only[deps]at b;lia) ?_;let e:acc.push (Jg w d)++(ZN w ds).toArray=acc++(ZN w (d::ds)).toArray:=by
   apply Qqg.mp;simp[ZN]
  rw[e];let g:s.toks+drw d+drws ds=s.toks+drws (d::ds):=by simp only[drws];lia
  ext
end
end
section
variable {prog:Program} {w:World} {A:Around} {E:Kh} {s:Shared}
theorem Qg4{β:Type}{f:Value->β->Sem (ForInStep β)}{b:β}{R:β->Shared->Prop}:∀(ds:List D){Kw:List Value},(∀(d:D)(v:Value),d∈ds->CIs s.heap d v->∀(Z:ForInStep β->Shared->Prop),Z (.yield b) s->wpAny (model prog w) A (f v b) Z E s) ->
  CAll s.heap ds Kw->R b s->wpAny (model prog w) A (forIn Kw b f) R E s
 |[],Kw,_,c,q=>by
  subst c;show Q2 q
 |d::ds,Kw,a,c,q=>by
  let⟨v,r,rfl,x,c⟩:=c;rw[Qcv];show Q0 (a d v Q8 x _ (Qg4 ds (λe g hd=>a e g (Q7 _ hd)) c q))
theorem Qmr:∀(n:Nat)(d:D){v:Value}{Q:Bool->Shared->Prop},dep d<=n->keyOk d=true->CIs s.heap d v->Q true s->wpAny (model prog w) A (eqIsQuiet n v) Q E s
 |0,d,v,Q,b,_,_,_=>by let:=Qgl d;lia|n+1,.int i,v,Q,b,k,x,q=>by
  let⟨t,rfl⟩:=x;show Q2 q
 |n+1,.str i,v,Q,b,k,x,q=>by
  let⟨t,rfl⟩:=x;show Q2 q
 |n+1,.tup f,v,Q,b,k,x,q=>by
  let⟨a,Kw,rfl,p,c⟩:=ctup.mp x;let ty:=p.typeIs;let⟨o,g,h,m,hd⟩:=p;unfold eqIsQuiet;apply Q0;apply YV ty F.slot_tuple_eq.lookup;apply Q0;apply Yi ty isSubtype_tuple_tuple;apply Q0;apply Jl g hd;apply Q0;change wpAny _ _ (forIn Kw.toArray _ _) _ _ s;rw[<-Bf];show Qg4 f (λd v hd x Z z=>?_) "l" ?_
  ·let kd:=by
    let:=by simpa[keyOk]using k
    show J5.mp this d hd
   let e:dep d<=n:=by
    let:=Ua hd;simp only[dep]at b
    lia
   show Q0 (Qmr n d e kd x ?_);show Q2 z
  ·show Q2 q
 |n+1,.non,v,Q,b,k,x,q=>by simp[keyOk]at k|n+1,.bl _,v,Q,b,k,x,q=>by simp[keyOk]at k|n+1,.lst _,v,Q,b,k,x,q=>by simp[keyOk]at k
theorem Qr6:∀(n:Nat)(d:D){v:Value}{Q:Bool->Shared->Prop},dep d<=n->keyOk d=true->CIs s.heap d v->Q false s->wpAny (model prog w) A (ofAClassStatement n v) Q E s
 |0,d,v,Q,b,_,_,_=>by let:=Qgl d;lia|n+1,.int i,v,Q,b,k,x,q=>by
  let⟨t,rfl⟩:=x;show Q2 q
 |n+1,.str i,v,Q,b,k,x,q=>by
  let⟨t,rfl⟩:=x;show Q2 q
 |n+1,.tup f,v,Q,b,k,x,q=>by
  let⟨a,Kw,rfl,p,c⟩:=ctup.mp x;let ty:=p.typeIs;let⟨o,g,h,m,hd⟩:=p;unfold ofAClassStatement;show Q0 (Qzm ty ?_);dsimp only;show Q0 (Q2 ?_);show Q0 (Jl g hd ?_);apply Q0;rw[<-Bf];show Qg4 f (λd v hd x Z z=>?_) "l" ?_
  ·let kd:=by
    let:=by simpa[keyOk]using k
    show J5.mp this d hd
   let e:dep d<=n:=by
    let:=Ua hd;simp only[dep]at b
    lia
   show Q0 (Qr6 n d e kd x ?_);show Q2 z
  ·show Q2 q
 |n+1,.non,v,Q,b,k,x,q=>by simp[keyOk]at k|n+1,.bl _,v,Q,b,k,x,q=>by simp[keyOk]at k|n+1,.lst _,v,Q,b,k,x,q=>by simp[keyOk]at k
theorem Qia{γ:Type}{f:Value->Option Bool×γ->Sem (ForInStep (Option Bool×γ))}{g:γ}{R:Option Bool×γ->Shared->Prop}:∀(ds:List D){Kw:List Value},
  (∀(d:D)(v:Value),d∈ds->CIs s.heap d v->∀(Z:ForInStep (Option Bool×γ)->Shared->Prop),Z (.yield (none,g)) s->Z (.done (-false,g)) s->wpAny (model prog w) A (f v (none,g)) Z E s) ->
  CAll s.heap ds Kw->R (none,g) s->R (-false,g) s->wpAny (model prog w) A (forIn Kw (none,g) f) R E s
 |[],Kw,_,c,q,_=>by
  subst c;show Q2 q
 |d::ds,Kw,a,c,q,b=>by
  let⟨v,r,rfl,x,c⟩:=c;rw[Qcv];show Q0 (a d v Q8 x _ (Qia ds (λe h hd=>a e h (Q7 _ hd)) c q b) (Q2 b))
theorem Qnw:∀(n:Nat)(d:D){v:Value}{Q:Bool->Shared->Prop},dep d<=n->keyOk d=true->CIs s.heap d v->(∀b,Q b s)->wpAny (model prog w) A (hashByValue n v) Q E s
 |0,d,v,Q,e,_,_,_=>by let:=Qgl d;lia|n+1,.int i,v,Q,e,k,x,q=>by
  let⟨t,rfl⟩:=x;show Q2 (q _)
 |n+1,.str i,v,Q,e,k,x,q=>by
  let⟨t,rfl⟩:=x;show Q2 (q _)
 |n+1,.tup g,v,Q,e,k,x,q=>by
  let⟨a,Kw,rfl,p,c⟩:=ctup.mp x;let ty:=p.typeIs;let⟨o,h,l,m,hd⟩:=p;apply Q0;apply YV ty UE.lookup;show Q0 (Jl h hd ?_);apply Q0;change wpAny _ _ (forIn Kw.toArray _ _) _ _ s;rw[<-Bf];show Qia g (λd v hd x Z z j=>?_) "l" ?_ ?_
  ·let kd:=by
    let:=by simpa[keyOk]using k
    show J5.mp this d hd
   let f:dep d<=n:=by
    let:=Ua hd;simp only[dep]at e
    lia
   show Q0 (Qnw n d f kd x λb=>?_);cases b with
   |true =>
    show Q2 z
   |false =>
    show Q2 j
  ·show Q2 (q _)
  ·show Q2 (q _)
 |n+1,.non,v,Q,e,k,x,q=>by simp[keyOk]at k|n+1,.bl _,v,Q,e,k,x,q=>by simp[keyOk]at k|n+1,.lst _,v,Q,e,k,x,q=>by simp[keyOk]at k
end
def KIs(h:Heap)(d:D)(a:Addr):Prop:=keyOk d=true/\dep d<=6/\CIs h d (.ref a)
def Qd0{h:Heap}(p:h.IsTuple a Kw)(ho:h.get? d=-o)(hd:o.data=.dict es ep):a≠d:=by
 rintro rfl;let⟨b,e,_,n,c⟩:=p
 ext
mutual
theorem CIs.butDict{h h':Heap}{d:Addr}{o:Obj}{es ep}(ho:h.get? d=-o)(hd:o.data=.dict es ep)(hs:Heap.SameBut d h h'):∀{x:D}{v:Value},keyOk x=true->CIs h x v->CIs h' x v
 |.int _,_,_,x=>by simpa[CIs]using x|.str _,_,_,x=>by simpa[CIs]using x|.tup f,v,k,x=>by
  let⟨a,Kw,rfl,p,c⟩:=ctup.mp x;let Ko:=Qd0 p ho hd;let⟨b,e,r⟩:=p;show ctup.mpr ⟨a,Kw,(),⟨b,by rw[hs.2 a Ko];show e,r⟩,CAll.butDict ho hd hs (by simpa[keyOk]using k) c⟩
 |.non,_,k,_=>by simp[keyOk]at k|.bl _,_,k,_=>by simp[keyOk]at k|.lst _,_,k,_=>by simp[keyOk]at k|.dct _ _ _,_,k,_=>by simp[keyOk]at k|.oth _ _ _,_,k,_=>by simp[keyOk]at k
theorem CAll.butDict{h h':Heap}{d:Addr}{o:Obj}{es ep}(ho:h.get? d=-o)(hd:o.data=.dict es ep)(hs:Heap.SameBut d h h'):∀{ds:List D}{vs:List Value},keyOks ds=true->CAll h ds vs->CAll h' ds vs
 |[],_,_,x=>by simpa[CAll]using x|y::ds,vs,k,x=>by
  simp only[keyOks,Qv]at k;rw[CAll]at x ⊢;let⟨v,r,e,q,z⟩:=x;show⟨v,r,e,CIs.butDict ho hd hs k.1 q,CAll.butDict ho hd hs k.2 z⟩
end
noncomputable def Ge(prog:Program)(w:World):HeapKind prog w D where
 is:=KIs
 hash:=Jg w
 draws:=drw
 room:=λA=>A.units+14<cLine
 inj:=λx y=>CIs.inj x.2.2 y.2.2
 keeps:=λx ho hd hs=>⟨x.1,x.2.1,CIs.butDict ho hd hs x.1 x.2.2⟩
 pyHash:=λhu x q=>Qu1 _ x.1 x.2.2 (by let:=x.2.1;lia) q
 eqBool:=λ{A E s x y a b Q} hu hx hy q=>by
  let:=Qgg (s:=s) x y hx.2.2 hy.2.2 (A:=A) (by let:=hx.2.1;let:=hy.2.1;lia);rw[BX hx.1 hy.1]at this;show this _ _ _ _ q
 quiet:=λx q=>Qmr 8 _ (by let:=x.2.1;lia) x.1 x.2.2 q
def Qca(prog:Program)(w:World):ST.SK (Ge prog w) where
 stmt:=λx q=>Qr6 8 _ (by let:=x.2.1;lia) x.1 x.2.2 q
 byVal:=λx q=>Qnw 8 _ (by let:=x.2.1;lia) x.1 x.2.2 q
 keeps:=λx t=>⟨x.1,x.2.1,CIs.stay t x.1 x.2.2⟩
end L2
namespace SO
open PySem PySem.W PyProof.Rows
structure LO{α:Type}(lt:α->α->Bool):Prop where
 irr:∀a,lt a a=false
 tr:∀a b c,lt b a=false->lt c b=false->lt c a=false
 asy:∀a b,lt a b=true->lt b a=false
section
variable {α:Type} {lt:α->α->Bool} {r:Nat->α} {N:Nat} {s:Shared} {cmp:Nat->Nat->(Bool->Shared->Prop)->Shared->Prop}
def ky(r:Nat->α)(p:Array Nat)(i:Nat):α:=r (p.getD i 0)
def Srt(lt:α->α->Bool)(r:Nat->α)(p:Array Nat)(k:Nat):Prop:=∀i j,i<=j->j<k->lt (ky r p j) (ky r p i)=false
def Ask(lt:α->α->Bool)(r:Nat->α)(N:Nat)(s:Shared)(cmp:Nat->Nat->(Bool->Shared->Prop)->Shared->Prop):Prop:=∀i j(C:Bool->Shared->Prop),i<N->j<N->C (lt (r i) (r j)) s->cmp i j C s
def Ok(N:Nat)(p:Array Nat):Prop:=p.Perm (List.range N).toArray
def Ok.size(h:Ok N p):p.size=N:=by
 let:=Array.Perm.size_eq h
 ext
def Ok.bd{p:Array Nat}(h:Ok N p){i:Nat}(hi:i<N):p.getD i 0<N:=by
 let c:=h.size;let a:i<p.size:="l"
 let b:p[i]∈p:=Array.getElem_mem a;let:=h.mem_iff.mp b;let e:p.getD i 0=p[i]:=by simp[Array.getD,a]
 rw[e];simpa using this
end
section
variable {prog:Program} {w:World} {A:Around} {E:Kh} {s:Shared} {α:Type} {lt:α->α->Bool} {r:Nat->α}
def Y1(vs:List Value)(p:Array Nat):List Value:=p.toList.map λi=>vs.getD i Value.none
def Qa3(vs:List Value):Y1 vs (List.range vs.length).toArray=vs:=by
 show W3 λi=>?_
 unfold Y1;rw[Qd]
 by_cases h:i<vs.length
 ·simp[h]
 ·simp[h]
end
end SO
namespace L2
open PySem PySem.Spec PyProof.Rows
def rkD:D->Nat
 |.non=>0|.bl _=>1|.int _=>2|.str _=>3|.tup _=>4|.lst _=>5|.dct _ _ _=>6|.oth _ _ _=>7
def cmpN{α:Type}[DecidableEq α][LT α][DecidableLT α](a b:α):Ordering:=if a<b then .lt else if a=b then .eq else .gt
mutual
def cmpD:D->D->Ordering
 |.bl a,.bl b=>cmpN a.toNat b.toNat|.int a,.int b=>cmpN a b|.str a,.str b=>cmpN a.cps.toList b.cps.toList|.tup a,.tup b=>cmpDs a b|.lst a,.lst b=>cmpDs a b|.dct f a b,.dct g c d=>(cmpN f.toNat g.toNat).then ((cmpDs a c).then (cmpDs b d))|.oth t a b,.oth u c d=>(cmpN t.enc u.enc).then ((cmpDs a c).then (cmpDs b d))|a,b=>cmpN (rkD a) (rkD b)
def cmpDs:List D->List D->Ordering
 |[],[]=>.eq|[],_::_=>.lt|_::_,[]=>.gt|a::as,b::bs=>(cmpD a b).then (cmpDs as bs)
end
def Qcd{a b:Nat}:cmpN a b=.eq↔a=b:=by
 unfold cmpN;split
 ·simp;lia
 ·split<;>ext
def Quz{a b:Int}:cmpN a b=.eq↔a=b:=by
 unfold cmpN
 grind
def Qce{a b:List Nat}:cmpN a b=.eq↔a=b:=by
 unfold cmpN;split
 ·rename_i h;simp only[reduceCtorEq,false_iff];rintro rfl;show YM _ h
 ·split<;>ext
def Qw5{a b:Str}(h:a.cps.toList=b.cps.toList):a=b:=by
 cases a;ext
mutual
theorem ZW:∀{a b:D},cmpD a b=.eq↔a=b
 |.non,b=>by cases b<;>simp[cmpD,cmpN,rkD]
 |.bl x,b=>by
  cases b with
  |bl y=>rw[cmpD,Qcd];cases x<;>cases y<;>simp
  |_=>simp[cmpD,cmpN,rkD]
 |.int x,b=>by
  cases b with
  |int y=>rw[cmpD,Quz];simp|_=>simp[cmpD,cmpN,rkD]
 |.str x,b=>by
  cases b with
  |str y =>
   rw[cmpD,Qce];show⟨λh=>by rw[Qw5 h],λh=>by cases h;rfl⟩
  |_=>simp[cmpD,cmpN,rkD]
 |.tup x,b=>by
  cases b with
  |tup y=>rw[cmpD,Wf];simp|_=>simp[cmpD,cmpN,rkD]
 |.lst x,b=>by
  cases b with
  |lst y=>rw[cmpD,Wf];simp|_=>simp[cmpD,cmpN,rkD]
 |.dct f a b,e=>by
  cases e with
  |dct g c d =>
   rw[cmpD];let i:cmpN f.toNat g.toNat=.eq↔f=g:=by rw[Qcd];cases f<;>cases g<;>simp
   let j:=Wf (a:=a) (b:=c);let h3:=Wf (a:=b) (b:=d);rw[Gg,Gg,i,j,h3]
   simp
  |_=>simp[cmpD,cmpN,rkD]
 |.oth f a b,e=>by
  cases e with
  |oth g c d =>
   rw[cmpD];let i:cmpN f.enc g.enc=.eq↔f=g:=by rw[Qce];show⟨Oth.enc_inj,λz=>by rw[z]⟩
   let j:=Wf (a:=a) (b:=c);let h3:=Wf (a:=b) (b:=d);rw[Gg,Gg,i,j,h3]
   simp
  |_=>simp[cmpD,cmpN,rkD]
theorem Wf:∀{a b:List D},cmpDs a b=.eq↔a=b
 |[],[]=>by simp[cmpDs]|[],_::_=>by simp[cmpDs]|_::_,[]=>by simp[cmpDs]|a::c,b::bs=>by
  rw[cmpDs];cases h:cmpD a b with
  |eq =>
   let:=ZW.mp h;subst this;simp[Ordering.then,Wf]
  |lt =>
   let:a≠b:=λz=>by rw[ZW.mpr z]at h;cases h
   ext
  |gt =>
   let:a≠b:=λz=>by rw[ZW.mpr z]at h;cases h
   ext
end
def Qj3(a b:Nat):cmpN b a=(cmpN a b).swap:=by
 unfold cmpN
 by_cases c:a<b
 ·rw[Qc "l",Qc "l",Qh c];rfl
 ·by_cases d:b<a
  ·rw[Qh d,Qc c,Qc "l"];rfl
  ·let:a=b:="l"
   ext
def Quy(a b:Int):cmpN b a=(cmpN a b).swap:=by
 unfold cmpN
 by_cases c:a<b
 ·rw[Qc "l",Qc "l",Qh c];rfl
 ·by_cases d:b<a
  ·rw[Qh d,Qc c,Qc "l"];rfl
  ·let:a=b:="l"
   ext
def Qpe(a b:List Nat):a<b\/a=b\/b<a:=by
 grind
def Qj4(a b:List Nat):cmpN b a=(cmpN a b).swap:=by
 unfold cmpN;rcases Qpe a b with h|rfl|h
 ·let c: ¬ b<a:=λz=>YM _ (Qjp h z)
  let h3: ¬ b=a:=by rintro rfl;show YM _ h
  rw[Qc c,Qc h3,Qh h];rfl
 ·rw[Qc (YM a),Qh ()];rfl
 ·let c: ¬ a<b:=λz=>YM _ (Qjp h z)
  let h3: ¬ a=b:=by rintro rfl;show YM _ h
  rw[Qh h,Qc c,Qc h3];rfl
mutual
theorem Qav:∀(a b:D),cmpD b a=(cmpD a b).swap
 |.non,b=>by cases b<;>simp[cmpD,cmpN,rkD]
 |.bl x,b=>by
  cases b with
  |bl y=>rw[cmpD,cmpD];show Qj3 _ _|_=>rfl
 |.int x,b=>by
  cases b with
  |int y=>rw[cmpD,cmpD];show Quy _ _|_=>rfl
 |.str x,b=>by
  cases b with
  |str y=>rw[cmpD,cmpD];show Qj4 _ _|_=>rfl
 |.tup x,b=>by
  cases b with
  |tup y=>rw[cmpD,cmpD];show Yr x y|_=>rfl
 |.lst x,b=>by
  cases b with
  |lst y=>rw[cmpD,cmpD];show Yr x y|_=>rfl
 |.dct f a b,e=>by
  cases e with
  |dct g c d =>
   rw[cmpD,cmpD,Qj3,Yr a c,Yr b d];cases cmpN f.toNat g.toNat<;>cases cmpDs a c<;>rfl
  |_=>rfl
 |.oth f a b,e=>by
  cases e with
  |oth g c d =>
   rw[cmpD,cmpD,Qj4,Yr a c,Yr b d];cases cmpN f.enc g.enc<;>cases cmpDs a c<;>rfl
  |_=>rfl
theorem Yr:∀(a b:List D),cmpDs b a=(cmpDs a b).swap
 |[],[]=>by rfl|[],_::_=>by rfl|_::_,[]=>by rfl|a::c,b::bs=>by
  rw[cmpDs,cmpDs,Qav a b,Yr c bs];cases cmpD a b<;>rfl
end
def WC{a b:Nat}:cmpN a b=.lt↔a<b:=by
 unfold cmpN;split
 ·ext
 ·split<;>ext
def Qj5{a b:Int}:cmpN a b=.lt↔a<b:=by
 unfold cmpN;split
 ·ext
 ·split<;>ext
def Qcc{a b:List Nat}:cmpN a b=.lt↔a<b:=by
 unfold cmpN
 grind
def Qev{o p:Ordering}:o.then p=.lt↔o=.lt\/(o=.eq/\p=.lt):=by cases o<;>simp[Ordering.then]
mutual
theorem Qnv:∀{a b c:D},cmpD a b=.lt->cmpD b c=.lt->cmpD a c=.lt
 |.non,b,c,h,g=>by cases b<;>cases c<;>simp_all [cmpD,WC,rkD]
 |.bl x,b,c,h,g=>by
  cases b<;>cases c<;>simp_all [cmpD,WC,rkD]<;>lia
 |.int x,b,c,h,g=>by
  cases b<;>cases c<;>simp_all [cmpD,WC,Qj5,rkD]<;>lia
 |.str x,b,c,h,g=>by
  cases b<;>cases c<;>simp_all [cmpD,WC,Qcc,rkD];show Qjp h g
 |.tup x,b,c,h,g=>by
  cases b with
  |tup y =>
   cases c with
   |tup z=>rw[cmpD]at h g ⊢; show Yq h g|_=>simp_all [cmpD,WC,rkD]
  |_=>cases c<;>simp_all [cmpD,WC,rkD]
 |.lst x,b,c,h,g=>by
  cases b with
  |lst y =>
   cases c with
   |lst z=>rw[cmpD]at h g ⊢; show Yq h g|_=>simp_all [cmpD,WC,rkD]
  |_=>cases c<;>simp_all [cmpD,WC,rkD]
 |.dct k l m,b,c,h,g=>by
  cases b with
  |dct n o p =>
   cases c with
   |dct q r s =>
    rw[cmpD]at h g ⊢;let f:∀{a b:Nat},cmpN a b=.eq↔a=b:=Qcd;simp only[Qev,WC,f]at h g ⊢;rcases h with h|⟨h,d|⟨d,i⟩⟩<;>rcases g with g|⟨g,e|⟨e,j⟩⟩
    ·show .inl "l"
    ·show .inl "l"
    ·show .inl "l"
    ·show .inl "l"
    ·show .inr ⟨"l",.inl (Yq d e)⟩
    ·rw[Wf]at e;subst e;show .inr ⟨"l",.inl d⟩
    ·show .inl "l"
    ·rw[Wf]at d;subst d;show .inr ⟨"l",.inl e⟩
    ·rw[Wf]at d e;subst d;subst e;show .inr ⟨"l",.inr ⟨Wf.mpr (),Yq i j⟩⟩
   |_=>simp_all [cmpD,WC,rkD]
  |_=>cases c<;>simp_all [cmpD,WC,rkD]
 |.oth k l m,b,c,h,g=>by
  cases b with
  |oth n o p =>
   cases c with
   |oth q r s =>
    rw[cmpD]at h g ⊢;let f:∀{a b:List Nat},cmpN a b=.eq↔a=b:=Qce;simp only[Qev,Qcc,f]at h g ⊢;rcases h with h|⟨h,d|⟨d,i⟩⟩<;>rcases g with g|⟨g,e|⟨e,j⟩⟩
    ·show .inl (Qjp h g)
    ·show .inl (g▸h)
    ·show .inl (g▸h)
    ·show .inl (h▸g)
    ·show .inr ⟨h.trans g,.inl (Yq d e)⟩
    ·rw[Wf]at e;subst e;show .inr ⟨h.trans g,.inl d⟩
    ·show .inl (h▸g)
    ·rw[Wf]at d;subst d;show .inr ⟨h.trans g,.inl e⟩
    ·rw[Wf]at d e;subst d;subst e;show .inr ⟨h.trans g,.inr ⟨Wf.mpr (),Yq i j⟩⟩
   |_=>simp_all [cmpD,WC,rkD]
  |_=>cases c<;>simp_all [cmpD,WC,rkD]
theorem Yq:∀{a b c:List D},cmpDs a b=.lt->cmpDs b c=.lt->cmpDs a c=.lt
 |[],b,c,h,g=>by
  cases b with
  |nil=>simp[cmpDs]at h|cons y d =>
   cases c with
   |nil=>simp[cmpDs]at g|cons z f=>simp[cmpDs]
 |x::k,b,c,h,g=>by
  cases b with
  |nil=>simp[cmpDs]at h|cons y d =>
   cases c with
   |nil=>simp[cmpDs]at g|cons z f =>
    rw[cmpDs,Qev]at h g ⊢;rcases h with h|⟨i,j⟩
    ·rcases g with g|⟨g1,_⟩
     ·show .inl (Qnv h g)
     ·rw[<-ZW.mp g1];show .inl h
    ·let e:=ZW.mp i;subst e;rcases g with g|⟨g1,g2⟩
     ·show .inl g
     ·show .inr ⟨g1,Yq j g2⟩
end
def ltD(a b:D):Bool:=cmpD a b ==.lt
def YF:ltD a b=true↔cmpD a b=.lt:=by simp[ltD]
def Qg3:SO.LO ltD where
 irr:=λa=>by
  let:cmpD a a=.eq:=ZW.mpr ();simp[ltD,this]
 tr:=λa b c h g=>by
  cases z:ltD c a with
  |false=>rfl|true =>
   exfalso;let z:=YF.mp z;let h':cmpD b a≠ .lt:=λy=>by rw[YF.mpr y]at h;cases h
   let g':cmpD c b≠ .lt:=λy=>by rw[YF.mpr y]at g;cases g
   cases q:cmpD c b with
   |lt=>show g' q|eq=>rw[ZW.mp q]at z;show h' z|gt =>
    let q':cmpD b c=.lt:=by rw[Qav c b,q];rfl
    show h' (Qnv q' z)
 asy:=λa b h=>by
  let h:=YF.mp h;let:cmpD b a=.gt:=by rw[Qav a b,h];rfl
  simp[ltD,this]
def Qxz(h:ltD a b=false)(g:ltD b a=false):a=b:=by
 let d:cmpD a b≠ .lt:=λy=>by rw[YF.mpr y]at h;cases h
 let c:cmpD b a≠ .lt:=λy=>by rw[YF.mpr y]at g;cases g
 cases q:cmpD a b with
 |lt=>ext|eq=>show ZW.mp q|gt =>
  exfalso;apply c;rw[Qav a b,q];rfl
mutual
def cmb:D->D->Bool
 |.int _,.int _=>true|.str _,.str _=>true|.tup a,.tup b=>cmbs a b|_,_=>false
def cmbs:List D->List D->Bool
 |[],_=>true|_,[]=>true|a::as,b::bs=>cmb a b&&cmbs as bs
end
def LtAt(A:Around)(s:Shared)(y x:Value)(b:Bool):Prop:=∀(prog:Program)(w:World)(E:Kh)(Q:Kh),Q (.bool b) s->wpAny (model prog w) A (richCompare .Lt y x) Q E s
def OB{a b:D}{as bs:List D}:(cmpDs (a::as) (b::bs) ==.lt)=if a=b then(cmpDs as bs ==.lt)else ltD a b:=by
 rw[cmpDs]
 by_cases h:a=b
 ·rw[Qh h,ZW.mpr h];rfl
 ·rw[Qc h];let:cmpD a b≠ .eq:=λz=>h (ZW.mp z)
  unfold ltD;cases q:cmpD a b with
  |eq=>ext|lt=>rfl|gt=>rfl
open PySem.SeqAt in
open PySem.AutoSeq1 (wpAny_loadPart') in
open PySem.MeetsSeq PySem.MeetsSeq2 PySem.MeetsSeq3 in
def Qok(l b:Addr)(items items2:List Value)(n n2:Nat)(dd dd2:Option Addr)(sl sl2:Array (Option Value))(ds es:List D)(hk:keyOks ds=true)(hk2:keyOks es=true):
  Meets (Builtin.«tuple.__lt__» ⟨[.ref l,.ref b],[]⟩)
   (λA R s=>s.heap.get? l=some {cls:=.type "tuple",dict:=dd,data:=.seq items.toArray n,slots:=sl}/\s.heap.get? b=some {cls:=.type "tuple",dict:=dd2,data:=.seq items2.toArray n2,slots:=sl2} /\
    CAll s.heap ds items/\CAll s.heap es items2/\A.units+1+deps ds+deps es<cLine/\(∀(i:Nat)(d e:D)(v u:Value),ds[i]?=-d->es[i]?=-e->CIs s.heap d v->CIs s.heap e u->LtAt A.in1 s v u (ltD d e)) /\
    R (.ok (.ret (.bool (cmpDs ds es ==.lt)))) s):=
 .of_wp λprog w A R s h=>by
  let⟨z,g,d,tk,os⟩:=s;let⟨hl,hb,cd,ce,hu,Kt,h⟩:=h;let f2:=AutoSeq1.sub_tuple_tuple
  wp_walk using wpAny_loadPart' hl,wpAny_loadPart' hb,wpAny_forIn_list _ (λo r s'=>r.1=none/\s'=⟨z,g,d,tk,os⟩/\∃(i:Nat)(vs ws:List Value)(j f:List D),o=vs.zip ws /\
   j=ds.drop i/\f=es.drop i/\CAll z j vs/\CAll z f ws/\vs.length+items2.length=ws.length+items.length/\R (.ok (.ret (.bool (cmpDs j f ==.lt)))) ⟨z,g,d,tk,os⟩) _
  case turn =>
   rintro⟨y,x⟩ o r s' ⟨hr,rfl,i,vs,ws,j,f,hz,ex,ey,k,p,Ks,q⟩;cases j with
   |nil =>
    simp only[CAll]at k
    ext
   |cons a j =>
    cases f with
    |nil =>
     simp only[CAll]at p
     ext
    |cons c f =>
     rw[CAll]at k p;let⟨v,Kk,rfl,ia,k⟩:=k;let⟨u,ws',rfl,ic,p⟩:=p;rw[JC]at hz;injection hz with hyx t
     injection hyx with e1 e2
     subst e1 e2;let ma:ds[i]?=some a:=by
      let:=JL (λl=>l[0]?) ex
      grind
     let mc:es[i]?=some c:=by
      let:=JL (λl=>l[0]?) ey
      grind
     let ka:keyOk a=true:=J5.mp hk a (Q6 ma);let kc:keyOk c=true:=J5.mp hk2 c (Q6 mc);rw[OB]at q;simp only[Qz]at Ks;let he:=Qgg (s:=⟨z,g,d,tk,os⟩) a c ia ic (A:=A.in1) (by let:=Ua (Q6 ma);let:=Ua (Q6 mc);grind);rw[BX ka kc]at he;show Q0 (he prog w _ _ ?_)
     by_cases m:a=c
     ·rw[Wh m];rw[Qh m]at q
      wp_walk
      show⟨(),(),i+1,_,_,j,f,t,?_,?_,k,p,"l",q⟩
      ·let:=JL List.tail ex;simpa using this
      ·let:=JL List.tail ey;simpa using this
     ·rw[QV m];rw[Qc m]at q;let hri:=Kt i a c _ _ ma mc ia ic prog w
      wp_walk using hri
      ext
  case fin =>
   rintro⟨b1,b2⟩ s' ⟨hr,rfl,i,vs,ws,j,f,hz,ex,ey,k,p,Ks,q⟩;simp only at hr;subst hr;let hv:(cmpDs j f ==.lt)=decide (items.toArray.size<items2.toArray.size):=by
    rw[Qy,Qy];let l1:=k.len;let l2:=p.len;cases j with
    |nil =>
     cases f with
     |nil =>
      simp only[UH]at l1 l2;rw[QV "l"];rfl
     |cons c f =>
      simp only[UH,Qz]at l1 l2;rw[Wh "l"];rfl
    |cons a j =>
     cases f with
     |nil =>
      simp only[UH,Qz]at l1 l2;rw[QV "l"];rfl
     |cons c f =>
      rw[CAll]at k p;let⟨v,Kk,rfl,ia,k⟩:=k
      ext
   rw[hv]at q
   wp_walk
   show⟨_,(),by simpa[Builtin.Tuple.tupleCompareSizes]using q⟩
  case h =>
   show⟨(),(),0,items,items2,ds,es,(),(),(),cd,ce,"l",h⟩
section
variable {s:Shared}
def Qy0(a b:Int):ltD (.int a) (.int b)=decide (a<b):=by
 rw[Ws,YF,Wo,cmpD,Qj5]
def Qg2(a b:Str):ltD (.str a) (.str b)=decide (a.cps.toList<b.cps.toList):=by
 rw[Ws,YF,Wo,cmpD,Qcc]
def Qg1(a b:List D):ltD (.tup a) (.tup b)=(cmpDs a b ==.lt):=by
 rfl
mutual
theorem Je4:∀(d e:D){v u:Value}{A:Around},keyOk d=true->keyOk e=true->cmb d e=true->CIs s.heap d v->CIs s.heap e u->A.units+dep d+dep e<cLine->LtAt A s v u (ltD d e)
 |.int a,e,v,u,A,f,g,c,x,y,h=>by
  cases e with
  |int b =>
   simp only[CIs]at x y;let⟨t,rfl⟩:=x;let⟨t',rfl⟩:=y;rw[Qy0];show λprog w E Q q=>(PyProof.Rows.lt_int q:wpAny (model prog w) A (compareOp .Lt (.int a t) (.int b t')) Q E s)
  |_=>simp[cmb]at c
 |.str a,e,v,u,A,f,g,c,x,y,h=>by
  cases e with
  |str b =>
   simp only[CIs]at x y;let⟨t,rfl⟩:=x;let⟨t',rfl⟩:=y;rw[Qg2];show λprog w E Q q=>(PyProof.Rows.lt_str q:wpAny (model prog w) A (compareOp .Lt (.str a t) (.str b t')) Q E s)
  |_=>simp[cmb]at c
 |.tup i,e,v,u,A,f,g,c,x,y,h=>by
  cases e with
  |tup j =>
   let⟨a,Kw,rfl,p,ca⟩:=ctup.mp x;let⟨b,k,rfl,p',cb⟩:=ctup.mp y;let l:keyOks i=true:=by simpa[keyOk]using f
   let m:keyOks j=true:=by simpa[keyOk]using g
   let c':cmbs i j=true:=by simpa[cmb]using c
   let o:A.units+1+deps i+deps j<cLine:=by simp only[dep]at h;lia
   let⟨⟨cls,dd,data,sl⟩,ho,hc,n,hd⟩:=id p;let⟨⟨cls2,dd2,data2,sl2⟩,r,hc2,n2,hd2⟩:=id p';simp only at hc hd hc2 hd2;subst hc hd hc2 hd2;rw[Qg1];intro prog w E Q q;show richCompare_meets_room (op:=.Lt) ⟨_,ho,()⟩ ⟨_,r,()⟩ PySem.F.slot_tuple_lt PySem.F.entry_tuple_lt (PySem.F.args_tuple_lt_2 _ _) (Qok a b Kw k n n2 dd dd2 sl sl2 i j l m)
    ⟨ho,r,ca,cb,o,Qzc i j l m c' (show A.in1.units+deps i+deps j<cLine from o),show Value.bool (cmpDs i j ==.lt)≠Value.notImplemented/\Q (.bool (cmpDs i j ==.lt)) s from⟨(λz=>nomatch z),q⟩⟩ "l"
  |_=>simp[cmb]at c
 |.non,e,v,u,A,f,g,c,x,y,h=>by simp[keyOk]at f|.bl _,e,v,u,A,f,g,c,x,y,h=>by simp[keyOk]at f|.lst _,e,v,u,A,f,g,c,x,y,h=>by simp[keyOk]at f|.dct _ _ _,e,v,u,A,f,g,c,x,y,h=>by simp[keyOk]at f|.oth _ _ _,e,v,u,A,f,g,c,x,y,h=>by simp[keyOk]at f
theorem Qzc:∀(ds es:List D){A:Around},keyOks ds=true->keyOks es=true->cmbs ds es=true->A.units+deps ds+deps es<cLine->∀(i:Nat)(d e:D)(v u:Value),ds[i]?=-d->es[i]?=-e->CIs s.heap d v->CIs s.heap e u->LtAt A s v u (ltD d e)
 |[],es,A,f,g,c,k,i,d,e,v,u,h,j,x,y=>by simp at h|a::ds,[],A,f,g,c,k,i,d,e,v,u,h,j,x,y=>by simp at j|a::ds,b::es,A,f,g,c,k,0,d,e,v,u,h,j,x,y=>by
  let l:a=d:=by simpa using h
  let m:b=e:=by simpa using j
  subst l m;simp only[keyOks,Qv]at f g;simp only[cmbs,Qv]at c;show Je4 a b f.1 g.1 c.1 x y (by simp only[deps]at k;lia)
 |a::ds,b::es,A,f,g,c,k,i+1,d,e,v,u,h,j,x,y=>by
  simp only[keyOks,Qv]at f g;simp only[cmbs,Qv]at c;show Qzc ds es f.2 g.2 c.2 (by simp only[deps]at k;lia) i d e v u (by simpa using h) (by simpa using j) x y
end
end
section
variable {prog:Program} {w:World} {A:Around} {E:Kh} {s:Shared}
theorem Qbx:∀(ds es:List D){vs us:List Value}(i:Nat),keyOks ds=true->keyOks es=true->cmbs ds es=true->CAll s.heap ds vs->CAll s.heap es us->A.units+deps ds+deps es<cLine->(b=true->1<=i) ->
  (ds.length<es.length↔fin=true)->Q (cmpDs ds es ==.lt) s->W.KatLex prog w A b fin Q (vs.zip us) i s
 |[],es,vs,us,i,a,f,c,x,y,g,hi,j,q=>by
  subst x;show W.kat_nil ?_;cases es with
  |nil =>
   let:fin=false:=by
    ext
   rw[this];simpa[cmpDs]using q
  |cons e es =>
   rw[j.mp "s"];simpa[cmpDs]using q
 |d::ds,[],vs,us,i,a,f,c,x,y,g,hi,j,q=>by
  subst y;rw[List.zip_nil_right];show W.kat_nil ?_;let:fin=false:=by
   ext
  rw[this];simpa[cmpDs]using q
 |d::ds,e::es,vs,us,i,a,f,c,x,y,g,hi,j,q=>by
  let⟨v,Kk,rfl,k,n⟩:=x;let⟨u,o,rfl,l,p⟩:=y;simp only[keyOks,Qv]at a f;simp only[cmbs,Qv]at c;simp only[deps]at g;let m:=Qgg d e k l (A:=A) "l";rw[BX a.1 f.1]at m;show m prog w _ _ ?_;rw[OB]at q
  by_cases h:d=e
  ·rw[Wh h];rw[Qh h]at q;show W.kat_yes (Qbx ds es (i+1) a.2 f.2 c.2 n p "l" (λ_=>by lia) ?_ q)
   ext
  ·rw[QV h];rw[Qc h]at q;let hb:(b&&i==0)=false:=by
    grind
   rw[hb];show W.kat_one _ _ (Je4 d e a.1 f.1 c.1 k l "l" prog w _ _ q)
def Qy4(k1:keyOks ds=true)(k2:keyOks es=true)(c:cmbs ds es=true)(p:CIs s.heap (.tup (.str x::ds)) v)(p':CIs s.heap (.tup (.str y::es)) u)(hu:A.units+2+deps ds+deps es<cLine)
  (q:Q (ltD (.tup (.str x::ds)) (.tup (.str y::es))) s):wpAny (model prog w) A (keyLt' (tuples' true) v u) Q E s:=by
 let⟨a,Kw,rfl,⟨o,j,r,n,hd⟩,d⟩:=ctup.mp p;let⟨b,i,rfl,⟨o',f,Kl,n',g⟩,e⟩:=ctup.mp p';let l1:=d.len;let l2:=e.len;let⟨v1,vs,rfl,k,d⟩:=d;let⟨u1,us,rfl,l,e⟩:=e;let⟨t,rfl⟩:=k;let⟨m,rfl⟩:=l;show W.kat_lt j hd f g ?_;rw[Qg1,OB]at q;show W.kat_cons (Qvq x t y m prog w _ _ ?_)
 by_cases h:x=y
 ·subst h;rw[beq_self_eq_true];rw[Qh ()]at q;show W.kat_yes (Qbx ds es 1 k1 k2 c d e "l" (λ_=>Q5 _) ?_ q)
  ext
 ·let hb:(x==y)=false:="g"
  rw[hb];rw[Qc (λz=>h (by injection z)),Qg2]at q;show oneLt_str q
def Jbx{ds:List D}{vs:List Value}{Q:SortKind->Shared->Prop}(Ko:0<ds.length)(c:CAll s.heap ds vs)(hf:∀d∈ds,∃x r,d=.tup (.str x::r))(q:Q (tuples' true) s):wpAny (model prog w) A (keyKind' vs.toArray) Q E s:=by
 let go:∀(ds:List D)(vs:List Value),CAll s.heap ds vs->(∀d∈ds,∃x r,d=.tup (.str x::r))->∃fs,W.KatTups s.heap vs fs/\fs.length=ds.length/\∀f∈fs,∃x t,f=Value.str x t:=by
  intro ds
  induction ds with
  |nil =>
   intro vs c _;simp only[CAll]at c;subst c;show⟨[],W.KatTups.nil,(),λf hf=>nomatch hf⟩
  |cons d ds j =>
   intro vs c hf;rw[CAll]at c;let⟨v,r,rfl,x,c⟩:=c;let⟨fs,k,l,f⟩:=j r c λe m=>hf e (Q7 _ m)
   let⟨z,rr,rfl⟩:=hf d Q8;let⟨a,Kw,rfl,⟨o,p,u,n,hd⟩,h⟩:=ctup.mp x;rw[CAll]at h;let⟨v1,y,rfl,i,_⟩:=h;simp only[CIs]at i;let⟨t,rfl⟩:=i;show⟨.str z t::fs,W.KatTups.cons p u hd () k,by simp[l],λg b=>?_⟩;rcases Qe.mp b with rfl|b
   ·show⟨z,t,()⟩
   ·show f g b
 let⟨fs,k,l,f⟩:=go ds vs c hf;let e:(Value.type "str" != Value.type "tuple")=true:="d"
 show W.kat_kind (T:=.type "str") k "l" (λv hv=>?_) "d" (by rw[e];show q);let⟨x,t,rfl⟩:=f v hv;show .now
def Qy3{ds es:List D}{v u:Value}{Q:Bool->Shared->Prop}(k1:keyOks ds=true)(k2:keyOks es=true)(c:cmbs ds es=true)(p:CIs s.heap (.tup ds) v)(p':CIs s.heap (.tup es) u)(hu:A.units+deps ds+deps es<cLine)
  (q:Q (ltD (.tup ds) (.tup es)) s):wpAny (model prog w) A (keyLt' (tuples' false) v u) Q E s:=by
 let⟨a,Kw,rfl,⟨o,j,k,n,hd⟩,f⟩:=ctup.mp p;let⟨b,g,rfl,⟨l,d,Kl,m,e⟩,i⟩:=ctup.mp p';let r:=f.len;let t:=i.len;show W.kat_lt j hd d e ?_;rw[Qg1]at q;show Qbx ds es 0 k1 k2 c f i hu (λh=>nomatch h) ?_ q
 simp
 lia
def Jbw{ds:List D}{vs:List Value}{Q:SortKind->Shared->Prop}(Ko:0<ds.length)(c:CAll s.heap ds vs)(hf:∀d∈ds,∃x r,d=.tup (.tup x::r))(q:Q (tuples' false) s):wpAny (model prog w) A (keyKind' vs.toArray) Q E s:=by
 let go:∀(ds:List D)(vs:List Value),CAll s.heap ds vs->(∀d∈ds,∃x r,d=.tup (.tup x::r))->∃fs,W.KatTups s.heap vs fs/\fs.length=ds.length/\∀f∈fs,∃a Kw,f=Value.ref a/\s.heap.IsTuple a Kw:=by
  intro ds
  induction ds with
  |nil =>
   intro vs c _;simp only[CAll]at c;subst c;show⟨[],W.KatTups.nil,(),λf hf=>nomatch hf⟩
  |cons d ds u =>
   intro vs c hf;rw[CAll]at c;let⟨v,r,rfl,x,c⟩:=c;let⟨fs,k,l,f⟩:=u r c λe y=>hf e (Q7 _ y)
   let⟨z,rr,rfl⟩:=hf d Q8;let⟨a,Kw,rfl,⟨o,b,h,n,hd⟩,m⟩:=ctup.mp x;rw[CAll]at m;let⟨v1,vs1,rfl,iv,_⟩:=m;let⟨p,t,rfl,i,_⟩:=ctup.mp iv;show⟨.ref p::fs,W.KatTups.cons b h hd () k,by simp[l],λg j=>?_⟩;rcases Qe.mp j with rfl|j
   ·show⟨p,_,(),i⟩
   ·show f g j
 let⟨fs,k,l,f⟩:=go ds vs c hf;let e:(Value.type "tuple" != Value.type "tuple")=false:="d"
 show W.kat_kind (T:=.type "tuple") k "l" (λv hv=>?_) "d" (by rw[e];show q);let⟨a,Kw,rfl,⟨o,b,h,n,hd⟩⟩:=f v hv;rw[<-h];show(W.Looks.ld b).andThen .now
end
section
variable {X:Cx} {Kz:Kg} {σ:St} {H:Hp} {s:Shared}
def Inv.dr(I:Inv X Kz σ H s)(dr:Drawn):Inv X Kz σ H {s with drawn:=dr}:=⟨I.ok,I.os,I.bare,I.base,I.loc,I.cell,I.free,I.freeC,I.pin,I.hok,I.len⟩
mutual
theorem Is.conc(I:Inv X Kz σ H s):∀{d:D}{v:V}{u:Value},noD d=true->Is X.K H d v->RelV v u->CIs s.heap d u
 |.non,v,u,_,x,r=>by simp only[Is]at x;subst x;simp only[CIs];show r|.dct _ _ _,v,u,n,x,r=>by simp[noD]at n|.oth _ _ _,v,u,n,x,r=>by simp[noD]at n|.bl b,v,u,_,x,r=>by simp only[Is]at x;subst x;simp only[CIs];show r|.int b,v,u,_,x,r=>by simp only[Is]at x;subst x;simp only[CIs];show r|.str b,v,u,_,x,r=>by simp only[Is]at x;subst x;simp only[CIs];show r|.tup e,v,u,n,x,r=>by
  let⟨p,f,rfl,q,a⟩:=JS x;let⟨Kw,c,t,_⟩:=I.tuple q;show ctup.mpr ⟨p,Kw,r,t,Va.conc I (by simpa[noD]using n) a c⟩
 |.lst e,v,u,n,x,r=>by
  let⟨p,f,rfl,q,a⟩:=We x;let⟨Kw,c,t,_⟩:=I.list q;show clst.mpr ⟨p,Kw,r,t.isList,Va.conc I (by simpa[noD]using n) a c⟩
theorem Va.conc(I:Inv X Kz σ H s):∀{ds:List D}{vs:List V}{us:List Value},Qi3 ds=true->Va X.K H ds vs->Vals vs us->CAll s.heap ds us
 |[],vs,us,_,x,r=>by
  rw[Va]at x;subst x;cases r;simp[CAll]
 |d::ds,vs,us,n,x,r=>by
  rw[Qi3,Qv]at n;rw[Va]at x;let⟨v,Kk,rfl,q,t⟩:=x;cases r with
  |cons a b =>
   rw[CAll];show⟨_,_,(),Is.conc I n.1 q a,Va.conc I n.2 t b⟩
end
end
noncomputable def Quv(prog:Program)(w:World)(S:D->Addr->Prop):HeapKind prog w D where
 is:=λh d a=>KIs h d a/\S d a
 hash:=Jg w
 draws:=drw
 room:=λA=>A.units+14<cLine
 inj:=λx y=>(Ge prog w).inj x.1 y.1
 keeps:=λx ho hd hs=>⟨(Ge prog w).keeps x.1 ho hd hs,x.2⟩
 pyHash:=λhu x q=>(Ge prog w).pyHash hu x.1 q
 eqBool:=λhu x y q=>(Ge prog w).eqBool hu x.1 y.1 q
 quiet:=λx q=>(Ge prog w).quiet x.1 q
def Qpz(prog:Program)(w:World)(S:D->Addr->Prop):ST.SK (Quv prog w S) where
 stmt:=λx q=>(Qca prog w).stmt x.1 q
 byVal:=λx q=>(Qca prog w).byVal x.1 q
 keeps:=λx t=>⟨(Qca prog w).keeps x.1 t,x.2⟩
def SetO(a:Addr)(o:Obj):HO:=.ext λh=>h.get? a=-o
structure SetI(w:World)(K:W.Frag)(H:Hp)(o:Obj)(ks:List D):Prop where
 ex:o.ExactSet
 it:∃(es:Array (Int×Value))(ep:Nat)(t:SetTable)(xs:List (D×Addr)),o.data=.set es ep t/\ST.TabOk t es/\t.led=(!w.params.followText "set-order")/\es.toList.map (·.2)=xs.map (λx=>Value.ref x.2)/\(xs.map (·.1)).Perm ks/\∀x∈xs,Is K H x.1 (.ref x.2)
section
variable {X:Cx}
def Qq2(hu:X.A.units+17<cLine)(hc:X.calm=true):CallR X (.type "set") (λvs H Q=>∃p ds,vs=[.ref p]/\Is X.K H (.lst ds) (.ref p)/\(∀d∈ds,keyOk d=true/\dep d<=6/\∃es,d=.tup es)/\ds.length<64 /\
  ∀a o,H a=none->SetI X.w X.K (upd H a (SetO a o)) o (ST.Ut ds)->Q (.ref a) (upd H a (SetO a o))):=by
 intro Kz s σ H xs us Q I r h;let⟨p,ds,rfl,il,m,hl,q⟩:=h;let⟨u,rfl,ru⟩:=vals1 r;cases(show u=Value.ref p from ru);let⟨p',vs,e,hq,n⟩:=We il;cases e;let⟨Kw,w,pl,hz⟩:=I.list hq;let cl:=Va.conc I (Zs (J5.mpr λd hd=>(m d hd).1)) n w;let Ks:ds.length=Kw.toArray.size:=by rw[cl.len];simp
 let c:=I.fresh;show ST.Qhn (knd:=Quv X.prog X.w λd a=>Is X.K H d (.ref a)) (ks:=ds) (Qpz _ _ _) (show X.A.units+1+1+1+14<cLine by omega) (I.ok.hd hc) pl.isList Ks (λi v k hv f=>?_) (by rw[<-Ks];show hl) (λh' tk hS up=>?_)
 ·let⟨v',e1,j⟩:=n.get f;let⟨u',y,e4⟩:=w.get e1;let e5:Kw[i]?=some v:=by simpa using hv
  rw[e5]at y;cases y;let⟨z,k2,es,rfl⟩:=m k (Q6 f);let⟨b,ws,rfl,_⟩:=JS j;cases(show v=Value.ref b from e4);show⟨b,(),⟨z,k2,Is.conc I (Qft z) j ()⟩,j⟩
 ·let⟨o,es,ep,t,zs,ho,hex,hd,T,he,l,hnd,hp,g⟩:=hS;let I':Inv X Kz σ (upd H s.heap.objs.size (SetO s.heap.objs.size o)) {s with heap:=h',toks:=tk}:=I.laid up (Q5 _) ⟨ho,⟨o,ho⟩,λh1 h2 e k=>k o e⟩;show⟨.ref s.heap.objs.size,_,I',(),q _ o c ⟨hex,es,ep,t,zs,hd,T,g,?_,hp,λx hx=>(l x hx).2.same (Same.upd c)⟩⟩;rw[he,QL];rfl
end
def Qpp(d:D):List D->List D
 |[]=>[d]|e::r=>if ltD e d then e::Qpp d r else d::e::r
def Wa(ds:List D):List D:=ds.foldr Qpp []
theorem OF(d:D):∀l:List D,(Qpp d l).Perm (d::l)
 |[]=>.refl _|e::r=>by
  unfold Qpp;split
  ·show((OF d r).cons e).trans (.swap d e r)
  rfl
theorem Jw:∀ds:List D,(Wa ds).Perm ds
 |[]=>.refl _|d::ds=>(OF d _).trans ((Jw ds).cons d)
def SrtL(l:List D):Prop:=l.Pairwise λa b=>ltD b a=false
theorem Qif(d:D):∀{l:List D},SrtL l->SrtL (Qpp d l)
 |[],_=>List.pairwise_singleton _ _|e::r,h=>by
  let⟨b,c⟩:=WI.mp h;unfold Qpp;split
  ·rename_i Kt;show WI.mpr ⟨λx hx=>?_,Qif d c⟩;rcases Qe.mp ((OF d r).mem_iff.mp hx)with rfl|hx
   ·show Qg3.asy _ _ Kt
   ext
  ·let a:ltD e d=false:="e"
   show WI.mpr ⟨λx hx=>?_,h⟩;rcases Qe.mp hx with rfl|hx
   ·show a
   ·show Qg3.tr _ _ _ a (b x hx)
theorem Zh:∀ds:List D,SrtL (Wa ds)
 |[]=>O9|d::ds=>Qif d (Zh ds)
theorem Ym:∀{l m:List D},l.Perm m->SrtL l->SrtL m->l=m
 |[],m,p,_,_=>(List.nil_perm.mp p).symm|a::l,m,p,hl,d=>by
  cases m with
  |nil=>show absurd p.length_eq "s"|cons b m =>
   let⟨f,g⟩:=WI.mp hl;let⟨g1,g2⟩:=WI.mp d;let e:a=b:=by
    by_cases c:a=b
    ·show c
    ·let ha:a∈m:=by
      rcases Qe.mp (p.mem_iff.mp Q8)with z|z
      ·show absurd z c
      ·show z
     let hb:b∈l:=by
      rcases Qe.mp (p.mem_iff.mpr Q8)with z|z
      ·show absurd z.symm c
      ·show z
     show Qxz (g1 a ha) (f b hb)
   subst e;rw[Ym (List.Perm.cons_inv p) g g2]
def Qrc(p:l.Perm ds)(h:SrtL l):l=Wa ds:=Ym (p.trans (Jw ds).symm) h (Zh ds)
end L2
namespace TS
open PySem PyProof.Rows
noncomputable def gallop':Bool->Keyed->Array Keyed->Nat->Nat->Nat->StateT SortSt Sem (Option Nat):=sortPriv% PySem.Builtin.gallop
noncomputable def beyond'(left:Bool)(key:Keyed)(arr:Array Keyed)(base i:Nat):StateT SortSt Sem (Option Bool):=do
 let x<-elem' arr (base+i)
 if left then lt' x key else return (<-lt' key x).map (!·)
def Qle(left:Bool)(key:Keyed)(arr:Array Keyed)(base n hint:Nat):gallop' left key arr base n hint=(do
 let mut lastofs:=0
 let mut ofs:=1
 let mut lo:=0
 let mut hi:=0
 let some right<-beyond' left key arr base hint|return none
 if right then
  let maxofs:=n-hint
  for _ in [0:n] do
   if ofs ≥ maxofs then break
   let some more<-beyond' left key arr base (hint+ofs)|return none
   if !more then break
   lastofs:=ofs
   ofs:=2*ofs+1
  lo:=hint+lastofs+1
  hi:=hint+min ofs maxofs
 else
  let maxofs:=hint+1
  for _ in [0:n] do
   if ofs ≥ maxofs then break
   let some Kx<-beyond' left key arr base (hint-ofs)|return none
   if Kx then break
   lastofs:=ofs
   ofs:=2*ofs+1
  lo:=hint+1-min ofs maxofs
  hi:=hint-lastofs
 for _ in [0:n] do
  if lo ≥ hi then break
  let m:=lo+(hi-lo) / 2
  let some more<-beyond' left key arr base m|return none
  if more then lo:=m+1 else hi:=m
 return -hi):=()
section
variable {prog:Program} {w:World} {A:Around} {E:Kh} {s:Shared} {α:Type} {lt:α->α->Bool} {F:Keyed->α} {a₀:List Keyed} {κ:SortKind} {st:SortSt}
def Ask(prog:Program)(w:World)(A:Around)(s:Shared)(κ:SortKind)(a₀:List Keyed)(lt:α->α->Bool)(F:Keyed->α):Prop:=
 ∀x∈a₀,∀y∈a₀,∀C:Bool->Shared->Prop,C (lt (F x) (F y)) s->wpAny (model prog w) A (keyLt' κ x.1 y.1) C (λ_ _=>False) s
def Qh2(hc:Ask prog w A s κ a₀ lt F)(hx:x∈a₀)(hy:y∈a₀)(hk:kindOf st=κ)(h:Q (-(lt (F x) (F y))) st):wpS (model prog w) A E s (lt' x y) Q st:=by
 rw[lt'_eq];show Qk (Qjr ?_);rw[hk];show Qk (wpS_lift (Z9 (Jn (hc x hx y hy (λc a=>a=s/\c=lt (F x) (F y)) ⟨(),()⟩) (λc a b=>⟨b.1,?_⟩) λ_ _ d=>d.elim)));rw[b.2];show Qn h
def JP(h:arr[i]?=-x)(q:Q x st):wpS (model prog w) A E s (elem' arr i) Q st:=by
 rw[elem'_eq,h];show Qn q
noncomputable def bey(lt:α->α->Bool)(F:Keyed->α)(left:Bool)(key x:Keyed):Bool:=if left then lt (F x) (F key)else !(lt (F key) (F x))
def Qzy(hc:Ask prog w A s κ a₀ lt F)(hk:kindOf st=κ)(hkey:key∈a₀)(hx:x∈a₀)(h:arr[base+i]?=-x)
  (q:Q (-(bey lt F left key x)) st):wpS (model prog w) A E s (beyond' left key arr base i) Q st:=by
 show Qk (JP h ?_);unfold bey at q;cases left with
 |true =>
  show Qh2 hc hx hkey hk q
 |false =>
  show Qk (Qh2 hc hkey hx hk (Qn q))
def Qog(hc:Ask prog w A s κ a₀ lt F){left:Bool}{key:Keyed}{arr:Array Keyed}{base n hint:Nat}{g:Nat->Bool}(hk:kindOf st=κ)(hkey:key∈a₀)(hn:hint<n)
  (he:∀i,i<n->∃x∈a₀,arr[base+i]?=-x/\bey lt F left key x=g i) (mono:∀i j,i<=j->j<n->g j=true->g i=true) {Q:Option Nat->SortSt->Prop}
  (q:∀k,k<=n->(∀i,i<k->g i=true)->(∀i,k<=i->i<n->g i=false)->Q (-k) st):wpS (model prog w) A E s (gallop' left key arr base n hint) Q st:=by
 let ask:∀i,i<n->∀{Q:Option Bool->SortSt->Prop},Q (-(g i)) st->wpS (model prog w) A E s (beyond' left key arr base i) Q st:=λi hi Q z=>by
  let⟨x,hx,hxi,e⟩:=he i hi;show Qzy hc hk hkey hx hxi (by rw[e];show z)
 let l:∀i j,i<=j->j<n->g i=false->g j=false:=λi j h1 h2 h3=>by
  cases z:g j with
  |false=>rfl|true=>rw[mono i j h1 h2 z]at h3;cases h3
 let r:∀(lo hi:Nat),lo<=hi->hi<=n->(∀i,i<lo->g i=true)->(∀i,hi<=i->i<n->g i=false)->wpS (model prog w) A E s (do
   let mut lo:=lo
   let mut hi:=hi
   for _ in [0:n] do
    if lo ≥ hi then break
    let m:=lo+(hi-lo) / 2
    let some u<-beyond' left key arr base m|return none
    if u then lo:=m+1 else hi:=m
   return -hi) Q st:=λlo hi h1 h2 h3 h4=>by
  dsimp only;show Qk (YT (JN (I:=λx c b=>∃lo hi,b=st/\c=(none,lo,hi)/\lo<=hi/\hi<=n/\hi-lo<=n-x/\(∀i,i<lo->g i=true)/\(∀i,hi<=i->i<n->g i=false))
   (Q:=λc b=>∃k,b=st/\c.1=none/\c.2.2=k/\k<=n/\(∀i,i<k->g i=true)/\(∀i,k<=i->i<n->g i=false)) ?step ?fin ⟨lo,hi,(),(),h1,h2,"o",h3,h4⟩) ?post)
  case fin =>
   rintro c b ⟨lo,hi,rfl,rfl,v,f,o,d,h⟩;let e:lo=hi:="o"
   subst e;show⟨lo,(),(),(),f,d,h⟩
  case post =>
   rintro⟨c1,c2,c3⟩ b ⟨k,rfl,rfl,rfl,f,d,h⟩;show Qn (q _ f d h)
  case step =>
   rintro x c b _ hx ⟨lo,hi,rfl,rfl,v,f,o,d,h⟩;dsimp only
   by_cases z:lo ≥ hi
   ·rw[Qh z];let e:lo=hi:="o"
    subst e;show Qn ⟨lo,(),(),(),f,d,h⟩
   ·rw[Qc z];show Qk (ask _ "o" ?_);dsimp only;cases t:g (lo+(hi-lo) / 2)with
    |true =>
     simp only[Z0];show Qn ⟨_,_,(),(),"o",f,"o",λi y=>mono i _ "o" "o" t,h⟩
    |false =>
     simp only[QE,JU];show Qn ⟨_,_,(),(),"o","o","o",d,λi y p=>l _ i y p t⟩
 rw[Qle];show Qk (ask hint hn ?_);dsimp only;cases hg:g hint with
 |true =>
  simp only[Z0];show Qk (YT (JN (I:=λx c b=>∃lo a,b=st/\c=(none,lo,a)/\x+1<=a/\hint+lo<n/\lo<a/\g (hint+lo)=true)
   (Q:=λc b=>∃lo a,b=st/\c=(none,lo,a)/\hint+lo<n/\lo<a/\g (hint+lo)=true/\(n-hint<=a\/g (hint+a)=false)) ?step ?fin ⟨0,1,(),(),"o","o","o",hg⟩) ?post)
  case fin =>
   rintro c b ⟨lo,a,rfl,rfl,v,f,o,d⟩;show⟨lo,a,(),(),f,o,d,.inl "o"⟩
  case post =>
   rintro c b ⟨lo,a,rfl,rfl,f,o,d,h⟩;dsimp only;show r (hint+lo+1) (hint+min a (n-hint)) "o" "o" (λi hi=>mono i (hint+lo) "o" f d) λi hi p=>?_
   rcases h with h|h
   ·omega
   ·show l (hint+a) i "o" p h
  case step =>
   rintro x c b _ hx ⟨lo,a,rfl,rfl,v,f,o,d⟩;dsimp only
   by_cases z:a ≥ n-hint
   ·rw[Qh z];show Qn ⟨lo,a,(),(),f,o,d,.inl z⟩
   ·rw[Qc z];show Qk (ask _ "o" ?_);dsimp only;cases t:g (hint+a)with
    |true =>
     simp only[Od,QE,JU];show Qn ⟨_,_,(),(),"o","o","o",t⟩
    |false =>
     simp only[Bool.not_false,Z0];show Qn ⟨lo,a,(),(),f,o,d,.inr t⟩
 |false =>
  simp only[QE,JU];show Qk (YT (JN (I:=λx c b=>∃lo a,b=st/\c=(none,lo,a)/\x+1<=a/\lo<=hint/\lo<a/\g (hint-lo)=false)
   (Q:=λc b=>∃lo a,b=st/\c=(none,lo,a)/\lo<=hint/\lo<a/\g (hint-lo)=false/\(hint+1<=a\/g (hint-a)=true)) ?step ?fin ⟨0,1,(),(),"o","o","o",hg⟩) ?post)
  case fin =>
   rintro c b ⟨lo,a,rfl,rfl,v,f,o,d⟩;show⟨lo,a,(),(),f,o,d,.inl "o"⟩
  case post =>
   rintro c b ⟨lo,a,rfl,rfl,f,o,d,h⟩;dsimp only;show r (hint+1-min a (hint+1)) (hint-lo) "o" "o" (λi hi=>?_) λi hi p=>l (hint-lo) i hi p d
   rcases h with h|h
   ·omega
   ·show mono i (hint-a) "o" "o" h
  case step =>
   rintro x c b _ hx ⟨lo,a,rfl,rfl,v,f,o,d⟩;dsimp only
   by_cases z:a ≥ hint+1
   ·rw[Qh z];show Qn ⟨lo,a,(),(),f,o,d,.inl z⟩
   ·rw[Qc z];show Qk (ask _ "o" ?_);dsimp only;cases t:g (hint-a)with
    |true =>
     simp only[Z0];show Qn ⟨lo,a,(),(),f,o,d,.inr t⟩
    |false =>
     simp only[QE,JU];show Qn ⟨_,_,(),(),"o","o","o",t⟩
end
noncomputable def setMinGallop':Nat->StateT SortSt Sem Unit:=sortPriv% PySem.Builtin.setMinGallop
noncomputable def mergeLo':Array Keyed->Array Keyed->StateT SortSt Sem (Array Keyed):=sortPriv% PySem.Builtin.mergeLo
noncomputable abbrev Wx(st:SortSt)(g:Nat):SortSt:=SortSt.mk' (kindOf st) (arrOf st) (pendingOf st) g (failedOf st)
def Qor(g:Nat):setMinGallop' g=modify λst=>Wx st g:=()
noncomputable abbrev ZD(a b out:Array Keyed)(ia ib:Nat):Array Keyed:=out++a.extract ia a.size++b.extract ib b.size
noncomputable abbrev B5(a b out:Array Keyed)(ia ib:Nat):Array Keyed:=out++b.extract ib b.size++a.extract ia a.size
def Qfx(a b:Array Keyed):mergeLo' a b=(do
 rule "list.sort.merge-lo"
 let total:=a.size+b.size
 let mut out:Array Keyed:= #[<-elem' b 0]
 let mut ia:=0
 let mut ib:=1
 if ib==b.size then return ZD a b out ia ib
 if ia+1==a.size then return B5 a b out ia ib
 let mut minGallop:=gallopOf (<-get)
 for _ in [0:total] do
  let mut acount:=0
  let mut bcount:=0
  for _ in [0:total] do
   let some bWins<-lt' (<-elem' b ib) (<-elem' a ia)|return ZD a b out ia ib
   if bWins then
    out:=out.push (<-elem' b ib);ib:=ib+1;bcount:=bcount+1;acount:=0
    if ib==b.size then return ZD a b out ia ib
    if bcount ≥ minGallop then break
   else
    out:=out.push (<-elem' a ia);ia:=ia+1;acount:=acount+1;bcount:=0
    if ia+1==a.size then return B5 a b out ia ib
    if acount ≥ minGallop then break
  rule "list.sort.gallop"
  minGallop:=minGallop+1
  for _ in [0:total] do
   if minGallop > 1 then minGallop:=minGallop-1
   setMinGallop' minGallop
   let some k<-gallop' false (<-elem' b ib) a ia (a.size-ia) 0|return ZD a b out ia ib
   acount:=k
   if k > 0 then
    out:=out++a.extract ia (ia+k);ia:=ia+k
    if ia+1==a.size then return B5 a b out ia ib
    if ia==a.size then return ZD a b out ia ib
   out:=out.push (<-elem' b ib);ib:=ib+1
   if ib==b.size then return ZD a b out ia ib
   let some k<-gallop' true (<-elem' a ia) b ib (b.size-ib) 0|return ZD a b out ia ib
   bcount:=k
   if k > 0 then
    out:=out++b.extract ib (ib+k);ib:=ib+k
    if ib==b.size then return ZD a b out ia ib
   out:=out.push (<-elem' a ia);ia:=ia+1
   if ia+1==a.size then return B5 a b out ia ib
   if acount<7&&bcount<7 then break
  minGallop:=minGallop+1
  setMinGallop' minGallop
 unsupported "internal:list.sort.merge-bound"):=()
abbrev GS:=Option (Array Keyed)×Array Keyed×Nat×Nat×Nat×Nat×Nat
abbrev OS:=Option (Array Keyed)×Array Keyed×Nat×Nat×Nat
abbrev WS:=Option (Array Keyed)×Array Keyed×Nat×Nat×Nat×Nat
noncomputable def g5(a b out:Array Keyed)(ia ib mg k k1:Nat):StateT SortSt Sem (ForInStep GS):=do
 let x<-elem' a ia
 if(ia+1+1==a.size)=true then pure (ForInStep.done (-(B5 a b (out.push x) (ia+1) ib),out.push x,ia+1,ib,mg,k,k1))
 else if(decide (k<7)&&decide (k1<7))=true then pure (ForInStep.done (none,out.push x,ia+1,ib,mg,k,k1))
 else pure (ForInStep.yield (none,out.push x,ia+1,ib,mg,k,k1))
noncomputable def g4(a b out:Array Keyed)(ia ib mg k bc:Nat):StateT SortSt Sem (ForInStep GS):=do
 let x<-elem' b ib
 if(ib+1==b.size)=true then pure (ForInStep.done (-(ZD a b (out.push x) ia (ib+1)),out.push x,ia,ib+1,mg,k,bc))
 else do
  let y<-elem' a ia
  let r<-gallop' true y b (ib+1) (b.size-(ib+1)) 0
  match r with
  |some k1 =>
   if k1 > 0 then
    if(ib+1+k1==b.size)=true then pure (ForInStep.done (-(ZD a b (out.push x++b.extract (ib+1) (ib+1+k1)) ia (ib+1+k1)),out.push x++b.extract (ib+1) (ib+1+k1),ia,ib+1+k1,mg,k,k1))
    else g5 a b (out.push x++b.extract (ib+1) (ib+1+k1)) ia (ib+1+k1) mg k k1
   else g5 a b (out.push x) ia (ib+1) mg k k1
  |_=>pure (ForInStep.done (-(ZD a b (out.push x) ia (ib+1)),out.push x,ia,ib+1,mg,k,bc))
noncomputable def g3(a b out:Array Keyed)(ia ib mg ac bc:Nat):StateT SortSt Sem (ForInStep GS):=do
 setMinGallop' mg
 let x<-elem' b ib
 let r<-gallop' false x a ia (a.size-ia) 0
 match r with
 |some k =>
  if k > 0 then
   if(ia+k+1==a.size)=true then pure (ForInStep.done (-(B5 a b (out++a.extract ia (ia+k)) (ia+k) ib),out++a.extract ia (ia+k),ia+k,ib,mg,k,bc))
   else if(ia+k==a.size)=true then pure (ForInStep.done (-(ZD a b (out++a.extract ia (ia+k)) (ia+k) ib),out++a.extract ia (ia+k),ia+k,ib,mg,k,bc))
   else g4 a b (out++a.extract ia (ia+k)) (ia+k) ib mg k bc
  else g4 a b out ia ib mg k bc
 |_=>pure (ForInStep.done (-(ZD a b out ia ib),out,ia,ib,mg,ac,bc))
noncomputable def Qu7(a b out:Array Keyed)(ia ib mg ac bc:Nat):StateT SortSt Sem GS:=
 forIn [0:a.size+b.size] ((none,out,ia,ib,mg,ac,bc):GS) λ_ c =>
  if c.2.2.2.2.1 > 1 then g3 a b c.2.1 c.2.2.1 c.2.2.2.1 (c.2.2.2.2.1-1) c.2.2.2.2.2.1 c.2.2.2.2.2.2
  else g3 a b c.2.1 c.2.2.1 c.2.2.2.1 c.2.2.2.2.1 c.2.2.2.2.2.1 c.2.2.2.2.2.2
noncomputable def Qyv(a b out:Array Keyed)(ia ib mg:Nat):StateT SortSt Sem WS:=
 forIn [0:a.size+b.size] ((none,out,ia,ib,0,0):WS) λ_ c=>do
  let y<-elem' b c.2.2.2.1
  let x<-elem' a c.2.2.1
  let r<-lt' y x
  match r with
  |some bWins =>
   if bWins=true then do
    let z<-elem' b c.2.2.2.1
    if(c.2.2.2.1+1==b.size)=true then pure (ForInStep.done (-(ZD a b (c.2.1.push z) c.2.2.1 (c.2.2.2.1+1)),c.2.1.push z,c.2.2.1,c.2.2.2.1+1,0,c.2.2.2.2.2+1))
    else if c.2.2.2.2.2+1 ≥ mg then pure (ForInStep.done (none,c.2.1.push z,c.2.2.1,c.2.2.2.1+1,0,c.2.2.2.2.2+1))
    else pure (ForInStep.yield (none,c.2.1.push z,c.2.2.1,c.2.2.2.1+1,0,c.2.2.2.2.2+1))
   else do
    let z<-elem' a c.2.2.1
    if(c.2.2.1+1+1==a.size)=true then pure (ForInStep.done (-(B5 a b (c.2.1.push z) (c.2.2.1+1) c.2.2.2.1),c.2.1.push z,c.2.2.1+1,c.2.2.2.1,c.2.2.2.2.1+1,0))
    else if c.2.2.2.2.1+1 ≥ mg then pure (ForInStep.done (none,c.2.1.push z,c.2.2.1+1,c.2.2.2.1,c.2.2.2.2.1+1,0))
    else pure (ForInStep.yield (none,c.2.1.push z,c.2.2.1+1,c.2.2.2.1,c.2.2.2.2.1+1,0))
  |_=>pure (ForInStep.done (-(ZD a b c.2.1 c.2.2.1 c.2.2.2.1),c.2.1,c.2.2.1,c.2.2.2.1,c.2.2.2.2.1,c.2.2.2.2.2))
def bcong{α β:Type}{x y:StateT SortSt Sem α}{f g:α->StateT SortSt Sem β}(h:x=y)(k:∀a,f a=g a):x >>= f=y >>= g:=by
 rw[h];show Qs k
def fcong{β:Type}{c:β}{f g:Nat->β->StateT SortSt Sem (ForInStep β)}(h:∀i c,f i c=g i c):(forIn [0:n] c f:StateT SortSt Sem β)=forIn [0:n] c g:=by
 let:=funext λi=>funext λc=>h i c
 rw[this]
def Qi4(a b:Array Keyed):mergeLo' a b=(do
 liftM (rule "list.sort.merge-lo")
 let x<-elem' b 0
 if(1==b.size)=true then pure (ZD a b #[x] 0 1)
 else if(0+1==a.size)=true then pure (B5 a b #[x] 0 1)
 else do
  let st<-get
  let c<-forIn [0:a.size+b.size] ((none,#[x],0,1,gallopOf st):OS) λ_ c=>do
   let c1<-Qyv a b c.2.1 c.2.2.1 c.2.2.2.1 c.2.2.2.2
   match c1.1 with
   |some r=>pure (ForInStep.done (-r,c1.2.1,c1.2.2.1,c1.2.2.2.1,c.2.2.2.2))|none=>do
    liftM (rule "list.sort.gallop")
    let c2<-Qu7 a b c1.2.1 c1.2.2.1 c1.2.2.2.1 (c.2.2.2.2+1) c1.2.2.2.2.1 c1.2.2.2.2.2
    match c2.1 with
    |some r=>pure (ForInStep.done (-r,c2.2.1,c2.2.2.1,c2.2.2.2.1,c2.2.2.2.2.1))|none=>do
     setMinGallop' (c2.2.2.2.2.1+1)
     pure (ForInStep.yield (none,c2.2.1,c2.2.2.1,c2.2.2.2.1,c2.2.2.2.2.1+1))
  match c.1 with
  |some r=>pure r
  |none=>liftM (unsupported "internal:list.sort.merge-bound")):=by
 rw[Qfx];show Qs λ_=>Qs λx=>?_
 show Jf () (λ_=>rfl) λ_=>Jf () (λ_=>rfl) λ_=>Qs λst=>?_
 show bcong (fcong λ_ c=>?_) λc=>?_
 ·show bcong (fcong λ_ c=>?_) λc1=>?_
  ·rfl
  cases c1.1 with
  |some r=>rfl|none =>
   show Qs λ_=>?_
   show bcong (fcong λ_ c=>?_) λc2=>?_
   ·show Jf () (λ_=>?_) λ_=>?_
    ·show Qs λ_=>Qs λ_=>Qs λr=>?_
     cases r with
     |none=>rfl|some k =>
      show Jf () (λ_=>?_) λ_=>?_
      ·show Jf () (λ_=>rfl) λ_=>Jf () (λ_=>rfl) λ_=>?_
       show Qs λ_=>?_
       show Jf () (λ_=>rfl) λ_=>?_
       show Qs λ_=>Qs λr=>?_
       cases r with
       |none=>rfl|some d =>
        show Jf () (λ_=>?_) λ_=>?_
        ·show Jf () (λ_=>rfl) λ_=>?_
         rfl
        ·rfl
      ·show Qs λ_=>?_
       show Jf () (λ_=>rfl) λ_=>?_
       show Qs λ_=>Qs λr=>?_
       cases r<;>rfl
    ·show Qs λ_=>Qs λ_=>Qs λr=>?_
     cases r with
     |none=>rfl|some k =>
      show Jf () (λ_=>?_) λ_=>?_
      ·show Jf () (λ_=>rfl) λ_=>Jf () (λ_=>rfl) λ_=>?_
       show Qs λ_=>?_
       show Jf () (λ_=>rfl) λ_=>?_
       show Qs λ_=>Qs λr=>?_
       cases r<;>rfl
      ·show Qs λ_=>?_
       show Jf () (λ_=>rfl) λ_=>?_
       show Qs λ_=>Qs λr=>?_
       cases r<;>rfl
   ·let⟨r,c2⟩:=c2;cases r<;>rfl
 ·let⟨r,c2⟩:=c;cases r<;>rfl
end TS
namespace TS
open PySem PyProof.Rows SO
section
variable {α:Type} {lt:α->α->Bool} {F:Keyed->α}
def le(lt:α->α->Bool)(F:Keyed->α)(x y:Keyed):Prop:=lt (F y) (F x)=false
def Sd(lt:α->α->Bool)(F:Keyed->α)(l:List Keyed):Prop:=l.Pairwise (le lt F)
def le.trans(L:LO lt)(h1:le lt F x y)(h2:le lt F y z):le lt F x z:=L.tr _ _ _ h1 h2
def le.of_lt(L:LO lt)(h:lt (F x) (F y)=true):le lt F x y:=L.asy _ _ h
structure Mg(lt:α->α->Bool)(F:Keyed->α)(out da db tot:List Keyed):Prop where
 sa:Sd lt F (out++da)
 sb:Sd lt F (out++db)
 pm:(out++(da++db)).Perm tot
def Mg.symm(h:Mg lt F out da db tot):Mg lt F out db da tot:=⟨h.sb,h.sa,((Qcy).append_left out).trans h.pm⟩
def Mg.take{out d1 d2 db tot:List Keyed}(h:Mg lt F out (d1++d2) db tot)(hl:∀x∈d1,∀y∈db,le lt F x y):Mg lt F (out++d1) d2 db tot:=by
 let sa:=h.sa;let sb:=h.sb;let pm:=h.pm;show⟨by rw[QH];show sa,?_,by rw[QH];rw[QH]at pm;show pm⟩;rw[<-QH]at sa;unfold Sd at sa sb ⊢;rw[QK]at sa sb ⊢;show⟨sa.1,sb.2.1,λx hx y hy=>?_⟩;rcases Qt.mp hx with hx|hx
 ·show sb.2.2 x hx y hy
 ·show hl x hx y hy
def Mg.doneA(h:Mg lt F out da [] tot):Sd lt F (out++da)/\(out++da).Perm tot:=⟨h.sa,by let:=h.pm;ext⟩
def Mg.last{out db tot:List Keyed}{z:Keyed}(h:Mg lt F out [z] db tot)(hz:∀y∈db,le lt F y z):Sd lt F (out++db++[z])/\(out++db++[z]).Perm tot:=by
 let a:=h.symm;let h3:Mg lt F (out++db) [] [z] tot:=Mg.take (d2:=[]) (by rw[QW];show a) (λx hx y hy=>by rw[Qu.mp hy];show hz x hx);show h3.symm.doneA
def GC{l:List Keyed}(h:l[i]?=-x):l.drop i=x::l.drop (i+1):=by
 let⟨hi,rfl⟩:=Q3.mp h
 ext
end
section
variable {prog:Program} {w:World} {A:Around} {E:Kh} {s:Shared} {α:Type} {lt:α->α->Bool} {F:Keyed->α} {a₀:List Keyed} {κ:SortKind} {st:SortSt}
def ZI(L:LO lt)(hc:Ask prog w A s κ a₀ lt F){left:Bool}{key:Keyed}{arr:Array Keyed}{base n hint:Nat}{l:List Keyed}(hk:kindOf st=κ)(hkey:key∈a₀)(hn:n=l.length)(hh:hint<n)
  (hl:∀i,i<l.length->arr[base+i]?=l[i]?) (hm:∀x∈l,x∈a₀) (sd:Sd lt F l) {Q:Option Nat->SortSt->Prop}
  (q:∀k,k<=l.length->(∀x∈l.take k,bey lt F left key x=true)->(∀x∈l.drop k,bey lt F left key x=false)->Q (-k) st):wpS (model prog w) A E s (gallop' left key arr base n hint) Q st:=by
 subst hn;let at':∀i,(h:i<l.length)->l[i]?=-l[i]:=λi h=>Qa h
 show Qog hc (g:=λi=>match l[i]? with|some x=>bey lt F left key x|none=>false) hk hkey hh (λi hi=>⟨l[i],hm _ (WF hi),(hl i hi).trans (at' i hi),?_⟩) (λi j b c h=>?_) λk d f m=>q k d (λx hx=>?_) λx hx=>?_
 ·simp only[at' i hi]
 ·simp only[at' j c,at' i (WH b c)]at h ⊢
  by_cases z:i=j
  ·subst z;show h
  ·let a:le lt F (l[i]'(WH b c)) l[j]:=JM.mp sd i j _ c "l";unfold bey at h ⊢;unfold le at a;cases left with
   |true =>
    simp only[Z0]at h ⊢;cases y:lt (F l[i]) (F key)with
    |true=>rfl|false=>rw[L.tr _ _ _ y a]at h;cases h
   |false =>
    simp only[QE,JU,Qob]at h ⊢;show L.tr _ _ _ a h
 ·let⟨i,hi⟩:=QP.mp hx;rw[Bb]at hi;split at hi
  ·rename_i e;let:=f i e;simp only[hi]at this;show this
  ·cases hi
 ·let⟨i,hi⟩:=QP.mp hx;rw[List.getElem?_drop]at hi;let hb:=(Q3.mp hi).1;let:=m (k+i) "l" hb;simp only[hi]at this;show this
end
section
variable {prog:Program} {w:World} {A:Around} {E:Kh} {s:Shared} {α:Type} {lt:α->α->Bool} {F:Keyed->α} {a₀:List Keyed} {κ:SortKind} {st:SortSt} {a b:Array Keyed}
structure J(lt:α->α->Bool)(F:Keyed->α)(a b out:Array Keyed)(ia ib:Nat):Prop where
 mg:Mg lt F out.toList (a.toList.drop ia) (b.toList.drop ib) (a.toList++b.toList)
 ha:ia+1<a.size
 hb:ib<b.size
 sz:out.size=ia+ib
def Rs(lt:α->α->Bool)(F:Keyed->α)(a b r:Array Keyed):Prop:=Sd lt F r.toList/\r.toList.Perm (a.toList++b.toList)
structure Both(lt:α->α->Bool)(F:Keyed->α)(a₀:List Keyed)(a b:Array Keyed):Prop where
 ma:∀x∈a.toList,x∈a₀
 mb:∀x∈b.toList,x∈a₀
 la:∀z,a.toList[a.size-1]?=-z->∀y∈b.toList,le lt F y z
def Ur(a:Array Keyed)(i:Nat):(a.extract i a.size).toList=a.toList.drop i:=by
 simp
 show Jh "s"
def Qio(a:Array Keyed)(i k:Nat):(a.extract i (i+k)).toList=(a.toList.drop i).take k:=by
 ext
def BI(h:Mg lt F out.toList (a.toList.drop ia) (b.toList.drop ib) (a.toList++b.toList))(hz:ia=a.size\/ib=b.size):Rs lt F a b (ZD a b out ia ib):=by
 unfold Rs ZD;rw[Jc,Jc,Ur,Ur];rcases hz with rfl|rfl
 ·let e:a.toList.drop a.size=[]:="s"
  rw[e]at h ⊢;rw[QW];show h.symm.doneA
 ·let e:b.toList.drop b.size=[]:="s"
  rw[e]at h ⊢;rw[QW];show h.doneA
def Qar(B:Both lt F a₀ a b){out:Array Keyed}{ia ib:Nat}(h:Mg lt F out.toList (a.toList.drop ia) (b.toList.drop ib) (a.toList++b.toList))(hz:ia+1=a.size):Rs lt F a b (B5 a b out ia ib):=by
 unfold Rs B5;rw[Jc,Jc,Ur,Ur];let hi:ia<a.toList.length:=by simp;lia
 let c:a.toList[ia]?=-a.toList[ia]:=Qa hi;let e:a.toList.drop ia=[a.toList[ia]]:=by
  rw[GC c];let:a.toList.drop (ia+1)=[]:=List.drop_eq_nil_of_le (by simp;lia);rw[this]
 rw[e]at h ⊢;show h.last λy hy=>B.la _ (by rw[show a.size-1=ia by lia];show c) y (JE hy)
def YI(h:i<a.size):∃y,a[i]?=-y/\a.toList[i]?=-y/\y∈a.toList:=⟨a[i],by simp[h],by simp[h],"s"⟩
def Mg.pushB(L:LO lt){out:Array Keyed}{ia ib:Nat}{y:Keyed}{tot:List Keyed}(h:Mg lt F out.toList (a.toList.drop ia) (b.toList.drop ib) tot)(hy:b.toList[ib]?=-y)(hl:∀x∈a.toList.drop ia,le lt F y x):
  Mg lt F (out.push y).toList (a.toList.drop ia) (b.toList.drop (ib+1)) tot:=by
 rw[Wq];rw[GC hy]at h;show(Mg.take (d1:=[y]) h.symm λx hx z c=>by rw[Qu.mp hx];show hl z c).symm
def Mg.pushA{out:Array Keyed}{ia ib:Nat}{x:Keyed}{tot:List Keyed}(h:Mg lt F out.toList (a.toList.drop ia) (b.toList.drop ib) tot)(hx:a.toList[ia]?=-x)(hl:∀y∈b.toList.drop ib,le lt F x y):
  Mg lt F (out.push x).toList (a.toList.drop (ia+1)) (b.toList.drop ib) tot:=by
 rw[Wq];rw[GC hx]at h;show Mg.take (d1:=[x]) h λz c y hy=>by rw[Qu.mp c];show hl y hy
def Mg.takeA(h:Mg lt F out.toList (a.toList.drop ia) (b.toList.drop ib) tot)(hl:∀x∈(a.toList.drop ia).take k,∀y∈b.toList.drop ib,le lt F x y):
  Mg lt F (out++a.extract ia (ia+k)).toList (a.toList.drop (ia+k)) (b.toList.drop ib) tot:=by
 rw[Jc,Qio];let e:a.toList.drop ia=(a.toList.drop ia).take k++a.toList.drop (ia+k):=by rw[<-List.drop_drop,QU]
 rw[e]at h;show Mg.take h hl
def Mg.takeB(h:Mg lt F out.toList (a.toList.drop ia) (b.toList.drop ib) tot)(hl:∀y∈(b.toList.drop ib).take k,∀x∈a.toList.drop ia,le lt F y x):
  Mg lt F (out++b.extract ib (ib+k)).toList (a.toList.drop ia) (b.toList.drop (ib+k)) tot:=(Mg.takeA h.symm hl).symm
def Mg.sdA(h:Mg lt F out da db tot):Sd lt F da:=(QK.mp h.sa).2.1
def Mg.sdB(h:Mg lt F out da db tot):Sd lt F db:=(QK.mp h.sb).2.1
def Sd.head(L:LO lt){l:List Keyed}(h:Sd lt F (l.drop i))(hx:l[i]?=-x):∀y∈l.drop i,le lt F x y:=by
 rw[GC hx]at h ⊢;intro y hy;rcases Qe.mp hy with rfl|hy
 ·show L.irr _
 ·show List.rel_of_pairwise_cons h hy
end
def nbeq{m n:Nat}(h: ¬(m==n)=true):m≠n:="g"
section
variable {prog:Program} {w:World} {A:Around} {E:Kh} {s:Shared} {α:Type} {lt:α->α->Bool} {F:Keyed->α} {a₀:List Keyed} {κ:SortKind} {st:SortSt} {a b out:Array Keyed} {ia ib mg:Nat}
def Qqm(L:LO lt)(hc:Ask prog w A s κ a₀ lt F)(hk:kindOf st=κ)(B:Both lt F a₀ a b)(h:J lt F a b out ia ib)
  (q1:∀c r,c.1=-r->Rs lt F a b r->Q c st) (q2:∀c:WS,c.1=none->J lt F a b c.2.1 c.2.2.1 c.2.2.2.1->out.size+1<=c.2.1.size->Q c st):wpS (model prog w) A E s (Qyv a b out ia ib mg) Q st:=by
 show JN (I:=λx c f=>f=st/\c.1=none/\J lt F a b c.2.1 c.2.2.1 c.2.2.2.1/\out.size+x<=c.2.1.size) ?step ?fin ⟨(),(),h,Q5 _⟩
 case fin =>
  rintro c f ⟨rfl,e,d,u⟩;show q2 c e d (by let:=h.hb;lia)
 case step =>
  rintro x c f _ hx ⟨v,e,d,u⟩;subst v;let⟨y,hy,i,o⟩:=YI d.hb;let⟨z,t,j,p⟩:=YI (show c.2.2.1<a.size by let:=d.ha;lia);show Qk (JP hy (Qk (JP t (Qk (Qh2 hc (B.mb y o) (B.ma z p) hk ?_)))));cases g:lt (F y) (F z)with
  |true =>
   show Qk (JP hy ?_);let m:=d.mg.pushB L i λx hx=>(le.of_lt L g).trans L (d.mg.sdA.head L j x hx)
   by_cases k:(c.2.2.2.1+1==b.size)=true
   ·rw[Qh k];show Qn (q1 _ _ () (BI m (.inr "e")))
   ·rw[Qc k];let l:J lt F a b (c.2.1.push y) c.2.2.1 (c.2.2.2.1+1):=⟨m,d.ha,"g",by simp[d.sz];lia⟩
    by_cases n:c.2.2.2.2.2+1 ≥ mg
    ·rw[Qh n];show Qn (q2 _ () l (by simp;lia))
    ·rw[Qc n];show Qn ⟨(),(),l,by simp;lia⟩
  |false =>
   show Qk (JP t ?_);let m:=d.mg.pushA j λy' q=>(show le lt F z y from g).trans L (d.mg.sdB.head L i y' q)
   by_cases k:(c.2.2.1+1+1==a.size)=true
   ·rw[Qh k];show Qn (q1 _ _ () (Qar B m "e"))
   ·rw[Qc k];let l:J lt F a b (c.2.1.push z) (c.2.2.1+1) c.2.2.2.1:=⟨m,by let h1:=d.ha;grind,d.hb,by simp[d.sz];lia⟩
    by_cases n:c.2.2.2.2.1+1 ≥ mg
    ·rw[Qh n];show Qn (q2 _ () l (by simp;lia))
    ·rw[Qc n];show Qn ⟨(),(),l,by simp;lia⟩
def GQ(lt:α->α->Bool)(F:Keyed->α)(a b:Array Keyed)(st:SortSt)(n:Nat)(r:ForInStep GS)(st':SortSt):Prop:=
 (∃g,st'=Wx st g)/\match r with
  |.done c=>(∃r,c.1=-r/\Rs lt F a b r)\/(c.1=none/\J lt F a b c.2.1 c.2.2.1 c.2.2.2.1/\n<=c.2.1.size)|.yield c=>c.1=none/\J lt F a b c.2.1 c.2.2.1 c.2.2.2.1/\n<=c.2.1.size
variable {k k1 bc ac n g₀:Nat}
def Qys(L:LO lt)(B:Both lt F a₀ a b)(h:Mg lt F out.toList (a.toList.drop ia) (b.toList.drop ib) (a.toList++b.toList))(ha:ia+1<a.size)(hb:ib<b.size)(sz:out.size=ia+ib)(hn:n<=out.size)
  (hl:∀x,a.toList[ia]?=-x->∀y∈b.toList.drop ib,le lt F x y):wpS (model prog w) A E s (g5 a b out ia ib mg k k1) (GQ lt F a b st n) (Wx st g₀):=by
 let⟨z,g,c,i⟩:=YI (show ia<a.size by lia);show Qk (JP g ?_);let m:=h.pushA c (hl z c)
 by_cases d:(ia+1+1==a.size)=true
 ·rw[Qh d];show Qn ⟨⟨_,()⟩,.inl ⟨_,(),Qar B m "e"⟩⟩
 ·rw[Qc d];let e:J lt F a b (out.push z) (ia+1) ib:=⟨m,"g",hb,"g"⟩
  by_cases f:(decide (k<7)&&decide (k1<7))=true
  ·rw[Qh f];show Qn ⟨⟨_,()⟩,.inr ⟨(),e,by simp;lia⟩⟩
  ·rw[Qc f];show Qn ⟨⟨_,()⟩,(),e,by simp;lia⟩
def Qyt(L:LO lt)(hc:Ask prog w A s κ a₀ lt F)(hk:kindOf st=κ)(B:Both lt F a₀ a b)(h:Mg lt F out.toList (a.toList.drop ia) (b.toList.drop ib) (a.toList++b.toList))(ha:ia+1<a.size)(hb:ib<b.size)(sz:out.size=ia+ib)(hn:n<=out.size)
  (hl:∀y,b.toList[ib]?=-y->∀x∈a.toList.drop ia,le lt F y x):wpS (model prog w) A E s (g4 a b out ia ib mg k bc) (GQ lt F a b st n) (Wx st g₀):=by
 let⟨y,hy,e,r⟩:=YI hb;show Qk (JP hy ?_);let m:=h.pushB L e (hl y e)
 by_cases o:(ib+1==b.size)=true
 ·rw[Qh o];show Qn ⟨⟨_,()⟩,.inl ⟨_,(),BI m (.inr "e")⟩⟩
 ·rw[Qc o];let g:ib+1<b.size:="g"
  let⟨z,t,j,l⟩:=YI (show ia<a.size by lia);show Qk (JP t ?_);let Ks:(b.toList.drop (ib+1)).length=b.size-(ib+1):="s"
  show Qk (ZI L hc (st:=Wx st g₀) hk (B.ma z l) Ks.symm (show 0<b.size-(ib+1) by lia) (λi hi=>by ext) (λx hx=>B.mb x (JE hx)) m.sdB λf u v h2=>?_);dsimp only;let h3:∀d∈(b.toList.drop (ib+1)).drop f,le lt F z d:=λd c=>by
   let:=h2 d c;simpa[bey,le]using this
  by_cases z2:f > 0
  ·rw[Qh z2];let p:=m.takeB λd c x hx=>by
    let:=v d c;show(le.of_lt L (by simpa[bey]using this)).trans L (m.sdA.head L j x hx)
   by_cases q:(ib+1+f==b.size)=true
   ·rw[Qh q];show Qn ⟨⟨_,()⟩,.inl ⟨_,(),BI p (.inr "e")⟩⟩
   ·rw[Qc q];let:ib+1+f≠b.size:="e"
    show Qys L B p ha "l" (by simp;lia) (by simp;lia) λx hx d c=>?_
    ext
  ·let e0:f=0:="l"
   subst e0;show Qys L B m ha g (by simp;lia) (by simp;lia) λx hx d c=>?_
   ext
def Qyu(L:LO lt)(hc:Ask prog w A s κ a₀ lt F)(hk:kindOf st=κ)(B:Both lt F a₀ a b)(h:J lt F a b out ia ib)(hn:n<=out.size):wpS (model prog w) A E s (g3 a b out ia ib mg ac bc) (GQ lt F a b st n) (Wx st g₀):=by
 unfold g3;show Qk (YU ?_);let⟨y,hy,d,e⟩:=YI h.hb;show Qk (JP hy ?_);let ha:=h.ha;let Ks:(a.toList.drop ia).length=a.size-ia:="s"
 show Qk (ZI L hc (st:=Wx st mg) hk (B.mb y e) Ks.symm (show 0<a.size-ia by lia) (λi hi=>by ext) (λx hx=>B.ma x (JE hx)) h.mg.sdA λk m o p=>?_);dsimp only;let h3:=λx hx=>by
  let:=p x hx;show le.of_lt L (by simpa[bey]using this)
 let h4:∀x∈(a.toList.drop ia).take k,le lt F x y:=λx hx=>by
  let:=o x hx;simpa[bey,le]using this
 by_cases q:k > 0
 ·rw[Qh q];let f:=h.mg.takeA λx hx g c=>(h4 x hx).trans L (h.mg.sdB.head L d g c)
  by_cases j:(ia+k+1==a.size)=true
  ·rw[Qh j];show Qn ⟨⟨_,()⟩,.inl ⟨_,(),Qar B f "e"⟩⟩
  ·rw[Qc j];let t:ia+k+1≠a.size:="e"
   by_cases l:(ia+k==a.size)=true
   ·rw[Qh l];show Qn ⟨⟨_,()⟩,.inl ⟨_,(),BI f (.inl "e")⟩⟩
   ·rw[Qc l];let u:ia+k≠a.size:="e"
    let:=h.sz;show Qyt L hc hk B f "l" h.hb (by simp;lia) (by simp;lia) λg c x hx=>?_
    ext
 ·let r:k=0:="l"
  subst r;show Qyt L hc hk B h.mg h.ha h.hb h.sz hn λg c x hx=>?_
  ext
def Qqp(L:LO lt)(hc:Ask prog w A s κ a₀ lt F)(hk:kindOf st=κ)(B:Both lt F a₀ a b)(h:J lt F a b out ia ib){Q:GS->SortSt->Prop}
  (q1:∀c r g,c.1=-r->Rs lt F a b r->Q c (Wx st g)) (q2:∀(c:GS)g,c.1=none->J lt F a b c.2.1 c.2.2.1 c.2.2.2.1->out.size<=c.2.1.size->Q c (Wx st g)):wpS (model prog w) A E s (Qu7 a b out ia ib mg ac bc) Q (Wx st g₀):=by
 unfold Qu7;show JN (I:=λx c d=>(∃g,d=Wx st g)/\c.1=none/\J lt F a b c.2.1 c.2.2.1 c.2.2.2.1/\out.size<=c.2.1.size) ?step ?fin ⟨⟨_,()⟩,(),h,Q5 _⟩
 case fin =>
  rintro c d ⟨⟨g,rfl⟩,e,i,j⟩;show q2 c g e i j
 case step =>
  rintro x c d _ hx ⟨⟨g,rfl⟩,e,i,j⟩
  by_cases z:c.2.2.2.2.1 > 1
  ·rw[Qh z];show YT (Qyu L hc hk B i j) ?_;rintro(c|c) d ⟨⟨f,rfl⟩,z⟩
   ·rcases z with⟨r,e,z⟩|⟨e,z,y⟩
    ·show q1 c r f e z
    ·show q2 c f e z y
   ·show⟨⟨f,()⟩,z⟩
  ·rw[Qc z];show YT (Qyu L hc hk B i j) ?_;rintro(c|c) d ⟨⟨f,rfl⟩,z⟩
   ·rcases z with⟨r,e,z⟩|⟨e,z,y⟩
    ·show q1 c r f e z
    ·show q2 c f e z y
   ·show⟨⟨f,()⟩,z⟩
def Qjy(L:LO lt)(hc:Ask prog w A s κ a₀ lt F)(hk:kindOf st=κ)(B:Both lt F a₀ a b)(sa:Sd lt F a.toList)(sb:Sd lt F b.toList)(ha:1<=a.size)(hb:1<=b.size)(hf:∀y,b.toList[0]?=-y->∀x∈a.toList,le lt F y x)(q:∀r g,Rs lt F a b r->Q r (Wx st g)):wpS (model prog w) A E s (mergeLo' a b) Q st:=by
 rw[Qi4];show Qk (wpS_lift (WD ⟨(),?_⟩));let⟨y,hy,f,o⟩:=YI (show 0<b.size by lia);show Qk (JP hy ?_);let p:Mg lt F (#[]:Array Keyed).toList (a.toList.drop 0) (b.toList.drop 0) (a.toList++b.toList):=⟨sa,sb,List.Perm.refl _⟩;let m:=p.pushB L f (hf y f);let j:=λr z=>q r (gallopOf st) z
 by_cases k:(1==b.size)=true
 ·rw[Qh k];show Qn (j _ (BI m (.inr "e")))
 ·rw[Qc k]
  by_cases l:(0+1==a.size)=true
  ·rw[Qh l];show Qn (j _ (Qar B m "e"))
  ·rw[Qc l];let n1:1≠b.size:="e"
   let n2:1≠a.size:="e"
   let t:J lt F a b #[y] 0 1:=⟨m,"l","l","s"⟩;show Qk (Qjr ?_);show Qk (YT (JN (I:=λx c d=>(∃g,d=Wx st g)/\c.1=none/\J lt F a b c.2.1 c.2.2.1 c.2.2.2.1/\1+x<=c.2.1.size) (Q:=λc d=>(∃g,d=Wx st g)/\∃r,c.1=-r/\Rs lt F a b r) ?step ?fin ⟨⟨gallopOf st,()⟩,(),t,"s"⟩) ?post)
   case post =>
    rintro⟨i,c⟩ d ⟨⟨g,rfl⟩,r,e,z⟩;subst e;show Qn (q r g z)
   case fin =>
    rintro c d ⟨⟨g,rfl⟩,e,h,u⟩;let:=h.sz;let:=h.ha;let:=h.hb
    lia
   case step =>
    rintro x c d _ hx ⟨⟨g,rfl⟩,e,h,u⟩;show Qk (Qqm L hc hk B h ?_ ?_)
    ·rintro⟨i,c⟩ r e z;subst e;show Qn ⟨⟨g,()⟩,r,(),z⟩
    ·rintro⟨i,o2,i2,j2,a2,b2⟩ e v hs2;subst e;show Qk (wpS_lift (WD ⟨(),?_⟩));show Qk (Qqp L hc hk B v ?_ ?_)
     ·rintro⟨i,c⟩ r n e z;subst e;show Qn ⟨⟨n,()⟩,r,(),z⟩
     ·rintro⟨i,o3,i3,j3,m3,a3,b3⟩ n e h3 hs3;subst e;show Qk (YU (Qn ⟨⟨_,()⟩,(),h3,"g"⟩))
end
noncomputable def mergeHi':Array Keyed->Array Keyed->StateT SortSt Sem (Array Keyed):=sortPriv% PySem.Builtin.mergeHi
noncomputable abbrev ZE(a b out:Array Keyed)(na nb:Nat):Array Keyed:=a.extract 0 na++b.extract 0 nb++out.reverse
noncomputable abbrev YQ(a b out:Array Keyed)(na nb:Nat):Array Keyed:=b.extract 0 nb++a.extract 0 na++out.reverse
def Qfy(a b:Array Keyed):mergeHi' a b=(do
 rule "list.sort.merge-hi"
 let total:=a.size+b.size
 let mut na:=a.size-1
 let mut nb:=b.size
 let mut out:Array Keyed:= #[<-elem' a na]
 if na==0 then return ZE a b out na nb
 if nb==1 then return YQ a b out na nb
 let mut minGallop:=gallopOf (<-get)
 for _ in [0:total] do
  let mut acount:=0
  let mut bcount:=0
  for _ in [0:total] do
   let some aWins<-lt' (<-elem' b (nb-1)) (<-elem' a (na-1))|return ZE a b out na nb
   if aWins then
    na:=na-1;out:=out.push (<-elem' a na);acount:=acount+1;bcount:=0
    if na==0 then return ZE a b out na nb
    if acount ≥ minGallop then break
   else
    nb:=nb-1;out:=out.push (<-elem' b nb);bcount:=bcount+1;acount:=0
    if nb==1 then return YQ a b out na nb
    if bcount ≥ minGallop then break
  rule "list.sort.gallop"
  minGallop:=minGallop+1
  for _ in [0:total] do
   if minGallop > 1 then minGallop:=minGallop-1
   setMinGallop' minGallop
   let some at_<-gallop' false (<-elem' b (nb-1)) a 0 na (na-1)|return ZE a b out na nb
   let k:=na-at_
   acount:=k
   if k > 0 then
    out:=out++(a.extract at_ na).reverse;na:=at_
    if na==0 then return ZE a b out na nb
   nb:=nb-1;out:=out.push (<-elem' b nb)
   if nb==1 then return YQ a b out na nb
   let some at_<-gallop' true (<-elem' a (na-1)) b 0 nb (nb-1)|return ZE a b out na nb
   let k:=nb-at_
   bcount:=k
   if k > 0 then
    out:=out++(b.extract at_ nb).reverse;nb:=at_
    if nb==1 then return YQ a b out na nb
    if nb==0 then return ZE a b out na nb
   na:=na-1;out:=out.push (<-elem' a na)
   if na==0 then return ZE a b out na nb
   if acount<7&&bcount<7 then break
  minGallop:=minGallop+1
  setMinGallop' minGallop
 unsupported "internal:list.sort.merge-bound"):=()
abbrev HS:=Option (Array Keyed)×Nat×Nat×Array Keyed×Nat×Nat×Nat
abbrev PS:=Option (Array Keyed)×Nat×Nat×Array Keyed×Nat
abbrev VS:=Option (Array Keyed)×Nat×Nat×Array Keyed×Nat×Nat
noncomputable def h5(a b out:Array Keyed)(na nb mg k k1:Nat):StateT SortSt Sem (ForInStep HS):=do
 let x<-elem' a (na-1)
 if(na-1==0)=true then pure (ForInStep.done (-(ZE a b (out.push x) (na-1) nb),na-1,nb,out.push x,mg,k,k1))
 else if(decide (k<7)&&decide (k1<7))=true then pure (ForInStep.done (none,na-1,nb,out.push x,mg,k,k1))
 else pure (ForInStep.yield (none,na-1,nb,out.push x,mg,k,k1))
noncomputable def h4(a b out:Array Keyed)(na nb mg k bc:Nat):StateT SortSt Sem (ForInStep HS):=do
 let x<-elem' b (nb-1)
 if(nb-1==1)=true then pure (ForInStep.done (-(YQ a b (out.push x) na (nb-1)),na,nb-1,out.push x,mg,k,bc))
 else do
  let y<-elem' a (na-1)
  let r<-gallop' true y b 0 (nb-1) (nb-1-1)
  match r with
  |some p =>
   if nb-1-p > 0 then
    if(p==1)=true then pure (ForInStep.done (-(YQ a b (out.push x++(b.extract p (nb-1)).reverse) na p),na,p,out.push x++(b.extract p (nb-1)).reverse,mg,k,nb-1-p))
    else if(p==0)=true then pure (ForInStep.done (-(ZE a b (out.push x++(b.extract p (nb-1)).reverse) na p),na,p,out.push x++(b.extract p (nb-1)).reverse,mg,k,nb-1-p))
    else h5 a b (out.push x++(b.extract p (nb-1)).reverse) na p mg k (nb-1-p)
   else h5 a b (out.push x) na (nb-1) mg k (nb-1-p)
  |_=>pure (ForInStep.done (-(ZE a b (out.push x) na (nb-1)),na,nb-1,out.push x,mg,k,bc))
noncomputable def h3(a b out:Array Keyed)(na nb mg ac bc:Nat):StateT SortSt Sem (ForInStep HS):=do
 setMinGallop' mg
 let x<-elem' b (nb-1)
 let r<-gallop' false x a 0 na (na-1)
 match r with
 |some p =>
  if na-p > 0 then
   if(p==0)=true then pure (ForInStep.done (-(ZE a b (out++(a.extract p na).reverse) p nb),p,nb,out++(a.extract p na).reverse,mg,na-p,bc))
   else h4 a b (out++(a.extract p na).reverse) p nb mg (na-p) bc
  else h4 a b out na nb mg (na-p) bc
 |_=>pure (ForInStep.done (-(ZE a b out na nb),na,nb,out,mg,ac,bc))
noncomputable def Qu2(a b out:Array Keyed)(na nb mg ac bc:Nat):StateT SortSt Sem HS:=
 forIn [0:a.size+b.size] ((none,na,nb,out,mg,ac,bc):HS) λ_ c =>
  if c.2.2.2.2.1 > 1 then h3 a b c.2.2.2.1 c.2.1 c.2.2.1 (c.2.2.2.2.1-1) c.2.2.2.2.2.1 c.2.2.2.2.2.2
  else h3 a b c.2.2.2.1 c.2.1 c.2.2.1 c.2.2.2.2.1 c.2.2.2.2.2.1 c.2.2.2.2.2.2
noncomputable def Qyx(a b out:Array Keyed)(na nb mg:Nat):StateT SortSt Sem VS:=
 forIn [0:a.size+b.size] ((none,na,nb,out,0,0):VS) λ_ c=>do
  let y<-elem' b (c.2.2.1-1)
  let x<-elem' a (c.2.1-1)
  let r<-lt' y x
  match r with
  |some aWins =>
   if aWins=true then do
    let z<-elem' a (c.2.1-1)
    if(c.2.1-1==0)=true then pure (ForInStep.done (-(ZE a b (c.2.2.2.1.push z) (c.2.1-1) c.2.2.1),c.2.1-1,c.2.2.1,c.2.2.2.1.push z,c.2.2.2.2.1+1,0))
    else if c.2.2.2.2.1+1 ≥ mg then pure (ForInStep.done (none,c.2.1-1,c.2.2.1,c.2.2.2.1.push z,c.2.2.2.2.1+1,0))
    else pure (ForInStep.yield (none,c.2.1-1,c.2.2.1,c.2.2.2.1.push z,c.2.2.2.2.1+1,0))
   else do
    let z<-elem' b (c.2.2.1-1)
    if(c.2.2.1-1==1)=true then pure (ForInStep.done (-(YQ a b (c.2.2.2.1.push z) c.2.1 (c.2.2.1-1)),c.2.1,c.2.2.1-1,c.2.2.2.1.push z,0,c.2.2.2.2.2+1))
    else if c.2.2.2.2.2+1 ≥ mg then pure (ForInStep.done (none,c.2.1,c.2.2.1-1,c.2.2.2.1.push z,0,c.2.2.2.2.2+1))
    else pure (ForInStep.yield (none,c.2.1,c.2.2.1-1,c.2.2.2.1.push z,0,c.2.2.2.2.2+1))
  |_=>pure (ForInStep.done (-(ZE a b c.2.2.2.1 c.2.1 c.2.2.1),c.2.1,c.2.2.1,c.2.2.2.1,c.2.2.2.2.1,c.2.2.2.2.2))
def Qi5(a b:Array Keyed):mergeHi' a b=(do
 liftM (rule "list.sort.merge-hi")
 let x<-elem' a (a.size-1)
 if(a.size-1==0)=true then pure (ZE a b #[x] (a.size-1) b.size)
 else if(b.size==1)=true then pure (YQ a b #[x] (a.size-1) b.size)
 else do
  let st<-get
  let c<-forIn [0:a.size+b.size] ((none,a.size-1,b.size,#[x],gallopOf st):PS) λ_ c=>do
   let c1<-Qyx a b c.2.2.2.1 c.2.1 c.2.2.1 c.2.2.2.2
   match c1.1 with
   |some r=>pure (ForInStep.done (-r,c1.2.1,c1.2.2.1,c1.2.2.2.1,c.2.2.2.2))|none=>do
    liftM (rule "list.sort.gallop")
    let c2<-Qu2 a b c1.2.2.2.1 c1.2.1 c1.2.2.1 (c.2.2.2.2+1) c1.2.2.2.2.1 c1.2.2.2.2.2
    match c2.1 with
    |some r=>pure (ForInStep.done (-r,c2.2.1,c2.2.2.1,c2.2.2.2.1,c2.2.2.2.2.1))|none=>do
     setMinGallop' (c2.2.2.2.2.1+1)
     pure (ForInStep.yield (none,c2.2.1,c2.2.2.1,c2.2.2.2.1,c2.2.2.2.2.1+1))
  match c.1 with
  |some r=>pure r
  |none=>liftM (unsupported "internal:list.sort.merge-bound")):=by
 rw[Qfy];show Qs λ_=>Qs λx=>?_
 show Jf () (λ_=>rfl) λ_=>Jf () (λ_=>rfl) λ_=>Qs λst=>?_
 show bcong (fcong λ_ c=>?_) λc=>?_
 ·show bcong (fcong λ_ c=>?_) λc1=>?_
  ·rfl
  cases c1.1 with
  |some r=>rfl|none =>
   show Qs λ_=>?_
   show bcong (fcong λ_ c=>?_) λc2=>?_
   ·show Jf () (λ_=>?_) λ_=>?_
    ·show Qs λ_=>Qs λ_=>Qs λr=>?_
     cases r<;>rfl
    ·show Qs λ_=>Qs λ_=>Qs λr=>?_
     cases r<;>rfl
   ·let⟨r,c2⟩:=c2;cases r<;>rfl
 ·let⟨r,c2⟩:=c;cases r<;>rfl
section
variable {α:Type} {lt:α->α->Bool} {F:Keyed->α}
structure Mh(lt:α->α->Bool)(F:Keyed->α)(da db o tot:List Keyed):Prop where
 sa:Sd lt F (da++o)
 sb:Sd lt F (db++o)
 pm:((da++db)++o).Perm tot
def Mh.symm(h:Mh lt F da db o tot):Mh lt F db da o tot:=⟨h.sb,h.sa,((Qcy).append_right o).trans h.pm⟩
def Mh.take{d1 d2 db o tot:List Keyed}(h:Mh lt F (d2++d1) db o tot)(hl:∀x∈d1,∀y∈db,le lt F y x):Mh lt F d2 db (d1++o) tot:=by
 let sa:=h.sa;let sb:=h.sb;let pm:=h.pm;show⟨by rw[QH]at sa;show sa,?_,?_⟩
 ·rw[QH]at sa;let a:=(QK.mp sa).2.1;unfold Sd at sb ⊢;rw[QK]at sb ⊢;show⟨sb.1,a,λx hx y hy=>?_⟩;rcases Qt.mp hy with hy|hy
  ·show hl y hy x hx
  ·show sb.2.2 x hx y hy
 ·show List.Perm.trans ?_ pm;rw[QH,QH,QH];show List.Perm.append_left d2 ?_;rw[<-QH,<-QH];show Qcy.append_right o
def Mh.doneA(h:Mh lt F da [] o tot):Sd lt F (da++o)/\(da++o).Perm tot:=⟨h.sa,by let:=h.pm;ext⟩
def Mh.first{da o tot:List Keyed}{z:Keyed}(h:Mh lt F da [z] o tot)(hz:∀x∈da,le lt F z x):Sd lt F ([z]++da++o)/\([z]++da++o).Perm tot:=by
 let h3:Mh lt F [] [z] (da++o) tot:=Mh.take (d2:=[]) h (λx hx y hy=>by rw[Qu.mp hy];show hz x hx);let h4:=h3.symm.doneA;rw[QH];show h4
def Gn{l:List Keyed}(hn:1<=n)(h:l[n-1]?=-x):l.take n=l.take (n-1)++[x]:=by
 obtain⟨m,rfl⟩:∃m,n=m+1:=⟨n-1,"l"⟩;rw[List.take_succ,Nat.add_sub_cancel]
 ext
def Sd.tail(L:LO lt){l:List Keyed}(hn:1<=n)(h:Sd lt F (l.take n))(hx:l[n-1]?=-x):∀y∈l.take n,le lt F y x:=by
 rw[Gn hn hx]at h ⊢;intro y hy;rcases Qt.mp hy with hy|hy
 ·show(QK.mp h).2.2 y hy x (Qu.mpr ())
 ·rw[Qu.mp hy];show L.irr _
end
section
variable {prog:Program} {w:World} {A:Around} {E:Kh} {s:Shared} {α:Type} {lt:α->α->Bool} {F:Keyed->α} {a₀:List Keyed} {κ:SortKind} {st:SortSt} {a b out:Array Keyed} {na nb mg:Nat}
abbrev MH(lt:α->α->Bool)(F:Keyed->α)(a b out:Array Keyed)(na nb:Nat):Prop:=Mh lt F (a.toList.take na) (b.toList.take nb) out.toList.reverse (a.toList++b.toList)
structure JH(lt:α->α->Bool)(F:Keyed->α)(a b out:Array Keyed)(na nb:Nat):Prop where
 mg:MH lt F a b out na nb
 ha:1<=na
 hb:2<=nb
 la:na<=a.size
 lb:nb<=b.size
 sz:out.size+na+nb=a.size+b.size
structure BothH(lt:α->α->Bool)(F:Keyed->α)(a₀:List Keyed)(a b:Array Keyed):Prop where
 ma:∀x∈a.toList,x∈a₀
 mb:∀x∈b.toList,x∈a₀
 fb:∀z,b.toList[0]?=-z->∀x∈a.toList,le lt F z x
def BV(a:Array Keyed)(n:Nat):(a.extract 0 n).toList=a.toList.take n:="s"
def Qnl(a:Array Keyed)(p n:Nat):(a.extract p n).reverse.toList=((a.toList.take n).drop p).reverse:=by simp[List.drop_take]
def UP(h:MH lt F a b out na nb)(hz:na=0\/nb=0):Rs lt F a b (ZE a b out na nb):=by
 unfold Rs ZE;rw[Jc,Jc,BV,BV,Array.toList_reverse];rcases hz with rfl|rfl
 ·let c:=h;unfold MH at c;rw[List.take_zero]at c ⊢;show c.symm.doneA
 ·let c:=h;unfold MH at c;rw[List.take_zero]at c ⊢;rw[QW];show c.doneA
def Gq(B:BothH lt F a₀ a b)(h:MH lt F a b out na 1)(hb:1<=b.size):Rs lt F a b (YQ a b out na 1):=by
 unfold Rs YQ;rw[Jc,Jc,BV,BV,Array.toList_reverse];let hi:0<b.toList.length:=by simp;lia
 let d:=Qa hi;let e:b.toList.take 1=[b.toList[0]]:=by
  rw[Gn (Q5 1) d];rfl
 let c:=h;unfold MH at c;rw[e]at c ⊢;show c.first λx hx=>B.fb _ d x (Ji hx)
def MH.pushA{x:Keyed}(h:MH lt F a b out na nb)(hn:1<=na)(hx:a.toList[na-1]?=-x)(hl:∀y∈b.toList.take nb,le lt F y x):MH lt F a b (out.push x) (na-1) nb:=by
 unfold MH at h ⊢;rw[Wq,Gh];rw[Gn hn hx]at h;show Mh.take (d1:=[x]) h λz c y hy=>by rw[Qu.mp c];show hl y hy
def MH.pushB(h:MH lt F a b out na nb)(hn:1<=nb)(hy:b.toList[nb-1]?=-y)(hl:∀x∈a.toList.take na,le lt F x y):MH lt F a b (out.push y) na (nb-1):=by
 unfold MH at h ⊢;rw[Wq,Gh];rw[Gn hn hy]at h;show(Mh.take h.symm λz c x hx=>by ext).symm
def MH.takeA{p:Nat}(h:MH lt F a b out na nb)(hp:p<=na)(hl:∀x∈(a.toList.take na).drop p,∀y∈b.toList.take nb,le lt F y x):MH lt F a b (out++(a.extract p na).reverse) p nb:=by
 unfold MH at h ⊢;rw[Jc,Qnl,Gh,List.reverse_reverse];let e:a.toList.take na=a.toList.take p++(a.toList.take na).drop p:=by
  let:=(QU p (a.toList.take na)).symm;rwa [List.take_take,Nat.min_eq_left hp]at this
 rw[e]at h;show Mh.take h hl
def MH.takeB(h:MH lt F a b out na nb)(hp:p<=nb)(hl:∀y∈(b.toList.take nb).drop p,∀x∈a.toList.take na,le lt F x y):MH lt F a b (out++(b.extract p nb).reverse) na p:=by
 unfold MH at h ⊢;rw[Jc,Qnl,Gh,List.reverse_reverse];let e:b.toList.take nb=b.toList.take p++(b.toList.take nb).drop p:=by
  let:=(QU p (b.toList.take nb)).symm
  grind
 rw[e]at h;show(Mh.take h.symm hl).symm
def Mh.sdA(h:Mh lt F da db o tot):Sd lt F da:=(QK.mp h.sa).1
def Mh.sdB(h:Mh lt F da db o tot):Sd lt F db:=(QK.mp h.sb).1
def Qqn(L:LO lt)(hc:Ask prog w A s κ a₀ lt F)(hk:kindOf st=κ)(B:BothH lt F a₀ a b)(h:JH lt F a b out na nb)
  (q1:∀c r,c.1=-r->Rs lt F a b r->Q c st) (q2:∀c:VS,c.1=none->JH lt F a b c.2.2.2.1 c.2.1 c.2.2.1->out.size+1<=c.2.2.2.1.size->Q c st):wpS (model prog w) A E s (Qyx a b out na nb mg) Q st:=by
 show JN (I:=λx c f=>f=st/\c.1=none/\JH lt F a b c.2.2.2.1 c.2.1 c.2.2.1/\out.size+x<=c.2.2.2.1.size) ?step ?fin ⟨(),(),h,Q5 _⟩
 case fin =>
  rintro c f ⟨rfl,e,d,v⟩;show q2 c e d (by let:=h.hb;let:=h.lb;lia)
 case step =>
  rintro x c f _ hx ⟨es,e,d,v⟩;subst es;let hb:=d.hb;let ha:=d.ha;let lb:=d.lb;let la:=d.la;let sz:=d.sz;let⟨y,hy,j,o⟩:=YI (show c.2.2.1-1<b.size by lia);let⟨z,u,k,p⟩:=YI (show c.2.1-1<a.size by lia);show Qk (JP hy (Qk (JP u (Qk (Qh2 hc (B.mb y o) (B.ma z p) hk ?_)))));cases g:lt (F y) (F z)with
  |true =>
   show Qk (JP u ?_);let m:=d.mg.pushA ha k λy' q=>(d.mg.sdB.tail L "l" j y' q).trans L (le.of_lt L g)
   by_cases i:(c.2.1-1==0)=true
   ·rw[Qh i];show Qn (q1 _ _ () (UP m (.inl "e")))
   ·rw[Qc i];let n1:=nbeq i;let l:JH lt F a b (c.2.2.2.1.push z) (c.2.1-1) c.2.2.1:=⟨m,"l","l","l","l",by simp;lia⟩
    by_cases n:c.2.2.2.2.1+1 ≥ mg
    ·rw[Qh n];show Qn (q2 _ () l (by simp;lia))
    ·rw[Qc n];show Qn ⟨(),(),l,by simp;lia⟩
  |false =>
   show Qk (JP hy ?_);let m:=d.mg.pushB "l" j λx' t=>(d.mg.sdA.tail L ha k x' t).trans L ((g))
   by_cases i:(c.2.2.1-1==1)=true
   ·rw[Qh i];let e1:c.2.2.1-1=1:="e"
    show Qn (q1 _ _ () ?_);rw[e1]at m ⊢;show Gq B m "l"
   ·rw[Qc i];let n1:=nbeq i;let l:JH lt F a b (c.2.2.2.1.push y) c.2.1 (c.2.2.1-1):=⟨m,"l","l","l","l",by simp;lia⟩
    by_cases n:c.2.2.2.2.2+1 ≥ mg
    ·rw[Qh n];show Qn (q2 _ () l (by simp;lia))
    ·rw[Qc n];show Qn ⟨(),(),l,by simp;lia⟩
def HQ(lt:α->α->Bool)(F:Keyed->α)(a b:Array Keyed)(st:SortSt)(n:Nat)(r:ForInStep HS)(st':SortSt):Prop:=
 (∃g,st'=Wx st g)/\match r with
  |.done c=>(∃r,c.1=-r/\Rs lt F a b r)\/(c.1=none/\JH lt F a b c.2.2.2.1 c.2.1 c.2.2.1/\n<=c.2.2.2.1.size)|.yield c=>c.1=none/\JH lt F a b c.2.2.2.1 c.2.1 c.2.2.1/\n<=c.2.2.2.1.size
variable {k k1 bc ac n g₀:Nat}
def Qyp(L:LO lt)(h:MH lt F a b out na nb)(ha:1<=na)(hb:2<=nb)(la:na<=a.size)(lb:nb<=b.size)(sz:out.size+na+nb=a.size+b.size)(hn:n<=out.size)
  (hl:∀x,a.toList[na-1]?=-x->∀y∈b.toList.take nb,le lt F y x):wpS (model prog w) A E s (h5 a b out na nb mg k k1) (HQ lt F a b st n) (Wx st g₀):=by
 let⟨z,g,c,i⟩:=YI (show na-1<a.size by lia);show Qk (JP g ?_);let m:=h.pushA ha c (hl z c)
 by_cases d:(na-1==0)=true
 ·rw[Qh d];show Qn ⟨⟨_,()⟩,.inl ⟨_,(),UP m (.inl "e")⟩⟩
 ·rw[Qc d];let j:=nbeq d;let e:JH lt F a b (out.push z) (na-1) nb:=⟨m,"l",hb,"l",lb,by simp;lia⟩
  by_cases f:(decide (k<7)&&decide (k1<7))=true
  ·rw[Qh f];show Qn ⟨⟨_,()⟩,.inr ⟨(),e,by simp;lia⟩⟩
  ·rw[Qc f];show Qn ⟨⟨_,()⟩,(),e,by simp;lia⟩
def Qyq(L:LO lt)(hc:Ask prog w A s κ a₀ lt F)(hk:kindOf st=κ)(B:BothH lt F a₀ a b)(h:MH lt F a b out na nb)(ha:1<=na)(hb:2<=nb)(la:na<=a.size)(lb:nb<=b.size)(sz:out.size+na+nb=a.size+b.size)(hn:n<=out.size)
  (hl:∀y,b.toList[nb-1]?=-y->∀x∈a.toList.take na,le lt F x y):wpS (model prog w) A E s (h4 a b out na nb mg k bc) (HQ lt F a b st n) (Wx st g₀):=by
 unfold h4;let⟨y,hy,e,v⟩:=YI (show nb-1<b.size by lia);show Qk (JP hy ?_);let m:=h.pushB "l" e (hl y e)
 by_cases f:(nb-1==1)=true
 ·rw[Qh f];let g:nb-1=1:="e"
  show Qn ⟨⟨_,()⟩,.inl ⟨_,(),?_⟩⟩;rw[g]at m ⊢;show Gq B m "l"
 ·rw[Qc f];let n1:=nbeq f;let⟨z,hz,j,l⟩:=YI (show na-1<a.size by lia);show Qk (JP hz ?_);let Ks:(b.toList.take (nb-1)).length=nb-1:=by simp;lia
  show Qk (ZI L hc (st:=Wx st g₀) hk (B.ma z l) Ks.symm (show nb-1-1<nb-1 by lia) (λi hi=>by ext) (λx hx=>B.mb x (Ji hx)) m.sdB λp r h1 h2=>?_);dsimp only;rw[Ks]at r;let h3:=λd c=>by
   let:=h2 d c;simpa[bey,le]using this
  let h4:∀d∈b.toList.take p,le lt F d z:=λd c=>by
   let:=h1 d "g";show le.of_lt L (by simpa[bey]using this)
  by_cases t:nb-1-p > 0
  ·rw[Qh t];let o:=m.takeB (p:=p) r λd c x hx=>(m.sdA.tail L ha j x hx).trans L (h3 d c)
   by_cases u:(p==1)=true
   ·let g:p=1:="e"
    subst g;show Qn ⟨⟨_,()⟩,.inl ⟨_,(),Gq B o "l"⟩⟩
   ·rw[Qc u];let n3:=nbeq u
    by_cases q:(p==0)=true
    ·rw[Qh q];show Qn ⟨⟨_,()⟩,.inl ⟨_,(),UP o (.inr "e")⟩⟩
    ·rw[Qc q];let n4:=nbeq q;show Qyp L o ha "l" la "l" "g" "g" λx hx d c=>?_
     ext
  ·rw[Qc t];let e0:p=nb-1:="l"
   show Qyp L m ha "l" la "l" "g" "g" λx hx d c=>?_
   ext
def Qyr(L:LO lt)(hc:Ask prog w A s κ a₀ lt F)(hk:kindOf st=κ)(B:BothH lt F a₀ a b)(h:JH lt F a b out na nb)(hn:n<=out.size):wpS (model prog w) A E s (h3 a b out na nb mg ac bc) (HQ lt F a b st n) (Wx st g₀):=by
 unfold h3;show Qk (YU ?_);let hb:=h.hb;let ha:=h.ha;let lb:=h.lb;let la:=h.la;let sz:=h.sz;let⟨y,hy,d,e⟩:=YI (show nb-1<b.size by lia);show Qk (JP hy ?_);let Ks:(a.toList.take na).length=na:=by simp;lia
 show Qk (ZI L hc (st:=Wx st mg) hk (B.mb y e) Ks.symm (show na-1<na by lia) (λi hi=>by ext) (λx hx=>B.ma x (Ji hx)) h.mg.sdA λp j m o=>?_);dsimp only;rw[Ks]at j;let h3:=λx hx=>by
  let:=o x hx;show le.of_lt L (by simpa[bey]using this)
 let h4:∀x∈a.toList.take p,le lt F x y:=λx hx=>by
  let:=m x "g";simpa[bey,le]using this
 by_cases k:na-p > 0
 ·rw[Qh k];let l:=h.mg.takeA j λx hx f c=>(h.mg.sdB.tail L "l" d f c).trans L (h3 x hx)
  by_cases g:(p==0)=true
  ·rw[Qh g];show Qn ⟨⟨_,()⟩,.inl ⟨_,(),UP l (.inl "e")⟩⟩
  ·rw[Qc g];let q:=nbeq g;show Qyq L hc hk B l "l" hb "l" lb "g" "g" λf c x hx=>?_
   ext
 ·rw[Qc k];let r:p=na:="l"
  show Qyq L hc hk B h.mg ha hb la lb sz hn λf c x hx=>?_
  ext
def Qqo(L:LO lt)(hc:Ask prog w A s κ a₀ lt F)(hk:kindOf st=κ)(B:BothH lt F a₀ a b)(h:JH lt F a b out na nb){Q:HS->SortSt->Prop}
  (q1:∀c r g,c.1=-r->Rs lt F a b r->Q c (Wx st g)) (q2:∀(c:HS)g,c.1=none->JH lt F a b c.2.2.2.1 c.2.1 c.2.2.1->out.size<=c.2.2.2.1.size->Q c (Wx st g)):wpS (model prog w) A E s (Qu2 a b out na nb mg ac bc) Q (Wx st g₀):=by
 unfold Qu2;show JN (I:=λx c d=>(∃g,d=Wx st g)/\c.1=none/\JH lt F a b c.2.2.2.1 c.2.1 c.2.2.1/\out.size<=c.2.2.2.1.size) ?step ?fin ⟨⟨_,()⟩,(),h,Q5 _⟩
 case fin =>
  rintro c d ⟨⟨g,rfl⟩,e,i,j⟩;show q2 c g e i j
 case step =>
  rintro x c d _ hx ⟨⟨g,rfl⟩,e,i,j⟩
  by_cases z:c.2.2.2.2.1 > 1
  ·rw[Qh z];show YT (Qyr L hc hk B i j) ?_;rintro(c|c) d ⟨⟨f,rfl⟩,z⟩
   ·rcases z with⟨r,e,z⟩|⟨e,z,y⟩
    ·show q1 c r f e z
    ·show q2 c f e z y
   ·show⟨⟨f,()⟩,z⟩
  ·rw[Qc z];show YT (Qyr L hc hk B i j) ?_;rintro(c|c) d ⟨⟨f,rfl⟩,z⟩
   ·rcases z with⟨r,e,z⟩|⟨e,z,y⟩
    ·show q1 c r f e z
    ·show q2 c f e z y
   ·show⟨⟨f,()⟩,z⟩
def Qjz(L:LO lt)(hc:Ask prog w A s κ a₀ lt F)(hk:kindOf st=κ)(B:BothH lt F a₀ a b)(sa:Sd lt F a.toList)(sb:Sd lt F b.toList)(ha:1<=a.size)(hb:1<=b.size)(hf:∀x,a.toList[a.size-1]?=-x->∀y∈b.toList,le lt F y x)(q:∀r g,Rs lt F a b r->Q r (Wx st g)):wpS (model prog w) A E s (mergeHi' a b) Q st:=by
 rw[Qi5];show Qk (wpS_lift (WD ⟨(),?_⟩));let⟨y,hy,f,p⟩:=YI (show a.size-1<a.size by lia);show Qk (JP hy ?_);let t:MH lt F a b #[] a.size b.size:=by
  unfold MH;let i:a.toList.take a.size=a.toList:=Jh "s";let u:b.toList.take b.size=b.toList:=Jh "s";rw[i,u];show⟨"e","e","s"⟩
 let m:=t.pushA ha f (λz v=>hf y f z (Ji v));let n:=λr z=>q r (gallopOf st) z
 by_cases j:(a.size-1==0)=true
 ·rw[Qh j];show Qn (n _ (UP m (.inl "e")))
 ·rw[Qc j];let n1:=nbeq j
  by_cases k:(b.size==1)=true
  ·rw[Qh k];let i:b.size=1:="e"
   show Qn (n _ ?_);rw[i]at m ⊢;show Gq B m "l"
  ·rw[Qc k];let n2:=nbeq k;let j0:JH lt F a b #[y] (a.size-1) b.size:=⟨m,"l","l","l",Q5 _,by simp;lia⟩;show Qk (Qjr ?_);show Qk (YT (JN (I:=λx c d=>(∃g,d=Wx st g)/\c.1=none/\JH lt F a b c.2.2.2.1 c.2.1 c.2.2.1/\1+x<=c.2.2.2.1.size) (Q:=λc d=>(∃g,d=Wx st g)/\∃r,c.1=-r/\Rs lt F a b r) ?step ?fin ⟨⟨gallopOf st,()⟩,(),j0,"s"⟩) ?post)
   case post =>
    rintro⟨h,c⟩ d ⟨⟨g,rfl⟩,r,e,z⟩;subst e;show Qn (q r g z)
   case fin =>
    rintro c d ⟨⟨g,rfl⟩,e,l,hs⟩;let:=l.sz
    lia
   case step =>
    rintro x c d _ hx ⟨⟨g,rfl⟩,e,l,hs⟩;show Qk (Qqn L hc hk B l ?_ ?_)
    ·rintro⟨h,c⟩ r e z;subst e;show Qn ⟨⟨g,()⟩,r,(),z⟩
    ·rintro⟨h,i2,j2,o2,a2,b2⟩ e h2 hs2;subst e;show Qk (wpS_lift (WD ⟨(),?_⟩));show Qk (Qqo L hc hk B h2 ?_ ?_)
     ·rintro⟨h,c⟩ r o e z;subst e;show Qn ⟨⟨o,()⟩,r,(),z⟩
     ·rintro⟨h,i3,j3,o3,m3,a3,b3⟩ o e h3 hs3;subst e;show Qk (YU (Qn ⟨⟨_,()⟩,(),h3,"g"⟩))
end
def Qfz(i:Nat):mergeAt' i=(do
 let s<-get
 let(-(sa,na,power),-(sb,nb,_)):=((pendingOf s)[i]?,(pendingOf s)[i+1]?)|unsupported "internal:list.sort.pending"
 set (setPending s (((pendingOf s).setIfInBounds i (sa,na+nb,power)).eraseIdxIfInBounds (i+1)))
 let some k<-gallop' false (<-elem' (arrOf s) sb) (arrOf s) sa na 0|return false
 let(sa,na):=(sa+k,na-k)
 if na==0 then return true
 let some nb<-gallop' true (<-elem' (arrOf s) (sa+na-1)) (arrOf s) sb nb (nb-1)|return false
 if nb==0 then return true
 let x:=(arrOf s).extract sa sb
 let y:=(arrOf s).extract sb (sb+nb)
 let merged<-if na<=nb then mergeLo' x y else mergeHi' x y
 modify λs=>setArr s (merged.toList.zipIdx.foldl (λa (p,j)=>a.setIfInBounds (sa+j) p) (arrOf s))
 return (failedOf (<-get)).isNone):=()
section
variable {prog:Program} {w:World} {A:Around} {E:Kh} {s:Shared} {α:Type} {lt:α->α->Bool} {F:Keyed->α} {a₀:List Keyed} {κ:SortKind} {st:SortSt}
def Qzw(h:Q ⟨⟩ x):wpS (model prog w) A E s (set x:StateT SortSt Sem PUnit) Q st:=by
 unfold wpS;show Q2 ⟨(),h⟩
def Qva{l P X R:List Keyed}{i o:Nat}(h:l=P++(X++R))(ho:o=P.length)(hi:i<X.length):l[o+i]?=X[i]?:=by
 rw[h,ho,J4 "l",Qa9,QN hi]
def Qnm{a:Array Keyed}(h:a.toList=P++(X++R))(ho:o=P.length)(he:e=o+X.length):(a.extract o e).toList=X:=by
 ext
theorem over{a:Array Keyed}{P R:List Keyed}:∀(r M:List Keyed)(o n:Nat)(a:Array Keyed)(P:List Keyed),a.toList=P++(M++R)->P.length=o+n->M.length=r.length->((r.zipIdx n).foldl (λa q=>a.setIfInBounds (o+q.2) q.1) a).toList=P++(r++R)
 |[],M,o,n,a,P,h,c,b=>by
  ext
 |x::r,[],o,n,a,P,h,c,b=>by simp at b|x::r,m::M,o,n,a,P,h,c,b=>by
  let e:(a.setIfInBounds (o+n) x).toList=(P++[x])++(M++R):=by
   ext
  let:=over (a:=a) (P:=P) r M o (n+1) _ (P++[x]) e (by simp;lia) "e"
  ext
def td{X Z:List Keyed}(k:Nat):X.take k++(X.drop k++Z)=X++Z:=by rw[<-QH,QU]
noncomputable abbrev OU(st:SortSt)(i sa na nb pw:Nat):Array (Nat×Nat×Nat):=((pendingOf st).setIfInBounds i (sa,na+nb,pw)).eraseIdxIfInBounds (i+1)
def Qk0(L:LO lt)(hc:Ask prog w A s κ a₀ lt F)(hk:kindOf st=κ)(hf:failedOf st=none){i sa na pw sb nb p2:Nat}{P X Y R:List Keyed}(h1:(pendingOf st)[i]?=-(sa,na,pw))(h2:(pendingOf st)[i+1]?=-(sb,nb,p2))
  (ha:(arrOf st).toList=P++(X++(Y++R))) (lP:P.length=sa) (lX:X.length=na) (lY:Y.length=nb) (hsb:sb=sa+na) (hna:1<=na) (hnb:1<=nb) (sX:Sd lt F X) (sY:Sd lt F Y) (hm:∀x∈(arrOf st).toList,x∈a₀)
  {Q:Bool->SortSt->Prop} (q:∀(arr:Array Keyed)(g:Nat)(Z:List Keyed),arr.toList=P++(Z++R)->Sd lt F Z->Z.Perm (X++Y)->Q true (SortSt.mk' (kindOf st) arr (OU st i sa na nb pw) g (failedOf st))):wpS (model prog w) A E s (mergeAt' i) Q st:=by
 subst hsb;let q0:Sd lt F (X++Y)->Q true (setPending st (OU st i sa na nb pw)):=λz=>q (arrOf st) (gallopOf st) (X++Y) (by rw[ha];simp) z (List.Perm.refl _)
 let mX:∀x∈X,x∈a₀:=λx hx=>hm x (by rw[ha];simp[hx])
 let mY:∀x∈Y,x∈a₀:=λx hx=>hm x (by rw[ha];simp[hx])
 let ha2:(arrOf st).toList=(P++X)++(Y++R):=by rw[ha];simp
 let aX:∀j,j<X.length->(arrOf st)[sa+j]?=X[j]?:=λj hj=>by rw[<-Qo];show Qva ha lP.symm hj
 let aY:∀j,j<Y.length->(arrOf st)[sa+na+j]?=Y[j]?:=λj hj=>by rw[<-Qo];show Qva ha2 (by simp;lia) hj
 rw[Qfz];show Qk (Qjr ?_);simp only[h1,h2];show Qk (Qzw ?_);let y0:Y[0]?=-(Y[0]'"l"):=Qa "l";generalize Y[0]'"l"=y at y0;let hy:=aY 0 "l";rw[Nat.add_zero,y0]at hy;let ym:y∈Y:=Q6 y0;let d:∀z∈Y,le lt F y z:=λz b=>Sd.head L (l:=Y) (i:=0) (by simpa using sY) y0 z (by simpa using b)
 show Qk (JP hy ?_);show Qk (ZI L hc (st:=setPending st (OU st i sa na nb pw)) (l:=X) hk (mY y ym) lX.symm (show 0<na by lia) aX mX sX λk hk1 g1 g2=>?_);dsimp only;let k1:∀x∈X.take k,le lt F x y:=λx hx=>by let:=g1 x hx;simpa[bey,le]using this
 let k2:∀x∈X.drop k,le lt F y x:=λx hx=>by let:=g2 x hx;show le.of_lt L (by simpa[bey]using this)
 let sXY:Sd lt F (X.take k++X.drop k):=by rw[QU];show sX
 let f:=QK.mp sXY
 by_cases z1:(na-k==0)=true
 ·rw[Qh z1];show Qn (q0 ?_);let ek:na-k=0:=by simpa using z1
  let e1:X.take k=X:=Jh "l";rw[e1]at k1;show QK.mpr ⟨sX,sY,λx hx z b=>(k1 x hx).trans L (d z b)⟩
 ·rw[Qc z1];let n1:=nbeq z1;let x0:X[na-1]?=-(X[na-1]'"l"):=Qa "l";generalize X[na-1]'"l"=x at x0;let hx:=aX (na-1) "l";rw[x0]at hx;let xm:x∈X:=Q6 x0;let e:∀z∈X,le lt F z x:=λz b=>Sd.tail L (l:=X) (n:=na) hna (by rw[Jh "l"];show sX) x0 z (by rw[Jh "l"];show b)
  show Qk (JP (x:=x) (by rw[show sa+k+(na-k)-1=sa+(na-1) by lia];show hx) ?_);show Qk (ZI L hc (st:=setPending st (OU st i sa na nb pw)) (l:=Y) hk (mX x xm) lY.symm (show nb-1<nb by lia) aY mY sY λp hp g3 g4=>?_);dsimp only;let p1:∀z∈Y.take p,le lt F z x:=λz b=>by let:=g3 z b;show le.of_lt L (by simpa[bey]using this)
  let p2:∀z∈Y.drop p,le lt F x z:=λz b=>by let:=g4 z b;simpa[bey,le]using this
  by_cases z2:(p==0)=true
  ·rw[Qh z2];let ep:p=0:=by simpa using z2
   subst ep;show Qn (q0 ?_);show QK.mpr ⟨sX,sY,λu c z b=>(e u c).trans L (p2 z (by simpa using b))⟩
  ·rw[Qc z2];let n2:=nbeq z2;let sYY:Sd lt F (Y.take p++Y.drop p):=by rw[QU];show sY
   let h:=QK.mp sYY;let ha3:(arrOf st).toList=(P++X.take k)++(X.drop k++(Y++R)):=by rw[ha,QH,td]
   let ha4:(arrOf st).toList=(P++X)++(Y.take p++(Y.drop p++R)):=by rw[ha2,td]
   let lk:(X.take k).length=k:=by simp;lia
   let o:((arrOf st).extract (sa+k) (sa+na)).toList=X.drop k:=Qnm ha3 (by simp;lia) (by simp;lia);let t:((arrOf st).extract (sa+na) (sa+na+p)).toList=Y.take p:=Qnm ha4 (by simp;lia) (by simp;lia);let za:((arrOf st).extract (sa+k) (sa+na)).size=na-k:=by rw[<-Jo,o];simp;lia
   let zb:((arrOf st).extract (sa+na) (sa+na+p)).size=p:=by rw[<-Jo,t];simp;lia
   let ha5:(arrOf st).toList=(P++X.take k)++((X.drop k++Y.take p)++(Y.drop p++R)):=by rw[ha3,QH (X.drop k),td]
   let m:∀z,(X.drop k)[na-k-1]?=-z->z=x:=λz b=>by
    rw[List.getElem?_drop,show k+(na-k-1)=na-1 by lia,x0]at b;show(QZ b).symm
   let fin:∀(r:Array Keyed)(g:Nat),Rs lt F ((arrOf st).extract (sa+k) (sa+na)) ((arrOf st).extract (sa+na) (sa+na+p)) r ->
     wpS (model prog w) A E s (do
      modify λs=>setArr s (List.foldl (λa x=>a.setIfInBounds (sa+k+x.snd) x.fst) (arrOf s) r.toList.zipIdx)
      let s'<-get
      pure (failedOf s').isNone) Q (Wx (setPending st (OU st i sa na nb pw)) g):=λr g hr=>by
    let⟨sr,pr⟩:=hr;rw[o,t]at pr;show Qk (YU (Qk (Qjr (Qn ?_))));change Q (failedOf st).isNone (SortSt.mk' (kindOf st) _ (OU st i sa na nb pw) g (failedOf st));let ef:(failedOf st).isNone=true:=by rw[hf];rfl
    rw[ef];show q _ g (X.take k++(r.toList++Y.drop p)) ?_ ?_ ?_
    ·let lr:r.toList.length=(X.drop k++Y.take p).length:=pr.length_eq;rw[over (a:=arrOf st) (P:=P) (R:=Y.drop p++R) r.toList (X.drop k++Y.take p) (sa+k) 0 (arrOf st) (P++X.take k) ha5 (by simp;lia) lr.symm]
     simp
    ·show QK.mpr ⟨f.1,QK.mpr ⟨sr,h.2.1,λu c z b=>?_⟩,λu c z b=>?_⟩
     ·rcases Qt.mp (pr.mem_iff.mp c)with c|c
      ·show(e u (JE c)).trans L (p2 z b)
      ·show h.2.2 u c z b
     ·rcases Qt.mp b with b|b
      ·rcases Qt.mp (pr.mem_iff.mp b)with b|b
       ·show f.2.2 u c z b
       ·show(k1 u c).trans L (d z (Ji b))
      ·show(k1 u c).trans L (d z (JE b))
    ·show((pr.append_right (Y.drop p)).append_left (X.take k)).trans (List.Perm.of_eq ?_);rw[QH (X.drop k),QU,td]
   let MA:∀u∈((arrOf st).extract (sa+k) (sa+na)).toList,u∈a₀:=λu c=>by rw[o]at c;show mX u (JE c)
   let MB:∀u∈((arrOf st).extract (sa+na) (sa+na+p)).toList,u∈a₀:=λu c=>by rw[t]at c;show mY u (Ji c)
   let LA:∀z,((arrOf st).extract (sa+k) (sa+na)).toList[((arrOf st).extract (sa+k) (sa+na)).size-1]?=-z->∀y∈((arrOf st).extract (sa+na) (sa+na+p)).toList,le lt F y z:=λz b v hv=>by
    rw[za,o]at b;rw[t]at hv;rw[m z b];show p1 v hv
   let FB:∀z,((arrOf st).extract (sa+na) (sa+na+p)).toList[0]?=-z->∀v∈((arrOf st).extract (sa+k) (sa+na)).toList,le lt F z v:=λz b v hv=>by
    rw[t,Bb,Qh "l",y0]at b;cases b;rw[o]at hv;show k2 v hv
   let SA:Sd lt F ((arrOf st).extract (sa+k) (sa+na)).toList:=by rw[o];show f.2.1
   let SB:Sd lt F ((arrOf st).extract (sa+na) (sa+na+p)).toList:=by rw[t];show h.1
   by_cases z3:na-k<=p
   ·rw[Qh z3];show Qk (Qjy L hc (st:=setPending st (OU st i sa na nb pw)) hk ⟨MA,MB,LA⟩ SA SB "l" "l" FB fin)
   ·rw[Qc z3];show Qk (Qjz L hc (st:=setPending st (OU st i sa na nb pw)) hk ⟨MA,MB,FB⟩ SA SB "l" "l" LA fin)
end
noncomputable def Jcr(lo a nrem:Nat):StateT SortSt Sem AscSt:=
 forIn [a:nrem] ((none,a):AscSt) λ_ c=>do
  let x<-ltAt' (lo+c.2) (lo+c.2-1)
  match x with
  |some smaller=>if smaller=true then pure (ForInStep.done (none,c.2))else pure (ForInStep.yield (none,c.2+1))
  |_=>pure (ForInStep.done (-none,c.2))
noncomputable def Qqz(lo n nrem:Nat):StateT SortSt Sem (Option Nat):=do
 reverseSlice' lo (lo+n)
 let c<-Jcr lo n nrem
 match c.1 with
 |some r=>pure r|none=>pure (-c.2)
noncomputable def Qzd(lo n nrem:Nat):StateT SortSt Sem DescSt:=
 forIn [n:nrem] ((none,n,0):DescSt) λ_ c=>do
  let x<-ltAt' (lo+c.2.1) (lo+c.2.1-1)
  match x with
  |some smaller =>
   if smaller=true then
    if c.2.2 > 0 then do
     reverseSlice' (lo+c.2.1-(c.2.2+1)) (lo+c.2.1)
     pure (ForInStep.yield (none,c.2.1+1,0))
    else pure (ForInStep.yield (none,c.2.1+1,0))
   else do
    let x<-ltAt' (lo+c.2.1-1) (lo+c.2.1)
    match x with
    |some larger=>if larger=true then pure (ForInStep.done (none,c.2.1,c.2.2))else pure (ForInStep.yield (none,c.2.1+1,c.2.2+1))
    |_=>pure (ForInStep.done (-none,c.2.1,c.2.2))
  |_=>pure (ForInStep.done (-none,c.2.1,c.2.2))
noncomputable def Qs9(lo n nrem:Nat):StateT SortSt Sem (Option Nat):=do
 liftM (rule "list.sort.descending-run")
 let c<-Qzd lo (n+1) nrem
 match c.1 with
 |some r=>pure r|none =>
  if c.2.2 > 0 then do
   reverseSlice' (lo+c.2.1-(c.2.2+1)) (lo+c.2.1)
   Qqz lo c.2.1 nrem
  else Qqz lo c.2.1 nrem
def Qq1(lo nrem:Nat):countRun' lo nrem=(do
  let c<-Jcr lo 1 nrem
  match c.1 with
  |some r=>pure r|none =>
   if(c.2==nrem)=true then pure (-c.2)
   else if c.2 > 1 then do
    let x<-ltAt' lo (lo+c.2-1)
    match x with
    |some rose=>if rose=true then pure (-c.2)else do
      reverseSlice' lo (lo+c.2)
      Qs9 lo c.2 nrem
    |_=>pure none
   else Qs9 lo c.2 nrem):=by
 show bcong () λc=>?_
 let⟨r,n⟩:=c;cases r with
 |some r=>rfl|none =>
  show Jf () (λ_=>rfl) λ_=>Jf () (λ_=>Qs λx=>?_) λ_=>?_
  ·cases x with
   |none=>rfl|some rose =>
    show Jf () (λ_=>rfl) λ_=>Qs λ_=>Qs λ_=>bcong () λa=>?_
    let⟨r,a⟩:=a;cases r with
    |some r=>rfl|none =>
     show Jf () (λ_=>Qs λ_=>?_) λ_=>?_
     ·show Qs λ_=>bcong () λb=>?_
      grind
     ·show Qs λ_=>bcong () λb=>?_
      grind
  ·show Qs λ_=>bcong () λa=>?_
   let⟨r,a⟩:=a;cases r with
   |some r=>rfl|none =>
    show Jf () (λ_=>Qs λ_=>?_) λ_=>?_
    ·show Qs λ_=>bcong () λb=>?_
     grind
    ·show Qs λ_=>bcong () λb=>?_
     grind
section
variable {prog:Program} {w:World} {A:Around} {E:Kh} {s:Shared} {α:Type} {lt:α->α->Bool} {F:Keyed->α} {a₀:List Keyed} {κ:SortKind} {st:SortSt} {x0 xs:Array Keyed} {lo i j k n m nrem:Nat}
noncomputable def ky(F:Keyed->α)(xs:Array Keyed)(i:Nat):α:=F (xs.getD i (Value.none,Value.none))
def Sr(lt:α->α->Bool)(F:Keyed->α)(xs:Array Keyed)(lo k:Nat):Prop:=∀i j,i<=j->j<k->lt (ky F xs (lo+j)) (ky F xs (lo+i))=false
def De(lt:α->α->Bool)(F:Keyed->α)(xs:Array Keyed)(lo k:Nat):Prop:=∀i j,i<=j->j<k->lt (ky F xs (lo+i)) (ky F xs (lo+j))=false
def Eq'(lt:α->α->Bool)(F:Keyed->α)(xs:Array Keyed)(i j:Nat):Prop:=∀a b,i<=a->a<j->i<=b->b<j->lt (ky F xs a) (ky F xs b)=false
structure Pm(x0:Array Keyed)(lo:Nat)(xs:Array Keyed):Prop where
 pm:xs.Perm x0
 pre:∀i,i<lo->xs[i]?=x0[i]?
def Pm.size(h:Pm x0 lo xs):xs.size=x0.size:=h.pm.size_eq
def gd(xs:Array Keyed)(n:Nat):xs.getD n (Value.none,Value.none)=(xs[n]?).getD (Value.none,Value.none):="e"
def Pm.rev(h:Pm x0 lo xs)(hi:lo<=i)(hj:j<=xs.size):Pm x0 lo (mirror xs i j ((j-i) / 2)):=⟨(mirror_perm ..).trans h.pm,λk a=>by rw[getElem?_mirror_all hj k,Qc "l"];show h.pre k a⟩
def G0(hj:j<=xs.size)(k:Nat):ky F (mirror xs i j ((j-i) / 2)) k=if i<=k/\k<j then ky F xs (i+j-1-k)else ky F xs k:=by
 let e:=getElem?_mirror_all (i:=i) hj k;unfold ky;rw[gd,e];split<;>rw[gd]
def Sr.snoc(L:LO lt)(h:Sr lt F xs lo k)(hk:1<=k)(e:lt (ky F xs (lo+k)) (ky F xs (lo+k-1))=false):Sr lt F xs lo (k+1):=λi j a b=>by
 by_cases z:j=k
 ·subst z
  by_cases y:i=j
  ·subst y;show L.irr _
  ·let:=h i (j-1) "l" "l";rw[show lo+(j-1)=lo+j-1 by lia]at this;show L.tr _ _ _ this e
 ·show h i j a "l"
def De.snoc(L:LO lt)(h:De lt F xs lo k)(hk:1<=k)(e:lt (ky F xs (lo+k-1)) (ky F xs (lo+k))=false):De lt F xs lo (k+1):=λi j a b=>by
 by_cases z:j=k
 ·subst z
  by_cases y:i=j
  ·subst y;show L.irr _
  ·let:=h i (j-1) "l" "l";rw[show lo+(j-1)=lo+j-1 by lia]at this;show L.tr _ _ _ e this
 ·show h i j a "l"
def De.rev(L:LO lt){i j:Nat}(hi:lo<=i)(hj:j<=xs.size)(hjk:j<=lo+k)(h:De lt F xs lo k)(e:Eq' lt F xs i j):De lt F (mirror xs i j ((j-i) / 2)) lo k:=by
 intro a b d hb;rw[G0 hj,G0 hj];let f:∀u v,lo<=u->u<=v->v<lo+k->lt (ky F xs u) (ky F xs v)=false:=λu v g l h3=>by
  let:=h (u-lo) (v-lo) "o" "o";rwa [show lo+(u-lo)=u by omega,show lo+(v-lo)=v by omega]at this
 by_cases ha:i<=lo+a/\lo+a<j
 ·rw[Qh ha]
  by_cases c:i<=lo+b/\lo+b<j
  ·rw[Qh c];show e _ _ "o" "o" "o" "o"
  ·rw[Qc c];show f _ _ "o" "o" "o"
 ·rw[Qc ha]
  by_cases c:i<=lo+b/\lo+b<j
  ·rw[Qh c];show f _ _ "o" "o" "o"
  ·rw[Qc c];show h a b d hb
def De.turn(hn:lo+n<=xs.size)(h:De lt F xs lo n):Sr lt F (mirror xs lo (lo+n) ((lo+n-lo) / 2)) lo n:=by
 intro i j a b;rw[G0 hn,G0 hn,Qh ⟨"l","l"⟩,Qh ⟨"l","l"⟩];let:=h (n-1-j) (n-1-i) "l" "l"
 grind
def By(hc:Ask prog w A s κ a₀ lt F)(hk:kindOf st=κ)(hm:∀x∈x0.toList,x∈a₀)(h:Pm x0 lo xs)(hi:i<x0.size)(hj:j<x0.size)(q:Q (-(lt (ky F xs i) (ky F xs j))) (setArr st xs)):wpS (model prog w) A E s (ltAt' i j) Q (setArr st xs):=by
 show Qk (Qjr ?_);let b:=h.size;let one:∀i,i<x0.size->∃x,xs[i]?=-x/\x∈a₀/\ky F xs i=F x:=λi hi=>by
  let a:i<xs.size:="l"
  show⟨xs[i],by simp[a],hm _ ?_,by unfold ky;ext⟩;let:=h.pm.mem_iff.mp (Array.getElem_mem a)
  ext
 let⟨x,hx,c,ex⟩:=one i hi;let⟨y,hy,d,e⟩:=one j hj;rw[ex,e]at q;show Qk (JP hx (Qk (JP hy (Qh2 hc (st:=setArr st xs) c d hk q))))
def Qeq(h:Q ⟨⟩ (setArr st (mirror xs i j ((j-i) / 2)))):wpS (model prog w) A E s (reverseSlice' i j) Q (setArr st xs):=by
 show YU h
variable {a:Nat}
def Qlx(L:LO lt)(hc:Ask prog w A s κ a₀ lt F)(hk:kindOf st=κ)(hm:∀x∈x0.toList,x∈a₀)(h:Pm x0 lo xs)(h1:1<=a)(ha:a<=nrem)(hn:lo+nrem<=x0.size)(hs:Sr lt F xs lo a)
  (q:∀n,a<=n->n<=nrem->Sr lt F xs lo n->(n=nrem\/lt (ky F xs (lo+n)) (ky F xs (lo+n-1))=true)->Q (none,n) (setArr st xs)):wpS (model prog w) A E s (Jcr lo a nrem) Q (setArr st xs):=by
 show JN (I:=λx c b=>b=setArr st xs/\c=(none,x)/\Sr lt F xs lo x) ?step ?fin ⟨(),(),hs⟩
 case fin =>
  ext
 case step =>
  rintro x c b e f ⟨rfl,rfl,d⟩;show Qk (By hc hk hm h "l" "l" ?_);cases g:lt (ky F xs (lo+x)) (ky F xs (lo+x-1))with
  |true =>
   show Qn (q x e "l" d (.inr g))
  |false =>
   show Qn ⟨(),(),d.snoc L "l" g⟩
def Qgz(L:LO lt)(hc:Ask prog w A s κ a₀ lt F)(hk:kindOf st=κ)(hm:∀x∈x0.toList,x∈a₀)(h:Pm x0 lo xs)(h1:1<=n)(hn1:n<=nrem)(hn:lo+nrem<=x0.size)(hd:De lt F xs lo n)
  (q:∀m ys,Pm x0 lo ys->1<=m->m<=nrem->Sr lt F ys lo m->Q (-m) (setArr st ys)):wpS (model prog w) A E s (Qqz lo n nrem) Q (setArr st xs):=by
 let e:=h.size;show Qk (Qeq ?_);let d:=h.rev (Q5 lo) (show lo+n<=xs.size by lia);show Qk (Qlx L hc hk hm d h1 hn1 hn (hd.turn "l") λm a b c _=>Qn (q m _ d "l" b c))
def Qub(L:LO lt)(m:Nat):Eq' lt F xs m (m+1):=λa b _ _ _ _=>by
 let c:a=m:="l"
 let d:b=m:="l"
 subst c d;show L.irr _
def Qqq(L:LO lt)(hc:Ask prog w A s κ a₀ lt F)(hk:kindOf st=κ)(hm:∀x∈x0.toList,x∈a₀)(h:Pm x0 lo xs)(h1:1<=n)(hn1:n<=nrem)(hn:lo+nrem<=x0.size)(hd:De lt F xs lo n)
  (q:∀m c ys,Pm x0 lo ys->n<=m->m<=nrem->c+1<=m->De lt F ys lo m->Eq' lt F ys (lo+m-(c+1)) (lo+m)->Q (none,m,c) (setArr st ys)):wpS (model prog w) A E s (Qzd lo n nrem) Q (setArr st xs):=by
 show JN (I:=λx c j=>∃e ys,c=(none,x,e)/\j=setArr st ys/\Pm x0 lo ys/\e+1<=x/\De lt F ys lo x/\Eq' lt F ys (lo+x-(e+1)) (lo+x)) ?step ?fin ⟨0,xs,(),(),h,h1,hd,?init⟩
 case init =>
  let:=Qub (F:=F) (xs:=xs) L (lo+n-1)
  grind
 case fin =>
  ext
 case step =>
  rintro x c j l p ⟨e,ys,rfl,rfl,f,r,d,i⟩;dsimp only;let t:=f.size;show Qk (By hc hk hm f "l" "l" ?_);let one:=λu=>by
   let:=Qub (F:=F) (xs:=u) L (lo+x);show this
  cases g:lt (ky F ys (lo+x)) (ky F ys (lo+x-1))with
  |true =>
   let o:=L.asy _ _ g
   by_cases k:e > 0
   ·rw[Qh k];show Qk (Qeq (Qn ⟨0,_,(),(),f.rev "l" "l","l",?_,one _⟩));show De.snoc L (d.rev L "l" "l" "l" i) "l" ?_;rw[G0 "l",G0 "l",Qh ⟨"l","l"⟩,Qc "l"];show L.tr _ _ _ o (i _ _ "l" "l" "l" "l")
   ·rw[Qc k];show Qn ⟨0,ys,(),(),f,"l",d.snoc L "l" o,one _⟩
  |false =>
   show Qk (By hc hk hm f "l" "l" ?_);cases g2:lt (ky F ys (lo+x-1)) (ky F ys (lo+x))with
   |true =>
    show Qn (q x e ys f l "l" r d i)
   |false =>
    show Qn ⟨e+1,ys,(),(),f,"l",d.snoc L "l" g2,?_⟩;intro a b ha hb Kl v;let up:∀a,lo+x-(e+1)<=a->a<lo+x->lt (ky F ys a) (ky F ys (lo+x))=false/\lt (ky F ys (lo+x)) (ky F ys a)=false:=λa h3 h4 =>
     ⟨L.tr _ _ _ g2 (i a (lo+x-1) "l" "l" "l" "l"),L.tr _ _ _ (i (lo+x-1) a "l" "l" "l" "l") g⟩
    by_cases z:a=lo+x
    ·subst z
     by_cases y:b=lo+x
     ·subst y;show L.irr _
     grind
    ·by_cases y:b=lo+x
     ·grind
     ·show i a b "l" "l" "l" "l"
def Qh1(L:LO lt)(hc:Ask prog w A s κ a₀ lt F)(hk:kindOf st=κ)(hm:∀x∈x0.toList,x∈a₀)(h:Pm x0 lo xs)(hn1:n+1<=nrem)(hn:lo+nrem<=x0.size)(hd:De lt F xs lo (n+1))
  (q:∀m ys,Pm x0 lo ys->1<=m->m<=nrem->Sr lt F ys lo m->Q (-m) (setArr st ys)):wpS (model prog w) A E s (Qs9 lo n nrem) Q (setArr st xs):=by
 show Qk (wpS_lift (WD ⟨(),?_⟩));show Qk (Qqq L hc hk hm h "l" hn1 hn hd λm c ys f a b e d g=>?_);dsimp only;let j:=f.size
 by_cases i:c > 0
 ·rw[Qh i];show Qk (Qeq (Qgz L hc hk hm (f.rev "l" "l") "l" b hn (d.rev L "l" "l" "l" g) q))
 ·rw[Qc i];show Qgz L hc hk hm f "l" b hn d q
def Qqr(L:LO lt)(hc:Ask prog w A s κ a₀ lt F)(hk:kindOf st=κ)(hm:∀x∈x0.toList,x∈a₀)(h:Pm x0 lo xs)(h1:1<=nrem)(hn:lo+nrem<=x0.size)
  (q:∀m ys,Pm x0 lo ys->1<=m->m<=nrem->Sr lt F ys lo m->Q (-m) (setArr st ys)):wpS (model prog w) A E s (countRun' lo nrem) Q (setArr st xs):=by
 rw[Qq1];let k:=h.size;show Qk (Qlx L hc hk hm h (Q5 1) h1 hn (λi j a b=>?_) λn a b c d=>?_)
 ·let e:i=0:="l"
  let l:j=0:="l"
  subst e l;show L.irr _
 ·by_cases z:n=nrem
  ·rw[Qh "g"];show Qn (q n xs h a b c)
  ·rw[Qc "g"];let Kt:=d.resolve_left z;let hl:=L.asy _ _ Kt
   by_cases y:n > 1
   ·rw[Qh y];show Qk (By hc hk hm h "l" "l" ?_);cases g:lt (ky F xs lo) (ky F xs (lo+n-1))with
    |true =>
     show Qn (q n xs h a b c)
    |false =>
     let f:∀u v,lo<=u->u<=v->v<lo+n->lt (ky F xs v) (ky F xs u)=false:=λu v h1 o h3=>by
      let:=c (u-lo) (v-lo) "l" "l"
      grind
     let eq:Eq' lt F xs lo (lo+n):=λa b h3 h4 h5 r=>L.tr _ _ _ (f b (lo+n-1) h5 "l" "l") (L.tr _ _ _ g (f lo a (Q5 _) h3 h4))
     let p:De lt F xs lo n:=λi j o h3=>eq _ _ "l" "l" "l" "l"
     show Qk (Qeq (Qh1 L hc hk hm (h.rev (Q5 _) "l") "l" hn ?_ q));show De.snoc L (p.rev L (Q5 _) "l" (Q5 _) eq) "l" ?_;rw[G0 "l",G0 "l",Qh ⟨"l","l"⟩,Qc "l"];show L.tr _ _ _ hl (eq _ _ "l" "l" "l" "l")
   ·let e:n=1:="l"
    subst e;show Qh1 L hc hk hm h "l" hn (λi j h3 h4=>?_) q;let:(i=0/\j=0)\/(i=0/\j=1)\/(i=1/\j=1):="l"
    rcases this with⟨rfl,rfl⟩|⟨rfl,rfl⟩|⟨rfl,rfl⟩
    ·show L.irr _
    ·show hl
    ·show L.irr _
def Qtp{d:Nat}(hk:k<xs.size)(hd:d<=k)(i:Nat):ky F (bubble xs k d) i=if i=k-d then ky F xs k else if k-d<i/\i<=k then ky F xs (i-1)else ky F xs i:=by
 let e:=getElem?_bubble hk d hd i;unfold ky;rw[gd,e,gd,gd,gd]
 by_cases a:i=k-d
 ·rw[Qh a,Qh a]
 ·rw[Qc a,Qc a]
  by_cases b:k-d<i/\i<=k
  ·rw[Qh b,Qh b]
  ·rw[Qc b,Qc b]
def Qzx(L:LO lt)(hc:Ask prog w A s κ a₀ lt F)(hk:kindOf st=κ)(hm:∀x∈x0.toList,x∈a₀)(h:Pm x0 lo xs)(h1:1<=m)(hmn:m<=n)(hn:lo+n<=x0.size)(hs:Sr lt F xs lo m)
  (q:∀ys,Pm x0 lo ys->Sr lt F ys lo n->Q true (setArr st ys)):wpS (model prog w) A E s (binarySort' lo n m) Q (setArr st xs):=by
 rw[binarySort'_eq];rw[show max m 1=m by lia];show Qk (YT (JN (I:=λk c a=>c=(none,⟨⟩)/\∃ys,a=setArr st ys/\Pm x0 lo ys/\Sr lt F ys lo k) (Q:=λc a=>c=(none,⟨⟩)/\∃ys,a=setArr st ys/\Pm x0 lo ys/\Sr lt F ys lo n) ?step ?fin ⟨(),xs,(),h,hs⟩) ?post)
 case fin =>
  ext
 case post =>
  rintro c a ⟨rfl,ys,rfl,f,b⟩;show Qn (q ys f b)
 case step =>
  rintro k c a hmk hkn ⟨rfl,ys,rfl,f,b⟩;let hsz:=f.size;show Qk (YT (JN (I:=λx c a=>a=setArr st ys/\∃l u,c=(none,l,u)/\l<=u/\u<=k/\u-l<=k-x/\(∀i,i<l->lt (ky F ys (lo+k)) (ky F ys (lo+i))=false)/\(∀i,u<=i->i<k->lt (ky F ys (lo+k)) (ky F ys (lo+i))=true))
   (Q:=λc a=>a=setArr st ys/\∃l u,c=(none,l,u)/\l<=k/\(∀i,i<l->lt (ky F ys (lo+k)) (ky F ys (lo+i))=false)/\(∀i,l<=i->i<k->lt (ky F ys (lo+k)) (ky F ys (lo+i))=true)) ?step2 ?fin2 ⟨(),0,k,(),"l","l","l",λi hi=>by lia,λi h3 h4=>by lia⟩) ?post2)
  case fin2 =>
   rintro c a ⟨rfl,l,u,rfl,a1,a2,a3,p,r⟩
   grind
  case step2 =>
   rintro x c a _ hx ⟨rfl,l,u,rfl,a1,a2,a3,p,r⟩;dsimp only
   by_cases z:l ≥ u
   ·rw[Qh z];let e:l=u:="l"
    subst e;show Qn ⟨(),l,l,(),a2,p,r⟩
   ·rw[Qc z];show Qk (By hc hk hm f "l" "l" ?_);cases g:lt (ky F ys (lo+k)) (ky F ys (lo+(l+u) / 2))with
    |true =>
     show Qn ⟨(),_,_,(),"l","l","l",p,λi h4 h5=>?_⟩;cases y:lt (ky F ys (lo+k)) (ky F ys (lo+i))with
     |true=>rfl|false =>
      let:=L.tr _ _ _ (b ((l+u) / 2) i h4 h5) y
      ext
    |false =>
     show Qn ⟨(),_,_,(),"l","l","l",λi h4=>L.tr _ _ _ (b i ((l+u) / 2) "l" "l") g,r⟩
  case post2 =>
   rintro c a ⟨rfl,l,u,rfl,hl,hlo,t⟩;dsimp only;show Qk (YU (Qn ⟨(),bubble ys (lo+k) (lo+k-(lo+l)),(),⟨(bubble_perm ..).trans f.pm,λi hi=>?_⟩,λi j v hj=>?_⟩))
   ·rw[getElem?_bubble "l" _ "l" i,Qc "l",Qc "l"];show f.pre i hi
   ·rw[Qtp "l" "l",Qtp "l" "l"];rw[show lo+k-(lo+k-(lo+l))=lo+l by lia]
    by_cases hi:lo+i=lo+l
    ·rw[Qh hi]
     by_cases d:lo+j=lo+l
     ·rw[Qh d];show L.irr _
     ·rw[Qc d,Qh ((⟨"l","l"⟩))];let:=t (j-1) "l" "l";rw[show lo+(j-1)=lo+j-1 by lia]at this;show L.asy _ _ this
    ·rw[Qc hi]
     by_cases o:lo+l<lo+i/\lo+i<=lo+k
     ·rw[Qh o,Qc (show ¬ lo+j=lo+l by lia),Qh ((⟨"l","l"⟩))];let:=b (i-1) (j-1) "l" "l"
      grind
     ·rw[Qc o]
      by_cases d:lo+j=lo+l
      ·grind
      ·rw[Qc d]
       by_cases hj2:lo+l<lo+j/\lo+j<=lo+k
       ·let:=b i (j-1) "l" "l"
        grind
       ·rw[Qc hj2];show b _ _ v "l"
end
abbrev US:=Option Unit×Unit
noncomputable def mL(size pw:Nat):StateT SortSt Sem US:=
 forIn [0:size] ((none,⟨⟩):US) λ_ _=>do
  let s<-get
  match(if(pendingOf s).size > 1 then(pendingOf s)[(pendingOf s).size-2]? else none)with
  |some (_,_,older) =>
   if older<=pw then pure (ForInStep.done (none,⟨⟩))
   else do
    let b<-mergeAt' ((pendingOf s).size-2)
    if(!b)=true then pure (ForInStep.done (-⟨⟩,⟨⟩))else pure (ForInStep.yield (none,⟨⟩))
  |_=>pure (ForInStep.done (none,⟨⟩))
noncomputable def kont(size lo n:Nat):StateT SortSt Sem (ForInStep (Option Unit×Nat)):=do
 let s<-get
 match(pendingOf s).back? with
 |some (s1,n1,_)=>do
  let c<-mL size (power' size (2*s1+n1) (2*s1+n1+n1+n) size)
  match c.1 with
  |some r=>pure (ForInStep.done (-r,lo))|none=>do
   modify λs=>setPending s ((pendingOf s).modify ((pendingOf s).size-1) λx=>(x.1,x.2.1,power' size (2*s1+n1) (2*s1+n1+n1+n) size))
   modify λs=>setPending s ((pendingOf s).push (lo,n,0))
   pure (ForInStep.yield (none,lo+n))
 |_=>do
  modify λs=>setPending s ((pendingOf s).push (lo,n,0))
  pure (ForInStep.yield (none,lo+n))
noncomputable def Jca(p:Array (Nat×Nat×Nat)):Nat:=
 if(if p.size-2 > 0 then p[p.size-2-1]?.map (·.2.1)else none).any (λx=>decide (x<(p[p.size-2+1]?.elim 0 (·.2.1))))=true then p.size-2-1 else p.size-2
noncomputable def fL(size:Nat):StateT SortSt Sem US:=
 forIn [0:size] ((none,⟨⟩):US) λ_ _=>do
  let s<-get
  if(pendingOf s).size<=1 then pure (ForInStep.done (none,⟨⟩))
  else do
   let b<-mergeAt' (Jca (pendingOf s))
   if(!b)=true then pure (ForInStep.done (-⟨⟩,⟨⟩))else pure (ForInStep.yield (none,⟨⟩))
def Qex:sortRuns'=(do
  let s0<-get
  let c<-forIn [0:(arrOf s0).size] ((none,0):Option Unit×Nat) λ_ c =>
   if c.2 ≥ (arrOf s0).size then pure (ForInStep.done (none,c.2))
   else do
    let x<-countRun' c.2 ((arrOf s0).size-c.2)
    match x with
    |some Kx =>
     if Kx<minRun' (arrOf s0).size (arrOf s0).size 0 then do
      liftM (rule "list.sort.binary-insertion")
      let b<-binarySort' c.2 (min ((arrOf s0).size-c.2) (minRun' (arrOf s0).size (arrOf s0).size 0)) Kx
      if(!b)=true then pure (ForInStep.done (-⟨⟩,c.2))else kont (arrOf s0).size c.2 (min ((arrOf s0).size-c.2) (minRun' (arrOf s0).size (arrOf s0).size 0))
     else kont (arrOf s0).size c.2 Kx
    |_=>pure (ForInStep.done (-⟨⟩,c.2))
  match c.1 with
  |some r=>pure r|none=>do
   let c<-fL (arrOf s0).size
   match c.1 with
   |some r=>pure r
   |none=>pure ⟨⟩):=by
 rw[sortRuns'_eq];show Qs λs0=>bcong (fcong λ_ c=>Jf () (λ_=>rfl) λ_=>Qs λx=>?_) λc=>?_
 ·cases x with
  |none=>rfl|some Kx =>
   show Jf () (λ_=>Qs λ_=>Qs λb=>Jf () (λ_=>rfl) λ_=>?_) λ_=>?_
   all_goals
    show Qs λe=>?_
    cases(pendingOf e).back? with
    |none=>rfl|some t =>
     let⟨e,f,g⟩:=t;show bcong (fcong λ_ c=>Qs λd=>?_) λa=>?_
     ·dsimp only;cases(if(pendingOf d).size > 1 then(pendingOf d)[(pendingOf d).size-2]? else none)<;>rfl
     ·let⟨r,a⟩:=a;cases r<;>rfl
 ·let⟨r,c⟩:=c;cases r with
  |some r=>rfl|none =>
   show bcong (fcong λ_ c=>Qs λd=>Jf () (λ_=>rfl) λ_=>?_) λa=>?_
   ·rfl
   ·let⟨r,a⟩:=a;cases r<;>rfl
section
variable {prog:Program} {w:World} {A:Around} {E:Kh} {s:Shared} {α:Type} {lt:α->α->Bool} {F:Keyed->α} {a₀:List Keyed} {κ:SortKind} {st:SortSt}
abbrev Run:=Nat×Nat×Nat
def Blk(lt:α->α->Bool)(F:Keyed->α):Nat->List Run->List (List Keyed)->Prop
 |_,[],Bs=>Bs=[]|s,t::r,Bs=>∃B Bs',Bs=B::Bs'/\t.1=s/\t.2.1=B.length/\1<=B.length/\Sd lt F B/\Blk lt F (s+B.length) r Bs'
theorem Blk.split:∀(P P':List Run){s:Nat}{Bs:List (List Keyed)},Blk lt F s (P++P') Bs->∃B1 B2,Bs=B1++B2/\Blk lt F s P B1/\Blk lt F (s+B1.flatten.length) P' B2
 |[],P',s,Bs,h=>⟨[],Bs,(),(),h⟩|t::P,P',s,Bs,h=>by
  let⟨B,Bs',rfl,a,b,h3,h4,h5⟩:=h;let⟨B1,B2,rfl,g1,g2⟩:=Blk.split P P' h5;show⟨B::B1,B2,(),⟨B,B1,(),a,b,h3,h4,g1⟩,?_⟩;rw[List.flatten_cons,QG,<-Nat.add_assoc];show g2
theorem Blk.join:∀{P P':List Run}{s:Nat}{B1 B2:List (List Keyed)},Blk lt F s P B1->Blk lt F (s+B1.flatten.length) P' B2->Blk lt F s (P++P') (B1++B2)
 |[],P',s,B1,B2,h,g=>by
  cases(show B1=[]from h);show g
 |t::P,P',s,B1,B2,h,g=>by
  let⟨B,Bs',rfl,a,b,h3,h4,h5⟩:=h;show⟨B,Bs'++B2,(),a,b,h3,h4,Blk.join h5 ?_⟩;rw[List.flatten_cons,QG,<-Nat.add_assoc]at g;show g
theorem Blk.len:∀{P:List Run}{s:Nat}{Bs:List (List Keyed)},Blk lt F s P Bs->P.length=Bs.length/\P.length<=Bs.flatten.length
 |[],s,Bs,h=>by
  cases((h))
  ext
 |t::P,s,Bs,h=>by
  let⟨B,Bs',rfl,a,b,h3,h4,h5⟩:=h;let:=Blk.len h5
  grind
structure RI(lt:α->α->Bool)(F:Keyed->α)(a₀:List Keyed)(κ:SortKind)(st:SortSt)(Bs:List (List Keyed))(R:List Keyed):Prop where
 kind:kindOf st=κ
 fail:failedOf st=none
 pm:(arrOf st).toList.Perm a₀
 ar:(arrOf st).toList=Bs.flatten++R
 bl:Blk lt F 0 (pendingOf st).toList Bs
def RI.size(h:RI lt F a₀ κ st Bs R):(arrOf st).size=a₀.length:=by show h.pm.length_eq
def Qwu{p:Array Run}{i:Nat}(h:i+1<p.size):∃P t1 t2 P2,p.toList=P++(t1::t2::P2)/\P.length=i/\p[i]?=-t1/\p[i+1]?=some t2:=by
 let hl:i+1<p.toList.length:=by simpa using h
 show⟨p.toList.take i,p.toList[i],p.toList[i+1],p.toList.drop (i+2),?_,by simp;lia,"s","s"⟩;rw[<-Bw hl,<-Bw "l",QU]
def Qhw{p:Array Run}(h:p.toList=P++(t1::t2::P2))(hi:P.length=i):((p.setIfInBounds i v).eraseIdxIfInBounds (i+1)).toList=P++(v::P2):=by
 let b:p.size=P.length+(P2.length+2):=by rw[<-Jo,h];simp
 let a:(p.setIfInBounds i v).toList=P++(v::t2::P2):=by
  ext
 unfold Array.eraseIdxIfInBounds;rw[dif_pos "e",Array.toList_eraseIdx,a,<-hi];rw[List.eraseIdx_append_of_length_le "l",Qa9];rfl
def Qd8(L:LO lt)(hc:Ask prog w A s κ a₀ lt F)(h:RI lt F a₀ κ st Bs R)(hi:i+1<(pendingOf st).size)
  (q:∀st' Bs',RI lt F a₀ κ st' Bs' R->(pendingOf st').size+1=(pendingOf st).size->Bs'.flatten.length=Bs.flatten.length->Q true st'):wpS (model prog w) A E s (mergeAt' i) Q st:=by
 let⟨P,j,k,P2,c,l,g1,g2⟩:=Qwu hi;let bl:=h.bl;rw[c]at bl;let⟨B1,B2,rfl,m,n⟩:=Blk.split P _ bl;let⟨X,B3,rfl,a,d,y,o,p⟩:=n;let⟨Y,B4,rfl,r,e,z,t,b4⟩:=p;let⟨sa,na,pw⟩:=j;let⟨sb,nb,p2⟩:=k;dsimp only at a d r e;rw[Nat.zero_add]at a;let ar:=h.ar;let b:(arrOf st).toList=B1.flatten++(X++(Y++(B4.flatten++R))):="g"
 show Qk0 L hc h.kind h.fail g1 g2 b a.symm d.symm e.symm "l" "l" "l" o t (λx hx=>h.pm.mem_iff.mp hx) λu g Z e1 v f=>q _ (B1++(Z::B4)) ⟨h.kind,h.fail,?_,?_,?_⟩ ?_ ?_
 ·show List.Perm.trans ?_ h.pm
  grind
 ·grind
 ·rw[Qhw c l];let lz:Z.length=X.length+Y.length:=by let:=f.length_eq;ext
  show m.join ⟨Z,B4,(),"l","e","l",v,?_⟩
  grind
 ·grind
 ·let:=f.length_eq
  grind
def Jcu(L:LO lt)(hc:Ask prog w A s κ a₀ lt F){Bs:List (List Keyed)}{R:List Keyed}(h:RI lt F a₀ κ st Bs R){n pw:Nat}{Q:US->SortSt->Prop}
  (q:∀st' Bs',RI lt F a₀ κ st' Bs' R->Bs'.flatten.length=Bs.flatten.length->Q (none,⟨⟩) st'):wpS (model prog w) A E s (mL n pw) Q st:=by
 unfold mL;show JN (I:=λx c st'=>c=(none,⟨⟩)/\∃Bs',RI lt F a₀ κ st' Bs' R/\Bs'.flatten.length=Bs.flatten.length) ?step ?fin ⟨(),Bs,h,()⟩
 case fin =>
  rintro c st' ⟨rfl,Bs',b,e⟩;show q st' Bs' b e
 case step =>
  rintro x c st' _ _ ⟨rfl,Bs',b,e⟩;show Qk (Qjr ?_)
  by_cases z:(pendingOf st').size > 1
  ·rw[Qh z];let d:(pendingOf st').size-2<(pendingOf st').size:="l"
   let f:(pendingOf st')[(pendingOf st').size-2]?=-(pendingOf st')[(pendingOf st').size-2]:=by simp[d]
   rw[f];generalize(pendingOf st')[(pendingOf st').size-2]=t;let⟨j,k,a⟩:=t;dsimp only
   by_cases y:a<=pw
   ·rw[Qh y];show Qn (q st' Bs' b e)
   ·rw[Qc y];show Qk (Qd8 L hc b "l" λg B2 i l m=>?_);simp only[Od,QE,JU];show Qn ⟨(),B2,i,"l"⟩
  ·rw[Qc z];show Qn (q st' Bs' b e)
theorem Qv4:∀{P:List Run}{s:Nat}{Bs:List (List Keyed)}(i:Nat),Blk lt F s P Bs->Blk lt F s (P.modify i λx=>(x.1,x.2.1,v)) Bs
 |[],s,Bs,i,h=>by
  ext
 |t::P,s,Bs,0,h=>by
  let⟨B,Bs',rfl,a,b,h3,h4,h5⟩:=h;show⟨B,Bs',(),a,b,h3,h4,h5⟩
 |t::P,s,Bs,i+1,h=>by
  let⟨B,Bs',rfl,a,b,h3,h4,h5⟩:=h;show⟨B,Bs',(),a,b,h3,h4,Qv4 i h5⟩
def RI.push{n lo:Nat}(h:RI lt F a₀ κ st Bs R)(hlo:lo=Bs.flatten.length)(h1:1<=n)(hn:n<=R.length)(sd:Sd lt F (R.take n)):RI lt F a₀ κ (setPending st ((pendingOf st).push (lo,n,0))) (Bs++[R.take n]) (R.drop n):=by
 show⟨h.kind,h.fail,h.pm,?_,?_⟩
 ·rw[h.ar]
  simp
 ·rw[Wq];let l:(R.take n).length=n:=by simp;lia
  show h.bl.join ⟨R.take n,[],(),"l",l.symm,"l",sd,()⟩
def Qvy(L:LO lt)(hc:Ask prog w A s κ a₀ lt F){n lo size:Nat}(h:RI lt F a₀ κ st Bs R)(hlo:lo=Bs.flatten.length)(h1:1<=n)(hn:n<=R.length)(sd:Sd lt F (R.take n))
  (q:∀st' Bs',RI lt F a₀ κ st' Bs' (R.drop n)->Bs'.flatten.length=lo+n->Q (ForInStep.yield (none,lo+n)) st'):wpS (model prog w) A E s (kont size lo n) Q st:=by
 show Qk (Qjr ?_);cases(pendingOf st).back? with
 |none =>
  show Qk (YU (Qn (q _ _ (h.push hlo h1 hn sd) "e")))
 |some t =>
  let⟨c,b,f⟩:=t;show Qk (Jcu L hc h λst' Bs' a e=>?_);show Qk (YU (Qk (YU (Qn ?_))));let d:RI lt F a₀ κ (setPending st' ((pendingOf st').modify ((pendingOf st').size-1) λx=>(x.1,x.2.1,power' size (2*c+b) (2*c+b+b+n) size))) Bs' R:=⟨a.kind,a.fail,a.pm,a.ar,by
   rw[Array.toList_modify];show Qv4 _ a.bl⟩
  show q _ _ (d.push "l" h1 hn sd) "e"
def Jd9{lo n:Nat}(h:ys.toList=P++R)(hl:lo=P.length)(hs:Sr lt F ys lo n):Sd lt F (R.take n):=by
 show JM.mpr λi j hi d c=>?_
 let a:j<n/\j<R.length:="g"
 let at':∀k(b:k<R.length),ky F ys (lo+k)=F R[k]:=λk b=>by
  unfold ky;rw[gd,<-Qo,h,hl,J4 "l",Qa9,Qa b];rfl
 let:=hs i j "l" a.1;rw[at' i "l",at' j a.2]at this;simpa[le]using this
def Qrw{x0 ys:Array Keyed}{P R:List Keyed}{lo:Nat}(h:x0.toList=P++R)(hl:lo=P.length)(hp:Pm x0 lo ys):∃R',ys.toList=P++R'/\R'.length=R.length:=by
 let a:=hp.size;let e:ys.toList.take lo=P:=by
  show W3 λi=>?_
  rw[Bb]
  by_cases z:i<lo
  ·rw[Qh z,Qo,hp.pre i z,<-Qo,h,QN "l"]
  ·rw[Qc z,Wc "l"]
 show⟨ys.toList.drop lo,by rw[<-e];simp[QU],?_⟩;let:x0.size=P.length+R.length:=by rw[<-Jo,h];simp
 simp
 lia
def Qh0(L:LO lt)(hc:Ask prog w A s κ a₀ lt F)(hk:kindOf st=κ)(hf:failedOf st=none)(hp:pendingOf st= #[])(ha:(arrOf st).toList=a₀)(h1:1<=a₀.length){Q:Unit->SortSt->Prop}
  (q:∀st',(arrOf st').toList.Perm a₀->failedOf st'=none->Sd lt F (arrOf st').toList->Q ⟨⟩ st'):wpS (model prog w) A E s sortRuns' Q st:=by
 rw[Qex];show Qk (Qjr ?_);let hN:(arrOf st).size=a₀.length:=by rw[<-ha];simp
 rw[hN];let h0:RI lt F a₀ κ st [] a₀:=⟨hk,hf,by rw[ha],by rw[ha];rfl,by rw[hp];rfl⟩;show Qk (YT (JN (I:=λx c st'=>c.1=none/\x<=c.2/\∃Bs R,RI lt F a₀ κ st' Bs R/\c.2=Bs.flatten.length) (Q:=λc st'=>c.1=none/\∃Bs,RI lt F a₀ κ st' Bs []) ?step ?fin ⟨(),Q5 _,[],a₀,h0,()⟩) ?post)
 case fin =>
  rintro c st' ⟨e,hx,Bs,R,h,g⟩;let hl:=h.size;rw[<-Jo,h.ar,QG]at hl;let:R=[]:=Yv.mp "l";subst this;show⟨e,Bs,h⟩
 case step =>
  rintro x c st' _ hx ⟨e,hxc,Bs,R,h,g⟩;let hl:=h.size;rw[<-Jo,h.ar,QG]at hl
  by_cases z:c.2 ≥ a₀.length
  ·rw[Qh z];let:R=[]:=Yv.mp "l";subst this;show Qn ⟨(),Bs,h⟩
  ·rw[Qc z];let u:∀x∈(arrOf st').toList,x∈a₀:=λx hx=>h.pm.mem_iff.mp hx
   let hsz:=h.size;let fin:∀(n:Nat)(j:Array Keyed),Pm (arrOf st') c.2 j->1<=n->n<=a₀.length-c.2->Sr lt F j c.2 n->∀{Q':ForInStep (Option Unit×Nat)->SortSt->Prop},(∀d B2 R2,RI lt F a₀ κ d B2 R2->B2.flatten.length=c.2+n->Q' (ForInStep.yield (none,c.2+n)) d) ->
     wpS (model prog w) A E s (kont a₀.length c.2 n) Q' (setArr st' j):=λn j hy h1 f o Q' k=>by
    let⟨R',p,e2⟩:=Qrw h.ar g hy;let hI:RI lt F a₀ κ (setArr st' j) Bs R':=⟨h.kind,h.fail,(show j.toList.Perm (arrOf st').toList from WJ.mp hy.pm).trans h.pm,p,h.bl⟩;show Qvy L hc hI g h1 "l" (Jd9 p g o) λd B2 f l=>k d B2 _ f l
   show Qk (Qqr L hc (st:=st') (x0:=arrOf st') (xs:=arrOf st') h.kind u ⟨Array.Perm.refl _,λi hi=>rfl⟩ "l" "l" λm j hy v m2 o=>?_);dsimp only
   by_cases y:m<minRun' a₀.length a₀.length 0
   ·rw[Qh y];show Qk (wpS_lift (WD ⟨(),?_⟩));show Qk (Qzx L hc h.kind u hy v "l" "l" o λzs hz r=>?_);simp only[Od,QE,JU];show fin _ zs hz "l" "l" r λd B2 R2 f l=>⟨(),by dsimp only;lia,B2,R2,f,l.symm⟩
   ·rw[Qc y];show fin m j hy v m2 o λd B2 R2 f l=>⟨(),by dsimp only;lia,B2,R2,f,l.symm⟩
 case post =>
  rintro⟨c1,c2⟩ st' ⟨e,Bs,h⟩;dsimp only at e;subst e;dsimp only;let Ks:=h.bl.len;let hl:=h.size;rw[<-Jo,h.ar,QW]at hl;let hps:(pendingOf st').size=(pendingOf st').toList.length:="s"
  unfold fL;show Qk (YT (JN (I:=λx c st'=>c=(none,⟨⟩)/\∃Bs,RI lt F a₀ κ st' Bs []/\((pendingOf st').size<=1\/(pendingOf st').size+x<=a₀.length)) (Q:=λc st'=>c=(none,⟨⟩)/\∃Bs,RI lt F a₀ κ st' Bs []/\(pendingOf st').size<=1) ?step2 ?fin2 ⟨(),Bs,h,.inr "l"⟩) ?post2)
  case fin2 =>
   rintro c d ⟨rfl,B2,f,e⟩;show⟨(),B2,f,"l"⟩
  case post2 =>
   rintro c d ⟨rfl,B2,f,e⟩;show Qn (q d f.pm f.fail ?_);let ar:=f.ar;let bl:=f.bl;rw[ar,QW];let p:(pendingOf d).toList.length<=1:=by simpa using e
   match hP:(pendingOf d).toList,p,bl with
   |[],_,bl =>
    cases(show B2=[]from bl);show O9
   |[t],_,bl =>
    let⟨B,Bs',rfl,x1,x2,x3,x4,b3⟩:=bl;cases(show Bs'=[]from b3);simpa using x4
  case step2 =>
   rintro x c d _ hx ⟨rfl,B2,f,e⟩;show Qk (Qjr ?_)
   by_cases z:(pendingOf d).size<=1
   ·rw[Qh z];show Qn ⟨(),B2,f,z⟩
   ·rw[Qc z];let hi:Jca (pendingOf d)+1<(pendingOf d).size:=by
     let b:∀(c:Prop)[Decidable c](a b m:Nat),a<=m->b<=m->(if c then a else b)<=m:=λc _ a b m h1 f=>by split<;>assumption
     let:Jca (pendingOf d)<=(pendingOf d).size-2:=b _ _ _ _ "l" (Q5 _)
     lia
    show Qk (Qd8 L hc f hi λst3 B3 h3 e2 l=>?_);simp only[Od,QE,JU];show Qn ⟨(),B3,h3,"l"⟩
end
end TS
namespace SO
open PySem PySem.W PyProof.Rows
section
variable {prog:Program} {w:World} {A:Around} {E:Kh} {s:Shared} {α:Type} {lt:α->α->Bool} {r:Nat->α}
def Qs1(h:us.Perm vs):∃p:Array Nat,Ok vs.length p/\us=Y1 vs p:=by
 rw[<-Qa3 vs]at h;let⟨l,b,a⟩:=ST.Yf h;show⟨l.toArray,?_,by rw[a];rfl⟩;show WJ.mpr "l"
def Qwh{vs:List Value}{κ:SortKind}(h2:2<=vs.length)(L:LO lt)(hr:∀i j,i<vs.length->j<vs.length->vs.getD i Value.none=vs.getD j Value.none->r i=r j)(ask:Ask lt r vs.length s (kas_ask prog w A κ vs)):
  wpAny (model prog w) A ((sortRuns').run (SortSt.mk' κ (vs.toArray.zip vs.toArray) #[] 7 none)) (λx s'=>s'=s/\∃p:Array Nat,Ok vs.length p/\Srt lt r p vs.length/\failedOf x.2=none/\(arrOf x.2).map (·.2)=(Y1 vs p).toArray) E s:=by
 classical
 letI F:Keyed->α:=λx=>if h:∃i,i<vs.length/\vs.getD i Value.none=x.1 then r (Classical.choose h)else r 0
 let c:∀i,i<vs.length->∀v,F (vs.getD i Value.none,v)=r i:=λi hi v=>by
  let h:∃j,j<vs.length/\vs.getD j Value.none=vs.getD i Value.none:=⟨i,hi,()⟩;change(if h:∃j,j<vs.length/\vs.getD j Value.none=vs.getD i Value.none then r (Classical.choose h)else r 0)=r i;rw[dif_pos h];show hr _ _ (Classical.choose_spec h).1 hi (Classical.choose_spec h).2
 let d:(vs.toArray.zip vs.toArray).toList=vs.map λv=>(v,v):=by
  rw[Array.toList_zip];let:∀l:List Value,l.zip l=l.map λv=>(v,v):=λl=>by
   induction l with
   |nil=>rfl|cons x l g=>rw[JC,Qw,g]
  show this vs
 let mem:∀x:Keyed,x∈(vs.toArray.zip vs.toArray).toList->∃i,i<vs.length/\x=(vs.getD i Value.none,vs.getD i Value.none):=λx hx=>by
  rw[d]at hx;let⟨v,m,rfl⟩:=Q4.mp hx;let⟨i,hi,rfl⟩:=Wi.mp m;show⟨i,hi,by simp[hi]⟩
 let n:TS.Ask prog w A s κ (vs.toArray.zip vs.toArray).toList lt F:=λx hx y hy C z=>by
  let⟨i,hi,rfl⟩:=mem x hx;let⟨j,b,rfl⟩:=mem y hy;rw[c i hi,c j b]at z;show ask i j C hi b z
 change wpS (model prog w) A E s sortRuns' (λ_ a=>∃p:Array Nat,Ok vs.length p/\Srt lt r p vs.length/\failedOf a=none/\(arrOf a).map (·.2)=(Y1 vs p).toArray) (SortSt.mk' κ (vs.toArray.zip vs.toArray) #[] 7 none);show TS.Qh0 L n () () () () (by rw[d,Qb];lia) λa f o q=>?_
 rw[d]at f;let⟨us,t,h3⟩:=ST.Yf f;let⟨p,ok,rfl⟩:=Qs1 t;let u:=ok.size;show⟨p,ok,λi j hij b=>?_,o,?_⟩
 ·by_cases z:i=j
  ·subst z;show L.irr _
  ·let at':∀k,(hk:k<vs.length)->(arrOf a).toList[k]?=-(vs.getD (p.getD k 0) Value.none,vs.getD (p.getD k 0) Value.none):=λk hk=>by
    let e:k<p.size:="l"
    rw[h3];unfold Y1;simp[e,Array.getD]
   let gi:=Q3.mp (at' i "l");let gj:=Q3.mp (at' j b);let⟨li,ei⟩:=gi;let⟨lj,ej⟩:=gj;let:=JM.mp q i j li lj "l";rw[ei,ej]at this;unfold TS.le at this;rw[c _ (ok.bd b),c _ (ok.bd (show i<vs.length by lia))]at this;show this
 ·apply Qqg.mp;rw[Array.toList_map,h3,QL];change(Y1 vs p).map (λv=>v)=_;rw[List.map_id']
def Qba{a:Addr}{vs:List Value}{n:Nat}{κ:SortKind}{P:PySem.Fin->Shared->Prop}(ho:s.heap.get? a=-(seqObj "list" vs.toArray n))(line:vs.length<=sizeLine)(L:LO lt)(hr:∀i j,i<vs.length->j<vs.length->vs.getD i Value.none=vs.getD j Value.none->r i=r j)
  (kind:2<=vs.length->∀h',(∀b o,b≠a->s.heap.get? b=-o->h'.get? b=-o)->∀(Z:SortKind->Shared->Prop),Z κ {s with heap:=h'}->wpAny (model prog w) A (keyKind' vs.toArray) Z E {s with heap:=h'})
  (ask:2<=vs.length->∀h',(∀b o,b≠a->s.heap.get? b=-o->h'.get? b=-o)->Ask lt r vs.length {s with heap:=h'} (kas_ask prog w A κ vs))
  (q:∀(p:Array Nat)(h':Heap)(c:Nat),Ok vs.length p->Srt lt r p vs.length->(∀b o,b≠a->s.heap.get? b=-o->h'.get? b=-o)->h'.get? a=-(seqObj "list" (Y1 vs p).toArray c)->P (.done (.ret .none)) {s with heap:=h'}) :
  wpAny (model prog w) A (Builtin.«list.sort» ⟨[.ref a],[]⟩) P E s:=by
 obtain⟨h,g1⟩:∃h,(s.heap.update a (Obj.mapSeq λ_=>(#[]:Array Value))).get? a=-(seqObj "list" #[] h):=⟨_,Qvp ho λ_=> #[]⟩;generalize l:((s.heap.update a (Obj.mapSeq λ_=>(#[]:Array Value))).push (seqObj "tuple" vs.toArray 0)).push (seqObj "list" #[] 0)=H;let m:H.get? a=-(seqObj "list" #[] h):=by rw[<-l];show Q1 _ (Q1 _ g1)
 let t:∀b o,b≠a->s.heap.get? b=-o->H.get? b=some o:=λb o hb e=>by
  rw[<-l];show Q1 _ (Q1 _ ?_);rw[(QT s.heap a _).2 b hb];show e
 let f:∀(p:Array Nat)(st:SortSt),Ok vs.length p->Srt lt r p vs.length->failedOf st=none->(arrOf st).map (·.2)=(Y1 vs p).toArray ->
   wpAny (model prog w) A (do
    let d:=(<-seqEpoch a) != h
    Builtin.List.listUpdate (.ref a) λ_=>(arrOf st).map (·.2)
    if let some e:=failedOf st then rule "list.sort.comparison-raised"; throw e
    if d then rule "list.sort.modified"; raiseError "ValueError" "list modified during sort"
    ret .none) P E {s with heap:=H}:=by
  intro p st hp hs v ha;let il:(Y1 vs p).toArray.size=vs.length:=by
   let:=hp.size;simp[Y1,this]
  show Q0 (seqEpoch_at m () ?_);rw[ha];show Q0 (listUpdate_at m () ?_ (QJ _) (by rw[il];lia));rw[v];simp only[bne_self_eq_false,QE,JU];show Q2 (q p _ _ hp hs (λb o hb e=>?_) (Qvp m λ_=>(Y1 vs p).toArray));rw[(QT H a _).2 b hb];show t b o hb e
 rw[list_sort_plain];show Q0 (listItems_at ho () (Q0 (listUpdate_at ho () ?_ (by simpa using line) (QJ _))));show Q0 (seqEpoch_at g1 () (Q0 (Qo4 ?_ (by simpa using line))));show Q0 (wpAny_newList (JT ?_) (QJ _));change wpAny (model prog w) A _ P E {s with heap:=((s.heap.update a (Obj.mapSeq λ_=>(#[]:Array Value))).push (seqObj "tuple" vs.toArray 0)).push (seqObj "list" #[] 0)};rw[l]
 by_cases k:2<=vs.length
 ·let g: ¬ vs.toArray.size<2:=by simpa using k
  dsimp only;rw[Qc g,Qc g];show Q0 (kind k H t _ ?_);show Q0 (Jn (Qwh k L hr (ask k H t)) ?_ λ_ _ e=>e);rintro⟨u,st⟩ s' ⟨rfl,p,x,y,v,ha⟩;show f p st x y v ha
 ·let g:vs.toArray.size<2:=by
   rw[Qy]
   lia
  dsimp only;rw[Qh g,Qh g];show Q0 (Q2 (Q0 (Q2 ?_)));let z:∀(i:Nat),i<vs.length->i=0:=λi hi=>by lia
  show f (List.range vs.length).toArray _ (Array.Perm.refl _) (λi j h1 h3=>?_) () ?_
  ·let e1:=z j h3;let e2:i=0:="l"
   subst e1 e2;show L.irr _
  ·change(vs.toArray.zip vs.toArray).map (·.2)=_;apply Qqg.mp;rw[Array.toList_map,Array.toList_zip,List.map_snd_zip (Q5 _)];change vs=Y1 vs (List.range vs.length).toArray;show(Qa3 vs).symm
end
end SO
namespace L2
open PySem PySem.Spec PyProof.Rows PySem.W
structure Srtb(ds:List D):Prop where
 fm:∀d∈ds,∃x r,d=.tup (.str x::r)/\keyOks r=true/\deps r<=5
 cm:∀d∈ds,∀e∈ds,cmb d e=true
def Srtb.key(h:Srtb ds):keyOks ds=true:=J5.mpr λd hd=>by
 let⟨x,r,rfl,k,_⟩:=h.fm d hd;simp[keyOk,keyOks,k]
def Srtb.perm(h:Srtb ds)(p:es.Perm ds):Srtb es:=⟨λd hd=>h.fm d (p.mem_iff.mp hd),λd hd e a=>h.cm d (p.mem_iff.mp hd) e (p.mem_iff.mp a)⟩
def Qbl{α:Type}(ds:List D){p:Array Nat}(h:SO.Ok ds.length p):(p.toList.map λi=>ds.getD i .non).Perm ds:=by
 let a:p.toList.Perm (List.range ds.length):=by simpa using WJ.mp h
 show(a.map _).trans ?_;let:(List.range ds.length).map (λi=>ds.getD i .non)=ds:=by
  show W3 λi=>?_
  rw[Qd]
  by_cases hi:i<ds.length
  ·simp[hi]
  ·simp[hi]
 rw[this]
def Qhh{ds:List D}{p:Array Nat}(h:SO.Ok ds.length p)(hs:SO.Srt ltD (λi=>ds.getD i .non) p ds.length):(p.toList.map λi=>ds.getD i .non)=Wa ds:=by
 show Qrc (Qbl (α:=Unit) ds h) ?_;unfold SrtL;rw[YL,JM];intro i j hi c d;let a:=h.size;let b:j<ds.length:=by simpa[a]using c
 let:=hs i j "l" b;unfold SO.ky at this;let e:p.getD i 0=p[i]'"l":=by simp[Array.getD,show i<p.size by lia]
 let f:p.getD j 0=p[j]'"l":=by simp[Array.getD,show j<p.size by lia]
 rw[e,f]at this;simpa using this
section
variable {prog:Program} {w:World} {A:Around} {E:Kh} {s:Shared}
def CAll.getD(c:CAll h ds vs)(hi:i<ds.length):CIs h (ds.getD i .non) (vs.getD i Value.none):=by
 let⟨v,e,x⟩:=c.get (i:=i) (d:=ds[i]) (by simp[hi])
 ext
structure SrtG(ds:List D):Prop where
 key:keyOks ds=true
 fm:2<=ds.length->(∀d∈ds,∃x r,d=.tup (.str x::r)/\deps r<=5)\/(∀d∈ds,∃x r,d=.tup (.tup x::r)/\deps (.tup x::r)<=5)
 cm:∀d∈ds,∀e∈ds,cmb d e=true
def Srtb.g{ds:List D}(h:Srtb ds):SrtG ds:=⟨h.key,λ_=>.inl λd hd=>by let⟨x,r,e,_,k⟩:=h.fm d hd;show⟨x,r,e,k⟩,h.cm⟩
def SrtG.perm{ds es:List D}(h:SrtG ds)(p:es.Perm ds):SrtG es:=by
 show⟨J5.mpr λd hd=>J5.mp h.key d (p.mem_iff.mp hd),λa=>?_,λd hd e b=>h.cm d (p.mem_iff.mp hd) e (p.mem_iff.mp b)⟩;rw[p.length_eq]at a;rcases h.fm a with f|f
 ·show .inl λd hd=>f d (p.mem_iff.mp hd)
 ·show .inr λd hd=>f d (p.mem_iff.mp hd)
def CAll.same(c:CAll h ds out)(i j:Nat)(hi:i<out.length)(hj:j<out.length)(e:out.getD i Value.none=out.getD j Value.none):ds.getD i .non=ds.getD j .non:=by
 let hl:=c.len;let a:=c.getD (i:=i) "l";let b:=c.getD (i:=j) "l";rw[e]at a;show a.inj b
def Qrb(ho:s.heap.get? a=-(seqObj "list" out.toArray n))(c:CAll s.heap ds out)(hz:ds.length<=sizeLine)(hs:SrtG ds)(hu:A.units+20<cLine)
  (q:∀(p:Array Nat)(h':Heap)(c':Nat),SO.Ok ds.length p->(p.toList.map λi=>ds.getD i .non)=Wa ds->(∀b o,b≠a->s.heap.get? b=-o->h'.get? b=-o)->h'.get? a=-(seqObj "list" (SO.Y1 out p).toArray c')->P (.done (.ret .none)) {s with heap:=h'}) :
  wpAny (model prog w) A (Builtin.«list.sort» ⟨[.ref a],[]⟩) P E s:=by
 let hl:=c.len;let stay:∀h':Heap,(∀b o,b≠a->s.heap.get? b=-o->h'.get? b=-o)->TStay s.heap h':=λh' k b o e hc=>by
  grind
 let v:=λh' k=>CAll.stay (stay h' k) hs.key c
 let mem:∀i,i<ds.length->ds.getD i .non∈ds:=λi hi=>by
  ext
 let kk:=J5.mp hs.key;let m:∀{κ:SortKind},(2<=out.length->∀h',(∀b o,b≠a->s.heap.get? b=-o->h'.get? b=-o)->∀(Z:SortKind->Shared->Prop),Z κ {s with heap:=h'}->wpAny (model prog w) A (keyKind' out.toArray) Z E {s with heap:=h'}) ->
   (2<=out.length->∀h',(∀b o,b≠a->s.heap.get? b=-o->h'.get? b=-o)->SO.Ask ltD (λi=>ds.getD i .non) out.length {s with heap:=h'} (kas_ask prog w A κ out))->wpAny (model prog w) A (Builtin.«list.sort» ⟨[.ref a],[]⟩) P E s:=λt u=>by
  show SO.Qba ho "l" Qg3 (λi j hi l e=>c.same i j hi l e) t u (λp h' c' hp hsr k g=>?_);rw[<-hl]at hp hsr;show q p h' c' hp (Qhh hp hsr) k g
 by_cases h2:2<=ds.length
 ·rcases hs.fm h2 with f|f
  ·show m (κ:=tuples' true) (λh2 h' k Z z=>?_) (λh2 h' k i j C hi l z=>?_)
   ·show Jbx "l" (v h' k) (λd hd=>by grind) z
   ·rw[<-hl]at hi l;let x1:=(v h' k).getD hi;let x2:=(v h' k).getD l;let cm:=hs.cm _ (mem i hi) _ (mem j l);let t:=kk _ (mem i hi);let u:=kk _ (mem j l);let⟨x,r,e1,d1⟩:=f _ (mem i hi);let⟨y,r',e2,d2⟩:=f _ (mem j l);let z':C (ltD (ds.getD i .non) (ds.getD j .non)) {s with heap:=h'}:=z;rw[e1]at x1 t;rw[e2]at x2 u;rw[e1,e2]at z' cm;let cm':=by simpa[cmb,cmbs]using cm
    show Qy4 (by simpa[keyOk,keyOks]using t) (by simpa[keyOk,keyOks]using u) cm' x1 x2 "l" z'
  ·show m (κ:=tuples' false) (λh2 h' k Z z=>?_) (λh2 h' k i j C hi l z=>?_)
   ·show Jbw "l" (v h' k) (λd hd=>by grind) z
   ·rw[<-hl]at hi l;let x1:=(v h' k).getD hi;let x2:=(v h' k).getD l;let cm:=hs.cm _ (mem i hi) _ (mem j l);let t:=kk _ (mem i hi);let u:=kk _ (mem j l);let⟨x,r,e1,d1⟩:=f _ (mem i hi);let⟨y,r',e2,d2⟩:=f _ (mem j l);let z':C (ltD (ds.getD i .non) (ds.getD j .non)) {s with heap:=h'}:=z;rw[e1]at x1 t;rw[e2]at x2 u;rw[e1,e2]at z' cm;show Qy3 (by simpa[keyOk]using t) (by simpa[keyOk]using u) (by simpa[cmb]using cm) x1 x2 "l" z'
 ·show m (κ:=tuples' true) (λh=>absurd h "l") (λh=>absurd h "l")
def Qb9(h:wpAny (model prog w) A.in1 (collect x) (λout s1=>out.length<=sizeLine/\wpAny (model prog w) A.in1.in1 (Builtin.«list.sort» ⟨[.ref s1.heap.objs.size],[]⟩) (λfl s2=>fl=.done (.ret .none)/\Q (.ref s1.heap.objs.size) s2) E {s1 with heap:=s1.heap.push (seqObj "list" out.toArray 0)}) E s):
  wpAny (model prog w) A (call (.builtin "sorted") [x]) Q E s:=by
 show Calls.call_function_entry kind_sorted plain_sorted entry_sorted (args_sorted1 _) ?_;apply Q0;apply Q2;show Q0 (Jn h (λout s1 ⟨b,g⟩=>?_) λ_ _ e=>e);show Q0 (wpAny_newList ?_ b);let a:(s1.heap.push (seqObj "list" out.toArray 0)).get? s1.heap.objs.size=-(seqObj "list" out.toArray 0):=Q9 _ ();show Q0 (JT (J6 slot_list_sort ⟨_,a,()⟩ entry_list_sort ?_ (args_list_sort _)));show Jn g (λfl s2 ⟨e,z⟩=>⟨.none,e,Q2 ⟨_,(),z⟩⟩) λ_ _ e=>e
end
section
variable {X:Cx}
def Qe3{K:W.Frag}{H:Hp}{ds:List D}{ws:List V}{p:Array Nat}(ia:Va K H ds ws)(hp:SO.Ok ds.length p):Va K H (p.toList.map λi=>ds.getD i .non) (p.toList.map λi=>ws.getD i .non):=by
 let go:∀l:List Nat,(∀i∈l,i<ds.length)->Va K H (l.map λi=>ds.getD i .non) (l.map λi=>ws.getD i .non):=by
  intro l
  induction l with
  |nil=>intro _;show Jq|cons i r a =>
   intro h;let hi:=h i Q8;let⟨v,e,x⟩:=ia.get (i:=i) (d:=ds[i]) (by simp[hi]);let b:ds.getD i .non=ds[i]:=by simp[hi]
   let c:ws.getD i .non=v:=by rw[Qi,e];rfl
   rw[Qw,Qw,b,c];show Vg x (a λj f=>h j (Q7 _ f))
 show go p.toList λi hi=>?_
 let g:p.toList.Perm (List.range ds.length):=by simpa using WJ.mp hp
 show Jp.mp (g.mem_iff.mp hi)
def Qh7{ws:List V}{us:List Value}{p:Array Nat}(r:Vals ws us)(hp:SO.Ok ws.length p):Vals (p.toList.map λi=>ws.getD i .non) (SO.Y1 us p):=by
 let go:∀l:List Nat,(∀i∈l,i<ws.length)->Vals (l.map λi=>ws.getD i .non) (l.map λi=>us.getD i Value.none):=by
  intro l
  induction l with
  |nil=>intro _;show .nil|cons i rr a =>
   intro h;let hi:=h i Q8;let⟨u,e,x⟩:=r.get (i:=i) (x:=ws[i]) (by simp[hi]);let b:ws.getD i .non=ws[i]:=by simp[hi]
   let c:us.getD i Value.none=u:=by rw[Qi,e];rfl
   rw[Qw,Qw,b,c];show .cons x (a λj d=>h j (Q7 _ d))
 show go p.toList λi hi=>?_
 let f:p.toList.Perm (List.range ws.length):=by simpa using WJ.mp hp
 show Jp.mp (f.mem_iff.mp hi)
def Qhi(I:Inv X Kz σ H s)(hu:X.A.units+22<cLine)(hs:SrtG ks)(hl:ks.length<=70000)
  (col:∀(Z:List Value->Shared->Prop),(∀(out:List Value)(h':Heap)(dr:Drawn)(tk:Nat)(ds:List D)(ws:List V),ds.Perm ks->Va X.K H ds ws->Vals ws out->(∀b o,s.heap.get? b=-o->h'.get? b=-o)->s.heap.objs.size<=h'.objs.size->Z out {s with heap:=h',drawn:=dr,toks:=tk})->wpAny (model X.prog X.w) X.A.in1 (collect x) Z X.xe s)
  (q:∀l ws,H l=none->Va X.K (upd H l (.lst ws)) (Wa ks) ws->Q (.ref l) (upd H l (.lst ws))):wpAny (model X.prog X.w) X.A (call (.builtin "sorted") [x]) (EP X Kz σ Q) X.xe s:=by
 show Qb9 (col _ λout a dr tk ds ws c h j t v=>?_);let w:=c.length_eq;let y:=h.length;let z:=j.length;show⟨by rw[QR];lia,?_⟩;let I1:Inv X Kz σ H {s with heap:=a,drawn:=dr,toks:=tk}:=(I.kept t).dr dr;let d:(a.push (seqObj "list" out.toArray 0)).get? a.objs.size=-(seqObj "list" out.toArray 0):=Q9 _ ();let c1:=Va.conc I1 (Zs (hs.perm c).key) h j;let c2:CAll (a.push (seqObj "list" out.toArray 0)) ds out:=CAll.stay (λb o e _=>Q1 _ e) (hs.perm c).key c1;let r:=I1.fresh;show Qrb d c2 (by rw[QR];lia) (hs.perm c) (show X.A.units+1+1+20<cLine by lia) λp h' c' ok es k g=>⟨(),?_⟩
 let m:=Ym ((Jw ds).trans (c.trans (Jw ks).symm)) (Zh ds) (Zh ks);let n:=Qh7 j (p:=p) "e";let f:=Qe3 h ok;rw[es,m]at f;let I2:Inv X Kz σ (upd H a.objs.size (.lst (p.toList.map λi=>ws.getD i .non))) {s with heap:=h',drawn:=dr,toks:=tk}:=
  I1.laid (λb u e=>k b u (Qq (Qj e)) (Q1 _ e)) (Q5 _) ⟨by rw[Qb,Jo,ok.size,QR];lia,_,c',n,g⟩
 show⟨.ref a.objs.size,_,I2,(),q _ _ r (f.same (Same.upd r))⟩
theorem Qc0{K:W.Frag}:∀{xs:List (D×Addr)},(∀x∈xs,Is K H x.1 (.ref x.2))->Va K H (xs.map (·.1)) (xs.map λx=>V.ref x.2)
 |[],_=>Jq|x::xs,h=>Vg (h x Q8) (Qc0 λy hy=>h y (Q7 _ hy))
theorem Qdd:∀(xs:List (D×Addr)),Vals (xs.map λx=>V.ref x.2) (xs.map λx=>Value.ref x.2)
 |[]=>.nil|x::xs=>.cons () (Qdd xs)
def Vals.perm'{ws:List V}{us us':List Value}(r:Vals ws us)(p:us'.Perm us){ds:List D}{K:W.Frag}{H:Hp}(ia:Va K H ds ws):∃Kq ws',Kq.Perm ds/\Va K H Kq ws'/\Vals ws' us':=by
 induction p generalizing ws ds with
 |nil=>cases r;show⟨ds,[],.refl _,ia,.nil⟩
 | @cons x a b _ q =>
  cases r with
  | @cons v _ s _ g h =>
   cases ds with
   |nil=>rw[Va]at ia;cases ia
   |cons d ds =>
    rw[Va]at ia;let⟨t,u,e,i,f⟩:=ia;cases e;let⟨Kq,ws',w,k,l⟩:=q h f;show⟨d::Kq,v::ws',w.cons d,Vg i k,.cons g l⟩
 | @swap x y a =>
  cases r with
  | @cons v _ s _ g h =>
   cases h with
   | @cons z _ m _ r3 r4 =>
    cases ds with
    |nil=>rw[Va]at ia;cases ia
    |cons d ds =>
     rw[Va]at ia;let⟨t,u,e,i,f⟩:=ia;cases e;cases ds with
     |nil=>rw[Va]at f;cases f
     |cons j ds =>
      rw[Va]at f;let⟨v3,r5,e,i3,i4⟩:=f;cases e;show⟨j::d::ds,z::v::m,Qzq d j ds,Vg i3 (Vg i i4),.cons r3 (.cons g r4)⟩
 | @trans a b c _ _ n o =>
  let⟨d1,w1,p1,i,g⟩:=o r ia;let⟨j,w2,p2,f,h⟩:=n g i;show⟨j,w2,p2.trans p1,f,h⟩
def Qcf(hu:X.A.units+22<cLine)(hc:X.calm=true):CallR X (.builtin "sorted") (λvs H Q=>∃a o ks,vs=[.ref a]/\H a=-(SetO a o)/\SetI X.w X.K H o ks/\Srtb ks/\ks.length<64 /\
  ∀l ws,H l=none->Va X.K (upd H l (.lst ws)) (Wa ks) ws->Q (.ref l) (upd H l (.lst ws))):=by
 intro Kz s σ H xs us Q I r h;let⟨a,o,ks,rfl,ha,⟨hex,e,ep,t,f,hd,T,b,c,d,hi⟩,g,hl,q⟩:=h;let⟨u,rfl,i⟩:=vals1 r;cases(show u=Value.ref a from i);let j:s.heap.get? a=some o:=(I.hok a _ ha).1;let k:e.size<=sizeLine:=by
  let m:=JL List.length c;let n:=d.length_eq;simp at m n;rw[QR]
  lia
 show Qhi I hu g.g "l" (λZ z=>?_) q;show ST.Qj2 (A:=X.A.in1) (by change X.A.handled=none;show I.ok.hd hc) T j hex hd b k λout p dr v po w sz=>?_
 rw[c]at po;let⟨x,ws,y,ia,rv⟩:=(Qdd f).perm' po (Qc0 hi);show z out p dr v x ws (y.trans d) ia rv w sz
end
end L2
namespace L2
open PySem PySem.Spec PyProof.Rows
section
variable {prog:Program} {w:World} {A:Around} {E:Kh} {s:Shared}
def Qa6(hT:T= "tuple" \/ T= "list")(ho:s.heap.get? t=-o)(hc:o.cls=.type T)(hd:o.data=.seq vs.toArray n)(hz:vs.length<=sizeLine)
  (h:∀h',(∀b o,s.heap.get? b=-o->h'.get? b=-o)->s.heap.objs.size<=h'.objs.size->Q vs {s with heap:=h'}):wpAny (model prog w) A (collect (.ref t)) Q E s:=by
 show Q0 (wpAny_runValue (JX PySem.F.entry_proto_collect ?_));show Q0 (Ja (Q2 ⟨Za PySem.F.plain_list_iadd _,JX PySem.F.entry_list_iadd ?_⟩));rw[Qoc PySem.F.plain_list_iadd _];generalize d:s.heap.objs.size=L;generalize a:s.heap.push {cls:=.type "list",data:=.seq ([]).toArray}=H1;let c:H1.get? L=some {cls:=.type "list",data:=.seq ([]:List Value).toArray}:=by rw[<-a,<-d];show Q9 _ ()
 let up1:∀b o,s.heap.get? b=-o->H1.get? b=some o:=λb o e=>by rw[<-a];show Q1 _ e
 let ty:Shared.TypeIs {s with heap:=H1} (.ref t) T:=⟨o,up1 _ _ ho,hc⟩;change wpAny _ A.in1 (Builtin.List.listExtendWith (.ref L) (.ref t) (.ref L)) _ _ {s with heap:=H1};show Q0 (Qzm ty ?_);rw[Qh "g"];show Q0 (listItems_at (up1 _ _ ho) hd (Q0 (listItems_at c () ?_)));show Q0 (listUpdate_at c () (Q2 ?_) (QJ _) (by simp;lia));let g2:=Jt (Obj.mapSeq (· ++vs.toArray)) c ();show Q0 (wpAny_load g2 (Q2 ?_));rw[show((#[]:Array Value)++vs.toArray).toList=vs by simp];show h _ (λb o e=>?_) ?_
 ·let f:b≠L:=by
   rintro rfl;rw[<-d]at e;show absurd (Qj e) (JG _)
  rw[UD _ _ (Jd f)]
  ext
 ·let:=Qj g2
  grind
end
section
variable {X:Cx} {ρ:List (Option D)} {e:Expr} {d:D} {ds:List D} {pos:Pos}
def Qgn(hu:X.A.units+22<cLine):CallR X (.builtin "sorted") (λvs H Q=>∃a ks,vs=[.ref a]/\(Is X.K H (.tup ks) (.ref a)\/Is X.K H (.lst ks) (.ref a))/\SrtG ks/\ks.length<=70000 /\
  ∀l ws,H l=none->Va X.K (upd H l (.lst ws)) (Wa ks) ws->Q (.ref l) (upd H l (.lst ws))):=by
 intro Kz s w H x y Q I r h;let⟨a,ks,rfl,hi,k,hl,q⟩:=h;let⟨u,rfl,m⟩:=vals1 r;cases((m));show Qhi I hu k hl (λZ z=>?_) q;rcases hi with hi|hi
 ·let⟨p,ws,e,c,d⟩:=JS hi;cases e;let⟨Kw,b,⟨o,f,g,n,hd⟩,t⟩:=I.tuple c;let v:=b.length;show Qa6 (.inl ()) f g hd "l" λi j sz=>z Kw i s.drawn s.toks ks ws (.refl _) d b j sz
 ·let⟨p,ws,e,c,d⟩:=We hi;cases e;let⟨Kw,b,pl,t⟩:=I.list c;let⟨o,f,g,n,hd⟩:=pl.isList;let v:=b.length;show Qa6 (.inr ()) f g hd "l" λi j sz=>z Kw i s.drawn s.toks ks ws (.refl _) d b j sz
def Uv:bootBuiltins "sorted"=-(.builtin "sorted"):="k"
def Qq6:bootBuiltins "set"=-(.type "set"):="k"
def Qpw(h:Srtb ds):Srtb (ST.Ut ds):=⟨λd hd=>h.fm d (((ST.GU ds).2 d).mp hd),λd hd e a=>h.cm d (((ST.GU ds).2 d).mp hd) e (((ST.GU ds).2 e).mp a)⟩
def Srtb.all(h:Srtb ds):∀d∈ds,keyOk d=true/\dep d<=6/\∃es,d=.tup es:=λd hd=>by
 let⟨x,r,rfl,k,dp⟩:=h.fm d hd;show⟨by simp[keyOk,keyOks,k],?_,_,()⟩;simp only[dep,deps]
 lia
def Qgi(hu:X.A.units+22<cLine)(hc:X.calm=true)(hm:X.mg "sorted"=none)(hm2:X.mg "set"=none)(ha:PD X ρ e (.lst ds))(hs:Srtb ds)(hl:ds.length<64)
  (hg:Gl X "sorted":=by rfl) (hg2:Gl X "set":=by rfl) (h1:starEach [e] X.env=[(false,eval e X.env)]:=by rfl) (h2:starEach [.Call (.Name "set" p2) [e] [] pos2] X.env=[(false,eval (.Call (.Name "set" p2) [e] [] pos2) X.env)]:=by rfl) :
  PDL X ρ (.Call (.Name "sorted" p) [.Call (.Name "set" p2) [e] [] pos2] [] pos) (Wa (ST.Ut ds)):=
 ⟨(UR (Qcf hu hc) hg hm Uv (WK (Gx (Qq2 "l" hc) hg2 hm2 Qq6 (Vc ha Vn h1).pe "d" "d" h1 ()) Zr h2) "d" "d" h2 ()).imp λs H Q q=>⟨q.1,λt H1 g h=>by
  let⟨v,rfl,i⟩:=h.one;let⟨b,c,rfl,u,r⟩:=We i;show⟨b,ds,(),i,hs.all,hl,λa o j k=>?_⟩;let m:=WH (ST.Qc9 ds) hl;let d:=g.trans (Same.upd (o:=SetO a o) j);show⟨a,o,_,(),Vu,k,Qpw hs,m,λl c f n=>q.2 l c _ (d.free f) (d.trans (Same.upd f)) Vu n⟩⟩⟩
def Bp{p:Pos}(hu:X.A.units+22<cLine)(hm:X.mg "sorted"=none)(ha:PD X ρ e d)(hd:d=.tup ds\/d=.lst ds)(hs:SrtG ds)(hl:ds.length<=70000)(hg:Gl X "sorted":=by rfl)(h1:starEach [e] X.env=[(false,eval e X.env)]:=by rfl):
  PDL X ρ (.Call (.Name "sorted" p) [e] [] pos) (Wa ds):=
 ⟨(UR (Qgn hu) hg hm Uv (Vc ha Vn h1).pe "d" "d" h1 ()).imp λk H Q q=>⟨q.1,λm H1 a f=>by
  let⟨v,rfl,i⟩:=f.one;let g:∃b,v=.ref b:=by
   rcases hd with rfl|rfl
   ·let⟨b,_,e,_⟩:=JS i;show⟨b,e⟩
   ·let⟨b,_,e,_⟩:=We i;show⟨b,e⟩
  let⟨b,rfl⟩:=g;show⟨b,ds,(),?_,hs,hl,λl h c j=>q.2 l h _ (a.free c) (a.trans (Same.upd c)) Vu j⟩;rcases hd with rfl|rfl
  ·show .inl i
  ·show .inr i⟩⟩
def Qpu(hu:X.A.units+22<cLine)(hm:X.mg "sorted"=none)(ha:PD X ρ e d)(hd:d=.tup ds\/d=.lst ds)(hs:Srtb ds)(hl:ds.length<64)(hg:Gl X "sorted":=by rfl)(h1:starEach [e] X.env=[(false,eval e X.env)]:=by rfl):
  PDL X ρ (.Call (.Name "sorted" p) [e] [] pos) (Wa ds):=Bp hu hm ha hd hs.g "l" hg h1
end
end L2
namespace L2
open PySem PySem.Spec PyProof.Rows
section
variable {X:Cx} {ρ:List (Option D)} {a b e:Expr} {d:D} {ds as bs:List D} {pos:Pos}
def Qy1:∀{Kv:List (Key×V)}{vs:List (Key×Value)},KV Kv vs->∀{k:Key}{v:V}{u:Value},RelV v u->KV (Kv++[(k,v)]) (vs++[(k,u)]):=λ{Kv vs} r {k v u} h=>Paired.snoc r ⟨(),h⟩
def Jd1:TE:=λ_ H Q=>∀p,H p=none->Q (.ref p) (upd H p (.dK []))
def Qwv:PE X (.Dict [] [] pos) Jd1:=λKz s b H Q I h=>by
 let big:sysModules<s.heap.objs.size:=Nat.lt_trans "d" (I.mod.glob.keeps I.bk).lt;show wpAny_Dict_empty ⟨.ref s.heap.objs.size,_,I.laid (a:=s.heap.objs.size) (o:=.dK []) (t':=s.toks) (λ_ _ q=>Q1 _ q) (Q5 _) ⟨QJ _,JO.mpr (Jd (Qq big)),[],.nil,Heap.DictOf.new _⟩,(),h _ (I.hok.fresh (Q5 _))⟩
end
end L2
namespace L2
open PySem PySem.Spec PyProof.Rows PySem.Builtin PySem.Builtin.Str
section
variable {X:Cx} {ρ:List (Option D)} {a b e o:Expr} {d:D} {ds:List D} {pos:Pos}
def Qul{lo hi:Option Expr}(ha:PD X ρ a (.str x))(hz:x.length<=sizeLine)(hl:PDO X ρ lo ol)(hu:PDO X ρ hi oh):PD X ρ (.Subscript a (.Slice lo hi none p2) pos) (.str (Txt.slice x ol oh)):=
 ⟨(Qhx Ja8 ha.pe hl.pe hu.pe).imp λf H Q q=>⟨q.1,λv H1 b d=>⟨q.1.same b,λH2 c=>⟨(q.1.same b).same c,λH3 e=>by
  cases W9 d;show⟨x,(),hz,q.2 _ H3 ((b.trans c).trans e) (ZL _)⟩⟩⟩⟩⟩
def Qjf(ha:PD X ρ a (.str i))(hb:PD X ρ b (.str j)):PB X ρ (.Compare a [.NotEq] [b] pos) (!decide (i=j)):=by
 let h:=UA (pos:=pos) Qsc ha hb (Qsq () () ()) (nomark _)
 ext
end
end L2
namespace L2
open PySem PySem.Spec PyProof.Rows
section
variable {X:Cx} {H₀:Hp} {τ:List Sl} {ds:List D} {pos:Pos}
def Jbb(hk:keyOks us=true)(hk2:keyOks vs=true)(hu:X.A.units+dep (.tup us)+dep (.tup vs)<cLine):OpR X (compareOp .Eq) (λx y H Q=>Is X.K H (.tup us) x/\Is X.K H (.tup vs) y/\Q (.bl (decide (us=vs))) H):=by
 intro Kz s σ H x y vx vy Q I d f h;let⟨g,i,q⟩:=h;let⟨p,xs,rfl,k,l⟩:=JS g;let⟨p',ys,rfl,m,n⟩:=JS i;cases((d));cases((f));let⟨Kw,o,r,_⟩:=I.tuple k;let⟨a,t,u,_⟩:=I.tuple m;let b:=Va.conc I (Zs hk) l o;let c:=Va.conc I (Zs hk2) n t;let v:=b.len;let w:=c.len;let z:=SeqAt.RcAt.tuples (A:=X.A) ((r)) ((u)) "l" (BY us vs b c (by simp only[dep]at hu;grind));let e:((List.range (min Kw.toArray.size a.toArray.size)).all (λj=>eqD (us.getD j .non) (vs.getD j .non))&&Kw.toArray.size==a.toArray.size)=decide (us=vs):=by
  let h1:eqD (.tup us) (.tup vs)=decide (D.tup us=D.tup vs):=BX (by simpa[keyOk]using hk) (by simpa[keyOk]using hk2);rw[eqD,Qau,v,w]at h1
  ext
 show z X.prog X.w _ _ ⟨.bl (decide (us=vs)),H,I,?_,q⟩;change Value.bool _=Value.bool _;rw[e]
def Jel(ha:PD X ρ a (.tup us))(hb:PD X ρ b (.tup vs))(hk:keyOks us=true)(hk2:keyOks vs=true)(hu:X.A.units+dep (.tup us)+dep (.tup vs)<cLine):PD X ρ (.Compare a [.Eq] [b] pos) (.bl (decide (us=vs))):=
 Qus (Jbb hk hk2 hu) ha hb (λH x y Q hx hy q=>⟨hx,hy,q _ H (Same.refl H) (Y0 _)⟩) (nomark _)
end
theorem Oe:∀{ks:List Str}{vs:List V}{k:Str},k∉ks->UK (Wt ks vs) (.inr k)=none
 |[],_,_,_=>rfl|_::_,[],_,_=>rfl|a::ks,v::vs,k,h=>by
  let e:Wt (a::ks) (v::vs)=(.inr a,v)::Wt ks vs:=rfl;rw[e,UJ (λz=>h (by injection z with z;rw[z];show Q8))];show Oe λz=>h (Q7 _ z)
theorem Gj:∀{ks:List Str}{vs:List V}{k:Str}{v:V}{i:Nat},ks.Nodup->ks[i]?=-k->vs[i]?=-v->UK (Wt ks vs) (.inr k)=-v
 |[],_,_,_,_,_,h,_=>by simp at h|_::_,[],_,_,_,_,_,h=>by simp at h|a::ks,u::vs,k,v,0,_,c,d=>by
  let f:a=k:=by simpa using c
  let g:u=v:=by simpa using d
  subst f;subst g;show BC ()
 |a::ks,u::vs,k,v,i+1,nd,c,d=>by
  let j:k∈ks:=Q6 (i:=i) (by simpa using c);let e:Wt (a::ks) (u::vs)=(.inr a,u)::Wt ks vs:=rfl;let b:=J0.mp nd;rw[e,UJ (λz=>b.1 (by injection z with z;rw[z];show j))];show Gj b.2 (by simpa using c) (by simpa using d)
def Zb(ks:List Str)(k:Str):List Str:=if k∈ks then ks else ks++[k]
def putVs{α:Type}:List Str->List α->Str->α->List α
 |a::ks,v::vs,k,x=>if a=k then x::vs else v::putVs ks vs k x
 |_,_,_,x=>[x]
def Bi(h:a≠k):Zb (a::ks) k=a::Zb ks k:=by
 unfold Zb
 grind
def Qhr{ks:List Str}{k:Str}(h:ks.Nodup):(Zb ks k).Nodup:=by
 unfold Zb;split
 ·show h
 ·rename_i a;show nd_snoc' h a
where
 nd_snoc':∀{l:List Str}{k:Str},l.Nodup->k∉l->(l++[k]).Nodup:=λh hk=>by
  grind
theorem U2{α:Type}:∀{ks:List Str}{vs:List α}{k:Str}{x:α},ks.length=vs.length->(Zb ks k).length=(putVs ks vs k x).length
 |[],[],k,x,_=>by rfl|a::ks,v::vs,k,x,h=>by
  rw[putVs]
  by_cases e:a=k
  ·let:Zb (k::ks) k=k::ks:=Qh Q8
   ext
  ·rw[Qc e,Bi e,Qz,Qz,U2 (by simpa using h)]
 |[],_::_,_,_,h=>by simp at h|_::_,[],_,_,h=>by simp at h
def Qou{Kv:List (Key×V)}{p:Key×V}{k:Key}{x:V}(h:p.1≠k):GX (p::Kv) k x=p::GX Kv k x:=by
 unfold GX;rw[Oc,QV h,Bool.false_or];split
 ·rw[Qw,Qc h]
 ·rfl
def Qti{Kv:List (Key×V)}{k:Key}{x:V}(h:∀p∈Kv,p.1≠k):Kv.map (λkv=>if kv.1=k then(kv.1,x)else kv)=Kv:=by
 let:Kv.map (λkv=>if kv.1=k then(kv.1,x)else kv)=Kv.map id:=Jb λp a=>Qc (h p a)
 rw[this,Qvm]
theorem Qgx:∀{ks:List Str}{vs:List V}{k:Str}{x:V},ks.length=vs.length->ks.Nodup->Wt (Zb ks k) (putVs ks vs k x)=GX (Wt ks vs) (.inr k) x
 |[],[],k,x,_,_=>rfl|a::ks,v::vs,k,x,h,nd=>by
  let e:Wt (a::ks) (v::vs)=(.inr a,v)::Wt ks vs:=rfl;let b:=J0.mp nd;rw[putVs,e]
  by_cases c:a=k
  ·subst c;let d:Zb (a::ks) a=a::ks:=Qh Q8;let f:GX ((.inr a,v)::Wt ks vs) (.inr a) x=(.inr a,x)::Wt ks vs:=by
    unfold GX;rw[Oc,Wh (rfl),Bool.true_or,Qh (),Qw,Qh (),Qti];intro p g z;let⟨q,i,rfl⟩:=Q4.mp g;let j:q.1=a:=by injection z
    show b.1 (by rw[<-j];show(Zl i).1)
   rw[Qh (),d,f];rfl
  ·rw[Qc c,Bi c,Qou (p:=(Sum.inr a,v)) (λz=>c (by injection z)),<-Qgx (by simpa using h) b.2];rfl
 |[],_::_,_,_,h,_=>by simp at h|_::_,[],_,_,h,_=>by simp at h
theorem Va.put{K:W.Frag}:∀{ks:List Str}{ds:List D}{vs:List V}{k:Str}{d:D}{v:V},Va K H ds vs->Is K H d v->Va K H (putVs ks ds k d) (putVs ks vs k v)
 |[],_,_,_,_,_,_,i=>by show Vg i Jq|a::ks,[],vs,k,d,v,h,i=>by
  subst h;show Vg i Jq
 |a::ks,b::ds,vs,k,d,v,h,i=>by
  let⟨c,r,rfl,q,t⟩:=h;simp only[putVs];split
  ·show Vg i t
  ·show Vg q (Va.put t i)
theorem Qo0:∀{ks:List Str}{ds:List D}{k:Str}{d:D},LFs ds=true->LF d=true->LFs (putVs ks ds k d)=true
 |[],_,_,_,_,i=>by simp[putVs,LFs,i]|a::ks,[],k,d,h,i=>by simp[putVs,LFs,i]|a::ks,b::ds,k,d,h,i=>by
  rw[LFs,Qv]at h;simp only[putVs];split
  ·rw[LFs,i,h.2];rfl
  ·rw[LFs,h.1,Qo0 h.2 i];rfl
def Bx(ks:List Str)(vs:List V)(h:ks.length=vs.length):(Wt ks vs).length=ks.length:=by
 unfold Wt
 ext
section
variable {X:Cx} {ρ:List (Option D)} {a b e:Expr} {d:D} {ds:List D} {ks:List Str} {k:Str} {fz:Bool} {pos:Pos}
def Jck{i:Nat}(hu:X.A.units+1<cLine)(ha:PD X ρ a (.dct fz (ks.map .str) ds))(hb:PD X ρ b (.str k))(hk:ks[i]?=-k)(hd:ds[i]?=-d)(hs:NoSl b:=by intro _ _;rfl):PD X ρ (.Subscript a b pos) d:=
 ZR (Qwz hu ha.pe hb.pe hs) λn H Q c q=>⟨c,λv H1 e g=>⟨c.same e,λu H2 f h=>by
  cases W9 h;let⟨p,o,rfl,dk,j⟩:=Bk (g.same f);let⟨w,l,m⟩:=j.get hd;show⟨p,w,(),.inl ⟨_,.inr k,dk.rd,(),(Gj dk.nd hk l).symm⟩,q w H2 (e.trans f) m⟩⟩⟩
def Qiv(hu:X.A.units+1<cLine)(ha:PD X ρ a (.dct fz (ks.map .str) ds))(hb:PD X ρ b (.str k))(hf:PD X ρ f d)(hk:k∉ks)(m:M2 X a "get" ap b f cp:=by show⟨(),(),(),()⟩):PD X ρ (.Call (.Attribute a "get" ap) [b,f] [] cp) d:=
 ZR (Qhy hu ha.pe hb.pe hf.pe m) λn H Q c q=>⟨c,λv H1 e i=>by
  let⟨p,o,rfl,dk,r⟩:=Bk i;show⟨p,(),.inl ⟨_,dk.rd⟩,c.same e,λu H2 g j=>⟨(c.same e).same g,λz H3 h l=>?_⟩⟩;cases W9 j;show⟨none,.inl ⟨_,.inr k,(h.dk (g.dk dk)).rd,(),(Oe hk).symm⟩,q z H3 ((e.trans g).trans h) l⟩⟩
def Qee{f:Expr}{ap cp:Pos}{i:Nat}{dx:D}(hu:X.A.units+1<cLine)(ha:PD X ρ a (.dct fz (ks.map .str) ds))(hb:PD X ρ b (.str k))(hf:PD X ρ f dx)(hk:ks[i]?=-k)(hd:ds[i]?=-d)(m:M2 X a "get" ap b f cp:=by show⟨(),(),(),()⟩):PD X ρ (.Call (.Attribute a "get" ap) [b,f] [] cp) d:=
 ZR (Qhy hu ha.pe hb.pe hf.pe m) λs H Q e q=>⟨e,λv H1 g j=>by
  let⟨p,t,rfl,dk,l⟩:=Bk j;show⟨p,(),.inl ⟨_,dk.rd⟩,e.same g,λu H2 c n=>⟨(e.same g).same c,λz H3 h x=>?_⟩⟩;cases W9 n;let⟨w,o,r⟩:=l.get hd;show⟨-w,.inl ⟨_,.inr k,(h.dk (c.dk dk)).rd,(),(Gj dk.nd hk o).symm⟩,q w H3 ((g.trans c).trans h) ((r.same c).same h)⟩⟩
def rdM(K:W.Frag)(ρ:List (Option D))(ks:List Str)(ds:List D):TE:=λσ H Q=>EnvIs K H σ ρ/\∀p vs H',H p=none->Same H H'->DkAt false H' p ks vs->Va K H' ds vs->Q (.ref p) H'
structure PDM(X:Cx)(ρ:List (Option D))(e:Expr)(ks:List Str)(ds:List D):Prop where
 pe:PE X e (rdM X.K ρ ks ds)
def Qug:PDM X ρ (.Dict [] [] pos) [] []:=⟨Qwv.imp λb H Q q p a=>q.2 p [] _ a (Same.upd a) ⟨(),JD,Vu⟩ Jq⟩
end
section
variable {X:Cx} {H₀:Hp} {τ:List Sl} {e b:Expr} {d:D} {ds:List D} {ks:List Str} {k:Str} {pos:Pos}
def EnvO.setDct{K:W.Frag}(h:EnvO K H₀ H σ τ)(i:Nat)(n:H p=none)(s:Same H H')(hp:DkAt false H' p ks vs)(hl:LFs ds=true)(iv:Va K H' ds vs):EnvO K H₀ H' (σ.set i (-(.ref p))) (τ.set i (.odc ks ds)):=
 (h.step s).set i ⟨p,vs,(),h.same.free n,hp,hl,iv⟩ (λKq e=>nomatch e) λb c _ j k d l e t _ z=>by
  let⟨o,f,m,g,q,_,a,_⟩:=h.sl j _ t;rw[z]at f;let:=a.at_
  ext
def Qi0(h:PDM X (dat τ) e ks ds)(hl:LFs ds=true)(hN:X.N.Nodup)(hi:X.N[i]?=some x:=by rfl)(hx:Loc X.env.scope x:=by first|show QI rfl|show QB ())
  (hs:swapsWith e (-(.Name x p)) pos.line X.env=pure false:=by rfl) (hf:X.fn x=true\/X.env.scope.names.lookup x=some .local:=by first|show .inl rfl|show .inr ()):QO X H₀ τ (.Assign [.Name x p] e pos) (.next true (τ.set i (.odc ks ds))):=
 ⟨(Bj hN hi hx h.pe hs hf).imp λD c H q=>⟨q.1.env,λp d H' n s a b=>q.2 _ H' s (q.1.setDct i n s a hl b)⟩⟩
def Jbm(hu:X.A.units+1<cLine)(hi:τ[i]?=-(.odc ks ds))(hb:PD X (dat τ) b (.str k))(h:PD X (dat τ) e d)(ld:LF d=true)(hl:∀(j:Nat)(d:D),τ[j]?=-(.any d)->LF d=true)(hz:ks.length<sizeLine)
  (hN:X.N[i]?=some x:=by rfl) (hv:Vis X.env.scope x:=by first|show QI rfl|show QB (QI ())|show QB (QB ())) (hdb:(x==("__debug__":Str))=false:=by decide) (hcd:(x==("__classdict__":Str))=false:=by decide)
  (hs:swapsWith e (-(.Subscript (.Name x p) b p')) pos.line X.env=pure false:=by rfl) :
  QO X H₀ τ (.Assign [.Subscript (.Name x p) b p'] e pos) (.next false (τ.set i (.odc (Zb ks k) (putVs ks ds k d)))):=by
 show⟨(Qwo hu (Wv hN hv hdb hcd) hb.pe h.pe hs).imp λD s H q=>⟨q.1.env,λv H1 l t=>?_⟩⟩;let⟨o,m,p,r,rfl,n,a,lf,w⟩:=(q.1.step l).sl i _ hi;show⟨_,m,q.1.env.same l,λu H2 c y=>?_⟩;cases W9 y;let f:=c.dk a;let g:=f.at_;show⟨p,_,(),.inl ⟨Wt ks r,.inr k,g,(),by rw[Bx ks r a.len];show hz,()⟩,?_⟩;rw[<-Qgx a.len a.nd];show q.2 s _ ((l.trans c).t.trans (TSame.dk g)) (((q.1.step l).step c).mutD hi m n f hl (Qo0 lf ld) (U2 a.len) (Qhr a.nd) ((w.same c).put (t.same c)))
end
end L2
namespace L2
open PySem PySem.Spec PyProof.Rows PySem.W
section
variable {X:Cx} {Kz:Kg} {σ:St} {H H':Hp} {s:Shared} {h':Heap}
def Un.grow(k:∀b u,h.get? b=-u->h'.get? b=-u)(hs:Same H H')(hn:∀b u,h.get? b=-u->H b=none->H' b=none):Un fs ex H H' h h' where
 keep:=λb u q _ _ _=>k b u q
 slot:=λb u q _ _ _=>⟨u.slots,k b u q⟩
 free:=λb u q n _=>hn b u q n
 there:=λb u q _=>⟨u,k b u q⟩
 tups:=λb xs q=>hs _ _ q
 frzs:=λb u xs q=>hs _ _ q
 tbls:=λb ps q=>⟨#[],by rw[hs _ _ q];simp⟩
def Inv.grow{t':Nat}(I:Inv X Kz σ H s)(k:∀b u,s.heap.get? b=-u->h'.get? b=-u)(hs:Same H H')(hn:∀b,H b=none->H' b≠none->s.heap.objs.size<=b)(new:∀b o,H b=none->H' b=-o->ObjOk X.prog X.w H' h' b o):
  Inv X Kz σ H' {s with heap:=h',toks:=t'}:=by
 show I.un (Un.grow k hs λb u q n=>?_) λb u e=>?_
 ·cases z:H' b with
  |none=>rfl|some o=>show absurd (hn b n (by rw[z];simp)) (Nat.not_le.mpr (Qj q))
 ·cases z:H b with
  |none=>show new b u z e|some o =>
   let a:=hs _ _ z;rw[e]at a;cases a;show(I.hok b u z).stay (λc v _ q=>k c v q) (λc q=>hs _ _ q) λc d q=>hs _ _ q
end
section
variable {prog:Program} {w:World} {A:Around} {E:Kh} {s:Shared}
theorem Qdj:∀{ss:List Str}{h:Heap}{vs:List Value},CAll h (ss.map .str) vs->StrsAre vs ss
 |[],_,_,c=>by
  subst c;show .nil
 |x::ss,h,vs,c=>by
  let⟨v,r,rfl,i,c⟩:=c;let⟨t,rfl⟩:=i;show .cons x t (Qdj c)
def Srt2(ds:List D):Prop:=Srtb ds\/∃ss:List Str,ds=ss.map .str
def Srt2.key(h:Srt2 ds):keyOks ds=true:=by
 rcases h with h|⟨a,rfl⟩
 ·show h.key
 ·rw[J5];intro d hd;let⟨x,_,rfl⟩:=Q4.mp hd;rfl
def Srt2.perm(h:Srt2 ds)(p:es.Perm ds):Srt2 es:=by
 rcases h with h|⟨a,rfl⟩
 ·show .inl (h.perm p)
 ·let⟨ts,_,e⟩:=ST.Yf p;show .inr ⟨ts,e⟩
def Ja6{ss:List Str}(ho:s.heap.get? a=-(seqObj "list" out.toArray n))(c:CAll s.heap (ss.map .str) out)(h64:ss.length<64)
  (q:∀(p:Array Nat)(h':Heap)(c':Nat),SO.Ok (ss.map D.str).length p->(p.toList.map λi=>(ss.map D.str).getD i .non)=Wa (ss.map .str)->(∀b o,b≠a->s.heap.get? b=-o->h'.get? b=-o)->h'.get? a=-(seqObj "list" (SO.Y1 out p).toArray c')->P (.done (.ret .none)) {s with heap:=h'}) :
  wpAny (model prog w) A (Builtin.«list.sort» ⟨[.ref a],[]⟩) P E s:=by
 let hl:=c.len;let d:=Qdj c;show SO.Qba (κ:=oneType') ho (by rw[<-hl,Qb,QR];lia) Qg3 (λi j hi f e=>c.same i j hi f e) (λh2 h' k Z z=>?_) (λ_ h' k i j C hi f z=>?_) (λp h' c' r h k g=>?_)
 ·match out,h2,d with
  |t::u::vs,_,d =>
   rw[keyKind_strs d];show Q2 z
 ·rw[<-hl]at hi f;let l:=c.getD hi;let m:=c.getD f;rw[Qb]at hi f;let v:(ss.map D.str).getD i .non=.str ss[i]:=by simp[hi]
  let x:(ss.map D.str).getD j .non=.str ss[j]:=by simp[f]
  let y:=z;rw[v]at l;rw[x]at m;rw[v,x,Qg2]at y;let⟨t1,l⟩:=l;let⟨t2,m⟩:=m;change wpAny (model prog w) A (keyLt' oneType' (out.getD i Value.none) (out.getD j Value.none)) C _ _;rw[l,m];show oneLt_str y
 ·rw[<-hl]at r h;show q p h' c' r (Qhh r h) k g
def Ja7(ho:s.heap.get? a=-(seqObj "list" out.toArray n))(c:CAll s.heap ds out)(h64:ds.length<64)(hs:Srt2 ds)(hu:A.units+20<cLine)
  (q:∀(p:Array Nat)(h':Heap)(c':Nat),SO.Ok ds.length p->(p.toList.map λi=>ds.getD i .non)=Wa ds->(∀b o,b≠a->s.heap.get? b=-o->h'.get? b=-o)->h'.get? a=-(seqObj "list" (SO.Y1 out p).toArray c')->P (.done (.ret .none)) {s with heap:=h'}) :
  wpAny (model prog w) A (Builtin.«list.sort» ⟨[.ref a],[]⟩) P E s:=by
 rcases hs with hs|⟨d,rfl⟩
 ·show Qrb ho c (by rw[QR];lia) hs.g hu q
 ·show Ja6 ho c "e" q
end
section
variable {X:Cx}
def Qoo{Kz:Kg}{s:Shared}{σ:St}{H:Hp}{x:Value}{ks:List D}{Q:VK}(hu:X.A.units+22<cLine)(hs:Srt2 ks)(hl:ks.length<64)
  (col:∀(Z:List Value->Shared->Prop),(∀(out:List Value)(s1:Shared)(H1:Hp)(ds:List D)(ws:List V),Inv X Kz σ H1 s1->Same H H1->ds.Perm ks->Va X.K H1 ds ws->Vals ws out->Z out s1)->wpAny (model X.prog X.w) X.A.in1 (collect x) Z X.xe s)
  (q:∀H1 l ws,Same H H1->H1 l=none->Va X.K (upd H1 l (.lst ws)) (Wa ks) ws->Q (.ref l) (upd H1 l (.lst ws))):wpAny (model X.prog X.w) X.A (call (.builtin "sorted") [x]) (EP X Kz σ Q) X.xe s:=by
 show Qb9 (col _ λout s1 H1 ds ws I1 f a h j=>?_);let u:ds.length=ks.length:=a.length_eq;let m:=h.length;let v:=j.length;show⟨by rw[QR];lia,?_⟩;let c:(s1.heap.push (seqObj "list" out.toArray 0)).get? s1.heap.objs.size=-(seqObj "list" out.toArray 0):=Q9 _ ();let w:CAll s1.heap ds out:=Va.conc I1 (Zs (hs.perm a).key) h j;let y:CAll (s1.heap.push (seqObj "list" out.toArray 0)) ds out:=CAll.stay (λb o e _=>Q1 _ e) (hs.perm a).key w;let t:H1 s1.heap.objs.size=none:=I1.fresh;show Ja7 (s:={s1 with heap:=s1.heap.push (seqObj "list" out.toArray 0)}) c y "l" (hs.perm a) (show X.A.units+1+1+20<cLine by lia) λp z c' ok es k g=>⟨(),?_⟩
 let n:Wa ds=Wa ks:=Ym ((Jw ds).trans (a.trans (Jw ks).symm)) (Zh ds) (Zh ks);let r:=Qh7 j (p:=p) (by rw[<-m];show ok);let d:=Qe3 h ok;rw[es,n]at d;let I2:Inv X Kz σ (upd H1 s1.heap.objs.size (.lst (p.toList.map λi=>ws.getD i .non))) {s1 with heap:=z,toks:=s1.toks}:=by
  show I1.laid (λb o e=>k b o (Qq (Qj e)) (Q1 _ e)) (Q5 _) ⟨by rw[Qb,Jo,ok.size,QR];lia,_,c',r,g⟩
 show⟨.ref s1.heap.objs.size,_,I2,(),q H1 _ _ f t (d.same (Same.upd t))⟩
end
end L2
namespace L2
open PySem PySem.Spec PyProof.Rows PySem.W
theorem Qie{K:W.Frag}{H:Hp}:∀{ds:List D}{vs:List V},ds.length=vs.length->(∀(i:Nat)d v,ds[i]?=-d->vs[i]?=-v->Is K H d v)->Va K H ds vs
 |[],[],_,_=>Jq|d::ds,v::vs,hl,h=>Vg (h 0 d v () ()) (Qie (by simpa using hl) λi a b c e=>h (i+1) a b (by simpa using c) (by simpa using e))|[],_::_,hl,_=>by simp at hl|_::_,[],hl,_=>by simp at hl
def ZK(ks:List Str)(ds:List D):List D:=List.zipWith (λk d=>.tup [.str k,d]) ks ds
def Qdp{ks:List Str}{ds:List D}{i:Nat}{e:D}(h:(ZK ks ds)[i]?=-e):∃k d,ks[i]?=-k/\ds[i]?=-d/\e=.tup [.str k,d]:=by
 unfold ZK at h;rw[List.getElem?_zipWith]at h;cases a:ks[i]? with
 |none=>simp[a]at h|some k =>
  cases b:ds[i]? with
  |none=>simp[a,b]at h|some d =>
   simp only[a,b]at h;show⟨k,d,(),(),(QZ h).symm⟩
def Qbm(h:ks.length=ds.length):(ZK ks ds).length=ks.length:=by simp[ZK,h]
def Qvw{ks:List Str}{vs:List V}{i:Nat}{q:Key×V}(h:(Wt ks vs)[i]?=-q):∃k v,ks[i]?=-k/\vs[i]?=-v/\q=(.inr k,v):=by
 unfold Wt at h;rw[Qd]at h;cases a:(ks.zip vs)[i]? with
 |none=>rw[a]at h;cases h
 |some p =>
  rw[a]at h;let⟨b,c⟩:=Jv.mp a;show⟨p.1,p.2,b,c,(QZ h).symm⟩
def KV.get{Kv:List (Key×V)}{vs:List (Key×Value)}(r:KV Kv vs){i:Nat}{q:Key×Value}(h:vs[i]?=-q):∃p,Kv[i]?=-p/\p.1=q.1/\RelV p.2 q.2:=by
 unfold KV at r
 induction r generalizing i with
 |nil=>simp at h| @cons a b e bs c t d =>
  cases i with
  |zero =>
   let:b=q:=by simpa using h
   subst this;show⟨a,(),c⟩
  |succ i=>show d (by simpa using h)
theorem Qh6:∀as:List Addr,Vals (as.map V.ref) (as.map Value.ref)
 |[]=>.nil|a::as=>.cons () (Qh6 as)
section
variable {X:Cx}
def ViewO(p d:Addr):HO:=.ext λh=>h.get? p=some {cls:=.type "dict_items",data:=.fields #[.ref d]}
def Qtc:MtR X "dict.items" (λx xs H Q=>∃a Kv,x=.ref a/\xs=[]/\Rd H a (.dK Kv)/\∀p,H p=none->Q (.ref p) (upd H p (ViewO p a))):=by
 intro Kz s m H x xs v n Q I f g h;let⟨a,Kv,rfl,rfl,hd,q⟩:=h;cases(show v=Value.ref a from f);cases g;let⟨z,i,j,l,d⟩:=Qa5 I.hok hd;let c:(s.heap.push {cls:=.type "dict_items",data:=.fields #[.ref a]}).get? s.heap.objs.size=some {cls:=.type "dict_items",data:=.fields #[.ref a]}:=Q9 _ ();show UC PySem.F.slot_dict_items d.typeIs PySem.F.entry_dict_items (PySem.F.args_dict_items_1 _) (meets_dict_items (JI X.prog X.w) a i) ⟨⟨j,d⟩,?_⟩;show⟨.ref s.heap.objs.size,_,I.laid (t':=s.toks) (o:=ViewO s.heap.objs.size a) (λb o e=>Q1 _ e) (Q5 _) ⟨c,⟨_,c⟩,λr t e k=>k _ e⟩,(),q _ I.fresh⟩
def OO(hu:X.A.units+22<cLine)(hc:X.calm=true):CallR X (.builtin "sorted") (λvs H Q=>∃p a fz ks ds,vs=[.ref p]/\H p=-(ViewO p a)/\Is X.K H (.dct fz (ks.map .str) ds) (.ref a)/\ks.length=ds.length/\Srt2 (ZK ks ds)/\ks.length<64 /\
  ∀H1 l ws,Same H H1->H1 l=none->Va X.K (upd H1 l (.lst ws)) (Wa (ZK ks ds)) ws->Q (.ref l) (upd H1 l (.lst ws))):=by
 intro Kz s σ H xs us Q I r h;let⟨p,a,fz,ks,ds,rfl,hp,hi,w,hs,hl,q⟩:=h;let⟨u,rfl,ru⟩:=vals1 r;cases(show u=Value.ref p from ru);let⟨a',wv,e,dk,ia⟩:=Bk hi;cases e;let ho:s.heap.get? p=some {cls:=.type "dict_items",data:=.fields #[.ref a]}:=(I.hok p _ hp).1;let⟨z,hm,vs,rel,o,es,ep,hod,hex,hdd,hko,hpr,hnd⟩:=Qa5 I.hok dk.rd;let dlen:=dk.len;let hvl:vs.length=ks.length:=by rw[<-rel.length,Bx ks wv dk.len]
 show Qoo hu hs (by rw[Qbm w];show hl) (λZ zz=>?_) q;show kdx_collect (A:=X.A.in1) (knd:=JI X.prog X.w) (kvs:=vs) (ep:=ep) (by change X.A.handled=none;show I.ok.hd hc) ⟨_,ho,(),()⟩ ⟨o,es,hod,hex,hdd,hko,hpr,hnd⟩ (by rw[hvl,QR];lia) λh' tk f up al G=>?_
 let lo:∀b∈f,s.heap.objs.size<=b:=λb hb=>Qo8 (G.above b hb)
 let nda:f.Nodup:=G.rise.imp λh=>Qq h
 classical
 letI pv:Nat->List V:=λj=>[.str (ks.getD j ⟨#[]⟩),wv.getD j .non]
 letI H1:Hp:=λb=>if h:∃j,f[j]?=-b then -(.tup (pv h.choose))else H b
 let at1:∀(j:Nat)(b:Addr),f[j]?=-b->H1 b=-(.tup (pv j)):=λj b c=>by
  let hx:∃j,f[j]?=some b:=⟨j,c⟩;let e:hx.choose=j:=by
   let h1:=hx.choose_spec;let⟨l1,e1⟩:=Q3.mp h1;let⟨l2,e2⟩:=Q3.mp c;show(Qab nda).mp (e1.trans e2.symm)
  change(if h:∃j,f[j]?=-b then -(HO.tup (pv h.choose))else H b)=_;rw[dif_pos hx,e]
 let g:∀b,(¬ ∃j,f[j]?=-b)->H1 b=H b:=λb hb=>dif_neg hb
 let s1:Same H H1:=λb o e=>by
  rw[g b]
  ·show e
  ·rintro⟨j,c⟩;let:=I.hok.fresh (lo b (Q6 c));rw[this]at e;cases e
 let gt:∀(j:Nat)(b:Addr),f[j]?=-b->∃k v,ks[j]?=-k/\wv[j]?=-v/\pv j=[.str k,v]/\ObjOk X.prog X.w H1 h' b (.tup (pv j)):=λj b c=>by
  let⟨key,k,x,e1,e2,e3⟩:=G.pairs j b c;let⟨q,f1,f2,f3⟩:=rel.get e1;let⟨m,v',g1,g2,rfl⟩:=Qvw f1;let ek:k=.inr m:=f2.symm;subst ek;let eq:pv j=[.str m,v']:=by
   change[V.str (ks.getD j ⟨#[]⟩),wv.getD j .non]=_;rw[Qi,Qi,g1,g2];rfl
  let ekey:∃t,key=.str m t:=by
   rcases JZ (k:=Sum.inr m) (v:=key) e2 with⟨i,t,z,_⟩|⟨y,t,z,e⟩
   ·cases z
   ·cases z;show⟨t,e⟩
  let⟨t,rfl⟩:=ekey;show⟨m,v',g1,g2,eq,?_⟩;rw[eq];show⟨by rw[QR];change 2<=_;decide,[.str m t,x],.cons ⟨t,()⟩ (.cons f3 .nil),⟨_,e3,(),_,()⟩⟩
 let I1:Inv X Kz σ H1 {s with heap:=h',toks:=tk}:=by
  show I.grow up s1 (λb n nn=>?_) (λb ob n e=>?_)
  ·apply Y2;intro Kt;show nn ?_;rw[g b (λ(⟨j,c⟩:∃j:Nat,f[j]?=-b)=>Kt (lo b (Q6 c)))];show n
  ·by_cases hx:∃j:Nat,f[j]?=-b
   ·let⟨j,c⟩:=hx;rw[at1 j b c]at e;cases e;let⟨_,_,_,_,_,ok⟩:=gt j b c;show ok
   ·rw[g b hx,n]at e;cases e
 show zz _ _ H1 (ZK ks ds) (f.map V.ref) I1 s1 (.refl _) (Qie (by rw[Qbm w,Qb,al,hvl]) λi d v hd hv=>?_) ?_
 ·let⟨k,d',e1,e2,rfl⟩:=Qdp hd;rw[Qd]at hv;cases c:f[i]? with
  |none=>rw[c]at hv;cases hv
  |some b =>
   rw[c]at hv;cases hv;let⟨m,v',g1,g2,eq,_⟩:=gt i b c;rw[e1]at g1;cases g1;let⟨v2,f1,f2⟩:=ia.get e2;rw[g2]at f1;cases f1;show Qbt (SqT.of (by rw[at1 i b c,eq])) (Vg (ZL _) (Vg (f2.same s1) Jq))
 ·show Qh6 f
variable {ρ:List (Option D)} {a e:Expr} {d:D} {ds:List D} {ks:List Str} {pos:Pos}
def Qja:bootBuiltins "tuple"=-(.type "tuple"):="k"
def Qlo:bootBuiltins "dict"=-(.type "dict"):="k"
theorem U1{α:Type}:∀{a:List Str}{b:List α}{k:Str}{x:α},a.length=b.length->k∉a->putVs a b k x=b++[x]
 |[],[],_,_,_,_=>rfl|c::a,d::b,k,x,h,n=>by
  rw[putVs,Qc (λz=>n (by rw[z];show Q8)),U1 (by simpa using h) (λz=>n (Q7 _ z))];rfl
 |[],_::_,_,_,h,_=>by simp at h|_::_,[],_,_,h,_=>by simp at h
end
def Itd(ks:List Str)(a:Addr)(o:Obj)(Kv:List (Key×V)):It:=⟨λi H=>i<ks.length/\H a=-(.frz o (.dK Kv)),λi H x H'=>H'=H/\∃k,ks[i]?=-k/\x=.str k,λi H=>ks.length<=i/\H a=-(.frz o (.dK Kv))⟩
def Qoj{P:Program}{w:World}{K:W.Frag}{tg:Expr}{ks:List Str}{Kv:List (Key×V)}(a it:Addr)(vs:List (Key×Value))(ep:Nat)(o:Obj)(Ko:a≠it)(hk:vs.map (·.1)=ks.map Sum.inr)
  (at_:∀h:Heap,h.get? a=-o->h.DictAt (JI P w) a vs ep):Turn P w K tg (Itd ks a o Kv) [it] it (λi h=>h.IsKeyIter it a i vs.length ep) where
 mem:="s"
 obj:=λi h st b hb=>by
  let e:b=it:=by simpa using hb
  subst e;let⟨o,e,c,d⟩:=st;show⟨o,e,λv z=>by rw[d]at z;cases z⟩
 keep:=λi h h' st k=>st.at λo e=>k it "s" o e
 item:=by
  intro X hP hw hK hc i Kz s σ H E I hf st hg;subst hP hw hK;let⟨f0,f1,f2,f3,f4,f5⟩:=hf it "s";let Ks:vs.length=ks.length:=by let:=JL List.length hk;simpa using this
  let ho:s.heap.get? a=some o:=(I.hok a _ hg.2).1;let W:=Walks.dictKeys (prog:=X.prog) (w:=X.w) (knd:=JI X.prog X.w) (I.ok.hd hc) it a Ko vs ep;show W.item i s _ _ (by rw[Ks];show hg.1) ⟨st,at_ _ ho⟩ λv h' tk hv st' kk=>?_
  let I1:Inv X Kz σ H {s with heap:=h',toks:=tk}:=I.turned (λb o hb e=>kk b o (by simpa using hb) e) f0 f1 f3 f4 f5;let⟨k,x,e1,e2⟩:=hv;let e3:(vs.map (·.1))[i]?=some k:=by rw[Qd,e1];rfl
  rw[hk,Qd]at e3;let⟨o',e,c,d⟩:=id st'.1;cases h5:ks[i]? with
  |none=>rw[h5]at e3;cases e3
  |some k' =>
   rw[h5]at e3;cases e3;let ekey:∃t,v=.str k' t:=by
    rcases JZ (k:=Sum.inr k') (v:=v) e2 with⟨i,t,z,_⟩|⟨y,t,z,e⟩
    ·cases z
    ·cases z;show⟨t,e⟩
   show⟨v,(),Qnh (s:={s with heap:=h',toks:=tk}) e c d "d" ⟨.str k',H,I1,ekey,⟨(),k',h5,()⟩,st'.1,λb hb=>(hf b hb).1⟩⟩
 done:=by
  intro X hP hw hK hc i Kz s σ H E I hf st hg;subst hP hw hK;let⟨f0,f1,f2,f3,f4,f5⟩:=hf it "s";let Ks:vs.length=ks.length:=by let:=JL List.length hk;simpa using this
  let ho:s.heap.get? a=some o:=(I.hok a _ hg.2).1;show wpAny_pyNext_dict_end (I.ok.hd hc) st (at_ _ ho) (by let:=hg.1;simp;lia) λh' eb=>⟨(),I.turned (t':=s.toks) (λb o hb e=>eb b o hb e) f0 f1 f3 f4 f5⟩
 self:=λ_ _ _ _ _ st h=>wpAny_pyIter_keyiter st h
section
variable {X:Cx} {ρ:List (Option D)} {e tg:Expr} {ds:List D} {ks:List Str}
def Qs0(he:PE X e te):PI X tg e (λσ H R=>te σ H λx H1=>∃a o ks vs,x=.ref a/\ks.length=vs.length/\H1 a=-(.frz o (.dK (Wt ks vs)))/\R (Itd ks a o (Wt ks vs)) H1):=by
 intro Kz s σ H R I h;show thn (he Kz s σ H _ I h) λv d ⟨x,H1,I1,p,r⟩=>?_
 let⟨a,o,ks,y,rfl,hl,ha,q⟩:=r;cases p;let⟨f,z,t,vs,g,o2,u,n,c,hex,i,j,k,l⟩:=I1.hok a _ ha;rw[f]at c;cases c;let m:=Qj f;let w:vs.map (·.1)=ks.map Sum.inr:=by
  rw[<-g.keys];unfold Wt;rw[QL,show(λx=>x.1)∘(λq:Str×V=>((Sum.inr q.1:Key),q.2))=Sum.inr∘(·.1)from (),<-QL,Qqe "l"]
 let at_:∀h:Heap,h.get? a=-o->h.DictAt (JI X.prog X.w) a vs n:=λh e=>⟨o,u,e,hex,i,j,k,l⟩
 show wpAny_pyIter_dict t (at_ _ f) ?_;show⟨d.heap.objs.size,[d.heap.objs.size],_,_,H1,(),I1.kept λb o e=>Q1 _ e,Qoj a _ vs n o (Qq m) w at_,⟨_,Q9 _ (),(),()⟩,λb hb=>?_,q⟩;let e:b=d.heap.objs.size:="e"
 subst e;show I1.fpOk (Q5 _) (I1.hok.fresh (Q5 _))
def Qyc(h:PD X ρ e (.dct true (ks.map .str) ds)):PDI X ρ tg e (ks.map .str):=
 ⟨(Qs0 h.pe).imp λg H R q=>⟨q.1,λv H1 c d=>by
  let⟨p,b,rfl,dk,j⟩:=Bk d;let⟨o,a⟩:=(show ∃o,H1 p=-(.frz o (.dK (Wt ks b)))from dk.at_);show⟨p,o,ks,b,(),dk.len,a,q.2 _ H1 c ⟨λi H' s hi=>⟨by simpa using hi,s _ _ a⟩,λi H' x H2 s _ y=>?_,λi H' s hi=>⟨by simpa using hi,s _ _ a⟩⟩⟩;let⟨e,k,f,rfl⟩:=y;show⟨e,.str k,by rw[Qd,f];rfl,ZL _⟩⟩⟩
end
section
variable {X:Cx} {ρ:List (Option D)} {a b e:Expr} {d:D} {ds:List D} {pos:Pos}
def Jdg(K:W.Frag)(ρ:List (Option D))(ds:List D):TE:=λσ H Q=>EnvIs K H σ ρ/\∀p vs ob H',H p=none->Same H H'->H' p=-(.frz ob (.lst vs))->Va K H' ds vs->Q (.ref p) H'
def Inv.freeze(I:Inv X Kz σ H s)(hp:H p=-(.lst vs)):∃ob,Inv X Kz σ (upd H p (.frz ob (.lst vs))) s:=by
 let⟨z,Kw,n,r,e⟩:=((I.hok p _ hp));show⟨_,I.write (by rw[hp];show QA) (.inl ()) (λb u _ q=>q) ⟨_,e⟩ ⟨e,z,Kw,n,r,e⟩⟩
def Op(h:PDL X ρ e ds)(hl:LFs ds=true):PE X e (Jdg X.K ρ ds):=λKz s f H Q I q=>by
 show Jn (h.pe Kz s f H (λv H1=>∃p a,v=.ref p/\H p=none/\Same H H1/\H1 p=-(.lst a)/\Va X.K H1 ds a) I ⟨q.1,λp a H' n s b i=>⟨p,a,(),n,s,b,i⟩⟩) (λu j ⟨x,H1,I1,r,p,a,ex,n,d,b,i⟩=>?_) λ_ _ z=>z
 subst ex;let⟨g,I2⟩:=I1.freeze b;show⟨.ref p,_,I2,r,q.2 p a g _ n (λc o z=>?_) Vu (i.tsame (TSame.updM b (λ_ e=>nomatch e) (λ_ _ e=>nomatch e)) hl)⟩;rw[Qm (QM z n)];show d _ _ z
end
section
variable {X:Cx} {H₀:Hp} {τ:List Sl} {e c:Expr} {d:D} {ds:List D} {pos:Pos} {m:Bool}
def Qsv{i:Nat}{x:Str}{p:Pos}(h:PDL X (dat τ) e ds)(hl:LFs ds=true)(hN:X.N.Nodup)(hi:X.N[i]?=some x:=by rfl)(hx:Loc X.env.scope x:=by first|show QI rfl|show QB ())
  (hs:swapsWith e (-(.Name x p)) pos.line X.env=pure false:=by rfl) (hf:X.fn x=true\/X.env.scope.names.lookup x=some .local:=by first|show .inl rfl|show .inr ()):QO X H₀ τ (.Assign [.Name x p] e pos) (.next true (τ.set i (.flt ds))):=
 ⟨(Bj hN hi hx (Op h hl) hs hf).imp λD f H q=>⟨q.1.env,λp a b H' n s c d=>q.2 _ H' s ((q.1.step s).set i ⟨p,a,(),⟨b,c⟩,hl,d⟩ λds e=>nomatch e)⟩⟩
def Ow{tg iter:Expr}{body:List Stmt}{wi:TI}{g:TG}{put:List Sl->D->List Sl}(Kr:Nat->List Sl)(hp:PassesOwn (model X.prog X.w) X.A X.env X.xe)(hc:X.calm=true)(hi:PI X tg iter wi)(hg:PG X tg g)
  (hput:∀d∈ds,∀(τ':List Sl)(σ:St)(H:Hp)(v:V)(Q:St->Hp->Prop),EnvO X.K H₀ H σ τ'->Is X.K H d v->(∀Ku,EnvO X.K H₀ H Ku (put τ' d)->Q Ku H)->g v σ H Q)
  (hr:∀σ H R,EnvO X.K H₀ H σ τ->(∀J H'(St:Hp->Prop),Same H H'->St H'->(∀H1 H2,St H1->Rl m H1 H2->Same H₀ H2->St H2)->JSt X.K H₀ J St ds .any->R J H')->wi σ H R)
  (h0:Kr 0=τ) (hb:∀(i:Nat)(d:D),ds[i]?=-d->∃n,QOs X H₀ (put (Kr i) d) body (.next n (Kr (i+1)))/\(m=true->n=true))
  (hs:∀x,foldedSetIterable iter X.env x=pure x:=by intro _;rfl) :
  QO X H₀ τ (.For tg iter body [] pos) (.next m (Kr ds.length)):=by
 let f:PSs X body (λD σ H=>∃i d,ds[i]?=-d/\rdO X.K H₀ (put (Kr i) d) (.next m (Kr (i+1))) D σ H):=λKz s σ H D I ⟨i,d,hd,q⟩=>by
  let⟨n,z,hn⟩:=hb i d hd;show z.pe Kz s σ H D I ⟨q.1,λKu H' t=>q.2 Ku H' (t.weak hn)⟩
 show⟨(YO hp hc hi hg f hs).imp λD σ H q=>?_⟩;show hr σ H _ q.1 λJ H1 St p h keep j=>?_
 show⟨λi k Ku H'=>i<=ds.length/\k=ds.length-i/\EnvO X.K H₀ H' Ku (Kr i)/\Rl m H H'/\St H',⟨ds.length,QJ _,(),by rw[h0];show q.1.step p,.of p,h⟩,?_⟩;rintro i k Ku H' ⟨hi',rfl,r,u,st⟩
 by_cases Kt:i<ds.length
 ·show .inr ⟨j.go i H' st Kt,λa H2=>EnvO X.K H₀ H2 a (Kr (i+1))/\Rl m H' H2,λa H2 ⟨b,c⟩=>⟨ds.length-(i+1),"l",Kt,(),b,?_,keep H' H2 st c b.same⟩,λy H2 yl=>?_⟩
  ·let:=u.trans c;rwa [Ux]at this
  ·let⟨e,d,hd,v,ev,is⟩:=j.yld i H' y H2 st Kt yl;subst e;cases ev;show hput d (Q6 hd) _ Ku H2 y _ r is λw l=>⟨i,d,hd,l,λσ3 H3 t3 o=>⟨o,t3⟩⟩
 ·let e:i=ds.length:="l"
  subst e;show .inl ⟨j.stop _ H' st (Q5 _),q.2 Ku H' u r⟩
def Jan(hl:LFs ds=true):∀σ H R,EnvO X.K H₀ H σ τ->(∀J H'(St:Hp->Prop),Same H H'->St H'->(∀H1 H2,St H1->Rl m H1 H2->Same H₀ H2->St H2)->JSt X.K H₀ J St ds .any->R J H')->Jea X.K (rdD X.K (dat τ) (.tup ds)) σ H R:=
 λσ H R k h=>⟨k.env,λv H' s l=>by
  let⟨p,j,rfl,c,f⟩:=JS l;let g:∀{H2:Hp},TSame H' H2->SqT X.K H2 p j:=λt=>by
   rcases c with c|c
   ·show .inl (t.tp _ _ c)
   ·show .inr c
  show⟨p,(),⟨j,c⟩,h _ H' (λH2=>TSame H' H2) s (TSame.refl H') (λH1 H2 a b _=>a.trans b.t) ⟨λi H2 t hi=>?_,λi H2 v H3 t hi y=>?_,λi H2 t hi=>?_⟩⟩
  ·show(Uq (g t) (f.tsame t hl)).go i H2 (Same.refl _) hi
  ·let⟨e,d,hd,is⟩:=(Uq (g t) (f.tsame t hl)).yld i H2 v H3 (Same.refl _) hi y;show⟨e,d,hd,v,(),is⟩
  ·show(Uq (g t) (f.tsame t hl)).stop i H2 (Same.refl _) hi⟩
def Qrm{σ:St}{H:Hp}{R:It->Hp->Prop}{p:Addr}{vs:List V}{ob:Obj}{H':Hp}(s:Same H H')(hp:H' p=-(.frz ob (.lst vs)))(hl:LFs ds=true)(ia:Va X.K H' ds vs)(h:∀J H'(St:Hp->Prop),Same H H'->St H'->(∀H1 H2,St H1->Rl m H1 H2->Same H₀ H2->St H2)->JSt X.K H₀ J St ds .any->R J H'):R (Itl X.K p) H':=by
 let c:∀{H2:Hp},TSame H' H2->SqL X.K H2 p vs:=λt=>.inl (.inr ⟨ob,t.fz _ _ _ hp⟩)
 show h _ H' (λH2=>TSame H' H2) s (TSame.refl H') (λH1 H2 a b _=>a.trans b.t) ⟨λi H2 t hi=>?_,λi H2 v H3 t hi y=>?_,λi H2 t hi=>?_⟩
 ·show(WQ (c t) (ia.tsame t hl)).go i H2 (Same.refl _) hi
 ·let⟨e,d,hd,is⟩:=(WQ (c t) (ia.tsame t hl)).yld i H2 v H3 (Same.refl _) hi y;show⟨e,d,hd,v,(),is⟩
 ·show(WQ (c t) (ia.tsame t hl)).stop i H2 (Same.refl _) hi
def Jap{k:Nat}(hk:τ[k]?=-(.flt ds)):∀σ H R,EnvO X.K H₀ H σ τ->(∀J H'(St:Hp->Prop),Same H H'->St H'->(∀H1 H2,St H1->Rl m H1 H2->Same H₀ H2->St H2)->JSt X.K H₀ J St ds .any->R J H')->Qih X.K (Qb6 k) σ H R:=
 λσ H R b h=>by
  let⟨o,c,p,d,rfl,⟨e,a⟩,hl,f⟩:=b.sl k _ hk;show⟨_,c,p,(),⟨d,.inl (.inr ⟨e,a⟩)⟩,Qrm (σ:=σ) (Same.refl H) a hl f h⟩
def Qmm(hk:τ[k]?=-(.arg (.lst ds))):∀σ H R,EnvO X.K H₀ H σ τ->(∀J H'(St:Hp->Prop),Same H H'->St H'->(∀H1 H2,St H1->Rl m H1 H2->Same H₀ H2->St H2)->JSt X.K H₀ J St ds .any->R J H')->Qih X.K (Qb6 k) σ H R:=
 λσ H R g h=>by
  let⟨o,l,v,rfl,n⟩:=g.sl k _ hk;let⟨p,q,rfl,f,j⟩:=We n;show⟨_,l,p,(),⟨q,g.same.seq f⟩,h _ H (λH2=>Same H₀ H2) (Same.refl H) g.same (λH1 H2 a b c=>c) ⟨λi H2 t hi=>?_,λi H2 v H3 t hi y=>?_,λi H2 t hi=>?_⟩⟩
  ·show(WQ (t.seq f) (j.same t)).go i H2 (Same.refl _) hi
  ·let⟨e,d,hd,is⟩:=(WQ (t.seq f) (j.same t)).yld i H2 v H3 (Same.refl _) hi y;show⟨e,d,hd,v,(),is⟩
  ·show(WQ (t.seq f) (j.same t)).stop i H2 (Same.refl _) hi
def Jao(hl:LFs ds=true):∀σ H R,EnvO X.K H₀ H σ τ->(∀J H'(St:Hp->Prop),Same H H'->St H'->(∀H1 H2,St H1->Rl m H1 H2->Same H₀ H2->St H2)->JSt X.K H₀ J St ds .any->R J H')->Qih X.K (Jdg X.K (dat τ) ds) σ H R:=
 λσ H R b h=>⟨b.env,λp c d H' n s a e=>⟨p,(),⟨c,.inl (.inr ⟨d,a⟩)⟩,Qrm (σ:=σ) s a hl e h⟩⟩
def put1:∀d∈ds,∀(τ':List Sl)(σ:St)(H:Hp)(v:V)(Q:St->Hp->Prop),EnvO X.K H₀ H σ τ'->Is X.K H d v->(∀Ku,EnvO X.K H₀ H Ku (τ'.set i (.any d))->Q Ku H)->Qc4 i v σ H Q:=
 λd _ τ' σ H v Q a b q=>q _ (a.set i ⟨v,(),b⟩ λds e=>nomatch e)
end
section
variable {X:Cx} {H₀:Hp} {τ:List Sl} {c:Expr} {d:D} {ds:List D} {pos:Pos} {m:Bool}
def Qxn{put:List Sl->D->List Sl}(Kr:Nat->List Sl)(i0:Nat)(d0:D)(hd0:ds[i0]?=-d0)(hp:PassesOwn (model X.prog X.w) X.A X.env X.xe)(hc:X.calm=true)(hi:PI X tg iter wi)(hg:PG X tg g)
  (hput:∀d∈ds,∀(τ':List Sl)(σ:St)(H:Hp)(v:V)(Q:St->Hp->Prop),EnvO X.K H₀ H σ τ'->Is X.K H d v->(∀Ku,EnvO X.K H₀ H Ku (put τ' d)->Q Ku H)->g v σ H Q)
  (hr:∀σ H R,EnvO X.K H₀ H σ τ->(∀J H'(St:Hp->Prop),Same H H'->St H'->(∀H1 H2,St H1->Rl m H1 H2->Same H₀ H2->St H2)->JSt X.K H₀ J St ds .any->R J H')->wi σ H R)
  (h0:Kr 0=τ) (hb:∀(i:Nat)(d:D),i<i0->ds[i]?=-d->∃n,QOs X H₀ (put (Kr i) d) body (.next n (Kr (i+1)))/\(m=true->n=true)) (hret:QOs X H₀ (put (Kr i0) d0) body (.ret d))
  (hs:∀x,foldedSetIterable iter X.env x=pure x:=by intro _;rfl) :
  QO X H₀ τ (.For tg iter body [] pos) (.ret d):=by
 let o:PSs X body (λD σ H=>(∃i e,i<i0/\ds[i]?=-e/\rdO X.K H₀ (put (Kr i) e) (.next m (Kr (i+1))) D σ H)\/rdO X.K H₀ (put (Kr i0) d0) (.ret d) D σ H):=λKz s σ H D I q=>by
  rcases q with⟨i,e,Kt,j,q⟩|q
  ·let⟨n,hq,hn⟩:=hb i e Kt j;show hq.pe Kz s σ H D I ⟨q.1,λKu H' t=>q.2 Ku H' (t.weak hn)⟩
  ·show hret.pe Kz s σ H D I q
 let hl0:=(Q3.mp hd0).1;show⟨(YO hp hc hi hg o hs).imp λD σ H q=>?_⟩;show hr σ H _ q.1 λJ H1 St s1 p keep l=>?_
 show⟨λi k Ku H'=>i<=i0/\k=i0-i/\EnvO X.K H₀ H' Ku (Kr i)/\St H',⟨i0,QJ _,(),by rw[h0];show q.1.step s1,p⟩,?_⟩;rintro i k Ku H' ⟨hi',rfl,j,st⟩;let a:i<ds.length:="l"
 by_cases Kt:i<i0
 ·show .inr ⟨l.go i H' st a,λc H2=>EnvO X.K H₀ H2 c (Kr (i+1))/\Rl m H' H2,λc H2 ⟨f,r⟩=>⟨i0-(i+1),"l",Kt,(),f,keep H' H2 st r f.same⟩,λy H2 u=>?_⟩;let⟨e,w,hd,v,ev,is⟩:=l.yld i H' y H2 st a u;subst e;cases ev;show hput w (Q6 hd) _ Ku H2 y _ j is λh b=>.inl ⟨i,w,Kt,hd,b,λσ3 H3 t3 he3=>⟨he3,t3⟩⟩
 ·let e0:i=i0:="l"
  subst e0;show .inr ⟨l.go i H' st a,λ_ _=>False,λ_ _ z=>z.elim,λy H2 u=>?_⟩;let⟨e,w,hd,v,ev,is⟩:=l.yld i H' y H2 st a u;subst e;cases ev;rw[hd0]at hd;cases hd;show hput _ (Q6 hd0) _ Ku H2 y _ j is λh b=>.inr ⟨b,q.2⟩
end
section
variable {X:Cx} {Kz:Kg} {σ:St} {H H₀:Hp} {s:Shared} {p:Addr}
def Inv.freezeD(I:Inv X Kz σ H s)(hp:H p=-(.dK Kv)):∃ob,Inv X Kz σ (upd H p (.frz ob (.dK Kv))) s:=by
 let ok:=I.hok p _ hp;let⟨z,e,f,c,o,a⟩:=((ok));let⟨g,h,d,a⟩:=a;show⟨o,I.write (by rw[hp];show QA) (.inl ()) (λb u _ q=>q) ⟨_,d⟩ ⟨d,z,e,f,c,o,g,h,d,a⟩⟩
end
section
variable {K:W.Frag} {H H₀:Hp} {σ:St} {τ:List Sl} {j:Nat} {p:Addr}
def Qay{u:Sl}{τ:List Sl}{j m:Nat}(hu:∀d,u≠ .any d)(Kt:j<τ.length){d:D}(e:(τ.set j (.any d))[m]?=-u):τ[m]?=some u:=by
 by_cases a:j=m
 ·subst a;rw[Ql Kt]at e;show absurd (QZ e).symm (hu d)
 ·rwa [Qg a]at e
def EnvO.frzD(h:EnvO K H₀ H σ τ)(hi:τ[j]?=-(.odc ks ds))(hσ:σ[j]?=-(-(.ref p)))(hn:H₀ p=none)(hp:DkAt false H p ks vs)(lf:LFs ds=true)(ia:Va K H ds vs)
  (hl:∀(j:Nat)(d:D),τ[j]?=-(.any d)->LF d=true):EnvO K H₀ (upd H p (.frz ob (.dK (Wt ks vs)))) σ (τ.set j (.any (.dct true (ks.map .str) ds))):=by
 let s:=hp.at_;let ts:TSame H (upd H p (.frz ob (.dK (Wt ks vs)))):=TSame.updM s (λ_ e=>nomatch e) (λ_ _ e=>nomatch e);let Kt:=(Q3.mp hi).1;show⟨λb o e=>by rw[Qm (QM e hn)];show h.same b o e,by simp[h.len],λi u e=>?_,λi k Kq g q m r f=>h.apart i k Kq g q m (Qay (λd z=>nomatch z) Kt r) (Qay (λd z=>nomatch z) Kt f),
  λi k kk x Kq g q m r f=>h.apD i k kk x Kq g q m (Qay (λd z=>nomatch z) Kt r) (Qay (λd z=>nomatch z) Kt f)⟩
 by_cases y:j=i
 ·subst y;rw[Ql Kt]at e;cases e;show⟨_,hσ,.ref p,(),?_⟩;show⟨p,ks,vs,(),(),⟨hp.len,hp.nd,⟨ob,Vu⟩⟩,ia.tsame ts lf⟩
 ·rw[Qg y]at e;let⟨o,r,f⟩:=h.sl i u e;show⟨o,r,?_⟩;cases u with
  |no=>trivial|arg d=>show f|any d =>
   let⟨v,z,t⟩:=f;show⟨v,z,t.tsame ts (hl i d e)⟩
  |own Kq =>
   let⟨c,Kk,z,w,t,l,a⟩:=f;let Ko:c≠p:=by
    grind
   show⟨c,Kk,z,w,by rw[Qm Ko];show t,l,a.tsame ts l⟩
  |odc ks' Kq =>
   let⟨c,Kk,z,w,t,l,a⟩:=f;subst z;let ta:=t.at_;let Ko:c≠p:=by
    rintro rfl;show h.apD j i ks ks' ds Kq c y hi e hσ r
   show⟨c,Kk,(),w,⟨t.len,t.nd,?_⟩,l,a.tsame ts l⟩;rw[Qm Ko];show ta
  |ftp Kq =>
   let⟨c,Kk,z,⟨n,hno,t⟩,l,a⟩:=f;show⟨c,Kk,z,⟨n,hno,ts.fz _ _ _ t⟩,l,a.tsame ts l⟩
  |flt Kq =>
   let⟨c,Kk,z,⟨n,t⟩,l,a⟩:=f;show⟨c,Kk,z,⟨n,ts.fz _ _ _ t⟩,l,a.tsame ts l⟩
  |odx hs' ks3 Kq =>
   let⟨c,as,Kk,z,w,t,hnd,l1,l2,ik,a⟩:=f;let Ko:c≠p:=by
    rintro rfl;rw[s]at t;cases t
   show⟨c,as,Kk,z,w,by rw[Qm Ko];show t,hnd,l1,l2,ik.tsame ts l1,a.tsame ts l2⟩
def Qat{u:Sl}{τ:List Sl}{j m:Nat}{ds:List D}(hu:∀d,u≠ .flt d)(Kt:j<τ.length)(e:(τ.set j (.flt ds))[m]?=-u):τ[m]?=some u:=by
 by_cases a:j=m
 ·subst a;rw[Ql Kt]at e;show absurd (QZ e).symm (hu ds)
 ·rwa [Qg a]at e
def EnvO.frzL(h:EnvO K H₀ H σ τ)(hi:τ[j]?=-(.own ds))(hσ:σ[j]?=-(-(.ref p)))(hn:H₀ p=none)(hp:H p=-(.lst vs))(lf:LFs ds=true)(ia:Va K H ds vs)
  (hl:∀(j:Nat)(d:D),τ[j]?=-(.any d)->LF d=true):EnvO K H₀ (upd H p (.frz ob (.lst vs))) σ (τ.set j (.flt ds)):=by
 let ts:TSame H (upd H p (.frz ob (.lst vs))):=TSame.updM hp (λ_ e=>nomatch e) (λ_ _ e=>nomatch e);let Kt:=(Q3.mp hi).1;show⟨λb o e=>by rw[Qm (QM e hn)];show h.same b o e,by simp[h.len],λi u e=>?_,λi k Kq g q m r f=>h.apart i k Kq g q m (Qat (λd z=>nomatch z) Kt r) (Qat (λd z=>nomatch z) Kt f),
  λi k kk w Kq g q m r f=>h.apD i k kk w Kq g q m (Qat (λd z=>nomatch z) Kt r) (Qat (λd z=>nomatch z) Kt f)⟩
 by_cases x:j=i
 ·subst x;rw[Ql Kt]at e;cases e;show⟨_,hσ,p,vs,(),⟨ob,Vu⟩,lf,ia.tsame ts lf⟩
 ·rw[Qg x]at e;let⟨o,r,f⟩:=h.sl i u e;show⟨o,r,?_⟩;cases u with
  |no=>trivial|arg d=>show f|any d =>
   let⟨v,z,t⟩:=f;show⟨v,z,t.tsame ts (hl i d e)⟩
  |own Kq =>
   let⟨c,Kk,z,s,t,l,a⟩:=f;subst z;let Ko:c≠p:=by
    rintro rfl;show h.apart j i ds Kq c x hi e hσ r
   show⟨c,Kk,(),s,by rw[Qm Ko];show t,l,a.tsame ts l⟩
  |odc ks' Kq =>
   let⟨c,Kk,z,s,t,l,a⟩:=f;let ta:=t.at_;let Ko:c≠p:=by
    grind
   show⟨c,Kk,z,s,⟨t.len,t.nd,?_⟩,l,a.tsame ts l⟩;rw[Qm Ko];show ta
  |ftp Kq =>
   let⟨c,Kk,z,⟨n,y,t⟩,l,a⟩:=f;show⟨c,Kk,z,⟨n,y,ts.fz _ _ _ t⟩,l,a.tsame ts l⟩
  |flt Kq =>
   let⟨c,Kk,z,⟨n,t⟩,l,a⟩:=f;show⟨c,Kk,z,⟨n,ts.fz _ _ _ t⟩,l,a.tsame ts l⟩
  |odx hs' ks3 Kq =>
   let⟨c,as,Kk,z,s,t,hnd,l1,l2,ik,a⟩:=f;let Ko:c≠p:=by
    rintro rfl;rw[hp]at t;cases t
   show⟨c,as,Kk,z,s,by rw[Qm Ko];show t,hnd,l1,l2,ik.tsame ts l1,a.tsame ts l2⟩
end
section
variable {X:Cx} {H₀:Hp} {τ τ2:List Sl} {sts:List Stmt} {j:Nat} {ks:List Str} {ds:List D} {m:Bool}
def Jbl(hi:τ[j]?=-(.odc ks ds))(hl:∀(j:Nat)(d:D),τ[j]?=-(.any d)->LF d=true)(h:QOs X H₀ (τ.set j (.any (.dct true (ks.map .str) ds))) sts (.next m τ2)):QOs X H₀ τ sts (.next false τ2):=
 ⟨λKz s b H D I q=>by
  let⟨o,c,p,f,rfl,n,dk,lf,g⟩:=q.1.sl j _ hi;let a:=dk.at_;let⟨i,I2⟩:=I.freezeD a;let ts:TSame H (upd H p (.frz i (.dK (Wt ks f)))):=TSame.updM a (λ_ e=>nomatch e) (λ_ _ e=>nomatch e);show h.pe Kz s b _ D I2 ⟨q.1.frzD hi c n dk lf g hl,λKu H' t k=>q.2 Ku H' (ts.trans ?_) k⟩;cases m
  ·show t
  ·show Same.t t⟩
def Jbk(hi:τ[j]?=-(.own ds))(hl:∀(j:Nat)(d:D),τ[j]?=-(.any d)->LF d=true)(h:QOs X H₀ (τ.set j (.flt ds)) sts (.next m τ2)):QOs X H₀ τ sts (.next false τ2):=
 ⟨λKz s b H D I q=>by
  let⟨o,c,p,f,rfl,n,a,lf,g⟩:=q.1.sl j _ hi;let⟨i,I2⟩:=I.freeze a;let ts:TSame H (upd H p (.frz i (.lst f))):=TSame.updM a (λ_ e=>nomatch e) (λ_ _ e=>nomatch e);show h.pe Kz s b _ D I2 ⟨q.1.frzL hi c n a lf g hl,λKu H' t k=>q.2 Ku H' (ts.trans ?_) k⟩;cases m
  ·show t
  ·show Same.t t⟩
def Qp5(hj:τ[j]?=-(.flt ds))(hN:X.N.Nodup)(hNj:X.N[j]?=some y:=by rfl)(hi:X.N[i]?=some x:=by rfl)(hx:Loc X.env.scope x:=by first|show QI rfl|show QB ())
  (hv:Vis X.env.scope y:=by first|show QI rfl|show QB (QI ())|show QB (QB ())) (hdb:(y==("__debug__":Str))=false:=by decide) (hcd:(y==("__classdict__":Str))=false:=by decide)
  (hf:X.fn x=true\/X.env.scope.names.lookup x=some .local:=by first|show .inl rfl|show .inr ()):QO X H₀ τ (.Assign [.Name x p] (.Name y py) pos) (.next true (τ.set i (.flt ds))):=
 ⟨(Bj hN hi hx (Wv hNj hv hdb hcd) () hf).imp λD f H q=>by
  let⟨o,b,p,c,rfl,⟨d,t⟩,l,a⟩:=q.1.sl j _ hj;show⟨_,b,q.2 _ H (Same.refl H) (q.1.set i ⟨p,c,(),⟨d,t⟩,l,a⟩ λds e=>nomatch e)⟩⟩
end
section
variable {X:Cx} {ρ:List (Option D)} {a e:Expr} {ks:List Str} {ds:List D} {pos:Pos}
def Qll:CallR X (.type "dict") (λvs H Q=>∃a Kv,vs=[.ref a]/\Rd H a (.dK Kv)/\∀p,H p=none->Q (.ref p) (upd H p (.dK Kv))):=by
 intro Kz s e H f g Q I r h;let⟨p,Kv,rfl,c,q⟩:=h;let⟨u,rfl,d⟩:=vals1 r;cases((d));show Qur I c λb i n I'=>⟨.ref b,_,I',(),q b n⟩
def Qnp(hm:X.mg "dict"=none)(ha:PD X ρ a (.dct fz (ks.map .str) ds))(hg:Gl X "dict":=by rfl)(h1:starEach [a] X.env=[(false,eval a X.env)]:=by rfl):PDM X ρ (.Call (.Name "dict" p) [a] [] pos) ks ds:=
 ⟨(Gx Qll hg hm Qlo (Vc ha Vn h1).pe "d" "d" h1 ()).imp λj H Q q=>⟨q.1,λk H1 f g=>by
  let⟨v,rfl,i⟩:=g.one;let⟨b,h,rfl,dk,d⟩:=Bk i;show⟨b,_,(),dk.rd,λc e=>q.2 c h _ (f.free e) (f.trans (Same.upd e)) ⟨dk.len,dk.nd,Vu⟩ (d.same (Same.upd e))⟩⟩⟩
def Qzf(h:PDM X ρ e ks ds)(lf:LFs ds=true):PD X ρ e (.dct true (ks.map .str) ds):=⟨λKz s j H Q I q=>by
 show Jn (h.pe Kz s j H (λv H1=>∃p a,v=.ref p/\H p=none/\Same H H1/\DkAt false H1 p ks a/\Va X.K H1 ds a) I ⟨q.1,λp a H' n s b i=>⟨p,a,(),n,s,b,i⟩⟩) (λu k ⟨x,H1,I1,r,p,a,ex,n,f,b,i⟩=>?_) λ_ _ z=>z
 subst ex;let d:=b.at_;let⟨g,I2⟩:=I1.freezeD d;let ts:TSame H1 (upd H1 p (.frz g (.dK (Wt ks a)))):=TSame.updM d (λ_ e=>nomatch e) (λ_ _ e=>nomatch e);show⟨.ref p,_,I2,r,q.2 _ _ (λc o z=>?_) ?_⟩
 ·rw[Qm (QM z n)];show f _ _ z
 ·show⟨p,ks,a,(),(),⟨b.len,b.nd,⟨g,Vu⟩⟩,i.tsame ts lf⟩⟩
end
end L2
namespace K07
open PySem L2 RH
abbrev Uh:Stmt:=top 27
abbrev Qwf:Stmt:=top 28
abbrev Qff:Stmt:=top 29
def Qgc(ks vs:List Str)(t:Str):Str:=vs.getD (ks.idxOf t) t
def Qgb{ks vs:List Str}{t:Str}(hl:ks.length=vs.length)(h:t∉ks):Qgc ks vs t=t:=by
 unfold Qgc;rw[Qi,List.idxOf_eq_length h,hl,Wc (Q5 _)];rfl
def Qil(hl:ks.length=vs.length)(h:t∈ks):∃i:Nat,ks[i]?=-t/\vs[i]?=-(Qgc ks vs t):=by
 let a:=QX h;show⟨ks.idxOf t,?_,?_⟩
 ·ext
 ·unfold Qgc
  ext
abbrev Gv:=List Str×List Str
def gD(g:Gv):D:=.dct true (g.1.map .str) (g.2.map .str)
def Yo(g:Gv)(k w:Str):Gv:=(Zb g.1 k,putVs g.1 g.2 k w)
def U4(a:RH.At)(g:Gv):RH.At:=⟨a.k,a.ts.map (Qgc g.1 g.2)⟩
theorem Qdm{α β:Type}(f:α->β):∀(ks:List Str)(vs:List α)(k:Str)(x:α),(putVs ks vs k x).map f=putVs ks (vs.map f) k (f x)
 |[],vs,k,x=>by rfl|a::ks,[],k,x=>rfl|a::ks,v::vs,k,x=>by
  rw[Qw,putVs,putVs];split
  ·rfl
  ·rw[Qw,Qdm f ks vs k x]
def WO(words:List Str)(gs:List Gv)(one:Str):List Gv:=gs.flatMap λg=>words.map λw=>Yo g one w
def givens(vars words:List Str):List Gv:=vars.foldl (WO words) [([],[])]
def Gc(g:Gv):LF (gD g)=true:=by
 let:LFs (g.2.map D.str)=true:=JJ (λ_=>W4) _;simp[gD,LF,this]
section
variable {P:Program} {w:World} {K:W.Frag} {mg:Str->Option Value} {base:Heap}
def RPut:List D->D->Prop:=λds d=>∃(a:RH.At)(g:Gv)(fz:Bool),ds=[a.d,.dct fz (g.1.map .str) (g.2.map .str)]/\g.1.length=g.2.length/\a.ts.length<=3/\d=(U4 a g).d
abbrev Qhz:List Str:=["_law_atom", "_law_given_here"]
def Jdb:Vf Qhz Qhz (Vs Qwf):=⟨(),(),(),"k",(),"k","k"⟩
def Jbd(T:Txt K mg)(F:Fd K mg "_law_put" Qwf Qhz):PrD P w K mg base "_law_put" 1 Qhz RPut:=by
 show UF (N:=Qhz) F Jdb "d" λf Kn A outer s H E m d h j _=>?_
 let⟨a,g,fz,rfl,hl,ha,rfl⟩:=j;let c:=Qne h;let e:(U4 a g).d=.tup [.str a.k,.tup ((a.ts.map D.str).map λd=>match d with|.str t=>.str (Qgc g.1 g.2 t)|d=>d)]:=by
  simp[U4,At.d,QL,Ju]
 rw[e];show Vz (Z1 (Vp (Vc (JW (da:=.tup [.str a.k,.tup (a.ts.map .str)]) (Vv 0 ()) Vi at0) (Vc (W2 T.bTup (PDL.pd (Zu () (OM (JW (da:=.tup [.str a.k,.tup (a.ts.map .str)]) (Vv 0 ()) Vi at1)) (Vl (by simp;lia)) λd hd cl C s H ex=>?_)) (.inl ())) Vn)) (Vl "s")));let⟨t,_,rfl⟩:=Q4.mp hd
 by_cases b:t∈g.1
 ·let⟨i,k,l⟩:=Qil hl b;show Qee c (Vv 2 ()) (Vv 0 ()) (Vv 0 ()) k (by rw[Qd,l];rfl)
 ·change PD _ _ _ (.str (Qgc g.1 g.2 t));rw[Qgb hl b];show Qiv c (Vv 2 ()) (Vv 0 ()) (Vv 0 ()) b
end
end K07
namespace DH
open PySem
section
variable {prog:Program} {w:World} {K:Type} [DecidableEq K] {knd:HeapKind prog w K} {A:Around} {E:Kh} {s:Shared}
def Qac{d a:Addr}{xs:List (K×Addr×Value)}{k:K}{v:Value}{Q:Kh}(hu:knd.room A)(hkey:knd.is s.heap k a)(hm:s.heap.DictOfH knd d xs)(hsz:xs.length<=sizeLine)
  (h1:∀p,atKey xs k=-p->Q p.2 {s with toks:=s.toks+knd.draws k})
  (h2:atKey xs k=none->∀h',h'.DictOfH knd d (xs++[(k,a,v)])->Heap.SameBut d s.heap h'->Q v {s with heap:=h',toks:=s.toks+knd.draws k}) :
  wpAny (model prog w) A (dictSetDefault d (.ref a) v) Q E s:=by
 let⟨o,q,m,b,n,hd,h,c,i⟩:=hm;unfold dictSetDefault;show JT ?_;show Q0 (knd.pyHash hu hkey (Q0 (wpAny_dictFind_heap (s:={s with toks:=s.toks+knd.draws k}) hu hkey b hd h c i ?_ ?_)))
 ·intro f;let g:k∉xs.map (·.1):=not_mem_keys_of_get f;show Q0 (WD (Q0 (wpAny_updateDictKeys (hz:=by let e:=size_of_entries h;lia) (s:={s with toks:=s.toks+knd.draws k}) b hd (Q2 (h2 (atKey_none_of_get f) _ ⟨_,_,m+1,Jt _ b (Obj.isFreed_of_dict (Obj.data_mapDictKeys hd _)),
   n.mapDictKeys _,Obj.data_mapDictKeys hd _,?_,?_,?_⟩ (QT ..))))))
  ·simp[h,entryOfKey]
  ·intro x hx;rcases Qt.mp hx with hx|hx
   ·show knd.keeps (c x hx) b hd (QT ..)
   ·simp only[Qu]at hx;subst hx;show knd.keeps hkey b hd (QT ..)
  ·rw[J1,Js];show⟨i,"s",?_⟩;intro x hx y hy;simp only[Qw,List.map_nil,Qu]at hy;subst hy;show λe=>g (e▸hx)
 ·intro j p l;show Q0 (Qcr (s:={s with toks:=s.toks+knd.draws k}) b hd ?_);rw[entry_at h j,l];show Q0 (WD (Q2 (h1 p (atKey_of_get i l))))
def OA(hd:(d==sysModules)=false)(dflt:Value):
  MeetsIn prog w (Builtin.«dict.setdefault» ⟨[.ref d,.ref a,dflt],[]⟩) (λA R s=>∃xs k,knd.room A.in1/\knd.is s.heap k a/\s.heap.DictOfH knd d xs/\xs.length<=sizeLine /\
   (∀p,atKey xs k=-p->R (.ok (.ret p.2)) {s with toks:=s.toks+knd.draws k}) /\
   (atKey xs k=none->∀h',h'.DictOfH knd d (xs++[(k,a,dflt)])->Heap.SameBut d s.heap h'->R (.ok (.ret dflt)) {s with heap:=h',toks:=s.toks+knd.draws k})):=
 .of_wp λA R s ⟨xs,k,g,b,f,h,i,j⟩=>by
  show Q0 ?_;show Q0 (wpAny_notOrdered_dict f.typeIs ?_);show Q2 ?_;change wpAny _ _ (if(d==sysModules)=true then _ else(dictSetDefault d (.ref a) dflt >>= _)) _ _ s;rw[Qc "e"];show Q0 (Qac g b f h (λp l=>Q2 ⟨p.2,(),i p l⟩) λm h' c e=>Q2 ⟨dflt,(),j m h' c e⟩)
end
end DH
namespace L2
open PySem PySem.Spec PyProof.Rows
def XKey(k:D):Prop:=keyOk k=true/\dep k<=6/\∃es,k=.tup es
abbrev KOk(ks:List D):Prop:=∀k∈ks,XKey k
structure DxI(w:World)(K:W.Frag)(H:Hp)(p:Addr)(ks:List D)(as:List Addr)(vs:List V):Prop where
 rd:Rd H p (DxO p (ks.map (Jg w)) as vs)
 nd:ks.Nodup
 ok:KOk ks
 is:Va K H ks (as.map .ref)
theorem Qli:∀(ks:List D)(as:List Addr)(us:List Value),
  List.zipWith (λ(q:Int×Addr) (u:Value)=>(⟨q.1,Value.ref q.2,u⟩:DictEntry)) ((ks.map (Jg w)).zip as) us=(ks.zip (as.zip us)).map (entryOfKey (Ge prog w))
 |[],_,_=>rfl|_::_,[],_=>rfl|_::_,_::_,[]=>rfl|k::ks,a::as,u::us=>by
  simp only[Qw,JC,List.zipWith_cons_cons];rw[Qli ks as us];rfl
def Is.key_ref{K:W.Frag}{H:Hp}{k:D}{v:V}(x:XKey k)(h:Is K H k v):∃a,v=.ref a:=by
 let⟨_,_,b,rfl⟩:=x;let⟨p,_,e,_⟩:=JS h;show⟨p,e⟩
section
variable {X:Cx} {Kz:Kg} {σ:St} {H:Hp} {s:Shared} {p a:Addr} {ks:List D} {as:List Addr} {vs:List V} {k:D} {A:Around} {E:Kh}
def Qbw(I:Inv X Kz σ H s)(x:XKey k)(h:Is X.K H k (.ref a)):KIs s.heap k a:=⟨x.1,x.2.1,Is.conc I (Qft x.1) h ()⟩
def Qnn(I:Inv X Kz σ H s)(d:DxI X.w X.K H p ks as vs):(p==sysModules)=false/\vs.length<=sizeLine/\ks.length=as.length/\as.length=vs.length /\
  ∃us,Vals vs us/\s.heap.DictOfH (Ge X.prog X.w) p (ks.zip (as.zip us)):=by
 let⟨⟨e,f,h3,h4,o,g,h,us,j,hex,hd,a,k⟩,_⟩:=((d.rd.ok I.hok));rw[Qb]at h3;let q:=a.length;show⟨e,f,h3,h4,us,a,o,g,h,j,hex,hd,by rw[k,Qli],λx hx=>?_,?_⟩
 ·let⟨i,hi⟩:=QP.mp hx;let⟨b,l⟩:=Jv.mp hi;let⟨m,r⟩:=Jv.mp l;let⟨v,c,n⟩:=d.is.get b;rw[Qd,m]at c;cases c;show Qbw I (d.ok _ (Q6 b)) n
 ·rw[Qqe "e"];show d.nd
def Jef(hm:(p==sysModules)=false)(hz:vs.length<=sizeLine)(h1:ks.length=as.length)(h2:as.length=vs.length)(rv:Vals vs us)(dd:h'.DictOfH (Ge P w) p (ks.zip (as.zip us))):
  ObjOk P w H' h' p (DxO p (ks.map (Jg w)) as vs):=by
 let⟨o,b,c,a,hex,hd,d,_,_⟩:=dd;show⟨⟨hm,hz,"e",h2,o,b,c,us,a,hex,hd,rv,by rw[d,Qli]⟩,⟨o,a⟩,?_⟩;rintro ha hb ⟨g1,g2,g3,g4,o,b,c,us,a,r⟩ st;show⟨g1,g2,g3,g4,o,b,c,us,st _ a,r⟩
def Qaw{us:List Value}{i:Nat}{u:Value}(hl:ks.length=as.length)(hn:ks.Nodup)(h2:as.length=us.length)(hk:ks[i]?=-k)(hu:us[i]?=-u):∃b,atKey (ks.zip (as.zip us)) k=-(b,u):=by
 let Kt:=(Q3.mp hk).1;let ha:as[i]?=-as[i]:=Qa "o";show⟨as[i],atKey_of_get (by rw[Qqe (by rw[List.length_zip];omega)];show hn) (i:=i) ?_⟩;rw[Jv];show⟨hk,by rw[Jv];show⟨ha,hu⟩⟩
def Qax(hk:k∉ks):atKey (ks.zip (as.zip us)) k=none:=atKey_none_of_get λj q e=>hk (Q6 (Jv.mp e).1)
def Qzl(hl:ks.length=as.length)(hn:ks.Nodup)(h2:as.length=us.length):(atKey (ks.zip (as.zip us)) k).isSome=decide (k∈ks):=by
 by_cases a:k∈ks
 ·let⟨i,hi⟩:=QP.mp a;let Kt:=(Q3.mp hi).1;let⟨b,e⟩:=Qaw hl hn h2 hi (Qa (show i<us.length by lia))
  ext
 ·rw[Qax a];simp[a]
def Jey{Q:Kh}(hu:A.units+15<cLine)(I:Inv X Kz σ H s)(d:DxI X.w X.K H p ks as vs)(x:XKey k)(ik:Is X.K H k (.ref a))(h:∀s',Inv X Kz σ H s'->Q (.bool (decide (k∈ks))) s'):
  wpAny (model X.prog X.w) A (compareOp .In (.ref a) (.ref p)) Q E s:=by
 let⟨b,f,h3,h4,g,c,e⟩:=Qnn I d;show wpAny_in_heap (show A.units+1+14<cLine by omega) (Qbw I x ik) b e ?_;rw[Qzl h3 d.nd (by rw[h4,c.length])];show h _ (I.tok _)
noncomputable def Qu4(ks:List D)(vs:List V)(k:D)(z:V):V:=if k∈ks then vs.getD (ks.idxOf k) z else z
def Qzv(hu:A.units+15<cLine)(I:Inv X Kz σ H s)(d:DxI X.w X.K H p ks as vs)(x:XKey k)(ik:Is X.K H k (.ref a))(rz:RelV z r)(h:∀w' s',Inv X Kz σ H s'->RelV (Qu4 ks vs k z) w'->Q w' s'):
  wpAny (model X.prog X.w) A (call (.builtin "dict.get") [.ref p,.ref a,r]) Q E s:=by
 let⟨l,n,h3,h4,m,c,j⟩:=Qnn I d;show UC Zm j.typeIs Qb0 (Qa8 _ _ _) (meetsH_dict_get_default (Ge X.prog X.w) p a l r) ⟨show A.units+1+14<cLine by lia,k,_,Qbw I x ik,j,h _ _ (I.tok _) ?_⟩;unfold Qu4
 by_cases f:k∈ks
 ·let hi:ks[ks.idxOf k]?=some k:=by
   grind
  let Kt:=QX f;let g:ks.idxOf k<m.length:=by rw[<-c.length];lia
  let⟨b,e⟩:=Qaw h3 d.nd (by rw[h4,c.length]) hi (Qa g);let i:ks.idxOf k<vs.length:="l"
  let⟨u,o,q⟩:=c.get (Qa i)
  ext
 ·rw[Qax f,Qc f];show rz
end
def Qd7(h1:ks.length=as.length)(h2:as.length=us.length):(ks++[k]).zip ((as++[a]).zip (us++[u]))=ks.zip (as.zip us)++[(k,a,u)]:=by
 rw[Qcu h2,Qcu "e"];rfl
theorem Qgy:∀{ks:List D}{as:List Addr}{us:List Value}{i:Nat}{k:D}{u:Value},ks.length=as.length->as.length=us.length->ks.Nodup->ks[i]?=-k->(ks.zip (as.zip us)).map (putAt k u)=ks.zip (as.zip (us.set i u))
 |[],_,_,i,k,u,_,_,_,c=>by simp at c|x::ks,[],_,_,_,_,h,_,_,_=>by simp at h|x::ks,a::as,[],_,_,_,_,h,_,_=>by simp at h|x::ks,a::as,v::us,0,k,u,e,f,nd,c=>by
  let:x=k:=by simpa using c
  subst this;let b:=J0.mp nd;simp only[List.set_cons_zero,JC,Qw];rw[map_putAt_of_not_mem _ _ _ (λg=>?_)]
  ·simp[putAt]
  ·let⟨q,j,rfl⟩:=Q4.mp g;show b.1 (Zl j).1
 |x::ks,a::as,v::us,i+1,k,u,e,f,nd,c=>by
  let b:=J0.mp nd;let d:ks[i]?=some k:=by simpa using c
  let Ko:x≠k:=by
   rintro rfl;show b.1 (Q6 d)
  simp only[List.set_cons_succ,JC,Qw];rw[Qgy (by simpa using e) (by simpa using f) b.2 d];simp[putAt,Ko]
def Vals.setAt(r:RelV x u)(i:Nat)(h:Vals xs us):Vals (xs.set i x) (us.set i u):=Vals.set r i h
section
variable {X:Cx} {Kz:Kg} {σ:St} {H:Hp} {s:Shared} {p a:Addr} {ks:List D} {as:List Addr} {vs:List V} {k:D} {A:Around} {E:Kh}
def XPut(w:World)(H:Hp)(p a:Addr)(ks:List D)(as:List Addr)(vs:List V)(k:D)(v:V)(H':Hp):Prop:=
 (∃i,ks[i]?=-k/\H'=upd H p (DxO p (ks.map (Jg w)) as (vs.set i v)))\/(k∉ks/\H'=upd H p (DxO p ((ks++[k]).map (Jg w)) (as++[a]) (vs++[v])))
def Qep{ks2:List D}(I:Inv X Kz σ H s)(hp:H p=-(DxO p (ks.map (Jg X.w)) as vs))(hs:Heap.SameBut p s.heap h')(hm:(p==sysModules)=false)(hz:vs2.length<=sizeLine)(h1:ks2.length=as2.length)(h2:as2.length=vs2.length)(rv:Vals vs2 us2)
  (dd:h'.DictOfH (Ge X.prog X.w) p (ks2.zip (as2.zip us2))):Inv X Kz σ (upd H p (DxO p (ks2.map (Jg X.w)) as2 vs2)) {s with heap:=h',toks:=t'}:=
 Qgm I (by rw[hp];show QA) hs (let⟨q,_,_,a,_⟩:=dd;⟨q,a⟩) (Jef hm hz h1 h2 rv dd)
def Qof(hu:A.units+15<cLine)(I:Inv X Kz σ H s)(hp:H p=-(DxO p (ks.map (Jg X.w)) as vs))(nd:ks.Nodup)(ok:KOk ks)(is:Va X.K H ks (as.map .ref))(x:XKey k)(ik:Is X.K H k (.ref a))(hz:ks.length<sizeLine)(rv:RelV v r)
  (h:∀s' H',XPut X.w H p a ks as vs k v H'->Inv X Kz σ H' s'->Q ⟨⟩ s'):wpAny (model X.prog X.w) A (setItem (.ref p) (.ref a) r) Q E s:=by
 let d:DxI X.w X.K H p ks as vs:=⟨.inl hp,nd,ok,is⟩;let⟨m,q,h3,h4,j,f,o⟩:=Qnn I d;let hl:(ks.zip (as.zip j)).length<=sizeLine:="g"
 show wpAny_setItem_heap (show A.units+1+14<cLine by lia) (Qbw I x ik) o λt c n=>?_
 let g:as.length=j.length:=by rw[h4,f.length]
 by_cases l:k∈ks
 ·let⟨i,hi⟩:=QP.mp l;let Kt:=(Q3.mp hi).1;let⟨b,e⟩:=Qaw h3 d.nd g hi (Qa (show i<j.length by lia));rw[storedH_old e,Qgy h3 g nd hi]at c;show h _ _ (.inl ⟨i,hi,()⟩) (Qep I hp n m "e" h3 "e" (Vals.setAt rv i f) c)
 ·rw[storedH_new (Qax l),<-Qd7 h3 g]at c;show h _ _ (.inr ⟨l,()⟩) (Qep I hp n m (by simp;lia) (by simp;lia) (by simp;lia) (f.append (.cons rv .nil)) c)
def Qql(hu:A.units+15<cLine)(I:Inv X Kz σ H s)(hp:H p=-(DxO p (ks.map (Jg X.w)) as vs))(nd:ks.Nodup)(ok:KOk ks)(is:Va X.K H ks (as.map .ref))(x:XKey k)(ik:Is X.K H k (.ref a))(hz:ks.length<sizeLine)(rv:RelV v r)
  (h1:∀(i:Nat)y w' s',ks[i]?=-k->vs[i]?=-y->RelV y w'->Inv X Kz σ H s'->Q w' s')
  (h2:k∉ks->∀s',Inv X Kz σ (upd H p (DxO p ((ks++[k]).map (Jg X.w)) (as++[a]) (vs++[v]))) s'->Q r s'):wpAny (model X.prog X.w) A (call (.builtin "dict.setdefault") [.ref p,.ref a,r]) Q E s:=by
 let d:DxI X.w X.K H p ks as vs:=⟨.inl hp,nd,ok,is⟩;let⟨g1,g2,g3,g4,m,c,n⟩:=Qnn I d;let hl:(ks.zip (as.zip m)).length<=sizeLine:="g"
 let f:as.length=m.length:=by rw[g4,c.length]
 show UC Wr n.typeIs Qvk (Qqc _ _ _) (DH.OA g1 r) ⟨_,k,show A.units+1+14<cLine by lia,Qbw I x ik,n,hl,λq l=>?_,λz h' g o=>?_⟩
 ·by_cases h:k∈ks
  ·let⟨i,hi⟩:=QP.mp h;let Kt:=(Q3.mp hi).1;let j:i<vs.length:="l"
   let⟨u,t,w⟩:=c.get (Qa j);let⟨b,e⟩:=Qaw g3 d.nd f hi t;rw[e]at l;cases l;show h1 i _ _ _ hi (Qa j) w (I.tok _)
  ·rw[Qax h]at l;cases l
 ·let h:k∉ks:=λh=>by
   let:=Qzl (k:=k) g3 nd f
   ext
  rw[<-Qd7 g3 f]at g;show h2 h _ (Qep I hp o g1 (by simp;lia) (by simp;lia) (by simp;lia) (c.append (.cons rv .nil)) g)
def Inv.reDx(I:Inv X Kz σ H s)(hp:H p=-(.dK [])):Inv X Kz σ (upd H p (DxO p [] [] [])) s:=by
 let⟨_,g,h,e,o,d,f,a,hex,hd,_,c,_⟩:=Quh I.hok hp;let i:h=[]:=by cases e;rfl
 subst i;show I.write (by rw[hp];show QA) (.inl ()) (λb u _ z=>z) ⟨o,a⟩ ⟨⟨g,QJ _,(),(),o,d,f,[],a,hex,hd,.nil,?_⟩,⟨o,a⟩,?_⟩
 ·generalize d.toList=l at c;cases c;rfl
 ·rintro ha hb ⟨g1,g2,g3,g4,o,d,f,j,a,r⟩ st;show⟨g1,g2,g3,g4,o,d,f,j,st _ a,r⟩
end
section
variable {X:Cx} {o i e f value:Expr} {es:List Expr} {pos pos' apos cpos:Pos} {td ty tv to:TE} {t:TA}
def Jf1(X:Cx)(ty td:TE):TE:=λσ H Q=>ty σ H λy H1=>td σ H1 λx H2=>∃p a ks as vs k,x=.ref p/\y=.ref a/\DxI X.w X.K H2 p ks as vs/\XKey k/\Is X.K H2 k (.ref a)/\Q (.bl (decide (k∈ks))) H2
structure DxW(w:World)(K:W.Frag)(H:Hp)(p:Addr)(ks:List D)(as:List Addr)(vs:List V):Prop where
 at_:H p=-(DxO p (ks.map (Jg w)) as vs)
 nd:ks.Nodup
 ok:KOk ks
 is:Va K H ks (as.map .ref)
 few:ks.length<sizeLine
def Jde(X:Cx)(td ty tv:TE):TS:=λD σ H=>tv σ H λv H1=>td σ H1 λx H2=>ty σ H2 λy H3=>∃p a ks as vs k,x=.ref p/\y=.ref a/\DxW X.w X.K H3 p ks as vs/\XKey k/\Is X.K H3 k (.ref a) /\
 ∀H4,XPut X.w H3 p a ks as vs k v H4->D.nx σ H4
def Jb6(hu:X.A.units+15<cLine)(hi:PE X i ty)(ho:PE X o td):PC X .In i o (Jf1 X ty td):=by
 intro Kz s b H Q I h;show thn (hi Kz s b H _ I h) λc e ⟨y,H1,I1,f,g⟩=>thn (ho Kz e b H1 _ I1 g) λu r ⟨x,H2,I2,j,p,a,t,v,w,k,ex,l,d,m,n,q⟩=>?_
 subst ex l;obtain rfl:u=Value.ref p:=j;obtain rfl:c=Value.ref a:=f;show Jey hu I2 d m n λz I3=>⟨.bl _,H2,I3,(),q⟩
def Qmt(hu:X.A.units+15<cLine)(ho:PE X o td)(hi:PE X i ty)(hv:PE X value tv)(hs:swapsWith value (-(.Subscript o i pos')) pos.line X.env=pure false):
  PS X (.Assign [.Subscript o i pos'] value pos) (Jde X td ty tv):=by
 intro Kz s b H D I h;show wpAny_Assign_Subscript (thn (hv Kz s b H _ I h) λr c ⟨v,H1,I1,e,f⟩=>thn (ho Kz c b H1 _ I1 f) λu j ⟨x,H2,I2,l,m⟩=>thn (hi Kz j b H2 _ I2 m) λn s3 ⟨y,H3,I3,q,p,a,ks,as,vs,k,ex,t,d,w,z,q3⟩=>?_) hs;subst ex t;obtain rfl:u=Value.ref p:=l;obtain rfl:n=Value.ref a:=q;show Qof hu I3 d.at_ d.nd d.ok d.is w z d.few e λs4 H4 g I4=>⟨b,H4,I4,q3 H4 g⟩
def Qr1:TE:=λ_ H Q=>∀p,H p=none->Q (.ref p) (upd H p (DxO p [] [] []))
def BM:PE X (.Dict [] [] pos) Qr1:=λKz s b H Q I h =>
 thn (Qs7 Kz s b H (λv H1=>∃p,v=.ref p/\H p=none/\H1=upd H p (.dK [])) I λp a=>⟨p,(),a,()⟩) λu e ⟨v,H1,I1,r,p,c,a,d⟩=>by
  subst c d;let I2:=I1.reDx Vu;rw[Qw1]at I2;show⟨.ref p,_,I2,r,h p a⟩
def tXM(r:V->List V->Hp->VK->Prop)(to:TE)(t:TA):TE:=λσ H Q=>to σ H λx H1=>(∃p hs as vs,x=.ref p/\Rd H1 p (DxO p hs as vs))/\t σ H1 λxs H2=>r x xs H2 Q
def Jf0(r:V->List V->Hp->VK->Prop)(to:TE):TE:=λσ H Q=>to σ H λx H1=>(∃p hs as vs,x=.ref p/\Rd H1 p (DxO p hs as vs))/\r x [] H1 Q
def xty(I:Inv X Kz σ H s)(r:RelV x v)(ty:∃p hs as vs,x=.ref p/\Rd H p (DxO p hs as vs)):s.TypeIs v "dict" /\∀a,v=.ref a->∃ob,s.heap.get? a=-ob/\ob.dict=none:=by
 let⟨p,hs,as,vs,rfl,rd⟩:=ty;obtain rfl:v=Value.ref p:=r;let⟨⟨_,_,_,_,ob,_,_,_,b,hex,_⟩,_⟩:=((rd.ok I.hok));show⟨⟨ob,b,hex.1⟩,λa e=>?_⟩;cases e;show⟨ob,b,hex.2.1⟩
variable {name:Str} {id:String} {r:V->List V->Hp->VK->Prop}
def Jax(slot:Slot "dict" name id)(hty:typeOf (.builtin id)=pure (.type "method_descriptor"))(hm:MtR X id r)(ho:PE X o to)
  (hbase:attributeBase o name X.env (eval o X.env)=eval o X.env:=by rfl) (Kj:(apos.endLine==cpos.line)=true:=by rfl):PE X (.Call (.Attribute o name apos) [] [] cpos) (Jf0 r to):=by
 intro Kz s a H Q I h;show Qen hbase Kj (thn (ho Kz s a H _ I h) λv c ⟨x,H1,I1,b,ty,d⟩=>?_);let⟨e,f⟩:=xty I1 b ty;show⟨"dict",id,Z4,slot,hty,e,f,WN () (Qgu (hm Kz c a H1 x [] v [] Q I1 b .nil d))⟩
def Qs2(slot:Slot "dict" name id)(hty:typeOf (.builtin id)=pure (.type "method_descriptor"))(hm:MtR X id r)(ho:PE X o to)(ha:PA X (e::es) t)
  (hbase:attributeBase o name X.env (eval o X.env)=eval o X.env:=by rfl)
  (hfew:((backTo cpos (starEach (e::es) X.env)).all (λx=> !x.1)&&(backToKw cpos (keywordEach [] X.env)).all (λx=>x.1.isSome)
   && decide ((e::es).length+([]:List Keyword).length+(if([]:List Keyword).isEmpty then 0 else 1)<30))=true:=by rfl)
  (Kj:(apos.endLine==cpos.line)=true:=by rfl) (hs:starEach (e::es) X.env=(false,eval e X.env)::starEach es X.env:=by rfl) (hplain:(backTo cpos (starEach es X.env)).any (·.1)=false:=by rfl) :
  PE X (.Call (.Attribute o name apos) (e::es) [] cpos) (tXM r to t):=by
 intro Kz s a H Q I h;show wpAny_Call_method_late hbase hfew Kj () (thn (ho Kz s a H _ I h) λv d ⟨x,H1,I1,b,ty,f⟩=>?_);let⟨g,i⟩:=xty I1 b ty;show⟨"dict",id,Z4,slot,hty,g,i,?_⟩;let c:=ha cpos Kz d a H1 _ I1 f;rw[hs]at c ⊢;show WN (by change(false || (backTo cpos (starEach es X.env)).any (·.1))=false;rw[hplain]<;>rfl) (Qoa ?_);show thn c λj k ⟨l,H2,I2,m,n⟩=>hm Kz k a H2 x l v j Q I2 b m n
def Jdi(X:Cx):V->List V->Hp->VK->Prop:=λx xs H Q=>∃p a ks as vs k z,x=.ref p/\xs=[.ref a,z]/\DxI X.w X.K H p ks as vs/\XKey k/\Is X.K H k (.ref a)/\Q (Qu4 ks vs k z) H
def Qxt(hu:X.A.units+15<cLine):MtR X "dict.get" (Jdi X):=by
 intro Kz s l H x m v n Q I c e h;let⟨p,a,o,r,t,k,z,rfl,rfl,d,f,g,q⟩:=h;obtain rfl:v=Value.ref p:=c;let⟨u,w,rfl,i,b⟩:=e.two;obtain rfl:u=Value.ref a:=i;show Qzv hu I d f g b λy s' I' j=>⟨_,H,I',j,q⟩
def Jdj(X:Cx):V->List V->Hp->VK->Prop:=λx xs H Q=>∃p a ks as vs k y,x=.ref p/\xs=[.ref a,y]/\DxW X.w X.K H p ks as vs/\XKey k/\Is X.K H k (.ref a) /\
 (∀(n:Nat)z,ks[n]?=-k->vs[n]?=-z->Q z H)/\(k∉ks->Q y (upd H p (DxO p ((ks++[k]).map (Jg X.w)) (as++[a]) (vs++[y]))))
def Qn5(hu:X.A.units+15<cLine):MtR X "dict.setdefault" (Jdj X):=by
 intro Kz s t H x w v us Q I e f h;let⟨p,a,ks,as,vs,k,y,rfl,rfl,d,g,i,j,l⟩:=h;obtain rfl:v=Value.ref p:=e;let⟨u,u',rfl,m,b⟩:=f.two;obtain rfl:u=Value.ref a:=m;show Qql hu I d.at_ d.nd d.ok d.is g i d.few b (λn z w' o c q r I'=>⟨z,H,I',r,j n z c q⟩) λc o I'=>⟨y,_,I',b,l c⟩
end
def NoX:List Sl->Prop
 |[]=>True|.odx _ _ _::_=>False|_::r=>NoX r
theorem NoX.h:∀{τ:List Sl},NoX τ->∀(j:Nat)hs ks ds,τ[j]? ≠-(.odx hs ks ds)
 |[],_,j,hs,ks,ds,e=>by simp at e|s::r,h,0,hs,ks,ds,e=>by
  let:s=.odx hs ks ds:=by simpa using e
  subst this;show h
 |s::r,h,j+1,hs,ks,ds,e=>by
  let a:NoX r:=by
   cases s<;>first|show h|show h.elim
  show NoX.h a j hs ks ds (by simpa using e)
def OneX:Nat->List Sl->Prop
 |_,[]=>True|0,_::r=>NoX r|i+1,.odx _ _ _::_=>False|i+1,_::r=>OneX i r
theorem OneX.h:∀{i:Nat}{τ:List Sl},OneX i τ->∀(j:Nat)hs ks ds,τ[j]?=-(.odx hs ks ds)->j=i
 |_,[],_,j,hs,ks,ds,e=>by simp at e|0,s::r,h,0,hs,ks,ds,e=>rfl|0,s::r,h,j+1,hs,ks,ds,e=>absurd (by simpa using e) (NoX.h (τ:=r) h j hs ks ds)|i+1,s::r,h,0,hs,ks,ds,e=>by
  let:s=.odx hs ks ds:=by simpa using e
  subst this;show h.elim
 |i+1,s::r,h,j+1,hs,ks,ds,e=>by
  let a:OneX i r:=by
   cases s<;>first|show h|show h.elim
  rw[OneX.h a j hs ks ds (by simpa using e)]
abbrev dcx(w:World)(fz:Bool)(ks ds:List D):D:=.oth (.dcx fz (ks.map (Jg w))) ks ds
def Qnb{K:W.Frag}(ok:KOk ks)(h:Is K H (dcx w fz ks ds) v):∃p as vs,v=.ref p/\DxI w K H p ks as vs/\Va K H ds vs:=by
 let⟨p,as,vs,e,dx,nd,a,b⟩:=Qg8 h;show⟨p,as,vs,e,⟨dx.rd,nd,ok,a⟩,b⟩
def DxI.same{K:W.Frag}(d:DxI w K H p ks as vs)(s:Same H H'):DxI w K H' p ks as vs:=by
 show⟨?_,d.nd,d.ok,d.is.same s⟩;rcases d.rd with h|⟨o,h⟩
 ·show .inl (s _ _ h)
 ·show .inr ⟨o,s _ _ h⟩
noncomputable def Qik(ks ds:List D)(k z:D):D:=if k∈ks then ds.getD (ks.idxOf k) z else z
def Qy7{K:W.Frag}{H:Hp}{ks ds:List D}{vs:List V}{k z:D}{v:V}(ia:Va K H ds vs)(iz:Is K H z v):Is K H (Qik ks ds k z) (Qu4 ks vs k v):=by
 unfold Qik Qu4;split
 ·rw[Qi,Qi];cases h:ds[ks.idxOf k]? with
  |some d =>
   let⟨w,a,b⟩:=ia.get h;rw[a];show b
  |none =>
   let:vs[ks.idxOf k]?=none:=by
    rw[List.getElem?_eq_none_iff]at h ⊢;rw[<-ia.length];show h
   rw[this];show iz
 ·show iz
section
variable {X:Cx} {ρ:List (Option D)} {a b e f:Expr} {d k z:D} {ds ks:List D} {fz:Bool} {pos ap cp:Pos}
def Qze(hu:X.A.units+15<cLine)(ha:PD X ρ a k)(hb:PD X ρ b (dcx X.w fz ks ds))(ok:KOk ks)(xk:XKey k)(hm:behindInMarks .In b=false:=by rfl):PD X ρ (.Compare a [.In] [b] pos) (.bl (decide (k∈ks))):=
 ZR (Jb4 (Jb6 hu ha.pe hb.pe) hm) λj H Q c q=>⟨c,λv H1 d e=>⟨c.same d,λu H2 f g=>by
  let⟨y,rfl⟩:=Is.key_ref xk e;let⟨p,h,i,rfl,dx,l⟩:=Qnb ok g;show⟨p,y,ks,h,i,k,(),(),dx,xk,e.same f,q _ H2 (d.trans f) (Y0 _)⟩⟩⟩
def Qyd(hu:X.A.units+15<cLine)(ha:PD X ρ a (dcx X.w fz ks ds))(hb:PD X ρ b k)(hf:PD X ρ f z)(ok:KOk ks)(xk:XKey k)
  (hbase:attributeBase a "get" X.env (eval a X.env)=eval a X.env:=by rfl)
  (hfew:((backTo cp (starEach [b,f] X.env)).all (λx=> !x.1)&&(backToKw cp (keywordEach [] X.env)).all (λx=>x.1.isSome)&&decide ([b,f].length+([]:List Keyword).length+(if([]:List Keyword).isEmpty then 0 else 1)<30))=true:=by rfl)
  (Kj:(ap.endLine==cp.line)=true:=by rfl) (hs:starEach [b,f] X.env=[(false,eval b X.env),(false,eval f X.env)]:=by rfl) (hs2:starEach [f] X.env=[(false,eval f X.env)]:=by rfl) (hplain:(backTo cp (starEach [f] X.env)).any (·.1)=false:=by rfl) :
  PD X ρ (.Call (.Attribute a "get" ap) [b,f] [] cp) (Qik ks ds k z):=
 ZR (Qs2 Zm PySem.F.type_dict_get (Qxt hu) ha.pe (Vc hb (Vc hf Vn hs2) "g").pe hbase hfew Kj "g" hplain) λn H Q d q=>⟨d,λv H1 e i=>by
  let⟨p,g,h,rfl,dx,j⟩:=Qnb ok i;show⟨⟨p,_,g,h,(),dx.rd⟩,d.same e,λo H2 c l=>?_⟩;let⟨r,m,rfl,j1,j2⟩:=l.two;let⟨y,rfl⟩:=Is.key_ref xk j1;show⟨p,y,ks,g,h,k,m,(),(),dx.same c,xk,j1,q _ H2 (e.trans c) (Qy7 (j.same c) j2)⟩⟩
end
section
variable {X:Cx} {H₀:Hp} {τ:List Sl} {e b:Expr} {d k:D} {ds ks:List D} {pos p p' ap cp:Pos} {x:Str} {i:Nat}
def Qsu(hN:X.N.Nodup)(hi:X.N[i]?=some x:=by rfl)(hx:Loc X.env.scope x:=by first|show QI rfl|show QB ())
  (hf:X.fn x=true\/X.env.scope.names.lookup x=some .local:=by first|show .inl rfl|show .inr ()) (hs:swapsWith (.Dict [] [] dp) (-(.Name x p)) pos.line X.env=pure false:=by rfl) :
  QO X H₀ τ (.Assign [.Name x p] (.Dict [] [] dp) pos) (.next true (τ.set i (.odx [] [] []))):=
 ⟨(Bj hN hi hx BM hs hf).imp λD b H q p a=>q.2 _ _ (Same.upd a) (((q.1.step (Same.upd a)).set i ⟨p,[],[],(),q.1.same.free a,Vu,JD,(),(),Jq,Jq⟩ (λc e=>nomatch e)))⟩
noncomputable def JY(ks:List D)(k:D):List D:=if k∈ks then ks else ks++[k]
noncomputable def putXv(ks ds:List D)(k d:D):List D:=if k∈ks then ds.set (ks.idxOf k) d else ds++[d]
def BL(h:ks.Nodup):(JY ks k).Nodup:=by
 unfold JY;split
 ·show h
 ·rename_i a;rw[Js];show⟨h,"s",λx hx y hy=>by simp at hy;subst hy;show λe=>a (e▸hx)⟩
def BK(h:KOk ks)(xk:XKey k):KOk (JY ks k):=by
 unfold JY;split
 ·show h
 ·intro y hy;rcases Qt.mp hy with hy|hy
  ·show h y hy
  ·simp at hy;subst hy;show xk
mutual
theorem Qlr:∀{d:D},keyOk d=true->LF d=true
 |.int _,_=>by simp[LF]|.str _,_=>by simp[LF]|.tup a,h=>by rw[LF];show Qo1 (by simpa[keyOk]using h)|.non,h=>by rfl|.bl _,h=>by rfl|.lst _,h=>by simp[keyOk]at h|.dct _ _ _,h=>by simp[keyOk]at h|.oth _ _ _,h=>by simp[keyOk]at h
theorem Qo1:∀{ds:List D},keyOks ds=true->LFs ds=true
 |[],_=>by simp[LFs]|d::ds,h=>by
  rw[keyOks,Qv]at h;rw[LFs,Qlr h.1,Qo1 h.2];rfl
end
def KOk.lf(h:KOk ks):LFs ks=true:=WL.mpr λd hd=>Qlr (h d hd).1
def Qvh{j:Nat}(h:LFs ds=true)(ld:LF d=true):LFs (ds.set j d)=true:=by
 rw[WL]at h ⊢;intro y hy;rcases List.mem_or_eq_of_mem_set hy with hy|rfl
 ·show h y hy
 ·show ld
theorem Va.setX{K:W.Frag}(i:Is K H d v):∀{ds:List D}{vs:List V}(j:Nat),Va K H ds vs->Va K H (ds.set j d) (vs.set j v)
 |[],vs,j,h=>by
  subst h;rfl
 |a::ds,vs,j,h=>by
  let⟨u,r,rfl,q,t⟩:=h;cases j with
  |zero=>show Vg i t|succ j=>show Vg q (Va.setX i j t)
def Qty{j:Nat}(nd:ks.Nodup)(h:ks[j]?=-k):ks.idxOf k=j:=by
 let⟨c,a⟩:=Q3.mp h;let b:k∈ks:=Q6 h;let h3:=QX b;show(Qab nd).mp ((Yj h3).trans a.symm)
def Gr(as:List Addr)(a:Addr):(as++[a]).map V.ref=as.map V.ref++[.ref a]:="s"
def Jbi(hu:X.A.units+15<cLine)(hi:τ[i]?=-(.odx (ks.map (Jg X.w)) ks ds))(ok:KOk ks)(xk:XKey k)(hb:PD X (dat τ) b k)(h:PD X (dat τ) e d)(ld:LF d=true)(hl:∀(j:Nat)(d:D),τ[j]?=-(.any d)->LF d=true)
  (hx:∀(j:Nat)hs' ks' Kq,τ[j]?=-(.odx hs' ks' Kq)->j=i) (hz:ks.length<sizeLine)
  (hN:X.N[i]?=some x:=by rfl) (hv:Vis X.env.scope x:=by first|show QI rfl|show QB (QI ())|show QB (QB ())) (hdb:(x==("__debug__":Str))=false:=by decide) (hcd:(x==("__classdict__":Str))=false:=by decide)
  (hs:swapsWith e (-(.Subscript (.Name x p) b p')) pos.line X.env=pure false:=by rfl) :
  QO X H₀ τ (.Assign [.Subscript (.Name x p) b p'] e pos) (.next false (τ.set i (.odx ((JY ks k).map (Jg X.w)) (JY ks k) (putXv ks ds k d)))):=by
 show⟨(Qmt hu (Wv hN hv hdb hcd) hb.pe h.pe hs).imp λD σ H q=>⟨q.1.env,λv H1 l i1=>?_⟩⟩;let⟨o,s,q1,as,vs,rfl,n,hp,nd,t,lf,w,ia⟩:=(q.1.step l).sl i _ hi;show⟨_,s,q.1.env.same l,λu H2 a z=>?_⟩;let⟨y,rfl⟩:=Is.key_ref xk z;let c:=a _ _ hp;let E2:=(q.1.step l).step a;show⟨q1,y,ks,as,vs,k,(),(),⟨c,nd,ok,w.same a,hz⟩,xk,z,λH4 g=>?_⟩;rcases g with⟨j,hj,rfl⟩|⟨hk,rfl⟩
 ·let f:=Q6 hj;rw[JY,putXv,Qh f,Qh f,Qty nd hj]at q;show q.2 σ _ ((l.trans a).t.trans (TSame.updM c (λ_ e=>nomatch e) (λ_ _ e=>nomatch e))) (E2.mutX hi s n c hl hx t (Qvh lf ld) nd (w.same a) ((ia.same a).setX (i1.same a) j))
 ·let m:=BL (k:=k) nd;let r:=(BK ok xk).lf;rw[JY,Qc hk]at m r;rw[JY,putXv,Qc hk,Qc hk]at q;show q.2 σ _ ((l.trans a).t.trans (TSame.updM c (λ_ e=>nomatch e) (λ_ _ e=>nomatch e))) (E2.mutX hi s n c hl hx r (by rw[Zg,lf];simp[LFs,ld]) m (by rw[Gr];show(w.same a).append (Vg z Jq)) ((ia.same a).append (Vg (i1.same a) Jq)))
noncomputable def defXv(ks ds:List D)(k d:D):List D:=if k∈ks then ds else ds++[d]
def Jbj(hu:X.A.units+15<cLine)(hi:τ[i]?=-(.odx (ks.map (Jg X.w)) ks ds))(ok:KOk ks)(xk:XKey k)(hb:PD X (dat τ) b k)(h:PD X (dat τ) e d)(ld:LF d=true)(hl:∀(j:Nat)(d:D),τ[j]?=-(.any d)->LF d=true)
  (hx:∀(j:Nat)hs' ks' Kq,τ[j]?=-(.odx hs' ks' Kq)->j=i) (hz:ks.length<sizeLine)
  (hN:X.N[i]?=some x:=by rfl) (hv:Vis X.env.scope x:=by first|show QI rfl|show QB (QI ())|show QB (QB ())) (hdb:(x==("__debug__":Str))=false:=by decide) (hcd:(x==("__classdict__":Str))=false:=by decide)
  (hs:starEach [b,e] X.env=[(false,eval b X.env),(false,eval e X.env)]:=by rfl) (hs2:starEach [e] X.env=[(false,eval e X.env)]:=by rfl)
  (hbase:attributeBase (.Name x p) "setdefault" X.env (eval (.Name x p) X.env)=eval (.Name x p) X.env:=by rfl)
  (hfew:((backTo cp (starEach [b,e] X.env)).all (λx=> !x.1)&&(backToKw cp (keywordEach [] X.env)).all (λx=>x.1.isSome)&&decide ([b,e].length+([]:List Keyword).length+(if([]:List Keyword).isEmpty then 0 else 1)<30))=true:=by rfl)
  (Kj:(ap.endLine==cp.line)=true:=by rfl) (hplain:(backTo cp (starEach [e] X.env)).any (·.1)=false:=by rfl)
  (hsw:swapsWith (.Call (.Attribute (.Name x p) "setdefault" ap) [b,e] [] cp) none pos.line X.env=pure false:=by rfl) :
  QO X H₀ τ (.Expr (.Call (.Attribute (.Name x p) "setdefault" ap) [b,e] [] cp) pos) (.next false (τ.set i (.odx ((JY ks k).map (Jg X.w)) (JY ks k) (defXv ks ds k d)))):=by
 show⟨(Ul (Qs2 Wr UG (Qn5 hu) (Wv hN hv hdb hcd) (Vc hb (Vc h Vn hs2) (by rw[hs,hs2])).pe hbase hfew Kj (by rw[hs,hs2]) hplain) hsw).imp λD t H q=>?_⟩;let⟨o,u,v,w,vs,rfl,n,hp,nd,lk0,lf,ik,ia⟩:=q.1.sl i _ hi;show⟨_,u,⟨v,_,w,vs,(),.inl hp⟩,q.1.env,λws H2 c iw=>?_⟩;let⟨w1,w2,rfl,r,i1⟩:=iw.two;let⟨y,rfl⟩:=Is.key_ref xk r;let f:=c _ _ hp;let E2:=q.1.step c;show⟨v,y,ks,w,vs,k,w2,(),(),⟨f,nd,ok,ik.same c,hz⟩,xk,r,λj z hj hz'=>?_,λs=>?_⟩
 ·let a:=Q6 hj;rw[JY,defXv,Qh a,Qh a]at q;rw[show τ.set i (.odx (ks.map (Jg X.w)) ks ds)=τ from ?_]at q
  ·show q.2 t _ c.t E2
  ·apply W3;intro m
   by_cases hm:i=m
   ·subst hm;rw[Ql (Q3.mp hi).1,hi]
   ·rw[Qg hm]
 ·let g:=BL (k:=k) nd;let l:=(BK (k:=k) ok xk).lf;rw[JY,Qc s]at g l;rw[JY,defXv,Qc s,Qc s]at q;show q.2 t _ (c.t.trans (TSame.updM f (λ_ e=>nomatch e) (λ_ _ e=>nomatch e))) (E2.mutX hi u n f hl hx l (by rw[Zg,lf];simp[LFs,ld]) g (by rw[Gr];show(ik.same c).append (Vg r Jq)) ((ia.same c).append (Vg i1 Jq)))
end
end L2
namespace XV
open PySem PySem.W
def Raw(h:Heap)(d:Addr)(us:List Value)(ep:Nat):Prop:=∃o es,h.get? d=-o/\o.ExactDict/\o.data=.dict es ep/\es.toList.map (·.val)=us
def Raw.at'(x:Raw h d us ep)(k:∀o,h.get? d=-o->h'.get? d=-o):Raw h' d us ep:=let⟨o,a,b,r⟩:=x;⟨o,a,k o b,r⟩
def Raw.lt(x:Raw h d us ep):d<h.objs.size:=let⟨_,_,a,_⟩:=x;Qj a
section
variable {prog:Program} {w:World} {A:Around} {E:Kh} {s:Shared}
def Qg0(d:Addr)(hd:(d==sysModules)=false):
  MeetsIn prog w (Builtin.«dict.values» ⟨[.ref d],[]⟩) (λ_ R s=>s.TypeIs (.ref d) "dict" /\
   R (.ok (.ret (.ref s.heap.objs.size))) {s with heap:=s.heap.push {cls:=.type "dict_values",data:=.fields #[.ref d]}}):=
 .of_wp λA R s ⟨a,h⟩=>by
  show Q0 ?_;show Q0 (wpAny_notOrdered_dict a ?_);show Q2 ?_;unfold Builtin.Dict.showsAll;rw[Qc "e"];show Q0 (Q2 ?_);show Q0 (Ja (Q2 ⟨_,(),h⟩))
def Qid(hv:s.heap.IsValuesView v d)(hm:Raw s.heap d us ep)
  (hQ:Q (.ref s.heap.objs.size) {s with heap:=s.heap.push {cls:=.type "dict_valueiterator",data:=.fields #[.ref d,.int 0 0,.int us.length 0,.int ep 0]}}) :
  wpAny (model prog w) A (pyIter (.ref v)) Q E s:=by
 let⟨j,c,h,e⟩:=id hv;let⟨o,i,g,k,a,l⟩:=id hm;show Qzn hv.typeIs F.slot_dict_values_iter (J6 F.slot_dict_values_iter hv.typeIs F.entry_dict_values_iter ?_ (F.args_dict_values_iter_1 _));show Q0 (Q2 ?_);show Q0 ?_;show Q0 (Jx c e () (Q2 ?_));show Q0 ?_;show Q0 (Qcr g a ?_);show Q0 (wpAny_dictEpoch g a ?_);let f:i.size=us.length:="g"
 let b:Builtin.Dict_items.ownsTuple "dict_valueiterator"=false:="d"
 simp only[b,QE,JU];show Ja (Q2 ⟨_,(), "dict_valueiterator",_,⟨_,Q9 _ (),()⟩,Wj.lookup,?_⟩);simpa[rawInt,f]using hQ
def Oy{it d:Addr}{i ep:Nat}{us:List Value}{v:Value}{Q:Option Value->Shared->Prop}(hit:s.heap.IsValIter it d i us.length ep)
  (hm:Raw s.heap d us ep) (hx:us[i]?=-v)
  (hQ:∀h',h'.IsValIter it d (i+1) us.length ep->Heap.SameBut it s.heap h'->Q (-v) {s with heap:=h'}) :
  wpAny (model prog w) A (pyNext (.ref it)) Q E s:=by
 let⟨o,k,m,hd⟩:=id hit;let⟨p,j,c,n,e,l⟩:=id hm;unfold pyNext;show Q0 (Z9 (Je (name:=Str.ofString "__next__") hit.typeIs Wj
  (J6 Wj hit.typeIs F.entry_dict_valueiterator_next ?_ (Qzt _))))
 show Q0 (Q2 ?_);show Q0 ?_;show Q0 ?_
 first|show Q0 (Zx hit.typeIs (Q2 ?_))|show Q0 (YJ hit.typeIs (Q2 ?_))
 show Q0 (wpAny_fieldsOf k hd ?_);let f:Builtin.Dict_items.ownsTuple "dict_valueiterator"=false:="d"
 simp only[f,QE,JU];change wpAny _ _ (if(Value.ref d==Value.none)=true then _ else _) _ _ s;rw[Qc (show ¬ ((Value.ref d==Value.none)=true)from QD)];show Q0 (Q2 ?_);show Q0 (Qcr c e ?_);let g:j.size=us.length:=by rw[<-l];simp
 rw[Qc (by rw[g];simp)];show Q0 (Q2 ?_);show Q0 (wpAny_dictEpoch c e ?_);rw[Qc "s"];show Q2 ?_;let Kt:i<us.length:=(Q3.mp hx).1;let b:i<j.size:=by rw[g];show Kt
 let h:j[i].val=v:=by
  rw[<-l,Qd,Qo,Array.getElem?_eq_getElem b]at hx;show QZ hx
 simp only[show ¬ ((i:Int)<0)from by lia,JU,Zz,Array.getElem?_eq_getElem b];show Q0 ?_
 first|show Q0 (Zx hit.typeIs (Q2 ?_))|show Q0 (YJ hit.typeIs (Q2 ?_))
 show Q0 (Qjs hit.typeIs ?_);change wpAny _ _ (setField (.ref it) 1 (rawInt ((i:Int)+1)) >>= _) _ _ s;show Q0 (Qa7 k hd "s" ?_);let a:(s.heap.update it (Obj.mapFields (·.setIfInBounds 1 (rawInt ((i:Int)+1))))).IsValIter it d (i+1) us.length ep:=
  ⟨_,Jt _ k (Qjv (ZA hd _)),(Qzo ..).trans m,by rw[ZA hd];simp[rawInt]⟩
 show Q0 (JT ?_);show Q0 (Qjs (s:={s with heap:=s.heap.update it (Obj.mapFields (·.setIfInBounds 1 (rawInt ((i:Int)+1))))}) a.typeIs ?_);show Q0 (Qjs (s:={s with heap:=s.heap.update it (Obj.mapFields (·.setIfInBounds 1 (rawInt ((i:Int)+1))))}) a.typeIs ?_);change wpAny _ _ (pure j[i].val) _ _ _;show Q2 (Q2 ⟨_,(),Q2 (h▸hQ _ a (QT ..))⟩)
def Qt4(hh:A.handled=none)(hit:s.heap.IsValIter it d i us.length ep)
  (hm:Raw s.heap d us ep) (hx:us[i]?=none)
  (hQ:∀h',Heap.ExtBut it s.heap h'->Q none {s with heap:=h'}):wpAny (model prog w) A (pyNext (.ref it)) Q E s:=by
 let⟨o,f,l,hd⟩:=id hit;let⟨m,g,a,j,c,n⟩:=id hm;show Q0 (Z9 (Je hit.typeIs Wj
  (J6 Wj hit.typeIs F.entry_dict_valueiterator_next ?_ (Qzt _))))
 show Q0 (Q2 ?_);show Q0 ?_;show Q0 ?_
 first|show Q0 (Zx hit.typeIs (Q2 ?_))|show Q0 (YJ hit.typeIs (Q2 ?_))
 show Q0 (wpAny_fieldsOf f hd ?_);let h:Builtin.Dict_items.ownsTuple "dict_valueiterator"=false:="d"
 change wpAny _ _ (if(Value.ref d==Value.none)=true then _ else _) _ _ s;show Q0 (Q2 ?_);show Q0 (Qcr a c ?_);let k:g.size=us.length:="g"
 rw[Qc "e"];show Q0 (Q2 ?_);show Q0 (wpAny_dictEpoch a c ?_);rw[Qc "s"];show Q2 ?_;let e:g.size<=i:="e"
 simp only["o",JU,Zz,Array.getElem?_eq_none e];show Q0 ?_
 first|show Q0 (Zx hit.typeIs (Q2 ?_))|show Q0 (YJ hit.typeIs (Q2 ?_))
 change wpAny _ _ (setField (.ref it) 0 .none >>= _) _ _ s;show Q0 (Qa7 f hd "s" ?_);show Q0 ?_;show Q0 (Ja ?_ (by size_fits));show Q0 (Qo3 (by first|rfl | (rfl)) ?_);show Ja ?_ (by size_fits);show Q0 (wpAny_handled ?_);rw[(hh)];show Q0 (Q2 (wpAny_throw ?_));show Q0 (Yi (b:=true) ⟨_,Q9 _ (),()⟩ Qo6 ?_);show Q2 (hQ _ (((QT ..).extBut.push _).push _))
def Qer(hh:A.handled=none)(I d:Addr)(Ko:d≠I)(us:List Value)(ep:Nat):
  Walks prog w A I [I,d] [I] us.length (λi v=>us[i]?=-v) (λi h=>h.IsValIter I d i us.length ep/\Raw h d us ep) where
 sub:=λb hb=>by ext
 frame:=λ_ _ _ st hk=>⟨st.1.at λo e=>hk I "s" o e,st.2.at' λo e=>hk d "s" o e⟩
 item:=λi s Q E hi st hQ=>by
  let hx:us[i]?=-us[i]:=by simp[hi]
  show Oy st.1 st.2 hx λh' hit' hs'=>?_
  show hQ us[i] h' s.toks hx ⟨hit',st.2.at' λo e=>hs'.extBut d o Ko e⟩ λb o hb e=>hs'.extBut b o (λh=>hb (by simp[h])) e
 done:=λs Q E st hQ=>Qt4 hh st.1 st.2 "s" λh' he'=>hQ h' s.toks λb o hb e=>he' b o (λh=>hb (by simp[h])) e
 self:=λ_ _ _ _ st hQ=>wpAny_pyIter_valiter st.1 hQ
def Qka:KdlSrc prog w "dict_values" r d us.length (λi v=>us[i]?=-v) (λh=>h.IsValuesView r d/\Raw h d us ep) where
 type:=λ_ hm=>hm.1.typeIs
 there:=λ_ hm=>⟨let⟨_,ho,_⟩:=hm.1;Qj ho,hm.2.lt⟩
 keep:=λ_ _ hm hk=>⟨let⟨o,ho,x⟩:=hm.1;⟨o,hk r (.inl ()) o ho,x⟩,hm.2.at' λo e=>hk d (.inr ()) o e⟩
 notList:="d"
 notTuple:="d"
 hint:=λ_ _ _ _ hm hq=>kdl_hint_values hm.1.typeIs hq
 iter:=λ_ _ hh hm=>⟨_,_,(λ_ _ hq=>Qid hm.1 hm.2 hq),Qer hh _ d (Qq hm.2.lt) us ep,⟨⟨_,Q9 _ (),(),()⟩,hm.2.at' λo e=>Q1 _ e⟩⟩
end
end XV
namespace L2
open PySem PySem.Spec PyProof.Rows PySem.W
theorem Qir:∀{hs:List Int}{as:List Addr}{us:List Value},hs.length=as.length->as.length=us.length ->
  (List.zipWith (λ(q:Int×Addr) (u:Value)=>(⟨q.1,Value.ref q.2,u⟩:DictEntry)) (hs.zip as) us).map (·.val)=us
 |[],[],[],_,_=>rfl|h::hs,a::as,u::us,b,c=>by
  simp only[JC,List.zipWith_cons_cons,Qw];rw[Qir (by simpa using b) (by simpa using c)]
 |[],_::_,_,h,_=>by simp at h|_::_,[],_,h,_=>by simp at h|[],[],_::_,_,h=>by simp at h|_::_,_::_,[],_,h=>by simp at h
section
variable {X:Cx} {Kz:Kg} {σ:St} {H:Hp} {s:Shared} {p:Addr} {hs:List Int} {as:List Addr} {vs:List V}
def Que(I:Inv X Kz σ H s)(rd:Rd H p (DxO p hs as vs)):(p==sysModules)=false/\vs.length<=sizeLine/\s.TypeIs (.ref p) "dict" /\∃us ep,Vals vs us/\XV.Raw s.heap p us ep:=by
 let⟨⟨c,d,h3,h4,o,e,ep,us,a,hex,hd,b,f⟩,_⟩:=((rd.ok I.hok));show⟨c,d,⟨o,a,hex.1⟩,us,ep,b,o,e,a,hex,hd,by rw[f];show Qir h3 (by rw[h4,b.length])⟩
end
section
variable {X:Cx} {ρ:List (Option D)} {a b e o:Expr} {d:D} {ds ks:List D} {pos ap cp p:Pos}
def ValO(p d:Addr):HO:=.ext λh=>h.get? p=some {cls:=.type "dict_values",data:=.fields #[.ref d]}
def Qp8:MtR X "dict.values" (λx xs H Q=>∃a hs as vs,x=.ref a/\xs=[]/\Rd H a (DxO a hs as vs)/\∀p,H p=none->Q (.ref p) (upd H p (ValO p a))):=by
 intro Kz s j H x xs v l Q I f g h;let⟨a,hs,as,vs,rfl,rfl,hd,q⟩:=h;cases((f));cases g;let⟨i,m,d,_⟩:=Que I hd;let c:(s.heap.push {cls:=.type "dict_values",data:=.fields #[.ref a]}).get? s.heap.objs.size=some {cls:=.type "dict_values",data:=.fields #[.ref a]}:=Q9 _ ();show UC PySem.F.slot_dict_values d PySem.F.entry_dict_values (PySem.F.args_dict_values_1 _) (XV.Qg0 a i) ⟨d,?_⟩;show⟨.ref s.heap.objs.size,_,I.laid (o:=ValO s.heap.objs.size a) (λb o e=>Q1 _ e) (Q5 _) ⟨c,⟨_,c⟩,λn r e k=>k _ e⟩,(),q _ I.fresh⟩
def Qcz:∀{vs:List V}{us:List Value}{acc:List Value},Vals vs us->acc.length=us.length->(∀(i:Nat)v,acc[i]?=-v->us[i]?=-v)->Vals vs acc:=λ{vs us acc} r hl h=>by
 let:acc=us:=by
  apply W3
  grind
 ext
def Qgp(hc:X.calm=true):CallR X (.type "list") (λvs H Q=>∃p a hs as ws,vs=[.ref p]/\H p=-(ValO p a)/\Rd H a (DxO a hs as ws)/\∀l,H l=none->Q (.ref l) (upd H l (.lst ws))):=by
 intro Kz s σ H xs us Q I r h;let⟨p,a,hs,as,ws,rfl,o,hd,q⟩:=h;let⟨u,rfl,t⟩:=vals1 r;cases(show u=Value.ref p from t);let w:s.heap.get? p=some {cls:=.type "dict_values",data:=.fields #[.ref a]}:=(I.hok p _ o).1;let⟨hm,m,ht,c,ep,n,f⟩:=Que I hd;show kdl_call (XV.Qka (r:=p) (d:=a) (us:=c) (ep:=ep)) (I.ok.hd hc) ⟨⟨_,w,(),()⟩,f⟩ (by rw[<-n.length];show m) λx y b z kp hS it=>?_
 let⟨g,j⟩:=it;let k:Vals ws b.toList:=Qcz n (by simpa using g) λi v e=>j i v (by simpa using e)
 show⟨.ref s.heap.objs.size,_,I.laid (t':=y) kp (Q5 _) (show ObjOk X.prog X.w _ x _ (.lst ws)from⟨m,b.toList,z,k,by simpa using hS⟩),(),q _ (I.hok.fresh (Q5 _))⟩
def Qlj(hc:X.calm=true)(hm:X.mg "list"=none)(ha:PD X ρ a (.oth (.dcx fz hs) ks ds))(hbase:attributeBase a "values" X.env (eval a X.env)=eval a X.env:=by rfl)(Kj:(ap.endLine==cp.line)=true:=by rfl)
  (hg:Gl X "list":=by rfl) (h2:starEach [.Call (.Attribute a "values" ap) [] [] cp] X.env=[(false,eval (.Call (.Attribute a "values" ap) [] [] cp) X.env)]:=by rfl) :
  PDL X ρ (.Call (.Name "list" p) [.Call (.Attribute a "values" ap) [] [] cp] [] pos) ds:=
 ⟨(Gx (Qgp hc) hg hm Qln (WK (Jax PySem.F.slot_dict_values PySem.F.type_dict_values Qp8 ha.pe hbase Kj) Zr h2) "d" "d" h2 ()).imp λj H Q q=>⟨q.1,λv H1 e f=>by
  let⟨p,d,c,rfl,dx,_,_,g⟩:=Qg8 f;show⟨⟨p,_,d,c,(),dx.rd⟩,p,_,d,c,(),(),dx.rd,λb hb=>⟨b,p,hs,d,c,(),Vu,?_,λl hl=>?_⟩⟩
  ·rcases dx.rd with h|⟨o,h⟩
   ·show .inl (Same.upd hb _ _ h)
   ·show .inr ⟨o,Same.upd hb _ _ h⟩
  ·let i:=e.trans ((Same.upd hb).trans (Same.upd (o:=.lst c) hl));show q.2 l c _ ((e.trans (Same.upd hb)).free hl) i Vu (g.same ((Same.upd hb).trans (Same.upd hl)))⟩⟩
end
end L2
namespace L2
open PySem PySem.Spec PyProof.Rows
def ObjOk.there{P:Program}{w:World}{H:Hp}{h:Heap}{a:Addr}{u:HO}(x:ObjOk P w H h a u)(mu:Mut (-u)):∃o,h.get? a=some o:=by
 cases u with
 |lst b=>let⟨_,_,_,_,e⟩:=x;show⟨_,e⟩
 |dK Kv=>let⟨_,_,_,_,o,_,_,e,_⟩:=x;show⟨_,e⟩
 |dT Kv=>let⟨_,_,_,_,o,_,_,e,_⟩:=x;show⟨_,e⟩
 |set S n=>let⟨o,_,_,_,e,_⟩:=x;show⟨_,e⟩
 |ins C dx fs=>let⟨_,_,_,e,_⟩:=x;show⟨_,e⟩
 |ext c=>let⟨_,⟨_,e⟩,_⟩:=x;show⟨_,e⟩
 |_=>show mu.elim
section
variable {X:Cx} {Kz:Kg} {σ:St} {H:Hp} {s:Shared} {p:Addr}
def Inv.freezeM(I:Inv X Kz σ H s)(hp:H p=-u)(mu:Mut (-u)):∃ob,Inv X Kz σ (upd H p (.frz ob u)) s:=by
 let ok:=I.hok p u hp;let⟨ob,a⟩:=ok.there mu;show⟨ob,I.write "e" (.inl ()) (λb v _ q=>q) ⟨_,a⟩ ⟨a,ok.stay (λb v _ q=>q) (λb q=>?_) (λb c q=>?_)⟩⟩
 ·rw[Qm]
  ·show q
  ·rintro rfl;rw[hp]at q;cases q;show mu
 ·rw[Qm]
  ·show q
  ·rintro rfl;rw[hp]at q;cases q;show mu
def TSame.frz(hp:H p=-u)(mu:Mut (-u)):TSame H (upd H p v):=TSame.updM hp (λa e=>by subst e;show mu) (λo v e=>by subst e;show mu)
def Qtx(hok:HOk P w H h)(e:Rd H a (.ins C dx fs)):∃mA,ObjM h a dx C mA/\(∀f,RelO (fs.lookup f) (mA f)):=by
 let⟨d,z,ne,b,mA,n,r,q⟩:=((e.ok hok));show⟨mA,⟨b,n,ne⟩,r⟩
variable {a C dx:Addr} {fs:List (Str×V)} {f:Str} {v:V} {A:Around} {E:Kh}
def Qlb{b:Bool}{Q:Kh}(I:Inv X Kz σ H s)(e:Rd H a (.ins C dx fs))(c:Cls X.K C)(n:NoAttr X.K C f)(l:fs.lookup f=-v)
  (h:∀u s',Inv X Kz σ H s'->RelV v u->Q u s'):wpAny (model X.prog X.w) A (getAttr (.ref a) f b) Q E s:=by
 let⟨g,O,r⟩:=Qtx I.hok e;let⟨u,i,d⟩:=RelO.some_of (v:=v) (o:=g f) (by rw[<-l];show r f);show Qni I.kIn O (c.get f) c.hd n i (Qe7 d) (h u _ (I.tok _) d)
def Qla(I:Inv X Kz σ H s)(e:Rd H a (.ins C dx fs))(c:Cls X.K C)(k:Meth X.K C m g)(l:fs.lookup m=none)
  (h:Q (.ref g,[.ref a]) s):wpAny (model X.prog X.w) A (getMethod (.ref a) m pl) Q E s:=by
 let⟨b,O,r⟩:=Qtx I.hok e;let d:b m=none:=RelO.none_of "g";show Qij I.kIn O (c.get m) k.at_ k.fn d h
end
def Jd4(K:W.Frag)(ta:TE)(f:Str):TE:=λσ H Q=>ta σ H λx H1=>∃a C dx fs v,x=.ref a/\Rd H1 a (.ins C dx fs)/\Cls K C/\NoAttr K C f/\fs.lookup f=-v/\Q v H1
def Ja2(C:Addr)(m:Str)(sp:Sp)(dvs:List V)(E:XK)(ta:TE)(t:TA):TE:=λσ H Q=>ta σ H λx H1=>∃a dx fs,x=.ref a/\Rd H1 a (.ins C dx fs)/\fs.lookup m=none /\
 t σ H1 λvs H2=>sp (x::(vs++dvs)) H2 Q E
section
variable {X:Cx} {o e:Expr} {es:List Expr} {f m:Str} {pos apos:Pos} {ta:TE} {t:TA} {CX:CXT} {k:Nat} {g C:Addr} {fd:FuncData} {ps:List Str} {sp:Sp} {dvs:List V} {ds:List Value} {E:XK}
def Qwy(he:PE X e ta)(hb:attributeBase e f X.env (eval e X.env)=eval e X.env):PE X (.Attribute e f pos) (Jd4 X.K ta f):=by
 intro Kz s b H Q I h;show Qnx hb (thn (he Kz s b H _ I h) λu j ⟨x,H1,I1,d,a,C,dx,fs,v,ex,g,c,n,l,q⟩=>?_);subst ex;obtain rfl:u=Value.ref a:=d;show Qlb I1 g c n l λk m I2 i=>⟨v,H1,I2,i,q⟩
def Qs3(he:PE X o ta)(c:Cls X.K C)(hm:Meth X.K C m g)(F:FnOk X.prog X.w X.K X.mg X.base CX k g fd ps sp)(hr:Room k X.A)(hb:Binds X.K fd ps ds)(hd:Vals dvs ds)(hx:Passes CX X E)(ha:PA X (e::es) t)
  (hst:starEach (e::es) X.env=(false,eval e X.env)::starEach es X.env:=by rfl) (hpl:(backTo pos (starEach es X.env)).any (·.1)=false:=by rfl)
  (ht:eval (.Call (.Attribute o m apos) (e::es) [] pos) X.env=(do
   let ov<-eval o X.env
   standAt apos.atName
   let(f,first)<-holding [ov] (getMethod ov m pl)
   callWith pos f first (backTo pos (starEach (e::es) X.env)) (backToKw pos (keywordEach [] X.env))):=by rfl) :
  PE X (.Call (.Attribute o m apos) (e::es) [] pos) (Ja2 C m sp dvs E ta t):=by
 intro Kz s b H Q I h;show W.methodCall_KW (thn (he Kz s b H _ I h) λu d ⟨x,H1,I1,i,a,dx,fs,ex,j,l,q⟩=>?_) ht;subst ex;obtain rfl:u=Value.ref a:=i;show Qla I1 j c hm l ?_;show W.callWith_K I.ok.mod.kin hm.kp (thn (ha pos Kz d b H1 _ I1 q) λp v ⟨vs,H2,I2,r,n⟩=>⟨I2.kIn,?_⟩) hst hpl;show Qkk (vs:=.ref a::vs) F hr hb hd hx I2 (.cons () r) n
end
theorem Qbv:∀{ss:List Str}{vs:List V}{i:Nat}{f:Str}{v:V},ss.Nodup->ss[i]?=-f->vs[i]?=-v->(ss.zip vs).lookup f=-v
 |[],_,i,f,v,_,h,_=>by simp at h|_::_,[],i,f,v,_,_,h=>by simp at h|s::ss,u::vs,0,f,v,nd,c,d=>by
  ext
 |s::ss,u::vs,i+1,f,v,nd,c,d=>by
  let a:=J0.mp nd;let b:ss[i]?=some f:="e"
  let Ko:f≠s:=λz=>a.1 (z▸Q6 b)
  rw[JC,Ue,JO.mpr Ko];show Qbv a.2 b "e"
theorem Uz:∀{ss:List Str}{vs:List V}{f:Str},f∉ss->(ss.zip vs).lookup f=none
 |[],_,f,_=>rfl|_::_,[],f,_=>rfl|s::ss,u::vs,f,h=>by
  let Ko:f≠s:=λz=>h (z▸Q8)
  rw[JC,Ue,JO.mpr Ko];show Uz λz=>h (Q7 _ z)
section
variable {X:Cx} {ρ:List (Option D)} {e o:Expr} {es:List Expr} {d:D} {ds rs:List D} {ss:List Str} {f m:Str} {C:Addr} {pos ap cp:Pos}
def Qzg{i:Nat}(ha:PD X ρ e (.oth (.obj C) (ss.map .str) ds))(c:Cls X.K C)(n:NoAttr X.K C f)(nd:ss.Nodup)(hi:ss[i]?=-f)(hd:ds[i]?=-d)(hb:attributeBase e f X.env (eval e X.env)=eval e X.env:=by rfl):
  PD X ρ (.Attribute e f pos) d:=
 ZR (Qwy ha.pe hb) λo H Q a q=>⟨a,λv H1 b g=>by
  let⟨p,dx,r,h,rfl,hl,j,k⟩:=Qtv g;let⟨w,l,m⟩:=k.get hd;show⟨p,C,dx,_,w,(),.inr ⟨h,j⟩,c,n,Qbv nd hi l,q w H1 b m⟩⟩
def Mt(P:Program)(w:World)(K:W.Frag)(mg:Str->Option Value)(base:Heap)(C:Addr)(m:Str)(k:Nat)(ps:List Str)(sp:Sp):Prop:=
 ∃f fd,Meth K C m f/\Binds K fd ps []/\FnOk P w K mg base CX0 k f fd ps sp
def Jcd(ho:PD X ρ o (.oth (.obj C) (ss.map .str) ds0))(c:Cls X.K C)(F:Mt X.prog X.w X.K X.mg X.base C m k ps (spD X.K n R))(hr:Room k X.A)(ha:PDs X ρ (e::es) ds)(hR:R (.oth (.obj C) (ss.map .str) ds0::ds) d)(hn:ds.length+1=n)(hm:m∉ss)
  (hst:starEach (e::es) X.env=(false,eval e X.env)::starEach es X.env:=by rfl) (hpl:(backTo cp (starEach es X.env)).any (·.1)=false:=by rfl)
  (ht:eval (.Call (.Attribute o m ap) (e::es) [] cp) X.env=(do
   let ov<-eval o X.env
   standAt ap.atName
   let(f,first)<-holding [ov] (getMethod ov m pl)
   callWith cp f first (backTo cp (starEach (e::es) X.env)) (backToKw cp (keywordEach [] X.env))):=by rfl) :
  PD X ρ (.Call (.Attribute o m ap) (e::es) [] cp) d:=by
 let⟨f,x,a,hb,F⟩:=F;show ZR (Qs3 ho.pe c a F hr hb .nil pass0 ha.pe hst hpl ht) λy H Q b q=>⟨b,λv H1 g h=>by
  let⟨p,dx,z,l,rfl,hl,r,ia⟩:=Qtv h;show⟨p,dx,_,(),.inr ⟨l,r⟩,Uz hm,b.same g,λs H2 i j=>?_⟩;change spD X.K n R (.ref p::(s++[])) H2 Q _;rw[QW];show⟨by rw[Qz,<-j.length];show hn,_,d,Vg (h.same i) j,hR,λu H3 t w=>q u H3 ((g.trans i).trans t) w⟩⟩
def Qy8{K:W.Frag}(h:Is K H (.oth .fls [] ds) v):Is K H (.lst ds) v:=by
 let⟨p,d,a,rfl,b,c⟩:=Ql3 h;show Qbu (.inl (.inr ⟨a,b⟩)) c
def Jcj(h:PD X ρ e (.oth .fls [] ds)):PD X ρ e (.lst ds):=ZR h.pe λd H Q a q=>⟨a,λv H1 b c=>q v H1 b (Qy8 c)⟩
def Qup(h:PDL X ρ e ds)(hl:LFs ds=true):PD X ρ e (.oth .fls [] ds):=⟨(Op h hl).imp λb H Q q=>⟨q.1,λp c d H' n s a i=>q.2 _ H' s (Qfv a i)⟩⟩
end
section
variable {X:Cx} {H₀:Hp} {τ:List Sl} {ds:List D} {pos:Pos} {m:Bool}
def Qt1{iter:Expr}{x:Str}{px:Pos}{body:List Stmt}{j:Nat}(Kr:Nat->List Sl)(hp:PassesOwn (model X.prog X.w) X.A X.env X.xe)(hc:X.calm=true)(hi:PD X (dat τ) iter (.oth .fls [] ds))(hl:LFs ds=true)
  (h0:Kr 0=τ) (hb:∀(i:Nat)(d:D),ds[i]?=-d->∃n,QOs X H₀ ((Kr i).set j (.any d)) body (.next n (Kr (i+1)))/\(m=true->n=true))
  (hN:X.N.Nodup) (hj:X.N[j]?=some x:=by rfl) (hx:Loc X.env.scope x:=by first|show QI rfl|show QB ()) (hf:X.fn x=true\/X.env.scope.names.lookup x=some .local:=by first|show .inl rfl|show .inr ())
  (hs:∀x,foldedSetIterable iter X.env x=pure x:=by intro _;rfl) :
  QO X H₀ τ (.For (.Name x px) iter body [] pos) (.next m (Kr ds.length)):=
 Qbq (slot:=.any) Kr (λ_ _ e=>nomatch e) (λ_ _ _ e=>nomatch e) hp hc (Ye (tg:=.Name x px) hi.pe) (λr H R l h=>⟨l.env,λv H' s q=>by
  let⟨p,g,o,rfl,k,c⟩:=Ql3 q;let f:∀{H2:Hp},TSame H' H2->SqL X.K H2 p g:=λt=>.inl (.inr ⟨o,t.fz _ _ _ k⟩)
  show⟨p,(),⟨g,.inl (.inr ⟨o,k⟩)⟩,h _ H' (λH2=>TSame H' H2) s (TSame.refl H') (λH1 H2 a b _=>a.trans b.t) ⟨λi H2 t hi=>?_,λi H2 v H3 t hi y=>?_,λi H2 t hi=>?_⟩⟩
  ·show(WQ (f t) (c.tsame t hl)).go i H2 (Same.refl _) hi
  ·let⟨e,d,hd,is⟩:=(WQ (f t) (c.tsame t hl)).yld i H2 v H3 (Same.refl _) hi y;show⟨e,d,hd,v,(),is⟩
  ·show(WQ (f t) (c.tsame t hl)).stop i H2 (Same.refl _) hi⟩) h0 hb hN hj hx hf hs
def Qsx{i:Nat}(hi:τ[i]?=-(.flt ds))(hN:X.N[i]?=some x:=by rfl)(hv:Vis X.env.scope x:=by first|show QI rfl|show QB (QI ())|show QB (QB ()))(hdb:(x==("__debug__":Str))=false:=by decide)(hcd:(x==("__classdict__":Str))=false:=by decide):
  QO X H₀ τ (.Return (-(.Name x p)) pos) (.ret (.oth .fls [] ds)):=
 ⟨(Ol (Wv hN hv hdb hcd)).imp λD d H q=>by
  let⟨o,a,p,e,rfl,⟨f,b⟩,lf,c⟩:=q.1.sl i _ hi;show⟨_,a,q.2 _ H q.1.same (Qfv b c)⟩⟩
end
section
variable {X:Cx} {ρ:List (Option D)} {a b:Expr} {pos:Pos}
def Jes(ha:PD X ρ a (.bl i))(hb:PD X ρ b (.bl j)):PB X ρ (.Compare a [.NotEq] [b] pos) (!decide (i=j)):=by
 let h:=UA (pos:=pos) Qsc ha hb (Qsq () () ()) (nomark _)
 ext
end
end L2
namespace RH
open PySem L2
theorem Ox{α:Type}[DecidableEq α]:∀{l m:List α},l.Nodup->(∀x∈l,x∈m)->l.length<=m.length
 |[],_,_,_=>QJ _|x::l,m,h,a=>by
  let b:=J0.mp h;let c:∀y∈l,y∈m.erase x:=λy hy=>by
   let Ko:y≠x:=λz=>b.1 (z▸hy)
   show(List.mem_erase_of_ne Ko).mpr (a y (Q7 _ hy))
  let:=Ox b.2 c;let hx:=a x Q8;rw[List.length_erase_of_mem hx]at this;let d:0<m.length:=List.length_pos_of_mem hx;rw[Qz]
  lia
def Qrp{ks:List Str}{k:Str}(h:ks.Nodup):(Zb ks k).Nodup:=by
 unfold Zb;split
 ·show h
 ·rename_i c;show Js.mpr ⟨h,"s",λa ha b hb e=>c ?_⟩;rw[<-Qu.mp hb,<-e];show ha
def ZO{α β:Type}{f:β->α->β}{a:β}{l:List α}{x:α}(h:l[i]?=-x):(l.take (i+1)).foldl f a=f ((l.take i).foldl f a) x:=by
 rw[Jr,h]
 ext
end RH
namespace K07
open PySem L2 RH
def Qlg{α β:Type}{f:α->List β}{l:List α}{a:α}(h:l[i]?=-a):(l.take (i+1)).flatMap f=(l.take i).flatMap f++f a:=by
 rw[Jr,h]
 simp
def Qe0{α β:Type}{f:α->β}{l:List α}{a:α}(h:l[i]?=-a):(l.take (i+1)).map f=(l.take i).map f++[f a]:=by
 rw[Jr,h]
 simp
def ZT{α:Type}{f:α->D}{l:List α}{i:Nat}{d:D}(h:(l.map f)[i]?=-d):∃a,l[i]?=-a/\d=f a:=by
 rw[Qd]at h;cases e:l[i]? with
 |none=>rw[e]at h;cases h
 |some a=>rw[e]at h;cases h;show⟨a,(),()⟩
def Qon(words:List Str)(gs:List Gv)(one:Str):(WO words gs one).length=gs.length*words.length:=by
 unfold WO
 induction gs with
 |nil=>simp|cons g gs a=>grind
def Gok(n:Nat)(g:Gv):Prop:=g.1.length=g.2.length/\g.1.Nodup/\g.1.length<=n
theorem U2{α:Type}:∀{ks:List Str}{vs:List α}{k:Str}{x:α},ks.length=vs.length->(putVs ks vs k x).length=(Zb ks k).length
 |[],[],k,x,_=>by simp[putVs,Zb]|a::ks,v::vs,k,x,h=>by
  rw[putVs]
  by_cases e:a=k
  ·subst e;rw[Qh (),show Zb (a::ks) a=a::ks from Qh Q8];simpa using h.symm
  ·rw[Qc e,Bi e,Qz,Qz,U2 (by simpa using h)]
def Gok.put{n:Nat}{g:Gv}(h:Gok n g)(k w:Str):Gok (n+1) (Yo g k w):=by
 show⟨(U2 h.1).symm,Qrp h.2.1,?_⟩;let:=h.2.2;change(Zb g.1 k).length<=n+1;unfold Zb;split
 ·lia
 ·rw[QG];simp;lia
def Gok.step{words:List Str}(h:∀g∈gs,Gok n g)(one:Str):∀g∈WO words gs one,Gok (n+1) g:=λg a=>by
 let⟨b,c,d⟩:=Ud.mp a;let⟨w,_,rfl⟩:=Q4.mp d;show(h b c).put one w
section
variable {P:Program} {w:World} {K:W.Frag} {mg:Str->Option Value} {base:Heap}
def RGiven:List D->D->Prop:=λds d=>∃vars words:List Str,ds=[.lst (vars.map .str),.lst (words.map .str)]/\vars.length<=3/\words.length<=40/\d=.oth .fls [] ((givens vars words).map gD)
abbrev Ot:List Str:=["_law_variables_here", "_law_words_here"]
abbrev Qt9:List Str:=["_law_variables_here", "_law_words_here", "_law_found", "_law_one", "_law_more", "_law_given_here", "_law_word_here", "_law_longer"]
def YA:Vf Qt9 Ot (Vs Qff):=⟨(),(),(),"k",(),"k","k"⟩
def slG(vars words:List Str)(x2 x3 x4 x5 x6 x7:Sl):List Sl:=[.arg (.lst (vars.map .str)),.arg (.lst (words.map .str)),x2,x3,x4,x5,x6,x7]
def pow3{n k:Nat}(hk:k<=3):∀i ≤ k,∀{m:Nat},m<=40^i->m<=64000:=λi hi m h=>Qx h (Qx (WU "d" (Qx hi hk)) "d")
theorem UT{vars words:List Str}(hw:words.length<=40):∀i,((vars.take i).foldl (WO words) [([],[])]).length<=40^i
 |0=>by simp|i+1=>by
  cases e:vars[i]? with
  |none =>
   rw[Jr,e];simp only[Qju,QW];show Qx (UT hw i) (WU "d" "l")
  |some one =>
   rw[ZO e,Qon,Nat.pow_succ];show Qzp (UT hw i) hw
theorem Qas{vars words:List Str}:∀i,∀g∈(vars.take i).foldl (WO words) [([],[])],Gok i g
 |0=>λg a=>by
  let:g=([],[]):="e"
  subst this;show⟨(),JD,Q5 _⟩
 |i+1=>by
  cases e:vars[i]? with
  |none =>
   rw[Jr,e];simp only[Qju,QW];show λg a=>let h:=Qas i g a;⟨h.1,h.2.1,Qo7 h.2.2⟩
  |some one =>
   rw[ZO e];show Gok.step (Qas i) one
def Gv.lf(g:Gv):LFs (g.2.map D.str)=true:=JJ (λ_=>W4) _
def Qsl(T:Txt K mg)(F:Fd K mg "_law_given" Qff Ot):PrD P w K mg base "_law_given" 1 Ot RGiven:=by
 show UF (N:=Qt9) F YA "d" λf Kn A outer s H E ds d hr hR _=>?_
 let⟨vars,words,rfl,hv,hw,rfl⟩:=hR;let hu:=Qne hr;show Vq (m:=true) (Qsv (i:=2) (ds:=[gD ([],[])]) (WB (Vc (Qzf Qug ()) Vn) (Vl "s")) (by rfl) YA.nd) ?_;change QOs _ _ (slG vars words (.flt (([([],[])]:List Gv).map gD)) .no .no .no .no .no) _ _;show Vq (m:=false) (τ1:=slG vars words (.flt ((givens vars words).map gD)) .no .no .no .no .no) ?loop (Vz (Qsx (i:=2) ()));let el:givens vars words=(vars.take (vars.map D.str).length).foldl (WO words) [([],[])]:=by rw[Qb,QY];rfl
 rw[el];show Ow (ds:=vars.map .str) (m:=false) (put:=λh d=>h.set 3 (.any d)) (λi=>slG vars words (.flt (((vars.take i).foldl (WO words) [([],[])]).map gD)) .no .no .no .no .no) QF () (Ye (Wv (i:=0) () (QI ()))) (JR (i:=3) YA.nd () (QI ())) put1 (Qmm (k:=0) ()) () (λi d hi=>⟨false,?_,λz=>nomatch z⟩);let⟨one,b,rfl⟩:=ZT hi;let t:i<vars.length:=(Q3.mp b).1;rw[ZO b];let u:((vars.take i).foldl (WO words) [([],[])]).length<=40^i:=UT hw i;let v:(WO words ((vars.take i).foldl (WO words) [([],[])]) one).length<=64000:=by
  let:=UT (vars:=vars) hw (i+1);rw[ZO b]at this;show pow3 (n:=0) hv (i+1) t this
 let l:=Qas (vars:=vars) (words:=words) i;generalize(vars.take i).foldl (WO words) [([],[])]=a at u v l;change QOs _ _ (slG vars words (.flt (a.map gD)) (.any (.str one)) .no .no .no .no) _ _;show ZB (m:=false) (τ1:=slG vars words (.flt ((WO words a one).map gD)) (.any (.str one)) (.flt ((WO words a one).map gD)) .no .no .no) ?_ (WkI.wk (.keep (.keep (.keep (.no (.no (.keep (.keep (.keep .nil))))))))) (λz=>nomatch z);show YB (W8 (i:=4) (ds:=[]) (WB Vn (Vl "s")) () YA.nd) ?_;change QOs _ _ (slG vars words (.flt (a.map gD)) (.any (.str one)) (.own []) .no .no .no) _ _;show Ov (m:=false) (τ1:=slG vars words (.flt (a.map gD)) (.any (.str one)) (.own ((WO words a one).map gD)) .no .no .no) ?rows ?_
 case rows =>
  let x:WO words a one=(a.take (a.map gD).length).flatMap λg=>words.map λw=>Yo g one w:=by rw[Qb,QY];rfl
  let o:∀i:Nat,((a.take i).flatMap λg=>words.map λw=>Yo g one w).length<=64000:=λi=>by
   let h1:WO words a one=((a.take i).flatMap λg=>words.map λw=>Yo g one w)++((a.drop i).flatMap λg=>words.map λw=>Yo g one w):=by
    rw[<-List.flatMap_append,QU];rfl
   grind
  rw[x];show Ow (ds:=a.map gD) (m:=false) (put:=λh d=>h.set 5 (.any d)) (λi=>slG vars words (.flt (a.map gD)) (.any (.str one)) (.own (((a.take i).flatMap λg=>words.map λw=>Yo g one w).map gD)) .no .no .no) QF () (Ye (Wv (i:=2) () (QI ()))) (JR (i:=5) YA.nd () (QI ())) put1 (Jap (k:=2) ()) () (λi d hi=>⟨false,?_,λz=>nomatch z⟩);let⟨g,p,rfl⟩:=ZT hi;let hb:=o i;let y:=l g (Q6 p);rw[Qlg p];generalize(a.take i).flatMap (λg=>words.map λw=>Yo g one w)=c at hb;change QOs _ _ (slG vars words (.flt (a.map gD)) (.any (.str one)) (.own (c.map gD)) (.any (gD g)) .no .no) _ _;show ZB (m:=false) (τ1:=slG vars words (.flt (a.map gD)) (.any (.str one)) (.own ((c++words.map λw=>Yo g one w).map gD)) (.any (gD g)) .no .no) ?_ (WkI.wk (.keep (.keep (.keep (.keep (.keep (.no (.keep (.keep .nil))))))))) (λz=>nomatch z);let el3:(words.map λw=>Yo g one w)=(words.take (words.map D.str).length).map λw=>Yo g one w:="e"
  rw[el3];show Vz (Ow (ds:=words.map .str) (m:=false) (put:=λh d=>h.set 6 (.any d)) (λj=>slG vars words (.flt (a.map gD)) (.any (.str one)) (.own ((c++(words.take j).map λw=>Yo g one w).map gD)) (.any (gD g)) .no .no) QF () (Ye (Wv (i:=1) () (QI ()))) (JR (i:=6) YA.nd () (QI ())) put1 (Qmm (k:=1) ()) "s" (λj d hj=>⟨false,?_,λz=>nomatch z⟩));let⟨e,q,rfl⟩:=ZT hj;let hjl:j<words.length:=(Q3.mp q).1;rw[Qe0 q,<-QH];let hb2:(c++(words.take j).map λw=>Yo g one w).length<=65000:="g"
  generalize c++(words.take j).map (λw=>Yo g one w)=r at hb2;change QOs _ _ (slG vars words (.flt (a.map gD)) (.any (.str one)) (.own (r.map gD)) (.any (gD g)) (.any (.str e)) .no) _ _;show ZB (m:=false) (τ1:=slG vars words (.flt (a.map gD)) (.any (.str one)) (.own ((r++[Yo g one e]).map gD)) (.any (gD g)) (.any (.str e)) (.any (gD (Yo g one e)))) ?_ (WkI.wk (.keep (.keep (.keep (.keep (.keep (.keep (.no (.no .nil))))))))) (λz=>nomatch z);show YB (Qi0 (i:=7) (ks:=g.1) (ds:=g.2.map .str) (Qnp (fz:=true) T.bDct (Vv 5 ())) (Gv.lf g) YA.nd) ?_;show Ov (m:=false) (Jbm (i:=7) hu () (Vv 3 ()) (Vv 6 ()) W4 (AL.h ⟨W4,Gc g,W4,trivial⟩) (by let:=y.2.2;rw[QR];lia)) ?_;let e7:putVs g.1 (g.2.map D.str) one (.str e)=(Yo g one e).2.map .str:=(Qdm D.str g.1 g.2 one e).symm;rw[e7];show Jbl (m:=false) (j:=7) (ks:=(Yo g one e).1) (ds:=(Yo g one e).2.map .str) () (AL.h ⟨W4,Gc g,W4,trivial⟩) ?_;rw[J1];show Vz (ZZ (i:=4) (d:=gD (Yo g one e)) () (Vv 7 ()) (Gc _) (AL.h ⟨W4,Gc g,W4,Gc _,trivial⟩) (by rw[Qb,QR];lia))
 show Jbk (m:=true) (j:=4) () (AL.h ⟨W4,trivial⟩) ?_;show Vz (Qp5 (i:=2) (j:=4) () YA.nd)
end
def Qd5(t:Str):Bool:=match signs t with
 |c::_=>decide (c∈signs CAPS)|[]=>false
def WT(acc:List Str)(t:Str):List Str:=if Qd5 t=true/\t∉acc then acc++[t]else acc
def YZ(acc:List Str)(a:RH.At):List Str:=a.ts.foldl WT acc
def Jm(r:Ru):List RH.At:=r.h::r.b.map (·.a)
def W6(r:Ru):List Str:=(Jm r).foldl YZ []
def Qve(acc:List Str)(t:Str):(WT acc t).length<=acc.length+1:=by
 unfold WT;split<;>simp
theorem OJ:∀(ts:List Str)(acc:List Str),(ts.foldl WT acc).length<=acc.length+ts.length
 |[],acc=>Q5 _|t::ts,acc=>by
  let a:=OJ ts (WT acc t);let b:=Qve acc t
  grind
theorem Qdc:∀(as:List RH.At)(acc:List Str),(∀a∈as,a.ts.length<=3)->(as.foldl YZ acc).length<=acc.length+3*as.length
 |[],acc,_=>Q5 _|a::as,acc,h=>by
  let c:=Qdc as (YZ acc a) λb hb=>h b (Q7 _ hb)
  let d:=OJ a.ts acc;let h3:=h a Q8;rw[J3,Qz];unfold YZ at c ⊢
  lia
def Qv8(ha:PD X ρ a (.str ⟨#[n]⟩))(hb:PD X ρ b (.str y))(hm:behindInMarks .In b=false:=by rfl):PB X ρ (.Compare a [.In] [b] pos) (decide (n∈y.cps.toList)):=by
 let:=UA (pos:=pos) Qoz ha hb Qsr hm;rwa [PySem.StrLaws.found_one]at this
structure RuT(r:Ru):Prop where
 bl:r.b.length<=4
 ts:∀a∈Jm r,a.ts.length<=3/\∀t∈a.ts,t.length<=8/\signs t≠[]
def At.lf(a:RH.At):LF a.d=true:=by
 let:LFs (a.ts.map D.str)=true:=JJ (λ_=>W4) _;simp[At.d,LF,LFs,this]
section
variable {P:Program} {w:World} {K:W.Frag} {mg:Str->Option Value} {base:Heap}
def RVars:List D->List D->Prop:=λds es=>∃r:Ru,ds=[r.d]/\RuT r/\es=(W6 r).map .str
abbrev Jdv:List Str:=["_law_rule_here", "_law_found", "_law_atom", "_law_term"]
def Qf3:Vf Jdv ["_law_rule_here"] (Vs Uh):=⟨(),(),(),"k",(),"k","k"⟩
def sndL:D->D|.tup [_,b]=>b|d=>d
def Qfr(F:Fd K mg "_law_variables" Uh ["_law_rule_here"]):PrL P w K mg base "_law_variables" 1 ["_law_rule_here"] RVars:=by
 show Qbj F Qf3 "d" λf Kn A outer s H E ds es hr hR _=>?_
 let⟨r,rfl,R,rfl⟩:=hR;let hbl:=R.bl;let hal:(Jm r).length<=5:=by simp[Jm];lia
 show WR (W8 (i:=1) (ds:=[]) (WB Vn (Vl "d")) () Qf3.nd) ?_;show WR (m:=false) (τ1:=[.arg r.d,.own ((W6 r).map .str),.no,.no]) ?loop (Vz (U6 (i:=1) ()));let el:W6 r=((Jm r).take ((Jm r).map At.d).length).foldl YZ []:=by rw[Qb,QY];rfl
 rw[el];show Ow (λi=>[.arg r.d,.own ((((Jm r).take i).foldl YZ []).map .str),.no,.no]) QF ()
  (Ye (Op ?list (JJ At.lf _))) (JR (i:=2) Qf3.nd () (QI ())) put1 (Jao (JJ At.lf _)) () (λi d hi=>⟨false,?_,λz=>nomatch z⟩)
 case list =>
  let e:(Jm r).map At.d=[r.h.d]++(r.b.map Li.d).map sndL:=by
   simp[Jm,sndL,Li.d,Ju]
  rw[e];show Qgk (PDL.pd (WB (Vc (JW (Vv 0 ()) Vi at0) Vn) (Vl "s"))) (PDL.pd (Zu (f:=sndL) () (OM (JW (Vv 0 ()) Vi at1)) (Vl "g") λd hd cl C s H ex=>?_)) (Vl (by simp;lia));let⟨l,_,rfl⟩:=Q4.mp hd;show JW (Vv 0 ()) Vi at1
 let⟨a,k,rfl⟩:=ZT hi;let p:=Q6 k;let⟨h3,u⟩:=R.ts a p;let hb:(((Jm r).take i).foldl YZ []).length<=15:=by
  let h1:=Qdc ((Jm r).take i) [] λb hb=>(R.ts b (Ji hb)).1
  grind
 rw[ZO k];generalize((Jm r).take i).foldl YZ []=g at hb;show ZB (m:=false) (τ1:=[.arg r.d,.own ((YZ g a).map .str),.any a.d,.no]) ?_ (WkI.wk (.keep (.keep (.no (.keep .nil))))) (λz=>nomatch z);let v:YZ g a=(a.ts.take (a.ts.map D.str).length).foldl WT g:=by rw[Qb,QY];rfl
 rw[v];show Vz (Ow (λi=>[.arg r.d,.own (((a.ts.take i).foldl WT g).map .str),.any a.d,.no]) QF ()
  (Qfp (JW (da:=.tup [.str a.k,.tup (a.ts.map .str)]) (Vv 2 ()) Vi at1).pe) (JR (i:=3) Qf3.nd () (QI ())) put1 (Jan (JJ (λ_=>W4) _)) () (λi d hi=>⟨false,?_,λz=>nomatch z⟩))
 let⟨t,o,rfl⟩:=ZT hi;let⟨h8,Ko⟩:=u t (Q6 o);let x:((a.ts.take i).foldl WT g).length<=18:=by
  let h1:=OJ (a.ts.take i) g
  grind
 rw[ZO o];generalize(a.ts.take i).foldl WT g=j at x;show ZB (m:=false) (τ1:=[.arg r.d,.own ((WT j t).map .str),.any a.d,.any (.str t)]) ?_ (WkI.wk (.keep (.keep (.keep (.no .nil))))) (λz=>nomatch z);cases hs:signs t with
 |nil=>ext|cons c q =>
  let hcap:Qd5 t=decide (c∈signs CAPS):=by unfold Qd5;rw[hs]
  let hz:∀y,D.str t=.str y->y.length<=sizeLine:=λy e=>by cases e;show Vl "l"
  show Vz (Yx (Qlp (Bq (Qv8 (n:=c) (y:=CAPS) (JW (i:=0) (Vv 3 ()) Vi ?_ hz) Vt) (λ_=>Qgr (Qjd (ss:=j) (Vv 3 ()) (Vv 1 ()) (.inr ()))))) (λh=>?_) (λh=>?_))
  ·change(atI t.cps.toList 0).map _=_;let e:atI (c::q) ((0:Nat):Int)=some c:=Zw ()
   ext
  ·let e:WT j t=j++[t]:=by
    unfold WT
    ext
   rw[e,J1];show Vz (ZZ (i:=1) () (Vv 3 ()) W4 (AL.h ⟨At.lf a,W4,trivial⟩) (by rw[Qb,QR];lia))
  ·let e:WT j t=j:=by
    unfold WT
    ext
   rw[e];show ZB (m:=true) ZY (WkI.wk (.keep (.keep (.keep (.keep .nil))))) (λz=>nomatch z)
end
end K07
namespace K07
open PySem L2 RH
def RuT.lit(R:RuT r)(h:l∈r.b):l.a.ts.length<=3:=(R.ts l.a (Q7 _ (Q4.mpr ⟨l,h,()⟩))).1
def YG(h:PDL X ρ e ds)(q:ds=es):PDL X ρ e es:=q▸h
def hu22(hr:Room k A):A.units+22<cLine:=by let:=hr.un;lia
def atL(a:RH.At):List D:=[.str a.k,.tup (a.ts.map .str)]
def Qm6(l:List Str):keyOks (l.map D.str)=true:=J5.mpr λd hd=>by let⟨x,_,rfl⟩:=Q4.mp hd;rfl
theorem Qb7:∀l:List Str,deps (l.map D.str)<=1
 |[]=>by simp[deps]|x::l=>by
  let:=Qb7 l;simp[deps,dep]
  lia
def Qco(a:RH.At):dep (.tup (atL a))<=3:=by
 let:=Qb7 a.ts;simp[atL,dep,deps]
 lia
def Qz4{X:Cx}:∀σ H R,EnvO X.K H₀ H σ τ->(∀J H'(St:Hp->Prop),Same H H'->St H'->(∀H1 H2,St H1->Rl true H1 H2->Same H₀ H2->St H2)->JSt X.K H₀ J St ds .any->R J H')->rdI X.K (dat τ) ds σ H R:=
 λσ H R f h=>⟨f.env,λJ H' s c=>h J H' (λH2=>Same H' H2) s (Same.refl H') (λH1 H2 a b _=>Same.trans a b)
  ⟨λi H2 st hi=>c.go i H2 st hi,λi H2 v H3 st hi y=>let⟨e,d,hd,is⟩:=c.yld i H2 v H3 st hi y;⟨e,d,hd,v,(),is⟩,λi H2 st hi=>c.stop i H2 st hi⟩⟩
theorem Ga{vars words:List Str}(hnd:vars.Nodup)(hf:∀v∈vars,f v∈words):∀i:Nat,(vars.take i,(vars.take i).map f)∈(vars.take i).foldl (WO words) [([],[])]
 |0=>by simp|i+1=>by
  cases e:vars[i]? with
  |none =>
   rw[Jr,e];simp only[Qju,QW];show Ga hnd hf i
  |some v =>
   let b:=Ga hnd hf i;rw[ZO e];let c:v∉vars.take i:=λz=>by
    let⟨j,a⟩:=QP.mp z;let⟨hi,d⟩:=Q3.mp e;rw[Bb]at a;split at a
    ·let⟨g,h⟩:=Q3.mp a;let:=(Qab hnd).mp (h.trans d.symm)
     lia
    ·cases a
   let k:vars.take (i+1)=vars.take i++[v]:=by rw[Jr,e];rfl
   show Ud.mpr ⟨_,b,Q4.mpr ⟨f v,hf v (Q6 e),?_⟩⟩;change(Zb (vars.take i) v,putVs (vars.take i) ((vars.take i).map f) v (f v))=_;rw[U1 "s" c,k,J1];unfold Zb
   ext
def Ql9{vars words:List Str}(hnd:vars.Nodup)(hf:∀v∈vars,f v∈words):(vars,vars.map f)∈givens vars words:=by
 let h:=Ga hnd hf vars.length;rw[QY]at h;show h
def Qym{acc:List Str}(h:acc.Nodup)(t:Str):(WT acc t).Nodup:=by
 unfold WT;split
 ·rename_i c;show Js.mpr ⟨h,"s",λa ha b hb e=>c.2 (by rw[<-Qu.mp hb,<-e];show ha)⟩
 ·show h
theorem Qim:∀(ts acc:List Str),acc.Nodup->(ts.foldl WT acc).Nodup
 |[],_,h=>h|t::ts,acc,h=>Qim ts _ (Qym h t)
theorem Qh5:∀(as:List RH.At)(acc:List Str),acc.Nodup->(as.foldl YZ acc).Nodup
 |[],_,h=>h|a::as,acc,h=>Qh5 as _ (Qim a.ts acc h)
def YY(r:Ru):(W6 r).Nodup:=Qh5 _ _ JD
def Qvd{acc:List Str}{t x:Str}:x∈WT acc t↔x∈acc\/(x=t/\Qd5 t=true):=by
 unfold WT;split
 ·rename_i b;simp[b.1]
 ·rename_i b;constructor
  ·show .inl
  ·rintro(z|⟨rfl,a⟩)
   ·show z
   ·show Y2 λhx=>b ⟨a,hx⟩
theorem Qe9{x:Str}:∀{ts acc:List Str},x∈ts.foldl WT acc↔x∈acc\/(x∈ts/\Qd5 x=true)
 |[],acc=>by simp|t::ts,acc=>by
  rw[J3,Qe9,Qvd,Qe];constructor
  ·rintro((z|⟨rfl,a⟩)|⟨z,a⟩)
   ·show .inl z
   ·show .inr ⟨.inl (),a⟩
   ·show .inr ⟨.inr z,a⟩
  ·rintro(z|⟨rfl|z,a⟩)
   ·show .inl (.inl z)
   ·show .inl (.inr ⟨(),a⟩)
   ·show .inr ⟨z,a⟩
theorem Qdb{x:Str}:∀{as:List RH.At}{acc:List Str},x∈as.foldl YZ acc↔x∈acc\/((∃a∈as,x∈a.ts)/\Qd5 x=true)
 |[],acc=>by simp|a::as,acc=>by
  rw[J3,Qdb];unfold YZ;rw[Qe9];constructor
  ·rintro((z|⟨z,c⟩)|⟨⟨b,hb,z⟩,c⟩)
   ·show .inl z
   ·show .inr ⟨⟨a,Q8,z⟩,c⟩
   ·show .inr ⟨⟨b,Q7 _ hb,z⟩,c⟩
  ·rintro(z|⟨⟨b,hb,z⟩,c⟩)
   ·show .inl (.inl z)
   ·rcases Qe.mp hb with rfl|hb
    ·show .inl (.inr ⟨z,c⟩)
    ·show .inr ⟨⟨b,hb,z⟩,c⟩
def Qda:x∈W6 r↔(∃a∈Jm r,x∈a.ts)/\Qd5 x=true:=by
 unfold W6;rw[Qdb]
 simp
def Qu5:Qgc vars (vars.map f) t=if t∈vars then f t else t:=by
 split
 ·rename_i h;let⟨i,a,b⟩:=Qil (vs:=vars.map f) "s" h
  ext
 ·rename_i h;show Qgb "s" h
theorem UM:∀{a b:List Str},a.map D.str=b.map D.str->a=b
 |[],[],_=>rfl|[],_::_,h=>by simp at h|_::_,[],h=>by simp at h|x::a,y::b,h=>by
  injection h with c d
  injection c with c
  rw[c,UM d]
def Qny(h:atL a=atL b):a=b:=by
 injection h with d c
 injection c with c _
 injection c with c
 let:=UM c;cases a
 ext
end K07
namespace L2
open PySem PySem.Spec PyProof.Rows
structure Sh(w:World)(K:W.Frag)(C:Addr)(H:Hp)(p t r:Addr)(th:List D)(as:List Addr)(ks:List D)(bs ls:List Addr)(rs:List (List D)):Prop where
 ins:∃dx,H p=-(.ins C dx [("there",.ref t),("rows",.ref r)])
 thA:H t=-(DxO t (th.map (Jg w)) as (as.map λ_=>.bl true))
 thN:th.Nodup
 thO:KOk th
 thI:Va K H th (as.map .ref)
 ro:H r=-(DxO r (ks.map (Jg w)) bs (ls.map .ref))
 roN:ks.Nodup
 roO:KOk ks
 roI:Va K H ks (bs.map .ref)
 tr:t≠r
 nd:ls.Nodup
 len:ls.length=rs.length
 rows:∀(i:Nat)l ds,ls[i]?=-l->rs[i]?=-ds->∃us,H l=-(.lst us)/\LFs ds=true/\Va K H ds us
abbrev Ja9:List Str:=["there", "rows"]
def shelfD(w:World)(C:Addr)(th ks:List D)(rs:List (List D)):D:=
 .oth (.obj C) (Ja9.map .str) [dcx w true th (th.map λ_=>.bl true),dcx w true ks (rs.map λr=>.oth .fls [] r)]
section
variable {w:World} {K:W.Frag} {C:Addr} {H H':Hp} {p t r:Addr} {th:List D} {as:List Addr} {ks:List D} {bs ls:List Addr} {rs:List (List D)}
def Sh.row(S:Sh w K C H p t r th as ks bs ls rs){l:Addr}(h:l∈ls):∃us,H l=-(.lst us):=by
 let⟨i,hi⟩:=QP.mp h;let Kt:=(Q3.mp hi).1;let⟨us,e,_⟩:=S.rows i l _ hi (Qa (by rw[<-S.len];show Kt));show⟨us,e⟩
def Sh.pt(S:Sh w K C H p t r th as ks bs ls rs):p≠t:=let⟨_,e⟩:=S.ins;YC e S.thA (λz=>nomatch z)
def Sh.pr(S:Sh w K C H p t r th as ks bs ls rs):p≠r:=let⟨_,e⟩:=S.ins;YC e S.ro (λz=>nomatch z)
def Sh.pl(S:Sh w K C H p t r th as ks bs ls rs):p∉ls:=λh=>let⟨_,e⟩:=S.ins;let⟨_,f⟩:=S.row h;YC e f (λz=>nomatch z) ()
def Sh.tl(S:Sh w K C H p t r th as ks bs ls rs):t∉ls:=λh=>let⟨_,f⟩:=S.row h;YC S.thA f (λz=>nomatch z) ()
def Sh.rl(S:Sh w K C H p t r th as ks bs ls rs):r∉ls:=λh=>let⟨_,f⟩:=S.row h;YC S.ro f (λz=>nomatch z) ()
def Sh.same(S:Sh w K C H p t r th as ks bs ls rs)(s:Same H H'):Sh w K C H' p t r th as ks bs ls rs:=by
 let⟨dx,e⟩:=S.ins;show⟨⟨dx,s _ _ e⟩,s _ _ S.thA,S.thN,S.thO,S.thI.same s,s _ _ S.ro,S.roN,S.roO,S.roI.same s,S.tr,S.nd,S.len,λi l a b c=>let⟨d,f,g,k⟩:=S.rows i l a b c;⟨d,s _ _ f,g,k.same s⟩⟩
end
section
variable {X:Cx} {Kz:Kg} {σ:St} {s:Shared} {C:Addr} {p t r:Addr} {th:List D} {as:List Addr} {ks:List D} {bs:List Addr}
theorem Qc5:∀{H:Hp}{ls:List Addr}{rs:List (List D)},Inv X Kz σ H s->ls.Nodup->ls.length=rs.length->(∀(i:Nat)l ds,ls[i]?=-l->rs[i]?=-ds->∃us,H l=-(.lst us)/\LFs ds=true/\Va X.K H ds us) ->
  ∃H',Inv X Kz σ H' s/\TSame H H'/\(∀b,b∉ls->H' b=H b)/\Va X.K H' (rs.map λr=>.oth .fls [] r) (ls.map .ref)
 |H,[],[],I,_,_,_=>⟨H,I,TSame.refl H,λ_ _=>rfl,Jq⟩|H,[],_::_,_,_,h,_=>by simp at h|H,_::_,[],_,_,h,_=>by simp at h|H,l::ls,d::rs,I,nd,hl,o=>by
  let a:=J0.mp nd;let⟨us,e,lf,t⟩:=o 0 l d () ();let⟨u,I1⟩:=I.freezeM e QA;let f:TSame H (upd H l (.frz u (.lst us))):=TSame.frz e QA;let⟨H2,I2,g,j,all⟩:=Qc5 (ls:=ls) (rs:=rs) I1 a.2 (by simpa using hl) λi p ds q v=>by
   let⟨k,w,c,m⟩:=o (i+1) p ds (by simpa using q) (by simpa using v);let Ko:p≠l:=by
    rintro rfl;show a.1 (Q6 q)
   show⟨k,by rw[Qm Ko];show w,c,m.tsame f c⟩
  show⟨H2,I2,f.trans g,λb hb=>?_,Vg (Qfv (g.fz _ _ _ Vu) ((t.tsame f lf).tsame g lf)) all⟩;let n:b≠l:=by
   rintro rfl;show hb Q8
  rw[j b λz=>hb (Q7 _ z),Qm n]
theorem trues{K:W.Frag}{H:Hp}:∀{th:List D}{as:List Addr},th.length=as.length->Va K H (th.map λ_=>.bl true) (as.map λ_=>V.bl true)
 |[],[],_=>Jq|_::_,_::_,h=>Vg (Y0 _) (trues (by simpa using h))|[],_::_,h=>by simp at h|_::_,[],h=>by simp at h
def Sh.freeze(I:Inv X Kz σ H s)(S:Sh X.w X.K C H p t r th as ks bs ls rs):
  ∃H',Inv X Kz σ H' s/\TSame H H'/\(∀b,b≠p->b≠t->b≠r->b∉ls->H' b=H b)/\Is X.K H' (shelfD X.w C th ks rs) (.ref p):=by
 let⟨dx,y⟩:=S.ins;let⟨H1,I1,o,c,all⟩:=Qc5 I S.nd S.len S.rows;let u:H1 r=-(DxO r (ks.map (Jg X.w)) bs (ls.map .ref)):=by rw[c r S.rl];show S.ro
 let⟨m,I2⟩:=I1.freezeM u QA;let j:=TSame.frz (v:=.frz m (DxO r (ks.map (Jg X.w)) bs (ls.map .ref))) u QA;generalize k:upd H1 r (.frz m (DxO r (ks.map (Jg X.w)) bs (ls.map .ref)))=H2 at I2 j;let z:H2 r=-(.frz m (DxO r (ks.map (Jg X.w)) bs (ls.map .ref))):=by rw[<-k];show Vu
 let a:∀b,b≠r->H2 b=H1 b:=λb hb=>by rw[<-k,Qm hb]
 let w:H2 t=-(DxO t (th.map (Jg X.w)) as (as.map λ_=>.bl true)):=by rw[a t S.tr,c t S.tl];show S.thA
 let⟨n,I3⟩:=I2.freezeM w QA;let g:=TSame.frz (v:=.frz n (DxO t (th.map (Jg X.w)) as (as.map λ_=>.bl true))) w QA;generalize l:upd H2 t (.frz n (DxO t (th.map (Jg X.w)) as (as.map λ_=>.bl true)))=H3 at I3 g;let r3:H3 t=-(.frz n (DxO t (th.map (Jg X.w)) as (as.map λ_=>.bl true))):=by rw[<-l];show Vu
 let e:∀b,b≠t->H3 b=H2 b:=λb hb=>by rw[<-l,Qm hb]
 let x:H3 p=-(.ins C dx [("there",.ref t),("rows",.ref r)]):=by rw[e p S.pt,a p S.pr,c p S.pl];show y
 let⟨o3,I4⟩:=I3.freezeM x QA;let h:=TSame.frz (v:=.frz o3 (.ins C dx [("there",.ref t),("rows",.ref r)])) x QA;let f:LFs (rs.map λr=>D.oth .fls [] r)=true:=WL.mpr λd hd=>by
  let⟨ds,q,rfl⟩:=Q4.mp hd;let⟨i,hi⟩:=QP.mp q;let Kt:=(Q3.mp hi).1;let⟨_,_,lf,_⟩:=S.rows i _ ds (Qa (by rw[S.len];show Kt)) hi;show lf
 show⟨_,I4,((o.trans j).trans g).trans h,λb h1 h2 h3 h4=>by rw[Qm h1,e b h2,a b h3,c b h4],?_⟩;show Jbq Vu () (Vg ?_ (Vg ?_ Jq))
 ·show Qfw ⟨n,h.fz _ _ _ r3⟩ S.thN ((((S.thI.tsame o S.thO.lf).tsame j S.thO.lf).tsame g S.thO.lf).tsame h S.thO.lf) (trues (by let:=S.thI.length;ext))
 ·show Qfw ⟨m,h.fz _ _ _ (g.fz _ _ _ z)⟩ S.roN ((((S.roI.tsame o S.roO.lf).tsame j S.roO.lf).tsame g S.roO.lf).tsame h S.roO.lf) (((all.tsame j f).tsame g f).tsame h f)
end
noncomputable def W0(f:D)(q:List D×List (List D))(key:D):List D×List (List D):=if key∈q.1 then(q.1,q.2.modify (q.1.idxOf key) (· ++[f]))else(q.1++[key],q.2++[[f]])
structure ShK(H H':Hp)(t r:Addr)(ls ls':List Addr):Prop where
 keep:∀b o,H b=-o->b≠t->b≠r->b∉ls->H' b=-o
 news:∀l∈ls',l∈ls\/H l=none
 ts:TSame H H'
 tt:∃u,H' t=-u
 rr:∃u,H' r=-u
def ShK.refl{w:World}{K:W.Frag}{C:Addr}{H:Hp}{p t r:Addr}{th:List D}{as:List Addr}{ks:List D}{bs ls:List Addr}{rs:List (List D)}(S:Sh w K C H p t r th as ks bs ls rs):ShK H H t r ls ls:=⟨λb o e _ _ _=>e,λl h=>.inl h,TSame.refl H,⟨_,S.thA⟩,⟨_,S.ro⟩⟩
def ShK.trans(a:ShK H H1 t r l0 l1)(b:ShK H1 H2 t r l1 l2):ShK H H2 t r l0 l2 where
 keep:=λc o e h1 h2 h3=>b.keep c o (a.keep c o e h1 h2 h3) h1 h2 λz=>by
  rcases a.news c z with z|z
  all_goals ext
 news:=λl h=>by
  rcases b.news l h with z|z
  ·show a.news l z
  ·by_cases h1:l∈l0
   ·grind
   ·cases q:H l with
    |none=>ext|some o =>
     by_cases h2:l=t
     ·let⟨u,e⟩:=a.tt
      ext
     ·by_cases h3:l=r
      ·let⟨u,e⟩:=a.rr
       ext
      ·rw[a.keep l o q h2 h3 h1]at z;cases z
 ts:=a.ts.trans b.ts
 tt:=b.tt
 rr:=b.rr
def ShK.pre(s:Same H H1)(b:ShK H1 H2 t r l0 l2):ShK H H2 t r l0 l2 where
 keep:=λc o e h1 h2 h3=>b.keep c o (s _ _ e) h1 h2 h3
 news:=λl h=>by
  rcases b.news l h with z|z
  ·grind
  ·show .inr (s.free z)
 ts:=s.t.trans b.ts
 tt:=b.tt
 rr:=b.rr
section
variable {w:World} {K:W.Frag} {C:Addr} {H:Hp} {p t r:Addr} {th:List D} {as:List Addr} {ks:List D} {bs ls:List Addr} {rs:List (List D)} {fd key:D} {f:V}
def Sh.old{n:Nat}(S:Sh w K C H p t r th as ks bs ls rs)(hk:ks[n]?=-key)(hl:ls[n]?=-l)(hu:H l=-(.lst us))(i:Is K H fd f)(lf:LF fd=true):
  Sh w K C (upd H l (.lst (us++[f]))) p t r th as (W0 fd (ks,rs) key).1 bs ls (W0 fd (ks,rs) key).2/\ShK H (upd H l (.lst (us++[f]))) t r ls ls:=by
 let ts:TSame H (upd H l (.lst (us++[f]))):=TSame.lst hu;let k:=Q6 hl;let hs:W0 fd (ks,rs) key=(ks,rs.modify n (· ++[fd])):=by
  unfold W0;rw[Qh (Q6 hk),Qty S.roN hk]
 rw[hs];let np:p≠l:=λz=>S.pl (z▸k)
 let v:t≠l:=λz=>S.tl (z▸k)
 let x:r≠l:=λz=>S.rl (z▸k)
 let⟨dx,ei⟩:=S.ins;show⟨⟨⟨dx,by rw[Qm np];show ei⟩,by rw[Qm v];show S.thA,S.thN,S.thO,S.thI.tsame ts S.thO.lf,by rw[Qm x];show S.ro,S.roN,S.roO,S.roI.tsame ts S.roO.lf,S.tr,S.nd,by rw[List.length_modify];show S.len,λy l' ds g a=>?_⟩,
  ⟨λb o e g a h3=>by
   let m:b≠l:=by
    grind
   rw[Qm m];show e,λl h=>.inl h,ts,⟨_,by rw[Qm v];show S.thA⟩,⟨_,by rw[Qm x];show S.ro⟩⟩⟩
 rw[ZH]at a
 by_cases s:n=y
 ·subst s;rw[hl]at g;cases g;cases q:rs[n]? with
  |none=>ext|some d0 =>
   rw[q]at a;simp at a;subst a;let⟨c,j,d,u⟩:=S.rows n l d0 hl q;rw[hu]at j;cases j;show⟨us++[f],Vu,by rw[Zg,d];simp[LFs,lf],(u.tsame ts d).append (Vg (i.tsame ts lf) Jq)⟩
 ·simp[s]at a;let⟨c,j,d,u⟩:=S.rows y l' ds g a;let Ko:l'≠l:=λz=>s ((List.getElem?_inj (Q3.mp hl).1 S.nd).mp "e")
  show⟨c,by rw[Qm Ko];show j,d,u.tsame ts d⟩
def Sh.new{a l:Addr}(S:Sh w K C H p t r th as ks bs ls rs)(hk:key∉ks)(xk:XKey key)(ik:Is K H key (.ref a))(hl:H l=-(.lst []))(hn:l∉ls)(i:Is K H fd f)(lf:LF fd=true):
  Sh w K C (upd (upd H r (DxO r ((ks++[key]).map (Jg w)) (bs++[a]) (ls.map .ref++[.ref l]))) l (.lst [f])) p t r th as (W0 fd (ks,rs) key).1 (bs++[a]) (ls++[l]) (W0 fd (ks,rs) key).2:=by
 let hs:W0 fd (ks,rs) key=(ks++[key],rs++[[fd]]):=by
  unfold W0;rw[Qc hk]
 rw[hs];let⟨dx,ei⟩:=S.ins;let d:r≠l:=YC S.ro hl (λz=>nomatch z);let m:t≠l:=YC S.thA hl (λz=>nomatch z);let n:p≠l:=YC ei hl (λz=>nomatch z);let t1:TSame H (upd H r (DxO r ((ks++[key]).map (Jg w)) (bs++[a]) (ls.map .ref++[.ref l]))):=TSame.frz S.ro QA;let o:upd H r (DxO r ((ks++[key]).map (Jg w)) (bs++[a]) (ls.map .ref++[.ref l])) l=-(.lst []):=by rw[Qm d.symm];show hl
 let g:=t1.trans (TSame.lst (ws:=[f]) o);let h:=BL (k:=key) S.roN;let j:=BK (k:=key) S.roO xk;rw[JY,Qc hk]at h j;show⟨⟨dx,by rw[Qm n,Qm S.pr];show ei⟩,by rw[Qm m,Qm S.tr];show S.thA,S.thN,S.thO,S.thI.tsame g S.thO.lf,?_,h,j,?_,S.tr,?_,by simp[S.len],λq s ds b c=>?_⟩
 ·rw[Qm d,Vu]
  simp
 ·rw[Gr];show(S.roI.tsame g S.roO.lf).append (Vg (ik.tsame g (Qlr xk.1)) Jq)
 ·rw[Js];show⟨S.nd,"s",λx hx y hy=>by simp at hy;subst hy;show λe=>hn (e▸hx)⟩
 ·by_cases Kt:q<ls.length
  ·rw[QN Kt]at b;rw[QN (by rw[<-S.len];show Kt)]at c;let⟨u,e1,e2,e3⟩:=S.rows q s ds b c;let Ko:s≠l:=λz=>hn (z▸Q6 b)
   let v:s≠r:=λz=>S.rl (z▸Q6 b)
   show⟨u,by rw[Qm Ko,Qm v];show e1,e2,e3.tsame g e2⟩
  ·let e0:q=ls.length:=by
    let:=(Q3.mp b).1;simp at this
    lia
   subst e0;rw[J4 (Q5 _)]at b;rw[J4 (by rw[S.len];show Q5 _)]at c;simp at b;rw[S.len]at c;simp at c;subst b c;show⟨[f],Vu,by simp[LFs,lf],Vg (i.tsame g lf) Jq⟩
def Sh.newK{a l:Addr}{H0:Hp}(S:Sh w K C H p t r th as ks bs ls rs)(s:Same H0 H)(hl:H l=-(.lst []))(h0:H0 l=none):
  ShK H0 (upd (upd H r (DxO r ((ks++[key]).map (Jg w)) (bs++[a]) (ls.map .ref++[.ref l]))) l (.lst [f])) t r ls (ls++[l]):=by
 let c:r≠l:=YC S.ro hl (λz=>nomatch z);let d:t≠l:=YC S.thA hl (λz=>nomatch z);let h:TSame H (upd H r (DxO r ((ks++[key]).map (Jg w)) (bs++[a]) (ls.map .ref++[.ref l]))):=TSame.frz S.ro QA;let g:upd H r (DxO r ((ks++[key]).map (Jg w)) (bs++[a]) (ls.map .ref++[.ref l])) l=-(.lst []):=by rw[Qm c.symm];show hl
 show⟨λb o e j i h3=>?_,λx hx=>?_,s.t.trans (h.trans (TSame.lst (ws:=[f]) g)),⟨_,by rw[Qm d,Qm S.tr];show S.thA⟩,⟨_,by rw[Qm c,Vu]⟩⟩
 ·rw[Qm (QM e h0),Qm i];show s _ _ e
 ·rcases Qt.mp hx with hx|hx
  ·show .inl hx
  ·simp at hx;subst hx;show .inr h0
def Sh.put{a:Addr}{H':Hp}(S:Sh w K C H p t r th as ks bs ls rs)(xk:XKey fd)(ik:Is K H fd (.ref a))(g:XPut w H t a th as (as.map λ_=>.bl true) fd (.bl true) H'):∃as',Sh w K C H' p t r (JY th fd) as' ks bs ls rs/\ShK H H' t r ls ls:=by
 let key:∀(c:List D)(as':List Addr)(H':Hp),H'=upd H t (DxO t (c.map (Jg w)) as' (as'.map λ_=>.bl true))->c.Nodup->KOk c->Va K H c (as'.map .ref)->Sh w K C H' p t r c as' ks bs ls rs/\ShK H H' t r ls ls:=by
  rintro c as' _ rfl nd ok is;let⟨dx,u⟩:=S.ins;let ts:TSame H (upd H t (DxO t (c.map (Jg w)) as' (as'.map λ_=>.bl true))):=TSame.frz S.thA QA;show⟨⟨⟨dx,by rw[Qm S.pt];show u⟩,Vu,nd,ok,is.tsame ts ok.lf,by rw[Qm S.tr.symm];show S.ro,S.roN,S.roO,S.roI.tsame ts S.roO.lf,S.tr,S.nd,S.len,λi l v j n=>?_⟩,
   ⟨λb o e j n h3=>by rw[Qm j];show e,λl h=>.inl h,ts,⟨_,Vu⟩,⟨_,by rw[Qm S.tr.symm];show S.ro⟩⟩⟩
  let⟨x,y,q,z⟩:=S.rows i l v j n;show⟨x,by
   let Kt:l≠t:=by
    rintro rfl;show S.tl (Q6 j)
   rw[Qm Kt];show y,q,z.tsame ts q⟩
 rcases g with⟨i,hi,e⟩|⟨s,e⟩
 ·show⟨as,?_⟩;rw[JY,Qh (Q6 hi)];show key th as H' ?_ S.thN S.thO S.thI;rw[e];congr 2;apply W3;intro m;rw[List.getElem?_set];split
  ·rename_i h;subst h;rw[Qd];split
   ·rename_i h;rw[Qb]at h;rw[Qa h];rfl
   ·rename_i h;rw[Qb]at h;rw[Wc "l"];rfl
  ·rfl
 ·show⟨as++[a],?_⟩;let d:=BL (k:=fd) S.thN;let f:=BK (k:=fd) S.thO xk;rw[JY,Qc s]at d f;rw[JY,Qc s];show key (th++[fd]) (as++[a]) H' ?_ d f ?_
  ·rw[e]
   simp
  ·rw[Gr];show S.thI.append (Vg ik Jq)
end
end L2
namespace L2
open PySem PySem.Spec PyProof.Rows
section
variable {X:Cx} {ρ:List (Option D)} {a b c e:Expr} {pos:Pos} {d:D}
def Qbr:D->Bool|.non=>false|_=>true
def Qv7{j:Nat}{p:Pos}(ha:PD X ρ a d):PB X ρ (.Compare a [.IsNot] [.Constant .none j p] pos) (Qbr d):=
 UA Qx6 ha Qum (λH x y Q hx hy q=>⟨Ql2 hy,by
  let e:(!decide (x=V.non))=(Qbr d):=by
   cases d with
   |non=>cases Ql2 hx;rfl
   |bl k=>cases BQ hx;rfl
   |int k=>cases Y5 hx;rfl
   |str k=>cases W9 hx;rfl
   |tup k=>let⟨p,_,rfl,_⟩:=JS hx;rfl
   |lst k=>let⟨p,_,rfl,_⟩:=We hx;rfl
   |dct _ _ _=>let⟨p,_,rfl,_⟩:=Qnc hx;rfl
   |oth _ _ _=>let⟨p,_,rfl,_⟩:=Jc6 hx;rfl
  rw[e];show q _ H (Same.refl H) (Y0 _)⟩) (nomark _)
def Qv1(hc:X.calm=true):CallR X (.builtin "any") (λvs H Q=>∃(p:Addr)(bs:List Bool),vs=[.ref p]/\SqL X.K H p (bs.map V.bl)/\Q (.bl (bs.any id)) H):=by
 intro Kz s y H xs us Q I r h;let⟨p,bs,rfl,j,q⟩:=h;let⟨u,rfl,k⟩:=vals1 r;cases(show u=Value.ref p from k);let⟨Kw,f,pl,g⟩:=I.list j;let Ks:=f.length;rw[Qb]at Ks;let Kt:p<s.heap.objs.size:=by
  let⟨o,l,_⟩:=pl.isList;show Qj l
 show call_any_walk (Qcp pl.isList ?_);show⟨s.heap.objs.size,_,_,_,_,_,λi=>bs.getD i true,(),Walks.list (show X.A.in1.handled=none from I.ok.hd hc) _ p (Qq Kt) Kw.toArray,⟨⟨_,Q9 _ (),(),()⟩,pl.isList.at λo e=>Q1 _ e⟩,?_,?_⟩
 ·intro i v s' Q' E' m d;let a:Kw[i]?=some v:=by simpa using m
  let hi:i<bs.length:=by rw[Ks];show(Q3.mp a).1
  let⟨w',c,n⟩:=f.get (i:=i) (x:=.bl bs[i]) (by simp[hi]);rw[a]at c;cases c;cases(show v=Value.bool _ from n);show Z2 ?_;simpa[List.getD,hi]using d
 ·intro h' tk t;let c:(List.range Kw.toArray.size).any (λi=>bs.getD i true)=bs.any id:=by
   rw[Qy,<-Ks,Ws];simp only[List.any_eq_true,Jp,id_eq];constructor
   ·rintro⟨i,hi,h⟩;show⟨_,WF hi,?_⟩;simpa[List.getD,hi]using h
   ·rintro⟨z,g,h⟩;let⟨i,hi,rfl⟩:=Wi.mp g;show⟨i,hi,by simpa[List.getD,hi]using h⟩
  rw[c];show⟨.bl (bs.any id),H,?_,(),q⟩;show I.kept λb o e=>t b o (λz=>by
   let w:b=s.heap.objs.size:=by simpa using z
   show absurd (Qj e) (by rw[w];show JG _)) (Q1 _ e)
def Jen{bs:List Bool}{p:Pos}(hc:X.calm=true)(hm:X.mg "any"=none)(ha:PD X ρ e (.lst (bs.map D.bl)))(hg:Gl X "any":=by rfl)(hs:starEach [e] X.env=[(false,eval e X.env)]:=by rfl):
  PD X ρ (.Call (.Name "any" p) [e] [] pos) (.bl (bs.any id)):=
 Qnu (Qv1 hc) hm PyProof.Rows.boot_any (Vc ha Vn hs) (λH c Q b q=>by
  let⟨v,rfl,i⟩:=b.one;let⟨p,d,rfl,a,r⟩:=We i;rw[Qe4 r]at a;show⟨p,bs,(),a,q _ H (Same.refl H) (Y0 _)⟩) hg "d" "d" hs ()
end
end L2
namespace L2
open PySem PySem.Spec PyProof.Rows PySem.W
section
variable {X:Cx} {ρ:List (Option D)} {a b e o:Expr} {d:D} {ds:List D} {ks:List Str} {pos:Pos}
def Qxw:MtR X "str.isupper" (λx xs H Q=>∃y,x=.str y/\xs=[]/\Q (.bl (Txt.isupper y)) H):=by
 intro Kz s c H x xs v d Q I a b h;let⟨y,rfl,rfl,q⟩:=h;let⟨t,e⟩:=(show ∃t,v=Value.str y t from a);subst e;cases b;show SC.isupper ⟨.bl _,H,I,(),q⟩
def Jcf{y:Str}{ap cp:Pos}(ho:PD X ρ o (.str y))(hbase:attributeBase o "isupper" X.env (eval o X.env)=eval o X.env:=by rfl)(Kj:(ap.endLine==cp.line)=true:=by rfl):
  PD X ρ (.Call (.Attribute o "isupper" ap) [] [] cp) (.bl (Txt.isupper y)):=
 ZR (Jb5 PySem.F.plainAttrs_str PySem.F.slot_str_isupper PySem.F.type_str_isupper Qxw ho.pe hbase Kj) λd H Q a q=>⟨a,λv H1 b c=>by
  cases W9 c;show⟨(),y,(),(),q _ H1 b (Y0 _)⟩⟩
end
end L2
namespace NE
open PySem PySem.SeqAt
open AutoSeq1 (wpAny_loadPart')
open MeetsSeq MeetsSeq2 MeetsSeq3 SeqRoads2
def Ja0(pa pb:Addr)(us vs:Array Value)(n m:Nat)(c1 c2:Option Addr)(w1 w2:Array (Option Value))(hz:us.size=vs.size):
  Meets (Builtin.«tuple.__ne__» ⟨[.ref pa,.ref pb],[]⟩)
   (λA R s=>s.heap.get? pa=some {cls:=.type "tuple",dict:=c1,data:=.seq us n,slots:=w1}/\s.heap.get? pb=some {cls:=.type "tuple",dict:=c2,data:=.seq vs m,slots:=w2} /\
    (∀p∈us.toList.zip vs.toList,EqAt A.in1 s p.1 p.2 true)/\R (.ok (.ret (.bool false))) s):=
 .of_wp λprog w A R s q=>by
  let⟨b,g,d,i,os⟩:=s;let⟨j,k,l,o⟩:=q;let t:=AutoSeq1.sub_tuple_tuple
  wp_walk using wpAny_loadPart' j,wpAny_loadPart' k,wpAny_forIn_list _ (λa r e=>r.1=none/\e=⟨b,g,d,i,os⟩/\∀p∈a,p∈us.toList.zip vs.toList) _
  case turn =>
   rintro⟨y,x⟩ a r e ⟨f,rfl,c⟩;show Q0 (l (y,x) (c _ Q8) prog w _ _ ?_)
   wp_walk
   show⟨(),(),λp b=>c p (Q7 _ b)⟩
  case fin =>
   rintro⟨u,v⟩ e ⟨f,rfl,-⟩;simp only at f;subst f
   wp_walk
   show⟨_,(),by simpa[Builtin.Tuple.tupleCompareSizes,hz]using o⟩
  case h=>show⟨(),(),λp b=>b⟩
end NE
namespace L2
open PySem PySem.Spec PyProof.Rows PySem.W
section
variable {X:Cx} {ρ:List (Option D)} {a b e:Expr} {d:D} {ds:List D} {ks:List Str} {pos:Pos}
def Jb8(hk:keyOks us=true)(hu:X.A.units+1+deps us+deps us<cLine):OpR X (compareOp .NotEq) (λx y H Q=>Is X.K H (.tup us) x/\Is X.K H (.tup us) y/\Q (.bl false) H):=by
 intro Kz s σ H x y vx vy Q I u v h;let⟨w,i2,q⟩:=h;let⟨p,xs,rfl,q1,r1⟩:=JS w;let⟨p',ys,rfl,q2,r2⟩:=JS i2;cases((u));cases((v));let⟨Kw,v1,t1,_⟩:=I.tuple q1;let⟨a,v2,t2,_⟩:=I.tuple q2;let l:=Va.conc I (Zs hk) r1 v1;let m:=Va.conc I (Zs hk) r2 v2;let l1:=l.len;let l2:=m.len;let⟨⟨cls,dd,o,sl⟩,r,hc,n,hd⟩:=t1;let⟨⟨t,c,data2,d⟩,b,e,n2,f⟩:=t2;subst hc hd e f;let ea:=BY us us l m (A:=X.A.in1) "l";show richCompare_meets_room (op:=.NotEq) ⟨_,r,()⟩ ⟨_,b,()⟩ PySem.F.slot_tuple_ne PySem.F.entry_tuple_ne (PySem.F.args_tuple_ne_2 _ _) (NE.Ja0 p p' Kw.toArray a.toArray n n2 dd c sl d (by simp;lia)) ⟨r,b,λpr g=>?_,?_⟩ "l"
 ·let⟨j,hj,rfl⟩:=Wi.mp g;rw[List.length_zip]at hj;let i:j<Kw.toArray.size:="e"
  let k:j<a.toArray.size:="e"
  let:=ea j i k;rw[BW]at this
  ext
 ·show⟨λz=>(nomatch z),⟨.bl false,H,I,(),q⟩⟩
def Jer(ha:PD X ρ a (.tup us))(hb:PD X ρ b (.tup us))(hk:keyOks us=true)(hu:X.A.units+1+deps us+deps us<cLine):PB X ρ (.Compare a [.NotEq] [b] pos) false:=
 UA (Jb8 hk hu) ha hb (λH x y Q hx hy q=>⟨hx,hy,q _ H (Same.refl H) (Y0 _)⟩) (nomark _)
variable {a2 b2:Expr} {d2:D} {k1 k2:Str}
end
end L2
namespace L2
open PySem PySem.Spec PyProof.Rows
def IteL(K:W.Frag)(a:Addr):It:=
 ⟨λi H=>∃xs x,SqL K H a xs/\xs[i]?=-x,λi H v H'=>∃p x,v=.ref p/\H p=none/\H'=upd H p (.tup [.int i,x])/\∀xs,SqL K H a xs->xs[i]?=-x,λi H=>∃xs,SqL K H a xs/\xs.length<=i⟩
def Qk7{P:Program}{w:World}{K:W.Frag}{elts:List Expr}{k:Nat}{pos:Pos}{e j a:Addr}(ne:e≠j):
  Turn P w K (.Tuple elts k pos) (IteL K a) [e,j] e (λi h=>(∃old,IsEnum h e j (i:Nat) old)/\h.IsListIter j a i) where
 mem:="s"
 obj:=λi h st c hc=>by
  let⟨⟨old,he⟩,o,ej,_,dj⟩:=st;simp only[Qe,JV,Zk]at hc;rcases hc with rfl|rfl
  ·show⟨_,he,λv q=>by cases q⟩
  ·show⟨_,ej,λv q=>by rw[dj]at q;cases q⟩
 keep:=λi h h' st k=>by
  let⟨⟨old,he⟩,o,ej,r⟩:=st;show⟨⟨old,k _ "s" _ he⟩,o,k _ "s" _ ej,r⟩
 item:=by
  intro X hP hw hK hc i Kz s σ H E I hf st hg;subst hP hw hK;let⟨xs,x,q1,hx⟩:=hg;let⟨⟨old,he⟩,hj⟩:=st;let⟨us,r1,p1,z1⟩:=I.list q1;let⟨u,hu,ru⟩:=r1.get hx;show wpAny_pyNext_enum_item he hj p1.isList (x:=u) (by simpa using hu) ne λh' no nj np _ keep=>?_
  show⟨_,(),wpAny_letOwnedTupleGo_enum no λh2 mo sb=>?_⟩;let fresh:H s.heap.objs.size=none:=I.hok.fresh (Q5 _);let lt:∀c∈[e,j],c≠s.heap.objs.size:=λc Kl=>by
   let:∃o,s.heap.get? c=some o:=by
    let⟨o,ej,_⟩:=hj;simp only[Qe,JV,Zk]at Kl;rcases Kl with rfl|rfl
    ·show⟨_,he⟩
    ·show⟨_,ej⟩
   let⟨o,ee⟩:=this;show Qq (Qj ee)
  let I0:Inv X Kz σ (upd H s.heap.objs.size (.tup [.int i,x])) {s with heap:=s.heap.push {cls:=.type "tuple",data:=.seq #[.int i s.toks,u]},toks:=s.toks+1}:=
   I.laid (λc o e=>Q1 _ e) (Q5 _) ⟨by change 2<=_;decide,[.int i s.toks,u],.cons ⟨_,()⟩ (.cons ru .nil),⟨_,Q9 _ (),(),_,()⟩⟩
  let fok:∀c∈[e,j],FpOk X Kz (upd H s.heap.objs.size (.tup [.int i,x])) c:=λc Kl=>by
   let⟨f0,f1,f2,f3,f4,f5⟩:=hf c Kl;show⟨by rw[Qm (lt c Kl)];show f0,f1,f2,f3,f4,f5⟩
  show⟨.ref s.heap.objs.size,upd H s.heap.objs.size (.tup [.int i,x]),?_,(),⟨_,x,(),fresh,(),λzs hz'=>by rw[I.list_inj hz' q1];show hx⟩,?_,λc Kl=>by rw[Qm (lt c Kl)];show(hf c Kl).1⟩
  ·let I1:Inv X Kz σ (upd H s.heap.objs.size (.tup [.int i,x])) {s with heap:=h2,toks:=s.toks+1}:=Inv.turnedL (s:={s with heap:=s.heap.push {cls:=.type "tuple",data:=.seq #[.int i s.toks,u]},toks:=s.toks+1}) (fp:=[e,j]) I0 ?_ fok
   ·show I1
   intro c o Kl ee;replace ee:(s.heap.push {cls:=.type "tuple",data:=.seq #[.int i s.toks,u]}).get? c=some o:=ee;simp only[Qe,JV,Zk,not_or]at Kl
   by_cases hT:c=s.heap.objs.size
   ·subst hT;rw[Q9 _ ()]at ee;rw[<-ee];show sb.extBut _ _ Kl.1 np
   ·show sb.extBut _ _ Kl.1 (keep c o Kl.1 Kl.2 (by rwa [Qzr _ _ _ hT]at ee))
  ·let⟨o1,e1,s1⟩:=nj;show⟨⟨u,?_⟩,o1,sb.extBut _ _ (Jd ne) e1,s1⟩;let:((i:Int)+1)=((i+1:Nat):Int):="l"
   rw[<-this];show mo
 done:=by
  intro X hP hw hK hc i Kz s σ H E I hf st hg;subst hP hw hK;let⟨xs,q1,hx⟩:=hg;let⟨⟨old,he⟩,hj⟩:=st;let⟨us,r1,p1,z1⟩:=I.list q1;let l1:=r1.length;show wpAny_pyNext_enum_end (I.ok.hd hc) he hj p1.isList (by simp;lia) λh' keep=>⟨(),?_⟩
  show I.turnedL (t':=s.toks) (fp:=[j]) (λc o Kl ee=>keep c o (by simpa using Kl) ee) λc Kl=>hf c (by simp at Kl ⊢; show .inr Kl)
 self:=λ_ _ _ _ _ st h=>by
  let⟨⟨old,he⟩,_⟩:=st;show Qcq he h
section
variable {X:Cx}
def Jc8(K:W.Frag)(ta:TA):TI:=λσ H R=>ta σ H λvs H1=>∃a,vs=[.ref a]/\(∃xs,SqL K H1 a xs)/\R (IteL K a) H1
def Qrz{e1:Expr}{ta:TA}{p pos tp:Pos}{elts:List Expr}{k:Nat}(hg:Gl X "enumerate")(hm:X.mg "enumerate"=none)(ha:PA X [e1] ta)(hs:starEach [e1] X.env=[(false,eval e1 X.env)]:=by rfl):
  PI X (.Tuple elts k tp) (.Call (.Name "enumerate" p) [e1] [] pos) (Jc8 X.K ta):=by
 intro Kz s e H R I h;show Call_ (Uo I hg hm Qci (WA (thn (ha pos Kz s e H _ I h) λn b ⟨o,H1,I1,f,g⟩=>?_) hs ()));let⟨a,rfl,⟨r,i⟩,q⟩:=g;let⟨u,rfl,j⟩:=vals1 f;cases j;let⟨t,v,l,w⟩:=I1.list i;show call_enumerate_list l.isList λx st m _ keep=>Qcq st ?_
 show⟨_,[b.heap.objs.size+1,b.heap.objs.size],_,_,H1,(),I1.kept (t':=b.toks) keep,Qk7 (Ze (WE _)),⟨⟨.none,st⟩,m⟩,λc d=>?_,q⟩;let le:b.heap.objs.size<=c:=by
  simp only[Qe,JV,Zk]at d;rcases d with rfl|rfl
  ·show O7 _
  ·show Q5 _
 show I1.fpOk le (I1.hok.fresh le)
end
end L2
namespace L2
open PySem PySem.Spec PyProof.Rows
section
variable {X:Cx}
def Qrt(hN:X.N.Nodup)(hzi:X.N[i]?=-z)(hzl:X.env.scope.names.lookup z=some .local)(hc:X.calm=true)(hi:PI X (.Tuple [.Name x px,.Name y py] tk tp) iter wi)
  (hifs:∀cl C s H ex,PTs (cxP X x y scope cl C s H ex) ifs tc) (helt:∀cl C s H ex,PE (cxP X x y scope cl C s H ex) elt te)
  (hok:ZV X.N X.env.scope x scope=true) (hy:scope.names.lookup y=some .local) (hnd:(x::y::X.N).Nodup) (hs:∀x,foldedSetIterable iter X.env x=pure x)
  (hsw:swapsWith (.ListComp elt [⟨.Tuple [.Name x px,.Name y py] tk tp,iter,ifs,0⟩] scope pos) (-(.Name z pz)) spos.line X.env=pure true) :
  PS X (.Assign [.Name z pz] (.ListComp elt [⟨.Tuple [.Name x px,.Name y py] tk tp,iter,ifs,0⟩] scope pos) spos) (Ja5 (Qr3 X.K wi tc te) (Qc4 i)):=by
 intro Kz s t H Dd I h;let ok:=CompOk.of hok;rw[exec_Assign_Name_used _ _ _ _ hsw];show Q0 (wpAny_standAt (Q0 ?_));show Q0 (Jn (Qcw () hs (YR λy hy e=>?_) ok.kind ok.names ?_) (λ_ u w=>Q2 (Q2 w)) λ_ _ e=>e)
 ·let⟨n,k⟩:=y;cases e;let⟨c,z⟩:=ok.cells I hy
  ext
 ·show thn (hi Kz s t H _ I h) λv s1 h1=>thn h1 λitv s2 h2=>?_
  let⟨it,fp,tn,J,H2,e,I2,T,g,l,W,w0,turn⟩:=h2;subst e;show Qj1 ok ⟨hy,hnd⟩ hc hifs helt I2 T g l w0 turn ?_;intro D C u H' ys Kw k hD p f J' rv hl q;let⟨m,hn,_⟩:=id J'.loc;let J2:=Ql6 J' I2.len;let⟨I',nD⟩:=Bl I2 l hD p f J2 rv hl (Qzs ..);let r:upd H' D (.lst ys) C=none:=by rw[Qm (Jd f)];show J2.free
  let d:=I2.fpOk p r;show Qcs (Og I' hN hzi (.inl hzl) (v:=.ref D) () (λs'' I'' ⟨a,sa,ha⟩=>?_) (.inr hzl));let j:C≠a:=by
   rcases ha with ha|ha
   ·rw[ha];show d.2.1
   ·show Jd (d.2.2.2.2.1 _ _ ha)
  show⟨m,hn.sameBut sa j,λh' sb=>?_⟩;show⟨_,_,I''.turned (λb o hb e=>(sb.2 b hb).trans e) r d.2.1 d.2.2.2.1 d.2.2.2.2.1 d.2.2.2.2.2,q D nD⟩
variable {ρ:List (Option D)}
variable {H₀:Hp} {τ:List Sl} {pos:Pos}
end
def TSame.sqT{K:W.Frag}(t:TSame H H')(h:SqT K H a xs):SqT K H' a xs:=by
 rcases h with h|h
 ·show .inl (t.tp _ _ h)
 ·show .inr h
section
variable {X:Cx} {H₀:Hp} {τ:List Sl} {ds as bs:List D} {pos:Pos} {m:Bool}
def Qxo{e:Expr}{x y:Str}{px py tp cp ep:Pos}{tk:Nat}{body:List Stmt}{jx jy:Nat}(Kr:Nat->List Sl)(hp:PassesOwn (model X.prog X.w) X.A X.env X.xe)(hc:X.calm=true)(hm:X.mg "enumerate"=none)(ha:PD X (dat τ) e (.tup ds))(lf:LFs ds=true)
  (h0:Kr 0=τ) (hb:∀(i:Nat)(d:D),ds[i]?=-d->∃n,QOs X H₀ (((Kr i).set jx (.any (.int i))).set jy (.any d)) body (.next n (Kr (i+1)))/\(m=true->n=true))
  (hN:X.N.Nodup) (hx:X.N[jx]?=some x:=by rfl) (hy:X.N[jy]?=some y:=by rfl) (lx:Loc X.env.scope x:=by first|show QI rfl|show QB ()) (ly:Loc X.env.scope y:=by first|show QI rfl|show QB ())
  (fx:X.fn x=true\/X.env.scope.names.lookup x=some .local:=by first|show .inl rfl|show .inr ()) (fy:X.fn y=true\/X.env.scope.names.lookup y=some .local:=by first|show .inl rfl|show .inr ())
  (hg:Gl X "enumerate":=by rfl) (hse:starEach [e] X.env=[(false,eval e X.env)]:=by rfl) (hs:∀v,foldedSetIterable (.Call (.Name "enumerate" ep) [e] [] cp) X.env v=pure v:=by intro _;rfl) :
  QO X H₀ τ (.For (.Tuple [.Name x px,.Name y py] tk tp) (.Call (.Name "enumerate" ep) [e] [] cp) body [] pos) (.next m (Kr ds.length)):=by
 let l:PSs X body (λD j H=>∃i d,ds[i]?=-d/\rdO X.K H₀ (((Kr i).set jx (.any (.int i))).set jy (.any d)) (.next m (Kr (i+1))) D j H):=λKz s j H D I ⟨i,d,hd,q⟩=>by
  let⟨n,b,hn⟩:=hb i d hd;show b.pe Kz s j H D I ⟨q.1,λKu H' t=>q.2 Ku H' (t.weak hn)⟩
 show⟨(YO hp hc (Qmy hg hm (Vc ha Vn hse).pe hse) (Oo (n:=2) hc (Vh (JR (i:=jx) hN hx lx fx) (Vh (JR (i:=jy) hN hy ly fy) Gw))) l hs).imp λD j H q=>?_⟩;show⟨q.1.env,λvs H1 s1 ia=>?_⟩;let⟨v,rfl,iv⟩:=ia.one;let⟨a,c,rfl,b,r⟩:=JS iv;let Ks:=r.length;show⟨a,(),⟨c,b⟩,λi k Ku H'=>i<=ds.length/\k=ds.length-i/\EnvO X.K H₀ H' Ku (Kr i)/\Rl m H H'/\TSame H1 H',⟨ds.length,QJ _,(),by rw[h0];show q.1.step s1,.of s1,TSame.refl _⟩,?_⟩;rintro i k Ku H' ⟨hi,rfl,he,f,st⟩
 by_cases Kt:i<ds.length
 ·show .inr ⟨⟨c,c[i]'"l",st.sqT b,"s"⟩,λg H2=>EnvO X.K H₀ H2 g (Kr (i+1))/\Rl m H' H2,λg H2 ⟨o,h⟩=>⟨ds.length-(i+1),"l",Kt,(),o,?_,st.trans h.t⟩,λv H2 yl=>?_⟩
  ·let:=f.trans h;rwa [Ux]at this
  let⟨p,u,rfl,np,rfl,hu⟩:=yl;let⟨d,hd,id⟩:=(r.tsame st lf).at (hu c (st.sqT b));let w:Same H' (upd H' p (.tup [.int i,u])):=Same.upd np;show⟨p,[.int i,u],(),.inl (.inl Vu),(),.int i,[u],(),u,[],(),(),i,d,hd,?_,λσ3 H3 t3 z=>⟨z,?_⟩⟩
  ·show((he.step w).set (s:=.any (.int i)) jx ⟨_,(),Y4 _⟩ λKq e=>nomatch e).set (s:=.any d) jy ⟨u,(),id.same w⟩ λKq e=>nomatch e
  ·let:=(Rl.of (m:=m) w).trans t3;rwa [Ux]at this
 ·let e:i=ds.length:="l"
  subst e;show .inl ⟨⟨c,st.sqT b,"l"⟩,q.2 Ku H' f he⟩
end
section
variable {X:Cx} {ρ:List (Option D)} {a b:Expr} {pos:Pos}
def Qzi(ha:PD X ρ a (.int i))(hb:PD X ρ b (.int j)):PB X ρ (.Compare a [.NotEq] [b] pos) (!decide (i=j)):=by
 let h:=UA (pos:=pos) Qsc ha hb (Qsq () () ()) (nomark _)
 ext
end
section
variable {X:Cx} {ρ:List (Option D)} {ds:List D} {pos:Pos}
def Qwn(jx jy:Nat)(hp:PassesOwn (model X.prog X.w) X.A X.env X.xe)(hc:X.calm=true)(hm:X.mg "enumerate"=none)(ha:PD X ρ e (.tup ds))(lf:LFs ds=true)(hb:PSs X body tb)
  (hN:X.N.Nodup) (hx:X.N[jx]?=some x:=by rfl) (hy:X.N[jy]?=some y:=by rfl) (lx:Loc X.env.scope x:=by first|show QI rfl|show QB ()) (ly:Loc X.env.scope y:=by first|show QI rfl|show QB ())
  (fx:X.fn x=true\/X.env.scope.names.lookup x=some .local:=by first|show .inl rfl|show .inr ()) (fy:X.fn y=true\/X.env.scope.names.lookup y=some .local:=by first|show .inl rfl|show .inr ())
  (hg:Gl X "enumerate":=by rfl) (hse:starEach [e] X.env=[(false,eval e X.env)]:=by rfl) (hs:∀v,foldedSetIterable (.Call (.Name "enumerate" ep) [e] [] cp) X.env v=pure v:=by intro _;rfl) :
  PS X (.For (.Tuple [.Name x px,.Name y py] tk tp) (.Call (.Name "enumerate" ep) [e] [] cp) body [] pos) (λD σ H=>EnvIs X.K H σ ρ/\∀H1,Same H H1->∃Pv:Nat->St->Hp->Prop,Pv 0 σ H1/\(∀i Ku H',Pv i Ku H'->TSame H1 H') /\
   (∀(i:Nat)d u Ku H' p,ds[i]?=-d->Pv i Ku H'->H' p=none->Is X.K H' d u->tb {D with nx:=Pv (i+1),ct:=Pv (i+1),bk:=D.nx} ((Ku.set jx (-(.int i))).set jy (-u)) (upd H' p (.tup [.int i,u])))/\(∀Ku H',Pv ds.length Ku H'->D.nx Ku H')):=by
 show(YO hp hc (Qmy hg hm (Vc ha Vn hse).pe hse) (Oo hc (Vh (JR hN hx lx fx) (Vh (JR hN hy ly fy) Gw))) hb hs).imp λD σ H q=>?_
 show⟨q.1,λvs H1 m n=>?_⟩;let⟨v,rfl,o⟩:=n.one;let⟨a,c,rfl,g,r⟩:=JS o;let Ks:=r.length;let⟨Pv,s,h,b,f⟩:=q.2 H1 m;show⟨a,(),⟨c,g⟩,λi k Ku H'=>i<=ds.length/\k=ds.length-i/\Pv i Ku H',⟨ds.length,QJ _,(),s⟩,?_⟩;rintro i k Ku H' ⟨hi,rfl,j⟩;let st:=h i Ku H' j
 by_cases Kt:i<ds.length
 ·show .inr ⟨⟨c,c[i]'"l",st.sqT g,"s"⟩,Pv (i+1),λt H2 l=>⟨ds.length-(i+1),"l",Kt,(),l⟩,λv H2 w=>?_⟩;let⟨p,u,rfl,z,rfl,hu⟩:=w;let⟨d,hd,id⟩:=(r.tsame st lf).at (hu c (st.sqT g));show⟨p,[.int i,u],(),.inl (.inl Vu),(),.int i,[u],(),u,[],(),(),b i d u Ku H' p hd j z id⟩
 ·let e:i=ds.length:="l"
  subst e;show .inl ⟨⟨c,st.sqT g,"l"⟩,f Ku H' j⟩
def Qrs{ek:Expr}{key:D}{p1 p2 p3 p4 p5 p6 p7 p8:Pos}(hu:X.A.units+15<cLine)(hk:PD X ρ ek key)(h0:X.N[0]?=-("self":Str):=by rfl)(h1:X.N[1]?=-("fact":Str):=by rfl)
  (v0:Vis X.env.scope "self":=by first|show QI rfl|show QB (QI ())|show QB (QB ())) (v1:Vis X.env.scope "fact":=by first|show QI rfl|show QB (QI ())|show QB (QB ()))
  (hb1:attributeBase (.Name "self" p1) "rows" X.env (eval (.Name "self" p1) X.env)=eval (.Name "self" p1) X.env:=by rfl)
  (hs1:starEach [ek,.List [] p4] X.env=[(false,eval ek X.env),(false,eval (.List [] p4) X.env)]:=by rfl) (hs2:starEach [.List [] p4] X.env=[(false,eval (.List [] p4) X.env)]:=by rfl)
  (hb2:attributeBase (.Attribute (.Name "self" p1) "rows" p2) "setdefault" X.env (eval (.Attribute (.Name "self" p1) "rows" p2) X.env)=eval (.Attribute (.Name "self" p1) "rows" p2) X.env:=by rfl)
  (hf2:((backTo p5 (starEach [ek,.List [] p4] X.env)).all (λx=> !x.1)&&(backToKw p5 (keywordEach [] X.env)).all (λx=>x.1.isSome)&&decide ([ek,Expr.List [] p4].length+([]:List Keyword).length+(if([]:List Keyword).isEmpty then 0 else 1)<30))=true:=by rfl)
  (hl2:(p3.endLine==p5.line)=true:=by rfl) (hp2:(backTo p5 (starEach [.List [] p4] X.env)).any (·.1)=false:=by rfl)
  (hb3:attributeBase (.Call (.Attribute (.Attribute (.Name "self" p1) "rows" p2) "setdefault" p3) [ek,.List [] p4] [] p5) "append" X.env (eval (.Call (.Attribute (.Attribute (.Name "self" p1) "rows" p2) "setdefault" p3) [ek,.List [] p4] [] p5) X.env)=eval (.Call (.Attribute (.Attribute (.Name "self" p1) "rows" p2) "setdefault" p3) [ek,.List [] p4] [] p5) X.env:=by rfl)
  (hf3:((backTo p8 (starEach [.Name "fact" p7] X.env)).all (λx=> !x.1)&&(backToKw p8 (keywordEach [] X.env)).all (λx=>x.1.isSome)&&decide ([Expr.Name "fact" p7].length+([]:List Keyword).length+(if([]:List Keyword).isEmpty then 0 else 1)<30))=true:=by rfl)
  (hl3:(p6.endLine==p8.line)=true:=by rfl) (hs3:starEach [.Name "fact" p7] X.env=[(false,eval (.Name "fact" p7) X.env)]:=by rfl)
  (hsw:swapsWith (.Call (.Attribute (.Call (.Attribute (.Attribute (.Name "self" p1) "rows" p2) "setdefault" p3) [ek,.List [] p4] [] p5) "append" p6) [.Name "fact" p7] [] p8) none pos.line X.env=pure false:=by rfl) :
  PS X (.Expr (.Call (.Attribute (.Call (.Attribute (.Attribute (.Name "self" p1) "rows" p2) "setdefault" p3) [ek,.List [] p4] [] p5) "append" p6) [.Name "fact" p7] [] p8) pos) (λDd σ H=>EnvIs X.K H σ ρ /\
   ∃(C p t r:Addr)(th:List D)(as:List Addr)(ks:List D)(bs ls:List Addr)(rs:List (List D))(f:V)(fd:D),σ[0]?=-(-(.ref p))/\σ[1]?=-(-f)/\Cls X.K C/\NoAttr X.K C "rows" /\Sh X.w X.K C H p t r th as ks bs ls rs/\Is X.K H fd f/\LF fd=true/\XKey key /\
    ks.length<100000/\(∀r∈rs,r.length<100000)/\∀H' bs' ls',Sh X.w X.K C H' p t r th as (W0 fd (ks,rs) key).1 bs' ls' (W0 fd (ks,rs) key).2->ShK H H' t r ls ls'->Dd.nx σ H'):=by
 show(Ul (Qdo (T:= "list") Yu PySem.F.slot_list_append PySem.F.type_list_append Qdz (Qs2 Wr UG (Qn5 hu) (Qs6 (Wv h0 v0) hb1) (WK hk.pe (WK (Qs4 Zr) Zr hs2) (by rw[hs1,hs2])) hb2 hf2 hl2 (by rw[hs1,hs2]) hp2) (WK (Wv h1 v1) Zr hs3) hb3 hf3 hl3 hs3 ()) hsw).imp λD σ H q=>?_
 let⟨he,C,p,t,r,th,as,ks,bs,ls,rs,f,fd,s0,s1,cl,na,S,g,lf,o,n1,n2,go⟩:=q;let⟨dx,ei⟩:=S.ins;let z1:(100000:Nat)<=sizeLine:=by rw[QR];decide
 show⟨_,s0,p,C,dx,_,.ref r,(),ei,cl,na,(),⟨r,_,bs,_,(),.inl S.ro⟩,he,λkv H1 sm s=>⟨by change 0<=sizeLine;show QJ _,λb m=>?_⟩⟩;let⟨a,rfl⟩:=Is.key_ref o s;let c:Same H (upd H1 b (.lst [])):=sm.trans (Same.upd m);let S2:=S.same c;show⟨r,a,ks,bs,ls.map .ref,key,.ref b,(),(),⟨S2.ro,S.roN,S.roO,S2.roI,"l"⟩,o,s.same (Same.upd m),λn z hn h=>?_,λu=>?_⟩
 ·rw[Qd]at h;cases i:ls[n]? with
  |none=>rw[i]at h;cases h
  |some l =>
   rw[i]at h;cases h;let Kt:=(Q3.mp i).1;let⟨v,w,e2,e3⟩:=S2.rows n l _ i (Qa (by rw[<-S.len];show Kt));let Ks:=e3.length;let hsm:=n2 _ (WF (show n<rs.length by rw[<-S.len];show Kt));show⟨.inl ⟨(),v,SqL.of w⟩,f,s1,l,v,f,(),(),w,"l",?_⟩;let⟨A1,A2⟩:=S2.old hn i w (g.same c) lf;show go _ _ _ A1 (A2.pre c)
 ·let d:upd H1 b (.lst []) b=-(.lst []):=Vu;let y:r≠b:=YC S2.ro d (λz=>nomatch z);let j:upd (upd H1 b (.lst [])) r (DxO r ((ks++[key]).map (Jg X.w)) (bs++[a]) (ls.map .ref++[.ref b])) b=-(.lst []):=by rw[Qm y.symm];show d
  let k:H b=none:=sm.free m;show⟨.inl ⟨(),[],SqL.of j⟩,f,s1,b,[],f,(),(),j,by change 0<sizeLine;lia,?_⟩;let hnl:b∉ls:=λz=>by
   let⟨v,e⟩:=S.row z;rw[k]at e;cases e
  show go _ _ _ (S2.new u o (s.same (Same.upd m)) d hnl (g.same c) lf) (S2.newK c d k)
end
end L2
set_option maxHeartbeats 4000000
namespace MN
open PySem PyProof.Rows
def Kp(h h':Heap):Prop:=∀b o,h.get? b=-o->h'.get? b=-o
section
variable {prog:Program} {w:World} {A:Around} {E:Kh} {s:Shared} {l I S:Addr} {kid:String} {vs:List Value} {R:Result->Shared->Prop} {Q:Kh}
def Turn(prog:Program)(w:World)(A:Around)(s:Shared)(kid:String)(vs:List Value)(kf:Nat->Int):Prop:=∀(i:Nat)(v:Value),vs[i]?=-v->∀(h:Heap)(tk:Nat)(Q:Kh),Kp s.heap h ->
 (∀t tk',Q (.int (kf i) t) {s with heap:=h,toks:=tk'})->wpAny (model prog w) A (call (.builtin kid) [v]) Q (λ_ _=>False) {s with heap:=h,toks:=tk}
def Kp.iter(k:Kp s.heap h)(hI:s.heap.objs.size<=I)(hk:∀b o,b∉[I]->h.get? b=-o->h'.get? b=-o):Kp s.heap h':=λb o e=>hk b o (by
 rw[Qu];show Qq (Qp (Qj e) hI)) (k b o e)
def Kp.at(k:Kp s.heap h)(hS:s.heap.objs.size<=S)(hs:Heap.SameBut S h h'):Kp s.heap h':=λb o e=>(hs.2 b (Qq (Qp (Qj e) hS))).trans (k b o e)
def Qtd(kf:Nat->Int)(hh:A.handled=none)(hl:∀h,Kp s.heap h->h.IsList l vs.toArray)(hlI:l≠I)(hSI:S≠I)(zI:s.heap.objs.size<=I)(zS:s.heap.objs.size<=S)
  (turn:Turn prog w A.in1 s kid vs kf)
  (hR:∀i v h' tk',vs[i]?=-v->(∀j,j<vs.length->kf i<=kf j/\(j<i->kf i<kf j))->Kp s.heap h'->R (.ok (.ret v)) {s with heap:=h',toks:=tk'}) :
  ∀(r j i:Nat)(h:Heap)(tk:Nat)(vb:Value)(tb:Tok)(c:Nat),vs.length-(j+1)=r->j+1<=vs.length->Kp s.heap h ->
   h.get? S=-(seqObj "list" #[vb,.int (kf i) tb] c)->h.IsListIter I l (j+1)->vs[i]?=-vb->i<=j->(∀j',j'<=j->kf i<=kf j'/\(j'<i->kf i<kf j')) ->
   codeAny (model prog w) A (.builtin "min.loop" ⟨[.ref I,.builtin kid,.ref S],[]⟩) R {s with heap:=h,toks:=tk}:=by
 let b:(toString "min" ++toString ".loop":String)= "min.loop":="d"
 let W:=Walks.list (prog:=prog) (w:=w) (A:=A.in1) hh I l hlI vs.toArray;let o:vs.toArray.size=vs.length:=Qy ..;intro r
 induction r with
 |zero =>
  intro j i h tk vb tb c hr hj F p k m hij a;let hin:j+1=vs.length:="l"
  show JX Qaz ?_;rw[Qoc Wz _];change wpAny _ A.in1 (seqItems? (.ref S) >>= _) _ _ _;show Q0 (Jl p () ?_);change wpAny _ A.in1 (tryCatch (pyNext (.ref I)) _ >>= _) _ _ _;show Q0 (UB (W.done _ _ _ ⟨by rw[o,<-hin];show k,hl h F⟩ λh' tk' d=>?_));let F1:=F.iter zI d;let hS':=d S _ (by simpa using hSI) p;let z:=QT h' S (Obj.mapSeq λ_=>(#[]:Array Value));change wpAny _ A.in1 (updateSeq S (λ_=> #[]) >>= _) _ _ _;show Q0 ?_;show Bu hS' () (Q0 (Uc (Q2 ?_)));show hR i vb _ _ m (λj' q=>a j' "l") (F1.at zS z)
 |succ r ih =>
  intro j i h tk vb tb c hr hj F p k m hij a;let Kt:j+1<vs.length:="l"
  show JX Qaz ?_;rw[Qoc Wz _];change wpAny _ A.in1 (seqItems? (.ref S) >>= _) _ _ _;show Q0 (Jl p () ?_);change wpAny _ A.in1 (tryCatch (pyNext (.ref I)) _ >>= _) _ _ _;show Q0 (UB (W.item (j+1) _ _ _ (by rw[o];show Kt) ⟨k,hl h F⟩ λv h' tk' hP f d=>?_));let hv:vs[j+1]?=some v:=by simpa using hP
  let F1:=F.iter zI d;let n:=d S _ (by simpa using hSI) p;change wpAny _ A.in1 (tryCatch (holding [v] (call (.builtin kid) [v])) _ >>= _) _ _ _;show Q0 (UB (JT (Jn (turn (j+1) v hv h' tk' _ F1 λg tk2=>?_) (λx s'' he=>he) λ_ _ hF=>hF.elim)));change wpAny _ A.in1 (tryCatch (holding [v,.int (kf (j+1)) g] (richCompare .Lt (.int (kf (j+1)) g) (.int (kf i) tb) >>= _)) _ >>= _) _ _ _;show Q0 (UB (JT (Q0 (CmpOf.ints_lt (prog:=prog) (w:=w) (A:=A.in1) (P:=λi v=>∃t,v=.int (kf i) t) kf (λi v h=>h) (j+1) i _ _ _ _ _ ⟨g,()⟩ ⟨tb,()⟩ ?_))));show Q0 (JT (Z2 ?_));show Q0 (Uc (Q2 ?_))
  by_cases u:kf (j+1)<kf i
  ·let z:=QT h' S (Obj.mapSeq λ_=> #[v,.int (kf (j+1)) g]);obtain⟨c2,hc2⟩:∃c2,(h'.update S (Obj.mapSeq λ_=> #[v,.int (kf (j+1)) g])).get? S=-(seqObj "list" #[v,.int (kf (j+1)) g] c2):=⟨_,Qvp n λ_=> #[v,.int (kf (j+1)) g]⟩;simp only[u,decide_true,Z0];show Q0 ?_;show Bu n () (Q0 (Uc ?_));rw[b];show Q2 ⟨Za Wz _,ih (j+1) (j+1) _ _ v g c2 "l" Kt (F1.at zS z) hc2 ?_ hv (Q5 _) λj' q=>?_⟩
   ·let⟨oI',y,hoc,hod⟩:=f.1;show⟨oI',(z.2 I hSI.symm).trans y,hoc,hod⟩
   ·by_cases e:j'=j+1
    ·subst e;show⟨"l",λ_=>by lia⟩
    ·let hb1:=a j' "l";let hb2:=hb1.1;show⟨"l",λ_=>by lia⟩
  ·simp only[u,decide_false,QE,JU];show Q0 (Uc ?_);rw[b];show Q2 ⟨Za Wz _,ih (j+1) i _ _ vb tb c "l" Kt F1 n f.1 m "l" λj' q=>?_⟩
   by_cases e:j'=j+1
   ·subst e;show⟨"l",λ_=>by lia⟩
   ·show a j' "l"
def Qxx(kf:Nat->Int)(hh:A.handled=none)(hl:s.heap.IsList l vs.toArray)(Ko:0<vs.length)(turn:Turn prog w A.in1 s kid vs kf)
  (hQ:∀i v h' tk',vs[i]?=-v->(∀j,j<vs.length->kf i<=kf j/\(j<i->kf i<kf j))->Kp s.heap h'->Q v {s with heap:=h',toks:=tk'}) :
  wpAny (model prog w) A (call (.builtin "min") [.ref l] [(Str.ofString "key",.builtin kid)]) Q E s:=by
 let d:(toString "min" ++toString ".loop":String)= "min.loop":="d"
 let⟨ol,f,g⟩:=id hl;let z:=Qj f;let m:∀h,Kp s.heap h->h.IsList l vs.toArray:=λh k=>⟨ol,k _ _ f,g⟩
 show kmb_tree PySem.F.kind_min PySem.F.plain_min PySem.F.entry_min (kmb_min_key _ _) ?_;show Q0 (Qo3 ((rfl)) ?_);show Q0 (Q2 ?_);show Q0 (Qcp hl ?_);show Q0 (wpAny_newList ?_ (QJ _));rw[d];generalize c:s.heap.push {cls:=.type "list_iterator",data:=.fields #[.ref l,.int 0 0]}=a;let hS:a.objs.size=s.heap.objs.size+1:=by rw[<-c];simp
 let n:=Qq z;let p:a.objs.size≠s.heap.objs.size:="o"
 let zS:s.heap.objs.size<=a.objs.size:="o"
 let gI1:a.get? s.heap.objs.size=some {cls:=.type "list_iterator",data:=.fields #[.ref l,.int 0 0]}:=by rw[<-c];show Q9 _ ()
 let K1:Kp s.heap a:=λb o e=>by rw[<-c];show Q1 _ e
 clear c;show Q2 ⟨Za Wz _,?_⟩;let FH:Kp s.heap (a.push (seqObj "list" #[] 0)):=λb o e=>Q1 _ (K1 b o e)
 let gI:(a.push (seqObj "list" #[] 0)).get? s.heap.objs.size=some {cls:=.type "list_iterator",data:=.fields #[.ref l,.int 0 0]}:=Q1 _ gI1;let gS:(a.push (seqObj "list" #[] 0)).get? a.objs.size=-(seqObj "list" #[] 0):=Q9 _ ();let W:=Walks.list (prog:=prog) (w:=w) (A:=A.in1) hh s.heap.objs.size l n vs.toArray;show JX Qaz ?_;show Q0 (Jl gS () ?_);show Q0 (UB (W.item 0 _ _ _ "o" ⟨⟨_,gI,(),()⟩,m _ FH⟩ λv h' tk' hP q r=>?_));let hv:vs[0]?=some v:="e"
 let F1:=FH.iter (Q5 _) r;let t:=r a.objs.size _ "e" gS;show Q0 (UB (JT (Jn (turn 0 v hv h' tk' _ F1 λu tk2=>?_) (λx s'' he=>he) λ_ _ hF=>hF.elim)));let s1:=QT h' a.objs.size (Obj.mapSeq λ_=> #[v,.int (kf 0) u]);obtain⟨c2,hc2⟩:∃c2,(h'.update a.objs.size (Obj.mapSeq λ_=> #[v,.int (kf 0) u])).get? a.objs.size=-(seqObj "list" #[v,.int (kf 0) u] c2):=⟨_,Qvp t λ_=> #[v,.int (kf 0) u]⟩;show Q0 ?_;show Bu t () ?_;show Q2 ⟨Za Wz _,Qtd kf hh m n p (Q5 _) zS turn hQ _ 0 0 _ _ v u c2 () Ko (F1.at zS s1) hc2 ?_ hv (Q5 _) λj' hj'=>?_⟩
 ·let⟨oI',y,hoc,hod⟩:=q.1;show⟨oI',(s1.2 _ p.symm).trans y,hoc,hod⟩
 ext
end
end MN
namespace WY
open PySem RH
abbrev Gv:=List Str×List Str
instance:DecidableEq At:=λa b=>if h:a.k=b.k/\a.ts=b.ts then isTrue (by cases a;ext)else isFalse "g"
def subst(ks vs:List Str)(t:Str):Str:=if t∈ks then vs.getD (ks.idxOf t) t else t
abbrev sub(g:Gv)(t:Str):Str:=subst g.1 g.2 t
def JB(g:Gv)(a:At):At:=⟨a.k,a.ts.map (sub g)⟩
def Qi9(σ:Str->Str)(a:At):At:=⟨a.k,a.ts.map σ⟩
section
variable (op:Str->Bool)
def Jy(g:Gv)(p:Str×Str):Option Gv:=
 if op p.1=true then(if p.1∈g.1 then(if sub g p.1=p.2 then -g else none)else some (g.1++[p.1],g.2++[p.2]))else(if p.1=p.2 then -g else none)
def JK(g:Gv):List (Str×Str)->Option Gv
 |[]=>-g|p::l=>(Jy op g p).bind λg'=>JK g' l
def JQ(g:Gv)(a f:At):Option Gv:=if a.k=f.k/\a.ts.length=f.ts.length then JK op g (a.ts.zip f.ts)else none
def WP(Kx:List Gv)(a:At)(fs:List At):List Gv:=Kx.flatMap λg=>fs.filterMap (JQ op g a)
def Y9(as:List At)(g:Gv):List At:=as.map (JB g)
def W7(as:List At)(acc:List Gv)(g:Gv):List Gv:=if Y9 as g∈acc.map (Y9 as)then acc else acc++[g]
def WG(Kx:List Gv)(as:List At):List Gv:=Kx.foldl (W7 as) []
def Zf(Ky:List At):List Gv->List (At×List At)->List Gv
 |Kx,[]=>Kx|Kx,(a,fs)::rest=>Zf Ky (WG (WP op Kx a fs) (rest.map (·.1)++Ky)) rest
def WT(V:List Str)(t:Str):List Str:=if op t=true/\t∉V then V++[t]else V
structure GOk(V:List Str)(g:Gv):Prop where
 keys:g.1=V
 len:g.1.length=g.2.length
 nd:V.Nodup
 opn:∀x∈V,op x=true
def Agr(σ:Str->Str)(g:Gv):Prop:=∀x∈g.1,σ x=sub g x
end
variable {op:Str->Bool} {V:List Str} {g g':Gv} {σ:Str->Str}
def ZS(h:t∉g.1):sub g t=t:=Qc h
def Qm4{t x v:Str}(hl:g.1.length=g.2.length)(h:t∈g.1):sub (g.1++[x],g.2++[v]) t=sub g t:=by
 unfold sub subst;let Kt:=QX h;rw[Qh h,Qh (show t∈g.1++[x]from JF _ h)];change(g.2++[v]).getD ((g.1++[x]).idxOf t) t=_;rw[O8,Qh h,Qi,Qi,QN "l"]
def Qm5{x v:Str}(hl:g.1.length=g.2.length)(h:x∉g.1):sub (g.1++[x],g.2++[v]) x=v:=by
 unfold sub subst;rw[Qh (show x∈g.1++[x] by simp)];change(g.2++[v]).getD ((g.1++[x]).idxOf x) x=_;rw[O8,Qc h];simp[Qi,hl]
def Qm7{p:Str×Str}(h:GOk op V g)(e:Jy op g p=-g'):GOk op (WT op V p.1) g'/\(∀x∈V,sub g' x=sub g x)/\sub g' p.1=p.2:=by
 unfold Jy at e;let⟨rfl,hl,nd,c⟩:=h;split at e
 ·rename_i b;split at e
  ·rename_i a;split at e
   ·rename_i h3;cases e;rw[show WT op g.1 p.1=g.1 from Qc λz=>z.2 a];show⟨⟨(),hl,nd,c⟩,λ_ _=>rfl,h3⟩
   ·cases e
  ·rename_i a;cases e;rw[show WT op g.1 p.1=g.1++[p.1]from Qh ⟨b,a⟩];show⟨⟨(),by simp[hl],?_,λx hx=>?_⟩,λx hx=>Qm4 hl hx,Qm5 hl a⟩
   ·rw[Js];show⟨nd,"s",λx hx y hy=>by simp at hy;subst hy;show λe=>a (e▸hx)⟩
   ·rcases Qt.mp hx with hx|hx
    ·show c x hx
    ·simp at hx;rw[hx];show b
 ·rename_i b;split at e
  ·rename_i a;cases e;rw[show WT op g.1 p.1=g.1 from Qc λz=>b z.1];show⟨⟨(),hl,nd,c⟩,λ_ _=>rfl,by rw[ZS λz=>b (c _ z)];show a⟩
  ·cases e
def Qjm{x t:Str}(h:x∈V):x∈WT op V t:=by
 unfold WT;split
 ·show JF _ h
 ·show h
def Qel{t:Str}(h:op t=true):t∈WT op V t:=by
 unfold WT
 by_cases a:t∈V
 ·rw[Qc λz=>z.2 a];show a
 ·rw[Qh ⟨h,a⟩]
  simp
def Y8(op:Str->Bool)(V:List Str)(ts:List Str):List Str:=ts.foldl (WT op) V
theorem Gk:∀(ts:List Str){V:List Str}{x:Str},x∈V->x∈Y8 op V ts
 |[],_,_,h=>h|t::ts,V,x,h=>Gk ts (Qjm h)
theorem Bg:∀(ts:List Str){V:List Str}{x:Str},x∈ts->op x=true->x∈Y8 op V ts
 |t::ts,V,x,h,a=>by
  rcases Qe.mp h with rfl|h
  ·show Gk ts (Qel a)
  ·show Bg ts h a
theorem Qkj:∀(l:List (Str×Str)){V:List Str}{g g':Gv},GOk op V g->JK op g l=-g'->GOk op (Y8 op V (l.map (·.1))) g'/\(∀x∈V,sub g' x=sub g x)/\∀p∈l,sub g' p.1=p.2
 |[],V,g,g',h,e=>by
  cases e;show⟨h,λ_ _=>rfl,λ_ z=>nomatch z⟩
 |p::l,V,g,g',h,e=>by
  unfold JK at e;cases q:Jy op g p with
  |none=>ext|some g1 =>
   rw[q]at e;let⟨a,i,h3⟩:=Qm7 h q;let⟨b,d,m⟩:=Qkj l a e;show⟨b,λx hx=>(d x (Qjm hx)).trans (i x hx),λr f=>?_⟩;rcases Qe.mp f with rfl|f
   ·by_cases c:op r.1=true
    ·show(d _ (Qel c)).trans h3
    ·let j:r.1∉g'.1:=λz=>by rw[b.keys]at z;show c (b.opn _ z)
     let k:r.1∉g1.1:=λz=>by rw[a.keys]at z;show c (a.opn _ z)
     rw[ZS j];rw[ZS k]at h3;show h3
   grind
def Qw6{p:Str×Str}(h:GOk op V g)(fix:∀t,op t=false->σ t=t)(ag:Agr σ g)(e:σ p.1=p.2):∃g',Jy op g p=-g'/\Agr σ g':=by
 unfold Jy
 by_cases b:op p.1=true
 ·rw[Qh b]
  by_cases a:p.1∈g.1
  ·rw[Qh a,Qh (by rw[<-ag _ a];show e)];show⟨g,(),ag⟩
  ·rw[Qc a];show⟨_,(),λx hx=>?_⟩;rcases Qt.mp hx with hx|hx
   ·rw[Qm4 h.len hx];show ag x hx
   ·simp at hx;subst hx;rw[Qm5 h.len a];show e
 ·rw[Qc b,Qh (by rw[<-e,fix _ (by simpa using b)])];show⟨g,(),ag⟩
theorem Qrj(fix:∀t,op t=false->σ t=t):∀(l:List (Str×Str)){V:List Str}{g:Gv},GOk op V g->Agr σ g->(∀p∈l,σ p.1=p.2)->∃g',JK op g l=-g'/\Agr σ g'
 |[],V,g,h,a,_=>⟨g,(),a⟩|p::l,V,g,h,a,b=>by
  let⟨g1,c,d⟩:=Qw6 h fix a (b p Q8);let⟨g2,i,e⟩:=Qrj fix l (Qm7 h c).1 d λq f=>b q (Q7 _ f)
  show⟨g2,by unfold JK;ext,e⟩
theorem Qlu{α β:Type}:∀{a:List α}{b:List β},a.length=b.length->(a.zip b).map (·.1)=a
 |[],[],_=>rfl|x::a,y::b,h=>by simp[Qlu (a:=a) (b:=b) (by simpa using h)]|[],_::_,h=>by simp at h|_::_,[],h=>by simp at h
theorem Qn6{α β:Type}{f:α->β}:∀{a:List α}{b:List β},a.length=b.length->(∀p∈a.zip b,f p.1=p.2)->a.map f=b
 |[],[],_,_=>rfl|x::a,y::b,h,c=>by
  rw[Qw,c (x,y) "s",Qn6 (by simpa using h) λp q=>c p (by simp[q])]
 |[],_::_,h,_=>by simp at h|_::_,[],h,_=>by simp at h
theorem Qls{α β:Type}{f:α->β}:∀{a:List α},∀p∈a.zip (a.map f),f p.1=p.2
 |x::a,p,h=>by
  rcases Qe.mp h with rfl|h
  ·rfl
  ·show Qls p h
def U8(h:GOk op V g)(e:JQ op g a f=-g'):GOk op (Y8 op V a.ts) g'/\(∀x∈V,sub g' x=sub g x)/\JB g' a=f:=by
 unfold JQ at e;split at e
 ·rename_i b;let⟨c,d,h3⟩:=Qkj _ h e;rw[Qlu b.2]at c;show⟨c,d,?_⟩;unfold JB;rw[Qn6 b.2 h3,b.1]
 ·cases e
def Qth(fix:∀t,op t=false->σ t=t)(h:GOk op V g)(ag:Agr σ g):∃g',JQ op g a (Qi9 σ a)=-g'/\Agr σ g':=by
 unfold JQ;rw[Qh ⟨(),by simp[Qi9]⟩];show Qrj fix _ h ag λp b=>Qls p b
theorem BD{as:List At}:∀{l acc:List Gv}{g:Gv},g∈l.foldl (W7 as) acc->g∈acc\/g∈l
 |[],acc,g,h=>.inl h|x::l,acc,g,h=>by
  rcases BD (l:=l) h with h|h
  ·unfold W7 at h;split at h
   ·show .inl h
   ·rcases Qt.mp h with h|h
    ·show .inl h
    ·simp at h;show .inr (h▸Q8)
  ·show .inr (Q7 _ h)
theorem Qb5{as:List At}:∀{l acc:List Gv}{g:Gv},g∈acc->g∈l.foldl (W7 as) acc
 |[],acc,g,h=>h
 |x::l,acc,g,h=>Qb5 (l:=l) (by
  unfold W7;split
  ·show h
  ·show JF _ h)
theorem Qha{as:List At}:∀{l acc:List Gv}{g:Gv},g∈l->∃g'∈l.foldl (W7 as) acc,Y9 as g'=Y9 as g
 |x::l,acc,g,h=>by
  rcases Qe.mp h with rfl|h
  ·by_cases a:Y9 as g∈acc.map (Y9 as)
   ·let⟨g',b,c⟩:=Q4.mp a;show⟨g',Qb5 (l:=l) (by unfold W7;rw[Qh a];show b),c⟩
   ·show⟨g,Qb5 (l:=l) (by unfold W7;rw[Qc a];simp),()⟩
  ·show Qha (l:=l) h
def UX:g'∈WP op Kx a fs↔∃g∈Kx,∃f∈fs,JQ op g a f=-g':=by
 unfold WP
 ext
def Qqb{V':List Str}{a:At}(h1:GOk op V g)(h2:GOk op V' g')(hx:∀x∈V,sub g' x=sub g x)(ha:∀t∈a.ts,op t=true->t∈V):JB g' a=JB g a:=by
 unfold JB;congr 1;show Jb λt c=>?_
 by_cases b:op t=true
 ·show hx t (ha t c b)
 ·let d:t∉g.1:=λz=>by rw[h1.keys]at z;show b (h1.opn _ z)
  let e:t∉g'.1:=λz=>by rw[h2.keys]at z;show b (h2.opn _ z)
  rw[ZS d,ZS e]
theorem Qjj{Ky:List At}:∀(order:List (At×List At)){Kx:List Gv}{V:List Str}{done:List (At×List At)},(∀g∈Kx,GOk op V g)->(∀g∈Kx,∀q∈done,JB g q.1∈q.2)->(∀q∈done,∀t∈q.1.ts,op t=true->t∈V) ->
  ∀g∈Zf op Ky Kx order,∃V',GOk op V' g/\(∀q∈done,JB g q.1∈q.2)/\∀q∈order,JB g q.1∈q.2
 |[],Kx,V,done,d,e,_,g,h=>⟨V,d g h,e g h,λ_ z=>nomatch z⟩| (a,fs)::c,Kx,V,done,d,e,hd,g,h=>by
  let part:∀g1∈WG (WP op Kx a fs) (c.map (·.1)++Ky),GOk op (Y8 op V a.ts) g1/\(∀q∈done,JB g1 q.1∈q.2)/\JB g1 a∈fs:=λg1 i=>by
   rcases BD i with z|z
   ·cases z
   ·let⟨j,k,f,p,r⟩:=UX.mp z;let⟨l,s,u⟩:=U8 (d j k) r;show⟨l,λq b=>by rw[Qqb (d j k) l s (hd q b)];show e j k q b,by rw[u];show p⟩
  let⟨V',i,m,h3⟩:=Qjj (Ky:=Ky) c (Kx:=WG (WP op Kx a fs) (c.map (·.1)++Ky)) (V:=Y8 op V a.ts) (done:=(a,fs)::done) (λg1 z=>(part g1 z).1)
   (λg1 z q b=>by
    rcases Qe.mp b with rfl|b
    ·show(part g1 z).2.2
    ·show(part g1 z).2.1 q b)
   (λq b t n o=>by
    rcases Qe.mp b with rfl|b
    ·show Bg _ n o
    ·show Gk _ (hd q b t n o)) g h
  show⟨V',i,λq b=>m q (Q7 _ b),λq b=>?_⟩;rcases Qe.mp b with rfl|b
  ·show m _ Q8
  ·show h3 q b
def Jbt{f g:Str->Str}:∀{l:List Str},l.map f=l.map g->∀t∈l,f t=g t
 |x::l,h,t,a=>by
  rcases Qe.mp a with rfl|a
  all_goals ext
theorem Qb4{as:List At}:∀(l acc:List Gv),(l.foldl (W7 as) acc).length<=acc.length+l.length
 |[],acc=>by simp|x::l,acc=>by
  let h:=Qb4 (as:=as) l (W7 as acc x);let:(W7 as acc x).length<=acc.length+1:=by
   unfold W7;split<;>simp
  simp only[J3,Qz]
  lia
theorem BP:∀(Kx:List Gv),(WP op Kx a fs).length<=Kx.length*fs.length
 |[]=>by simp[WP]|g::Kx=>by
  let h:=BP (a:=a) (fs:=fs) Kx;let b:(fs.filterMap (JQ op g a)).length<=fs.length:=List.length_filterMap_le _ _;unfold WP at h ⊢;rw[Qo9,QG,Qz,Nat.succ_mul]
  lia
end WY
namespace WY
open PySem RH L2
def Zj(a:At):List D:=.tup [.str a.k]::(a.ts.zipIdx.map λp=>.tup [.str a.k,.int p.2,.str p.1])
noncomputable def Uy(fs:List At)(key:D):List At:=fs.filter λf=>decide (key∈Zj f)
def places(op:Str->Bool)(a:At):List D:=.tup [.str a.k]::((a.ts.zipIdx.filter λp=> !op p.1).map λp=>.tup [.str a.k,.int p.2,.str p.1])
def Qtf:List (List At)->List At
 |[]=>[]|r::rs=>rs.foldl (λb r=>if r.length<b.length then r else b) r
noncomputable def U7(op:Str->Bool)(fs:List At)(a:At)(g:Gv):List At:=Qtf ((places op (JB g a)).map (Uy fs))
def Qte:∀{l:List (List At)},l≠[]->Qtf l∈l
 |[],h=>absurd () h|r::a,_=>by
  let key:∀(a:List (List At))(b:List At)(l:List (List At)),b∈l->(∀x∈a,x∈l)->a.foldl (λb r=>if r.length<b.length then r else b) b∈l:=by
   intro a
   induction a with
   |nil=>intro b l hb _;show hb|cons x a c =>
    intro b l hb hx;show c _ l ?_ λy hy=>hx y (Q7 _ hy)
    change(if x.length<b.length then x else b)∈l;split
    ·show hx x Q8
    ·show hb
  show key a r (r::a) Q8 λx hx=>Q7 _ hx
variable {op:Str->Bool} {V:List Str} {g g':Gv}
def Qpc(h:GOk op V g)(e:JQ op g a f=-g')(hk:key∈places op (JB g a)):key∈Zj f:=by
 let⟨j,o,h3⟩:=U8 h e;subst h3;rcases Qe.mp hk with rfl|hk
 ·show Q8
 ·let⟨⟨t,i⟩,m,rfl⟩:=Q4.mp hk;let⟨c,n⟩:=QS.mp m;show Q7 _ (Q4.mpr ⟨(t,i),?_,()⟩);rw[List.mem_zipIdx_iff_getElem?]at c ⊢;let b:(a.ts.map (sub g))[i]?=some t:=c;change(a.ts.map (sub g'))[i]?=-t;rw[Qd]at b ⊢;cases q:a.ts[i]? with
  |none=>ext|some x =>
   rw[q]at b;let k:=QZ b;change some (sub g' x)=-t;congr 1
   by_cases hx:x∈V
   ·ext
   ·let d:x∉g.1:=by rw[h.keys];show hx
    rw[ZS d]at k;subst k;let l:op x=false:="e"
    show ZS λz=>by rw[j.keys]at z;rw[j.opn _ z]at l;cases l
def Qbs(fs:List At)(a:At)(g:Gv):∃key∈places op (JB g a),U7 op fs a g=Uy fs key:=by
 let h:=Qte (l:=(places op (JB g a)).map (Uy fs)) (by simp[places]);let⟨key,b,c⟩:=Q4.mp h;show⟨key,b,c.symm⟩
def Qkw{a:At}(h:GOk op V g)(fs:List At):(U7 op fs a g).filterMap (JQ op g a)=fs.filterMap (JQ op g a):=by
 let⟨key,b,c⟩:=Qbs (op:=op) fs a g;rw[c];unfold Uy;rw[List.filterMap_filter];let key:∀l:List At,(l.filterMap λx=>if decide (key∈Zj x)=true then JQ op g a x else none)=l.filterMap (JQ op g a):=λl=>by
  induction l with
  |nil=>rfl|cons x l d =>
   rw[W5,W5,d];let e:(if decide (key∈Zj x)=true then JQ op g a x else none)=JQ op g a x:=by
    split
    ·rfl
    ·rename_i f;cases q:JQ op g a x with
     |none=>rfl|some i=>show absurd (Qpc h q b) (by simpa using f)
   rw[e]
 show key fs
def Qt5(h:f∈U7 op fs a g):f∈fs:=by
 let⟨key,c,b⟩:=Qbs fs a g;rw[b]at h;show(QS.mp h).1
end WY
namespace L2
open PySem PySem.Spec PyProof.Rows
section
variable {X:Cx} {H₀:Hp} {τ:List Sl} {ds as bs:List D} {pos:Pos} {m:Bool}
def Qxm(Kr:Nat->List Sl)(hp:PassesOwn (model X.prog X.w) X.A X.env X.xe)(hc:X.calm=true)(hm:X.mg "zip"=none)(h1:PD X (dat τ) e1 (.tup as))(h2:PD X (dat τ) e2 (.tup bs))
  (l1:LFs as=true) (l2:LFs bs=true)
  (h0:Kr 0=τ) (hb:∀(i:Nat)(u v:D),as[i]?=-u->bs[i]?=-v->∃n,QOs X H₀ (((Kr i).set jx (.any u)).set jy (.any v)) body (.next n (Kr (i+1)))/\(m=true->n=true))
  (hN:X.N.Nodup) (hx:X.N[jx]?=some x:=by rfl) (hy:X.N[jy]?=some y:=by rfl) (lx:Loc X.env.scope x:=by first|show QI rfl|show QB ()) (ly:Loc X.env.scope y:=by first|show QI rfl|show QB ())
  (fx:X.fn x=true\/X.env.scope.names.lookup x=some .local:=by first|show .inl rfl|show .inr ()) (fy:X.fn y=true\/X.env.scope.names.lookup y=some .local:=by first|show .inl rfl|show .inr ())
  (hg:Gl X "zip":=by rfl) (hs:starEach [e1,e2] X.env=[(false,eval e1 X.env),(false,eval e2 X.env)]:=by rfl) (hs2:starEach [e2] X.env=[(false,eval e2 X.env)]:=by rfl)
  (hf:∀v,foldedSetIterable (.Call (.Name "zip" ep) [e1,e2] [] cp) X.env v=pure v:=by intro _;rfl) :
  QO X H₀ τ (.For (.Tuple [.Name x px,.Name y py] tk tp) (.Call (.Name "zip" ep) [e1,e2] [] cp) body [] pos) (.next m (Kr (min as.length bs.length))):=by
 let z:PSs X body (λD o H=>∃i u v,as[i]?=-u/\bs[i]?=-v/\rdO X.K H₀ (((Kr i).set jx (.any u)).set jy (.any v)) (.next m (Kr (i+1))) D o H):=λKz s o H D I ⟨i,u,v,hu,hv,q⟩=>by
  let⟨n,hq,hn⟩:=hb i u v hu hv;show hq.pe Kz s o H D I ⟨q.1,λKu H' t=>q.2 Ku H' (t.weak hn)⟩
 show⟨(YO hp hc (Qry hg hm (Vc h1 (Vc h2 Vn hs2) "g").pe hs hs2) (Oo hc (Vh (JR hN hx lx fx) (Vh (JR hN hy ly fy) Gw))) z hf).imp λD o H q=>?_⟩;show⟨q.1.env,λvs H2 s2 ia=>?_⟩;let⟨v1,v2,rfl,iv1,iv2⟩:=ia.two;let⟨p1,a,rfl,c,f⟩:=JS iv1;let⟨p2,b,rfl,d,g⟩:=JS iv2;let e1:=f.length;let e2:=g.length;show⟨p1,p2,(),⟨a,c⟩,⟨b,d⟩,λi k Ku H'=>i<=min as.length bs.length/\k=min as.length bs.length-i/\EnvO X.K H₀ H' Ku (Kr i)/\Rl m H H'/\TSame H2 H',⟨min as.length bs.length,QJ _,(),by rw[h0];show q.1.step s2,.of s2,TSame.refl _⟩,?_⟩;rintro i k Ku H' ⟨hi,rfl,he,h,st⟩
 by_cases Kt:i<min as.length bs.length
 ·show .inr ⟨⟨a,b,a[i]'"l",b[i]'"l",st.sqT c,st.sqT d,"s","s"⟩,λj H3=>EnvO X.K H₀ H3 j (Kr (i+1))/\Rl m H' H3,λj H3 ⟨he2,l⟩=>⟨min as.length bs.length-(i+1),"l",Kt,(),he2,?_,st.trans l.t⟩,λv H3 yl=>?_⟩
  ·let:=h.trans l
   ext
  let⟨p,u,w,rfl,np,rfl,hu,hw⟩:=yl;let⟨du,hdu,idu⟩:=(f.tsame st l1).at (hu a (st.sqT c));let⟨dw,hdw,idw⟩:=(g.tsame st l2).at (hw b (st.sqT d));let r:Same H' (upd H' p (.tup [u,w])):=Same.upd np;show⟨p,[u,w],(),.inl (.inl Vu),(),u,[w],(),w,[],(),(),i,du,dw,hdu,hdw,?_,λσ3 H4 t3 he3=>⟨he3,?_⟩⟩
  ·show((he.step r).set (s:=.any du) jx ⟨u,(),idu.same r⟩ λKq e=>nomatch e).set jy ⟨w,(),idw.same r⟩ λKq e=>nomatch e
  ·let:=(Rl.of (m:=m) r).trans t3
   ext
 ·let e:i=min as.length bs.length:="l"
  subst e;show .inl ⟨⟨a,b,st.sqT c,st.sqT d,"l"⟩,q.2 Ku H' h he⟩
def Qsz{x y:Str}{tk:Nat}(Kr:Nat->List Sl)(i0:Nat){u0 v0:D}{d:D}(hu0:as[i0]?=-u0)(hv0:bs[i0]?=-v0)(hp:PassesOwn (model X.prog X.w) X.A X.env X.xe)(hc:X.calm=true)(hm:X.mg "zip"=none)(h1:PD X (dat τ) e1 (.tup as))(h2:PD X (dat τ) e2 (.tup bs))
  (l1:LFs as=true) (l2:LFs bs=true)
  (h0:Kr 0=τ) (hb:∀(i:Nat)(u v:D),i<i0->as[i]?=-u->bs[i]?=-v->∃n,QOs X H₀ (((Kr i).set jx (.any u)).set jy (.any v)) body (.next n (Kr (i+1)))/\(m=true->n=true)) (hret:QOs X H₀ (((Kr i0).set jx (.any u0)).set jy (.any v0)) body (.ret d))
  (hN:X.N.Nodup) (hx:X.N[jx]?=some x:=by rfl) (hy:X.N[jy]?=some y:=by rfl) (lx:Loc X.env.scope x:=by first|show QI rfl|show QB ()) (ly:Loc X.env.scope y:=by first|show QI rfl|show QB ())
  (fx:X.fn x=true\/X.env.scope.names.lookup x=some .local:=by first|show .inl rfl|show .inr ()) (fy:X.fn y=true\/X.env.scope.names.lookup y=some .local:=by first|show .inl rfl|show .inr ())
  (hg:Gl X "zip":=by rfl) (hs:starEach [e1,e2] X.env=[(false,eval e1 X.env),(false,eval e2 X.env)]:=by rfl) (hs2:starEach [e2] X.env=[(false,eval e2 X.env)]:=by rfl)
  (hf:∀v,foldedSetIterable (.Call (.Name "zip" ep) [e1,e2] [] cp) X.env v=pure v:=by intro _;rfl) :
  QO X H₀ τ (.For (.Tuple [.Name x px,.Name y py] tk tp) (.Call (.Name "zip" ep) [e1,e2] [] cp) body [] pos) (.ret d):=by
 let hb':PSs X body (λD σ H=>(∃i u v,i<i0/\as[i]?=-u/\bs[i]?=-v/\rdO X.K H₀ (((Kr i).set jx (.any u)).set jy (.any v)) (.next m (Kr (i+1))) D σ H)\/rdO X.K H₀ (((Kr i0).set jx (.any u0)).set jy (.any v0)) (.ret d) D σ H):=λKz s σ H D I q=>by
  rcases q with⟨i,u,v,Kt,hu,hv,q⟩|q
  ·let⟨n,hq,hn⟩:=hb i u v Kt hu hv;show hq.pe Kz s σ H D I ⟨q.1,λKu H' t=>q.2 Ku H' (t.weak hn)⟩
  ·show hret.pe Kz s σ H D I q
 let hl0:=(Q3.mp hu0).1;let hl1:=(Q3.mp hv0).1;show⟨(YO hp hc (Qry hg hm (Vc h1 (Vc h2 Vn hs2) "g").pe hs hs2) (Oo (n:=2) hc (Vh (JR (i:=jx) hN hx lx fx) (Vh (JR (i:=jy) hN hy ly fy) Gw))) hb' hf).imp λD σ H q=>?_⟩;show⟨q.1.env,λvs H2 s2 ia=>?_⟩;let⟨v1,v2,rfl,iv1,iv2⟩:=ia.two;let⟨p1,a,rfl,c,l⟩:=JS iv1;let⟨p2,b,rfl,f,o⟩:=JS iv2;let e1:=l.length;let e2:=o.length;show⟨p1,p2,(),⟨a,c⟩,⟨b,f⟩,λi k Ku H'=>i<=i0/\k=i0-i/\EnvO X.K H₀ H' Ku (Kr i)/\Rl m H H'/\TSame H2 H',⟨i0,QJ _,(),by rw[h0];show q.1.step s2,.of s2,TSame.refl _⟩,?_⟩;rintro i k Ku H' ⟨hi,rfl,he,hm',st⟩
 by_cases Kt:i<i0
 ·show .inr ⟨⟨a,b,a[i]'"l",b[i]'"l",st.sqT c,st.sqT f,"s","s"⟩,λσ2 H3=>EnvO X.K H₀ H3 σ2 (Kr (i+1))/\Rl m H' H3,λσ2 H3 ⟨he2,hm2⟩=>⟨i0-(i+1),"l",Kt,(),he2,?_,st.trans hm2.t⟩,λv H3 yl=>?_⟩
  ·let:=hm'.trans hm2
   ext
  let⟨p,u,w,rfl,np,rfl,hu,hw⟩:=yl;let⟨du,g,r⟩:=(l.tsame st l1).at (hu a (st.sqT c));let⟨dw,h,idw⟩:=(o.tsame st l2).at (hw b (st.sqT f));let j:Same H' (upd H' p (.tup [u,w])):=Same.upd np;show⟨p,[u,w],(),.inl (.inl Vu),(),u,[w],(),w,[],(),(),.inl ⟨i,du,dw,Kt,g,h,?_,λσ3 H4 t3 he3=>⟨he3,?_⟩⟩⟩
  ·show((he.step j).set (s:=.any du) jx ⟨u,(),r.same j⟩ λKq e=>nomatch e).set jy ⟨w,(),idw.same j⟩ λKq e=>nomatch e
  ·let:=(Rl.of (m:=m) j).trans t3
   ext
 ·let e0:i=i0:="l"
  subst e0;show .inr ⟨⟨a,b,a[i]'"l",b[i]'"l",st.sqT c,st.sqT f,"s","s"⟩,λ_ _=>False,λ_ _ z=>z.elim,λv H3 yl=>?_⟩;let⟨p,u,w,rfl,np,rfl,hu,hw⟩:=yl;let⟨du,g,r⟩:=(l.tsame st l1).at (hu a (st.sqT c));let⟨dw,h,idw⟩:=(o.tsame st l2).at (hw b (st.sqT f));rw[hu0]at g;cases g;rw[hv0]at h;cases h;let j:Same H' (upd H' p (.tup [u,w])):=Same.upd np;show⟨p,[u,w],(),.inl (.inl Vu),(),u,[w],(),w,[],(),(),.inr ⟨?_,q.2⟩⟩;show((he.step j).set (s:=.any u0) jx ⟨u,(),r.same j⟩ λKq e=>nomatch e).set jy ⟨w,(),idw.same j⟩ λKq e=>nomatch e
end
def Qes{k:Key}(h:valueAt vs k=none):vs.any (λkv=>decide (kv.1=k))=false:=by
 unfold valueAt at h
 ext;omega
section
variable {X:Cx} {H₀:Hp} {τ:List Sl} {pos:Pos}
def Jdk:V->List V->Hp->VK->Prop:=λx xs H Q=>∃(a:Addr)(Kv:List (Key×V))(k w:Str),x=.ref a/\xs=[.str k,.str w]/\H a=-(.dK Kv)/\Kv.length<sizeLine /\
 (∀v,UK Kv (.inr k)=-v->Q v H)/\(UK Kv (.inr k)=none->Q (.str w) (upd H a (.dK (Kv++[(.inr k,.str w)]))))
def Qxu:MtR X "dict.setdefault" Jdk:=by
 intro Kz s σ H x xs v us Q I y rs h;let⟨a,Kv,k,w,rfl,rfl,ha,hl,q1,q2⟩:=h;cases((y));let⟨u,u',rfl,ru,j⟩:=rs.two;let⟨t,e⟩:=((ru));subst e;let⟨l,e⟩:=((j));subst e;let⟨z,hd,m,f,p⟩:=Quh I.hok ha;let Ks:=f.length;let d:=f.val (.inr k);show UC Wr p.typeIs Qvk (Qqc _ _ _) (kt_meets_setdefault (JI X.prog X.w) a (UW X.prog X.w k t) hd (.str w l)) ⟨m,p,"l",λw' hw=>?_,λr h' g sb=>?_⟩
 ·rw[hw]at d;cases i:UK Kv (.inr k)with
  |none=>rw[i]at d;show d.elim|some c =>
   rw[i]at d;show⟨c,H,I.tok _,d,q1 c i⟩
 ·rw[r]at d;cases i:UK Kv (.inr k)with
  |some c=>rw[i]at d;show d.elim|none =>
   let es:stored m (.inr k) (.str w l)=m++[(.inr k,.str w l)]:=by
    unfold stored;rw[Qc];intro z;rw[Qes r]at z;cases z
   rw[es]at g;let n:∃q,h'.get? a=some q:=let⟨q,_,_,hq,_⟩:=g;⟨q,hq⟩;show⟨.str w,_,I.write (x:=a) (e:=a) (o:=.dK (Kv++[(.inr k,.str w)])) (by rw[ha];show QA) (.inl ()) (λb q hb z=>(sb.2 b hb).trans z) n ⟨?_,hd,_,?_,g⟩,⟨_,()⟩,q2 i⟩
   ·grind
   ·show Qy1 f ⟨_,()⟩
variable {e1 ek ew ew':Expr} {x:Str} {p ap cp p3 p4:Pos} {A:List Stmt} {c1:Bool} {i:Nat} {ks vs:List Str} {k w:Str} {d:D}
def Qod(h:ks.length=us.length)(k:Str)(v:V):Wt (ks++[k]) (us++[v])=Wt ks us++[(.inr k,v)]:=by
 unfold Wt;rw[Qcu h,J1];rfl
def Qr5{K:W.Frag}(h:Va K H (vs.map .str) us):us=vs.map V.str:=by
 induction vs generalizing us with
 |nil=>rw[h];rfl|cons v vs a =>
  let⟨u,r,rfl,b,c⟩:=h;rw[W9 b,a c];rfl
end
end L2
namespace K07
open PySem L2 RH
def Qr(x:Str):Bool:=Txt.isupper (Txt.slice x none (-1))
def Ys(a:RH.At):LF a.d=true:=by
 simp only[RH.At.d,LF,LFs,Bool.and_true,Bool.true_and];show JJ (λ_=>W4) _
def Uw(a:RH.At):XKey a.d:=⟨by simp[RH.At.d,keyOk,keyOks,Qm6],Qx (Qco a) "d",_,()⟩
section
variable {P:Program} {w:World} {K:W.Frag} {mg:Str->Option Value} {base:Heap}
def ROpen:List D->D->Prop:=λds d=>∃x:Str,ds=[.str x]/\x.length<=1000/\d=.bl (Qr x)
def Jaf:Vf ["term"] ["term"] (Vs Qmh):=⟨(),(),(),"e",(),"k","k"⟩
def Qxc(F:Fd K mg "is_open" Qmh ["term"]):PrD P w K mg base "is_open" 1 ["term"] ROpen:=by
 show UF (N:=["term"]) F Jaf (Q5 _) λf Kn A outer s H E b d c a _=>?_
 let⟨x,rfl,hx,rfl⟩:=a;show Vz (Z1 (Jcf (Qul (Vv 0 ()) (Vl "l") Qno (GE Vi))))
def gvD(g:WY.Gv)(fz:Bool):D:=.dct fz (g.1.map .str) (g.2.map .str)
def RFilled:List D->D->Prop:=λds d=>∃(a:RH.At)(g:WY.Gv)(fz:Bool),ds=[a.d,gvD g fz]/\g.1.length=g.2.length/\a.ts.length<=1000/\d=(WY.JB g a).d
abbrev BO:List Str:=["atom", "words"]
def Jah:Vf BO BO (Vs Qao):=⟨(),(),(),"k",(),"k","k"⟩
def UL:D->Str|.str x=>x|_=> ""
def Jch{X:Cx}{ρ:List (Option D)}{a b f:Expr}{ap cp:Pos}{ks vs:List Str}{fz:Bool}{t:Str}(hu:X.A.units+1<cLine)(hl:ks.length=vs.length)(ha:PD X ρ a (.dct fz (ks.map .str) (vs.map .str)))(hb:PD X ρ b (.str t))(hf:PD X ρ f (.str t))(m:M2 X a "get" ap b f cp:=by show⟨(),(),(),()⟩):
  PD X ρ (.Call (.Attribute a "get" ap) [b,f] [] cp) (.str (WY.subst ks vs t)):=by
 by_cases h:t∈ks
 ·let hi:ks.idxOf t<ks.length:=List.idxOf_lt_length_iff.mpr h;let e:WY.subst ks vs t=vs[ks.idxOf t]'"l":=by
   unfold WY.subst;rw[Qh h,Qi,Qa "l"];rfl
  rw[e];show Qee (i:=ks.idxOf t) hu ha hb hf (by rw[Qa hi,Yj hi]) (by rw[Qd,Qa "l"];rfl) m
 ·let e:WY.subst ks vs t=t:=Qc h;rw[e];show Qiv hu ha hb hf h m
def Qp2(T:Txt K mg)(F:Fd K mg "filled" Qao BO):PrD P w K mg base "filled" 1 BO RFilled:=by
 show UF F Jah (Q5 _) λf Kn A outer s H E i d b c _=>?_
 let⟨a,g,fz,rfl,hl,j,rfl⟩:=c;let h:=Qne b;let e:(WY.JB g a).d=.tup [.str a.k,.tup ((a.ts.map D.str).map λd=>.str (WY.subst g.1 g.2 (UL d)))]:=by
  simp[RH.At.d,WY.JB,QL,Ju,UL]
 rw[e];show Vz (Z1 (Vp (Vc (JW (Vv 0 ()) Vi at0) (Vc (W2 T.bTup (PDL.pd (Zu () (OM (JW (Vv 0 ()) Vi at1)) (Vl "g") λd hd cl C s H ex=>?_)) (.inl ())) Vn)) (Vl "s")));let⟨t,_,rfl⟩:=Q4.mp hd;show Jch h hl (Vv 2 ()) (Vv 0 ()) (Vv 0 ())
def mkS(m:Bool):Str:=if m then "yes" else "no"
def ZC(r:Ru)(m:Bool):List RH.At:=(r.b.filter λl=>l.y==m).map (·.a)
def RMark:List D->List D->Prop:=λds es=>∃(r:Ru)(m:Bool),ds=[r.d,.str (mkS m)]/\r.b.length<=1000/\es=(ZC r m).map RH.At.d
abbrev OV:List Str:=["rule", "mark"]
def Jag:Vf OV OV (Vs Qaj):=⟨(),(),(),"k",(),"k","k"⟩
def Je9(m:Bool):D->Bool|.tup (.str x::_)=>decide (x=mkS m)|_=>false
def Jfc:D->D|.tup [_,b]=>b|d=>d
def Qxe(F:Fd K mg "marked_atoms" Qaj OV):PrL P w K mg base "marked_atoms" 1 OV RMark:=by
 show Qbj F Jag (Q5 _) λf Kn A outer s H E h i j c _=>?_
 let⟨r,m,rfl,hb,rfl⟩:=c;let e:(ZC r m).map RH.At.d=((r.b.map Li.d).filter (Je9 m)).map Jfc:=by
  unfold ZC
  induction r.b with
  |nil=>rfl|cons l b a =>
   let g:Je9 m l.d=(l.y==m):=by
    change decide ((if l.y then "yes" else "no":Str)=mkS m)=_;cases l.y<;>cases m<;>decide
   rw[Qw,Z7,Z7,g];split
   ·simp only[Qw,a];rfl
   ·show a
 rw[e];show Vz (UV (Qgj () (OM (JW (Vv 0 ()) Vi at1)) (Vl "g") (λd hd cl C s H ex=>?_) (λd hd _ cl C s H ex=>?_)))
 ·let⟨l,_,rfl⟩:=Q4.mp hd;show Qr0 (Jeu (JW (Vv 0 ()) Vi at0) (Vv 2 ()))
 ·let⟨l,_,rfl⟩:=Q4.mp hd;show JW (Vv 0 ()) Vi at1
end
end K07
namespace K07
open PySem L2 RH WY
def lt15(h:n+22<cLine):n+15<cLine:="l"
noncomputable def Qjn(a:RH.At)(q:List D×List (List D)):List D×List (List D):=(Zj a).foldl (L2.W0 a.d) q
def Bd(n:Nat)(q:List D×List (List D)):Prop:=q.1.length<=n/\∀r∈q.2,r.length<=n
def Bd.step{n:Nat}{q:List D×List (List D)}(h:Bd n q)(f k:D):Bd (n+1) (L2.W0 f q k):=by
 unfold L2.W0;split
 ·show⟨Qo7 h.1,λr a=>?_⟩;let⟨i,hi⟩:=QP.mp a;rw[ZH]at hi;cases e:q.2[i]? with
  |none=>rw[e]at hi;simp at hi|some b =>
   let:=h.2 b (Q6 e);rw[e]at hi;let c:(if List.idxOf k q.1=i then b++[f]else b)=r:=by simpa using hi
   rw[<-c];split
   ·rw[QG];change b.length+1<=n+1
    lia
   ·lia
 ·show⟨by let:=h.1;simp;lia,λr a=>?_⟩;rcases Qt.mp a with a|a
  ·show Qo7 (h.2 r a)
  ·simp at a;subst a
   simp
theorem Bd.run:∀(l:List D){n:Nat}{q:List D×List (List D)},Bd n q->Bd (n+l.length) (l.foldl (L2.W0 f) q)
 |[],n,q,h=>h|k::l,n,q,h=>by
  let:=Bd.run (f:=f) l (h.step f k)
  grind
def Bd.mono(h:Bd m q)(e:m<=n):Bd n q:=⟨Qx h.1 e,λr a=>Qx (h.2 r a) e⟩
def OD(a:RH.At):(Zj a).length=a.ts.length+1:=by simp[Zj]
def OE(a:RH.At)(h:k∈Zj a):XKey k:=by
 rcases Qe.mp h with rfl|h
 ·show⟨by rfl,by simp[dep,deps],_,()⟩
 ·let⟨p,_,rfl⟩:=Q4.mp h;show⟨by rfl,by simp[dep,deps],_,()⟩
section
variable {P:Program} {w:World} {K:W.Frag} {mg:Str->Option Value} {base:Heap} {C:Addr}
structure ShC(K:W.Frag)(mg:Str->Option Value)(C:Addr):Prop where
 mgC:mg "Shelf"=-(.ref C)
 cl:Cls K C
 nT:NoAttr K C "there"
 nR:NoAttr K C "rows"
def FdM(K:W.Frag)(C:Addr)(m qual:Str)(st:Stmt)(ps:List Str):Prop:=∃f fd,Meth K C m f/\Fun K m qual st f fd/\Binds K fd ps []
def Qra(w:World)(K:W.Frag)(C:Addr):Sp:=λvs H Q _=>∃(p t r:Addr)(th:List D)(as:List Addr)(ks:List D)(bs ls:List Addr)(rs:List (List D))(a:RH.At)(f:V),vs=[.ref p,f]/\Sh w K C H p t r th as ks bs ls rs/\Is K H a.d f/\a.ts.length<=3/\th.length<10000/\Bd 10000 (ks,rs) /\
 ∀H' as' bs' ls',Sh w K C H' p t r (JY th a.d) as' (Qjn a (ks,rs)).1 bs' ls' (Qjn a (ks,rs)).2->ShK H H' t r ls ls'->Q .non H'
abbrev Qoy:List Str:=["self", "fact"]
abbrev Je3:List Str:=["self", "fact", "place", "word"]
def Qz1:Vf Je3 Qoy (Vs Qho):=⟨(),(),(),"k",(),"k","k"⟩
def env1{H:Hp}{σ:St}{f:V}{d:D}(hl:σ.length=4)(h1:σ[1]?=-(-f))(i:Is K H d f):EnvIs K H σ [none,-d,none,none]:=by
 show⟨hl,λj e a=>?_⟩
 match j,a with
 |0,a=>simp at a|1,a =>
  simp at a;subst a;show⟨f,h1,i⟩
 |2,a=>simp at a|3,a=>simp at a|j+4,a=>simp at a
def env3{σ:St}(hl:σ.length=4)(h1:σ[1]?=-(-f))(i:Is K H d f):EnvIs K H ((σ.set 2 (-(.int n))).set 3 (-(.str t))) [none,-d,-(.int n),-(.str t)]:=by
 let e:=((env1 hl h1 i).set 2 (Y4 n)).set 3 (ZL t);show e
def Yl{α:Type}{l:List α}{x:α}(h:l[i]?=-x):l.take (i+1)=l.take i++[x]:=by
 rw[Jr,h];rfl
def Jbh(T:Txt K mg)(Z:ShC K mg C)(F:FdM K C "add" "Shelf.add" Qho Qoy):Mt P w K mg base C "add" 1 Qoy (Qra w K C):=by
 let⟨fa,fda,hm,hf,hbi⟩:=F;show⟨fa,fda,hm,hbi,hf.ok Qz1 (λvs H Q E h=>?_) λKn A outer s H vs Q E hr h=>?_⟩
 ·let⟨_,_,_,_,_,_,_,_,_,_,_,rfl,_⟩:=h;rfl
 let⟨p,t,r,th,as,k,bs,ls,l,a,f,rfl,S,ia,ha,nt,bd,go⟩:=h;let hu:(ON CX0 P w K mg base Je3 "Shelf.add" (Vs Qho) fa Kn A outer s H E).nox.A.units+15<cLine:=lt15 (hu22 hr);let v:∀(i:Nat)(x:Str),a.ts[i]?=-x->(Zj a)[i+1]?=-(.tup [.str a.k,.int i,.str x]):=λi x hx=>by
  unfold Zj;simp[Qd,hx]
 letI m:Nat->List D×List (List D):=λi=>((Zj a).take (i+1)).foldl (L2.W0 a.d) (k,l)
 let q0:m 0=L2.W0 a.d (k,l) (.tup [.str a.k]):=rfl;let qn:∀(i:Nat)(x:Str),a.ts[i]?=-x->m (i+1)=L2.W0 a.d (m i) (.tup [.str a.k,.int i,.str x]):=λi x hx=>by
  change((Zj a).take (i+1+1)).foldl (L2.W0 a.d) (k,l)=_;rw[Yl (v i x hx),Zy];rfl
 let qe:m a.ts.length=Qjn a (k,l):=by
  change((Zj a).take (a.ts.length+1)).foldl (L2.W0 a.d) (k,l)=_;rw[<-OD,QY];rfl
 let qb:∀i,i<=a.ts.length->Bd 10004 (m i):=λi hi=>(bd.run (f:=a.d) ((Zj a).take (i+1))).mono (by rw[Z6,OD];lia)
 let k0:XKey (.tup [.str a.k]):=OE a Q8;show⟨_,ZX (Qmt hu (Qs6 (pv 0) ()) (pv 1) Qz8 ()) (ZX (Qrs (ρ:=[none,-a.d,none,none]) (key:=.tup [.str a.k]) hu (Vp (Vc (JW (da:=.tup [.str a.k,.tup (a.ts.map .str)]) (Vv 1 ()) Vi at0) Vn) (Vl "s")))
  (Uk (Qwn (ρ:=[none,-a.d,none,none]) (ds:=a.ts.map .str) (tb:=λD Ku H'=>∃(i:Nat)(x:Str),EnvIs K H' Ku [none,-a.d,-(.int i),-(.str x)] /\
   ∃(C p t r:Addr)(th:List L2.D)(as:List Addr)(k:List L2.D)(bs ls:List Addr)(l:List (List L2.D))(f:V)(fd:L2.D),Ku[0]?=-(-(.ref p))/\Ku[1]?=-(-f)/\Cls K C/\NoAttr K C "rows" /\Sh w K C H' p t r th as k bs ls l/\Is K H' fd f/\LF fd=true/\XKey (.tup [.str a.k,.int i,.str x]) /\
    k.length<100000/\(∀r∈l,r.length<100000)/\∀H'' j c,Sh w K C H'' p t r th as (L2.W0 fd (k,l) (.tup [.str a.k,.int i,.str x])).1 j c (L2.W0 fd (k,l) (.tup [.str a.k,.int i,.str x])).2->ShK H' H'' t r ls c->D.nx Ku H'')
   2 3 QF () T.bEnu (JW (da:=.tup [.str a.k,.tup (a.ts.map .str)]) (Vv 1 ()) Vi at1) (JJ (λ_=>W4) _) ?_ Qz1.nd))),?_⟩
 ·show λKz s' Ku H' D I ⟨i,x,q⟩=>Uk (Qrs (ρ:=[none,-a.d,-(.int i),-(.str x)]) (key:=.tup [.str a.k,.int i,.str x]) hu (Vp (Vc (JW (da:=.tup [.str a.k,.tup (a.ts.map .str)]) (Vv 1 ()) Vi at0) (Vc (Vv 2 ()) (Vc (Vv 3 ()) Vn))) (Vl "s"))) Kz s' Ku H' D I q
 let⟨dx,ei⟩:=S.ins;let⟨y,rfl⟩:=Is.key_ref (Uw a) ia;show⟨_,(),p,C,dx,_,.ref t,(),ei,Z.cl,Z.nT,(),_,(),t,y,th,as,_,a.d,(),(),⟨S.thA,S.thN,S.thO,S.thI,?_⟩,Uw a,ia,λH1 g=>?_⟩
 ·let:(10000:Nat)<=sizeLine:=by rw[QR];decide
  lia
 let⟨n,S1,K1⟩:=S.put (Uw a) ia g;let z:Is K H1 a.d (.ref y):=ia.tsame K1.ts (Ys a);show⟨env1 () () z,C,p,t,r,_,n,k,bs,ls,l,.ref y,a.d,(),(),Z.cl,Z.nR,S1,z,Ys a,k0,?_,?_,λH2 bs2 ls2 S2 K2=>?_⟩
 ·let:k.length<=10000:=bd.1
  lia
 ·show λr hr=>by let:=bd.2 r hr;lia
 let ia2:Is K H2 a.d (.ref y):=z.tsame K2.ts (Ys a);show⟨env1 () () ia2,λH3 s3=>⟨λi Ku H'=>i<=a.ts.length/\Ku.length=4/\Ku[0]?=-(-(.ref p))/\Ku[1]?=-(-(.ref y))/\TSame H3 H'/\∃j c,Sh w K C H' p t r (JY th a.d) n (m i).1 j c (m i).2/\ShK H H' t r ls c,?_,?_,?_,?_⟩⟩
 ·show⟨QJ _,(),(),(),TSame.refl _,bs2,ls2,S2.same s3,?_⟩;let KK:=K1.trans K2;show⟨λb o e h1 h2 h3=>s3 _ _ (KK.keep b o e h1 h2 h3),KK.news,KK.ts.trans s3.t,let⟨u,e⟩:=KK.tt;⟨u,s3 _ _ e⟩,let⟨u,e⟩:=KK.rr;⟨u,s3 _ _ e⟩⟩
 ·show λi Ku H' h=>h.2.2.2.2.1
 ·rintro i d u Ku H' pp hd ⟨hi,hl,h0,h1,ht,j,c,S',K'⟩ np iu;rw[Qd]at hd;cases hx:a.ts[i]? with
  |none=>rw[hx]at hd;cases hd
  |some x =>
   rw[hx]at hd;cases hd;cases W9 iu;let sp:Same H' (upd H' pp (.tup [.int i,.str x])):=Same.upd np;let ia3:Is K H' a.d (.ref y):=(ia2.same s3).tsame ht (Ys a);let Kt:=(Q3.mp hx).1;show⟨i,x,env3 hl h1 (ia3.same sp),C,p,t,r,_,n,(m i).1,j,c,(m i).2,.ref y,a.d,?_,?_,Z.cl,Z.nR,S'.same sp,ia3.same sp,Ys a,OE a (Q6 (v i x hx)),?_,?_,λH'' bs'' ls'' S'' K''=>?_⟩
   ·rw[Qg "d",Qg "d"];show h0
   ·rw[Qg "d",Qg "d"];show h1
   ·let:=(qb i hi).1;lia
   ·show λr hr=>by let:=(qb i hi).2 r hr;lia
   show⟨Kt,by simp[hl],?_,?_,ht.trans (sp.t.trans K''.ts),bs'',ls'',?_,K'.trans (K''.pre sp)⟩
   ·rw[Qg "d",Qg "d"];show h0
   ·rw[Qg "d",Qg "d"];show h1
   ·rw[qn i x hx];show S''
 ·rintro Ku H' ⟨_,_,_,_,_,j,c,S',K'⟩;rw[Qb,qe]at S';show go H' n j c S' K'
end
noncomputable def shS(q:List D×List D×List (List D))(a:RH.At):List D×List D×List (List D):=(JY q.1 a.d,Qjn a q.2)
noncomputable def shA(as:List RH.At):List D×List D×List (List D):=as.foldl shS ([],[],[])
def Qhl{as:List RH.At}(h:as[i]?=-a):shA (as.take (i+1))=shS (shA (as.take i)) a:=by
 unfold shA;rw[Yl h,Zy];rfl
theorem Qmb:∀(as:List RH.At){q:List D×List D×List (List D)}{n:Nat},(∀a∈as,a.ts.length<=3)->q.1.length<=n->Bd (4*n) q.2->(as.foldl shS q).1.length<=n+as.length/\Bd (4*(n+as.length)) (as.foldl shS q).2
 |[],q,n,_,d,c=>⟨d,c⟩|a::as,q,n,ha,d,c=>by
  let e:(shS q a).1.length<=n+1:=by
   change(JY q.1 a.d).length<=n+1;unfold JY;split
   ·lia
   ·simp;lia
  let g:Bd (4*(n+1)) (shS q a).2:=by
   let h3:=ha a Q8;show(c.run (f:=a.d) (Zj a)).mono (by rw[OD];lia)
  let:=Qmb as (λb hb=>ha b (Q7 _ hb)) e g;rw[Qz,show n+(as.length+1)=n+1+as.length by lia];show this
def Jab{as:List RH.At}(ha:∀a∈as,a.ts.length<=3)(i:Nat):(shA (as.take i)).1.length<=as.length/\Bd (4*as.length) (shA (as.take i)).2:=by
 let h:=Qmb (as.take i) (q:=([],[],[])) (n:=0) (λa h=>ha a (Ji h)) (Q5 _) ⟨Q5 _,λr b=>nomatch b⟩;let hl:(as.take i).length<=as.length:="g"
 show⟨Qx h.1 "l",h.2.mono "l"⟩
section
variable {P:Program} {w:World} {K:W.Frag} {mg:Str->Option Value} {base:Heap} {C:Addr}
def Seq(K:W.Frag)(H:Hp)(ds:List D)(v:V):Prop:=Is K H (.lst ds) v\/Is K H (.tup ds) v
def Qkb(w:World)(K:W.Frag)(C:Addr):Sp:=λvs H Q _=>∃(p dx:Addr)(as:List RH.At)(f:V),vs=[.ref p,f]/\H p=-(.ins C dx [])/\Seq K H (as.map RH.At.d) f/\as.length<=1000/\(∀a∈as,a.ts.length<=3) /\
 ∀H' t r aa bs ls,Sh w K C H' p t r (shA as).1 aa (shA as).2.1 bs ls (shA as).2.2->(∀b o,H b=-o->b≠p->H' b=-o)->H t=none->H r=none->(∀l∈ls,H l=none)->Q .non H'
abbrev Qbo:List Str:=["self", "facts"]
abbrev Je1:List Str:=["self", "facts", "fact"]
def Qkh:Vf Je1 Qbo (Vs Qbh):=⟨(),(),(),"k",(),"k","k"⟩
def FdC(K:W.Frag)(C:Addr)(qual:Str)(st:Stmt)(ps:List Str):Prop:=∃f fd,Mk K C f/\Fun K "__init__" qual st f fd/\Binds K fd ps []
def MkC(P:Program)(w:World)(K:W.Frag)(mg:Str->Option Value)(base:Heap)(C:Addr)(k:Nat)(ps:List Str)(sp:Sp):Prop:=∃f fd,Mk K C f/\Binds K fd ps []/\FnOk P w K mg base CX0 k f fd ps sp
def Qrq(t r:Addr):Uj "rows" (.ref r) (Uj "there" (.ref t) [])=[(("there":Str),V.ref t),("rows",.ref r)]:=()
def Qxh(T:Txt K mg)(Z:ShC K mg C)(F:FdC K C "Shelf.__init__" Qbh Qbo)(GA:Mt P w K mg base C "add" 1 Qoy (Qra w K C)):MkC P w K mg base C 2 Qbo (Qkb w K C):=by
 let⟨fi,fdi,hmk,hf,hbi⟩:=F;let⟨fa,fda,hma,hba,FA⟩:=GA;show⟨fi,fdi,hmk,hbi,hf.ok Qkh (λvs H Q E h=>?_) λKn A outer s H vs Q E hr h=>?_⟩
 ·let⟨_,_,_,_,rfl,_⟩:=h;rfl
 let⟨p,dx,y,f,rfl,hp,hq,hl,ha,go⟩:=h;let main:∀(H3:Hp)(t r:Addr)(xs:List V),Sh w K C H3 p t r [] [] [] [] [] []->(∀b o,H b=-o->b≠p->H3 b=-o)->H t=none->H r=none->(∀b,H3 b=none->H b=none)->Va K H3 (y.map RH.At.d) xs ->
   ∃Pv:Nat->St->Hp->Prop,Pv 0 [-(.ref p),-f,none] H3/\(∀i Ku H',Pv i Ku H'->∃ls',ShK H3 H' t r [] ls') /\
    (∀(i:Nat)(x:V)(Ku:St)(H':Hp)(N:St->Hp->Prop),xs[i]?=-x->Pv i Ku H'->(∀H2,Pv (i+1) (Ku.set 2 (-x)) H2->N (Ku.set 2 (-x)) H2) ->
     Qyy C "add" (Qra w K C) [] E0 (Qb6 0) (Qm3 (Qb6 2) Qw3) (Ku.set 2 (-x)) H' λ_ H2=>N (Ku.set 2 (-x)) H2)/\(∀Ku H',Pv xs.length Ku H'->Q .non H'):=by
  intro H3 t r xs S0 keep g c fresh ix;let hxl:y.length=xs.length:=by let:=ix.length;ext
  show⟨λi Ku H'=>Ku.length=3/\Ku[0]?=-(-(.ref p))/\∃aa bs ls,Sh w K C H' p t r (shA (y.take i)).1 aa (shA (y.take i)).2.1 bs ls (shA (y.take i)).2.2/\ShK H3 H' t r [] ls,⟨(),(),[],[],[],S0,ShK.refl S0⟩,λi Ku H' h=>?_,λi x Ku H' N hx h hn=>?_,λKu H' h=>?_⟩
  ·grind
  ·let⟨h1,h2,aa,bs,ls,S,k⟩:=h;let Kt:=(Q3.mp hx).1;obtain⟨a,hai⟩:∃a,y[i]?=some a:=⟨_,Qa "l"⟩;let j:LFs (y.map RH.At.d)=true:=JJ Ys _;let⟨d,hd,id⟩:=(ix.tsame k.ts j).at hx;rw[Qd,hai]at hd;cases hd;let⟨dx',ei⟩:=S.ins;let⟨b1,b2⟩:=Jab ha i;show⟨.ref p,?_,p,dx',_,(),ei,(),x,?_,p,t,r,_,aa,_,bs,ls,_,a,x,(),S,id,ha a (Q6 hai),"l",b2.mono "l",λH2 aa2 bs2 ls2 S2 k2=>hn H2 ⟨by simp[h1],?_,aa2,bs2,ls2,?_,k.trans k2⟩⟩
   ·ext
   ·ext
   ·ext
   ·rw[Qhl hai];show S2
  ·let⟨_,_,aa,bs,ls,S,k⟩:=h;rw[<-hxl,QY]at S;show go H' t r aa bs ls S (λb o e hb=>?_) g c λl hl=>?_
   ·show k.keep b o (keep b o e hb) ?_ ?_ (λz=>nomatch z)
    all_goals grind
   ·rcases k.news l hl with z|z
    all_goals ext
 let start:∀(D:Ends),(∀H3 t r,Sh w K C H3 p t r [] [] [] [] [] []->(∀b o,H b=-o->b≠p->H3 b=-o)->H t=none->H r=none->(∀b,H3 b=none->H b=none)->D.nx [-(.ref p),-f,none] H3) ->
   Jak K (Qb6 0) Qr1 "there" {D with nx:=Jak K (Qb6 0) Qr1 "rows" D} [-(.ref p),-f,none] H:=by
  intro D hW t g;let m:p≠t:=QM hp g;show⟨_,(),p,C,dx,[],(),by rw[Qm m];show hp,Z.cl,Z.nT,"d",λr c=>?_⟩;let e1:upd (upd H t (DxO t [] [] [])) p (.ins C dx (Uj "there" (.ref t) [])) p=-(.ins C dx (Uj "there" (.ref t) [])):=Vu;let npr:p≠r:=QM e1 c;let ntr:t≠r:=by
   rintro rfl;rw[Qm m.symm,Vu]at c;cases c
  show⟨_,(),p,C,dx,_,(),by rw[Qm npr];show e1,Z.cl,Z.nR,by change 1<1000;decide,?_⟩;rw[Qrq];let hr0:H r=none:=by rwa [Qm npr.symm,Qm ntr.symm]at c
  show hW _ t r ⟨⟨dx,Vu⟩,?_,JD,(λ_ h=>nomatch h),Jq,?_,JD,(λ_ h=>nomatch h),Jq,ntr,JD,(),λi l ds h=>by simp at h⟩ (λb o e hb=>?_) g hr0 (λb hb=>?_)
  ·rw[Qm m.symm,Qm ntr,Qm m.symm,Vu];rfl
  ·rw[Qm npr.symm,Vu];rfl
  ·rw[Qm hb,Qm (QM e hr0),Qm hb,Qm (QM e g)];show e
  ·by_cases h1:b=p
   ·subst h1;rw[Vu]at hb;cases hb
   ·rw[Qm h1]at hb
    by_cases h2:b=r
    ·ext
    ·rw[Qm h2,Qm h1]at hb
     by_cases h3:b=t
     ·ext
     ·rwa [Qm h3]at hb
 let j:LFs (y.map RH.At.d)=true:=JJ Ys _;rcases hq with hq|hq
 ·let⟨a,xs,rfl,n,ix⟩:=We hq;show⟨_,ZX (Qfn (pv 0) BM ()) (ZX (Qfn (pv 0) BM ()) (Uk (YO QF () (Ye (pv 1)) (JR (i:=2) Qkh.nd () (QI ())) (Uk (Ul (Qmz (pv 0) Z.cl hma FA hr hba .nil pass0 (WK (pv 2) Zr)) ()))))),?_⟩;show start _ λH3 t r S0 keep g c fresh=>?_
  let v:∀{b:Addr}{o:HO},H b=-o->(∀C dx fs,o≠ .ins C dx fs)->H3 b=some o:=λ{b o} e Ko=>keep b o e λz=>by
   grind
  let sq3:SqL K H3 a xs:=by
   rcases n with(h|⟨o,h⟩)|h
   ·show .inl (.inl (v h λ_ _ _ z=>nomatch z))
   ·show .inl (.inr ⟨o,v h λ_ _ _ z=>nomatch z⟩)
   ·show .inr h
  let ix3:=ix.tsame ⟨λb ys h=>by
   rcases h with h|⟨o,h⟩
   ·show .inl (v h λ_ _ _ z=>nomatch z)
   ·show .inr ⟨o,v h λ_ _ _ z=>nomatch z⟩,λb o u h=>v h λ_ _ _ z=>nomatch z⟩ j
  let⟨Pv,p0,pk,ps,pe⟩:=main H3 t r xs S0 keep g c fresh ix3;show⟨_,(),a,(),⟨xs,sq3⟩,Qu9 (xs:=xs) Pv p0 (λi Ku H' _ h=>?_) (λi x Ku H' hx h=>ps i x Ku H' _ hx h λH2 q=>q) λKu H' h=>pe Ku H' h⟩;let⟨ls',k⟩:=pk i Ku H' h;rcases sq3 with(h|⟨o,h⟩)|h
  ·show .inl (.inl (k.keep _ _ h (YC h S0.thA λz=>nomatch z) (YC h S0.ro λz=>nomatch z) (λz=>nomatch z)))
  ·show .inl (.inr ⟨o,k.ts.fz _ _ _ h⟩)
  ·show .inr h
 ·let⟨a,xs,rfl,n,ix⟩:=JS hq;show⟨_,ZX (Qfn (pv 0) BM ()) (ZX (Qfn (pv 0) BM ()) (Uk (YO QF () (Qfp (pv 1)) (JR (i:=2) Qkh.nd () (QI ())) (Uk (Ul (Qmz (pv 0) Z.cl hma FA hr hba .nil pass0 (WK (pv 2) Zr)) ()))))),?_⟩;show start _ λH3 t r S0 keep g c fresh=>?_
  let v:∀{b:Addr}{o:HO},H b=-o->(∀C dx fs,o≠ .ins C dx fs)->H3 b=some o:=λ{b o} e Ko=>keep b o e λz=>by
   grind
  let t3:TSame H H3:=⟨λb ys h=>by
   rcases h with h|⟨o,h⟩
   ·show .inl (v h λ_ _ _ z=>nomatch z)
   ·show .inr ⟨o,v h λ_ _ _ z=>nomatch z⟩,λb o u h=>v h λ_ _ _ z=>nomatch z⟩
  let⟨Pv,p0,pk,ps,pe⟩:=main H3 t r xs S0 keep g c fresh (ix.tsame t3 j);show⟨_,(),a,(),⟨xs,t3.sqT n⟩,Qya (xs:=xs) Pv p0 (λi Ku H' _ h=>?_) (λi x Ku H' hx h=>ps i x Ku H' _ hx h λH2 q=>q) λKu H' h=>pe Ku H' h⟩;let⟨ls',k⟩:=pk i Ku H' h;show(t3.trans k.ts).sqT n
end
end K07
namespace L2
open PySem PySem.Spec PyProof.Rows
def Qq7:bootBuiltins "min"=-(.builtin "min"):="k"
def Qq8:bootBuiltins "len"=-(.builtin "len"):="k"
section
variable {X:Cx} {ρ:List (Option D)} {e:Expr} {te:TE} {p q kp pos:Pos}
def Qmn(X:Cx)(Q:VK)(x:V)(H1:Hp):Prop:=∃(l:Addr)(ps:List Addr)(n:Nat->Nat),x=.ref l/\SqL X.K H1 l (ps.map .ref)/\(∀(i:Nat)a,ps[i]?=-a->∃ys,SqL X.K H1 a ys/\ys.length=n i)/\ps≠[] /\
 ∀(i:Nat)a,ps[i]?=-a->(∀j,j<ps.length->n i<=n j/\(j<i->n i<n j))->Q (.ref a) H1
def Jd2(X:Cx)(te:TE):TE:=λσ H Q=>te σ H (Qmn X Q)
def Qww(hc:X.calm=true)(hm1:X.mg "min"=none)(hm2:X.mg "len"=none)(ha:PE X e te)(hg1:Gl X "min":=by rfl)(hg2:Gl X "len":=by rfl)(hs:starEach [e] X.env=[(false,eval e X.env)]:=by rfl):
  PE X (.Call (.Name "min" p) [e] [⟨-"key",.Name "len" q,kp⟩] pos) (Jd2 X te):=by
 intro Kz s r H Q I h;show YX (Uo I hg1 hm1 Qq7 ?_);show PyProof.Rows.callWith_kw (thn (WK ha Zr hs pos Kz s r H (λvs H1=>match vs with|[x]=>Qmn X Q x H1|_=>False) I (show te r H (Qmn X Q)from h)) λus t ⟨vs,H1,I1,r1,w⟩=>?_) (by rw[hs];rfl) (by rw[hs];rfl);obtain⟨x,ev⟩:∃x,vs=[x]:=by
  match vs,w with
  |[x],_=>show⟨x,()⟩
 subst ev;let⟨l,d,n,ex,sq,rows,Ko,q1⟩:=(show Qmn X Q x H1 from w);subst ex;let⟨u,rfl,ru⟩:=vals1 r1;cases(show u=Value.ref l from ru);show PyProof.Rows.kws_cons (Uo I1 hg2 hm2 Qq8 (PyProof.Rows.kws_nil ?_));change wpAny (model X.prog X.w) X.A (call (.builtin "min") [.ref l] [(Str.ofString "key",.builtin "len")]) _ _ t;let⟨Kw,y,pl,hz⟩:=I1.list sq;let f:d.length=Kw.length:=by let:=y.length;simpa using this
 let at_:∀(i:Nat)v,Kw[i]?=-v->∃a,d[i]?=-a/\v=.ref a:=λi v c=>by
  let Kt:=(Q3.mp c).1;let ha:d[i]?=-d[i]:=Qa "l";let⟨u,e1,e2⟩:=y.get (i:=i) (x:=.ref d[i]) (by rw[Qd,ha];rfl);rw[c]at e1;cases e1;show⟨_,ha,e2⟩
 show MN.Qxx (vs:=Kw) (λi=>(n i:Int)) (I1.ok.hd hc) pl.isList (by rw[<-f];show Qgw.mpr Ko) (λi v c h tk Q' kp hq=>?_) (λi v h' g c hb kp=>?_)
 ·let⟨a,ha,rfl⟩:=at_ i v c;let⟨ys,sy,hy⟩:=rows i a ha;let⟨b,k,m,hz'⟩:=I1.list sy;let⟨o,ho,hr⟩:=m.isList;let Ks:=k.length;let hn:=line63;show Calls.call_len_list (s:={t with heap:=h,toks:=tk}) (show h.IsList a b.toArray from⟨o,kp _ _ ho,hr⟩) (by simp only[Qy]<;>lia) ?_;let e:(b.toArray.size:Int)=(n i:Int):=by
   rw[Qy,<-Ks,hy]
  rw[e];show hq _ _
 ·let⟨a,ha,rfl⟩:=at_ i v c;show⟨.ref a,H1,I1.kept (t':=g) kp,(),q1 i a ha λj hj=>?_⟩;let:=hb j "l";show⟨by let:=this.1;lia,λz=>by let:=this.2 z;lia⟩
def MinAt(rows:List (List D))(i:Nat):Prop:=∃r,rows[i]?=-r/\∀(j:Nat)r',rows[j]?=-r'->r.length<=r'.length/\(j<i->r.length<r'.length)
def Jcc{rows:List (List D)}{i:Nat}{r:List D}(hc:X.calm=true)(hm1:X.mg "min"=none)(hm2:X.mg "len"=none)(ha:PD X ρ e (.lst (rows.map λr=>.oth .fls [] r)))(hi:MinAt rows i)(hr:rows[i]?=-r)
  (hg1:Gl X "min":=by rfl) (hg2:Gl X "len":=by rfl) (hs:starEach [e] X.env=[(false,eval e X.env)]:=by rfl) :
  PD X ρ (.Call (.Name "min" p) [e] [⟨-"key",.Name "len" q,kp⟩] pos) (.oth .fls [] r):=
 ZR (Qww hc hm1 hm2 ha.pe hg1 hg2 hs) λσ H Q he qq=>⟨he,λv H1 s1 i1=>by
  let⟨l,s,rfl,sq,x⟩:=We i1;let t:rows.length=s.length:=by let:=x.length;simpa using this
  let h:∀(j:Nat)f,rows[j]?=-f->∃a c o,s[j]?=-(.ref a)/\H1 a=-(.frz o (.lst c))/\Va X.K H1 f c:=λj f g=>by
   let⟨v,b,m⟩:=x.get (i:=j) (d:=.oth .fls [] f) (by rw[Qd,g];rfl);let⟨a,c,o,rfl,n,e4⟩:=Ql3 m;show⟨a,c,o,b,n,e4⟩
  obtain⟨w,rfl⟩:∃w:List Addr,s=w.map V.ref:=by
   show⟨s.map λv=>match v with|.ref a=>a|_=>0,?_⟩;apply W3;intro j;rw[Qd,Qd];cases g:s[j]? with
   |none=>rfl|some v =>
    let Kt:=(Q3.mp g).1;let⟨a,c,o,b,_⟩:=h j _ (Qa (show j<rows.length by lia));rw[g]at b;cases b;rfl
  rw[Qb]at t;let k:∀(j:Nat)a,w[j]?=-a->∃f c o,rows[j]?=-f/\H1 a=-(.frz o (.lst c))/\Va X.K H1 f c:=λj a g=>by
   let Kt:=(Q3.mp g).1;let u:rows[j]?=-rows[j]:=Qa "l";let⟨a',c,o,b,m,n⟩:=h j _ u;rw[Qd,g]at b;cases b;show⟨_,c,o,u,m,n⟩
  show⟨l,w,λj=>(rows.getD j []).length,(),sq,λj a g=>?_,?_,λj a g hb=>?_⟩
  ·let⟨f,c,o,b,m,n⟩:=k j a g;show⟨c,.inl (.inr ⟨o,m⟩),?_⟩;change c.length=(rows.getD j []).length;rw[Qi,b,<-n.length];rfl
  ·rintro rfl;let:=(Q3.mp hr).1;let h0:rows.length=0:=t
   lia
  ·let⟨f,c,o,b,m,n⟩:=k j a g;let⟨r0,y,f2⟩:=hi;rw[hr]at y;cases y;let hil:=(Q3.mp hr).1;let hjl:=(Q3.mp b).1;let gj:(rows.getD j []).length=f.length:=by rw[Qi,b];rfl
   let gi:(rows.getD i []).length=r.length:=by rw[Qi,hr];rfl
   let b1:(rows.getD j []).length<=(rows.getD i []).length/\(i<j->(rows.getD j []).length<(rows.getD i []).length):=hb i "l";let b2:=f2 j f b;rw[gj,gi]at b1;let:j=i:=by
    rcases YK j i with z|z|z
    ·let:=b2.2 z;lia
    ·show z
    ·let:=b1.2 z;lia
   subst this;rw[hr]at b;cases b;show qq _ H1 s1 (Qfv m n)⟩
end
end L2
namespace K07
open PySem L2 RH WY
noncomputable def OG(q:List D×List (List D))(key:D):List D:=if key∈q.1 then q.2.getD (q.1.idxOf key) []else[]
def Qr8{f key k:D}{q:List D×List (List D)}(hl:q.1.length=q.2.length):OG (L2.W0 f q key) k=if k=key then OG q k++[f]else OG q k:=by
 unfold L2.W0 OG
 by_cases b:key∈q.1
 ·rw[Qh b]
  by_cases c:k=key
  ·subst c;let Kt:=QX b;rw[Qh (),Qh b,Qh b,Qi,Qi,ZH,Qa (show q.1.idxOf k<q.2.length by lia)]
   simp
  ·rw[Qc c]
   by_cases a:k∈q.1
   ·rw[Qh a,Qh a,Qi,Qi,ZH];let Ko:q.1.idxOf key≠q.1.idxOf k:=λz=>c (by
     let h3:=Yj (QX b);let h4:=Yj (QX a);rw[<-h3,<-h4];simp[z])
    simp[Ko]
   ·rw[Qc a,Qc a]
 ·rw[Qc b]
  by_cases c:k=key
  ·subst c;rw[Qh (),Qh (by simp:k∈q.1++[k]),Qc b];change(q.2++[[f]]).getD ((q.1++[k]).idxOf k) []=_;rw[O8,Qc b];simp[Qi,hl]
  ·rw[Qc c]
   by_cases a:k∈q.1
   ·let Kt:=QX a;rw[Qh (show k∈q.1++[key]from JF _ a),Qh a];change(q.2++[[f]]).getD ((q.1++[key]).idxOf k) []=_;rw[O8,Qh a,Qi,Qi,QN "l"]
   ·rw[Qc (show k∉q.1++[key] by simp[a,c]),Qc a]
def Qr7{f key:D}{q:List D×List (List D)}(hl:q.1.length=q.2.length):(L2.W0 f q key).1.length=(L2.W0 f q key).2.length:=by
 unfold L2.W0;split
 ·simpa using hl
 ·simp[hl]
theorem Qml:∀(l:List D){q:List D×List (List D)},l.Nodup->q.1.length=q.2.length->(l.foldl (L2.W0 f) q).1.length=(l.foldl (L2.W0 f) q).2.length/\OG (l.foldl (L2.W0 f) q) k=if k∈l then OG q k++[f]else OG q k
 |[],q,_,hl=>⟨hl,"s"⟩|x::l,q,nd,hl=>by
  let a:=J0.mp nd;let⟨c,b⟩:=Qml l a.2 (Qr7 hl);rw[J3,b,Qr8 hl]
  grind
def Qtq(a:RH.At):(Zj a).Nodup:=by
 unfold Zj;rw[J0];show⟨λh=>?_,?_⟩
 ·let⟨p,_,e⟩:=Q4.mp h;simp at e
 ·rw[List.Nodup,JM];intro i j hi c b h;simp at h
  lia
theorem Qmc{key:D}:∀(as:List RH.At){q:List D×List D×List (List D)}{z:List RH.At},q.2.1.length=q.2.2.length->OG q.2 key=z.map RH.At.d->(as.foldl shS q).2.1.length=(as.foldl shS q).2.2.length/\OG (as.foldl shS q).2 key=(z++Uy as key).map RH.At.d
 |[],q,z,c,b=>⟨c,by simpa[Uy]using b⟩|a::as,q,z,c,b=>by
  let⟨e,g⟩:=Qml (f:=a.d) (k:=key) (Zj a) (Qtq a) c;let h:OG (shS q a).2 key=(if key∈Zj a then z++[a]else z).map RH.At.d:=by
   show g.trans ?_;split
   ·rw[b];simp
   ·show b
  let⟨i,j⟩:=Qmc (key:=key) as (q:=shS q a) e h;show⟨i,j.trans ?_⟩;congr 1;unfold Uy;rw[Z7]
  by_cases d:key∈Zj a
  ·simp[d]
  ·simp[d]
def Qrl(as:List RH.At)(key:D):(shA as).2.1.length=(shA as).2.2.length/\OG (shA as).2 key=(Uy as key).map RH.At.d:=by
 let⟨a,b⟩:=Qmc as (q:=([],[],[])) (z:=[]) () (by simp[OG]);show⟨a,b⟩
def Qld(as:List RH.At)(key:D):Qik (shA as).2.1 ((shA as).2.2.map λr=>.oth .fls [] r) key (.oth .fls [] [])=.oth .fls [] ((Uy as key).map RH.At.d):=by
 let⟨b,a⟩:=Qrl as key;rw[<-a];unfold Qik OG;split
 ·rw[Qi,Qi,Qd];cases(shA as).2.2[List.idxOf key (shA as).2.1]? <;>rfl
 ·rfl
noncomputable def shD(w:World)(C:Addr)(as:List RH.At):D:=shelfD w C (shA as).1 (shA as).2.1 (shA as).2.2
theorem Qhm:∀(as:List RH.At){q:List D×List D×List (List D)},KOk q.2.1->KOk (as.foldl shS q).2.1
 |[],_,h=>h
 |a::as,q,h=>Qhm as (q:=shS q a) (by
  change KOk (Qjn a q.2).1;unfold Qjn;let key:∀(l:List D)(q:List D×List (List D)),(∀k∈l,XKey k)->KOk q.1->KOk (l.foldl (L2.W0 a.d) q).1:=λl=>by
   induction l with
   |nil=>show λq _ h=>h|cons x l c =>
    intro q hx h;show c _ (λk b=>hx k (Q7 _ b)) ?_;unfold L2.W0;split
    ·show h
    ·intro y hy;rcases Qt.mp hy with hy|hy
     ·show h y hy
     ·simp at hy;subst hy;show hx _ Q8
  show key _ _ (λk b=>OE a b) h)
def Qma(as:List RH.At):KOk (shA as).2.1:=Qhm as λ_ h=>nomatch h
theorem Qkx:∀(rs:List (List RH.At))(b:List RH.At),∃i,((b::rs)[i]?=-(rs.foldl (λb r=>if r.length<b.length then r else b) b))/\∀(j:Nat)r',(b::rs)[j]?=-r'->(rs.foldl (λb r=>if r.length<b.length then r else b) b).length<=r'.length/\(j<i->(rs.foldl (λb r=>if r.length<b.length then r else b) b).length<r'.length)
 |[],b=>⟨0,(),λj r' h=>by
  match j,h with
  |0,h =>
   let:b=r':=by simpa using h
   subst this;show⟨Q5 _,λz=>absurd z "l"⟩
  |j+1,h=>simp at h⟩
 |x::rs,b=>by
  by_cases hx:x.length<b.length
  ·let⟨i,c,a⟩:=Qkx rs x;let e:((x::rs).foldl (λb r=>if r.length<b.length then r else b) b)=rs.foldl (λb r=>if r.length<b.length then r else b) x:=by
    rw[J3,Qh hx]
   rw[e];show⟨i+1,by simpa using c,λj r' h=>?_⟩
   match j,h with
   |0,h =>
    let:b=r':=by simpa using h
    subst this;let:=(a 0 x ()).1;show⟨"l",λ_=>by lia⟩
   |j+1,h =>
    let⟨d,f⟩:=a j r' (by simpa using h);show⟨d,λz=>f "l"⟩
  ·let⟨i,c,a⟩:=Qkx rs b;let e:((x::rs).foldl (λb r=>if r.length<b.length then r else b) b)=rs.foldl (λb r=>if r.length<b.length then r else b) b:=by
    rw[J3,Qc hx]
   rw[e]
   match i,c,a with
   |0,c,a =>
    show⟨0,by simpa using c,λj r' h=>?_⟩
    match j,h with
    |0,h=>show⟨(a 0 r' (by simpa using h)).1,λz=>absurd z "l"⟩|1,h =>
     let:x=r':=by simpa using h
     subst this;let:=(a 0 b ()).1;show⟨"l",λz=>absurd z "l"⟩
    |j+2,h=>show⟨(a (j+1) r' (by simpa using h)).1,λz=>absurd z "l"⟩
   |i+1,c,a =>
    show⟨i+2,by simpa using c,λj r' h=>?_⟩
    match j,h with
    |0,h =>
     let⟨d,f⟩:=a 0 r' (by simpa using h);show⟨d,λ_=>f "l"⟩
    |1,h =>
     let:x=r':=by simpa using h
     subst this;let:=(a 0 b ()).2 "l";show⟨"l",λ_=>by lia⟩
    |j+2,h =>
     let⟨d,f⟩:=a (j+1) r' (by simpa using h);show⟨d,λz=>f "l"⟩
def Qxy(h:l≠[]):∃i,(l[i]?=-(Qtf l))/\MinAt (l.map λr=>r.map RH.At.d) i:=by
 cases l with
 |nil=>ext|cons b a =>
  let⟨i,d,e⟩:=Qkx a b;show⟨i,d,(Qtf (b::a)).map RH.At.d,by rw[Qd,d];rfl,λj g c=>?_⟩;rw[Qd]at c;cases q:(b::a)[j]? with
  |none=>ext|some f =>
   rw[q]at c;cases c;rw[Qb,Qb];show e j f q
section
variable {P:Program} {w:World} {K:W.Frag} {mg:Str->Option Value} {base:Heap} {C:Addr}
def Qye{X:Cx}{ρ:List (Option D)}{e:Expr}{d:D}{as:List RH.At}{p pos:Pos}(Z:ShC X.K X.mg C)(G:MkC X.prog X.w X.K X.mg X.base C 2 Qbo (Qkb X.w X.K C))(hr:Room 3 X.A)(ha:PD X ρ e d)(hd:d=.lst (as.map RH.At.d)\/d=.tup (as.map RH.At.d))(hl:as.length<=1000)(h3:∀a∈as,a.ts.length<=3)
  (hg:Gl X "Shelf":=by rfl) (hs:starEach [e] X.env=[(false,eval e X.env)]:=by rfl):PD X ρ (.Call (.Name "Shelf" p) [e] [] pos) (shD X.w C as):=
 ⟨λKz s σ H Q I q=>by
  let⟨f,fd,M,hb,F⟩:=G;show Jn (Qwx M F hr hg Z.mgC hb .nil pass0 (Vc ha Vn hs).pe "d" hs () Kz s σ H (λv H2=>∃p t r i bs c,v=.ref p/\Sh X.w X.K C H2 p t r (shA as).1 i (shA as).2.1 bs c (shA as).2.2/\∀b o,H b=-o->H2 b=-o/\b≠p/\b≠t/\b≠r/\b∉c) I ⟨q.1,λvs H1 n ia x dx nx j Ko=>?_⟩) (λu n ⟨v,H2,I2,rv,p,t,r,i,bs,c,ev,S,kp⟩=>?_) λ_ _ z=>z
  ·let⟨v,rfl,w⟩:=ia.one;let k:Same H1 (upd (upd H1 dx (.own x)) x (.ins C dx [])):=(Same.upd j).trans (Same.upd (by rw[Qm Ko.symm];show nx));let sq:Seq X.K (upd (upd H1 dx (.own x)) x (.ins C dx [])) (as.map RH.At.d) v:=by
    rcases hd with rfl|rfl
    ·show .inl (w.same k)
    ·show .inr (w.same k)
   show⟨x,dx,as,v,(),Vu,sq,hl,h3,λH' t r i bs c S keep nt nr l=>⟨(),x,t,r,i,bs,c,(),S,λb o e=>?_⟩⟩;let y:=n _ _ e;let g:=k _ _ y;let h:b≠x:=QM y nx;show⟨keep b o g h,h,QM g nt,QM g nr,λz=>?_⟩;rw[l b z]at g;cases g
  ·subst ev;let⟨H',I',ts,m,is⟩:=S.freeze I2;show⟨.ref p,H',I',rv,q.2 _ H' (λb o e=>?_) is⟩;let⟨k1,k2,k3,k4,k5⟩:=kp b o e;rw[m b k2 k3 k4 k5];show k1⟩
end
def plK(b:RH.At)(p:Str×Nat):D:=.tup [.str b.k,.int p.2,.str p.1]
def plP(b:RH.At)(i:Nat):List D:=.tup [.str b.k]::((b.ts.zipIdx.take i).filter λp=> !Qr p.1).map (plK b)
def Qwt(b:RH.At):plP b b.ts.length=places Qr b:=by
 unfold plP places;rw[Jh "s"];rfl
def Qrx(h:b.ts[i]?=-t):plP b (i+1)=if Qr t=true then plP b i else plP b i++[.tup [.str b.k,.int i,.str t]]:=by
 let a:b.ts.zipIdx[i]?=-(t,i):=by simp[h]
 unfold plP;rw[Yl a,Bc];cases c:Qr t<;>simp[plK,c,Z7]
def Qmw(b:RH.At)(i:Nat):(plP b i).length<=b.ts.length+1:=by
 unfold plP;let a:=Zn (λp=> !Qr p.1) (b.ts.zipIdx.take i)
 ext;lia
def Qkn(h:k∈places Qr b):XKey k:=by
 rcases Qe.mp h with rfl|h
 ·show⟨by rfl,by simp[dep,deps],_,()⟩
 ·let⟨p,_,rfl⟩:=Q4.mp h;show⟨by rfl,by simp[dep,deps],_,()⟩
def Jau(b:RH.At)(i:Nat):LFs (plP b i)=true:=by
 rw[WL];intro d hd;rcases Qe.mp hd with rfl|hd
 ·rfl
 ·let⟨p,_,rfl⟩:=Q4.mp hd;rfl
section
variable {P:Program} {w:World} {K:W.Frag} {mg:Str->Option Value} {base:Heap} {C:Addr}
def RNear(w:World)(C:Addr):List D->D->Prop:=λds d=>∃(as:List RH.At)(a:RH.At)(g:WY.Gv)(fz:Bool),ds=[shD w C as,a.d,gvD g fz]/\g.1.length=g.2.length/\a.ts.length<=3/\(∀t∈(JB g a).ts,t.length<=1000)/\d=.oth .fls [] ((U7 Qr as a g).map RH.At.d)
abbrev Qds:List Str:=["self", "atom", "words"]
abbrev Jdx:List Str:=["self", "atom", "words", "places", "place", "word"]
def Qkg:Vf Jdx Qds (Vs Qbg):=⟨(),(),(),"k",(),"k","k"⟩
def Qxd(T:Txt K mg)(Z:ShC K mg C)(F:FdM K C "near" "Shelf.near" Qbg Qds)(GF:PrD P w K mg base "filled" 1 BO RFilled)(GO:PrD P w K mg base "is_open" 1 ["term"] ROpen):Mt P w K mg base C "near" 2 Qds (spD K 3 (RNear w C)):=by
 let⟨fn,o,x,y,p⟩:=F;show⟨fn,o,x,p,Jc9 y Qkg "d" λKn A outer s H E ds d n hR _=>?_⟩;let⟨c,a,g,fz,rfl,hl,h3,u,rfl⟩:=hR;let j:=lt15 (hu22 n);let q:(JB g a).ts.length<=3:=by simpa[JB]using h3
 let e:(JB g a).k=a.k:=rfl;generalize hb:JB g a=b at u q e
 letI Kr:Nat->List Sl:=λi=>[.arg (shD w C c),.arg a.d,.arg (gvD g fz),.own (plP b i),.no,.no]
 show Vq (W8 (i:=3) (YG (WB (Vc (Vp (Vc (JW (Vv 1 ()) Vi at0) Vn) (Vl "s")) Vn) (Vl "s")) (by simp[plP,e])) (Jau b 0) Qkg.nd) ?_;show Vq (Qxo (m:=false) (jx:=4) (jy:=5) Kr QF () T.bEnu (JW (da:=.tup [.str b.k,.tup (b.ts.map .str)]) (Z8 GF (n.mono "d") (Vc (Vv 1 ()) (Vc (Vv 2 ()) Vn)) ⟨a,g,fz,(),hl,"l",by rw[hb];rfl⟩) Vi at1) (JJ (λ_=>W4) _) () (λi d hd=>?_) Qkg.nd) ?_
 ·rw[Qd]at hd;cases hx:b.ts[i]? with
  |none=>ext|some t =>
   rw[hx]at hd;cases hd;show⟨false,?_,λh=>nomatch h⟩;let k:=u t (Q6 hx);change QOs _ H [.arg (shD w C c),.arg a.d,.arg (gvD g fz),.own (plP b i),.any (.int i),.any (.str t)] _ (.next false [.arg (shD w C c),.arg a.d,.arg (gvD g fz),.own (plP b (i+1)),.no,.no]);rw[Qrx hx];cases ho:Qr t with
   |true =>
    show ZB (Vz (Yx (Qje (B8 (Z8 GO (n.mono "d") (Vc (Vv 5 ()) Vn) ⟨t,(),k,()⟩))) (λz=>?_) (λ_=>ZY))) (WkI.wk (.keep (.keep (.keep (.keep (.no (.no .nil))))))) (λh=>nomatch h)
    ext
   |false =>
    show ZB (Vz (Yx (r:=.next false [.arg (shD w C c),.arg a.d,.arg (gvD g fz),.own (plP b i++[.tup [.str b.k,.int i,.str t]]),.any (.int i),.any (.str t)]) (Qje (B8 (Z8 GO (n.mono "d") (Vc (Vv 5 ()) Vn) ⟨t,(),k,()⟩))) (λ_=>?_) (λz=>?_))) (WkI.wk (.keep (.keep (.keep (.keep (.no (.no .nil))))))) (λh=>nomatch h)
    ·show Vz (ZZ (i:=3) () (Vp (Vc (by rw[e];show JW (Vv 1 ()) Vi at0) (Vc (Vv 4 ()) (Vc (Vv 5 ()) Vn))) (Vl "s")) (by rfl) (AL.h ⟨(),(),QA⟩) ?_);let:=Qmw b i;let h1:=Vl (Q5 _)
     lia
    ext
 ·rw[Qb];let v:=Qwt b;change QOs _ H [.arg (shD w C c),.arg a.d,.arg (gvD g fz),.own (plP b b.ts.length),.no,.no] _ _;rw[v];let⟨i,m1,m2⟩:=Qxy (l:=(places Qr b).map (Uy c)) (by simp[places]);let e2:U7 Qr c a g=Qtf ((places Qr b).map (Uy c)):=by unfold U7;rw[hb]
  rw[e2];show Vz (Z1 (Jcc () T.bMin T.bLen (PDL.pd (YG (Zu (f:=λkey=>.oth .fls [] ((Uy c key).map RH.At.d)) () (ZU (Vv 3 ())) (Vl ?_) λkey hk cl Cc s' H' ex=>?_) ?_)) m2 "g"))
  ·rw[<-v];let:=Qmw b b.ts.length
   lia
  ·rw[<-Qld];show Qyd j (Qzg (i:=1) (Vv 1 ()) Z.cl Z.nR "k" () ()) (Vv 0 ()) (Qup (WB Vn (Vl "s")) ()) (Qma c) (Qkn hk)
  ext
end
end K07
namespace L2
open PySem PySem.Spec PyProof.Rows
section
variable {X:Cx} {H₀:Hp} {τ:List Sl} {pos p ap cp ip py pr:Pos} {x y:Str} {i j:Nat} {ec ek ew e3:Expr} {ks vs ks' Kk:List Str} {k w u:Str} {c:Bool}
def Yt(vs:List Str):LFs (vs.map D.str)=true:=JJ (λ_=>W4) _
def Qks(hi:τ[i]?=-(.odc ks (vs.map .str)))(hc:PB X (dat τ) ec c)(hk:PD X (dat τ) ek (.str k))(hw:PD X (dat τ) ew (.str w))(he:PD X (dat τ) e3 (.str k))(hz:ks.length<sizeLine)(hl:∀(j:Nat)(d:D),τ[j]?=-(.any d)->LF d=true)(hij:i≠j)
  (h:(c=false/\ks'=ks/\Kk=vs/\u=k)\/(c=true/\k∉ks/\ks'=ks++[k]/\Kk=vs++[w]/\u=w)\/(c=true/\(∃n:Nat,ks[n]?=-k/\vs[n]?=-u)/\ks'=ks/\Kk=vs))
  (hN:X.N.Nodup) (hNi:X.N[i]?=some x:=by rfl) (hNj:X.N[j]?=some y:=by rfl) (hv:Vis X.env.scope x:=by first|show QI rfl|show QB (QI ())|show QB (QB ())) (hdb:(x==("__debug__":Str))=false:=by decide) (hcd:(x==("__classdict__":Str))=false:=by decide)
  (hy:Loc X.env.scope y:=by first|show QI rfl|show QB ()) (hf:X.fn y=true\/X.env.scope.names.lookup y=some .local:=by first|show .inl rfl|show .inr ())
  (hs:starEach [ek,ew] X.env=[(false,eval ek X.env),(false,eval ew X.env)]:=by rfl) (hs2:starEach [ew] X.env=[(false,eval ew X.env)]:=by rfl)
  (hbase:attributeBase (.Name x p) "setdefault" X.env (eval (.Name x p) X.env)=eval (.Name x p) X.env:=by rfl)
  (hfew:((backTo cp (starEach [ek,ew] X.env)).all (λx=> !x.1)&&(backToKw cp (keywordEach [] X.env)).all (λx=>x.1.isSome)&&decide ([ek,ew].length+([]:List Keyword).length+(if([]:List Keyword).isEmpty then 0 else 1)<30))=true:=by rfl)
  (Kj:(ap.endLine==cp.line)=true:=by rfl) (hplain:(backTo cp (starEach [ew] X.env)).any (·.1)=false:=by rfl)
  (hsw:swapsWith (.IfExp ec (.Call (.Attribute (.Name x p) "setdefault" ap) [ek,ew] [] cp) e3 ip) (-(.Name y py)) pos.line X.env=pure false:=by rfl) :
  QO X H₀ τ (.Assign [.Name y py] (.IfExp ec (.Call (.Attribute (.Name x p) "setdefault" ap) [ek,ew] [] cp) e3 ip) pos) (.next false ((τ.set i (.odc ks' (Kk.map .str))).set j (.any (.str u)))):=by
 show⟨(Bj hN hNj hy (Qs5 hc.pe (Qdo (T:= "dict") Z4 Wr UG Qxu (Wv hNi hv hdb hcd) (Vc hk (Vc hw Vn hs2) (by rw[hs,hs2])).pe hbase hfew Kj (by rw[hs,hs2]) hplain) he.pe) hsw hf).imp λD σ H q=>?_⟩;let f:∀{τ:List Sl},τ[i]?=-(.odc ks (vs.map .str))->τ.set i (.odc ks (vs.map .str))=τ:=λ{τ} hi=>by
  apply W3;intro m
  by_cases hm:i=m
  ·subst hm;rw[Ql (Q3.mp hi).1,hi]
  ·rw[Qg hm]
 show⟨q.1.env,λH1 s1=>?_⟩;let E1:=q.1.step s1;rcases h with⟨rfl,rfl,rfl,rfl⟩|⟨rfl,t,rfl,rfl,rfl⟩|⟨rfl,⟨n,hn1,hn2⟩,rfl,rfl⟩
 ·rw[f hi]at q;show Qtu ⟨E1.env,λv H2 g z=>?_⟩;cases W9 z;show q.2 _ _ (s1.trans g).t ((E1.step g).set (s:=.any (.str u)) j ⟨_,(),ZL _⟩ λds e=>nomatch e)
 ·show Qpl ?_;let⟨o,e0,pd,r,rfl,np,dk,lf,ia⟩:=E1.sl i _ hi;let hus:r=vs.map V.str:=Qr5 ia;show⟨_,e0,.inr (.inr (.inl ⟨(),.inl ⟨_,dk.at_⟩⟩)),E1.env,λws H2 g iw=>?_⟩;let⟨w1,w2,rfl,i1,z⟩:=iw.two;cases W9 i1;cases W9 z;let l:=g.dk dk;show⟨pd,Wt ks r,k,u,(),(),l.at_,by rw[Bx ks r dk.len];show hz,λv hv=>?_,λhn=>?_⟩
  ·rw[Oe t]at hv;cases hv
  ·let E2:=E1.step g;let ie:Va X.K H2 ((vs++[u]).map .str) (r++[.str u]):=by
    rw[J1];show(ia.same g).append (Vg (ZL u) Jq)
   let nd:(ks++[k]).Nodup:=by
    rw[Js];show⟨dk.nd,"s",λa ha b hb=>by simp at hb;subst hb;show λe=>t (e▸ha)⟩
   let E3:=E2.mutD (ks2:=ks++[k]) (ws:=r++[.str u]) (es:=(vs++[u]).map .str) hi e0 np l hl (Yt _) (by simp[dk.len]) nd ie;rw[Qod dk.len]at E3;show q.2 _ _ ((s1.trans g).t.trans (TSame.dk l.at_)) (E3.set (s:=.any (.str u)) j ⟨_,(),ZL _⟩ λds e=>nomatch e)
 ·rw[f hi]at q;show Qpl ?_;let⟨o,e0,pd,r,rfl,np,dk,lf,ia⟩:=E1.sl i _ hi;let hus:r=Kk.map V.str:=Qr5 ia;show⟨_,e0,.inr (.inr (.inl ⟨(),.inl ⟨_,dk.at_⟩⟩)),E1.env,λws H2 g iw=>?_⟩;let⟨w1,w2,rfl,i1,z⟩:=iw.two;cases W9 i1;cases W9 z;let l:=g.dk dk;let hv2:UK (Wt ks' r) (.inr k)=-(.str u):=Gj dk.nd hn1 (by rw[hus,Qd,hn2];rfl);show⟨pd,Wt ks' r,k,w,(),(),l.at_,by rw[Bx ks' r dk.len];show hz,λv hv=>?_,λhn=>?_⟩
  ·rw[hv2]at hv;cases hv;show q.2 _ _ (s1.trans g).t ((E1.step g).set (s:=.any (.str u)) j ⟨_,(),ZL _⟩ λds e=>nomatch e)
  ·rw[hv2]at hn;cases hn
def Qsw(hi:τ[i]?=-(.odc ks ds))(hNi:X.N[i]?=some x:=by rfl)(hv:Vis X.env.scope x:=by first|show QI rfl|show QB (QI ())|show QB (QB ()))(hdb:(x==("__debug__":Str))=false:=by decide)(hcd:(x==("__classdict__":Str))=false:=by decide):
  QO X H₀ τ (.Return (-(.Name x p)) pos) (.ret (.dct true (ks.map .str) ds)):=
 ⟨λKz s f H D I q=>by
  let⟨o,g,pd,c,rfl,n,dk,lf,h⟩:=q.1.sl i _ hi;let a:=dk.at_;let⟨d,I2⟩:=I.freezeD a;let ts:TSame H (upd H pd (.frz d (.dK (Wt ks c)))):=TSame.updM a (λ_ e=>nomatch e) (λ_ _ e=>nomatch e);show Ol (Wv hNi hv hdb hcd) Kz s f _ D I2 ⟨.ref pd,g,q.2 _ _ (λb o e=>?_) ?_⟩
  ·rw[Qm (QM e n)];show q.1.same b o e
  ·show⟨pd,ks,c,(),(),⟨dk.len,dk.nd,⟨d,Vu⟩⟩,h.tsame ts lf⟩⟩
end
end L2
namespace K07
open PySem L2 RH WY
theorem Qhp:∀(l:List (Str×Str)){g:WY.Gv},JK op g l=none->∃i g0 p,JK op g (l.take i)=-g0/\l[i]?=-p/\Jy op g0 p=none
 |[],g,h=>by cases h
 |p::l,g,h=>by
  cases q:Jy op g p with
  |none=>show⟨0,g,p,(),(),q⟩|some g1 =>
   unfold JK at h;rw[q]at h;let⟨i,g0,a,b,c,h3⟩:=Qhp l h;show⟨i+1,g0,a,by unfold JK;ext,"e",h3⟩
theorem Qfj:∀(l k:List (Str×Str)){g:WY.Gv},JK op g (l++k)=(JK op g l).bind λg'=>JK op g' k
 |[],k,g=>rfl|p::l,k,g=>by
  change((Jy op g p).bind λg'=>JK op g' (l++k))=((Jy op g p).bind λg'=>JK op g' l).bind λg'=>JK op g' k
  cases Jy op g p with
  |none=>rfl|some g1=>show Qfj l k
def Qhq{l:List (Str×Str)}(h:l[i]?=-p):JK op g (l.take (i+1))=(JK op g (l.take i)).bind λg'=>Jy op g' p:=by
 rw[Yl h,Qfj];congr 1
 funext g'
 unfold JK;cases Jy op g' p<;>rfl
def Qaq{l:List (Str×Str)}(hij:i<=j)(h:JK op g (l.take j)=-g'):∃g0,JK op g (l.take i)=some g0:=by
 let e:l.take j=l.take i++(l.take j).drop i:=by
  let:=QU i (l.take j)
  grind
 rw[e,Qfj]at h;cases q:JK op g (l.take i)with
 |none=>grind|some g0=>grind
def gAt(g:WY.Gv)(l:List (Str×Str))(i:Nat):WY.Gv:=(JK Qr g (l.take i)).getD g
def BA(g:WY.Gv)(p:Str×Str):Str:=if Qr p.1=true then(if p.1∈g.1 then sub g p.1 else p.2)else p.1
def BB(g:WY.Gv)(p:Str×Str):WY.Gv:=if Qr p.1=true/\p.1∉g.1 then(g.1++[p.1],g.2++[p.2])else g
def Oh(g:WY.Gv)(p:Str×Str):Jy Qr g p=if BA g p=p.2 then -(BB g p)else none:=by
 unfold Jy BA BB
 by_cases a:Qr p.1=true
 ·by_cases b:p.1∈g.1
  ·simp[a,b]
  ·simp[a,b]
 ·simp[a]
def Qk3{g:WY.Gv}{p:Str×Str}(hl:g.1.length=g.2.length):(Qr p.1=false/\(BB g p).1=g.1/\(BB g p).2=g.2/\BA g p=p.1)\/(Qr p.1=true/\p.1∉g.1/\(BB g p).1=g.1++[p.1]/\(BB g p).2=g.2++[p.2]/\BA g p=p.2) \/
  (Qr p.1=true/\(∃n:Nat,g.1[n]?=-p.1/\g.2[n]?=-(BA g p))/\(BB g p).1=g.1/\(BB g p).2=g.2):=by
 unfold BA BB;cases b:Qr p.1 with
 |false=>show .inl ⟨(),"s","s","s"⟩|true =>
  by_cases a:p.1∈g.1
  ·let Kt:=QX a;show .inr (.inr ⟨(),⟨g.1.idxOf p.1,?_,?_⟩,by simp[a],by simp[a]⟩)
   ·rw[Qa Kt,Yj]
   ·rw[Qh (),Qh a];unfold sub subst;rw[Qh a,Qi,Qa "l"];rfl
  ·show .inr (.inl ⟨(),a,by simp[a],by simp[a],by simp[a]⟩)
def Qkq:Option WY.Gv->D
 |none=>.non|some g=>gvD g true
theorem Gm{op:Str->Bool}:∀(ts V:List Str),(Y8 op V ts).length<=V.length+ts.length
 |[],V=>by simp[Y8]|t::ts,V=>by
  let h:=Gm (op:=op) ts (WY.WT op V t);let a:(WY.WT op V t).length<=V.length+1:=by
   unfold WY.WT;split<;>simp
  change(Y8 op (WY.WT op V t) ts).length<=_;rw[Qz]
  lia
theorem Qb3:∀(l:List (Str×Str)){g g':WY.Gv},JK op g l=-g'->∀v∈g'.2,v∈g.2\/∃p∈l,p.2=v
 |[],g,g',h,v,a=>by cases h;grind
 |p::l,g,g',h,v,a=>by
  unfold JK at h;cases q:Jy op g p with
  |none=>ext|some g1 =>
   rw[q]at h;rcases Qb3 l h v a with z|⟨b,c,d⟩
   ·let:g1=g\/g1.2=g.2++[p.2]:=by
     unfold Jy at q
     grind
    grind
   grind
section
variable {P:Program} {w:World} {K:W.Frag} {mg:Str->Option Value} {base:Heap} {C:Addr}
def RMatch:List D->D->Prop:=λds d=>∃(g:WY.Gv)(a f:RH.At)(V:List Str)(fz:Bool),ds=[gvD g fz,a.d,f.d]/\GOk Qr V g/\V.length<=100/\a.ts.length<=3/\f.ts.length<=1000/\(∀t∈a.ts,t.length<=1000)/\d=Qkq (JQ Qr g a f)
abbrev Qox:List Str:=["words", "atom", "fact"]
abbrev Jdy:List Str:=["words", "atom", "fact", "longer", "term", "word", "wanted"]
def Qbd:Vf Jdy Qox (Vs BG):=⟨(),(),(),"k",(),"k","k"⟩
def Qsf(T:Txt K mg)(F:Fd K mg "matched" BG Qox)(GO:PrD P w K mg base "is_open" 1 ["term"] ROpen):PrD P w K mg base "matched" 2 Qox RMatch:=by
 show UF (N:=Jdy) F Qbd "d" λf0 Kn A outer s H E ds d hr hR _=>?_
 let⟨g,a,f,V,fz,rfl,gok,hV,h3,hf3,hts,rfl⟩:=hR;let z1:=Vl (Q5 _);let test:∀(X:Cx)(ρ:List (Option D))(c1 c2:Expr)(p:Pos),PB X ρ c1 (!decide (a.k=f.k))->PB X ρ c2 (!decide ((a.ts.length:Int)=(f.ts.length:Int)))->PB X ρ (.BoolOp .Or [c1,c2] p) (!decide (a.k=f.k/\a.ts.length=f.ts.length)):=λX ρ c1 c2 p h1 h2=>by
  let e:(!decide (a.k=f.k/\a.ts.length=f.ts.length))=(!decide (a.k=f.k) || !decide ((a.ts.length:Int)=(f.ts.length:Int))):=by
   grind
  rw[e];show Qlp (Qyj h1 (λz=>by rw[z];show Qv6 h2) (λz=>by rw[z];rfl))
 by_cases hk:a.k=f.k/\a.ts.length=f.ts.length
 ·show Vq (Yx (r:=.next true _) (test _ _ _ _ _ (Qjf (JW (Vv 1 ()) Vi at0) (JW (Vv 2 ()) Vi at0))
   (Qzi (B7 (n:=a.ts.length) T.bLen (JW (Vv 1 ()) Vi at1) (by simp[Qd4]) (λx e=>nomatch e)) (B7 (n:=f.ts.length) T.bLen (JW (Vv 2 ()) Vi at1) (by simp[Qd4]) (λx e=>nomatch e)))) (λz=>?_) (λ_=>ZY)) ?_
  ·ext
  show Vq (Qi0 (i:=3) (Qnp T.bDct (Vv 0 ())) (Yt _) Qbd.nd) ?_;let em:JQ Qr g a f=JK Qr g (a.ts.zip f.ts):=Qh hk;rw[em];generalize hl:a.ts.zip f.ts=l;let lat:∀(i:Nat)(u v:D),(a.ts.map D.str)[i]?=-u->(f.ts.map D.str)[i]?=-v->∃p,l[i]?=-p/\u=.str p.1/\v=.str p.2/\p.1.length<=1000:=λi u v hu hv=>by
   rw[Qd]at hu hv;cases q1:a.ts[i]? with
   |none=>ext|some t =>
    cases q2:f.ts[i]? with
    |none=>ext|some x =>
     rw[q1]at hu;rw[q2]at hv;cases hu;cases hv;show⟨(t,x),"g",(),(),hts t (Q6 q1)⟩
  letI Kr:Nat->List Sl:=λi=>[.arg (gvD g fz),.arg a.d,.arg f.d,.odc (gAt g l i).1 ((gAt g l i).2.map .str),.no,.no,.no]
  let o:∀i c,JK Qr g (l.take i)=-c->gAt g l i=c:=λi c h=>by unfold gAt;rw[h];rfl
  let bd:∀i c,JK Qr g (l.take i)=-c->c.1.length=c.2.length/\c.1.length<sizeLine:=λi c h=>by
   let r:=(Qkj _ gok h).1;show⟨r.len,?_⟩;let h1:=Gm (op:=Qr) ((l.take i).map (·.1)) V;rw[r.keys]
   grind
  cases q:JK Qr g l with
  |none =>
   let⟨i0,g0,p0,e1,e2,e3⟩:=Qhp l q;let⟨f1,f2⟩:=Jv.mp (show(a.ts.zip f.ts)[i0]?=-p0 by ext);show Qdx (Qsz (m:=false) (jx:=4) (jy:=5) (as:=a.ts.map .str) (bs:=f.ts.map .str) Kr i0 (u0:=.str p0.1) (v0:=.str p0.2) "e" "e" QF () T.bZip (JW (Vv 1 ()) Vi at1) (JW (Vv 2 ()) Vi at1) (Yt _) (Yt _) ?_ (λi u v hi hu hv=>?_) ?_ Qbd.nd)
   ·rfl
   ·let⟨p,lp,rfl,rfl,y⟩:=lat i u v hu hv;let⟨c,k⟩:=Qaq (show i<=i0 by lia) e1;let⟨g1,hg1⟩:=Qaq (show i+1<=i0 by lia) e1;show⟨false,?_,λh=>nomatch h⟩;change QOs _ H [.arg (gvD g fz),.arg a.d,.arg f.d,.odc (gAt g l i).1 ((gAt g l i).2.map .str),.any (.str p.1),.any (.str p.2),.no] _ (.next false [.arg (gvD g fz),.arg a.d,.arg f.d,.odc (gAt g l (i+1)).1 ((gAt g l (i+1)).2.map .str),.no,.no,.no]);rw[o i c k,o (i+1) g1 hg1];let hst:=hg1;rw[Qhq lp,k]at hst;let b:Jy Qr c p=some g1:=hst;rw[Oh]at b
    by_cases hwu:BA c p=p.2
    ·rw[Qh hwu]at b;cases b;show ZB (Ov (Qks (i:=3) (j:=6) () (B8 (Z8 GO hr (Vc (Vv 4 ()) Vn) ⟨_,(),y,()⟩)) (Vv 4 ()) (Vv 5 ()) (Vv 4 ()) (bd i c k).2 (AL.h ⟨(),(),QA⟩) "d" (Qk3 (bd i c k).1) Qbd.nd) (Vz (Yx (r:=.next true _) (Qjf (Vv 6 ()) (Vv 5 ())) (λz=>?_) (λ_=>ZY)))) (WkI.wk (.keep (.keep (.keep (.keep (.no (.no (.no .nil)))))))) (λh=>nomatch h)
     ext
    ext
   ·let i:=i0;let y:p0.1.length<=1000:=hts _ (Q6 f1);rw[Oh]at e3
    by_cases hwu:BA g0 p0=p0.2
    ·ext
    ·change QOs _ H [.arg (gvD g fz),.arg a.d,.arg f.d,.odc (gAt g l i0).1 ((gAt g l i0).2.map .str),.any (.str p0.1),.any (.str p0.2),.no] _ (.ret .non);rw[o i0 g0 e1];show Vq (Qks (i:=3) (j:=6) () (B8 (Z8 GO hr (Vc (Vv 4 ()) Vn) ⟨_,(),y,()⟩)) (Vv 4 ()) (Vv 5 ()) (Vv 4 ()) (bd i0 g0 e1).2 (AL.h ⟨(),(),QA⟩) "d" (Qk3 (bd i0 g0 e1).1) Qbd.nd) (Qdx (Yx (r:=.ret .non) (Qjf (Vv 6 ()) (Vv 5 ())) (λ_=>Vz (Z1 Qum)) (λz=>?_)))
     ext
  |some g' =>
   let hll:l.length=a.ts.length:="g"
   let full:JK Qr g (l.take l.length)=-g':="g"
   show Vq (Qxm (m:=false) (jx:=4) (jy:=5) (as:=a.ts.map .str) (bs:=f.ts.map .str) Kr QF () T.bZip (JW (Vv 1 ()) Vi at1) (JW (Vv 2 ()) Vi at1) (Yt _) (Yt _) ?_ (λi u v hu hv=>?_) Qbd.nd) ?_
   ·rfl
   ·let⟨p,lp,rfl,rfl,y⟩:=lat i u v hu hv;let Kt:=(Q3.mp lp).1;let⟨c,k⟩:=Qaq (show i<=l.length by lia) full;let⟨g1,hg1⟩:=Qaq (show i+1<=l.length by lia) full;show⟨false,?_,λh=>nomatch h⟩;change QOs _ H [.arg (gvD g fz),.arg a.d,.arg f.d,.odc (gAt g l i).1 ((gAt g l i).2.map .str),.any (.str p.1),.any (.str p.2),.no] _ (.next false [.arg (gvD g fz),.arg a.d,.arg f.d,.odc (gAt g l (i+1)).1 ((gAt g l (i+1)).2.map .str),.no,.no,.no]);rw[o i c k,o (i+1) g1 hg1];let hst:=hg1;rw[Qhq lp,k]at hst;let b:Jy Qr c p=some g1:=hst;rw[Oh]at b
    by_cases hwu:BA c p=p.2
    ·rw[Qh hwu]at b;cases b;show ZB (Ov (Qks (i:=3) (j:=6) () (B8 (Z8 GO hr (Vc (Vv 4 ()) Vn) ⟨_,(),y,()⟩)) (Vv 4 ()) (Vv 5 ()) (Vv 4 ()) (bd i c k).2 (AL.h ⟨(),(),QA⟩) "d" (Qk3 (bd i c k).1) Qbd.nd) (Vz (Yx (r:=.next true _) (Qjf (Vv 6 ()) (Vv 5 ())) (λz=>?_) (λ_=>ZY)))) (WkI.wk (.keep (.keep (.keep (.keep (.no (.no (.no .nil)))))))) (λh=>nomatch h)
     ext
    ext
   ·let e5:min (a.ts.map D.str).length (f.ts.map D.str).length=l.length:="e"
    rw[e5];change QOs _ H [.arg (gvD g fz),.arg a.d,.arg f.d,.odc (gAt g l l.length).1 ((gAt g l l.length).2.map .str),.no,.no,.no] _ _;rw[o l.length g' full];show Vz (Qsw (i:=3) ())
 ·rw[show JQ Qr g a f=none from Qc hk];show Qdx (Yx (r:=.ret .non) (test _ _ _ _ _ (Qjf (JW (Vv 1 ()) Vi at0) (JW (Vv 2 ()) Vi at0))
   (Qzi (B7 (n:=a.ts.length) T.bLen (JW (Vv 1 ()) Vi at1) (by simp[Qd4]) (λx e=>nomatch e)) (B7 (n:=f.ts.length) T.bLen (JW (Vv 2 ()) Vi at1) (by simp[Qd4]) (λx e=>nomatch e)))) (λ_=>Vz (Z1 Qum)) (λz=>?_)) 
  ext
end
def unA:D->RH.At|.tup [.str k,.tup ts]=>⟨k,ts.map UL⟩|_=>⟨"",[]⟩
def Qdg(a:RH.At):unA a.d=a:=by
 simp[RH.At.d,unA,QL,Ju,UL]
def Ql8(g:WY.Gv):LF (gvD g true)=true:=by
 simp[gvD,LF,Yt]
def Qn2(o:Option WY.Gv):LF (Qkq o)=true:=by
 cases o with
 |none=>rfl|some g=>show Ql8 g
theorem Qbp{α:Type}(f:α->Option WY.Gv):∀l:List α,((l.map λx=>Qkq (f x)).filter Qbr)=(l.filterMap f).map λg=>gvD g true
 |[]=>rfl|x::l=>by
  rw[Qw,Z7,W5];cases f x with
  |none=>show Qbp f l|some g =>
   simp only[Qw];rw[<-Qbp f l];rfl
structure GW(V:List Str)(g:WY.Gv):Prop where
 ok:GOk Qr V g
 few:V.length<=100
 val:∀v∈g.2,v.length<=1000
def GW.term{V:List Str}{g:WY.Gv}(h:GW V g){a:RH.At}(ha:∀t∈a.ts,t.length<=1000):∀t∈(JB g a).ts,t.length<=1000:=λt b=>by
 let⟨x,hx,rfl⟩:=Q4.mp b;unfold sub subst;split
 ·rw[Qi];cases q:g.2[List.idxOf x g.1]? with
  |none=>show ha x hx|some v=>show h.val v (Q6 q)
 ·show ha x hx
section
variable {P:Program} {w:World} {K:W.Frag} {mg:Str->Option Value} {base:Heap} {C:Addr}
def gvs(l:List WY.Gv):List D:=l.map λg=>gvD g true
def Qu3(l:List WY.Gv):LFs (gvs l)=true:=JJ Ql8 l
structure AtOk(a:RH.At):Prop where
 n:a.ts.length<=3
 t:∀t∈a.ts,t.length<=1000
def RJoin(w:World)(C:Addr):List D->List D->Prop:=λds es=>∃(Kx:List WY.Gv)(a:RH.At)(as:List RH.At)(V:List Str),ds=[.lst (gvs Kx),a.d,shD w C as]/\(∀g∈Kx,GW V g)/\AtOk a/\(∀f∈as,AtOk f)/\as.length<=1000/\Kx.length*as.length<=1000000/\es=gvs (WP Qr Kx a as)
abbrev Qdt:List Str:=["found", "atom", "shelf"]
abbrev Je0:List Str:=["found", "atom", "shelf", "longer", "words", "tried"]
def Qf5:Vf Je0 Qdt (Vs Qam):=⟨(),(),(),"k",(),"k","k"⟩
def Qpj{Kx:List WY.Gv}(h:Kx[i]?=-g):WP Qr (Kx.take (i+1)) a as=WP Qr (Kx.take i) a as++as.filterMap (JQ Qr g a):=by
 unfold WP;rw[Yl h,List.flatMap_append]
 simp
def Qxg(T:Txt K mg)(Z:ShC K mg C)(F:Fd K mg "joined" Qam Qdt)(GN:Mt P w K mg base C "near" 2 Qds (spD K 3 (RNear w C)))(GM:PrD P w K mg base "matched" 2 Qox RMatch):PrL P w K mg base "joined" 3 Qdt (RJoin w C):=by
 show Qbj F Qf5 "d" λf0 Kn A outer s H E ds es l t _=>?_
 let⟨Kx,a,b,V,rfl,u,ha,has,v,y,rfl⟩:=t;let z1:=Vl (Q5 _);show WR (W8 (i:=3) (ds:=[]) (WB Vn (Vl "s")) () Qf5.nd) ?_
 letI Kr:Nat->List Sl:=λi=>[.arg (.lst (gvs Kx)),.arg a.d,.arg (shD w C b),.own (gvs (WP Qr (Kx.take i) a b)),.no,.no]
 show WR (Qkv (m:=false) (j:=4) (k:=0) Kr QF () () () (λi d hd=>?_) Qf5.nd) ?_
 ·unfold gvs at hd;rw[Qd]at hd;cases q:Kx[i]? with
  |none=>ext|some g =>
   rw[q]at hd;cases hd;show⟨false,?_,λh=>nomatch h⟩;let c:=u g (Q6 q);let hj:(WP Qr (Kx.take i) a b).length+b.length<=1000000:=by
    let o:=BP (op:=Qr) (a:=a) (fs:=b) (Kx.take i);let z:(Kx.take i).length+1<=Kx.length:=by
     grind
    let h3:((Kx.take i).length+1)*b.length<=Kx.length*b.length:=Nat.mul_le_mul_right _ z
    grind
   change QOs _ H [.arg (.lst (gvs Kx)),.arg a.d,.arg (shD w C b),.own (gvs (WP Qr (Kx.take i) a b)),.arg (gvD g true),.no] _ (.next false [.arg (.lst (gvs Kx)),.arg a.d,.arg (shD w C b),.own (gvs (WP Qr (Kx.take (i+1)) a b)),.no,.no]);rw[Qpj q,<-Qkw c.ok b];let p:(U7 Qr b a g).length<=b.length:=by
    let⟨key,_,e⟩:=Qbs b a g;rw[e];show Zn _ _
   show ZB (YB (UU (i:=5) (f:=λd=>Qkq (JQ Qr g a (unA d))) (WL.mpr λd hd=>?_) Qf5.nd () (ZU (Jcj (Jcd (n:=3) (Vv 2 ()) Z.cl GN l (Vc (Vv 1 ()) (Vc (Vv 4 ()) Vn)) ⟨b,a,g,true,(),c.ok.len,ha.n,c.term ha.t,()⟩ () "k"))) (Vl "g") (λd hd cl Cc r H' ex=>?_)) (Vz (Qt2 (i:=3) () (Qgj (f:=id) () (ZU (Vv 5 ())) (Vl "g") (λd hd cl Cc r H' ex=>Qr0 (Qv7 (Vv 0 ()))) (λd hd _ cl Cc r H' ex=>Vv 0 ())) ?_ (AL.h QA) ?_))) ?_ (λh=>nomatch h)
   ·let⟨x,_,rfl⟩:=Q4.mp hd;show Qn2 _
   ·let⟨x,hx,rfl⟩:=Q4.mp hd;rw[Qdg];let ax:=has x (Qt5 hx);let:=ax.n;show Z8 GM l (Vc (Vv 5 ()) (Vc (Vv 2 ()) (Vc (Vv 0 ()) Vn))) ⟨g,a,x,V,true,(),c.ok,c.few,ha.n,"l",ha.t,()⟩
   ·rw[Qvm];show WL.mpr λd hd=>?_
    let⟨o,_⟩:=QS.mp hd;let⟨x,_,rfl⟩:=Q4.mp o;show Qn2 _
   ·let h4:=Zn Qbr (((U7 Qr b a g).map RH.At.d).map λd=>Qkq (JQ Qr g a (unA d)));unfold gvs
    grind
   ·let e:((((U7 Qr b a g).map RH.At.d).map λd=>Qkq (JQ Qr g a (unA d))).filter Qbr).map id=gvs ((U7 Qr b a g).filterMap (JQ Qr g a)):=by
     rw[Qvm,QL];let:=Qbp (λx=>JQ Qr g a x) (U7 Qr b a g);unfold gvs;rw[<-this];congr 1;show Jb λx _=>?_
     change Qkq (JQ Qr g a (unA x.d))=_;rw[Qdg]
    rw[e];let e2:gvs (WP Qr (Kx.take i) a b++(U7 Qr b a g).filterMap (JQ Qr g a))=gvs (WP Qr (Kx.take i) a b)++gvs ((U7 Qr b a g).filterMap (JQ Qr g a)):=by
     unfold gvs
     ext
    rw[e2];show WkI.wk (.keep (.keep (.keep (.keep (.no (.no .nil))))))
 ·let e:(gvs Kx).length=Kx.length:=by simp[gvs]
  rw[e];change QOs _ H [.arg (.lst (gvs Kx)),.arg a.d,.arg (shD w C b),.own (gvs (WP Qr (Kx.take Kx.length) a b)),.no,.no] _ _;rw[QY];show Vz (U6 (i:=3) ())
end
def kD(atoms:List RH.At)(g:WY.Gv):D:=.tup ((Y9 atoms g).map RH.At.d)
def Qyk{a b:RH.At}(h:a.d=b.d):a=b:=Qny (by
 let:D.tup (atL a)=D.tup (atL b):=h
 ext)
theorem Qjh:∀{a b:List RH.At},a.map RH.At.d=b.map RH.At.d->a=b
 |[],[],_=>rfl|[],_::_,h=>by simp at h|_::_,[],h=>by simp at h|x::a,y::b,h=>by
  simp only[Qw,List.cons.injEq]at h;rw[Qyk h.1,Qjh h.2]
def Qts:kD atoms g=kD atoms g'↔Y9 atoms g=Y9 atoms g':=by
 constructor
 ·intro h;injection h with h
  show Qjh h
 ·intro h;unfold kD;rw[h]
def Qg6{acc:List WY.Gv}:kD atoms g∈acc.map (kD atoms)↔Y9 atoms g∈acc.map (Y9 atoms):=by
 simp only[Q4];constructor
 ·rintro⟨x,a,b⟩;show⟨x,a,Qts.mp b⟩
 ·rintro⟨x,a,b⟩;show⟨x,a,Qts.mpr b⟩
theorem Qji:∀l:List RH.At,deps (l.map RH.At.d)<=3
 |[]=>by simp[deps]|a::l=>by
  let b:dep a.d<=3:=Qco a;let c:=Qji l;simp only[Qw,deps]
  lia
def Qtr(atoms:List RH.At)(g:WY.Gv):XKey (kD atoms g):=by
 show⟨?_,?_,_,()⟩
 ·unfold kD;show J5.mpr λd hd=>by
   let⟨a,_,rfl⟩:=Q4.mp hd;show(Uw a).1
 ·unfold kD;rw[dep];let:=Qji (Y9 atoms g)
  lia
def Qol{Kx:List WY.Gv}(h:Kx[i]?=-g):WG (Kx.take (i+1)) atoms=W7 atoms (WG (Kx.take i) atoms) g:=by
 unfold WG;rw[Yl h,Zy];rfl
section
variable {P:Program} {w:World} {K:W.Frag} {mg:Str->Option Value} {base:Heap} {C:Addr}
def RThin:List D->List D->Prop:=λds es=>∃(Kx:List WY.Gv)(atoms:List RH.At)(V:List Str),ds=[.lst (gvs Kx),.lst (atoms.map RH.At.d)]/\(∀g∈Kx,GW V g)/\(∀a∈atoms,AtOk a)/\atoms.length<=1000/\Kx.length<=1000000/\es=gvs (WG Kx atoms)
abbrev Qdr:List Str:=["found", "atoms"]
abbrev Jdw:List Str:=["found", "atoms", "firsts", "words"]
def Qkf:Vf Jdw Qdr (Vs Qme):=⟨(),(),(),"k",(),"k","k"⟩
def Qx9(T:Txt K mg)(F:Fd K mg "thinned" Qme Qdr)(GF:PrD P w K mg base "filled" 1 BO RFilled):PrL P w K mg base "thinned" 2 Qdr RThin:=by
 show Qbj F Qkf "d" λf0 Kn A outer s H E ds es n p _=>?_
 let⟨Kx,a,V,rfl,r,ha,t,u,rfl⟩:=p;let z1:(1000000:Nat)<sizeLine:="d"
 let l:=lt15 (hu22 n);show WR (Qsu (i:=2) Qkf.nd) ?_
 letI b:=λi=>(WG (Kx.take i) a).map (kD a)
 letI Kr:Nat->List Sl:=λi=>[.arg (.lst (gvs Kx)),.arg (.lst (a.map RH.At.d)),.odx ((b i).map (Jg w)) (b i) (gvs (WG (Kx.take i) a)),.no]
 show WR (Qkv (m:=false) (j:=3) (k:=0) Kr QF () () () (λi d hd=>?_) Qkf.nd) ?_
 ·unfold gvs at hd;rw[Qd]at hd;cases q:Kx[i]? with
  |none=>ext|some g =>
   rw[q]at hd;cases hd;show⟨false,?_,λh=>nomatch h⟩;let v:=r g (Q6 q);change QOs _ H [.arg (.lst (gvs Kx)),.arg (.lst (a.map RH.At.d)),.odx ((b i).map (Jg w)) (b i) (gvs (WG (Kx.take i) a)),.arg (gvD g true)] _ (.next false [.arg (.lst (gvs Kx)),.arg (.lst (a.map RH.At.d)),.odx ((b (i+1)).map (Jg w)) (b (i+1)) (gvs (WG (Kx.take (i+1)) a)),.no]);let o:b (i+1)=JY (b i) (kD a g)/\gvs (WG (Kx.take (i+1)) a)=defXv (b i) (gvs (WG (Kx.take i) a)) (kD a g) (gvD g true):=by
    change(WG (Kx.take (i+1)) a).map (kD a)=JY ((WG (Kx.take i) a).map (kD a)) (kD a g)/\gvs (WG (Kx.take (i+1)) a)=defXv ((WG (Kx.take i) a).map (kD a)) (gvs (WG (Kx.take i) a)) (kD a g) (gvD g true);rw[Qol q];unfold W7 JY defXv
    by_cases c:Y9 a g∈(WG (Kx.take i) a).map (Y9 a)
    ·rw[Qh c,Qh (Qg6.mpr c),Qh (Qg6.mpr c)]
     ext
    ·rw[Qc c,Qc (λz=>c (Qg6.mp z)),Qc (λz=>c (Qg6.mp z))];show⟨"s",by simp[gvs]⟩
   rw[o.1,o.2];show ZB (Vz (Jbj l () (λk y=>?_) (Qtr a g) (W2 T.bTup (PDL.pd (YG (Zu (f:=λd=>(JB g (unA d)).d) () (ZU (Vv 1 ())) (Vl "g") λd hd cl Cc s' H' ex=>?_) ?_)) (.inl ())) (Vv 3 ()) (Ql8 g) (AL.h QA) (OneX.h (i:=2) QA) ?_)) (WkI.wk (.keep (.keep (.keep (.no .nil))))) (λh=>nomatch h)
   ·let⟨x,_,rfl⟩:=Q4.mp y;show Qtr a x
   ·let⟨x,hx,rfl⟩:=Q4.mp hd;rw[Qdg];let:=(ha x hx).n;show Z8 GF n (Vc (Vv 0 ()) (Vc (Vv 4 ()) Vn)) ⟨x,g,true,(),v.ok.len,"l",()⟩
   ·unfold Y9;rw[QL,QL];show Jb λx _=>?_
    change(JB g (unA x.d)).d=_;rw[Qdg];rfl
   ·change((WG (Kx.take i) a).map (kD a)).length<sizeLine;let h1:=Qb4 (as:=a) (Kx.take i) [];unfold WG
    grind
 ·let e:(gvs Kx).length=Kx.length:=by simp[gvs]
  rw[e];change QOs _ H [.arg (.lst (gvs Kx)),.arg (.lst (a.map RH.At.d)),.odx ((b Kx.length).map (Jg w)) (b Kx.length) (gvs (WG (Kx.take Kx.length) a)),.no] _ _;rw[QY];show Vz (UV (Qlj () T.bLst (Vv 2 ())))
end
end K07
namespace L2
open PySem PySem.Spec PyProof.Rows
section
variable {X:Cx} {ρ:List (Option D)}
def Qj0{us:List (D×D)}{f:D->D->D}(hz:us.length<=sizeLine)(q:rdL X.K ρ (us.map λp=>f p.1 p.2) σ H Q):
  Qr3 X.K (Qih X.K (rdD X.K ρ (.lst (us.map λu=>.tup [u.1,u.2])))) Jcx (λσ H Q=>∃u v,(u,v)∈us/\rdD X.K (-u::-v::ρ) (f u v) σ H Q) σ H Q:=by
 let⟨k,q⟩:=q;show⟨k,λv H1 g w=>?_⟩;let⟨x,b,rfl,c,n⟩:=We w;let y:=n.length;rw[Qb]at y;show⟨x,(),⟨b,c⟩,λi m h H2=>Same H1 H2/\i<=us.length/\m=us.length-i/\Va X.K H2 ((us.take i).map λp=>f p.1 p.2) h,⟨_,Same.refl _,QJ _,(),by rfl⟩,?_⟩;rintro i m h H2 ⟨a,hi,rfl,r⟩
 by_cases Kt:i<us.length
 ·show .inr ⟨⟨b,b[i]'"o",a.seq c,"s"⟩,?_,λv H3 yl=>?_⟩
  ·let:=r.length
   grind
  ·let⟨rfl,hx⟩:=yl;let⟨d,o,id⟩:=n.at (hx b (a.seq c));let s:=Qa Kt;rw[Qd,s]at o;cases o;let⟨p,vs,rfl,hq,ia⟩:=JS (id.same a);let⟨vx,vy,rfl,iu,iw⟩:=ia.two;show⟨p,vx,vy,(),hq,?_⟩;show⟨_,_,Q6 s,((k.same (g.trans a)).cons iw).cons iu,λz H5 t iz=>⟨us.length-(i+1),"o",a.trans t,Kt,(),?_⟩⟩;let j:us.take (i+1)=us.take i++[us[i]]:="e"
   rw[j,J1];show(r.same t).append (Vg iz Jq)
 ·let e:="o"
  show .inl ⟨⟨b,a.seq c,"o"⟩,λl hl=>q l h _ ((g.trans a).free hl) ((g.trans a).trans (Same.upd hl)) Vu (Va.same (Same.upd hl) ?_)⟩
  grind
variable {H₀:Hp} {τ:List Sl} {pos:Pos}
def Qkt{us:List (D×D)}{f:D->D->D}(hl:LFs (us.map λp=>f p.1 p.2)=true)(hN:X.N.Nodup)(hc:X.calm=true)(ha:PD X (dat τ) iter (.lst (us.map λu=>.tup [u.1,u.2])))(hz:us.length<=sizeLine)
  (he:∀u v,(u,v)∈us->∀cl C s H ex,PD (cxP X x y scope cl C s H ex) (-u::-v::dat τ) elt (f u v))
  (hzi:X.N[i]?=some z:=by rfl) (hzl:X.env.scope.names.lookup z=some .local:=by rfl) (hok:ZV X.N X.env.scope x scope=true:=by rfl) (hy:scope.names.lookup y=some .local:=by rfl) (hnd:(x::y::X.N).Nodup:=by decide) (hf:∀v,foldedSetIterable iter X.env v=pure v:=by intro _;rfl)
  (hsw:swapsWith (.ListComp elt [⟨.Tuple [.Name x px,.Name y py] tk tp,iter,[],0⟩] scope cp) (-(.Name z pz)) pos.line X.env=pure true:=by rfl) :
  QO X H₀ τ (.Assign [.Name z pz] (.ListComp elt [⟨.Tuple [.Name x px,.Name y py] tk tp,iter,[],0⟩] scope cp) pos) (.next true (τ.set i (.own (us.map λp=>f p.1 p.2)))):=
 ⟨(Qrt hN hzi hzl hc (Ye ha.pe) (λ_ _ _ _ _=>Qms) (λcl C s H ex Kz b a H' Q I ⟨u,v,c,q⟩=>(he u v c cl C s H ex).pe Kz b a H' Q I q) hok hy hnd hf hsw).imp λD a H q =>
  Qj0 hz ⟨q.1.env,λp g H' n s d e=>q.2 _ H' s (q.1.setOwn i n s d hl e)⟩⟩
def Qxp{x y z:Str}{px py pz tp cp ep:Pos}{tk:Nat}{body:List Stmt}{jx jy k:Nat}{ds:List D}{m:Bool}(Kr:Nat->List Sl)(hp:PassesOwn (model X.prog X.w) X.A X.env X.xe)(hc:X.calm=true)(hm:X.mg "enumerate"=none)(hk:τ[k]?=-(.arg (.lst ds)))
  (h0:Kr 0=τ) (hb:∀(i:Nat)(d:D),ds[i]?=-d->∃n,QOs X H₀ (((Kr i).set jx (.any (.int i))).set jy (.arg d)) body (.next n (Kr (i+1)))/\(m=true->n=true))
  (hN:X.N.Nodup) (hz:X.N[k]?=some z:=by rfl) (hv:Vis X.env.scope z:=by first|show QI rfl|show QB (QI ())|show QB (QB ())) (hdb:(z==("__debug__":Str))=false:=by decide) (hcd:(z==("__classdict__":Str))=false:=by decide)
  (hx:X.N[jx]?=some x:=by rfl) (hy:X.N[jy]?=some y:=by rfl) (lx:Loc X.env.scope x:=by first|show QI rfl|show QB ()) (ly:Loc X.env.scope y:=by first|show QI rfl|show QB ())
  (fx:X.fn x=true\/X.env.scope.names.lookup x=some .local:=by first|show .inl rfl|show .inr ()) (fy:X.fn y=true\/X.env.scope.names.lookup y=some .local:=by first|show .inl rfl|show .inr ())
  (hg:Gl X "enumerate":=by rfl) (hse:starEach [.Name z pz] X.env=[(false,eval (.Name z pz) X.env)]:=by rfl) (hs:∀v,foldedSetIterable (.Call (.Name "enumerate" ep) [.Name z pz] [] cp) X.env v=pure v:=by intro _;rfl) :
  QO X H₀ τ (.For (.Tuple [.Name x px,.Name y py] tk tp) (.Call (.Name "enumerate" ep) [.Name z pz] [] cp) body [] pos) (.next m (Kr ds.length)):=by
 let j:PSs X body (λD g H=>∃i d,ds[i]?=-d/\rdO X.K H₀ (((Kr i).set jx (.any (.int i))).set jy (.arg d)) (.next m (Kr (i+1))) D g H):=λKz s g H D I ⟨i,d,hd,q⟩=>by
  let⟨n,h,hn⟩:=hb i d hd;show h.pe Kz s g H D I ⟨q.1,λKu H' t=>q.2 Ku H' (t.weak hn)⟩
 show⟨(YO hp hc (Qrz hg hm (WK (Wv hz hv hdb hcd) Zr hse) hse) (Oo (n:=2) hc (Vh (JR (i:=jx) hN hx lx fx) (Vh (JR (i:=jy) hN hy ly fy) Gw))) j hs).imp λD g H q=>?_⟩;let⟨o,e1,v,rfl,iv⟩:=q.1.sl k _ hk;let⟨a,b,rfl,h,r⟩:=We iv;let Ks:=r.length;show⟨_,e1,a,(),⟨b,q.1.same.seq h⟩,λi k Ku H'=>i<=ds.length/\k=ds.length-i/\EnvO X.K H₀ H' Ku (Kr i)/\Rl m H H',⟨ds.length,QJ _,(),by rw[h0];show q.1,Rl.refl H⟩,?_⟩;rintro i k Ku H' ⟨hi,rfl,l,c⟩;let w:=l.same.seq h
 by_cases Kt:i<ds.length
 ·show .inr ⟨⟨b,b[i]'"l",w,"s"⟩,λf H2=>EnvO X.K H₀ H2 f (Kr (i+1))/\Rl m H' H2,λf H2 ⟨he2,hm2⟩=>⟨ds.length-(i+1),"l",Kt,(),he2,?_⟩,λv H2 yl=>?_⟩
  ·let:=c.trans hm2;rwa [Ux]at this
  let⟨p,u,rfl,np,rfl,hu⟩:=yl;let⟨d,hd,id⟩:=r.at (hu b w);let s3:Same H' (upd H' p (.tup [.int i,u])):=Same.upd np;show⟨p,[.int i,u],(),.inl (.inl Vu),(),.int i,[u],(),u,[],(),(),i,d,hd,?_,λσ3 H3 t3 he3=>⟨he3,?_⟩⟩
  ·show((l.step s3).set (s:=.any (.int i)) jx ⟨_,(),Y4 _⟩ λKq e=>nomatch e).set (s:=.arg d) jy ⟨u,(),id⟩ λKq e=>nomatch e
  ·let:=(Rl.of (m:=m) s3).trans t3;rwa [Ux]at this
 ·let e:i=ds.length:="l"
  subst e;show .inl ⟨⟨b,w,"l"⟩,q.2 Ku H' c l⟩
end
end L2
namespace K07
open PySem L2 RH WY
def Qq0{α:Type}(l:List α)(n:Nat):O3 l (-(n:Int)) none=l.drop n:=by
 unfold O3;rw[HT.Qfe,HT.Qrh]
 by_cases h:n<=l.length
 ·rw[Nat.min_eq_left h,Jh "e"]
 ·rw[Nat.min_eq_right "l",List.drop_of_length_le (Q5 _),List.drop_of_length_le "l",List.take_nil]
def fAt(os:List (RH.At×List RH.At))(Ky:List RH.At):Nat->List WY.Gv
 |0=>[([],[])]|i+1=>match os[i]? with
  |some q=>WG (WP Qr (fAt os Ky i) q.1 q.2) ((os.drop (i+1)).map (·.1)++Ky)|none=>fAt os Ky i
def BU{os:List (RH.At×List RH.At)}(h:os[i]?=-q):fAt os Ky (i+1)=WG (WP Qr (fAt os Ky i) q.1 q.2) ((os.drop (i+1)).map (·.1)++Ky):=by
 change(match os[i]? with|some q=>_|none=>_)=_;rw[h]
theorem Qec(os:List (RH.At×List RH.At))(Ky:List RH.At):∀i,i<=os.length->Zf Qr Ky (fAt os Ky i) (os.drop i)=Zf Qr Ky [([],[])] os
 |0,_=>by rfl|i+1,h=>by
  let a:=Qa h;rw[<-Qec os Ky i "l",BU a,Bw h];rfl
def Qgf(os:List (RH.At×List RH.At))(Ky:List RH.At):fAt os Ky os.length=Zf Qr Ky [([],[])] os:=by
 rw[<-Qec os Ky os.length (Q5 _),List.drop_length];rfl
theorem Qlh{os:List (RH.At×List RH.At)}{Ky:List RH.At}(ha:∀q∈os,AtOk q.1/\∀f∈q.2,AtOk f):∀i,∃V:List Str,V.length<=3*i/\∀g∈fAt os Ky i,GOk Qr V g/\∀v∈g.2,v.length<=1000
 |0=>⟨[],Q5 _,λg a=>by
  let:g=([],[]):=by simpa[fAt]using a
  subst this;show⟨⟨(),(),JD,λ_ z=>nomatch z⟩,λ_ z=>nomatch z⟩⟩
 |i+1=>by
  let⟨V,s,c⟩:=Qlh (Ky:=Ky) ha i;cases q:os[i]? with
  |none =>
   show⟨V,"l",λg a=>c g ?_⟩;let e:fAt os Ky (i+1)=fAt os Ky i:=by
    change(match os[i]? with|some q=>_|none=>_)=_;rw[q]
   rwa [e]at a
  |some p =>
   let⟨d,h⟩:=ha p (Q6 q);show⟨Y8 Qr V p.1.ts,?_,λg a=>?_⟩
   ·let:=Gm (op:=Qr) p.1.ts V;let:=d.n
    lia
   ·rw[BU q]at a;rcases BD a with z|z
    ·cases z
    ·let⟨j,k,f,l,b⟩:=UX.mp z;let⟨m,n⟩:=c j k;show⟨(U8 m b).1,λv o=>?_⟩;unfold JQ at b;split at b
     ·rcases Qb3 _ b v o with y|⟨pr,r,rfl⟩
      ·show n v y
      ·show(h f l).t _ (Zl r).2
     ·cases b
section
variable {P:Program} {w:World} {K:W.Frag} {mg:Str->Option Value} {base:Heap} {C:Addr}
noncomputable def oD(w:World)(C:Addr)(q:RH.At×List RH.At):D:=.tup [q.1.d,shD w C q.2]
structure OrdOk(os:List (RH.At×List RH.At))(Ky:List RH.At):Prop where
 at_:∀q∈os,AtOk q.1/\∀f∈q.2,AtOk f
 few:∀q∈os,q.2.length<=1000
 len:os.length<=30
 last:∀a∈Ky,AtOk a
 lens:Ky.length<=900
 size:∀(i:Nat)q,os[i]?=-q->(fAt os Ky i).length*q.2.length<=1000000
def RAlong(w:World)(C:Addr):List D->List D->Prop:=λds es=>∃(os:List (RH.At×List RH.At))(Ky:List RH.At),ds=[.lst (os.map (oD w C)),.lst (Ky.map RH.At.d)]/\OrdOk os Ky/\es=gvs (Zf Qr Ky [([],[])] os)
abbrev Ou:List Str:=["order", "lasting"]
abbrev Qtb:List Str:=["order", "lasting", "found", "place", "pair", "later"]
def BF:Vf Qtb Ou (Vs Qfi):=⟨(),(),(),"k",(),"k","k"⟩
def Qsp(T:Txt K mg)(F:Fd K mg "ways_along" Qfi Ou)(GJ:PrL P w K mg base "joined" 3 Qdt (RJoin w C))(GT:PrL P w K mg base "thinned" 2 Qdr RThin):PrL P w K mg base "ways_along" 4 Ou (RAlong w C):=by
 show Qbj F BF "d" λf0 Kn A outer s H E ds es r hR _=>?_
 let⟨os,Ky,rfl,ok,rfl⟩:=hR;let z1:=Vl (Q5 _);let t:=ok.len;let hl9:=ok.lens;show WR (W8 (i:=2) (WB (Vc (Qzf Qug ()) Vn) (Vl "d")) () BF.nd) ?_
 letI Kr:Nat->List Sl:=λi=>[.arg (.lst (os.map (oD w C))),.arg (.lst (Ky.map RH.At.d)),.own (gvs (fAt os Ky i)),.no,.no,.no]
 show WR (Qxp (m:=true) (jx:=3) (jy:=4) (k:=0) Kr QF () T.bEnu () () (λi d hd=>?_) BF.nd) ?_
 ·rw[Qd]at hd;cases q:os[i]? with
  |none=>ext|some p =>
   rw[q]at hd;cases hd;show⟨true,?_,λ_=>rfl⟩;let Kt:=(Q3.mp q).1;let⟨V,hV,j⟩:=Qlh ok.at_ i;let gw:∀g∈fAt os Ky i,GW V g:=λg h=>⟨(j g h).1,"l",(j g h).2⟩
   let⟨x,z⟩:=ok.at_ p (Q6 q);let c:=ok.size i p q;change QOs _ H [.arg (.lst (os.map (oD w C))),.arg (.lst (Ky.map RH.At.d)),.own (gvs (fAt os Ky i)),.any (.int i),.arg (.tup [p.1.d,shD w C p.2]),.no] _ (.next true [.arg (.lst (os.map (oD w C))),.arg (.lst (Ky.map RH.At.d)),.own (gvs (fAt os Ky (i+1))),.no,.no,.no]);rw[BU q];let l:(os.map (oD w C)).drop (i+1)=((os.drop (i+1)).map λq=>(q.1.d,shD w C q.2)).map λu=>.tup [u.1,u.2]:=by
    rw[QL,<-List.map_drop];rfl
   let eL:(((os.drop (i+1)).map λq=>(q.1.d,shD w C q.2)).map λp=>(λ(u _:D)=>u) p.1 p.2)=((os.drop (i+1)).map (·.1)).map RH.At.d:=by
    rw[QL,QL];rfl
   show ZB (YB (Qkt (i:=5) (by rw[eL];show JJ Ys _) BF.nd () (PDL.pd (YG (Qc8 (Vv 0 ()) (GE (ZF (Vv 3 ()) Vi)) Qno) (by rw[show((i:Int)+1)=((i+1:Nat):Int) by lia,Qq0,l]))) (Vl "g") (λu v hm cl Cc s' H' ex=>Vv 0 ()) (hnd:=(by decide +kernel:(("atom":Str):: "shelf"::Qtb).Nodup)))
    (Vz (W8 (i:=2) (Zv GT (r.mono "d") (Vc (PDL.pd (Zv GJ r (Vc (Vv 2 ()) (Vc (JW (Vv 4 ()) Vi at0) (Vc (JW (Vv 4 ()) Vi at1) Vn))) ⟨fAt os Ky i,p.1,p.2,V,(),gw,x,z,ok.few p (Q6 q),c,()⟩))
     (Vc (PDL.pd (YG (Qgk (Vv 5 ()) (Vv 1 ()) "g") "e")) Vn)) ⟨WP Qr (fAt os Ky i) p.1 p.2,(os.drop (i+1)).map (·.1)++Ky,Y8 Qr V p.1.ts,(),?_,?_,?_,?_,()⟩) (Qu3 _) BF.nd))) (WkI.wk (.keep (.keep (.keep (.no (.no (.no .nil))))))) (λh=>h)
   ·intro g n;let⟨g0,k1,f,k2,e⟩:=UX.mp n;let⟨o1,o2⟩:=j g0 k1;show⟨(U8 o1 e).1,?_,λv hv=>?_⟩
    ·let:=Gm (op:=Qr) p.1.ts V;let:=x.n
     lia
    ·unfold JQ at e;split at e
     ·rcases Qb3 _ e v hv with y|⟨pr,y1,rfl⟩
      ·grind
      ·show(z f k2).t _ (Zl y1).2
     ·cases e
   ·intro a b;rcases Qt.mp b with b|b
    ·let⟨q',o,rfl⟩:=Q4.mp b;show(ok.at_ q' (JE o)).1
    ·show ok.last a b
   ·grind
   ·show Qx (BP _) c
 ·rw[Qb];change QOs _ H [.arg (.lst (os.map (oD w C))),.arg (.lst (Ky.map RH.At.d)),.own (gvs (fAt os Ky os.length)),.no,.no,.no] _ _;rw[Qgf];show Vz (U6 (i:=2) ())
end
end K07
namespace K07
open PySem L2 RH
abbrev Qal:Stmt:=top 26
theorem Qhe:∀a b:List Str,cmbs (a.map D.str) (b.map D.str)=true
 |[],_=>by simp[cmbs]|_::_,[]=>by simp[cmbs]|x::a,y::b=>by simp[cmbs,cmb,Qhe a b]
def Qv9(l:List RH.At):Srtb (l.map RH.At.d):=⟨λd hd=>by
 let⟨a,_,rfl⟩:=Q4.mp hd;show⟨a.k,_,(),by simp[keyOk,keyOks,Qm6],?_⟩;let:=Qb7 a.ts;simp[dep,deps]
 lia,λd hd e c=>by
 let⟨a,_,rfl⟩:=Q4.mp hd;let⟨b,_,rfl⟩:=Q4.mp c;simp[RH.At.d,cmb,cmbs,Qhe]⟩
def OY(ns:List Int):Nat:=if mix (cell ns 3) 9479 7=3 then 24 else 10
def cutF(ns:List Int):List Int:=O3 ns (-9) (-(9+(OY ns:Int)))
def BJ(ns:List Int):List D:=(cutF ns).map λc=>(fact ns c).d
noncomputable def Bn(ns:List Int):List D:=Wa (ST.Ut (BJ ns))
def Qtk(ns:List Int):OY ns<=24:=by unfold OY;grind
def Qix(ns:List Int):(cutF ns).length<=24:=Qx (Qiy ns 9 (OY ns)) (Qtk ns)
def Qwi(ns:List Int):BJ ns=((cutF ns).map (fact ns)).map RH.At.d:=by unfold BJ;rw[QL];rfl
section
variable {P:Program} {w:World} {K:W.Frag} {mg:Str->Option Value} {base:Heap}
abbrev Qdu:List Str:=["_law_script", "_law_cell_here"]
abbrev Je2:List Str:=["_law_script", "_law_cell_here", "_law_kind", "_law_words_here", "_law_terms"]
def Qf8:Vf Je2 Qdu (Vs Qmi):=⟨(),(),(),"k",(),"k","k"⟩
def RFact:List D->D->Prop:=λds d=>∃(ns:List Int)(c:Int),ds=[scr ns,.int c]/\ns.length<=63/\d=(fact ns c).d
def Qh3(ns:List Int):words ns≠[]:=λh=>by rcases ZJ ns with z|z<;>simp[h]at z
def Qxi(T:Txt K mg)(F:Fd K mg "_law_fact" Qmi Qdu)(G3:PrD P w K mg base "_law_mix" 1 Qbn RMix)(G4:PrL P w K mg base "_law_words" 3 ["_law_script"] (RNs words))(G5:PrL P w K mg base "_law_kinds" 3 ["_law_script"] (RNs kinds))
  (G6:PrD P w K mg base "_law_size" 2 Ya RSize) (G7:PrD P w K mg base "_law_some" 2 BN RSome):PrD P w K mg base "_law_fact" 4 Qdu RFact:=by
 show UF F Qf8 "d" λf Kn A outer s H E r d g o _=>?_
 let⟨ns,c,rfl,a,rfl⟩:=o;let h:=g.mono (show 1<=3 by decide);let b:=g.mono (show 2<=3 by decide);let l:=Qin c;let p:=Ww c 9839 (m:=6) "l";let k:mix c 9839 6=(WW c:Nat):=by unfold WW;lia
 let q:=Yz ns (WW c);show Vq (m:=true) (τ1:=[.arg (scr ns),.arg (.int c),.any (.int (WW c:Nat)),.no,.no]) ?_ ?_
 ·rw[<-k];show Zi (i:=2) (YH G3 h (Vv 1 ()) Vi Vi "d" "d") Qf8.nd
 show Vq (W8 (i:=3) (Zv G4 g (Vc (Vv 0 ()) Vn) ⟨ns,(),a,()⟩) (Yc _) Qf8.nd) ?_;show Vq (m:=true) (τ1:=[.arg (scr ns),.arg (.int c),.any (.int (WW c:Nat)),.own ((words ns).map .str),.own ((fact ns c).ts.map .str)]) ?_ ?_
 ·let e:(fact ns c).ts.map D.str=(Wu 0 (size ns (WW c))).map (λd=>match d with|.int j=>.str (pick (c+11*(j.toNat:Nat)) (words ns))|d=>d):=Qbk (λj=>c+11*j) _ _;rw[e];show UU (i:=4) (by rw[<-e];show Yc _) Qf8.nd () (Yh (n:=(size ns (WW c):Nat)) T.bRng (Z8 G6 b (Vc (Vv 0 ()) (Vc (Vv 2 ()) Vn)) ⟨ns,_,(),l,()⟩) "l" "l") (by rw[Yn];show Vl "l") λd hd cl C s H ex=>?_
  let⟨j,t,rfl⟩:=Q4.mp hd;show Z8 G7 b (Vc (ZF (Vv 2 ()) (O1 Vi (Vv 0 ()) (.inl ⟨"d","d"⟩))) (Vc (Vv 4 ()) Vn)) ⟨c+11*j,words ns,"s",Qh3 ns,"s"⟩
 ·show Vz (Z1 ?_);show Vp (Vc (JW (PDL.pd (Zv G5 g (Vc (Vv 0 ()) Vn) ⟨ns,(),a,()⟩)) (Vv 2 ()) (kix ns l)) (Vc (W2 T.bTup (Vv 4 ()) (.inl ())) Vn)) (Vl "s")
abbrev Jbp:List Str:=["_law_script", "_law_most"]
def Qf7:Vf Jbp ["_law_script"] (Vs Qal):=⟨(),(),(),"k",(),"k","k"⟩
def Qsm(T:Txt K mg)(F:Fd K mg "_law_facts" Qal ["_law_script"])(G1:PrD P w K mg base "_law_cell" 1 Ya RCell)(G3:PrD P w K mg base "_law_mix" 1 Qbn RMix)(GF:PrD P w K mg base "_law_fact" 4 Qdu RFact):PrD P w K mg base "_law_facts" 5 ["_law_script"] (RNsT Bn):=by
 show UF F Qf7 "d" λf Kn A outer s H E n d g l _=>?_
 let⟨ns,rfl,a,rfl⟩:=l;let j:=g.mono (show 1<=4 by decide);show Vq (Zi (i:=1) Vi Qf7.nd) ?_;show Vq (m:=true) (τ1:=[.arg (scr ns),.any (.int (OY ns))]) ?_ ?_
 ·show Yx (Qk9 a T.bLen G1 G3 j (λp=>Vv 0 ())) (λh=>?_) (λh=>?_)
  ·let e:OY ns=24:=Qh (Qo5 h);rw[e];show Vz (Zi (i:=1) Vi Qf7.nd)
  ·let e:OY ns=10:=Qc (Qjt h);rw[e];show ZY
 let e:BJ ns=(O3 (ns.map D.int) (-9) (-(9+(OY ns:Int)))).map (λd=>match d with|.int c=>(fact ns c).d|d=>d):=by
  rw[Ub];simp[BJ,cutF,QL,Ju]
 let hl:=Qix ns;let k:(BJ ns).length<=24:=by unfold BJ;ext
 let b:Srtb (BJ ns):=by rw[Qwi];show Qv9 _
 unfold Bn;rw[e]at b k ⊢;show Vz (Z1 (W2 T.bTup (PDL.pd (Qgi (hu22 g) () T.bSrt T.bSet (PDL.pd (Zu () (ZU (PDL.pd (Qc8 (Vv 0 ()) (GE Vi) (GE (ZF Vi (Vv 1 ())))))) ?_ λd hd cl C s H ex=>?_)) b "l")) (.inl ())))
 ·rw[Ub,Qb];show Vl (Qx hl "d")
 ·rw[Ub]at hd;let⟨c,_,rfl⟩:=Q4.mp hd;show Z8 GF g (Vc (Vv 1 ()) (Vc (Vv 0 ()) Vn)) ⟨ns,c,(),a,()⟩
end
end K07
namespace L2
open PySem PySem.Spec PyProof.Rows PySem.W
section
variable {X:Cx} {ρ:List (Option D)} {a o:Expr} {ks:List Str} {ds:List D} {pos:Pos} {to:TE} {name:Str} {apos cpos:Pos} {id:String} {r:V->List V->Hp->VK->Prop}
def Jb3(slot:Slot "dict" name id)(hty:typeOf (.builtin id)=pure (.type "method_descriptor"))(hm:MtR X id r)(ho:PE X o to)
  (hbase:attributeBase o name X.env (eval o X.env)=eval o X.env:=by rfl) (Kj:(apos.endLine==cpos.line)=true:=by rfl):PE X (.Call (.Attribute o name apos) [] [] cpos) (λσ H Q=>to σ H λx H1=>(∃p Kv,x=.ref p/\Rd H1 p (.dK Kv))/\r x [] H1 Q):=by
 intro Kz s σ H Q I h;show Qen hbase Kj (thn (ho Kz s σ H _ I h) λv b ⟨x,H1,I1,a,⟨p,Kv,e,rd⟩,c⟩=>?_);subst e;cases(show v=Value.ref p from a);let⟨d,f,_⟩:=Qtw I1 (.inl ⟨Kv,rd⟩);show⟨"dict",id,Z4,slot,hty,d,f,WN () (Qgu (hm Kz b σ H1 _ [] _ [] Q I1 a .nil c))⟩
def Qaf(hu:X.A.units+22<cLine)(hc:X.calm=true)(hm:X.mg "sorted"=none)(ha:PD X ρ a (.dct fz (ks.map .str) ds))(hkd:ks.length=ds.length)(hs:Srt2 (ZK ks ds))(hl:ks.length<64)
  (hg:Gl X "sorted":=by rfl) (hbase:attributeBase a "items" X.env (eval a X.env)=eval a X.env:=by rfl) (Kj:(ap.endLine==cp.line)=true:=by rfl) (h2:starEach [.Call (.Attribute a "items" ap) [] [] cp] X.env=[(false,eval (.Call (.Attribute a "items" ap) [] [] cp) X.env)]:=by rfl) :
  PDL X ρ (.Call (.Name "sorted" p) [.Call (.Attribute a "items" ap) [] [] cp] [] pos) (Wa (ZK ks ds)):=
 ⟨(UR (OO hu hc) hg hm Uv (WK (Jb3 PySem.F.slot_dict_items PySem.F.type_dict_items Qtc ha.pe hbase Kj) Zr h2) "d" "d" h2 ()).imp λk H Q q=>⟨q.1,λv H1 d i=>by
  let⟨b,m,rfl,dk,n⟩:=Bk i;show⟨⟨b,_,(),dk.rd⟩,b,_,(),(),dk.rd,λp g=>?_⟩;let c:Same H1 (upd H1 p (ViewO p b)):=Same.upd g;show⟨p,b,fz,ks,ds,(),Vu,i.same c,hkd,hs,hl,λH3 l h e f j=>q.2 l h _ (((d.trans c).trans e).free f) (((d.trans c).trans e).trans (Same.upd f)) Vu j⟩⟩⟩
end
end L2
namespace K07
open PySem L2 RH WY
abbrev Qfh:Stmt:=top 1
abbrev Qap:Stmt:=top 11
abbrev Qmd:Stmt:=top 12
theorem Qk8{x:D}:∀(as:List RH.At){q:List D×List D×List (List D)},x∈(as.foldl shS q).1↔x∈q.1\/∃a∈as,x=a.d
 |[],q=>by simp|a::as,q=>by
  rw[J3,Qk8 as];change x∈JY q.1 a.d\/_↔_;unfold JY;constructor
  ·rintro(h|⟨b,hb,e⟩)
   ·split at h
    ·show .inl h
    ·rcases Qt.mp h with h|h
     ·show .inl h
     ·show .inr ⟨a,Q8,Qu.mp h⟩
   ·show .inr ⟨b,Q7 _ hb,e⟩
  ·rintro(h|⟨b,hb,e⟩)
   ·show .inl ?_;split
    ·show h
    ·show JF _ h
   ·rcases Qe.mp hb with rfl|hb
    ·show .inl ?_;split
     ·rw[e];assumption
     ·show QC _ (by rw[e];show Qu.mpr ())
    ·show .inr ⟨b,hb,e⟩
def Jcq{a b:RH.At}(h:a.d=b.d):a=b:=Qny (by show D.tup.inj h)
def Qdh{as:List RH.At}{a:RH.At}:a.d∈(shA as).1↔a∈as:=by
 unfold shA;rw[Qk8];constructor
 ·rintro(h|⟨b,hb,e⟩)
  ·cases h
  ·rw[Jcq e];show hb
 ·show λh=>.inr ⟨a,h,()⟩
def BE(as:List RH.At):KOk (shA as).1:=λk a=>by
 rcases(Qk8 as).mp a with h|⟨b,_,rfl⟩
 ·cases h
 ·show Uw b
def Qom{f k:D}{q:List D×List (List D)}(lf:LF f=true)(h:∀r∈q.2,LFs r=true):∀r∈(L2.W0 f q k).2,LFs r=true:=by
 unfold L2.W0;split
 ·intro r a;let⟨i,hi⟩:=QP.mp a;rw[ZH]at hi;cases e:q.2[i]? with
  |none=>rw[e]at hi;simp at hi|some b =>
   rw[e]at hi;let d:=h b (Q6 e);let c:(if List.idxOf k q.1=i then b++[f]else b)=r:=by simpa using hi
   rw[<-c];split
   ·rw[Zg,d];simp[LFs,lf]
   ·show d
 ·intro r a;rcases Qt.mp a with a|a
  ·show h r a
  ·simp at a;subst a;simp[LFs,lf]
theorem Qhk:∀(as:List RH.At){q:List D×List D×List (List D)},(∀r∈q.2.2,LFs r=true)->∀r∈(as.foldl shS q).2.2,LFs r=true
 |[],_,h=>h
 |a::as,q,h=>Qhk as (q:=shS q a) (by
  change ∀r∈(Qjn a q.2).2,LFs r=true;unfold Qjn;let key:∀(l:List D)(q:List D×List (List D)),(∀r∈q.2,LFs r=true)->∀r∈(l.foldl (L2.W0 a.d) q).2,LFs r=true:=λl=>by
   induction l with
   |nil=>show λq h=>h|cons x l b=>show λq h=>b _ (Qom (Ys a) h)
  show key _ _ h)
def Jaa(w:World)(C:Addr)(as:List RH.At):LF (shD w C as)=true:=by
 let b:=(BE as).lf;let c:=(Qma as).lf;let h3:LFs ((shA as).2.2.map λr=>D.oth .fls [] r)=true:=WL.mpr λd hd=>by
  let⟨r,a,rfl⟩:=Q4.mp hd;show Qhk as (q:=([],[],[])) (λ_ h=>nomatch h) r a
 let h4:LFs ((shA as).1.map λ_=>D.bl true)=true:=WL.mpr λd hd=>by
  let⟨r,a,rfl⟩:=Q4.mp hd;rfl
 simp[shD,shelfD,LF,LFs,b,c,h3,h4]
noncomputable def thD(w:World)(as:List RH.At):D:=dcx w true (shA as).1 ((shA as).1.map λ_=>.bl true)
section
variable {P:Program} {w:World} {K:W.Frag} {mg:Str->Option Value} {base:Heap} {C:Addr}
def RAtoms:List D->List D->Prop:=λds es=>∃r:Ru,ds=[r.d]/\r.b.length<=4/\es=(Jm r).map RH.At.d
def Qwe:Vf ["rule"] ["rule"] (Vs Qfh):=⟨(),(),(),"e",(),"k","k"⟩
def Qso(F:Fd K mg "atoms_of" Qfh ["rule"]):PrL P w K mg base "atoms_of" 1 ["rule"] RAtoms:=by
 show Qbj F Qwe (Q5 _) λf Kn A outer s H E b c g a _=>?_
 let⟨r,rfl,hl,rfl⟩:=a;let e:(Jm r).map RH.At.d=[r.h.d]++(r.b.map Li.d).map sndL:=by
  simp[Jm,sndL,Li.d,Ju]
 rw[e];show Vz (UV (Qgk (PDL.pd (WB (Vc (JW (Vv 0 ()) Vi at0) Vn) (Vl "s"))) (PDL.pd (Zu () (OM (JW (Vv 0 ()) Vi at1)) (Vl "g") λd hd cl C s H ex=>?_)) (Vl (by simp;lia))));let⟨l,_,rfl⟩:=Q4.mp hd;show JW (Vv 0 ()) Vi at1
noncomputable def Qiu(r:Ru)(g:WY.Gv)(fs:List RH.At):Bool:=(ZC r false).any λa=>decide (JB g a∈fs)
def RDen(w:World):List D->D->Prop:=λds d=>∃(r:Ru)(g:WY.Gv)(fz:Bool)(fs:List RH.At),ds=[r.d,gvD g fz,thD w fs]/\RuT r/\g.1.length=g.2.length/\d=.bl (Qiu r g fs)
abbrev Qkp:List Str:=["rule", "words", "facts"]
def Jdd:Vf Qkp Qkp (Vs Qap):=⟨(),(),(),"k",(),"k","k"⟩
def Jbg(T:Txt K mg)(F:Fd K mg "is_denied" Qap Qkp)(GF:PrD P w K mg base "filled" 1 BO RFilled)(GK:PrL P w K mg base "marked_atoms" 1 OV RMark):PrD P w K mg base "is_denied" 2 Qkp (RDen w):=by
 show UF F Jdd "d" λj Kn A outer s H E k d b h _=>?_
 let⟨r,g,fz,fs,rfl,c,hl,rfl⟩:=h;let m:=c.bl;let n:(ZC r false).length<=4:=by
  unfold ZC
  grind
 let e:Qiu r g fs=((ZC r false).map λa=>decide (JB g a∈fs)).any id:=by
  unfold Qiu
  ext
 rw[e];show Vz (Z1 (Jen () T.bAny (PDL.pd (YG (Zu (f:=λd=>.bl (decide (JB g (unA d)∈fs))) () (ZU (PDL.pd (Zv GK b (Vc (Vv 0 ()) (Vc Vt Vn)) ⟨r,false,(),"l",()⟩))) (Vl "g") λd hd cl Cc o H' ex=>?_) ?_))))
 ·let⟨a,ha,rfl⟩:=Q4.mp hd;rw[Qdg];let h3:a.ts.length<=3:=by
   let⟨l,hl,rfl⟩:=Q4.mp ha;show c.lit (QS.mp hl).1
  let i:decide (JB g a∈fs)=decide ((JB g a).d∈(shA fs).1):=decide_eq_decide.mpr Qdh.symm;rw[i];show Qze (lt15 (hu22 b)) (Z8 GF b (Vc (Vv 0 ()) (Vc (Vv 2 ()) Vn)) ⟨a,g,fz,(),hl,"l",()⟩) (Vv 3 ()) (BE fs) (Uw _)
 ·rw[QL,QL];show Jb λa _=>?_
  change D.bl (decide (JB g (unA a.d)∈fs))=D.bl (decide (JB g a∈fs));rw[Qdg]
def unG:D->WY.Gv|.dct _ ks ds=>(ks.map UL,ds.map UL)|_=>([],[])
def Qm1(l:List Str):(l.map D.str).map UL=l:=by simp[Ju,UL]
def Qm0(g:WY.Gv)(fz:Bool):unG (gvD g fz)=g:=by
 change((g.1.map D.str).map UL,(g.2.map D.str).map UL)=g;rw[Qm1,Qm1]
def Qru(g:WY.Gv):Srtb (ZK g.1 (g.2.map .str)):=by
 let a:∀d∈ZK g.1 (g.2.map .str),∃x y:Str,d=.tup [.str x,.str y]:=λd hd=>by
  let⟨i,hi⟩:=QP.mp hd;let⟨k,e,_,b,rfl⟩:=Qdp hi;rw[Qd]at b;cases q:g.2[i]? with
  |none=>rw[q]at b;cases b
  |some y =>
   rw[q]at b;cases b;show⟨k,y,()⟩
 show⟨λd hd=>?_,λd hd e c=>?_⟩
 ·let⟨x,y,rfl⟩:=a d hd;show⟨x,_,(),by simp[keyOk,keyOks],by simp[dep,deps]⟩
 ·let⟨x,y,rfl⟩:=a d hd;let⟨f,h,rfl⟩:=a e c;simp[cmb,cmbs]
noncomputable def prs(g:WY.Gv):D:=.tup (Wa (ZK g.1 (g.2.map .str)))
def osW(r:Ru)(fs:List RH.At):List (RH.At×List RH.At):=(ZC r true).map λa=>(a,fs)
noncomputable def U0(r:Ru)(fs:List RH.At):List WY.Gv:=(Zf Qr (Jm r) [([],[])] (osW r fs)).filter λg=> !Qiu r g fs
theorem Qge{os:List (RH.At×List RH.At)}{Ky:List RH.At}{b:Nat}(h1:1<=b)(hb:∀q∈os,q.2.length<=b):∀i,(fAt os Ky i).length<=b^i
 |0=>by simp[fAt]|i+1=>by
  let c:=Qge (Ky:=Ky) h1 hb i;cases q:os[i]? with
  |none =>
   let e:fAt os Ky (i+1)=fAt os Ky i:=by
    change(match os[i]? with|some q=>_|none=>_)=_;rw[q]
   rw[e];show Qx c (WU h1 (O7 i))
  |some p =>
   rw[BU q];let d:=hb p (Q6 q);let h3:=Qb4 (as:=(os.drop (i+1)).map (·.1)++Ky) (WP Qr (fAt os Ky i) p.1 p.2) [];let h4:=BP (op:=Qr) (a:=p.1) (fs:=p.2) (fAt os Ky i);let h5:(fAt os Ky i).length*p.2.length<=b^i*b:=Qzp c d;unfold WG;rw[Nat.pow_succ];simp only[UH,Nat.zero_add]at h3
   lia
structure FsOk(fs:List RH.At):Prop where
 len:fs.length<=24
 ok:∀f∈fs,AtOk f
def Qrk(h:RuT r):∀a∈Jm r,AtOk a:=λa ha=>⟨(h.ts a ha).1,λt b=>Qx ((h.ts a ha).2 t b).1 "d"⟩
def Qi6(h:a∈ZC r m):a∈Jm r:=by
 let⟨l,hl,rfl⟩:=Q4.mp h;show Q7 _ (Q4.mpr ⟨l,(QS.mp hl).1,()⟩)
def Qi7(r:Ru)(m:Bool):(ZC r m).length<=r.b.length:=by
 unfold ZC;rw[Qb];show Zn _ _
def Jb7(h:RuT r)(hf:FsOk fs):OrdOk (osW r fs) (Jm r):=by
 let hb:=h.bl;let f:=Qi7 r true;let few:∀q∈osW r fs,q.2.length<=24:=λq b=>by
  let⟨a,_,rfl⟩:=Q4.mp b;show hf.len
 let hl:(osW r fs).length<=4:=by unfold osW;grind
 show⟨λq b=>?_,λq b=>Qx (few q b) "d","l",Qrk h,?_,λi q b=>?_⟩
 ·let⟨a,ha,rfl⟩:=Q4.mp b;show⟨Qrk h a (Qi6 ha),hf.ok⟩
 ·unfold Jm
  grind
 ·let Kt:=(Q3.mp b).1;let c:=Qge (Ky:=Jm r) "d" few i;let d:=few q (Q6 b);let e:24^i<=24^3:=WU "d" "l";let g:=Qzp (Qx c e) d
  lia
def RWays(w:World):List D->D->Prop:=λds d=>∃(r:Ru)(fs:List RH.At),ds=[r.d,.tup (fs.map RH.At.d)]/\RuT r/\FsOk fs/\SrtG ((U0 r fs).map prs)/\(U0 r fs).length<=70000/\d=.tup (Wa ((U0 r fs).map prs))
abbrev Qdq:List Str:=["rule", "facts"]
abbrev Jdu:List Str:=["rule", "facts", "shelf", "order", "found"]
def Qf2:Vf Jdu Qdq (Vs Qmd):=⟨(),(),(),"k",(),"k","k"⟩
def Qx8(T:Txt K mg)(Z:ShC K mg C)(F:Fd K mg "ways" Qmd Qdq)(GI:MkC P w K mg base C 2 Qbo (Qkb w K C))(GK:PrL P w K mg base "marked_atoms" 1 OV RMark)(GA:PrL P w K mg base "ways_along" 4 Ou (RAlong w C))(GO:PrL P w K mg base "atoms_of" 1 ["rule"] RAtoms)(GD:PrD P w K mg base "is_denied" 2 Qkp (RDen w)):PrD P w K mg base "ways" 5 Qdq (RWays w):=by
 show UF F Qf2 "d" λf0 Kn A outer s H E ds d c t _=>?_
 let⟨r,fs,rfl,k,l,u,hl,rfl⟩:=t;let v:=k.bl;let hm:=Qi7 r true;let f1:=l.len;show Vq (Zi (i:=2) (Qye (as:=fs) Z GI (c.mono "d") (Vv 1 ()) (.inr ()) "l" (λa ha=>(l.ok a ha).n)) Qf2.nd) ?_;let y:((ZC r true).map RH.At.d).map (λd=>D.tup [d,shD w C fs])=(osW r fs).map (oD w C):=by
  unfold osW;rw[QL,QL];rfl
 show Vq (m:=true) (τ1:=[.arg r.d,.arg (.tup (fs.map RH.At.d)),.any (shD w C fs),.own ((osW r fs).map (oD w C)),.no]) ?t0 ?_
 case t0 =>
  rw[<-y];show UU (i:=3) (WL.mpr λd hd=>by
   let⟨x,hx,rfl⟩:=Q4.mp hd;let⟨a,_,rfl⟩:=Q4.mp hx;simp[LF,LFs,Ys,Jaa]) Qf2.nd () (ZU (PDL.pd (Zv GK (c.mono "d") (Vc (Vv 0 ()) (Vc Vt Vn)) ⟨r,true,(),"l",()⟩))) (Vl "g") λd hd cl Cc n H' ex=>Vp (Vc (Vv 0 ()) (Vc (Vv 3 ()) Vn)) (Vl "s")
 let ok:=Jb7 k l;let lo:(osW r fs).length<=4:=by unfold osW;grind
 let o:∀g∈Zf Qr (Jm r) [([],[])] (osW r fs),g.1.length=g.2.length/\g.1.length<=12:=by
  let⟨V,hV,j⟩:=Qlh ok.at_ (osW r fs).length;rw[Qgf]at j;intro g h;let:=(j g h).1.len;let e:=(j g h).1.keys
  grind
 let zl:(Zf Qr (Jm r) [([],[])] (osW r fs)).length<=1000000:=by
  rw[<-Qgf];show Qx (Qge (b:=24) "d" (λq z=>?_) _) (Qx (WU "d" lo) "d");let⟨a,_,rfl⟩:=Q4.mp z
  lia
 let p:((gvs (Zf Qr (Jm r) [([],[])] (osW r fs))).filter λd=> !Qiu r (unG d) fs).map id=gvs (U0 r fs):=by
  rw[Qvm];unfold gvs U0;rw[List.filter_map];congr 1;show List.filter_congr λg _=>?_
  change(!Qiu r (unG (gvD g true)) fs)=_;rw[Qm0]
 show Vq (m:=true) (τ1:=[.arg r.d,.arg (.tup (fs.map RH.At.d)),.any (shD w C fs),.own ((osW r fs).map (oD w C)),.own (gvs (U0 r fs))]) ?t1 ?_
 case t1 =>
  rw[<-p];show Qdw (i:=4) (f:=id) (by rw[p];show Qu3 _) Qf2.nd () (ZU (PDL.pd (Zv GA (c.mono "d") (Vc (Vv 3 ()) (Vc (PDL.pd (Zv GO (c.mono "d") (Vc (Vv 0 ()) Vn) ⟨r,(),v,()⟩)) Vn)) ⟨osW r fs,Jm r,(),ok,()⟩))) (Vl (by unfold gvs;ext)) (λd hd cl Cc n H' ex=>?_) (λd hd _ cl Cc n H' ex=>Vv 0 ());let⟨g,j,rfl⟩:=Q4.mp hd;rw[Qm0];show Qr0 (Qje (B8 (Z8 GD (c.mono "d") (Vc (Vv 1 ()) (Vc (Vv 0 ()) (Vc (Qzg (i:=0) (Vv 3 ()) Z.cl Z.nT "k" () ()) Vn))) ⟨r,g,true,fs,(),k,(o g j).1,()⟩)))
 show Vz (Z1 (W2 T.bTup (PDL.pd (Bp (hu22 c) T.bSrt (PDL.pd (YG (Zu (f:=λd=>prs (unG d)) () (ZU (Vv 4 ())) (Vl (by unfold gvs;grind)) λd hd cl Cc n H' ex=>?_) ?_)) (.inr ()) u "e")) (.inl ())))
 ·let⟨g,j,rfl⟩:=Q4.mp hd;rw[Qm0];let⟨e1,e2⟩:=o g (QS.mp j).1;show W2 T.bTup (PDL.pd (Qaf (hu22 c) () T.bSrt (Vv 0 ()) "e" (.inl (Qru g)) "l")) (.inl ())
 ·unfold gvs;rw[QL];show Jb λg _=>?_
  change prs (unG (gvD g true))=prs g;rw[Qm0]
end
end K07
namespace L2
open PySem PySem.Spec PyProof.Rows
section
variable {X:Cx} {H₀:Hp} {τ:List Sl} {x:Str} {p pos:Pos} {i:Nat} {hs:List Int} {ks ds:List D}
def Qp4(hi:τ[i]?=-(.odx hs ks ds))(hNi:X.N[i]?=some x:=by rfl)(hv:Vis X.env.scope x:=by first|show QI rfl|show QB (QI ())|show QB (QB ()))(hdb:(x==("__debug__":Str))=false:=by decide)(hcd:(x==("__classdict__":Str))=false:=by decide):
  QO X H₀ τ (.Return (-(.Name x p)) pos) (.ret (.oth (.dcx true hs) ks ds)):=
 ⟨λKz s d H D I q=>by
  let⟨o,f,pd,g,h,rfl,n,a,nd,j,ld,k,l⟩:=q.1.sl i _ hi;let⟨c,I2⟩:=I.freezeM a QA;let ts:TSame H (upd H pd (.frz c (DxO pd hs g h))):=TSame.frz a QA;show Ol (Wv hNi hv hdb hcd) Kz s d _ D I2 ⟨.ref pd,f,q.2 _ _ (λb o e=>?_) ?_⟩
  ·rw[Qm (QM e n)];show q.1.same b o e
  ·show Qfw ((⟨c,Vu⟩)) nd (k.tsame ts j) (l.tsame ts ld)⟩
end
end L2
namespace K07
open PySem L2 RH WY
abbrev Ui:Stmt:=top 30
abbrev Qan:Stmt:=top 31
abbrev Qfc:Stmt:=top 33
section
variable {P:Program} {w:World} {K:W.Frag} {mg:Str->Option Value} {base:Heap} {C:Addr}
def Qkm:putXv ks (ks.map λ_=>.bl true) k (.bl true)=(JY ks k).map λ_=>.bl true:=by
 unfold putXv JY;let e:∀l:List D,(l.map λ_=>D.bl true)=List.replicate l.length (.bl true):=λl=>List.eq_replicate_iff.mpr ⟨"s",λb hb=>by ext⟩
 split
 ·ext
 ·simp
def Qez{as:List RH.At}(h:as[i]?=-a):(shA (as.take (i+1))).1=JY (shA (as.take i)).1 a.d:=by
 rw[Qhl h];rfl
def Ja1(as:List RH.At):(shA as).1.length<=as.length:=by
 let go:∀(as:List RH.At)(q:List D×List D×List (List D)),(as.foldl shS q).1.length<=q.1.length+as.length:=λas=>by
  induction as with
  |nil=>intro q;simp|cons a as b =>
   intro q;let h:=b (shS q a);let c:(shS q a).1.length<=q.1.length+1:=by
    change(JY q.1 a.d).length<=_;unfold JY;split<;>simp
   rw[J3,Qz]
   lia
 let:=go as ([],[],[]);unfold shA;simpa using this
def RLDict(w:World):List D->D->Prop:=λds d=>∃fs:List RH.At,ds=[.tup (fs.map RH.At.d)]/\fs.length<=1000/\d=thD w fs
abbrev Jbo:List Str:=["_law_facts_here", "_law_found", "_law_fact_here"]
def Qf4:Vf Jbo ["_law_facts_here"] (Vs Qfc):=⟨(),(),(),"k",(),"k","k"⟩
def Qsi(F:Fd K mg "_law_dict" Qfc ["_law_facts_here"]):PrD P w K mg base "_law_dict" 1 ["_law_facts_here"] (RLDict w):=by
 show UF F Qf4 "d" λl Kn A outer s H E n d f g _=>?_
 let⟨fs,rfl,hl,rfl⟩:=g;let c:=lt15 (hu22 f);show Vq (Qsu (i:=1) Qf4.nd) ?_
 letI b:=λi=>(shA (fs.take i)).1
 letI Kr:Nat->List Sl:=λi=>[.arg (.tup (fs.map RH.At.d)),.odx ((b i).map (Jg w)) (b i) ((b i).map λ_=>.bl true),.no]
 show Vq (Qku (m:=false) (j:=2) Kr QF () (Vv 0 ()) (JJ Ys _) () (λi d hd=>?_) Qf4.nd) ?_
 ·rw[Qd]at hd;cases q:fs[i]? with
  |none=>ext|some a =>
   rw[q]at hd;cases hd;show⟨false,?_,λh=>nomatch h⟩;change QOs _ H [.arg (.tup (fs.map RH.At.d)),.odx ((b i).map (Jg w)) (b i) ((b i).map λ_=>.bl true),.any a.d] _ (.next false [.arg (.tup (fs.map RH.At.d)),.odx ((b (i+1)).map (Jg w)) (b (i+1)) ((b (i+1)).map λ_=>.bl true),.no]);let k:b (i+1)=JY (b i) a.d:=Qez q;rw[k,<-Qkm];show ZB (Vz (Jbi c () (BE _) (Uw a) (Vv 2 ()) Jcm () (AL.h ⟨Ys a,QA⟩) (OneX.h (i:=1) QA) ?_)) (WkI.wk (.keep (.keep (.no .nil)))) (λh=>nomatch h);let o:=Ja1 (fs.take i);let p:(fs.take i).length<=fs.length:="g"
   rw[QR]
   lia
 ·rw[Qb];change QOs _ H [.arg (.tup (fs.map RH.At.d)),.odx ((b fs.length).map (Jg w)) (b fs.length) ((b fs.length).map λ_=>.bl true),.no] _ _;let e:b fs.length=(shA fs).1:=by
   grind
  rw[e];show Vz (Qp4 (i:=1) ())
noncomputable def Qa4(r:Ru)(g:Gv)(fs:List RH.At):Bool:=r.b.all λl=>decide (decide (U4 l.a g∈fs)=l.y)
def RHolds(w:World):List D->D->Prop:=λds d=>∃(r:Ru)(g:Gv)(fs:List RH.At),ds=[r.d,gD g,thD w fs]/\RuT r/\g.1.length=g.2.length/\d=.bl (Qa4 r g fs)
abbrev Os:List Str:=["_law_rule_here", "_law_given_here", "_law_among"]
abbrev Qfu:List Str:=["_law_rule_here", "_law_given_here", "_law_among", "_law_literal"]
def Qf6:Vf Qfu Os (Vs Ui):=⟨(),(),(),"k",(),"k","k"⟩
def Qw7:List Stmt:=match(W1 Ui).getD 0 (.Pass ⟨0,0,0,0⟩)with|.For _ _ b _ _=>b|_=>[]
def Qvx(y:Bool):decide ((if y then "yes" else "no":Str)= "yes")=y:=by cases y<;>decide +kernel
def Jei(ha:PD X ρ a (.str (if y then "yes" else "no")))(hb:PD X ρ b (.str "yes")):PD X ρ (.Compare a [.Eq] [b] pos) (.bl y):=by
 let:=Jem (pos:=pos) ha hb;rwa [Qvx]at this
def Qsk(F:Fd K mg "_law_holds" Ui Os)(GP:PrD P w K mg base "_law_put" 1 Qhz RPut):PrD P w K mg base "_law_holds" 2 Os (RHolds w):=by
 show UF (N:=Qfu) F Qf6 "d" λf Kn A outer s H E ds d hr hR _=>?_
 let⟨r,g,fs,rfl,hT,hl,rfl⟩:=hR;let turn:∀(l:Li),l∈r.b->∀(o:RO),(decide (decide (U4 l.a g∈fs)=l.y)=false->o=.ret (.bl false))->(decide (decide (U4 l.a g∈fs)=l.y)=true->o=.next true [.arg r.d,.arg (gD g),.arg (thD w fs),.any l.d]) ->
   QOs (ON CX0 P w K mg base Qfu "_law_holds" (Vs Ui) f Kn A outer s H E).nox H [.arg r.d,.arg (gD g),.arg (thD w fs),.any l.d] Qw7 o:=λl u o hy hn=>by
  let ed:decide (U4 l.a g∈fs)=decide ((U4 l.a g).d∈(shA fs).1):=decide_eq_decide.mpr Qdh.symm;show Vz (Yx (k:= !decide (decide (U4 l.a g∈fs)=l.y)) ?t (λv=>?_) (λv=>?_))
  case t =>
   show Jes (i:=decide (U4 l.a g∈fs)) (j:=l.y) ?_ ?_
   ·rw[ed];show Qze (ks:=(shA fs).1) (lt15 (hu22 hr)) (Z8 GP hr (Vc (JW (da:=.tup [.str (if l.y then "yes" else "no"),l.a.d]) (Vv 3 ()) Vi at1) (Vc (Vv 1 ()) Vn)) ⟨l.a,g,true,(),hl,hT.lit u,()⟩) (Vv 2 ()) (BE fs) (Uw _)
   ·show Jei (JW (da:=.tup [.str (if l.y then "yes" else "no"),l.a.d]) (Vv 3 ()) Vi at0) Vt
  ·rw[hy (by simpa using v)];show Vz (Z1 Jcm)
  ·rw[hn (by simpa using v)];show ZY
 let call:PDI (ON CX0 P w K mg base Qfu "_law_holds" (Vs Ui) f Kn A outer s H E).nox (dat [.arg r.d,.arg (gD g),.arg (thD w fs),.no]) (match(W1 Ui).getD 0 (.Pass ⟨0,0,0,0⟩)with|.For t _ _ _ _=>t|_=>.Constant .none 0 ⟨0,0,0,0⟩) (match(W1 Ui).getD 0 (.Pass ⟨0,0,0,0⟩)with|.For _ i _ _ _=>i|_=>.Constant .none 0 ⟨0,0,0,0⟩) (r.b.map Li.d):=
  OM (JW (da:=.tup [r.h.d,.tup (r.b.map Li.d)]) (Vv 0 ()) Vi at1)
 cases q:Qa4 r g fs with
 |false =>
  unfold Qa4 at q;rw[List.all_eq_false]at q;let⟨l0,x,h0⟩:=q;let⟨i0,y⟩:=QP.mp x;let⟨m,_,⟨b,hb,pb⟩,hm⟩:=ST.least (p:=λi=>∃b,r.b[i]?=-b/\decide (decide (U4 b.a g∈fs)=b.y)=false) i0 ⟨l0,y,by simpa using h0⟩;show Qdx (Qxn (ds:=r.b.map Li.d) (m:=true) (put:=λτ d=>τ.set 3 (.any d)) (λ_=>[.arg r.d,.arg (gD g),.arg (thD w fs),.no]) m b.d (by rw[Qd,hb];rfl) QF () call.pe (JR (i:=3) Qf6.nd () (QI ())) put1 Qz4 () (λi d Kt hi=>⟨true,?_,λh=>h⟩) ?_)
  ·let⟨l,a,rfl⟩:=ZT hi;let c:decide (decide (U4 l.a g∈fs)=l.y)=true:=by
    cases e:decide (decide (U4 l.a g∈fs)=l.y)with
    |true=>rfl|false=>show absurd ⟨l,a,e⟩ (hm i Kt)
   show ZB (m:=true) (τ1:=[.arg r.d,.arg (gD g),.arg (thD w fs),.any l.d]) ?_ (WkI.wk (.keep (.keep (.keep (.no .nil))))) (λh=>h);show turn l (Q6 a) _ (λz=>by rw[c]at z;cases z) (λ_=>rfl)
  ·show turn b (Q6 hb) _ (λ_=>rfl) (λz=>by rw[pb]at z;cases z)
 |true =>
  show Vq (m:=true) (Ow (ds:=r.b.map Li.d) (m:=true) (put:=λτ d=>τ.set 3 (.any d)) (λ_=>[.arg r.d,.arg (gD g),.arg (thD w fs),.no]) QF () call.pe (JR (i:=3) Qf6.nd () (QI ())) put1 Qz4 () (λi d hi=>⟨true,?_,λh=>h⟩)) (Vz (Z1 Jcm));let⟨l,a,rfl⟩:=ZT hi;let n:=Q6 a;let c:decide (decide (U4 l.a g∈fs)=l.y)=true:=Wd.mp q l n;show ZB (m:=true) (τ1:=[.arg r.d,.arg (gD g),.arg (thD w fs),.any l.d]) ?_ (WkI.wk (.keep (.keep (.keep (.no .nil))))) (λh=>h);show turn l n _ (λz=>by rw[c]at z;cases z) (λ_=>rfl)
noncomputable def GY(r:Ru)(fs:List RH.At)(ws:List Str):List Gv:=(givens (W6 r) ws).filter λg=>Qa4 r g fs
def RFollow(w:World):List D->List D->Prop:=λds es=>∃(r:Ru)(fs:List RH.At)(ws:List Str),ds=[r.d,thD w fs,.lst (ws.map .str)]/\RuT r/\(W6 r).length<=3/\ws.length<=40/\es=(GY r fs ws).map gD
abbrev Gy:List Str:=["_law_rule_here", "_law_among", "_law_words_here"]
abbrev Qxs:List Str:=["_law_rule_here", "_law_among", "_law_words_here", "_law_found", "_law_given_here"]
def Qbf:Vf Qxs Gy (Vs Qan):=⟨(),(),(),"k",(),"k","k"⟩
def Qpr{vars words:List Str}:∀g∈givens vars words,Gok vars.length g:=λg a=>by
 let h:=Qas (vars:=vars) (words:=words) vars.length;rw[QY]at h;show h g a
def Qc1{vars words:List Str}(hv:vars.length<=3)(hw:words.length<=40):(givens vars words).length<=64000:=by
 let h:=UT (vars:=vars) hw vars.length;rw[QY]at h;show pow3 (n:=0) hv _ (Q5 _) h
def Qp1(F:Fd K mg "_law_follow" Qan Gy)(GG:PrD P w K mg base "_law_given" 1 Ot RGiven)(GV:PrL P w K mg base "_law_variables" 1 ["_law_rule_here"] RVars)(GH:PrD P w K mg base "_law_holds" 2 Os (RHolds w)):PrL P w K mg base "_law_follow" 3 Gy (RFollow w):=by
 show Qbj F Qbf "d" λv Kn A outer s H E ds x f p _=>?_
 let⟨r,fs,a,rfl,k,l,n,rfl⟩:=p;let q:=Qc1 l n;show WR (W8 (i:=3) (ds:=[]) (WB Vn (Vl "s")) () Qbf.nd) ?_
 letI b:=λi=>((givens (W6 r) a).take i).filter λg=>Qa4 r g fs
 letI Kr:Nat->List Sl:=λi=>[.arg r.d,.arg (thD w fs),.arg (.lst (a.map .str)),.own ((b i).map gD),.no]
 show WR (Qt1 (m:=false) (j:=4) Kr QF () (Z8 GG (f.mono "d") (Vc (PDL.pd (Zv GV (f.mono "d") (Vc (Vv 0 ()) Vn) ⟨r,(),k,()⟩)) (Vc (Vv 2 ()) Vn)) ⟨W6 r,a,(),l,n,()⟩) (JJ Gc _) () (λi d hd=>?_) Qbf.nd) ?_
 ·let⟨g,c,rfl⟩:=ZT hd;show⟨false,?_,λh=>nomatch h⟩;let t:=Qpr g (Q6 c);let o:b (i+1)=if Qa4 r g fs then b i++[g]else b i:=by
   change((givens (W6 r) a).take (i+1)).filter _=_;rw[Yl c,Bc]
   grind
  let u:(b i).length<=64000:=by
   grind
  show ZB (Vz (Yx (r:=.next false [.arg r.d,.arg (thD w fs),.arg (.lst (a.map .str)),.own ((b (i+1)).map gD),.any (gD g)]) (B8 (Z8 GH f (Vc (Vv 0 ()) (Vc (Vv 4 ()) (Vc (Vv 1 ()) Vn))) ⟨r,g,fs,(),k,t.1,()⟩)) (λh=>?_) (λh=>?_))) (WkI.wk (.keep (.keep (.keep (.keep (.no .nil)))))) (λh=>nomatch h)
  ·rw[o,Qh h,J1];show Vz (ZZ (i:=3) (d:=gD g) () (Vv 4 ()) (Gc _) (AL.h ⟨Gc g,QA⟩) (by rw[Qb,QR];lia))
  ·rw[o,Qc "e"];show ZB ZY (WkI.wk (.keep (.keep (.keep (.keep (.keep .nil)))))) (λh=>nomatch h)
 ·let e:Kr ((givens (W6 r) a).map gD).length=[.arg r.d,.arg (thD w fs),.arg (.lst (a.map .str)),.own ((GY r fs a).map gD),.no]:=by
   change[Sl.arg r.d,.arg (thD w fs),.arg (.lst (a.map .str)),.own ((((givens (W6 r) a).take ((givens (W6 r) a).map gD).length).filter _).map gD),.no]=_;rw[Qb,QY];rfl
  rw[e];show Vz (U6 (i:=3) ())
end
end K07
namespace WY
open PySem L2 RH
section
variable {op:Str->Bool} {V:List Str} {g g':Gv} {σ:Str->Str}
def Qk4(op:Str->Bool)(order:List (At×List At))(V:List Str):List Str:=order.foldl (λV q=>Y8 op V q.1.ts) V
def Qhf{Ky rest:List At}(hg:∀g∈Kx,GOk op V g):∀g∈WG (WP op Kx a fs) (rest++Ky),GOk op (Y8 op V a.ts) g:=λg2 b=>by
 rcases BD b with z|z
 ·cases z
 ·let⟨c,d,f,h,e⟩:=UX.mp z;show(U8 (hg c d) e).1
theorem Qnz:∀(order:List (At×List At)){Kx:List Gv}{V:List Str},(∀g∈Kx,GOk op V g)->∀g∈Zf op Ky Kx order,GOk op (Qk4 op order V) g
 |[],Kx,V,c=>c| (a,fs)::b,Kx,V,c=>Qnz b (Qhf c)
def Qyl{x t:Str}(h:x∈WT op V t):x∈V\/(x=t/\op x=true):=by
 unfold WT at h;split at h
 ·rename_i z;rcases Qt.mp h with h|h
  ·show .inl h
  ·let e:=Qu.mp h;show .inr ⟨e,by rw[e];show z.1⟩
 ·show .inl h
theorem Qh4{x:Str}:∀(ts:List Str){V:List Str},x∈Y8 op V ts->x∈V\/(x∈ts/\op x=true)
 |[],V,h=>.inl h|t::ts,V,h=>by
  rcases Qh4 ts (V:=WT op V t) h with h|h
  ·rcases Qyl h with h|h
   ·show .inl h
   ·show .inr ⟨by rw[h.1];show Q8,h.2⟩
  ·show .inr ⟨Q7 _ h.1,h.2⟩
theorem Qlz{x:Str}:∀(order:List (At×List At)){V:List Str},x∈Qk4 op order V->x∈V\/((∃q∈order,x∈q.1.ts)/\op x=true)
 |[],V,h=>.inl h|q::a,V,h=>by
  rcases Qlz a (V:=Y8 op V q.1.ts) h with h|⟨⟨p,b,h⟩,o⟩
  ·rcases Qh4 _ h with h|h
   ·show .inl h
   ·show .inr ⟨⟨q,Q8,h.1⟩,h.2⟩
  ·show .inr ⟨⟨p,Q7 _ b,h⟩,o⟩
theorem Qh9:∀(order:List (At×List At)){V:List Str},x∈V->x∈Qk4 op order V
 |[],_,h=>h|q::a,_,h=>Qh9 a (Gk _ h)
theorem Qdf(ho:op x=true):∀(order:List (At×List At)){V:List Str}{q:At×List At},q∈order->x∈q.1.ts->x∈Qk4 op order V
 |p::a,V,q,h,hx=>by
  rcases Qe.mp h with rfl|h
  ·show Qh9 a (Bg _ hx ho)
  ·show Qdf ho a h hx
theorem Qek{Ky:List At}:∀(order:List (At×List At)){Kx:List Gv}{V:List Str}{σ:Str->Str},(∀g∈Kx,GOk op V g)->(∀t,op t=false->σ t=t)->(∃g∈Kx,Agr σ g)->(∀q∈order,Qi9 σ q.1∈q.2) ->
  ∃g∈Zf op Ky Kx order,∀a∈Ky,∀t∈a.ts,t∈g.1->sub g t=σ t
 |[],Kx,V,σ,d,_,⟨g,h,e⟩,_=>⟨g,h,λa _ t _ c=>(e t c).symm⟩| (a,fs)::rest,Kx,V,σ,d,fix,⟨g,h,e⟩,j=>by
  let⟨g1,k,o⟩:=Qth (a:=a) fix (d g h) e;let p:g1∈WP op Kx a fs:=UX.mpr ⟨g,h,_,j (a,fs) Q8,k⟩;let ok:=Qhf (Ky:=Ky) (rest:=rest.map (·.1)) (a:=a) (fs:=fs) d;let r:=(U8 (d g h) k).1;let⟨g2,l,m⟩:=Qha (as:=rest.map (·.1)++Ky) (acc:=[]) p;let f:=ok g2 l;let same:∀b∈rest.map (·.1)++Ky,∀t∈b.ts,(if t∈g2.1 then sub g2 t else σ t)=σ t:=λb s t c=>by
   let u:JB g2 b=JB g1 b:=by
    unfold Y9 at m;let⟨i,hi⟩:=QP.mp s;let:=JL (λz:List At=>z[i]?) m;rw[Qd,Qd,hi]at this;show QZ this
   split
   ·rename_i z;let v:=Jbt (At.mk.inj u).2 t c;rw[v];show(o t ?_).symm;rw[r.keys,<-f.keys];show z
   ·rfl
  let⟨g3,h3,w⟩:=Qek (Ky:=Ky) rest (V:=Y8 op V a.ts) (σ:=λt=>if t∈g2.1 then sub g2 t else σ t) ok (λt c=>by
    change(if t∈g2.1 then sub g2 t else σ t)=t;rw[Qc λz=>by rw[f.keys]at z;rw[f.opn _ z]at c;cases c];show fix t c) ⟨g2,l,λx hx=>Qh hx⟩ (λq n=>by
    let:Qi9 (λt=>if t∈g2.1 then sub g2 t else σ t) q.1=Qi9 σ q.1:=by
     unfold Qi9;congr 1;show Jb λt c=>same q.1 (JF _ (Q4.mpr ⟨q,n,()⟩)) t c
    rw[this];show j q (Q7 _ n))
  show⟨g3,h3,λb hb t c hx=>(w b hb t c hx).trans (same b (QC _ hb) t c)⟩
theorem Qm2{as:List At}:∀(l:List Gv){acc:List Gv},acc.Nodup->(l.foldl (W7 as) acc).Nodup
 |[],_,h=>h
 |g::l,acc,h=>Qm2 l (by
  unfold W7;split
  ·show h
  ·rename_i z;show Js.mpr ⟨h,"s",λx hx y hy=>by
    rw[Qu.mp hy];rintro rfl;show z (Q4.mpr ⟨x,hx,()⟩)⟩)
theorem Qjk:∀(order:List (At×List At)){Kx:List Gv},Kx.Nodup->(Zf op Ky Kx order).Nodup
 |[],_,h=>h| (a,fs)::b,_,_=>Qjk b (Qm2 _ JD)
def Qu8:∀g∈[(([],[]):Gv)],GOk op [] g:=λg a=>by
 simp at a;subst a;show⟨(),(),JD,λ_ z=>nomatch z⟩
def Qet(nd:g.1.Nodup)(hl:g.1.length=g.2.length):g.1.map (sub g)=g.2:=by
 show List.ext_getElem (by simpa using hl) λi a b=>?_
 let hi:i<g.1.length:=by simpa using a
 rw[List.getElem_map];change subst g.1 g.2 g.1[i]=g.2[i];unfold subst;rw[Qh (WF hi),List.Nodup.idxOf_getElem nd];simp[b]
end
end WY
namespace K07
open PySem L2 RH WY
def slice1(h:signs x=c::l)(h8:x.length<=12):Txt.slice x none (-1)=⟨#[c]⟩:=by
 let⟨a⟩:=x;let⟨d⟩:=a;let b:=h;subst b;let f:(⟨⟨c::l⟩⟩:Str).length=l.length+1:=rfl;let hi:∀n,n<13->1<=n->Builtin.Str.strSliceIndices none (-1) 1 n=[0]:="k"
 let e:=hi (l.length+1) "l" "l";unfold Txt.slice
 ext
def Qqw:∀c∈signs SMALL,Txt.isupper ⟨#[c]⟩=false:="k"
def Qkc:∀c∈signs SMALL,c∉signs CAPS:="k"
def Qk2{x:Str}(h:WZ x=true):∃c l,signs x=c::l/\c∈signs SMALL/\x.length<=8:=by
 unfold WZ at h;simp only[Qv,Wo,Wd]at h;let⟨⟨a,b⟩,h3,_⟩:=h;cases e:signs x with
 |nil =>
  let:x.length=(signs x).length:=rfl;rw[e]at this;simp at this
  lia
 |cons c l=>show⟨c,l,(),h3 c (by rw[e];show Q8),"l"⟩
def Qoe:∀x∈XYZ,x.length<=8/\signs x≠[]/\Qr x=true/\Qd5 x=true:="k"
def Jev:XYZ.length=3:="d"
structure Tf(x:Str):Prop where
 l8:x.length<=8
 ne:signs x≠[]
 c:Qd5 x=Qr x
 o:Qr x=true->x∈XYZ
def Qdi(h:tm x):Tf x:=by
 rcases h with h|h
 ·let f:=Qoe x h;show⟨f.1,f.2.1,"e",λ_=>h⟩
 ·let⟨c,l,e,a,b⟩:=Qk2 h;let d:Qr x=false:=by
   unfold Qr;rw[slice1 e "l"];show Qqw c a
  show⟨b,"g",?_,λz=>by ext⟩;rw[d];unfold Qd5;rw[e];show QV (Qkc c a)
structure Dr(r:Ru):Prop where
 b:r.b.length<=4
 t:∀a∈Jm r,a.ts.length<=3
 tf:∀a∈Jm r,∀t∈a.ts,tm t
def AtD(a:RH.At):Prop:=a.ts.length<=3/\∀t∈a.ts,tm t
def Qy9(ns:List Int)(c:Int)(free:Bool):AtD (rule ns c free).h:=by
 show⟨?_,?_⟩
 ·simp only[RH.rule,Qb,Wp];show Yz _ _
 ·intro t a;let⟨j,_,rfl⟩:=Q4.mp a;show OT (U5 _ (Zq ns c free))
def Qxq(ns:List Int)(c:Int)(free:Bool):AtD (Qd2 ns c free):=by
 show⟨?_,?_⟩
 ·simp only[Qd2,Qb,Wp];show Yz _ _
 ·intro t a;let⟨j,_,rfl⟩:=Q4.mp a;show OT (U5 _ (Zq ns c free))
def Qyh(h:l∈Wm ns c free):AtD l.a:=by
 rcases BH h with⟨a,ha,rfl⟩|⟨b,rfl⟩
 ·let⟨k,_,rfl⟩:=Q4.mp ha;show⟨Qck ..,Qqa ns c (QQ c) free k⟩
 ·show Qxq ns c free
def Quf(ns:List Int):∀r∈rulesR ns,Dr r:=λr d=>by
 let⟨c,_,rfl⟩:=Q4.mp d;let b:∀a∈Jm (rule ns c (Bm ns)),AtD a:=λa ha=>by
  rcases Qe.mp ha with rfl|ha
  ·show Qy9 ns c _
  ·let⟨l,hl,rfl⟩:=Q4.mp ha;show Qyh hl
 show⟨Qfm ns c _,λa ha=>(b a ha).1,λa ha t e=>(b a ha).2 t e⟩
def Dr.ruT(h:Dr r):RuT r:=⟨h.b,λa ha=>⟨h.t a ha,λt b=>⟨(Qdi (h.tf a ha t b)).l8,(Qdi (h.tf a ha t b)).ne⟩⟩⟩
def Dr.v(h:Dr r):(W6 r).length<=3:=by
 let:=Ox (YY r) λt c=>by
  let⟨⟨a,ha,b⟩,o⟩:=Qda.mp c;let f:=Qdi (h.tf a ha t b);show f.o (by rw[<-f.c];show o)
 omega
def WX{r:Ru}{y:Bool}{a:RH.At}:a∈ZC r y↔Li.mk y a∈r.b:=by
 unfold ZC;simp only[Q4,QS,ZG];constructor
 ·rintro⟨l,⟨c,b⟩,h3⟩;cases l;simp at b h3;subst b h3;show c
 ·intro h;show⟨_,⟨h,()⟩,()⟩
def Safe(r:Ru):Prop:=∀a∈Jm r,∀t∈a.ts,Qr t=true->∃b∈ZC r true,t∈b.ts
def Qki(ns:List Int):∀r∈rulesR ns,Safe r:=λr g=>by
 let⟨c,_,rfl⟩:=Q4.mp g;intro a ha t e d;let tt:∀{t:Str},t∈Jj ns c (Bm ns)->Qr t=true->∃b∈ZC (rule ns c (Bm ns)) true,t∈b.ts:=λ{t} h d=>by
  rcases B0 h with h|⟨_,a,f,i⟩
  ·let:=(Qdi (.inr h)).o d;let h3:=Bz h;rw[Qlw _ this]at h3;cases h3
  ·show⟨a,WX.mpr (Qfl f),i⟩
 rcases Qe.mp ha with rfl|ha
 ·let⟨j,_,rfl⟩:=Q4.mp e;show tt (U5 _ (Zq ns c _)) d
 ·let⟨l,hl,rfl⟩:=Q4.mp ha;rcases BH hl with⟨a,f,rfl⟩|⟨_,rfl⟩
  ·show⟨a,WX.mpr hl,e⟩
  ·let⟨j,_,rfl⟩:=Q4.mp e;show tt (U5 _ (Zq ns c _)) d
def Qd9(c:Int)(k:Nat)(f:Str):(signs (word c k f)).head?=-((signs f).getD k 97):=by
 unfold word;dsimp only;split
 ·rfl
 ·rw[Zo,UN];rfl
def Qqs(ns:List Int):(words ns).Nodup:=by
 unfold words;show List.Pairwise.map _ (R:=λa b=>a∈List.range (YE ns)/\b∈List.range (YE ns)/\a≠b) (λa b h e=>?_) ?_
 ·let d:(signs (word (cell ns 1) a "abcdef")).head? =(signs (word (cell ns 1) b "abcdef")).head?:=JL (λx=>(signs x).head?) e;rw[Qd9,Qd9]at d;let ha:=Jp.mp h.1;let hb:=Jp.mp h.2.1;let k:YE ns<=4:=by unfold YE;split<;>lia
  let c:∀a,a<4->∀b,b<4->(signs "abcdef").getD a 97=(signs "abcdef").getD b 97->a=b:="k"
  show h.2.2 (c a "l" b "l" (QZ d))
 ·rw[JM];intro i j hi f g;show⟨WF hi,WF f,?_⟩
  simp
  lia
theorem U1{k x:Str}:∀{ks vs:List Str},ks.length=vs.length->k∉ks->putVs ks vs k x=vs++[x]
 |[],[],_,_=>by simp[putVs]|[],_::_,h,_=>by simp at h|_::_,[],h,_=>by simp at h|a::ks,v::vs,h,b=>by
  rw[putVs,Qc λe=>b (by rw[e];show Q8),U1 (by simpa using h) λz=>b (Q7 _ z)];rfl
def Qhs(hl:g.1.length=g.2.length)(h:k∉g.1):Yo g k v=(g.1++[k],g.2++[v]):=by
 unfold Yo Zb;rw[Qc h,U1 hl h]
structure Gs(vars ws:List Str)(g:Gv):Prop where
 keys:g.1=vars
 len:g.2.length=vars.length
 mem:∀v∈g.2,v∈ws
def Gs.hl(k:Gs vars ws g):g.1.length=g.2.length:=by rw[k.keys,k.len]
def Qr9(hn:one∉vars)(h:∀g∈gs,Gs vars ws g):∀g∈WO ws gs one,Gs (vars++[one]) ws g:=λg a=>by
 let⟨b,c,a⟩:=Ud.mp a;let⟨v,d,rfl⟩:=Q4.mp a;let k:=h b c;rw[Qhs k.hl (by rw[k.keys];show hn)];show⟨by rw[k.keys],by simp[k.len],λx hx=>?_⟩;rcases Qt.mp hx with hx|hx
 ·show k.mem x hx
 ext
theorem Qhg{vars ws:List Str}{one:Str}(hw:ws.Nodup)(hn:one∉vars):∀{gs:List Gv},(∀g∈gs,Gs vars ws g)->gs.Nodup->(WO ws gs one).Nodup
 |[],_,_=>by simp[WO]|g::gs,h,nd=>by
  let c:=J0.mp nd;let f:=Qhg hw hn (gs:=gs) (λg l=>h g (Q7 _ l)) c.2;let k:=h g Q8;let pn:∀(g:Gv)(w:Str),Gs vars ws g->Yo g one w=(g.1++[one],g.2++[w]):=λg w k=>Qhs k.hl (by rw[k.keys];show hn)
  unfold WO at f ⊢;rw[Qo9];show Js.mpr ⟨List.Pairwise.map _ (λa b d e=>?_) hw,f,λx hx y hy e=>?_⟩
  ·rw[pn g a k,pn g b k]at e;let:=List.append_cancel_left (Prod.mk.inj e).2;show d (by simpa using this)
  ·let⟨v,_,rfl⟩:=Q4.mp hx;let⟨g2,i,hy⟩:=Ud.mp hy;let⟨m,_,rfl⟩:=Q4.mp hy;let j:=h g2 (Q7 _ i);rw[pn g v k,pn g2 m j]at e;let n:=(List.append_inj' (Prod.mk.inj e).2 ()).1;let:g=g2:=Prod.ext (by rw[k.keys,j.keys]) n;rw[this]at c;show c.1 i
theorem Qnk{ws:List Str}(hw:ws.Nodup):∀(vars:List Str){done:List Str}{gs:List Gv},(done++vars).Nodup->(∀g∈gs,Gs done ws g)->gs.Nodup->(∀g∈vars.foldl (WO ws) gs,Gs (done++vars) ws g)/\(vars.foldl (WO ws) gs).Nodup
 |[],done,gs,_,h,nd=>by rw[QW];show⟨h,nd⟩|one::vars,done,gs,hd,h,nd=>by
  let a:one∉done:=λz=>by
   let:=(Js.mp hd).2.2 one z one Q8;show this ()
  let:=Qnk hw vars (done:=done++[one]) (gs:=WO ws gs one) (by simpa using hd) (Qr9 a h) (Qhg hw a h nd);rw[QH]at this;show this
def Qe8(hw:ws.Nodup)(hv:vars.Nodup):(∀g∈givens vars ws,Gs vars ws g)/\(givens vars ws).Nodup:=
 Qnk hw vars (done:=[]) hv (λg a=>by
  rw[Qu.mp a];show⟨(),(),λ_ z=>nomatch z⟩) "s"
def pr(g:WY.Gv)(k:Str):D:=.tup [.str k,.str (sub g k)]
def Om(nd:g.1.Nodup)(hl:g.1.length=g.2.length):prs g=.tup (Wa (g.1.map (pr g))):=by
 unfold prs;let e:=Qet nd hl;let:∀a:List Str,ZK a ((a.map (sub g)).map D.str)=a.map (pr g):=λa=>by
  induction a with
  |nil=>rfl|cons k a b=>rw[Qw,Qw,Qw,<-b];rfl
 grind
def GZ(h:a.Perm b):Wa a=Wa b:=Ym ((Jw a).trans (h.trans (Jw b).symm)) (Zh a) (Zh b)
def Qht{g g':WY.Gv}(nd:g.1.Nodup)(hl:g.1.length=g.2.length)(nd':g'.1.Nodup)(hl':g'.1.length=g'.2.length)(hk:∀k,k∈g.1↔k∈g'.1)(hv:∀k∈g.1,sub g k=sub g' k):prs g=prs g':=by
 rw[Om nd hl,Om nd' hl'];congr 1;show GZ ?_;let e:g.1.map (pr g)=g.1.map (pr g'):=Jb λk hk=>by unfold pr;rw[hv k hk]
 rw[e];show((B9 nd nd').mpr hk).map _
def Qmu{g g':WY.Gv}(nd:g.1.Nodup)(hl:g.1.length=g.2.length)(hk:g.1=g'.1)(hl':g'.1.length=g'.2.length)(h:prs g=prs g'):g=g':=by
 let a:g'.1.Nodup:=by rw[<-hk];show nd
 rw[Om nd hl,Om a hl']at h;let c:=D.tup.inj h;let d:(g.1.map (pr g)).Perm (g'.1.map (pr g')):=by
  let:=(Jw (g.1.map (pr g))).symm;rw[c]at this;show this.trans (Jw _)
 let f:∀k∈g.1,sub g k=sub g' k:=λk b=>by
  let:=d.mem_iff.mp (Q4.mpr ⟨k,b,()⟩);let⟨i,_,e⟩:=Q4.mp this;unfold pr at e;simp at e;rw[<-e.2,e.1]
 show Prod.ext hk ?_;rw[<-Qet nd hl,<-Qet a hl',<-hk];show Jb f
structure FsW(fs:List RH.At)(ws:List Str):Prop where
 w:∀f∈fs,∀t∈f.ts,t∈ws
 c:∀t∈ws,Qr t=false
def Qhd(hl:ks.length=vs.length):sub (ks,vs) t=Qgc ks vs t:=by
 change subst ks vs t=_;unfold subst;split
 ·rfl
 ·rename_i h;show(Qgb hl h).symm
def Qcn(hl:g.1.length=g.2.length)(a:RH.At):U4 a g=JB g a:=by
 unfold U4 JB;congr 1;show Jb λt _=>(Qhd hl).symm
def Qly{r:Ru}{fs:List RH.At}{ws:List Str}(hd:Dr r)(hs:Safe r)(hf:FsW fs ws)(hw:ws.Nodup):
  (∀g∈U0 r fs,∃g'∈GY r fs ws,prs g'=prs g)/\(∀g'∈GY r fs ws,∃g∈U0 r fs,prs g=prs g')/\((U0 r fs).map prs).Nodup/\((GY r fs ws).map prs).Nodup:=by
 let tf:∀a∈Jm r,∀t∈a.ts,Tf t:=λa ha t c=>Qdi (hd.tf a ha t c)
 let f:=YY r;let y:∀t,t∈W6 r↔(∃a∈Jm r,t∈a.ts)/\Qr t=true:=λt=>by
  rw[Qda];constructor
  ·rintro⟨⟨a,ha,c⟩,h⟩;show⟨⟨a,ha,c⟩,by rw[<- (tf a ha t c).c];show h⟩
  ·rintro⟨⟨a,ha,c⟩,h⟩;show⟨⟨a,ha,c⟩,by rw[(tf a ha t c).c];show h⟩
 let s:∀t,t∈Qk4 Qr (osW r fs) []↔t∈W6 r:=λt=>by
  constructor
  ·intro h;rw[y];rcases Qlz _ h with h|⟨⟨q,hq,hx⟩,o⟩
   ·cases h
   ·let⟨a,ha,rfl⟩:=Q4.mp hq;show⟨⟨a,Qi6 ha,hx⟩,o⟩
  ·intro h;let⟨⟨a,ha,c⟩,ho⟩:=(y t).mp h;let⟨b,hb,n⟩:=hs a ha t c ho;show Qdf ho _ (Q4.mpr ⟨b,hb,()⟩) n
 let ok:∀g∈Zf Qr (Jm r) [([],[])] (osW r fs),GOk Qr (Qk4 Qr (osW r fs) []) g:=Qnz _ Qu8;let sol:∀g∈Zf Qr (Jm r) [([],[])] (osW r fs),∀a∈ZC r true,JB g a∈fs:=λg i a ha=>by
  let⟨_,_,_,h⟩:=Qjj (Ky:=Jm r) (osW r fs) (done:=[]) Qu8 (λ_ _ _ z=>nomatch z) (λ_ z=>nomatch z) g i;show h (a,fs) (Q4.mpr ⟨a,ha,()⟩)
 let gg:=Qe8 (vars:=W6 r) hw f;let put:∀(g:WY.Gv)(g':Gv),g'.1=W6 r->g'.1.length=g'.2.length->GOk Qr (Qk4 Qr (osW r fs) []) g->(∀t∈W6 r,sub g t=sub g' t)->∀a∈Jm r,U4 a g'=JB g a:=λg g' hk hl i he a ha=>by
  rw[Qcn hl];unfold JB;congr 1;show Jb λt c=>?_
  by_cases hv:t∈W6 r
  ·show(he t hv).symm
  ·rw[ZS (g:=g') (by rw[hk];show hv),ZS (g:=g) (by rw[i.keys];show λz=>hv ((s t).mp z))]
 let j:∀(g:WY.Gv)(g':Gv),(∀a∈Jm r,U4 a g'=JB g a)->((∀a∈ZC r true,JB g a∈fs)/\Qiu r g fs=false↔Qa4 r g' fs=true):=λg g' hp=>by
  let pa:∀l∈r.b,U4 l.a g'=JB g l.a:=λl hl=>hp l.a (Q7 _ (Q4.mpr ⟨l,hl,()⟩))
  unfold Qa4 Qiu;rw[Wd,List.any_eq_false];constructor
  ·rintro⟨u,w⟩ l hl;rw[pa l hl];cases hy:l.y with
   |true =>
    let:=u l.a (WX.mpr (by rw[<-hy];show hl));simp[this]
   |false =>
    let:=w l.a (WX.mpr (by rw[<-hy];show hl));simpa using this
  ·intro h;show⟨λa ha=>?_,λa ha=>?_⟩
   ·let:=h _ (WX.mp ha);rw[pa _ (WX.mp ha)]at this;simpa using this
   ·let:=h _ (WX.mp ha);rw[pa _ (WX.mp ha)]at this;simpa using this
 show⟨λg i=>?_,λg' hg'=>?_,?_,?_⟩
 ·let⟨u,w⟩:=QS.mp i;let d:=ok g u;let sg:=sol g u;let e:∀t∈W6 r,sub g t=sub (W6 r,(W6 r).map (sub g)) t:=λt c=>by
   rw[Qhd (ks:=W6 r) (vs:=(W6 r).map (sub g)) "s",Qu5,Qh c]
  let pp:=put g (W6 r,(W6 r).map (sub g)) () "s" d e;show⟨(W6 r,(W6 r).map (sub g)),QS.mpr ⟨Ql9 f λv hv=>?_,(j g _ pp).mp ⟨sg,by simpa using w⟩⟩,?_⟩
  ·let⟨⟨a,ha,c⟩,ho⟩:=(y v).mp hv;let⟨b,hb,n⟩:=hs a ha v c ho;show hf.w _ (sg b hb) _ (Q4.mpr ⟨v,n,()⟩)
  ·show(Qht (by rw[d.keys];show d.nd) d.len f "s" (λk=>by rw[d.keys];show s k) λk hk=>e k ?_).symm;rw[d.keys]at hk;show(s k).mp hk
 ·let⟨u,w⟩:=QS.mp hg';let k:=gg.1 g' u;let cl:∀t,Qr t=false->sub g' t=t:=λt c=>ZS λz=>by
   rw[k.keys,y]at z;rw[z.2]at c;cases c
  let hm:∀a,Qi9 (sub g') a=U4 a g':=λa=>(Qcn k.hl a).symm
  let hh:=Wd.mp w;let⟨g,i,same⟩:=Qek (op:=Qr) (Ky:=Jm r) (osW r fs) (σ:=sub g') Qu8 cl ⟨_,Q8,λ_ z=>nomatch z⟩ (λq hq=>by
   let⟨a,ha,rfl⟩:=Q4.mp hq;let:=hh _ (WX.mp ha);change Qi9 (sub g') a∈fs;rw[hm];simpa using this)
  let d:=ok g i;let e:∀t∈W6 r,sub g t=sub g' t:=λt c=>by
   let⟨⟨a,ha,hta⟩,_⟩:=(y t).mp c;show same a ha t hta (by rw[d.keys];show(s t).mpr c)
  let pp:=put g g' k.keys k.hl d e;let:=(j g g' pp).mpr w;show⟨g,QS.mpr ⟨i,by rw[this.2];rfl⟩,?_⟩;show Qht (by rw[d.keys];show d.nd) d.len (by rw[k.keys];show f) k.hl (λx=>by rw[d.keys,k.keys];show s x) λx hx=>e x ?_
  rw[d.keys]at hx;show(s x).mp hx
 ·show YL.mpr (List.Pairwise.imp_of_mem (λ{a b} ha hb p e=>p ?_) ((Qjk _ "s").filter _));let m:=ok a (QS.mp ha).1;let ob:=ok b (QS.mp hb).1;show Qmu (by rw[m.keys];show m.nd) m.len (by rw[m.keys,ob.keys]) ob.len e
 ·show YL.mpr (List.Pairwise.imp_of_mem (λ{a b} ha hb p e=>p ?_) (gg.2.filter _));let m:=gg.1 a (QS.mp ha).1;let ob:=gg.1 b (QS.mp hb).1;show Qmu (by rw[m.keys];show f) m.hl (by rw[m.keys,ob.keys]) ob.hl e
def Qqt{r:Ru}{fs:List RH.At}{ws:List Str}(hd:Dr r)(hs:Safe r)(hf:FsW fs ws)(hw:ws.Nodup):((U0 r fs).map prs).Perm ((GY r fs ws).map prs):=by
 let⟨f,i,h3,h4⟩:=Qly hd hs hf hw;show(B9 h3 h4).mpr λd=>?_
 constructor
 ·intro h;let⟨g,b,rfl⟩:=Q4.mp h;let⟨c,a,e⟩:=f g b;show Q4.mpr ⟨c,a,e⟩
 ·intro h;let⟨g,b,rfl⟩:=Q4.mp h;let⟨c,a,e⟩:=i g b;show Q4.mpr ⟨c,a,e⟩
def PrL'(l:List D):Prop:=∀d∈l,∃x y:Str,d=.tup [.str x,.str y]
theorem Qmv:∀{a b:List D},PrL' a->PrL' b->cmbs a b=true
 |[],_,_,_=>by simp[cmbs]|_::_,[],_,_=>by simp[cmbs]|d::a,e::b,ha,hb=>by
  let⟨x,y,rfl⟩:=ha d Q8;let⟨c,f,rfl⟩:=hb e Q8;let:=Qmv (λd h=>ha d (Q7 _ h)) (λd h=>hb d (Q7 _ h));simp[cmbs,cmb,this]
def Qwq(h:PrL' a):keyOks a=true:=J5.mpr λd hd=>by
 let⟨x,y,rfl⟩:=h d hd;rfl
theorem Qfo:∀{a:List D},PrL' a->deps a<=2
 |[],_=>by simp[deps]|d::a,h=>by
  let⟨x,y,rfl⟩:=h d Q8;let:=Qfo λd hd=>h d (Q7 _ hd)
  simp[deps,dep]
  lia
def Qhu(nd:g.1.Nodup)(hl:g.1.length=g.2.length):∃l,prs g=.tup l/\PrL' l/\l.length=g.1.length:=by
 show⟨_,Om nd hl,λd hd=>?_,by rw[(Jw _).length_eq,Qb]⟩;let⟨k,_,rfl⟩:=Q4.mp ((Jw _).mem_iff.mp hd);show⟨k,_,()⟩
def Qrv{V:List Str}{l:List WY.Gv}(h:∀g∈l,g.1=V/\g.1.length=g.2.length)(nd:V.Nodup)(hn:(l.map prs).Nodup):SrtG (l.map prs):=by
 let c:∀d∈l.map prs,∃m,d=.tup m/\PrL' m/\m.length=V.length:=λd hd=>by
  let⟨g,i,rfl⟩:=Q4.mp hd;let⟨o,f⟩:=h g i;let⟨m,p,q,r⟩:=Qhu "e" f
  ext
 show⟨J5.mpr λd hd=>?_,λf=>?_,λd hd e j=>?_⟩
 ·let⟨m,rfl,k,_⟩:=c d hd;simp[keyOk,Qwq k]
 ·by_cases s:V.length=0
  ·let:=Ox hn (m:=[D.tup []]) λd hd=>by
    grind
   grind
  ·show .inr λd hd=>?_
   let⟨m,rfl,k,e⟩:=c d hd;cases m with
   |nil=>grind|cons x m =>
    let⟨a,b,rfl⟩:=k x Q8;let:=Qfo k
    grind
 ·let⟨m,rfl,k,_⟩:=c d hd;let⟨t,rfl,n,_⟩:=c e j;simp[cmb,Qmv k n]
def Qz2(r:Ru):LF r.d=true:=by
 let a:=Ys r.h;let b:LFs (r.b.map Li.d)=true:=JJ (λl=>by
  let:=Ys l.a;simp[Li.d,LF,LFs,this]) _
 simp[Ru.d,LF,LFs,a,b]
def Jbu(l:Li):keyOk l.d=true:=by simp[Li.d,RH.At.d,keyOk,keyOks,Qm6]
def Jal(r:Ru):keyOk r.d=true:=by
 let a:keyOks (r.b.map Li.d)=true:=J5.mpr λd hd=>by let⟨x,_,rfl⟩:=Q4.mp hd;show Jbu x
 let b:keyOk r.h.d=true:=by simp[RH.At.d,keyOk,keyOks,Qm6]
 simp[Ru.d,keyOk,keyOks,b,a]
theorem O0:∀{l:List D},(∀d∈l,dep d<=n)->deps l<=n
 |[],_=>by simp[deps]|d::l,h=>by
  let b:=h d Q8;let c:=O0 λe a=>h e (Q7 _ a)
  simp[deps]
  lia
def Jbv(l:Li):dep l.d<=4:=by
 let h:dep l.a.d<=3:=Qco l.a;simp[Li.d,dep,deps]
 lia
def Jam(r:Ru):dep r.d<=6:=by
 let h:dep r.h.d<=3:=Qco r.h;let a:deps (r.b.map Li.d)<=4:=O0 λd hd=>by let⟨x,_,rfl⟩:=Q4.mp hd;show Jbv x
 simp[Ru.d,dep,deps]
 lia
def Qua(ns:List Int):∃fs:List RH.At,Bn ns=fs.map RH.At.d/\FsOk fs/\FsW fs (words ns):=by
 let mem:∀d∈ST.Ut (BJ ns),∃c,d=(fact ns c).d:=λd hd=>by
  let:=((ST.GU (BJ ns)).2 d).mp hd;let⟨c,_,rfl⟩:=Q4.mp this
  grind
 let g:∀l:List D,(∀d∈l,∃c,d=(fact ns c).d)->∃fs:List RH.At,l=fs.map RH.At.d/\∀f∈fs,∃c,f=fact ns c:=λl=>by
  induction l with
  |nil=>ext|cons d l m =>
   intro h;let⟨fs,e,k⟩:=m λd hd=>h d (Q7 _ hd)
   let⟨c,rfl⟩:=h d Q8;show⟨fact ns c::fs,"e",λf b=>?_⟩
   grind
 let⟨fs,e,k⟩:=g (Bn ns) λd hd=>mem d ((Jw _).mem_iff.mp hd)
 let tm:∀f∈fs,f.ts.length<=3/\∀t∈f.ts,t∈words ns:=λf b=>by
  let⟨c,rfl⟩:=k f b;show⟨?_,λt a=>?_⟩
  ·simp only[fact,Qb,Wp];show Yz _ _
  ·let⟨j,_,rfl⟩:=Q4.mp a;show U5 _ (Qh3 ns)
 let i:=λt a=>Qdi (.inr (UI ns t a))
 show⟨fs,e,⟨?_,λf b=>⟨(tm f b).1,λt a=>Qx (i t ((tm f b).2 t a)).l8 "d"⟩⟩,⟨λf b=>(tm f b).2,λt a=>?_⟩⟩
 ·let n:fs.length=(Bn ns).length:="e"
  let o:=(Jw (ST.Ut (BJ ns))).length_eq;let h3:=ST.Qc9 (BJ ns);let h4:(BJ ns).length<=24:=by unfold BJ;rw[Qb];show Qix ns
  unfold Bn at n
  lia
 ·cases z:Qr t with
  |false=>rfl|true =>
   let h3:=Bz (UI ns t a);rw[Qlw _ ((i t a).o z)]at h3;cases h3
def Jat(h:PrL' l):LFs l=true:=WL.mpr λd hd=>by
 let⟨x,y,rfl⟩:=h d hd;rfl
section
variable {P:Program} {w:World} {K:W.Frag} {mg:Str->Option Value} {base:Heap} {C:Addr}
def Quq(ha:PD X ρ a (.tup us))(hb:PD X ρ b (.tup us))(hk:keyOks us=true)(hu:X.A.units+dep (.tup us)+dep (.tup us)<cLine):PD X ρ (.Compare a [.Eq] [b] pos) (.bl true):=by
 let:=Jel (pos:=pos) ha hb hk hk hu
 ext
abbrev Jdz:List Str:=["_law_script", "_law_rules_here", "_law_facts_here", "_law_rule_here", "_law_found", "_law_due", "_law_given_here"]
def Qbe:Vf Jdz ["_law_script"] (Vs Qrg):=⟨(),(),(),"k",(),"k","k"⟩
def Jbf{f:Addr}{fd:FuncData}(T:Txt K mg)(F:Fun K "law" "law" Qrg f fd)(GR:PrD P w K mg base "_law_rules" 6 ["_law_script"] (RNsT Qfk))(GF:PrD P w K mg base "_law_facts" 5 ["_law_script"] (RNsT Bn))(G4:PrL P w K mg base "_law_words" 3 ["_law_script"] (RNs words))
  (GW:PrD P w K mg base "ways" 5 Qdq (RWays w)) (GL:PrL P w K mg base "_law_follow" 3 Gy (RFollow w)) (GD:PrD P w K mg base "_law_dict" 1 ["_law_facts_here"] (RLDict w)):FnOk P w K mg base CX0 7 f fd ["_law_script"] (spD K 1 RLaw0):=by
 show Jc9 (N:=Jdz) F Qbe "d" λKn A outer s H E ds d n hR _=>?_
 let⟨ns,rfl,c,rfl⟩:=hR;let drs:=Quf ns;let t:=Qki ns;let⟨fs,ef,v,hfw⟩:=Qua ns;let f24:=v.len;let p:=Qqs ns;let w4:(words ns).length<=4:=by rcases ZJ ns with h|h<;>lia
 let rlf:LFs ((rulesR ns).map Ru.d)=true:=JJ Qz2 _;let flf:LFs (fs.map RH.At.d)=true:=JJ Ys _;let rlf':LF (.tup ((rulesR ns).map Ru.d))=true:=by simp[LF,rlf]
 let flf':LF (.tup (fs.map RH.At.d))=true:=by simp[LF,flf]
 let hu:=hu22 n;show Vq (m:=true) (Zi (i:=1) (Z8 GR n (Vc (Vv 0 ()) Vn) ⟨ns,(),c,()⟩) Qbe.nd) ?_;show Vq (m:=true) (Zi (i:=2) (d:=.tup (fs.map RH.At.d)) (Z8 GF (n.mono "d") (Vc (Vv 0 ()) Vn) ⟨ns,(),c,by rw[ef]⟩) Qbe.nd) ?_;show Vq (m:=false) (Qku (m:=false) (j:=3) (ds:=(rulesR ns).map Ru.d) (λ_=>[.arg (scr ns),.any (.tup ((rulesR ns).map Ru.d)),.any (.tup (fs.map RH.At.d)),.no,.no,.no,.no]) QF () (Vv 1 ()) rlf () (λi d hd=>⟨false,?_,λh=>nomatch h⟩) Qbe.nd) ?_
 ·let⟨r,hri,rfl⟩:=ZT hd;let q:=Q6 hri;let dr:=drs r q;let perm:=Qqt dr (t r q) hfw p;let⟨_,_,nd1,nd2⟩:=Qly dr (t r q) hfw p;let gg:=Qe8 (vars:=W6 r) p (YY r);let gs:∀g∈GY r fs (words ns),Gs (W6 r) (words ns) g:=λg b=>gg.1 g (QS.mp b).1
  let s2:=Qrv (λg b=>⟨(gs g b).keys,(gs g b).hl⟩) (YY r) nd2;let s1:SrtG ((U0 r fs).map prs):=s2.perm perm;let l2:(GY r fs (words ns)).length<=64000:=Qx (Zn _ _) (Qc1 dr.v "l");let l1:(U0 r fs).length<=64000:=by
   let:=perm.length_eq
   ext
  let es:=(GZ perm).symm;let o:∀g∈GY r fs (words ns),∃l,prs g=.tup l/\PrL' l:=λg b=>by
   let⟨l,e1,e2,_⟩:=Qhu (by rw[(gs g b).keys];show YY r) (gs g b).hl
   ext
  let plf:∀g∈GY r fs (words ns),LF (prs g)=true:=λg b=>by
   let⟨l,e1,e2⟩:=o g b;rw[e1];simp[LF,Jat e2]
  let sdep:deps (Wa ((U0 r fs).map prs))<=3:=O0 λd hd=>by
   rw[<-es]at hd;let⟨g,b,rfl⟩:=Q4.mp ((Jw _).mem_iff.mp hd);let⟨l,e1,e2⟩:=o g b;rw[e1];let:=Qfo e2;simp[dep]
   lia
  let skey:=J5.mpr λd hd=>J5.mp s1.key d ((Jw _).mem_iff.mp hd)
  show ZB (m:=false) (τ1:=[.arg (scr ns),.any (.tup ((rulesR ns).map Ru.d)),.any (.tup (fs.map RH.At.d)),.any r.d,.any (.tup (Wa ((U0 r fs).map prs))),.own ((GY r fs (words ns)).map prs),.no]) ?_ (WkI.wk (.keep (.keep (.keep (.no (.no (.no (.no .nil)))))))) (λh=>nomatch h);show YB (Zi (i:=4) (Z8 GW (n.mono "d") (Vc (Vv 3 ()) (Vc (Vv 2 ()) Vn)) ⟨r,fs,(),dr.ruT,v,s1,"l",()⟩) Qbe.nd) ?_;show YB (W8 (i:=5) (ds:=[]) (WB Vn (Vl "s")) () Qbe.nd) ?_;let slf:LF (.tup (Wa ((U0 r fs).map prs)))=true:=by
   let:LFs (Wa ((U0 r fs).map prs))=true:=WL.mpr λd hd=>by
    rw[<-es]at hd;let⟨g,b,rfl⟩:=Q4.mp ((Jw _).mem_iff.mp hd)
    ext
   simp[LF,this]
  letI Kr:Nat->List Sl:=λi=>[.arg (scr ns),.any (.tup ((rulesR ns).map Ru.d)),.any (.tup (fs.map RH.At.d)),.any r.d,.any (.tup (Wa ((U0 r fs).map prs))),.own (((GY r fs (words ns)).take i).map prs),.no]
  show Ov (m:=false) (Qt1 (m:=false) (j:=6) Kr QF () (Qup (Zv GL (n.mono "d") (Vc (Vv 3 ()) (Vc (Z8 GD (n.mono "d") (Vc (Vv 2 ()) Vn) ⟨fs,(),"l",()⟩) (Vc (PDL.pd (Zv G4 (n.mono "d") (Vc (Vv 0 ()) Vn) ⟨ns,(),c,()⟩)) Vn))) ⟨r,fs,words ns,(),dr.ruT,dr.v,"l",()⟩) (JJ Gc _)) (JJ Gc _) () (λi d hd=>⟨false,?_,λh=>nomatch h⟩) Qbe.nd) ?_
  ·let⟨g,hgi,rfl⟩:=ZT hd;let hgm:=Q6 hgi;let k:=gs g hgm;let gnd:g.1.Nodup:=by rw[k.keys];show YY r
   let g3:g.1.length<=3:=by rw[k.keys];show dr.v
   change QOs _ H [.arg (scr ns),.any (.tup ((rulesR ns).map Ru.d)),.any (.tup (fs.map RH.At.d)),.any r.d,.any (.tup (Wa ((U0 r fs).map prs))),.own (((GY r fs (words ns)).take i).map prs),.any (gD g)] _ (.next false [.arg (scr ns),.any (.tup ((rulesR ns).map Ru.d)),.any (.tup (fs.map RH.At.d)),.any r.d,.any (.tup (Wa ((U0 r fs).map prs))),.own (((GY r fs (words ns)).take (i+1)).map prs),.no]);rw[Qe0 hgi];show ZB (Vz (ZZ (i:=5) (d:=prs g) () ?_ (plf g hgm) (AL.h ⟨rlf',flf',Qz2 r,slf,Gc g,QA⟩) (by rw[Qb,Z6,QR];lia))) (WkI.wk (.keep (.keep (.keep (.keep (.keep (.keep (.no .nil)))))))) (λh=>nomatch h);rw[Om gnd k.hl];let em:((g.1.map D.str).map λd=>D.tup [d,.str (sub g (UL d))])=g.1.map (pr g):=by
    rw[QL];rfl
   let sb:Srtb (g.1.map (pr g)):=⟨λd hd=>by
    let⟨x,_,rfl⟩:=Q4.mp hd;show⟨x,_,(),by rfl,by simp[dep,deps]⟩,λd hd e he=>by
    let⟨x,_,rfl⟩:=Q4.mp hd;let⟨y,_,rfl⟩:=Q4.mp he;rfl⟩
   show W2 T.bTup (PDL.pd (Qpu hu T.bSrt (PDL.pd (YG (Zu () (Qyc (ks:=g.1) (ds:=g.2.map .str) (Vv 6 ())) (Vl "g") λd hd cl Cc s' H' ex=>?_) em)) (.inr ()) sb "g")) (.inl ());let⟨x,hx,rfl⟩:=Q4.mp hd;let hi:g.1.idxOf x<g.1.length:=List.idxOf_lt_length_iff.mpr hx;let Ks:=k.hl;let ev:sub g x=g.2[g.1.idxOf x]'"l":=by
    change subst g.1 g.2 x=_;unfold subst
    grind
   show Vp (Vc (Vv 0 ()) (Vc ?_ Vn)) (Vl "s");change PD _ _ _ (.str (sub g x));rw[ev];show Jck (i:=g.1.idxOf x) (k:=x) (fz:=true) (ks:=g.1) (ds:=g.2.map .str) (Qne n) (Vv 7 ()) (Vv 0 ()) "g" "e"
  ·rw[Qb];change QOs _ H [.arg (scr ns),.any (.tup ((rulesR ns).map Ru.d)),.any (.tup (fs.map RH.At.d)),.any r.d,.any (.tup (Wa ((U0 r fs).map prs))),.own (((GY r fs (words ns)).take (GY r fs (words ns)).length).map prs),.no] _ _;rw[QY];show ZB (m:=true) (Vz (Yx (k:=false) (r:=.next true _) (Qlp (Qyj (k:=false) (Qje (k:=true) (B8 (Quo T.bIsi T.bTup Qja (Vv 4 ()) (Qy2 _ _)))) (λ_=>Qv6 (Jer (Vv 4 ()) ?_ skey ?_)) (λz=>nomatch z))) (λz=>nomatch z) (λ_=>ZY))) (WkI.wk (.keep (.keep (.keep (.keep (.keep (.keep (.keep .nil)))))))) (λh=>nomatch h)
   ·rw[<-es];show W2 T.bTup (PDL.pd (Bp hu T.bSrt (Vv 5 ()) (.inr ()) s2 "g")) (.inl ())
   ·show(show ∀u a:Nat,u+22<cLine->a<=3->u+1+a+a<cLine from λu a h1 h2=>by lia) _ _ hu sdep
 ·show Vz (Z1 (Quu (k:=true) (Quq (us:=fs.map RH.At.d) (Vv 2 ()) (Z8 GF (n.mono "d") (Vc (Vv 0 ()) Vn) ⟨ns,(),c,by rw[ef]⟩) ?_ ?_) (λ_=>Jej (Quq (us:=(rulesR ns).map Ru.d) (Vv 1 ()) (Z8 GR n (Vc (Vv 0 ()) Vn) ⟨ns,(),c,()⟩) ?_ ?_)) (λz=>nomatch z)))
  ·show J5.mpr λd hd=>by let⟨x,_,rfl⟩:=Q4.mp hd;show(Uw x).1
  ·let:deps (fs.map RH.At.d)<=3:=O0 λd hd=>by let⟨x,_,rfl⟩:=Q4.mp hd;show Qco x
   let e:dep (.tup (fs.map RH.At.d))<=4:=by simp[dep];lia
   show(show ∀u a:Nat,u+22<cLine->a<=4->u+a+a<cLine from λu a h1 h2=>by lia) _ _ hu e
  ·show J5.mpr λd hd=>by let⟨x,_,rfl⟩:=Q4.mp hd;show Jal x
  ·let:deps ((rulesR ns).map Ru.d)<=6:=O0 λd hd=>by let⟨x,_,rfl⟩:=Q4.mp hd;show Jam x
   let e:dep (.tup ((rulesR ns).map Ru.d))<=7:=by simp[dep];lia
   show(show ∀u a:Nat,u+22<cLine->a<=7->u+a+a<cLine from λu a h1 h2=>by lia) _ _ hu e
end
end K07
namespace K07
open PySem L2 RH
structure Cl(K:W.Frag)(mg:Str->Option Value)where
 C:Addr
 z:ShC K mg C
 i:FdC K C "Shelf.__init__" Qbh Qbo
 a:FdM K C "add" "Shelf.add" Qho Qoy
 n:FdM K C "near" "Shelf.near" Qbg Qds
def Jep{K:W.Frag}{h:Heap}{mg:Str->Option Value}{C f1 f2 f3:Addr}{od1 an1 od2 an2 od3 an3:Option Addr}{sl1 sl2 sl3:Array (Option Value)}{oc1 kV1 dc1 pm1 cd1 ct1 oc2 kV2 dc2 pm2 cd2 ct2 oc3 kV3 dc3 pm3 cd3 ct3:Value}(X:K.In h)(G:h.Ns mainGlobals mg)
  (e0:W.nsIn K mainGlobals "Shelf"=-(-(.ref C)))
  (e1:W.findIn K (.ref C) "__init__"=-(-(.ref f1)))
  (e2:W.isFn K (.ref f1)=true)
  (e3:K.lookup f1=-⟨oc1,od1,.func (W.fnOf "__init__" "Shelf.__init__" (Zd Qbh) (W1 Qbh) (Vs Qbh) .none kV1 dc1 pm1 an1 cd1 ct1),sl1⟩)
  (e4:W.codeIn K cd1 "Shelf.__init__"=true)
  (e5:W.keepIn K (.ref f1)=true)
  (e6:W.findIn K (.ref C) "add"=-(-(.ref f2)))
  (e7:W.isFn K (.ref f2)=true)
  (e8:K.lookup f2=-⟨oc2,od2,.func (W.fnOf "add" "Shelf.add" (Zd Qho) (W1 Qho) (Vs Qho) .none kV2 dc2 pm2 an2 cd2 ct2),sl2⟩)
  (e9:W.codeIn K cd2 "Shelf.add"=true)
  (e10:W.keepIn K (.ref f2)=true)
  (e11:W.findIn K (.ref C) "near"=-(-(.ref f3)))
  (e12:W.isFn K (.ref f3)=true)
  (e13:K.lookup f3=-⟨oc3,od3,.func (W.fnOf "near" "Shelf.near" (Zd Qbg) (W1 Qbg) (Vs Qbg) .none kV3 dc3 pm3 an3 cd3 ct3),sl3⟩)
  (e14:W.codeIn K cd3 "Shelf.near"=true)
  (e15:W.keepIn K (.ref f3)=true)
  (e16:W.plainGet K C Str.empty=true)
  (e17:W.hasDictIn K C=true)
  (e18:W.plainOver K C=true)
  (e19:W.findIn K (.ref C) "__setattr__"=-(-(.builtin "object.__setattr__")))
  (e20:W.makesIn K C=true)
  (e21:W.keepIn K (.ref C)=true)
  (e22:W.findIn K (.ref C) "there"=-none)
  (e23:W.findIn K (.ref C) "rows"=-none)
  :Nonempty (Cl K mg):=by
 let F1:=OI (st:=Qbh) e3 e4 e5;let F2:=OI (st:=Qho) e8 e9 e10;let F3:=OI (st:=Qbg) e13 e14 e15;show⟨⟨C,⟨W.mg_of X G e0,⟨e16,e17,e18,e19⟩,e22,e23⟩,⟨f1,_,⟨e20,e1,e2,e21⟩,F1,F1.binds (ps:=Qbo) λ_ _ _ _ _ _ a hl=>match a,hl with|[_,_],_=>rfl⟩,⟨f2,_,⟨e6,e7,e10⟩,F2,F2.binds (ps:=Qoy) λ_ _ _ _ _ _ a hl=>match a,hl with|[_,_],_=>rfl⟩,⟨f3,_,⟨e11,e12,e15⟩,F3,F3.binds (ps:=Qds) λ_ _ _ _ _ _ a hl=>match a,hl with|[_,_,_],_=>rfl⟩⟩⟩
def all{P:Program}{w:World}{K:W.Frag}{mg:Str->Option Value}{base:Heap}{f:Addr}{fd:FuncData}(T:Txt K mg)(C:Cl K mg)(F:Fun K "law" "law" Qrg f fd)
  (t1:Fd K mg "is_open" Qmh ["term"])
  (t2:Fd K mg "filled" Qao BO)
  (t3:Fd K mg "marked_atoms" Qaj OV)
  (t4:Fd K mg "matched" BG Qox)
  (t5:Fd K mg "joined" Qam Qdt)
  (t6:Fd K mg "thinned" Qme Qdr)
  (t7:Fd K mg "ways_along" Qfi Ou)
  (t8:Fd K mg "atoms_of" Qfh ["rule"])
  (t9:Fd K mg "is_denied" Qap Qkp)
  (t10:Fd K mg "ways" Qmd Qdq)
  (l1:Fd K mg "_law_cell" Qmj Ya)
  (l2:Fd K mg "_law_mix" Qwg Qbn)
  (l3:Fd K mg "_law_word" Qfa Qn1)
  (l4:Fd K mg "_law_kinds" Qfd ["_law_script"])
  (l5:Fd K mg "_law_words" Qf9 ["_law_script"])
  (l6:Fd K mg "_law_size" Qmg Ya)
  (l7:Fd K mg "_law_some" Qmf BN)
  (l8:Fd K mg "_law_body" Qmk Qdv)
  (l9:Fd K mg "_law_bound" Qfg ["_law_body_here"])
  (l10:Fd K mg "_law_rule" Qfb Oq)
  (l11:Fd K mg "_law_fact" Qmi Qdu)
  (l12:Fd K mg "_law_rules" Qak ["_law_script"])
  (l13:Fd K mg "_law_variables" Uh ["_law_rule_here"])
  (l14:Fd K mg "_law_put" Qwf Qhz)
  (l15:Fd K mg "_law_given" Qff Ot)
  (l16:Fd K mg "_law_facts" Qal ["_law_script"])
  (l17:Fd K mg "_law_holds" Ui Os)
  (l18:Fd K mg "_law_follow" Qan Gy)
  (l19:Fd K mg "_law_dict" Qfc ["_law_facts_here"])
  :FnOk P w K mg base CX0 7 f fd ["_law_script"] (spD K 1 RLaw0):=by
 let t:=Qxc (P:=P) (w:=w) (base:=base) t1;let d:=Qp2 (P:=P) (w:=w) (base:=base) T t2;let u:=Qxe (P:=P) (w:=w) (base:=base) t3;let x:=Qsf T t4 t;let y:=Jbh (P:=P) (w:=w) (base:=base) T C.z C.a;let z:=Qxh T C.z C.i y;let s3:=Qxd T C.z C.n d t;let p5:=Qxg T C.z t5 s3 x;let p6:=Qx9 T t6 d;let p7:=Qsp T t7 p5 p6;let p8:=Qso (P:=P) (w:=w) (base:=base) t8;let p9:=Jbg T t9 d u;let e:=Qx8 T C.z t10 z u p7 p8 p9;let b:=Qxj (P:=P) (w:=w) (base:=base) T l1;let a:=Jbe (P:=P) (w:=w) (base:=base) l2;let v:=Qsg T l3 a;let g:=Qsj T l4 b v;let c:=Qsd T l5 b v a;let h:=Qxb T l6 b a;let i:=Qxa T l7 a;let m8:=Qxk T l8 a c g h i;let m9:=Qsn (P:=P) (w:=w) (base:=base) l9;let j:=Qsh T l10 a c g h i m8 m9;let k:=Qse T l12 b a j;let l:=Qfr (P:=P) (w:=w) (base:=base) l13;let m:=Jbd (P:=P) (w:=w) (base:=base) T l14;let n:=Qsl (P:=P) (w:=w) (base:=base) T l15;let o:=Qxi T l11 a c g h i;let p:=Qsm T l16 b a o;let q:=Qsk l17 m;let r:=Qp1 l18 n l q;let s:=Qsi (P:=P) (w:=w) (base:=base) l19;show Jbf T F k p c e r s
end K07
open PySem PySem.W PyProof.Rows
namespace PySem.W.Fast
theorem tw13891629295270883092:True:=⟨⟩
theorem tw11317826247129098649:True:=⟨⟩
theorem tw2521329473416918833:True:=⟨⟩
theorem tw2732022552542496153:True:=⟨⟩
theorem tw11839565028969964467:True:=⟨⟩
theorem tw14159115269362537886:True:=⟨⟩
theorem tw1773443418898452545:True:=⟨⟩
theorem tw4215050977507831147:True:=⟨⟩
theorem tw2009641907193168553:True:=⟨⟩
theorem tw10983880192266842453:True:=⟨⟩
theorem tw9090104089214757966:True:=⟨⟩
theorem tw11873426591377890373:True:=⟨⟩
theorem tw16949102857752445398:True:=⟨⟩
theorem tw946889845146134579:True:=⟨⟩
theorem tw8039494087205012129:True:=⟨⟩
theorem tw16782911512525981098:True:=⟨⟩
theorem tw5824899140159541663:True:=⟨⟩
theorem tw11644739135739620430:True:=⟨⟩
theorem tw5156978228097037448:True:=⟨⟩
theorem tw570135182799845448:True:=⟨⟩
theorem tw2689455757909285958:True:=⟨⟩
theorem tw14170432424234532466:True:=⟨⟩
theorem tw12247479021089472442:True:=⟨⟩
theorem tw494621800373967530:True:=⟨⟩
theorem tw5135065620655028545:True:=⟨⟩
theorem tw6368257118915140946:True:=⟨⟩
theorem tw12155039521560758285:True:=⟨⟩
theorem tw17791199590847105935:True:=⟨⟩
theorem tw15095287373404955360:True:=⟨⟩
theorem tw15977938249500836891:True:=⟨⟩
theorem tw6379726821854756276:True:=⟨⟩
theorem tw7731564369289198350:True:=⟨⟩
theorem tw10299481469115528945:True:=⟨⟩
theorem tw8542931489150403626:True:=⟨⟩
theorem tw12139149173931590617:True:=⟨⟩
theorem tw4391589347320660656:True:=⟨⟩
theorem tw13150118297990598417:True:=⟨⟩
theorem tw9297728426600747134:True:=⟨⟩
theorem tw15278524352585613159:True:=⟨⟩
theorem tw4927163401844402695:True:=⟨⟩
theorem tw8506941243692439457:True:=⟨⟩
theorem tw16151995992069610661:True:=⟨⟩
theorem tw5976794839475542482:True:=⟨⟩
theorem tw6332737662324641921:True:=⟨⟩
theorem tw16805030772131544141:True:=⟨⟩
theorem tw15598656445525916931:True:=⟨⟩
theorem tw8768910822013804463:True:=⟨⟩
theorem tw4987872648733097729:True:=⟨⟩
theorem tw2422733479246507225:True:=⟨⟩
theorem tw2370515905939883107:True:=⟨⟩
theorem tw7657076220718245980:True:=⟨⟩
theorem tw8884888071190728302:True:=⟨⟩
theorem tw2874320075547440484:True:=⟨⟩
theorem tw4191418507331424119:True:=⟨⟩
theorem tw4292154367576028625:True:=⟨⟩
theorem tw16363957861913231758:True:=⟨⟩
theorem tw11262132059834170891:True:=⟨⟩
theorem tw15295615291581800080:True:=⟨⟩
theorem tw5195951409735664406:True:=⟨⟩
theorem tw9162955143230653614:True:=⟨⟩
theorem tw14741695305753200159:True:=⟨⟩
theorem tw2288337394467581263:True:=⟨⟩
theorem tw5079396377214890200:True:=⟨⟩
theorem tw4158823266664076171:True:=⟨⟩
theorem tw6196225297751556730:True:=⟨⟩
theorem tw17534890145408885340:True:=⟨⟩
theorem tw18046840389437932712:True:=⟨⟩
theorem tw5325362407127127573:True:=⟨⟩
theorem tw16753370547102960149:True:=⟨⟩
theorem tw16072591881902685871:True:=⟨⟩
theorem tw17894264326485596406:True:=⟨⟩
theorem tw18399565405799695266:True:=⟨⟩
end PySem.W.Fast
set_option maxRecDepth 100000 in
set_option maxHeartbeats 0 in
theorem PySem.Challenge.cw_rulehall_k07_ways_holds : PySem.Challenge.rw_rulehall_k07_ways.Holds := by
 w_on;o_law;k_head;(case hw=>w_witness2)
 k_fill
 refine L2.Qqv (l:=PySem.Challenge.rw_rulehall_k07_ways) (n:=63) (k:=7) (x:= "_law_script") (CX:=L2.CX0) (sp:=λK=>L2.spD K 1 L2.RLaw0) rfl (by decide) rfl ⟨rfl,by decide,by decide⟩ (λw h Y=>W.kIn_of Y) ?F (λK H a ns hl _ hS=>L2.Je6 H a ns hl hS) (λ_ _ _ _ z=>z)
 case F =>
  intro w mg fa h KX G hmg;have t1:L2.Fd (L2.KOf KX) mg "is_open" K07.Qmh ["term"]:=by
   dsimp only[L2.KOf]
   refine' L2.Wn KX G ?a ?l ?c ?k ?b
   (case a=>k_is);(case l=>k_is);(case c=>k_is);(case k=>k_is);(case b=>exact λ_ _ _ _ _ _ us hl=>match us,hl with|[_],_=>rfl)
  have t2:L2.Fd (L2.KOf KX) mg "filled" K07.Qao K07.BO:=by
   dsimp only[L2.KOf]
   refine' L2.Wn KX G ?a ?l ?c ?k ?b
   (case a=>k_is);(case l=>k_is);(case c=>k_is);(case k=>k_is);(case b=>exact λ_ _ _ _ _ _ us hl=>match us,hl with|[_,_],_=>rfl)
  have t3:L2.Fd (L2.KOf KX) mg "marked_atoms" K07.Qaj K07.OV:=by
   dsimp only[L2.KOf]
   refine' L2.Wn KX G ?a ?l ?c ?k ?b
   (case a=>k_is);(case l=>k_is);(case c=>k_is);(case k=>k_is);(case b=>exact λ_ _ _ _ _ _ us hl=>match us,hl with|[_,_],_=>rfl)
  have t4:L2.Fd (L2.KOf KX) mg "matched" K07.BG K07.Qox:=by
   dsimp only[L2.KOf]
   refine' L2.Wn KX G ?a ?l ?c ?k ?b
   (case a=>k_is);(case l=>k_is);(case c=>k_is);(case k=>k_is);(case b=>exact λ_ _ _ _ _ _ us hl=>match us,hl with|[_,_,_],_=>rfl)
  have t5:L2.Fd (L2.KOf KX) mg "joined" K07.Qam K07.Qdt:=by
   dsimp only[L2.KOf]
   refine' L2.Wn KX G ?a ?l ?c ?k ?b
   (case a=>k_is);(case l=>k_is);(case c=>k_is);(case k=>k_is);(case b=>exact λ_ _ _ _ _ _ us hl=>match us,hl with|[_,_,_],_=>rfl)
  have t6:L2.Fd (L2.KOf KX) mg "thinned" K07.Qme K07.Qdr:=by
   dsimp only[L2.KOf]
   refine' L2.Wn KX G ?a ?l ?c ?k ?b
   (case a=>k_is);(case l=>k_is);(case c=>k_is);(case k=>k_is);(case b=>exact λ_ _ _ _ _ _ us hl=>match us,hl with|[_,_],_=>rfl)
  have t7:L2.Fd (L2.KOf KX) mg "ways_along" K07.Qfi K07.Ou:=by
   dsimp only[L2.KOf]
   refine' L2.Wn KX G ?a ?l ?c ?k ?b
   (case a=>k_is);(case l=>k_is);(case c=>k_is);(case k=>k_is);(case b=>exact λ_ _ _ _ _ _ us hl=>match us,hl with|[_,_],_=>rfl)
  have t8:L2.Fd (L2.KOf KX) mg "atoms_of" K07.Qfh ["rule"]:=by
   dsimp only[L2.KOf]
   refine' L2.Wn KX G ?a ?l ?c ?k ?b
   (case a=>k_is);(case l=>k_is);(case c=>k_is);(case k=>k_is);(case b=>exact λ_ _ _ _ _ _ us hl=>match us,hl with|[_],_=>rfl)
  have t9:L2.Fd (L2.KOf KX) mg "is_denied" K07.Qap K07.Qkp:=by
   dsimp only[L2.KOf]
   refine' L2.Wn KX G ?a ?l ?c ?k ?b
   (case a=>k_is);(case l=>k_is);(case c=>k_is);(case k=>k_is);(case b=>exact λ_ _ _ _ _ _ us hl=>match us,hl with|[_,_,_],_=>rfl)
  have t10:L2.Fd (L2.KOf KX) mg "ways" K07.Qmd K07.Qdq:=by
   dsimp only[L2.KOf]
   refine' L2.Wn KX G ?a ?l ?c ?k ?b
   (case a=>k_is);(case l=>k_is);(case c=>k_is);(case k=>k_is);(case b=>exact λ_ _ _ _ _ _ us hl=>match us,hl with|[_,_],_=>rfl)
  have l1:L2.Fd (L2.KOf KX) mg "_law_cell" K07.Qmj K07.Ya:=by
   dsimp only[L2.KOf]
   refine' L2.Wn KX G ?a ?l ?c ?k ?b
   (case a=>k_is);(case l=>k_is);(case c=>k_is);(case k=>k_is);(case b=>exact λ_ _ _ _ _ _ us hl=>match us,hl with|[_,_],_=>rfl)
  have l2:L2.Fd (L2.KOf KX) mg "_law_mix" K07.Qwg K07.Qbn:=by
   dsimp only[L2.KOf]
   refine' L2.Wn KX G ?a ?l ?c ?k ?b
   (case a=>k_is);(case l=>k_is);(case c=>k_is);(case k=>k_is);(case b=>exact λ_ _ _ _ _ _ us hl=>match us,hl with|[_,_,_],_=>rfl)
  have l3:L2.Fd (L2.KOf KX) mg "_law_word" K07.Qfa K07.Qn1:=by
   dsimp only[L2.KOf]
   refine' L2.Wn KX G ?a ?l ?c ?k ?b
   (case a=>k_is);(case l=>k_is);(case c=>k_is);(case k=>k_is);(case b=>exact λ_ _ _ _ _ _ us hl=>match us,hl with|[_,_,_],_=>rfl)
  have l4:L2.Fd (L2.KOf KX) mg "_law_kinds" K07.Qfd ["_law_script"]:=by
   dsimp only[L2.KOf]
   refine' L2.Wn KX G ?a ?l ?c ?k ?b
   (case a=>k_is);(case l=>k_is);(case c=>k_is);(case k=>k_is);(case b=>exact λ_ _ _ _ _ _ us hl=>match us,hl with|[_],_=>rfl)
  have l5:L2.Fd (L2.KOf KX) mg "_law_words" K07.Qf9 ["_law_script"]:=by
   dsimp only[L2.KOf]
   refine' L2.Wn KX G ?a ?l ?c ?k ?b
   (case a=>k_is);(case l=>k_is);(case c=>k_is);(case k=>k_is);(case b=>exact λ_ _ _ _ _ _ us hl=>match us,hl with|[_],_=>rfl)
  have l6:L2.Fd (L2.KOf KX) mg "_law_size" K07.Qmg K07.Ya:=by
   dsimp only[L2.KOf]
   refine' L2.Wn KX G ?a ?l ?c ?k ?b
   (case a=>k_is);(case l=>k_is);(case c=>k_is);(case k=>k_is);(case b=>exact λ_ _ _ _ _ _ us hl=>match us,hl with|[_,_],_=>rfl)
  have l7:L2.Fd (L2.KOf KX) mg "_law_some" K07.Qmf K07.BN:=by
   dsimp only[L2.KOf]
   refine' L2.Wn KX G ?a ?l ?c ?k ?b
   (case a=>k_is);(case l=>k_is);(case c=>k_is);(case k=>k_is);(case b=>exact λ_ _ _ _ _ _ us hl=>match us,hl with|[_,_],_=>rfl)
  have l8:L2.Fd (L2.KOf KX) mg "_law_body" K07.Qmk K07.Qdv:=by
   dsimp only[L2.KOf]
   refine' L2.Wn KX G ?a ?l ?c ?k ?b
   (case a=>k_is);(case l=>k_is);(case c=>k_is);(case k=>k_is);(case b=>exact λ_ _ _ _ _ _ us hl=>match us,hl with|[_,_,_,_],_=>rfl)
  have l9:L2.Fd (L2.KOf KX) mg "_law_bound" K07.Qfg ["_law_body_here"]:=by
   dsimp only[L2.KOf]
   refine' L2.Wn KX G ?a ?l ?c ?k ?b
   (case a=>k_is);(case l=>k_is);(case c=>k_is);(case k=>k_is);(case b=>exact λ_ _ _ _ _ _ us hl=>match us,hl with|[_],_=>rfl)
  have l10:L2.Fd (L2.KOf KX) mg "_law_rule" K07.Qfb K07.Oq:=by
   dsimp only[L2.KOf]
   refine' L2.Wn KX G ?a ?l ?c ?k ?b
   (case a=>k_is);(case l=>k_is);(case c=>k_is);(case k=>k_is);(case b=>exact λ_ _ _ _ _ _ us hl=>match us,hl with|[_,_,_],_=>rfl)
  have l11:L2.Fd (L2.KOf KX) mg "_law_fact" K07.Qmi K07.Qdu:=by
   dsimp only[L2.KOf]
   refine' L2.Wn KX G ?a ?l ?c ?k ?b
   (case a=>k_is);(case l=>k_is);(case c=>k_is);(case k=>k_is);(case b=>exact λ_ _ _ _ _ _ us hl=>match us,hl with|[_,_],_=>rfl)
  have l12:L2.Fd (L2.KOf KX) mg "_law_rules" K07.Qak ["_law_script"]:=by
   dsimp only[L2.KOf]
   refine' L2.Wn KX G ?a ?l ?c ?k ?b
   (case a=>k_is);(case l=>k_is);(case c=>k_is);(case k=>k_is);(case b=>exact λ_ _ _ _ _ _ us hl=>match us,hl with|[_],_=>rfl)
  have l13:L2.Fd (L2.KOf KX) mg "_law_variables" K07.Uh ["_law_rule_here"]:=by
   dsimp only[L2.KOf]
   refine' L2.Wn KX G ?a ?l ?c ?k ?b
   (case a=>k_is);(case l=>k_is);(case c=>k_is);(case k=>k_is);(case b=>exact λ_ _ _ _ _ _ us hl=>match us,hl with|[_],_=>rfl)
  have l14:L2.Fd (L2.KOf KX) mg "_law_put" K07.Qwf K07.Qhz:=by
   dsimp only[L2.KOf]
   refine' L2.Wn KX G ?a ?l ?c ?k ?b
   (case a=>k_is);(case l=>k_is);(case c=>k_is);(case k=>k_is);(case b=>exact λ_ _ _ _ _ _ us hl=>match us,hl with|[_,_],_=>rfl)
  have l15:L2.Fd (L2.KOf KX) mg "_law_given" K07.Qff K07.Ot:=by
   dsimp only[L2.KOf]
   refine' L2.Wn KX G ?a ?l ?c ?k ?b
   (case a=>k_is);(case l=>k_is);(case c=>k_is);(case k=>k_is);(case b=>exact λ_ _ _ _ _ _ us hl=>match us,hl with|[_,_],_=>rfl)
  have l16:L2.Fd (L2.KOf KX) mg "_law_facts" K07.Qal ["_law_script"]:=by
   dsimp only[L2.KOf]
   refine' L2.Wn KX G ?a ?l ?c ?k ?b
   (case a=>k_is);(case l=>k_is);(case c=>k_is);(case k=>k_is);(case b=>exact λ_ _ _ _ _ _ us hl=>match us,hl with|[_],_=>rfl)
  have l17:L2.Fd (L2.KOf KX) mg "_law_holds" K07.Ui K07.Os:=by
   dsimp only[L2.KOf]
   refine' L2.Wn KX G ?a ?l ?c ?k ?b
   (case a=>k_is);(case l=>k_is);(case c=>k_is);(case k=>k_is);(case b=>exact λ_ _ _ _ _ _ us hl=>match us,hl with|[_,_,_],_=>rfl)
  have l18:L2.Fd (L2.KOf KX) mg "_law_follow" K07.Qan K07.Gy:=by
   dsimp only[L2.KOf]
   refine' L2.Wn KX G ?a ?l ?c ?k ?b
   (case a=>k_is);(case l=>k_is);(case c=>k_is);(case k=>k_is);(case b=>exact λ_ _ _ _ _ _ us hl=>match us,hl with|[_,_,_],_=>rfl)
  have l19:L2.Fd (L2.KOf KX) mg "_law_dict" K07.Qfc ["_law_facts_here"]:=by
   dsimp only[L2.KOf]
   refine' L2.Wn KX G ?a ?l ?c ?k ?b
   (case a=>k_is);(case l=>k_is);(case c=>k_is);(case k=>k_is);(case b=>exact λ_ _ _ _ _ _ us hl=>match us,hl with|[_],_=>rfl)
  have b1:mg "isinstance"=none:=by(refine' W.mg_none_of KX G ?a);(case a=>k_is)
  have b2:mg "str"=none:=by(refine' W.mg_none_of KX G ?a);(case a=>k_is)
  have b3:mg "tuple"=none:=by(refine' W.mg_none_of KX G ?a);(case a=>k_is)
  have b4:mg "len"=none:=by(refine' W.mg_none_of KX G ?a);(case a=>k_is)
  have b5:mg "int"=none:=by(refine' W.mg_none_of KX G ?a);(case a=>k_is)
  have b6:mg "range"=none:=by(refine' W.mg_none_of KX G ?a);(case a=>k_is)
  have b7:mg "bool"=none:=by(refine' W.mg_none_of KX G ?a);(case a=>k_is)
  have b8:mg "set"=none:=by(refine' W.mg_none_of KX G ?a);(case a=>k_is)
  have b9:mg "sorted"=none:=by(refine' W.mg_none_of KX G ?a);(case a=>k_is)
  have b10:mg "dict"=none:=by(refine' W.mg_none_of KX G ?a);(case a=>k_is)
  have b11:mg "enumerate"=none:=by(refine' W.mg_none_of KX G ?a);(case a=>k_is)
  have b12:mg "list"=none:=by(refine' W.mg_none_of KX G ?a);(case a=>k_is)
  have b13:mg "zip"=none:=by(refine' W.mg_none_of KX G ?a);(case a=>k_is)
  have b14:mg "any"=none:=by(refine' W.mg_none_of KX G ?a);(case a=>k_is)
  have b15:mg "all"=none:=by(refine' W.mg_none_of KX G ?a);(case a=>k_is)
  have b16:mg "min"=none:=by(refine' W.mg_none_of KX G ?a);(case a=>k_is)
  have b17:mg "reversed"=none:=by(refine' W.mg_none_of KX G ?a);(case a=>k_is)
  have T:K07.Txt (L2.KOf KX) mg:=⟨b1,b2,b3,b4,b5,b6,b7,b8,b9,b10,b11,b12,b13,b14,b15,b16,b17⟩;have CC:Nonempty (K07.Cl (L2.KOf KX) mg):=by
   dsimp only[L2.KOf]
   refine' K07.Jep KX G ?e0 ?e1 ?e2 ?e3 ?e4 ?e5 ?e6 ?e7 ?e8 ?e9 ?e10 ?e11 ?e12 ?e13 ?e14 ?e15 ?e16 ?e17 ?e18 ?e19 ?e20 ?e21 ?e22 ?e23
   (case e0=>first|k_is|kernel_rfl)
   (case e1=>first|k_is|kernel_rfl)
   (case e2=>first|k_is|kernel_rfl)
   (case e3=>first|k_is|kernel_rfl)
   (case e4=>first|k_is|kernel_rfl)
   (case e5=>first|k_is|kernel_rfl)
   (case e6=>first|k_is|kernel_rfl)
   (case e7=>first|k_is|kernel_rfl)
   (case e8=>first|k_is|kernel_rfl)
   (case e9=>first|k_is|kernel_rfl)
   (case e10=>first|k_is|kernel_rfl)
   (case e11=>first|k_is|kernel_rfl)
   (case e12=>first|k_is|kernel_rfl)
   (case e13=>first|k_is|kernel_rfl)
   (case e14=>first|k_is|kernel_rfl)
   (case e15=>first|k_is|kernel_rfl)
   (case e16=>first|k_is|kernel_rfl)
   (case e17=>first|k_is|kernel_rfl)
   (case e18=>first|k_is|kernel_rfl)
   (case e19=>first|k_is|kernel_rfl)
   (case e20=>first|k_is|kernel_rfl)
   (case e21=>first|k_is|kernel_rfl)
   (case e22=>first|k_is|kernel_rfl)
   (case e23=>first|k_is|kernel_rfl)
  obtain⟨C⟩:=CC
  refine' L2.Je7 (st:=K07.Qrg) KX G hmg ?a ?l ?b ?F
  (case a=>k_is);(case l=>k_is);(case b=>exact λs u=>.of_eq rfl)
  (case F =>
   intro base
   refine' K07.all T C (L2.OI (st:=K07.Qrg) ?l ?c ?k) t1 t2 t3 t4 t5 t6 t7 t8 t9 t10 l1 l2 l3 l4 l5 l6 l7 l8 l9 l10 l11 l12 l13 l14 l15 l16 l17 l18 l19
   (case l=>k_is);(case c=>k_is);(case k=>k_is))
